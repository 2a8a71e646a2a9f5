/- The document's Encode, where it answers ErrArg. (Written by gen_renc.py.) -/
import Derived.Test.YtgjingleolhkbaaGreatDoorTAp
import Derived.Test.YtgjingleolhkbaaGreatDoorTAy
namespace Go.Proofs.YtgjingleolhkbaaGreatDoor.J
set_option maxRecDepth 100000
open Go.RowKit
set_option linter.unusedVariables false

set_option maxRecDepth 100000 in
set_option maxHeartbeats 16000000 in
theorem rbad_0 (op a b n : Int) (HF : Hid (I.form op = 0)) (w : World) :
  Calls Tryz.prog 59 #[insV op a b n] w fun e w' => e = .returned (.tuple #[.string (strOfNums []), .int .i64 1]) ∧ Below w.heap.size w w' := by
 have pA : I.hasA 0 = false := by decide
 have pB : I.hasB 0 = false := by decide
 have pN : I.numB 0 = 0 := by decide
 go_enter Tryz.func59, Tryz.ntmps59
 go_wp2_with (first | (go_at_call 66; refine (form_any _ _).mono ?_; rintro e w' ⟨rfl, rfl⟩; rw [HF.out]) | (go_at_call 65; refine (parts_any _ ?_ ?_ _).mono ?_; omega; omega; rintro e w' ⟨rfl, rfl⟩; rw [pA, pB, pN]))
 go_ret2
 exact ⟨rfl, bl1 _ _⟩

set_option maxRecDepth 100000 in
set_option maxHeartbeats 16000000 in
theorem rbad_1 (op a b n : Int) (HF : Hid (I.form op = 1)) (h : (a < 0) ∨ (0 ≤ a ∧ 7 < a) ∨ (0 ≤ a ∧ a ≤ 7 ∧ b < 0) ∨ (0 ≤ a ∧ a ≤ 7 ∧ 0 ≤ b ∧ 7 < b) ∨ (0 ≤ a ∧ a ≤ 7 ∧ 0 ≤ b ∧ b ≤ 7 ∧ (b != 0) = true)) (w : World) :
  Calls Tryz.prog 59 #[insV op a b n] w fun e w' => e = .returned (.tuple #[.string (strOfNums []), .int .i64 1]) ∧ Below w.heap.size w w' := by
 have pA : I.hasA 1 = true := by decide
 have pB : I.hasB 1 = false := by decide
 have pN : I.numB 1 = 8 := by decide
 rcases h with h1 | ⟨h1, h2⟩ | ⟨h1, h2, h3⟩ | ⟨h1, h2, h3, h4⟩ | ⟨h1, h2, h3, h4, h6⟩
 all_goals
  go_enter Tryz.func59, Tryz.ntmps59
  go_wp2_with (first | (go_at_call 66; refine (form_any _ _).mono ?_; rintro e w' ⟨rfl, rfl⟩; rw [HF.out]) | (go_at_call 65; refine (parts_any _ ?_ ?_ _).mono ?_; omega; omega; rintro e w' ⟨rfl, rfl⟩; rw [pA, pB, pN]))
  go_ret2
  exact ⟨rfl, bl1 _ _⟩

set_option maxRecDepth 100000 in
set_option maxHeartbeats 16000000 in
theorem rbad_2 (op a b n : Int) (HF : Hid (I.form op = 2)) (h : (a < 0) ∨ (0 ≤ a ∧ 7 < a) ∨ (0 ≤ a ∧ a ≤ 7 ∧ b < 0) ∨ (0 ≤ a ∧ a ≤ 7 ∧ 0 ≤ b ∧ 7 < b) ∨ (0 ≤ a ∧ a ≤ 7 ∧ 0 ≤ b ∧ b ≤ 7 ∧ (n != 0) = true)) (w : World) :
  Calls Tryz.prog 59 #[insV op a b n] w fun e w' => e = .returned (.tuple #[.string (strOfNums []), .int .i64 1]) ∧ Below w.heap.size w w' := by
 have pA : I.hasA 2 = true := by decide
 have pB : I.hasB 2 = true := by decide
 have pN : I.numB 2 = 0 := by decide
 rcases h with h1 | ⟨h1, h2⟩ | ⟨h1, h2, h3⟩ | ⟨h1, h2, h3, h4⟩ | ⟨h1, h2, h3, h4, h7⟩
 all_goals
  go_enter Tryz.func59, Tryz.ntmps59
  go_wp2_with (first | (go_at_call 66; refine (form_any _ _).mono ?_; rintro e w' ⟨rfl, rfl⟩; rw [HF.out]) | (go_at_call 65; refine (parts_any _ ?_ ?_ _).mono ?_; omega; omega; rintro e w' ⟨rfl, rfl⟩; rw [pA, pB, pN]))
  go_ret2
  exact ⟨rfl, bl1 _ _⟩

set_option maxRecDepth 100000 in
set_option maxHeartbeats 16000000 in
theorem rbad_3 (op a b n : Int) (HF : Hid (I.form op = 3)) (h : (a < 0) ∨ (0 ≤ a ∧ 7 < a) ∨ (0 ≤ a ∧ a ≤ 7 ∧ b < 0) ∨ (0 ≤ a ∧ a ≤ 7 ∧ 0 ≤ b ∧ 7 < b)) (w : World) :
  Calls Tryz.prog 59 #[insV op a b n] w fun e w' => e = .returned (.tuple #[.string (strOfNums []), .int .i64 1]) ∧ Below w.heap.size w w' := by
 have pA : I.hasA 3 = true := by decide
 have pB : I.hasB 3 = true := by decide
 have pN : I.numB 3 = 4 := by decide
 rcases h with h1 | ⟨h1, h2⟩ | ⟨h1, h2, h3⟩ | ⟨h1, h2, h3, h4⟩
 all_goals
  go_enter Tryz.func59, Tryz.ntmps59
  go_wp2_with (first | (go_at_call 66; refine (form_any _ _).mono ?_; rintro e w' ⟨rfl, rfl⟩; rw [HF.out]) | (go_at_call 65; refine (parts_any _ ?_ ?_ _).mono ?_; omega; omega; rintro e w' ⟨rfl, rfl⟩; rw [pA, pB, pN]))
  go_ret2
  exact ⟨rfl, bl1 _ _⟩

set_option maxRecDepth 100000 in
set_option maxHeartbeats 16000000 in
theorem rbad_4 (op a b n : Int) (HF : Hid (I.form op = 4)) (h : (a < 0) ∨ (0 ≤ a ∧ 7 < a) ∨ (0 ≤ a ∧ a ≤ 7 ∧ b < 0) ∨ (0 ≤ a ∧ a ≤ 7 ∧ 0 ≤ b ∧ 7 < b) ∨ (0 ≤ a ∧ a ≤ 7 ∧ 0 ≤ b ∧ b ≤ 7 ∧ (b != 0) = true)) (w : World) :
  Calls Tryz.prog 59 #[insV op a b n] w fun e w' => e = .returned (.tuple #[.string (strOfNums []), .int .i64 1]) ∧ Below w.heap.size w w' := by
 have pA : I.hasA 4 = true := by decide
 have pB : I.hasB 4 = false := by decide
 have pN : I.numB 4 = 4 := by decide
 rcases h with h1 | ⟨h1, h2⟩ | ⟨h1, h2, h3⟩ | ⟨h1, h2, h3, h4⟩ | ⟨h1, h2, h3, h4, h6⟩
 all_goals
  go_enter Tryz.func59, Tryz.ntmps59
  go_wp2_with (first | (go_at_call 66; refine (form_any _ _).mono ?_; rintro e w' ⟨rfl, rfl⟩; rw [HF.out]) | (go_at_call 65; refine (parts_any _ ?_ ?_ _).mono ?_; omega; omega; rintro e w' ⟨rfl, rfl⟩; rw [pA, pB, pN]))
  go_ret2
  exact ⟨rfl, bl1 _ _⟩

set_option maxRecDepth 100000 in
set_option maxHeartbeats 16000000 in
theorem rbad_5 (op a b n : Int) (HF : Hid (I.form op = 5)) (h : (a < 0) ∨ (0 ≤ a ∧ 7 < a) ∨ (0 ≤ a ∧ a ≤ 7 ∧ b < 0) ∨ (0 ≤ a ∧ a ≤ 7 ∧ 0 ≤ b ∧ 7 < b) ∨ (0 ≤ a ∧ a ≤ 7 ∧ 0 ≤ b ∧ b ≤ 7 ∧ (a != 0) = true) ∨ (0 ≤ a ∧ a ≤ 7 ∧ 0 ≤ b ∧ b ≤ 7 ∧ (a != 0) = false ∧ (b != 0) = true)) (w : World) :
  Calls Tryz.prog 59 #[insV op a b n] w fun e w' => e = .returned (.tuple #[.string (strOfNums []), .int .i64 1]) ∧ Below w.heap.size w w' := by
 have pA : I.hasA 5 = false := by decide
 have pB : I.hasB 5 = false := by decide
 have pN : I.numB 5 = 4 := by decide
 rcases h with h1 | ⟨h1, h2⟩ | ⟨h1, h2, h3⟩ | ⟨h1, h2, h3, h4⟩ | ⟨h1, h2, h3, h4, h5⟩ | ⟨h1, h2, h3, h4, h5, h6⟩
 all_goals
  go_enter Tryz.func59, Tryz.ntmps59
  go_wp2_with (first | (go_at_call 66; refine (form_any _ _).mono ?_; rintro e w' ⟨rfl, rfl⟩; rw [HF.out]) | (go_at_call 65; refine (parts_any _ ?_ ?_ _).mono ?_; omega; omega; rintro e w' ⟨rfl, rfl⟩; rw [pA, pB, pN]))
  go_ret2
  exact ⟨rfl, bl1 _ _⟩

set_option maxRecDepth 100000 in
set_option maxHeartbeats 16000000 in
theorem rbad_6 (op a b n : Int) (HF : Hid (I.form op = 6)) (h : (a < 0) ∨ (0 ≤ a ∧ 7 < a) ∨ (0 ≤ a ∧ a ≤ 7 ∧ b < 0) ∨ (0 ≤ a ∧ a ≤ 7 ∧ 0 ≤ b ∧ 7 < b) ∨ (0 ≤ a ∧ a ≤ 7 ∧ 0 ≤ b ∧ b ≤ 7 ∧ (a != 0) = true) ∨ (0 ≤ a ∧ a ≤ 7 ∧ 0 ≤ b ∧ b ≤ 7 ∧ (a != 0) = false ∧ (b != 0) = true) ∨ (0 ≤ a ∧ a ≤ 7 ∧ 0 ≤ b ∧ b ≤ 7 ∧ (a != 0) = false ∧ (b != 0) = false ∧ (n != 0) = true)) (w : World) :
  Calls Tryz.prog 59 #[insV op a b n] w fun e w' => e = .returned (.tuple #[.string (strOfNums []), .int .i64 1]) ∧ Below w.heap.size w w' := by
 have pA : I.hasA 6 = false := by decide
 have pB : I.hasB 6 = false := by decide
 have pN : I.numB 6 = 0 := by decide
 rcases h with h1 | ⟨h1, h2⟩ | ⟨h1, h2, h3⟩ | ⟨h1, h2, h3, h4⟩ | ⟨h1, h2, h3, h4, h5⟩ | ⟨h1, h2, h3, h4, h5, h6⟩ | ⟨h1, h2, h3, h4, h5, h6, h7⟩
 all_goals
  go_enter Tryz.func59, Tryz.ntmps59
  go_wp2_with (first | (go_at_call 66; refine (form_any _ _).mono ?_; rintro e w' ⟨rfl, rfl⟩; rw [HF.out]) | (go_at_call 65; refine (parts_any _ ?_ ?_ _).mono ?_; omega; omega; rintro e w' ⟨rfl, rfl⟩; rw [pA, pB, pN]))
  go_ret2
  exact ⟨rfl, bl1 _ _⟩

set_option maxRecDepth 100000 in
set_option maxHeartbeats 16000000 in
theorem rbad_7 (op a b n : Int) (HF : Hid (I.form op = 7)) (h : (a < 0) ∨ (0 ≤ a ∧ 7 < a) ∨ (0 ≤ a ∧ a ≤ 7 ∧ b < 0) ∨ (0 ≤ a ∧ a ≤ 7 ∧ 0 ≤ b ∧ 7 < b) ∨ (0 ≤ a ∧ a ≤ 7 ∧ 0 ≤ b ∧ b ≤ 7 ∧ (a != 0) = true) ∨ (0 ≤ a ∧ a ≤ 7 ∧ 0 ≤ b ∧ b ≤ 7 ∧ (a != 0) = false ∧ (b != 0) = true)) (w : World) :
  Calls Tryz.prog 59 #[insV op a b n] w fun e w' => e = .returned (.tuple #[.string (strOfNums []), .int .i64 1]) ∧ Below w.heap.size w w' := by
 have pA : I.hasA 7 = false := by decide
 have pB : I.hasB 7 = false := by decide
 have pN : I.numB 7 = 1 := by decide
 rcases h with h1 | ⟨h1, h2⟩ | ⟨h1, h2, h3⟩ | ⟨h1, h2, h3, h4⟩ | ⟨h1, h2, h3, h4, h5⟩ | ⟨h1, h2, h3, h4, h5, h6⟩
 all_goals
  go_enter Tryz.func59, Tryz.ntmps59
  go_wp2_with (first | (go_at_call 66; refine (form_any _ _).mono ?_; rintro e w' ⟨rfl, rfl⟩; rw [HF.out]) | (go_at_call 65; refine (parts_any _ ?_ ?_ _).mono ?_; omega; omega; rintro e w' ⟨rfl, rfl⟩; rw [pA, pB, pN]))
  go_ret2
  exact ⟨rfl, bl1 _ _⟩

set_option maxRecDepth 100000 in
set_option maxHeartbeats 16000000 in
theorem rbad_8 (op a b n : Int) (HF : Hid (I.form op = 8)) (h : (a < 0) ∨ (0 ≤ a ∧ 7 < a) ∨ (0 ≤ a ∧ a ≤ 7 ∧ b < 0) ∨ (0 ≤ a ∧ a ≤ 7 ∧ 0 ≤ b ∧ 7 < b) ∨ (0 ≤ a ∧ a ≤ 7 ∧ 0 ≤ b ∧ b ≤ 7 ∧ (b != 0) = true)) (w : World) :
  Calls Tryz.prog 59 #[insV op a b n] w fun e w' => e = .returned (.tuple #[.string (strOfNums []), .int .i64 1]) ∧ Below w.heap.size w w' := by
 have pA : I.hasA 8 = true := by decide
 have pB : I.hasB 8 = false := by decide
 have pN : I.numB 8 = 1 := by decide
 rcases h with h1 | ⟨h1, h2⟩ | ⟨h1, h2, h3⟩ | ⟨h1, h2, h3, h4⟩ | ⟨h1, h2, h3, h4, h6⟩
 all_goals
  go_enter Tryz.func59, Tryz.ntmps59
  go_wp2_with (first | (go_at_call 66; refine (form_any _ _).mono ?_; rintro e w' ⟨rfl, rfl⟩; rw [HF.out]) | (go_at_call 65; refine (parts_any _ ?_ ?_ _).mono ?_; omega; omega; rintro e w' ⟨rfl, rfl⟩; rw [pA, pB, pN]))
  go_ret2
  exact ⟨rfl, bl1 _ _⟩

set_option maxRecDepth 100000 in
set_option maxHeartbeats 16000000 in
theorem rbad_9 (op a b n : Int) (HF : Hid (I.form op = 9)) (h : (a < 0) ∨ (0 ≤ a ∧ 7 < a) ∨ (0 ≤ a ∧ a ≤ 7 ∧ b < 0) ∨ (0 ≤ a ∧ a ≤ 7 ∧ 0 ≤ b ∧ 7 < b) ∨ (0 ≤ a ∧ a ≤ 7 ∧ 0 ≤ b ∧ b ≤ 7 ∧ (b != 0) = true) ∨ (0 ≤ a ∧ a ≤ 7 ∧ 0 ≤ b ∧ b ≤ 7 ∧ (b != 0) = false ∧ (n != 0) = true)) (w : World) :
  Calls Tryz.prog 59 #[insV op a b n] w fun e w' => e = .returned (.tuple #[.string (strOfNums []), .int .i64 1]) ∧ Below w.heap.size w w' := by
 have pA : I.hasA 9 = true := by decide
 have pB : I.hasB 9 = false := by decide
 have pN : I.numB 9 = 0 := by decide
 rcases h with h1 | ⟨h1, h2⟩ | ⟨h1, h2, h3⟩ | ⟨h1, h2, h3, h4⟩ | ⟨h1, h2, h3, h4, h6⟩ | ⟨h1, h2, h3, h4, h6, h7⟩
 all_goals
  go_enter Tryz.func59, Tryz.ntmps59
  go_wp2_with (first | (go_at_call 66; refine (form_any _ _).mono ?_; rintro e w' ⟨rfl, rfl⟩; rw [HF.out]) | (go_at_call 65; refine (parts_any _ ?_ ?_ _).mono ?_; omega; omega; rintro e w' ⟨rfl, rfl⟩; rw [pA, pB, pN]))
  go_ret2
  exact ⟨rfl, bl1 _ _⟩

set_option maxRecDepth 100000 in
set_option maxHeartbeats 16000000 in
theorem rbad_10 (op a b n : Int) (HF : Hid (I.form op = 10)) (h : (a < 0) ∨ (0 ≤ a ∧ 7 < a) ∨ (0 ≤ a ∧ a ≤ 7 ∧ b < 0) ∨ (0 ≤ a ∧ a ≤ 7 ∧ 0 ≤ b ∧ 7 < b) ∨ (0 ≤ a ∧ a ≤ 7 ∧ 0 ≤ b ∧ b ≤ 7 ∧ (a != 0) = true) ∨ (0 ≤ a ∧ a ≤ 7 ∧ 0 ≤ b ∧ b ≤ 7 ∧ (a != 0) = false ∧ (b != 0) = true)) (w : World) :
  Calls Tryz.prog 59 #[insV op a b n] w fun e w' => e = .returned (.tuple #[.string (strOfNums []), .int .i64 1]) ∧ Below w.heap.size w w' := by
 have pA : I.hasA 10 = false := by decide
 have pB : I.hasB 10 = false := by decide
 have pN : I.numB 10 = 1 := by decide
 rcases h with h1 | ⟨h1, h2⟩ | ⟨h1, h2, h3⟩ | ⟨h1, h2, h3, h4⟩ | ⟨h1, h2, h3, h4, h5⟩ | ⟨h1, h2, h3, h4, h5, h6⟩
 all_goals
  go_enter Tryz.func59, Tryz.ntmps59
  go_wp2_with (first | (go_at_call 66; refine (form_any _ _).mono ?_; rintro e w' ⟨rfl, rfl⟩; rw [HF.out]) | (go_at_call 65; refine (parts_any _ ?_ ?_ _).mono ?_; omega; omega; rintro e w' ⟨rfl, rfl⟩; rw [pA, pB, pN]))
  go_ret2
  exact ⟨rfl, bl1 _ _⟩

end Go.Proofs.YtgjingleolhkbaaGreatDoor.J

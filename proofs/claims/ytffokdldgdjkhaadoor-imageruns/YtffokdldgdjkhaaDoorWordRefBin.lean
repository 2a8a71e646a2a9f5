/- What the document's Bin comes to, instruction by instruction. -/
import Derived.Test.YtffokdldgdjkhaaDoorWordBin
import Derived.WalkKit
import Derived.WalkSpells
import Derived.WalkLawsBesides
namespace Go.Proofs.YtffokdldgdjkhaaDoor
open Go.RowKit

set_option maxHeartbeats 400000 in
theorem ref_add (a b : Int)  (w : World) :
    Calls Tryd.prog 57 #[.int .i64 3, .int .i64 a, .int .i64 b] w fun e w' => e = .returned (.tuple #[.int .i64 (wrap64 (a + b)), .int .i64 0]) ∧ w' = w := by
  go_enter Tryd.func57, Tryd.ntmps57
  go_wp2
  go_ret2
  exact ⟨ret2 (by first | rfl | simp) rfl, rfl⟩

set_option maxHeartbeats 400000 in
theorem ref_sub (a b : Int)  (w : World) :
    Calls Tryd.prog 57 #[.int .i64 4, .int .i64 a, .int .i64 b] w fun e w' => e = .returned (.tuple #[.int .i64 (wrap64 (a - b)), .int .i64 0]) ∧ w' = w := by
  go_enter Tryd.func57, Tryd.ntmps57
  go_wp2
  go_ret2
  exact ⟨ret2 (by first | rfl | simp) rfl, rfl⟩

set_option maxHeartbeats 400000 in
theorem ref_mul (a b : Int)  (w : World) :
    Calls Tryd.prog 57 #[.int .i64 5, .int .i64 a, .int .i64 b] w fun e w' => e = .returned (.tuple #[.int .i64 (wrap64 (a * b)), .int .i64 0]) ∧ w' = w := by
  go_enter Tryd.func57, Tryd.ntmps57
  go_wp2
  go_ret2
  exact ⟨ret2 (by first | rfl | simp) rfl, rfl⟩

set_option maxHeartbeats 400000 in
theorem ref_quo0 (a : Int)  (w : World) :
    Calls Tryd.prog 57 #[.int .i64 6, .int .i64 a, .int .i64 0] w fun e w' => e = .returned (.tuple #[.int .i64 (0), .int .i64 10]) ∧ w' = w := by
  go_enter Tryd.func57, Tryd.ntmps57
  go_wp2
  go_ret2
  exact ⟨rfl, rfl⟩

set_option maxHeartbeats 400000 in
theorem ref_rem0 (a : Int)  (w : World) :
    Calls Tryd.prog 57 #[.int .i64 7, .int .i64 a, .int .i64 0] w fun e w' => e = .returned (.tuple #[.int .i64 (0), .int .i64 10]) ∧ w' = w := by
  go_enter Tryd.func57, Tryd.ntmps57
  go_wp2
  go_ret2
  exact ⟨rfl, rfl⟩

set_option maxHeartbeats 400000 in
theorem ref_and (a b : Int)  (w : World) :
    Calls Tryd.prog 57 #[.int .i64 8, .int .i64 a, .int .i64 b] w fun e w' => e = .returned (.tuple #[.int .i64 (bits .and .i64 a b), .int .i64 0]) ∧ w' = w := by
  go_enter Tryd.func57, Tryd.ntmps57
  go_wp2
  go_ret2
  exact ⟨ret2 (by first | rfl | simp) rfl, rfl⟩

set_option maxHeartbeats 400000 in
theorem ref_or (a b : Int)  (w : World) :
    Calls Tryd.prog 57 #[.int .i64 9, .int .i64 a, .int .i64 b] w fun e w' => e = .returned (.tuple #[.int .i64 (bits .or .i64 a b), .int .i64 0]) ∧ w' = w := by
  go_enter Tryd.func57, Tryd.ntmps57
  go_wp2
  go_ret2
  exact ⟨ret2 (by first | rfl | simp) rfl, rfl⟩

set_option maxHeartbeats 400000 in
theorem ref_xor (a b : Int)  (w : World) :
    Calls Tryd.prog 57 #[.int .i64 10, .int .i64 a, .int .i64 b] w fun e w' => e = .returned (.tuple #[.int .i64 (bits .xor .i64 a b), .int .i64 0]) ∧ w' = w := by
  go_enter Tryd.func57, Tryd.ntmps57
  go_wp2
  go_ret2
  exact ⟨ret2 (by first | rfl | simp) rfl, rfl⟩

set_option maxHeartbeats 400000 in
theorem ref_shl (a b : Int)  (w : World) :
    Calls Tryd.prog 57 #[.int .i64 11, .int .i64 a, .int .i64 b] w fun e w' => e = .returned (.tuple #[.int .i64 (wrap64 (a * 2 ^ (b % 64).toNat)), .int .i64 0]) ∧ w' = w := by
  have hc3 : bits .and .u64 0 63 = 0 := W.and63_u 0
  have hc := W.and63_uw b
  have hc2 := W.and63_i b
  have hb0 : 0 ≤ b % 64 := by omega
  have hb2 : b % 64 ≤ 63 := by omega
  go_enter Tryd.func57, Tryd.ntmps57
  go_wp2
  go_ret2
  exact ⟨ret2 (by first | rfl | simp) rfl, rfl⟩

set_option maxHeartbeats 400000 in
theorem ref_sar (a b : Int)  (w : World) :
    Calls Tryd.prog 57 #[.int .i64 12, .int .i64 a, .int .i64 b] w fun e w' => e = .returned (.tuple #[.int .i64 (a / 2 ^ (b % 64).toNat), .int .i64 0]) ∧ w' = w := by
  have hc3 : bits .and .u64 0 63 = 0 := W.and63_u 0
  have hc := W.and63_uw b
  have hc2 := W.and63_i b
  have hb0 : 0 ≤ b % 64 := by omega
  have hb2 : b % 64 ≤ 63 := by omega
  go_enter Tryd.func57, Tryd.ntmps57
  go_wp2
  go_ret2
  exact ⟨ret2 (by first | rfl | simp) rfl, rfl⟩

set_option maxHeartbeats 400000 in
theorem ref_eql (a b : Int)  (w : World) :
    Calls Tryd.prog 57 #[.int .i64 13, .int .i64 a, .int .i64 b] w fun e w' => e = .returned (.tuple #[.int .i64 (W.tr (a == b)), .int .i64 0]) ∧ w' = w := by
  by_cases hb : b = 0
  all_goals
    cases h : (a == b)
  all_goals
    have hb1 := hb
    first | subst hb1 | (have hb3 : (b == 0) = false := by simpa using hb)
    go_enter Tryd.func57, Tryd.ntmps57
    go_wp2
    go_ret2
    exact ⟨ret2 (by simp [W.tr]) rfl, rfl⟩

set_option maxHeartbeats 400000 in
theorem ref_neq (a b : Int)  (w : World) :
    Calls Tryd.prog 57 #[.int .i64 14, .int .i64 a, .int .i64 b] w fun e w' => e = .returned (.tuple #[.int .i64 (W.tr (a != b)), .int .i64 0]) ∧ w' = w := by
  by_cases hb : b = 0
  all_goals
    cases h : (a != b)
  all_goals
    have hb1 := hb
    first | subst hb1 | (have hb3 : (b == 0) = false := by simpa using hb)
    go_enter Tryd.func57, Tryd.ntmps57
    go_wp2
    go_ret2
    exact ⟨ret2 (by simp [W.tr]) rfl, rfl⟩

set_option maxHeartbeats 400000 in
theorem ref_lss (a b : Int)  (w : World) :
    Calls Tryd.prog 57 #[.int .i64 15, .int .i64 a, .int .i64 b] w fun e w' => e = .returned (.tuple #[.int .i64 (W.tr (decide (a < b))), .int .i64 0]) ∧ w' = w := by
  by_cases hb : b = 0
  all_goals
    by_cases h : a < b
  all_goals
    have hb1 := hb
    first | subst hb1 | (have hb3 : (b == 0) = false := by simpa using hb)
    go_enter Tryd.func57, Tryd.ntmps57
    go_wp2
    go_ret2
    exact ⟨ret2 (by simp [W.tr, h]) rfl, rfl⟩

set_option maxHeartbeats 400000 in
theorem ref_leq (a b : Int)  (w : World) :
    Calls Tryd.prog 57 #[.int .i64 16, .int .i64 a, .int .i64 b] w fun e w' => e = .returned (.tuple #[.int .i64 (W.tr (decide (a ≤ b))), .int .i64 0]) ∧ w' = w := by
  by_cases hb : b = 0
  all_goals
    by_cases h : a ≤ b
  all_goals
    have hb1 := hb
    first | subst hb1 | (have hb3 : (b == 0) = false := by simpa using hb)
    go_enter Tryd.func57, Tryd.ntmps57
    go_wp2
    go_ret2
    exact ⟨ret2 (by simp [W.tr, h]) rfl, rfl⟩

set_option maxHeartbeats 400000 in
theorem ref_lo (op a b : Int) (h : op < 3) (w : World) :
    Calls Tryd.prog 57 #[.int .i64 op, .int .i64 a, .int .i64 b] w fun e w' => e = .returned (.tuple #[.int .i64 (0), .int .i64 1]) ∧ w' = w := by
  go_enter Tryd.func57, Tryd.ntmps57
  go_wp2
  go_ret2
  exact ⟨rfl, rfl⟩

set_option maxHeartbeats 400000 in
theorem ref_hi (op a b : Int) (h : 16 < op) (w : World) :
    Calls Tryd.prog 57 #[.int .i64 op, .int .i64 a, .int .i64 b] w fun e w' => e = .returned (.tuple #[.int .i64 (0), .int .i64 1]) ∧ w' = w := by
  go_enter Tryd.func57, Tryd.ntmps57
  go_wp2
  go_ret2
  exact ⟨rfl, rfl⟩

set_option maxHeartbeats 400000 in
theorem ref_quo (a b : Int) (hb : ¬ b = 0) (w : World) :
    Calls Tryd.prog 57 #[.int .i64 6, .int .i64 a, .int .i64 b] w fun e w' => e = .returned (.tuple #[.int .i64 (wrap64 (a.tdiv b)), .int .i64 0]) ∧ w' = w := by
  by_cases hm : b = -1
  · subst hm
    go_enter Tryd.func57, Tryd.ntmps57
    go_wp2
    go_ret2
    exact ⟨ret2 (W.neg_quo a) rfl, rfl⟩
  · have hb1 : (b == 0) = false := by simpa using hb
    have hb2 : (b != -1) = true := by simpa using hm
    go_enter Tryd.func57, Tryd.ntmps57
    go_wp2
    go_ret2
    exact ⟨rfl, rfl⟩

set_option maxHeartbeats 400000 in
theorem ref_rem (a b : Int) (hb : ¬ b = 0) (ha : (Lit.int .i64 a).wf = true) (w : World) :
    Calls Tryd.prog 57 #[.int .i64 7, .int .i64 a, .int .i64 b] w fun e w' => e = .returned (.tuple #[.int .i64 (a.tmod b), .int .i64 0]) ∧ w' = w := by
  have hr := W.rem_of_quo a b ha
  have HR : Hid (wrap64 (a - wrap64 (wrap64 (a.tdiv b) * b)) = a.tmod b) := hr
  clear hr ha
  by_cases hm : b = -1
  · subst hm
    go_enter Tryd.func57, Tryd.ntmps57
    go_wp2
    go_ret2
    exact ⟨ret2 (by rw [← HR.out, ← W.neg_quo, Int.mul_neg, Int.mul_one]) rfl, rfl⟩
  · have hb1 : (b == 0) = false := by simpa using hb
    have hb2 : (b != -1) = true := by simpa using hm
    go_enter Tryd.func57, Tryd.ntmps57
    go_wp2
    go_ret2
    exact ⟨ret2 HR.out rfl, rfl⟩

/-- Whatever the instruction: the document's number, the document's error, nothing touched. -/
theorem ref_any (op a b : Int) (ha : (Lit.int .i64 a).wf = true) (w : World) :
    Calls Tryd.prog 57 #[.int .i64 op, .int .i64 a, .int .i64 b] w fun e w' => e = .returned (.tuple #[.int .i64 (W.bin op a b), .int .i64 (W.binE op b)]) ∧ w' = w := by
  have cases16 : op < 3 ∨ 16 < op ∨ op = 3 ∨ op = 4 ∨ op = 5 ∨ op = 6 ∨ op = 7 ∨ op = 8 ∨ op = 9 ∨ op = 10 ∨ op = 11 ∨ op = 12 ∨ op = 13 ∨ op = 14 ∨ op = 15 ∨ op = 16 := by omega
  rcases cases16 with h | h | rfl | rfl | rfl | rfl | rfl | rfl | rfl | rfl | rfl | rfl | rfl | rfl | rfl | rfl
  · refine (ref_lo op a b h w).mono ?_
    rintro e w' ⟨rfl, rfl⟩
    exact ⟨ret2 (by unfold W.bin; repeat (rw [if_neg (by omega)])) (by unfold W.binE; rw [if_pos (by omega)]), rfl⟩
  · refine (ref_hi op a b h w).mono ?_
    rintro e w' ⟨rfl, rfl⟩
    exact ⟨ret2 (by unfold W.bin; repeat (rw [if_neg (by omega)])) (by unfold W.binE; rw [if_pos (by omega)]), rfl⟩
  · refine (ref_add a b w).mono ?_
    rintro e w' ⟨rfl, rfl⟩
    exact ⟨ret2 (by simp [W.bin]) (by simp [W.binE]), rfl⟩
  · refine (ref_sub a b w).mono ?_
    rintro e w' ⟨rfl, rfl⟩
    exact ⟨ret2 (by simp [W.bin]) (by simp [W.binE]), rfl⟩
  · refine (ref_mul a b w).mono ?_
    rintro e w' ⟨rfl, rfl⟩
    exact ⟨ret2 (by simp [W.bin]) (by simp [W.binE]), rfl⟩
  · by_cases hb : b = 0
    · subst hb
      refine (ref_quo0 a w).mono ?_
      rintro e w' ⟨rfl, rfl⟩
      exact ⟨ret2 (by simp [W.bin]) (by simp [W.binE]), rfl⟩
    · refine (ref_quo a b hb w).mono ?_
      rintro e w' ⟨rfl, rfl⟩
      exact ⟨ret2 (by simp [W.bin, hb]) (by simp [W.binE, hb]), rfl⟩
  · by_cases hb : b = 0
    · subst hb
      refine (ref_rem0 a w).mono ?_
      rintro e w' ⟨rfl, rfl⟩
      exact ⟨ret2 (by simp [W.bin]) (by simp [W.binE]), rfl⟩
    · refine (ref_rem a b hb ha w).mono ?_
      rintro e w' ⟨rfl, rfl⟩
      exact ⟨ret2 (by simp [W.bin, hb]) (by simp [W.binE, hb]), rfl⟩
  · refine (ref_and a b w).mono ?_
    rintro e w' ⟨rfl, rfl⟩
    exact ⟨ret2 (by simp [W.bin]) (by simp [W.binE]), rfl⟩
  · refine (ref_or a b w).mono ?_
    rintro e w' ⟨rfl, rfl⟩
    exact ⟨ret2 (by simp [W.bin]) (by simp [W.binE]), rfl⟩
  · refine (ref_xor a b w).mono ?_
    rintro e w' ⟨rfl, rfl⟩
    exact ⟨ret2 (by simp [W.bin]) (by simp [W.binE]), rfl⟩
  · refine (ref_shl a b w).mono ?_
    rintro e w' ⟨rfl, rfl⟩
    exact ⟨ret2 (by simp [W.bin]) (by simp [W.binE]), rfl⟩
  · refine (ref_sar a b w).mono ?_
    rintro e w' ⟨rfl, rfl⟩
    exact ⟨ret2 (by simp [W.bin]) (by simp [W.binE]), rfl⟩
  · refine (ref_eql a b w).mono ?_
    rintro e w' ⟨rfl, rfl⟩
    exact ⟨ret2 (by simp [W.bin]) (by simp [W.binE]), rfl⟩
  · refine (ref_neq a b w).mono ?_
    rintro e w' ⟨rfl, rfl⟩
    exact ⟨ret2 (by simp [W.bin]) (by simp [W.binE]), rfl⟩
  · refine (ref_lss a b w).mono ?_
    rintro e w' ⟨rfl, rfl⟩
    exact ⟨ret2 (by simp [W.bin]) (by simp [W.binE]), rfl⟩
  · refine (ref_leq a b w).mono ?_
    rintro e w' ⟨rfl, rfl⟩
    exact ⟨ret2 (by simp [W.bin]) (by simp [W.binE]), rfl⟩

end Go.Proofs.YtffokdldgdjkhaaDoor

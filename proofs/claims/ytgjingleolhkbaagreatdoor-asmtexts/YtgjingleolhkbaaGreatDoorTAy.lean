/- The document's forms and sizes of instructions. -/
import Derived.Test.YtgjingleolhkbaaGreatDoorProg
import Derived.Test.YtgjingleolhkbaaGreatDoorTAd
import Derived.WalkKit
import Derived.WalkSpells
import Derived.WalkLawsBesides
namespace Go.Proofs.YtgjingleolhkbaaGreatDoor.J
set_option maxRecDepth 100000
open Go.RowKit
set_option linter.unusedVariables false

theorem ret_inti {k : IntKind} {a b : Int} (h : a = b) : Ending.returned (.int k a) = .returned (.int k b) := by rw [h]

set_option maxHeartbeats 8000000 in
theorem form_any (op : Int) (w : World) :
  Calls Tryz.prog 66 #[.int .i64 op] w fun e w' => e = .returned (.int .i64 (I.form op)) ∧ w' = w := by
 by_cases h : 1 ≤ op ∧ op ≤ 33
 ·rcases I.cases33 op h.1 h.2 with rfl | rfl | rfl | rfl | rfl | rfl | rfl | rfl | rfl | rfl | rfl | rfl | rfl | rfl | rfl | rfl | rfl | rfl | rfl | rfl | rfl | rfl | rfl | rfl | rfl | rfl | rfl | rfl | rfl | rfl | rfl | rfl | rfl
  all_goals
   go_enter Tryz.func66, Tryz.ntmps66
   go_wp2
   go_ret
   exact ⟨rfl, rfl⟩
 ·rw [I.form_none (by omega)]
  have e1 : (op == 1) = false := by simp; omega
  have e17 : (op == 17) = false := by simp; omega
  have e18 : (op == 18) = false := by simp; omega
  have e28 : (op == 28) = false := by simp; omega
  have e29 : (op == 29) = false := by simp; omega
  have e19 : (op == 19) = false := by simp; omega
  have e21 : (op == 21) = false := by simp; omega
  have e22 : (op == 22) = false := by simp; omega
  have e20 : (op == 20) = false := by simp; omega
  have e23 : (op == 23) = false := by simp; omega
  have e24 : (op == 24) = false := by simp; omega
  have e30 : (op == 30) = false := by simp; omega
  have e32 : (op == 32) = false := by simp; omega
  have e25 : (op == 25) = false := by simp; omega
  have e26 : (op == 26) = false := by simp; omega
  have e27 : (op == 27) = false := by simp; omega
  have e31 : (op == 31) = false := by simp; omega
  have e33 : (op == 33) = false := by simp; omega
  rcases (show op < 1 ∨ 33 < op by omega) with h | h
  all_goals
   go_enter Tryz.func66, Tryz.ntmps66
   go_wp2
   go_ret
   exact ⟨rfl, rfl⟩

set_option maxHeartbeats 8000000 in
theorem parts_any (f : Int) (h0 : 0 ≤ f) (h1 : f ≤ 10) (w : World) :
  Calls Tryz.prog 65 #[.int .i64 f] w fun e w' => e = .returned (.tuple #[.bool (I.hasA f), .bool (I.hasB f), .int .i64 (I.numB f)]) ∧ w' = w := by
 rcases (show f = 0 ∨ f = 1 ∨ f = 2 ∨ f = 3 ∨ f = 4 ∨ f = 5 ∨ f = 6 ∨ f = 7 ∨ f = 8 ∨ f = 9 ∨ f = 10 by omega) with rfl | rfl | rfl | rfl | rfl | rfl | rfl | rfl | rfl | rfl | rfl
 all_goals
  go_enter Tryz.func65, Tryz.ntmps65
  go_wp2
  go_ret3
  exact ⟨rfl, rfl⟩

set_option maxHeartbeats 8000000 in
theorem rsize_any (op : Int) (w : World) :
  Calls Tryz.prog 64 #[.int .i64 op] w fun e w' => e = .returned (.int .i64 (I.size op)) ∧ w' = w := by
 have hr := I.form_range op
 unfold I.size
 obtain ⟨f, hf⟩ : ∃ f, I.form op = f := ⟨_, rfl⟩
 rw [hf] at hr
 rw [hf]
 rcases (show f = 0 ∨ f = 1 ∨ f = 2 ∨ f = 3 ∨ f = 4 ∨ f = 5 ∨ f = 6 ∨ f = 7 ∨ f = 8 ∨ f = 9 ∨ f = 10 by omega) with rfl | rfl | rfl | rfl | rfl | rfl | rfl | rfl | rfl | rfl | rfl
 all_goals
  clear hr
  have HF : Hid _ := hf
  clear hf
  go_enter Tryz.func64, Tryz.ntmps64
  go_wp2_with (first | (go_at_call 66; refine (form_any _ _).mono ?_; rintro e w' ⟨rfl, rfl⟩; rw [HF.out]) | (go_at_call 65; refine (parts_any _ ?_ ?_ _).mono ?_; omega; omega; rintro e w' ⟨rfl, rfl⟩))
  go_ret
  exact ⟨ret_inti (by decide +kernel), rfl⟩

end Go.Proofs.YtgjingleolhkbaaGreatDoor.J

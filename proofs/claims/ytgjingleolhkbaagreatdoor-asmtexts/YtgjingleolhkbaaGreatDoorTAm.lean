/- Has a form room for all that an instruction says? -/
import Derived.Test.YtgjingleolhkbaaGreatDoorTAl
namespace Go.Proofs.YtgjingleolhkbaaGreatDoor.J
open Go.RowKit
set_option linter.unusedVariables false

abbrev insV (op a b n : Int) : Value := .agg #[.int .i64 op, .int .i64 a, .int .i64 b, .int .i64 n]
abbrev formV (r m : Int) (t : Bool) : Value := .agg #[.int .i64 r, .int .i64 m, .bool t]

set_option maxHeartbeats 16000000 in
theorem bears_any (r m : Int) (hr : r = 0 ∨ r = 1 ∨ r = 2) (t : Bool) (op a b n : Int) (w : World) :
  Calls Tryz.prog 96 #[formV r m t, insV op a b n] w fun e w' => e = .returned (.bool (I.bears r m a b n)) ∧ Below w.heap.size w w' := by
 obtain ⟨v, hv⟩ : ∃ v, I.bears r m a b n = v := ⟨_, rfl⟩
 rw [hv]
 unfold I.bears I.bad at hv
 cases hpa : (a != 0) <;> cases hpb : (b != 0) <;> cases hpn : (n != 0) <;> cases hpm : (m == 0) <;> cases hi : I.isr a
 all_goals
  rw [hpa, hpb, hpn, hpm, hi] at hv
  rcases hr with rfl | rfl | rfl
  all_goals
   simp at hv
   have HV : Hid _ := hv
   clear hv
   go_enter Tryz.func96, Tryz.ntmps96
   go_wp2_with (go_at_call 109; refine (isregI_any _ _).mono ?_; rintro e w' ⟨rfl, rfl⟩)
   go_ret
   exact ⟨ret_boolI (by first | exact HV.out | exact HV.out.symm | (rw [← HV.out]; rfl) | rfl), bl2 _ _ _⟩

end Go.Proofs.YtgjingleolhkbaaGreatDoor.J

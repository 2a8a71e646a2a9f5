/- The thread behind an instruction, but for what memory has still to answer. -/
import Derived.Test.YtneclfaamgfoeaaDoorEAg
import Derived.Test.YtneclfaamgfoeaaDoorEAh
import Derived.Deep.RegionHeld3
import Derived.Deep.DrawnRows
namespace Go.Proofs.YtneclfaamgfoeaaDoor
open Go.RowKit
set_option linter.unusedVariables false
attribute [local go_sem ↓] Go.wp_at_zero Go.wp_at_succ

set_option maxHeartbeats 4000000 in
theorem turned_33 (c : S.C) (a b : Nat) (ha : a < 8) (hb : b < 8) (n next : Int) (w : World) :
    Calls Tryd.prog 76 #[c.v, S.insV 33 a b n, .int .i64 next, .func (.func 75) #[.agg c.regs] #[]] w fun e w' => e = .returned (S.turned c 33 a b n next).v ∧ Below w.heap.size w w' := by
  rw [S.turned_33]
  go_enter Tryd.func76, Tryd.ntmps76
  go_wp2_with (go_at_call 93; refine (trapped_any c _ _).mono ?_; rintro e w' ⟨rfl, rfl⟩)
  refine bodyPost_ret (v := { c with st := 2, tr := n }.v) (by simp [results, Tryd.results76, go_sem]) rfl ⟨rfl, ?_⟩
  first | exact bl3 _ _ _ _ | exact bl4 _ _ _ _ _ | exact bl5 _ _ _ _ _ _ | exact (bl5 _ _ _ _ _ _).alloc (by simp; omega) _ | exact ((bl4 _ _ _ _ _).drew.alloc (by simp; omega) _).alloc (by simp; omega) _ | exact (bl4 _ _ _ _ _).drew.alloc (by simp; omega) _

set_option maxHeartbeats 4000000 in
theorem turned_1 (c : S.C) (a b : Nat) (ha : a < 8) (hb : b < 8) (n next : Int) (w : World) :
    Calls Tryd.prog 76 #[c.v, S.insV 1 a b n, .int .i64 next, .func (.func 75) #[.agg c.regs] #[]] w fun e w' => e = .returned (S.turned c 1 a b n next).v ∧ Below w.heap.size w w' := by
  have hj : S.jumps c 1 a = false := S.jumps_no (by omega) (by omega) (by omega)
  rw [S.turned_stay (by omega) (by omega) hj]
  rcases (show a = 0 ∨ a = 1 ∨ a = 2 ∨ a = 3 ∨ a = 4 ∨ a = 5 ∨ a = 6 ∨ a = 7 by omega) with rfl | rfl | rfl | rfl | rfl | rfl | rfl | rfl
  all_goals
    go_enter Tryd.func76, Tryd.ntmps76
    go_wp2_with (go_at_call 95; refine (jumps_any c _ _ ?_ _ _ _).mono ?_; assumption; rintro e w' ⟨rfl, (rfl | rfl)⟩)
    all_goals
      refine bodyPost_ret (v := { c.put _ n with pc := next }.v) (by simp [results, Tryd.results76, go_sem, S.C.put]) rfl ⟨rfl, ?_⟩
      first | exact bl3 _ _ _ _ | exact bl4 _ _ _ _ _ | exact bl5 _ _ _ _ _ _ | exact (bl5 _ _ _ _ _ _).alloc (by simp; omega) _ | exact ((bl4 _ _ _ _ _).drew.alloc (by simp; omega) _).alloc (by simp; omega) _ | exact (bl4 _ _ _ _ _).drew.alloc (by simp; omega) _

set_option maxHeartbeats 4000000 in
theorem turned_19 (c : S.C) (a b : Nat) (ha : a < 8) (hb : b < 8) (n next : Int) (w : World) :
    Calls Tryd.prog 76 #[c.v, S.insV 19 a b n, .int .i64 next, .func (.func 75) #[.agg c.regs] #[]] w fun e w' => e = .returned (S.turned c 19 a b n next).v ∧ Below w.heap.size w w' := by
  have hj : S.jumps c 19 a = false := S.jumps_no (by omega) (by omega) (by omega)
  rw [S.turned_stay (by omega) (by omega) hj]
  rcases (show a = 0 ∨ a = 1 ∨ a = 2 ∨ a = 3 ∨ a = 4 ∨ a = 5 ∨ a = 6 ∨ a = 7 by omega) with rfl | rfl | rfl | rfl | rfl | rfl | rfl | rfl
  all_goals
    go_enter Tryd.func76, Tryd.ntmps76
    go_wp2_with (go_at_call 95; refine (jumps_any c _ _ ?_ _ _ _).mono ?_; assumption; rintro e w' ⟨rfl, (rfl | rfl)⟩)
    all_goals
      refine bodyPost_ret (v := { c.put _ n with pc := next }.v) (by simp [results, Tryd.results76, go_sem, S.C.put]) rfl ⟨rfl, ?_⟩
      first | exact bl3 _ _ _ _ | exact bl4 _ _ _ _ _ | exact bl5 _ _ _ _ _ _ | exact (bl5 _ _ _ _ _ _).alloc (by simp; omega) _ | exact ((bl4 _ _ _ _ _).drew.alloc (by simp; omega) _).alloc (by simp; omega) _ | exact (bl4 _ _ _ _ _).drew.alloc (by simp; omega) _

end Go.Proofs.YtneclfaamgfoeaaDoor

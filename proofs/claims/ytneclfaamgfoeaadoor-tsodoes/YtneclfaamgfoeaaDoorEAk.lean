/- The thread behind an instruction, but for what memory has still to answer: StepTurnedC. -/
import Derived.Test.YtneclfaamgfoeaaDoorEAg
import Derived.Test.YtneclfaamgfoeaaDoorEAh
import Derived.Deep.RegionHeld3
import Derived.Deep.DrawnRows
namespace Go.Proofs.YtneclfaamgfoeaaDoor
open Go.RowKit
set_option linter.unusedVariables false
attribute [local go_sem ↓] Go.wp_at_zero Go.wp_at_succ

set_option maxHeartbeats 4000000 in
theorem turned_23 (c : S.C) (a b : Nat) (ha : a < 8) (hb : b < 8) (n next : Int) (w : World) :
    Calls Tryd.prog 76 #[c.v, S.insV 23 a b n, .int .i64 next, .func (.func 75) #[.agg c.regs] #[]] w fun e w' => e = .returned (S.turned c 23 a b n next).v ∧ Below w.heap.size w w' := by
  have hj : S.jumps c 23 a = true := S.jumps_yes (by omega)
  rw [S.turned_jump (by omega) (by omega) hj]
  go_enter Tryd.func76, Tryd.ntmps76
  go_wp2_with (first | (go_at_call 75; refine (sum_7 c _ _).mono ?_; rintro e w' ⟨rfl, rfl⟩) | (go_at_call 95; refine (jumps_any c _ _ ?_ _ _ _).mono ?_; assumption; rintro e w' ⟨rfl, (rfl | rfl)⟩))
  all_goals
    refine bodyPost_ret (v := { c.put 7 (wrap64 (c.rd 7 + -8)) with pc := wrap64 (next + n) }.v) (by simp [results, Tryd.results76, go_sem, S.C.put]) rfl ⟨rfl, ?_⟩
    first | exact bl3 _ _ _ _ | exact bl4 _ _ _ _ _ | exact bl5 _ _ _ _ _ _ | exact (bl5 _ _ _ _ _ _).alloc (by simp; omega) _ | exact ((bl4 _ _ _ _ _).drew.alloc (by simp; omega) _).alloc (by simp; omega) _ | exact (bl4 _ _ _ _ _).drew.alloc (by simp; omega) _

set_option maxHeartbeats 4000000 in
theorem turned_24 (c : S.C) (a b : Nat) (ha : a < 8) (hb : b < 8) (n next : Int) (w : World) :
    Calls Tryd.prog 76 #[c.v, S.insV 24 a b n, .int .i64 next, .func (.func 75) #[.agg c.regs] #[]] w fun e w' => e = .returned (S.turned c 24 a b n next).v ∧ Below w.heap.size w w' := by
  have hj : S.jumps c 24 a = false := S.jumps_no (by omega) (by omega) (by omega)
  rw [S.turned_stay (by omega) (by omega) hj]
  go_enter Tryd.func76, Tryd.ntmps76
  go_wp2_with (first | (go_at_call 75; refine (sum_7 c _ _).mono ?_; rintro e w' ⟨rfl, rfl⟩) | (go_at_call 95; refine (jumps_any c _ _ ?_ _ _ _).mono ?_; assumption; rintro e w' ⟨rfl, (rfl | rfl)⟩))
  all_goals
    refine bodyPost_ret (v := { c.put 7 (wrap64 (c.rd 7 + 8)) with pc := next }.v) (by simp [results, Tryd.results76, go_sem, S.C.put]) rfl ⟨rfl, ?_⟩
    first | exact bl3 _ _ _ _ | exact bl4 _ _ _ _ _ | exact bl5 _ _ _ _ _ _ | exact (bl5 _ _ _ _ _ _).alloc (by simp; omega) _ | exact ((bl4 _ _ _ _ _).drew.alloc (by simp; omega) _).alloc (by simp; omega) _ | exact (bl4 _ _ _ _ _).drew.alloc (by simp; omega) _

set_option maxHeartbeats 4000000 in
theorem turned_32 (c : S.C) (a b : Nat) (ha : a < 8) (hb : b < 8) (n next : Int) (w : World) :
    Calls Tryd.prog 76 #[c.v, S.insV 32 a b n, .int .i64 next, .func (.func 75) #[.agg c.regs] #[]] w fun e w' => e = .returned (S.turned c 32 a b n next).v ∧ Below w.heap.size w w' := by
  have hj : S.jumps c 32 a = false := S.jumps_no (by omega) (by omega) (by omega)
  rw [S.turned_stay (by omega) (by omega) hj]
  go_enter Tryd.func76, Tryd.ntmps76
  go_wp2_with (go_at_call 95; refine (jumps_any c _ _ ?_ _ _ _).mono ?_; assumption; rintro e w' ⟨rfl, (rfl | rfl)⟩)
  all_goals
    refine bodyPost_ret (v := { c with st := 1, pc := next }.v) (by simp [results, Tryd.results76, go_sem]) rfl ⟨rfl, ?_⟩
    first | exact bl3 _ _ _ _ | exact bl4 _ _ _ _ _ | exact bl5 _ _ _ _ _ _ | exact (bl5 _ _ _ _ _ _).alloc (by simp; omega) _ | exact ((bl4 _ _ _ _ _).drew.alloc (by simp; omega) _).alloc (by simp; omega) _ | exact (bl4 _ _ _ _ _).drew.alloc (by simp; omega) _

set_option maxHeartbeats 4000000 in
theorem turned_no (c : S.C) (op : Int) (h : ¬ op = 1 ∧ ¬ op = 19 ∧ ¬ op = 2 ∧ ¬ op = 23 ∧ ¬ op = 24 ∧ ¬ op = 32) (h33 : ¬ op = 33) (hc : ¬ (3 ≤ op ∧ op ≤ 16)) (a b : Nat) (ha : a < 8) (hb : b < 8) (n next : Int) (w : World) :
    Calls Tryd.prog 76 #[c.v, S.insV op a b n, .int .i64 next, .func (.func 75) #[.agg c.regs] #[]] w fun e w' => e = .returned (S.turned c op a b n next).v ∧ Below w.heap.size w w' := by
  obtain ⟨j, hj⟩ : ∃ j, S.jumps c op a = j := ⟨_, rfl⟩
  cases j with
  | true =>
    rw [S.turned_jump h33 hc hj, S.moved_no h]
    obtain ⟨h1, h2, h3, h4, h5, h6⟩ := h
    rcases (show op < 3 ∨ 16 < op by omega) with hc | hc
    all_goals
      go_enter Tryd.func76, Tryd.ntmps76
      go_wp2_with (go_at_call 95; refine (jumps_any c _ _ ?_ _ _ _).mono ?_; assumption; rintro e w' ⟨rfl, (rfl | rfl)⟩)
      all_goals
        refine bodyPost_ret (v := { c with pc := wrap64 (next + n) }.v) (by simp [results, Tryd.results76, go_sem]) rfl ⟨rfl, ?_⟩
        first | exact bl3 _ _ _ _ | exact bl4 _ _ _ _ _ | exact bl5 _ _ _ _ _ _ | exact (bl5 _ _ _ _ _ _).alloc (by simp; omega) _ | exact ((bl4 _ _ _ _ _).drew.alloc (by simp; omega) _).alloc (by simp; omega) _ | exact (bl4 _ _ _ _ _).drew.alloc (by simp; omega) _
  | false =>
    rw [S.turned_stay h33 hc hj, S.moved_no h]
    obtain ⟨h1, h2, h3, h4, h5, h6⟩ := h
    rcases (show op < 3 ∨ 16 < op by omega) with hc | hc
    all_goals
      go_enter Tryd.func76, Tryd.ntmps76
      go_wp2_with (go_at_call 95; refine (jumps_any c _ _ ?_ _ _ _).mono ?_; assumption; rintro e w' ⟨rfl, (rfl | rfl)⟩)
      all_goals
        refine bodyPost_ret (v := { c with pc := next }.v) (by simp [results, Tryd.results76, go_sem]) rfl ⟨rfl, ?_⟩
        first | exact bl3 _ _ _ _ | exact bl4 _ _ _ _ _ | exact bl5 _ _ _ _ _ _ | exact (bl5 _ _ _ _ _ _).alloc (by simp; omega) _ | exact ((bl4 _ _ _ _ _).drew.alloc (by simp; omega) _).alloc (by simp; omega) _ | exact (bl4 _ _ _ _ _).drew.alloc (by simp; omega) _

end Go.Proofs.YtneclfaamgfoeaaDoor

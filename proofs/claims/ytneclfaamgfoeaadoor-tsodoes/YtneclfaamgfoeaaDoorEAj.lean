/- The thread behind an instruction, but for what memory has still to answer: StepTurnedB. -/
import Derived.Test.YtneclfaamgfoeaaDoorEAg
import Derived.Test.YtneclfaamgfoeaaDoorEAh
import Derived.Deep.RegionHeld3
import Derived.Deep.DrawnRows
namespace Go.Proofs.YtneclfaamgfoeaaDoor
open Go.RowKit
set_option linter.unusedVariables false
attribute [local go_sem ↓] Go.wp_at_zero Go.wp_at_succ

set_option maxHeartbeats 4000000 in
theorem turned_2_0 (c : S.C) (b : Nat) (hb : b < 8) (n next : Int) (w : World) :
    Calls Tryd.prog 76 #[c.v, S.insV 2 0 b n, .int .i64 next, .func (.func 75) #[.agg c.regs] #[]] w fun e w' => e = .returned { c.put 0 (wrap64 (c.rd b)) with pc := next }.v ∧ Below w.heap.size w w' := by
  have ha : 0 < 8 := by omega
  have hj : S.jumps c 2 0 = false := S.jumps_no (by omega) (by omega) (by omega)
  go_enter Tryd.func76, Tryd.ntmps76
  go_wp2_with fail
  go_region_held3 (fun w' => w'.cell? ⟨w.heap.size + 1, 1, none⟩ = some (.int .i64 0) ∧ w'.cell? ⟨w.heap.size + 1, 2, none⟩ = some (.int .i64 b)) ((refine ⟨?_, ?_⟩ <;> (simp (disch := (first | ((try simp only [World.size_alloc]) <;> omega) | fail)) only [World.cell?_drew, World.cell?_alloc_at, World.cell?_alloc_past]; rfl))) ((go_at_call 75; refine (sum_any c _ ?_ _ _).mono ?_; assumption; rintro e w' ⟨rfl, rfl⟩))
  all_goals
    go_wp2_with (go_at_call 95; refine (jumps_any c _ _ ?_ _ _ _).mono ?_; assumption; rintro e w' ⟨rfl, (rfl | rfl)⟩)
    all_goals
      refine bodyPost_ret (v := { c.put 0 (wrap64 (c.rd b)) with pc := next }.v) (by simp [results, Tryd.results76, go_sem, S.C.put]) rfl ⟨rfl, ?_⟩
      first | exact bl3 _ _ _ _ | exact bl4 _ _ _ _ _ | exact bl5 _ _ _ _ _ _ | exact (bl5 _ _ _ _ _ _).alloc (by simp; omega) _ | exact ((bl4 _ _ _ _ _).drew.alloc (by simp; omega) _).alloc (by simp; omega) _ | exact (bl4 _ _ _ _ _).drew.alloc (by simp; omega) _

set_option maxHeartbeats 4000000 in
theorem turned_2_1 (c : S.C) (b : Nat) (hb : b < 8) (n next : Int) (w : World) :
    Calls Tryd.prog 76 #[c.v, S.insV 2 1 b n, .int .i64 next, .func (.func 75) #[.agg c.regs] #[]] w fun e w' => e = .returned { c.put 1 (wrap64 (c.rd b)) with pc := next }.v ∧ Below w.heap.size w w' := by
  have ha : 1 < 8 := by omega
  have hj : S.jumps c 2 1 = false := S.jumps_no (by omega) (by omega) (by omega)
  go_enter Tryd.func76, Tryd.ntmps76
  go_wp2_with fail
  go_region_held3 (fun w' => w'.cell? ⟨w.heap.size + 1, 1, none⟩ = some (.int .i64 1) ∧ w'.cell? ⟨w.heap.size + 1, 2, none⟩ = some (.int .i64 b)) ((refine ⟨?_, ?_⟩ <;> (simp (disch := (first | ((try simp only [World.size_alloc]) <;> omega) | fail)) only [World.cell?_drew, World.cell?_alloc_at, World.cell?_alloc_past]; rfl))) ((go_at_call 75; refine (sum_any c _ ?_ _ _).mono ?_; assumption; rintro e w' ⟨rfl, rfl⟩))
  all_goals
    go_wp2_with (go_at_call 95; refine (jumps_any c _ _ ?_ _ _ _).mono ?_; assumption; rintro e w' ⟨rfl, (rfl | rfl)⟩)
    all_goals
      refine bodyPost_ret (v := { c.put 1 (wrap64 (c.rd b)) with pc := next }.v) (by simp [results, Tryd.results76, go_sem, S.C.put]) rfl ⟨rfl, ?_⟩
      first | exact bl3 _ _ _ _ | exact bl4 _ _ _ _ _ | exact bl5 _ _ _ _ _ _ | exact (bl5 _ _ _ _ _ _).alloc (by simp; omega) _ | exact ((bl4 _ _ _ _ _).drew.alloc (by simp; omega) _).alloc (by simp; omega) _ | exact (bl4 _ _ _ _ _).drew.alloc (by simp; omega) _

set_option maxHeartbeats 4000000 in
theorem turned_2_2 (c : S.C) (b : Nat) (hb : b < 8) (n next : Int) (w : World) :
    Calls Tryd.prog 76 #[c.v, S.insV 2 2 b n, .int .i64 next, .func (.func 75) #[.agg c.regs] #[]] w fun e w' => e = .returned { c.put 2 (wrap64 (c.rd b)) with pc := next }.v ∧ Below w.heap.size w w' := by
  have ha : 2 < 8 := by omega
  have hj : S.jumps c 2 2 = false := S.jumps_no (by omega) (by omega) (by omega)
  go_enter Tryd.func76, Tryd.ntmps76
  go_wp2_with fail
  go_region_held3 (fun w' => w'.cell? ⟨w.heap.size + 1, 1, none⟩ = some (.int .i64 2) ∧ w'.cell? ⟨w.heap.size + 1, 2, none⟩ = some (.int .i64 b)) ((refine ⟨?_, ?_⟩ <;> (simp (disch := (first | ((try simp only [World.size_alloc]) <;> omega) | fail)) only [World.cell?_drew, World.cell?_alloc_at, World.cell?_alloc_past]; rfl))) ((go_at_call 75; refine (sum_any c _ ?_ _ _).mono ?_; assumption; rintro e w' ⟨rfl, rfl⟩))
  all_goals
    go_wp2_with (go_at_call 95; refine (jumps_any c _ _ ?_ _ _ _).mono ?_; assumption; rintro e w' ⟨rfl, (rfl | rfl)⟩)
    all_goals
      refine bodyPost_ret (v := { c.put 2 (wrap64 (c.rd b)) with pc := next }.v) (by simp [results, Tryd.results76, go_sem, S.C.put]) rfl ⟨rfl, ?_⟩
      first | exact bl3 _ _ _ _ | exact bl4 _ _ _ _ _ | exact bl5 _ _ _ _ _ _ | exact (bl5 _ _ _ _ _ _).alloc (by simp; omega) _ | exact ((bl4 _ _ _ _ _).drew.alloc (by simp; omega) _).alloc (by simp; omega) _ | exact (bl4 _ _ _ _ _).drew.alloc (by simp; omega) _

set_option maxHeartbeats 4000000 in
theorem turned_2_3 (c : S.C) (b : Nat) (hb : b < 8) (n next : Int) (w : World) :
    Calls Tryd.prog 76 #[c.v, S.insV 2 3 b n, .int .i64 next, .func (.func 75) #[.agg c.regs] #[]] w fun e w' => e = .returned { c.put 3 (wrap64 (c.rd b)) with pc := next }.v ∧ Below w.heap.size w w' := by
  have ha : 3 < 8 := by omega
  have hj : S.jumps c 2 3 = false := S.jumps_no (by omega) (by omega) (by omega)
  go_enter Tryd.func76, Tryd.ntmps76
  go_wp2_with fail
  go_region_held3 (fun w' => w'.cell? ⟨w.heap.size + 1, 1, none⟩ = some (.int .i64 3) ∧ w'.cell? ⟨w.heap.size + 1, 2, none⟩ = some (.int .i64 b)) ((refine ⟨?_, ?_⟩ <;> (simp (disch := (first | ((try simp only [World.size_alloc]) <;> omega) | fail)) only [World.cell?_drew, World.cell?_alloc_at, World.cell?_alloc_past]; rfl))) ((go_at_call 75; refine (sum_any c _ ?_ _ _).mono ?_; assumption; rintro e w' ⟨rfl, rfl⟩))
  all_goals
    go_wp2_with (go_at_call 95; refine (jumps_any c _ _ ?_ _ _ _).mono ?_; assumption; rintro e w' ⟨rfl, (rfl | rfl)⟩)
    all_goals
      refine bodyPost_ret (v := { c.put 3 (wrap64 (c.rd b)) with pc := next }.v) (by simp [results, Tryd.results76, go_sem, S.C.put]) rfl ⟨rfl, ?_⟩
      first | exact bl3 _ _ _ _ | exact bl4 _ _ _ _ _ | exact bl5 _ _ _ _ _ _ | exact (bl5 _ _ _ _ _ _).alloc (by simp; omega) _ | exact ((bl4 _ _ _ _ _).drew.alloc (by simp; omega) _).alloc (by simp; omega) _ | exact (bl4 _ _ _ _ _).drew.alloc (by simp; omega) _

end Go.Proofs.YtneclfaamgfoeaaDoor

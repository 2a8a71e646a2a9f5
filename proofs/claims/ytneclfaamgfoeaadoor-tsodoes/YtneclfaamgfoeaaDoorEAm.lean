/- The thread behind an instruction, but for what memory has still to answer: StepTurnedE. -/
import Derived.Test.YtneclfaamgfoeaaDoorEAg
import Derived.Test.YtneclfaamgfoeaaDoorEAh
import Derived.Deep.RegionHeld3
import Derived.Deep.DrawnRows
namespace Go.Proofs.YtneclfaamgfoeaaDoor
open Go.RowKit
set_option linter.unusedVariables false
attribute [local go_sem ↓] Go.wp_at_zero Go.wp_at_succ

set_option maxHeartbeats 4000000 in
theorem turned_2_4 (c : S.C) (b : Nat) (hb : b < 8) (n next : Int) (w : World) :
    Calls Tryd.prog 76 #[c.v, S.insV 2 4 b n, .int .i64 next, .func (.func 75) #[.agg c.regs] #[]] w fun e w' => e = .returned { c.put 4 (wrap64 (c.rd b)) with pc := next }.v ∧ Below w.heap.size w w' := by
  have ha : 4 < 8 := by omega
  have hj : S.jumps c 2 4 = false := S.jumps_no (by omega) (by omega) (by omega)
  go_enter Tryd.func76, Tryd.ntmps76
  go_wp2_with fail
  go_region_held3 (fun w' => w'.cell? ⟨w.heap.size + 1, 1, none⟩ = some (.int .i64 4) ∧ w'.cell? ⟨w.heap.size + 1, 2, none⟩ = some (.int .i64 b)) ((refine ⟨?_, ?_⟩ <;> (simp (disch := (first | ((try simp only [World.size_alloc]) <;> omega) | fail)) only [World.cell?_drew, World.cell?_alloc_at, World.cell?_alloc_past]; rfl))) ((go_at_call 75; refine (sum_any c _ ?_ _ _).mono ?_; assumption; rintro e w' ⟨rfl, rfl⟩))
  all_goals
    go_wp2_with (go_at_call 95; refine (jumps_any c _ _ ?_ _ _ _).mono ?_; assumption; rintro e w' ⟨rfl, (rfl | rfl)⟩)
    all_goals
      refine bodyPost_ret (v := { c.put 4 (wrap64 (c.rd b)) with pc := next }.v) (by simp [results, Tryd.results76, go_sem, S.C.put]) rfl ⟨rfl, ?_⟩
      first | exact bl3 _ _ _ _ | exact bl4 _ _ _ _ _ | exact bl5 _ _ _ _ _ _ | exact (bl5 _ _ _ _ _ _).alloc (by simp; omega) _ | exact ((bl4 _ _ _ _ _).drew.alloc (by simp; omega) _).alloc (by simp; omega) _ | exact (bl4 _ _ _ _ _).drew.alloc (by simp; omega) _

set_option maxHeartbeats 4000000 in
theorem turned_2_5 (c : S.C) (b : Nat) (hb : b < 8) (n next : Int) (w : World) :
    Calls Tryd.prog 76 #[c.v, S.insV 2 5 b n, .int .i64 next, .func (.func 75) #[.agg c.regs] #[]] w fun e w' => e = .returned { c.put 5 (wrap64 (c.rd b)) with pc := next }.v ∧ Below w.heap.size w w' := by
  have ha : 5 < 8 := by omega
  have hj : S.jumps c 2 5 = false := S.jumps_no (by omega) (by omega) (by omega)
  go_enter Tryd.func76, Tryd.ntmps76
  go_wp2_with fail
  go_region_held3 (fun w' => w'.cell? ⟨w.heap.size + 1, 1, none⟩ = some (.int .i64 5) ∧ w'.cell? ⟨w.heap.size + 1, 2, none⟩ = some (.int .i64 b)) ((refine ⟨?_, ?_⟩ <;> (simp (disch := (first | ((try simp only [World.size_alloc]) <;> omega) | fail)) only [World.cell?_drew, World.cell?_alloc_at, World.cell?_alloc_past]; rfl))) ((go_at_call 75; refine (sum_any c _ ?_ _ _).mono ?_; assumption; rintro e w' ⟨rfl, rfl⟩))
  all_goals
    go_wp2_with (go_at_call 95; refine (jumps_any c _ _ ?_ _ _ _).mono ?_; assumption; rintro e w' ⟨rfl, (rfl | rfl)⟩)
    all_goals
      refine bodyPost_ret (v := { c.put 5 (wrap64 (c.rd b)) with pc := next }.v) (by simp [results, Tryd.results76, go_sem, S.C.put]) rfl ⟨rfl, ?_⟩
      first | exact bl3 _ _ _ _ | exact bl4 _ _ _ _ _ | exact bl5 _ _ _ _ _ _ | exact (bl5 _ _ _ _ _ _).alloc (by simp; omega) _ | exact ((bl4 _ _ _ _ _).drew.alloc (by simp; omega) _).alloc (by simp; omega) _ | exact (bl4 _ _ _ _ _).drew.alloc (by simp; omega) _

set_option maxHeartbeats 4000000 in
theorem turned_2_6 (c : S.C) (b : Nat) (hb : b < 8) (n next : Int) (w : World) :
    Calls Tryd.prog 76 #[c.v, S.insV 2 6 b n, .int .i64 next, .func (.func 75) #[.agg c.regs] #[]] w fun e w' => e = .returned { c.put 6 (wrap64 (c.rd b)) with pc := next }.v ∧ Below w.heap.size w w' := by
  have ha : 6 < 8 := by omega
  have hj : S.jumps c 2 6 = false := S.jumps_no (by omega) (by omega) (by omega)
  go_enter Tryd.func76, Tryd.ntmps76
  go_wp2_with fail
  go_region_held3 (fun w' => w'.cell? ⟨w.heap.size + 1, 1, none⟩ = some (.int .i64 6) ∧ w'.cell? ⟨w.heap.size + 1, 2, none⟩ = some (.int .i64 b)) ((refine ⟨?_, ?_⟩ <;> (simp (disch := (first | ((try simp only [World.size_alloc]) <;> omega) | fail)) only [World.cell?_drew, World.cell?_alloc_at, World.cell?_alloc_past]; rfl))) ((go_at_call 75; refine (sum_any c _ ?_ _ _).mono ?_; assumption; rintro e w' ⟨rfl, rfl⟩))
  all_goals
    go_wp2_with (go_at_call 95; refine (jumps_any c _ _ ?_ _ _ _).mono ?_; assumption; rintro e w' ⟨rfl, (rfl | rfl)⟩)
    all_goals
      refine bodyPost_ret (v := { c.put 6 (wrap64 (c.rd b)) with pc := next }.v) (by simp [results, Tryd.results76, go_sem, S.C.put]) rfl ⟨rfl, ?_⟩
      first | exact bl3 _ _ _ _ | exact bl4 _ _ _ _ _ | exact bl5 _ _ _ _ _ _ | exact (bl5 _ _ _ _ _ _).alloc (by simp; omega) _ | exact ((bl4 _ _ _ _ _).drew.alloc (by simp; omega) _).alloc (by simp; omega) _ | exact (bl4 _ _ _ _ _).drew.alloc (by simp; omega) _

set_option maxHeartbeats 4000000 in
theorem turned_2_7 (c : S.C) (b : Nat) (hb : b < 8) (n next : Int) (w : World) :
    Calls Tryd.prog 76 #[c.v, S.insV 2 7 b n, .int .i64 next, .func (.func 75) #[.agg c.regs] #[]] w fun e w' => e = .returned { c.put 7 (wrap64 (c.rd b)) with pc := next }.v ∧ Below w.heap.size w w' := by
  have ha : 7 < 8 := by omega
  have hj : S.jumps c 2 7 = false := S.jumps_no (by omega) (by omega) (by omega)
  go_enter Tryd.func76, Tryd.ntmps76
  go_wp2_with fail
  go_region_held3 (fun w' => w'.cell? ⟨w.heap.size + 1, 1, none⟩ = some (.int .i64 7) ∧ w'.cell? ⟨w.heap.size + 1, 2, none⟩ = some (.int .i64 b)) ((refine ⟨?_, ?_⟩ <;> (simp (disch := (first | ((try simp only [World.size_alloc]) <;> omega) | fail)) only [World.cell?_drew, World.cell?_alloc_at, World.cell?_alloc_past]; rfl))) ((go_at_call 75; refine (sum_any c _ ?_ _ _).mono ?_; assumption; rintro e w' ⟨rfl, rfl⟩))
  all_goals
    go_wp2_with (go_at_call 95; refine (jumps_any c _ _ ?_ _ _ _).mono ?_; assumption; rintro e w' ⟨rfl, (rfl | rfl)⟩)
    all_goals
      refine bodyPost_ret (v := { c.put 7 (wrap64 (c.rd b)) with pc := next }.v) (by simp [results, Tryd.results76, go_sem, S.C.put]) rfl ⟨rfl, ?_⟩
      first | exact bl3 _ _ _ _ | exact bl4 _ _ _ _ _ | exact bl5 _ _ _ _ _ _ | exact (bl5 _ _ _ _ _ _).alloc (by simp; omega) _ | exact ((bl4 _ _ _ _ _).drew.alloc (by simp; omega) _).alloc (by simp; omega) _ | exact (bl4 _ _ _ _ _).drew.alloc (by simp; omega) _

end Go.Proofs.YtneclfaamgfoeaaDoor

/- What the instructions that compute do. -/
import Derived.Test.YtdcdmlboilojmaaDoorQAf
import Derived.Deep.RegionHeld3
import Derived.Deep.DrawnRows
namespace Go.Proofs.YtdcdmlboilojmaaDoor
open Go.RowKit
set_option linter.unusedVariables false
attribute [local go_sem ↓] Go.wp_at_zero Go.wp_at_succ

set_option maxHeartbeats 4000000 in
theorem computed_any (c : S.C) (op : Int) (a b : Nat) (ha : a < 8) (hb : b < 8) (n next : Int) (w : World) :
    Calls Tryd.prog 94 #[c.v, S.insV op a b n, .int .i64 next, .func (.func 75) #[.agg c.regs] #[]] w fun e w' => e = .returned (S.computed c op a b next).v ∧ Below w.heap.size w w' := by
  by_cases he : W.binE op (wrap64 (c.rd b)) = 0
  · rw [S.computed_yes he]
    have HE : Hid (W.binE op (wrap64 (c.rd b)) = 0) := he
    generalize hm : W.bin op (wrap64 (c.rd a)) (wrap64 (c.rd b)) = m
    have HM : Hid (W.bin op (wrap64 (c.rd a)) (wrap64 (c.rd b)) = m) := hm
    clear he hm
    have h0 : (0 : Int) ≤ (a : Int) := by omega
    have h8 : (a : Int) < 8 := by omega
    go_enter Tryd.func94, Tryd.ntmps94
    go_wp2_with fail
    go_region_held3 (fun w' => w'.cell? ⟨w.heap.size + 1, 0, none⟩ = some (.int .i64 op) ∧ w'.cell? ⟨w.heap.size + 1, 1, none⟩ = some (.int .i64 a) ∧ w'.cell? ⟨w.heap.size + 1, 2, none⟩ = some (.int .i64 b)) ((refine ⟨?_, ?_, ?_⟩ <;> (simp (disch := (first | ((try simp only [World.size_alloc]) <;> omega) | fail)) only [World.cell?_drew, World.cell?_alloc_at, World.cell?_alloc_past]; rfl))) (first | (go_at_call 75; refine (sum_any c _ ?_ _ _).mono ?_; assumption; rintro e w' ⟨rfl, rfl⟩) | (go_at_call 100; refine (bin_any _ _ _ _).mono ?_; rintro e w' ⟨rfl, rfl⟩))
    all_goals
      rw [HM.out, HE.out]
      rcases (show a = 0 ∨ a = 1 ∨ a = 2 ∨ a = 3 ∨ a = 4 ∨ a = 5 ∨ a = 6 ∨ a = 7 by omega) with rfl | rfl | rfl | rfl | rfl | rfl | rfl | rfl
      all_goals
        go_wp2
        refine bodyPost_ret (v := { c.put _ m with pc := next }.v) (by simp [results, Tryd.results94, go_sem, S.C.put]) rfl ⟨rfl, ?_⟩
        exact (bl5 _ _ _ _ _ _).drew
  · rw [S.computed_no he]
    obtain ⟨ee, hee⟩ : ∃ ee, W.binE op (wrap64 (c.rd b)) = ee := ⟨_, rfl⟩
    have HE : Hid (W.binE op (wrap64 (c.rd b)) = ee) := hee
    have hne : ¬ ee = 0 := by omega
    clear he hee
    go_enter Tryd.func94, Tryd.ntmps94
    go_wp2_with fail
    go_region_held3 (fun w' => w'.cell? ⟨w.heap.size + 1, 0, none⟩ = some (.int .i64 op) ∧ w'.cell? ⟨w.heap.size + 1, 1, none⟩ = some (.int .i64 a) ∧ w'.cell? ⟨w.heap.size + 1, 2, none⟩ = some (.int .i64 b)) ((refine ⟨?_, ?_, ?_⟩ <;> (simp (disch := (first | ((try simp only [World.size_alloc]) <;> omega) | fail)) only [World.cell?_drew, World.cell?_alloc_at, World.cell?_alloc_past]; rfl))) (first | (go_at_call 75; refine (sum_any c _ ?_ _ _).mono ?_; assumption; rintro e w' ⟨rfl, rfl⟩) | (go_at_call 100; refine (bin_any _ _ _ _).mono ?_; rintro e w' ⟨rfl, rfl⟩))
    all_goals
      rw [HE.out]
      go_wp2_with (go_at_call 93; refine (trapped_any c _ _).mono ?_; rintro e w' ⟨rfl, rfl⟩)
      exact bodyPost_ret (v := { c with st := 2, tr := 1 }.v) (by simp [results, Tryd.results94, go_sem]) rfl ⟨rfl, ((bl5 _ _ _ _ _ _).drew.alloc (by simp; omega) _).alloc (by simp; omega) _⟩

end Go.Proofs.YtdcdmlboilojmaaDoor

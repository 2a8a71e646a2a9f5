/- The document's Start: StepRefD1. (Written by gen_rstart.py.) -/
import Derived.Test.YtffokdldgdjkhaaDoorStepSmall
import Derived.Test.YtffokdldgdjkhaaDoorRefForm
import Derived.Test.YtffokdldgdjkhaaDoorWordRefBin
import Derived.Deep.RegionHeld3
import Derived.Deep.DrawnRows
namespace Go.Proofs.YtffokdldgdjkhaaDoor
open Go.RowKit
set_option linter.unusedVariables false
attribute [local go_sem ↓] Go.wp_at_zero Go.wp_at_succ

set_option maxRecDepth 100000 in
set_option maxHeartbeats 8000000 in
theorem rstart_1 (c : S.C) (a b : Nat) (ha : a < 8) (hb : b < 8) (n size : Int) (h : (c.st != 0) = false) (x y : Int) (hx : ([.int .i64 c.r0, .int .i64 c.r1, .int .i64 c.r2, .int .i64 c.r3, .int .i64 c.r4, .int .i64 c.r5, .int .i64 c.r6, .int .i64 c.r7, .int .i64 c.pc, .int .i64 c.st, .int .i64 c.tr] : List Value)[a]? = some (.int .i64 x)) (hy : ([.int .i64 c.r0, .int .i64 c.r1, .int .i64 c.r2, .int .i64 c.r3, .int .i64 c.r4, .int .i64 c.r5, .int .i64 c.r6, .int .i64 c.r7, .int .i64 c.pc, .int .i64 c.st, .int .i64 c.tr] : List Value)[b]? = some (.int .i64 y)) (w : World) :
    Calls Tryd.prog 40 #[c.v, S.insV 1 a b n, .int .i64 size] w fun e w' => e = .returned (.tuple #[S.C.v { c.put a n with pc := wrap64 (c.pc + size) }, S.Q.w ⟨0, 0, 0, 0⟩]) ∧ Below w.heap.size w w' := by
  have h0 : (0 : Int) ≤ (a : Int) := by omega
  have h8 : (a : Int) < 8 := by omega
  have g0 : (0 : Int) ≤ (b : Int) := by omega
  have g8 : (b : Int) < 8 := by omega
  have hsz : (I.size 1 == 0) = false := by decide
  rcases (show a = 0 ∨ a = 1 ∨ a = 2 ∨ a = 3 ∨ a = 4 ∨ a = 5 ∨ a = 6 ∨ a = 7 by omega) with rfl | rfl | rfl | rfl | rfl | rfl | rfl | rfl
  all_goals
    go_enter Tryd.func40, Tryd.ntmps40
    go_wp2_with (go_at_call 17; refine (rsize_any _ _).mono ?_; rintro e w' ⟨rfl, rfl⟩)
    refine bodyPost_ret (v := .tuple #[S.C.v { c.put _ n with pc := wrap64 (c.pc + size) }, S.Q.w ⟨0, 0, 0, 0⟩]) (by simp [results, Tryd.results40, go_sem, S.C.put]) rfl ⟨rfl, ?_⟩
    first | exact bl5 _ _ _ _ _ _ | exact (bl5 _ _ _ _ _ _).drew | exact ((bl5 _ _ _ _ _ _).alloc (by simp; omega) _).alloc (by simp; omega) _

end Go.Proofs.YtffokdldgdjkhaaDoor

/- The document's Start: StepRefF. (Written by gen_rstart.py.) -/
import Derived.Test.YtffokdldgdjkhaaDoorStepSmall
import Derived.Test.YtffokdldgdjkhaaDoorRefForm
import Derived.Test.YtffokdldgdjkhaaDoorWordRefBin
import Derived.Deep.RegionHeld3
import Derived.Deep.DrawnRows
namespace Go.Proofs.YtffokdldgdjkhaaDoor
open Go.RowKit
set_option linter.unusedVariables false
attribute [local go_sem ↓] Go.wp_at_zero Go.wp_at_succ

set_option maxRecDepth 100000 in
set_option maxHeartbeats 8000000 in
theorem rstart_trap (c : S.C) (a b : Nat) (ha : a < 8) (hb : b < 8) (n size : Int) (h : (c.st != 0) = false) (x y : Int) (op ee : Int) (h3 : 3 ≤ op) (h16 : op ≤ 16) (hwx : (Lit.int .i64 x).wf = true) (HE : Hid (W.binE op y = ee)) (hne : ¬ ee = 0) (hx : ([.int .i64 c.r0, .int .i64 c.r1, .int .i64 c.r2, .int .i64 c.r3, .int .i64 c.r4, .int .i64 c.r5, .int .i64 c.r6, .int .i64 c.r7, .int .i64 c.pc, .int .i64 c.st, .int .i64 c.tr] : List Value)[a]? = some (.int .i64 x)) (hy : ([.int .i64 c.r0, .int .i64 c.r1, .int .i64 c.r2, .int .i64 c.r3, .int .i64 c.r4, .int .i64 c.r5, .int .i64 c.r6, .int .i64 c.r7, .int .i64 c.pc, .int .i64 c.st, .int .i64 c.tr] : List Value)[b]? = some (.int .i64 y)) (w : World) :
    Calls Tryd.prog 40 #[c.v, S.insV op a b n, .int .i64 size] w fun e w' => e = .returned (.tuple #[S.C.v { c with st := 2, tr := 1 }, S.Q.w ⟨0, 0, 0, 0⟩]) ∧ Below w.heap.size w w' := by
  have h0 : (0 : Int) ≤ (a : Int) := by omega
  have h8 : (a : Int) < 8 := by omega
  have g0 : (0 : Int) ≤ (b : Int) := by omega
  have g8 : (b : Int) < 8 := by omega
  have hsz : (I.size op == 0) = false := by have := I.size_pos (op := op) (by omega) (by omega); simp; omega
  go_enter Tryd.func40, Tryd.ntmps40
  go_wp2_with (first | (go_at_call 17; refine (rsize_any _ _).mono ?_; rintro e w' ⟨rfl, rfl⟩) | (go_at_call 57; refine (ref_any _ _ _ ?_ _).mono ?_; assumption; rintro e w' ⟨rfl, rfl⟩; rw [HE.out]) | (go_at_call 56; refine (rtrapped_any c _ _).mono ?_; rintro e w' ⟨rfl, rfl⟩))
  refine bodyPost_ret (v := .tuple #[S.C.v { c with st := 2, tr := 1 }, S.Q.w ⟨0, 0, 0, 0⟩]) (by simp [results, Tryd.results40, go_sem]) rfl ⟨rfl, ?_⟩
  first | exact bl5 _ _ _ _ _ _ | exact (bl5 _ _ _ _ _ _).drew | exact ((bl5 _ _ _ _ _ _).alloc (by simp; omega) _).alloc (by simp; omega) _

set_option maxRecDepth 100000 in
set_option maxHeartbeats 8000000 in
theorem rstart_st (c : S.C) (op a b n size : Int) (h : (c.st != 0) = true) (w : World) :
    Calls Tryd.prog 40 #[c.v, S.insV op a b n, .int .i64 size] w fun e w' => e = .returned (.tuple #[c.v, S.Q.w ⟨0, 0, 0, 0⟩]) ∧ Below w.heap.size w w' := by
  go_enter Tryd.func40, Tryd.ntmps40
  go_wp2_with (go_at_call 17; refine (rsize_any _ _).mono ?_; rintro e w' ⟨rfl, rfl⟩)
  refine bodyPost_ret (v := .tuple #[c.v, S.Q.w ⟨0, 0, 0, 0⟩]) (by simp [results, Tryd.results40, go_sem]) rfl ⟨rfl, ?_⟩
  exact bl4 _ _ _ _ _

set_option maxRecDepth 100000 in
set_option maxHeartbeats 8000000 in
theorem rstart_nop (c : S.C) (op a b n size : Int) (h : (c.st != 0) = false) (hop : op < 1 ∨ 33 < op) (w : World) :
    Calls Tryd.prog 40 #[c.v, S.insV op a b n, .int .i64 size] w fun e w' => e = .returned (.tuple #[c.v, S.Q.w ⟨0, 0, 0, 0⟩]) ∧ Below w.heap.size w w' := by
  have hsz : (I.size op == 0) = true := by rw [I.size_none hop]; rfl
  clear hop
  go_enter Tryd.func40, Tryd.ntmps40
  go_wp2_with (go_at_call 17; refine (rsize_any _ _).mono ?_; rintro e w' ⟨rfl, rfl⟩)
  refine bodyPost_ret (v := .tuple #[c.v, S.Q.w ⟨0, 0, 0, 0⟩]) (by simp [results, Tryd.results40, go_sem]) rfl ⟨rfl, ?_⟩
  exact bl4 _ _ _ _ _

set_option maxRecDepth 100000 in
set_option maxHeartbeats 8000000 in
theorem rstart_alo (c : S.C) (op a b n size : Int) (h : (c.st != 0) = false) (h1 : 1 ≤ op) (h33 : op ≤ 33) (ha : a < 0) (w : World) :
    Calls Tryd.prog 40 #[c.v, S.insV op a b n, .int .i64 size] w fun e w' => e = .returned (.tuple #[c.v, S.Q.w ⟨0, 0, 0, 0⟩]) ∧ Below w.heap.size w w' := by
  have hsz : (I.size op == 0) = false := by have := I.size_pos (op := op) h1 h33; simp; omega
  go_enter Tryd.func40, Tryd.ntmps40
  go_wp2_with (go_at_call 17; refine (rsize_any _ _).mono ?_; rintro e w' ⟨rfl, rfl⟩)
  refine bodyPost_ret (v := .tuple #[c.v, S.Q.w ⟨0, 0, 0, 0⟩]) (by simp [results, Tryd.results40, go_sem]) rfl ⟨rfl, ?_⟩
  exact bl4 _ _ _ _ _

set_option maxRecDepth 100000 in
set_option maxHeartbeats 8000000 in
theorem rstart_ahi (c : S.C) (op a b n size : Int) (h : (c.st != 0) = false) (h1 : 1 ≤ op) (h33 : op ≤ 33) (ha : 7 < a) (w : World) :
    Calls Tryd.prog 40 #[c.v, S.insV op a b n, .int .i64 size] w fun e w' => e = .returned (.tuple #[c.v, S.Q.w ⟨0, 0, 0, 0⟩]) ∧ Below w.heap.size w w' := by
  have hsz : (I.size op == 0) = false := by have := I.size_pos (op := op) h1 h33; simp; omega
  have ha0 : 0 ≤ a := by omega
  go_enter Tryd.func40, Tryd.ntmps40
  go_wp2_with (go_at_call 17; refine (rsize_any _ _).mono ?_; rintro e w' ⟨rfl, rfl⟩)
  refine bodyPost_ret (v := .tuple #[c.v, S.Q.w ⟨0, 0, 0, 0⟩]) (by simp [results, Tryd.results40, go_sem]) rfl ⟨rfl, ?_⟩
  exact bl4 _ _ _ _ _

set_option maxRecDepth 100000 in
set_option maxHeartbeats 8000000 in
theorem rstart_blo (c : S.C) (op a b n size : Int) (h : (c.st != 0) = false) (h1 : 1 ≤ op) (h33 : op ≤ 33) (ha : 0 ≤ a) (ha7 : a ≤ 7) (hb : b < 0) (w : World) :
    Calls Tryd.prog 40 #[c.v, S.insV op a b n, .int .i64 size] w fun e w' => e = .returned (.tuple #[c.v, S.Q.w ⟨0, 0, 0, 0⟩]) ∧ Below w.heap.size w w' := by
  have hsz : (I.size op == 0) = false := by have := I.size_pos (op := op) h1 h33; simp; omega
  go_enter Tryd.func40, Tryd.ntmps40
  go_wp2_with (go_at_call 17; refine (rsize_any _ _).mono ?_; rintro e w' ⟨rfl, rfl⟩)
  refine bodyPost_ret (v := .tuple #[c.v, S.Q.w ⟨0, 0, 0, 0⟩]) (by simp [results, Tryd.results40, go_sem]) rfl ⟨rfl, ?_⟩
  exact bl4 _ _ _ _ _

set_option maxRecDepth 100000 in
set_option maxHeartbeats 8000000 in
theorem rstart_bhi (c : S.C) (op a b n size : Int) (h : (c.st != 0) = false) (h1 : 1 ≤ op) (h33 : op ≤ 33) (ha : 0 ≤ a) (ha7 : a ≤ 7) (hb : 7 < b) (w : World) :
    Calls Tryd.prog 40 #[c.v, S.insV op a b n, .int .i64 size] w fun e w' => e = .returned (.tuple #[c.v, S.Q.w ⟨0, 0, 0, 0⟩]) ∧ Below w.heap.size w w' := by
  have hsz : (I.size op == 0) = false := by have := I.size_pos (op := op) h1 h33; simp; omega
  have hb0 : 0 ≤ b := by omega
  go_enter Tryd.func40, Tryd.ntmps40
  go_wp2_with (go_at_call 17; refine (rsize_any _ _).mono ?_; rintro e w' ⟨rfl, rfl⟩)
  refine bodyPost_ret (v := .tuple #[c.v, S.Q.w ⟨0, 0, 0, 0⟩]) (by simp [results, Tryd.results40, go_sem]) rfl ⟨rfl, ?_⟩
  exact bl4 _ _ _ _ _

end Go.Proofs.YtffokdldgdjkhaaDoor

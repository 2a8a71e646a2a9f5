/- The document's Start: StepRefB. (Written by gen_rstart.py.) -/
import Derived.Test.YtffokdldgdjkhaaDoorStepSmall
import Derived.Test.YtffokdldgdjkhaaDoorRefForm
import Derived.Test.YtffokdldgdjkhaaDoorWordRefBin
import Derived.Deep.RegionHeld3
import Derived.Deep.DrawnRows
namespace Go.Proofs.YtffokdldgdjkhaaDoor
open Go.RowKit
set_option linter.unusedVariables false
attribute [local go_sem ↓] Go.wp_at_zero Go.wp_at_succ

set_option maxRecDepth 100000 in
set_option maxHeartbeats 8000000 in
theorem rstart_23 (c : S.C) (a b : Nat) (ha : a < 8) (hb : b < 8) (n size : Int) (h : (c.st != 0) = false) (x y : Int) (hx : ([.int .i64 c.r0, .int .i64 c.r1, .int .i64 c.r2, .int .i64 c.r3, .int .i64 c.r4, .int .i64 c.r5, .int .i64 c.r6, .int .i64 c.r7, .int .i64 c.pc, .int .i64 c.st, .int .i64 c.tr] : List Value)[a]? = some (.int .i64 x)) (hy : ([.int .i64 c.r0, .int .i64 c.r1, .int .i64 c.r2, .int .i64 c.r3, .int .i64 c.r4, .int .i64 c.r5, .int .i64 c.r6, .int .i64 c.r7, .int .i64 c.pc, .int .i64 c.st, .int .i64 c.tr] : List Value)[b]? = some (.int .i64 y)) (w : World) :
    Calls Tryd.prog 40 #[c.v, S.insV 23 a b n, .int .i64 size] w fun e w' => e = .returned (.tuple #[S.C.v { c with r7 := wrap64 (c.r7 - 8), pc := wrap64 (wrap64 (c.pc + size) + n) }, S.Q.w ⟨2, wrap64 (c.r7 - 8), wrap64 (c.pc + size), 0⟩]) ∧ Below w.heap.size w w' := by
  have h0 : (0 : Int) ≤ (a : Int) := by omega
  have h8 : (a : Int) < 8 := by omega
  have g0 : (0 : Int) ≤ (b : Int) := by omega
  have g8 : (b : Int) < 8 := by omega
  have hsz : (I.size 23 == 0) = false := by decide
  go_enter Tryd.func40, Tryd.ntmps40
  go_wp2_with (go_at_call 17; refine (rsize_any _ _).mono ?_; rintro e w' ⟨rfl, rfl⟩)
  go_region_held3 (fun w' => w'.cell? ⟨w.heap.size + 1, 1, none⟩ = some (.int .i64 a) ∧ w'.cell? ⟨w.heap.size + 1, 2, none⟩ = some (.int .i64 b) ∧ w'.cell? ⟨w.heap.size + 1, 3, none⟩ = some (.int .i64 n) ∧ w'.cell? ⟨w.heap.size, 7, none⟩ = some (.int .i64 c.r7) ∧ w'.cell? ⟨w.heap.size + 1 + 1 + 1 + 1, 0, none⟩ = some (.int .i64 (c.r0)) ∧ w'.cell? ⟨w.heap.size + 1 + 1 + 1 + 1, 1, none⟩ = some (.int .i64 (c.r1)) ∧ w'.cell? ⟨w.heap.size + 1 + 1 + 1 + 1, 2, none⟩ = some (.int .i64 (c.r2)) ∧ w'.cell? ⟨w.heap.size + 1 + 1 + 1 + 1, 3, none⟩ = some (.int .i64 (c.r3)) ∧ w'.cell? ⟨w.heap.size + 1 + 1 + 1 + 1, 4, none⟩ = some (.int .i64 (c.r4)) ∧ w'.cell? ⟨w.heap.size + 1 + 1 + 1 + 1, 5, none⟩ = some (.int .i64 (c.r5)) ∧ w'.cell? ⟨w.heap.size + 1 + 1 + 1 + 1, 6, none⟩ = some (.int .i64 (c.r6)) ∧ w'.cell? ⟨w.heap.size + 1 + 1 + 1 + 1, 7, none⟩ = some (.int .i64 (wrap64 (c.r7 - 8))) ∧ w'.cell? ⟨w.heap.size + 1 + 1 + 1 + 1, 8, none⟩ = some (.int .i64 (wrap64 (wrap64 (c.pc + size) + n))) ∧ w'.cell? ⟨w.heap.size + 1 + 1 + 1 + 1, 9, none⟩ = some (.int .i64 (c.st)) ∧ w'.cell? ⟨w.heap.size + 1 + 1 + 1 + 1, 10, none⟩ = some (.int .i64 (c.tr))) ((refine ⟨?_, ?_, ?_, ?_, ?_, ?_, ?_, ?_, ?_, ?_, ?_, ?_, ?_, ?_, ?_⟩ <;> (simp (disch := (first | ((try simp only [World.size_alloc]) <;> omega) | fail)) only [World.cell?_drew, World.cell?_alloc_at, World.cell?_alloc_past] <;> rfl))) (fail)
  all_goals
    go_wp2
    refine bodyPost_ret (v := .tuple #[S.C.v { c with r7 := wrap64 (c.r7 - 8), pc := wrap64 (wrap64 (c.pc + size) + n) }, S.Q.w ⟨2, wrap64 (c.r7 - 8), wrap64 (c.pc + size), 0⟩]) (by simp [results, Tryd.results40, go_sem]) rfl ⟨rfl, ?_⟩
    first | exact bl5 _ _ _ _ _ _ | exact (bl5 _ _ _ _ _ _).drew | exact ((bl5 _ _ _ _ _ _).alloc (by simp; omega) _).alloc (by simp; omega) _

set_option maxRecDepth 100000 in
set_option maxHeartbeats 8000000 in
theorem rstart_24 (c : S.C) (a b : Nat) (ha : a < 8) (hb : b < 8) (n size : Int) (h : (c.st != 0) = false) (x y : Int) (hx : ([.int .i64 c.r0, .int .i64 c.r1, .int .i64 c.r2, .int .i64 c.r3, .int .i64 c.r4, .int .i64 c.r5, .int .i64 c.r6, .int .i64 c.r7, .int .i64 c.pc, .int .i64 c.st, .int .i64 c.tr] : List Value)[a]? = some (.int .i64 x)) (hy : ([.int .i64 c.r0, .int .i64 c.r1, .int .i64 c.r2, .int .i64 c.r3, .int .i64 c.r4, .int .i64 c.r5, .int .i64 c.r6, .int .i64 c.r7, .int .i64 c.pc, .int .i64 c.st, .int .i64 c.tr] : List Value)[b]? = some (.int .i64 y)) (w : World) :
    Calls Tryd.prog 40 #[c.v, S.insV 24 a b n, .int .i64 size] w fun e w' => e = .returned (.tuple #[S.C.v { c with r7 := wrap64 (c.r7 + 8), pc := wrap64 (c.pc + size) }, S.Q.w ⟨1, c.r7, 0, 8⟩]) ∧ Below w.heap.size w w' := by
  have h0 : (0 : Int) ≤ (a : Int) := by omega
  have h8 : (a : Int) < 8 := by omega
  have g0 : (0 : Int) ≤ (b : Int) := by omega
  have g8 : (b : Int) < 8 := by omega
  have hsz : (I.size 24 == 0) = false := by decide
  go_enter Tryd.func40, Tryd.ntmps40
  go_wp2_with (go_at_call 17; refine (rsize_any _ _).mono ?_; rintro e w' ⟨rfl, rfl⟩)
  go_region_held3 (fun w' => w'.cell? ⟨w.heap.size + 1, 1, none⟩ = some (.int .i64 a) ∧ w'.cell? ⟨w.heap.size + 1, 2, none⟩ = some (.int .i64 b) ∧ w'.cell? ⟨w.heap.size + 1, 3, none⟩ = some (.int .i64 n) ∧ w'.cell? ⟨w.heap.size, 7, none⟩ = some (.int .i64 c.r7) ∧ w'.cell? ⟨w.heap.size + 1 + 1 + 1 + 1, 0, none⟩ = some (.int .i64 (c.r0)) ∧ w'.cell? ⟨w.heap.size + 1 + 1 + 1 + 1, 1, none⟩ = some (.int .i64 (c.r1)) ∧ w'.cell? ⟨w.heap.size + 1 + 1 + 1 + 1, 2, none⟩ = some (.int .i64 (c.r2)) ∧ w'.cell? ⟨w.heap.size + 1 + 1 + 1 + 1, 3, none⟩ = some (.int .i64 (c.r3)) ∧ w'.cell? ⟨w.heap.size + 1 + 1 + 1 + 1, 4, none⟩ = some (.int .i64 (c.r4)) ∧ w'.cell? ⟨w.heap.size + 1 + 1 + 1 + 1, 5, none⟩ = some (.int .i64 (c.r5)) ∧ w'.cell? ⟨w.heap.size + 1 + 1 + 1 + 1, 6, none⟩ = some (.int .i64 (c.r6)) ∧ w'.cell? ⟨w.heap.size + 1 + 1 + 1 + 1, 7, none⟩ = some (.int .i64 (wrap64 (c.r7 + 8))) ∧ w'.cell? ⟨w.heap.size + 1 + 1 + 1 + 1, 8, none⟩ = some (.int .i64 (wrap64 (c.pc + size))) ∧ w'.cell? ⟨w.heap.size + 1 + 1 + 1 + 1, 9, none⟩ = some (.int .i64 (c.st)) ∧ w'.cell? ⟨w.heap.size + 1 + 1 + 1 + 1, 10, none⟩ = some (.int .i64 (c.tr))) ((refine ⟨?_, ?_, ?_, ?_, ?_, ?_, ?_, ?_, ?_, ?_, ?_, ?_, ?_, ?_, ?_⟩ <;> (simp (disch := (first | ((try simp only [World.size_alloc]) <;> omega) | fail)) only [World.cell?_drew, World.cell?_alloc_at, World.cell?_alloc_past] <;> rfl))) (fail)
  all_goals
    go_wp2
    refine bodyPost_ret (v := .tuple #[S.C.v { c with r7 := wrap64 (c.r7 + 8), pc := wrap64 (c.pc + size) }, S.Q.w ⟨1, c.r7, 0, 8⟩]) (by simp [results, Tryd.results40, go_sem]) rfl ⟨rfl, ?_⟩
    first | exact bl5 _ _ _ _ _ _ | exact (bl5 _ _ _ _ _ _).drew | exact ((bl5 _ _ _ _ _ _).alloc (by simp; omega) _).alloc (by simp; omega) _

set_option maxRecDepth 100000 in
set_option maxHeartbeats 8000000 in
theorem rstart_20 (c : S.C) (a b : Nat) (ha : a < 8) (hb : b < 8) (n size : Int) (h : (c.st != 0) = false) (x y : Int) (hx : ([.int .i64 c.r0, .int .i64 c.r1, .int .i64 c.r2, .int .i64 c.r3, .int .i64 c.r4, .int .i64 c.r5, .int .i64 c.r6, .int .i64 c.r7, .int .i64 c.pc, .int .i64 c.st, .int .i64 c.tr] : List Value)[a]? = some (.int .i64 x)) (hy : ([.int .i64 c.r0, .int .i64 c.r1, .int .i64 c.r2, .int .i64 c.r3, .int .i64 c.r4, .int .i64 c.r5, .int .i64 c.r6, .int .i64 c.r7, .int .i64 c.pc, .int .i64 c.st, .int .i64 c.tr] : List Value)[b]? = some (.int .i64 y)) (w : World) :
    Calls Tryd.prog 40 #[c.v, S.insV 20 a b n, .int .i64 size] w fun e w' => e = .returned (.tuple #[S.C.v { c with pc := wrap64 (wrap64 (c.pc + size) + n) }, S.Q.w ⟨0, 0, 0, 0⟩]) ∧ Below w.heap.size w w' := by
  have h0 : (0 : Int) ≤ (a : Int) := by omega
  have h8 : (a : Int) < 8 := by omega
  have g0 : (0 : Int) ≤ (b : Int) := by omega
  have g8 : (b : Int) < 8 := by omega
  have hsz : (I.size 20 == 0) = false := by decide
  go_enter Tryd.func40, Tryd.ntmps40
  go_wp2_with (go_at_call 17; refine (rsize_any _ _).mono ?_; rintro e w' ⟨rfl, rfl⟩)
  refine bodyPost_ret (v := .tuple #[S.C.v { c with pc := wrap64 (wrap64 (c.pc + size) + n) }, S.Q.w ⟨0, 0, 0, 0⟩]) (by simp [results, Tryd.results40, go_sem]) rfl ⟨rfl, ?_⟩
  first | exact bl5 _ _ _ _ _ _ | exact (bl5 _ _ _ _ _ _).drew | exact ((bl5 _ _ _ _ _ _).alloc (by simp; omega) _).alloc (by simp; omega) _

set_option maxRecDepth 100000 in
set_option maxHeartbeats 8000000 in
theorem rstart_25 (c : S.C) (a b : Nat) (ha : a < 8) (hb : b < 8) (n size : Int) (h : (c.st != 0) = false) (x y : Int) (hx : ([.int .i64 c.r0, .int .i64 c.r1, .int .i64 c.r2, .int .i64 c.r3, .int .i64 c.r4, .int .i64 c.r5, .int .i64 c.r6, .int .i64 c.r7, .int .i64 c.pc, .int .i64 c.st, .int .i64 c.tr] : List Value)[a]? = some (.int .i64 x)) (hy : ([.int .i64 c.r0, .int .i64 c.r1, .int .i64 c.r2, .int .i64 c.r3, .int .i64 c.r4, .int .i64 c.r5, .int .i64 c.r6, .int .i64 c.r7, .int .i64 c.pc, .int .i64 c.st, .int .i64 c.tr] : List Value)[b]? = some (.int .i64 y)) (w : World) :
    Calls Tryd.prog 40 #[c.v, S.insV 25 a b n, .int .i64 size] w fun e w' => e = .returned (.tuple #[S.C.v { c with pc := wrap64 (wrap64 (c.pc + size) + n) }, S.Q.w ⟨0, 0, 0, 0⟩]) ∧ Below w.heap.size w w' := by
  have h0 : (0 : Int) ≤ (a : Int) := by omega
  have h8 : (a : Int) < 8 := by omega
  have g0 : (0 : Int) ≤ (b : Int) := by omega
  have g8 : (b : Int) < 8 := by omega
  have hsz : (I.size 25 == 0) = false := by decide
  go_enter Tryd.func40, Tryd.ntmps40
  go_wp2_with (go_at_call 17; refine (rsize_any _ _).mono ?_; rintro e w' ⟨rfl, rfl⟩)
  refine bodyPost_ret (v := .tuple #[S.C.v { c with pc := wrap64 (wrap64 (c.pc + size) + n) }, S.Q.w ⟨0, 0, 0, 0⟩]) (by simp [results, Tryd.results40, go_sem]) rfl ⟨rfl, ?_⟩
  first | exact bl5 _ _ _ _ _ _ | exact (bl5 _ _ _ _ _ _).drew | exact ((bl5 _ _ _ _ _ _).alloc (by simp; omega) _).alloc (by simp; omega) _

set_option maxRecDepth 100000 in
set_option maxHeartbeats 8000000 in
theorem rstart_21j (c : S.C) (a b : Nat) (ha : a < 8) (hb : b < 8) (n size : Int) (h : (c.st != 0) = false) (x y : Int) (h0x : x = 0) (hx : ([.int .i64 c.r0, .int .i64 c.r1, .int .i64 c.r2, .int .i64 c.r3, .int .i64 c.r4, .int .i64 c.r5, .int .i64 c.r6, .int .i64 c.r7, .int .i64 c.pc, .int .i64 c.st, .int .i64 c.tr] : List Value)[a]? = some (.int .i64 x)) (hy : ([.int .i64 c.r0, .int .i64 c.r1, .int .i64 c.r2, .int .i64 c.r3, .int .i64 c.r4, .int .i64 c.r5, .int .i64 c.r6, .int .i64 c.r7, .int .i64 c.pc, .int .i64 c.st, .int .i64 c.tr] : List Value)[b]? = some (.int .i64 y)) (w : World) :
    Calls Tryd.prog 40 #[c.v, S.insV 21 a b n, .int .i64 size] w fun e w' => e = .returned (.tuple #[S.C.v { c with pc := wrap64 (wrap64 (c.pc + size) + n) }, S.Q.w ⟨0, 0, 0, 0⟩]) ∧ Below w.heap.size w w' := by
  have h0 : (0 : Int) ≤ (a : Int) := by omega
  have h8 : (a : Int) < 8 := by omega
  have g0 : (0 : Int) ≤ (b : Int) := by omega
  have g8 : (b : Int) < 8 := by omega
  have hsz : (I.size 21 == 0) = false := by decide
  go_enter Tryd.func40, Tryd.ntmps40
  go_wp2_with (go_at_call 17; refine (rsize_any _ _).mono ?_; rintro e w' ⟨rfl, rfl⟩)
  refine bodyPost_ret (v := .tuple #[S.C.v { c with pc := wrap64 (wrap64 (c.pc + size) + n) }, S.Q.w ⟨0, 0, 0, 0⟩]) (by simp [results, Tryd.results40, go_sem]) rfl ⟨rfl, ?_⟩
  first | exact bl5 _ _ _ _ _ _ | exact (bl5 _ _ _ _ _ _).drew | exact ((bl5 _ _ _ _ _ _).alloc (by simp; omega) _).alloc (by simp; omega) _

set_option maxRecDepth 100000 in
set_option maxHeartbeats 8000000 in
theorem rstart_21s (c : S.C) (a b : Nat) (ha : a < 8) (hb : b < 8) (n size : Int) (h : (c.st != 0) = false) (x y : Int) (h0x : ¬ x = 0) (hx : ([.int .i64 c.r0, .int .i64 c.r1, .int .i64 c.r2, .int .i64 c.r3, .int .i64 c.r4, .int .i64 c.r5, .int .i64 c.r6, .int .i64 c.r7, .int .i64 c.pc, .int .i64 c.st, .int .i64 c.tr] : List Value)[a]? = some (.int .i64 x)) (hy : ([.int .i64 c.r0, .int .i64 c.r1, .int .i64 c.r2, .int .i64 c.r3, .int .i64 c.r4, .int .i64 c.r5, .int .i64 c.r6, .int .i64 c.r7, .int .i64 c.pc, .int .i64 c.st, .int .i64 c.tr] : List Value)[b]? = some (.int .i64 y)) (w : World) :
    Calls Tryd.prog 40 #[c.v, S.insV 21 a b n, .int .i64 size] w fun e w' => e = .returned (.tuple #[S.C.v { c with pc := wrap64 (c.pc + size) }, S.Q.w ⟨0, 0, 0, 0⟩]) ∧ Below w.heap.size w w' := by
  have h0 : (0 : Int) ≤ (a : Int) := by omega
  have h8 : (a : Int) < 8 := by omega
  have g0 : (0 : Int) ≤ (b : Int) := by omega
  have g8 : (b : Int) < 8 := by omega
  have hsz : (I.size 21 == 0) = false := by decide
  go_enter Tryd.func40, Tryd.ntmps40
  go_wp2_with (go_at_call 17; refine (rsize_any _ _).mono ?_; rintro e w' ⟨rfl, rfl⟩)
  refine bodyPost_ret (v := .tuple #[S.C.v { c with pc := wrap64 (c.pc + size) }, S.Q.w ⟨0, 0, 0, 0⟩]) (by simp [results, Tryd.results40, go_sem]) rfl ⟨rfl, ?_⟩
  first | exact bl5 _ _ _ _ _ _ | exact (bl5 _ _ _ _ _ _).drew | exact ((bl5 _ _ _ _ _ _).alloc (by simp; omega) _).alloc (by simp; omega) _

set_option maxRecDepth 100000 in
set_option maxHeartbeats 8000000 in
theorem rstart_26j (c : S.C) (a b : Nat) (ha : a < 8) (hb : b < 8) (n size : Int) (h : (c.st != 0) = false) (x y : Int) (h0x : x = 0) (hx : ([.int .i64 c.r0, .int .i64 c.r1, .int .i64 c.r2, .int .i64 c.r3, .int .i64 c.r4, .int .i64 c.r5, .int .i64 c.r6, .int .i64 c.r7, .int .i64 c.pc, .int .i64 c.st, .int .i64 c.tr] : List Value)[a]? = some (.int .i64 x)) (hy : ([.int .i64 c.r0, .int .i64 c.r1, .int .i64 c.r2, .int .i64 c.r3, .int .i64 c.r4, .int .i64 c.r5, .int .i64 c.r6, .int .i64 c.r7, .int .i64 c.pc, .int .i64 c.st, .int .i64 c.tr] : List Value)[b]? = some (.int .i64 y)) (w : World) :
    Calls Tryd.prog 40 #[c.v, S.insV 26 a b n, .int .i64 size] w fun e w' => e = .returned (.tuple #[S.C.v { c with pc := wrap64 (wrap64 (c.pc + size) + n) }, S.Q.w ⟨0, 0, 0, 0⟩]) ∧ Below w.heap.size w w' := by
  have h0 : (0 : Int) ≤ (a : Int) := by omega
  have h8 : (a : Int) < 8 := by omega
  have g0 : (0 : Int) ≤ (b : Int) := by omega
  have g8 : (b : Int) < 8 := by omega
  have hsz : (I.size 26 == 0) = false := by decide
  go_enter Tryd.func40, Tryd.ntmps40
  go_wp2_with (go_at_call 17; refine (rsize_any _ _).mono ?_; rintro e w' ⟨rfl, rfl⟩)
  refine bodyPost_ret (v := .tuple #[S.C.v { c with pc := wrap64 (wrap64 (c.pc + size) + n) }, S.Q.w ⟨0, 0, 0, 0⟩]) (by simp [results, Tryd.results40, go_sem]) rfl ⟨rfl, ?_⟩
  first | exact bl5 _ _ _ _ _ _ | exact (bl5 _ _ _ _ _ _).drew | exact ((bl5 _ _ _ _ _ _).alloc (by simp; omega) _).alloc (by simp; omega) _

set_option maxRecDepth 100000 in
set_option maxHeartbeats 8000000 in
theorem rstart_26s (c : S.C) (a b : Nat) (ha : a < 8) (hb : b < 8) (n size : Int) (h : (c.st != 0) = false) (x y : Int) (h0x : ¬ x = 0) (hx : ([.int .i64 c.r0, .int .i64 c.r1, .int .i64 c.r2, .int .i64 c.r3, .int .i64 c.r4, .int .i64 c.r5, .int .i64 c.r6, .int .i64 c.r7, .int .i64 c.pc, .int .i64 c.st, .int .i64 c.tr] : List Value)[a]? = some (.int .i64 x)) (hy : ([.int .i64 c.r0, .int .i64 c.r1, .int .i64 c.r2, .int .i64 c.r3, .int .i64 c.r4, .int .i64 c.r5, .int .i64 c.r6, .int .i64 c.r7, .int .i64 c.pc, .int .i64 c.st, .int .i64 c.tr] : List Value)[b]? = some (.int .i64 y)) (w : World) :
    Calls Tryd.prog 40 #[c.v, S.insV 26 a b n, .int .i64 size] w fun e w' => e = .returned (.tuple #[S.C.v { c with pc := wrap64 (c.pc + size) }, S.Q.w ⟨0, 0, 0, 0⟩]) ∧ Below w.heap.size w w' := by
  have h0 : (0 : Int) ≤ (a : Int) := by omega
  have h8 : (a : Int) < 8 := by omega
  have g0 : (0 : Int) ≤ (b : Int) := by omega
  have g8 : (b : Int) < 8 := by omega
  have hsz : (I.size 26 == 0) = false := by decide
  go_enter Tryd.func40, Tryd.ntmps40
  go_wp2_with (go_at_call 17; refine (rsize_any _ _).mono ?_; rintro e w' ⟨rfl, rfl⟩)
  refine bodyPost_ret (v := .tuple #[S.C.v { c with pc := wrap64 (c.pc + size) }, S.Q.w ⟨0, 0, 0, 0⟩]) (by simp [results, Tryd.results40, go_sem]) rfl ⟨rfl, ?_⟩
  first | exact bl5 _ _ _ _ _ _ | exact (bl5 _ _ _ _ _ _).drew | exact ((bl5 _ _ _ _ _ _).alloc (by simp; omega) _).alloc (by simp; omega) _

end Go.Proofs.YtffokdldgdjkhaaDoor

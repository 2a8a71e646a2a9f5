/- The document's Join. -/
import Derived.Test.YtfkpbmopneleiaaMemPutMath
import Derived.Test.YtfkpbmopneleiaaMemEvenMath
import Derived.Test.YtfkpbmopneleiaaMemJoin
import Derived.Test.YtfkpbmopneleiaaMemNew
import Derived.Test.YtfkpbmopneleiaaMemFoot
namespace Go.Proofs.Ytfkpbmopneleiaa
open Go.RowKit Go.Maps
set_option linter.unusedVariables false

theorem below_grown {w w' : World} (h : Below w.heap.size w w') (r : Option Nat) : w.grownBy w' r := ⟨h.os, h.tape, h.output, h.size, fun k hk _ => h.block k hk⟩

structure FJ (z : Nat) (w : World) (R W : List Int) (v1 v2 : Value) (L1 L2 : List Int) : Prop where
  c0 : w.cell? ⟨z + 1, 0, none⟩ = some v1
  c1 : w.cell? ⟨z + 1, 1, none⟩ = some v2
  fz : ∀ o, w.frozen? ⟨z + 1, o, none⟩ = false
  r0 : w.cell? ⟨z, 0, none⟩ = some (.slice none 0 0)
  r1 : w.cell? ⟨z, 1, none⟩ = some (.slice none 0 0)
  rz : ∀ o, w.frozen? ⟨z, o, none⟩ = false
  o1 : w.ownsRow (z + 2) 2 1 v1 L1.length (L1.map (Value.int .i64))
  o2 : w.ownsRow (z + 2) 2 1 v2 L2.length (L2.map (Value.int .i64))
  i1 : M.Ris L1 (· ∈ R)
  i2 : M.Ris L2 (· ∈ W)
  f1 : ∀ n ∈ L1, (Lit.int .i64 n).wf = true
  f2 : ∀ n ∈ L2, (Lit.int .i64 n).wf = true

theorem FJ.lt {z : Nat} {w : World} {R W : List Int} {v1 v2 : Value} {L1 L2 : List Int} (h : FJ z w R W v1 v2 L1 L2) : z + 1 < w.heap.size := World.block_lt_of_cell? w ⟨z + 1, 0, none⟩ h.c0
theorem FJ.below {z : Nat} {w w1 : World} {R W : List Int} {v1 v2 : Value} {L1 L2 : List Int} (h : FJ z w R W v1 v2 L1 L2) (hb : Below w.heap.size w w1) : FJ z w1 R W v1 v2 L1 L2 := by
  have hz := h.lt
  exact { c0 := (hb.cell (p := ⟨z + 1, 0, none⟩) hz).trans h.c0, c1 := (hb.cell (p := ⟨z + 1, 1, none⟩) hz).trans h.c1, fz := fun o => (hb.frozen (p := ⟨z + 1, o, none⟩) hz).trans (h.fz o), r0 := (hb.cell (p := ⟨z, 0, none⟩) (by show z < _; omega)).trans h.r0, r1 := (hb.cell (p := ⟨z, 1, none⟩) (by show z < _; omega)).trans h.r1, rz := fun o => (hb.frozen (p := ⟨z, o, none⟩) (by show z < _; omega)).trans (h.rz o), o1 := h.o1.kept (below_grown hb (some z)) (.inr fun e => by have := (h.o1.lt _ e).1; omega), o2 := h.o2.kept (below_grown hb (some z)) (.inr fun e => by have := (h.o2.lt _ e).1; omega), i1 := h.i1, i2 := h.i2, f1 := h.f1, f2 := h.f2 }
theorem ris_put {n : Int} {L R : List Int} (h : M.Ris L (· ∈ R)) : M.Ris (putL n L) (· ∈ R ++ [n]) := by
  obtain ⟨h1, h2⟩ := putL_ris (n := n) h
  exact ⟨h1, fun x => by rw [h2 x]; simp⟩
theorem fits_put {n : Int} {L R : List Int} (h : M.Ris L (· ∈ R)) (hf : ∀ n ∈ L, (Lit.int .i64 n).wf = true) (hn : (Lit.int .i64 n).wf = true) : ∀ m ∈ putL n L, (Lit.int .i64 m).wf = true := fun m hm => by
  have := ((putL_ris (n := n) h).mem m).1 hm
  rcases this with h1 | h1
  · exact hf m ((h.mem m).2 h1)
  · rw [h1]; exact hn
theorem FJ.step1 {z : Nat} {w w1 : World} {R W : List Int} {v1 v2 v' : Value} {L1 L2 : List Int} {n : Int} (h : FJ z w R W v1 v2 L1 L2) (hb : Below w.heap.size w w1) (ho : w1.ownsRow w.heap.size 2 1 v' (putL n L1).length ((putL n L1).map (Value.int .i64))) (hn : (Lit.int .i64 n).wf = true) : FJ z (w1.setCell ⟨z + 1, 0, none⟩ v') (R ++ [n]) W v' v2 (putL n L1) L2 := by
  have k := h.below hb
  have hz := h.lt
  have g := gb_set w1 ⟨z + 1, 0, none⟩ v'
  refine { c0 := World.cell?_setCell_same' _ _ _ (by rw [k.c0]; rfl), c1 := by refine (World.cell?_setCell_other _ _ _ _ (by simp)).trans ?_; exact k.c1, fz := fun o => by simpa using k.fz o, r0 := by rw [World.cell?_setCell_far _ _ _ _ (by simp)]; exact k.r0, r1 := by rw [World.cell?_setCell_far _ _ _ _ (by simp)]; exact k.r1, rz := fun o => by simpa using k.rz o, o1 := (own_base ho (by omega)).kept g (.inr fun e => by have : w.heap.size ≤ z + 1 := (ho.lt _ e).1; omega), o2 := k.o2.kept g (.inr fun e => by have : z + 2 ≤ z + 1 := (k.o2.lt _ e).1; omega), i1 := ris_put k.i1, i2 := k.i2, f1 := fits_put k.i1 k.f1 hn, f2 := k.f2 }
theorem FJ.step2 {z : Nat} {w w1 : World} {R W : List Int} {v1 v2 v' : Value} {L1 L2 : List Int} {n : Int} (h : FJ z w R W v1 v2 L1 L2) (hb : Below w.heap.size w w1) (ho : w1.ownsRow w.heap.size 2 1 v' (putL n L2).length ((putL n L2).map (Value.int .i64))) (hn : (Lit.int .i64 n).wf = true) : FJ z (w1.setCell ⟨z + 1, 1, none⟩ v') R (W ++ [n]) v1 v' L1 (putL n L2) := by
  have k := h.below hb
  have hz := h.lt
  have g := gb_set w1 ⟨z + 1, 1, none⟩ v'
  refine { c1 := World.cell?_setCell_same' _ _ _ (by rw [k.c1]; rfl), c0 := by refine (World.cell?_setCell_other _ _ _ _ (by simp)).trans ?_; exact k.c0, fz := fun o => by simpa using k.fz o, r0 := by rw [World.cell?_setCell_far _ _ _ _ (by simp)]; exact k.r0, r1 := by rw [World.cell?_setCell_far _ _ _ _ (by simp)]; exact k.r1, rz := fun o => by simpa using k.rz o, o2 := (own_base ho (by omega)).kept g (.inr fun e => by have : w.heap.size ≤ z + 1 := (ho.lt _ e).1; omega), o1 := k.o1.kept g (.inr fun e => by have : z + 2 ≤ z + 1 := (k.o1.lt _ e).1; omega), i2 := ris_put k.i2, i1 := k.i1, f2 := fits_put k.i2 k.f2 hn, f1 := k.f1 }
end Go.Proofs.Ytfkpbmopneleiaa

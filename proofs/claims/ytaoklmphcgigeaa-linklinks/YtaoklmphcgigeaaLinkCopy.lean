/- Copies of objects, in rows of their own. -/
import Derived.Test.YtaoklmphcgigeaaLinkObjRow
import Derived.Deep.CutRange
namespace Go.Proofs.Ytaoklmphcgigeaa
open Go.RowKit Go.Lib
set_option linter.unusedVariables false
set_option linter.unusedSimpArgs false

def rowI (o : ObjD) (v : Value) : Row := ⟨2, 1, v, o.data.length, o.data.flatMap intC⟩
def rowS (o : ObjD) (v : Value) : Row := ⟨36, 3, v, o.syms.length, o.syms.flatMap symC⟩
def rowR (o : ObjD) (v : Value) : Row := ⟨45, 4, v, o.rels.length, o.rels.flatMap relC⟩
def objRows (p : ObjD × Sl) : List Row := [rowI p.1 (.slice p.2.a1 p.2.l1 p.2.c1), rowS p.1 (.slice p.2.a2 p.2.l2 p.2.c2), rowR p.1 (.slice p.2.a3 p.2.l3 p.2.c3)]
theorem BS.noBox {w x : World} {rs : List Row} {bs : List (Nat × List Value)} (h : BS w x rs bs) : BS w x rs [] :=
  { low := h.low, own := h.own, dis := h.dis, box := by simp, far := by simp, nd := by simp }
/-- The call's state: what it was given, its answer's box, its copy. -/
def CP (w x : World) (P : List Value) (r1 r2 r3 : Row) (O : List Value) : Prop :=
  BS w x [r1, r2, r3] [(w.heap.size + 1 + 1, O), (w.heap.size + 1, [.string { data := #[] }, .slice none 0 0, .slice none 0 0, .slice none 0 0]), (w.heap.size, P)]
theorem CP.start (w : World) (a b c : Array Value) (hb : b = #[.string { data := #[] }, .slice none 0 0, .slice none 0 0, .slice none 0 0]) (t : TypeId) : CP w (((w.alloc (.cells a t)).alloc (.cells b t)).alloc (.cells c t)) a.toList ⟨2, 1, .slice none 0 0, 0, []⟩ ⟨36, 3, .slice none 0 0, 0, []⟩ ⟨45, 4, .slice none 0 0, 0, []⟩ c.toList := by
  subst hb
  have h := ((((((BS.start w).nil 45 4).nil 36 3).nil 2 1).alloc a t).alloc #[.string { data := #[] }, .slice none 0 0, .slice none 0 0, .slice none 0 0] t).alloc c t
  unfold CP
  simpa using h
theorem CP.cells {w x : World} {P O : List Value} {r1 r2 r3 : Row} (h : CP w x P r1 r2 r3 O) : Cells x (w.heap.size + 1 + 1) O ∧ Cells x w.heap.size P ∧ (∀ o, x.frozen? ⟨w.heap.size + 1 + 1, o, none⟩ = false) ∧ w.heap.size + 1 + 1 < x.heap.size := by
  obtain ⟨h1, h2, h3, -⟩ := BS.box h 0 _ rfl
  obtain ⟨k1, -⟩ := BS.box h 2 _ rfl
  exact ⟨h1, k1, h2, h3⟩
theorem CP.res {w x : World} {P O : List Value} {r1 r2 r3 : Row} (h : CP w x P r1 r2 r3 O) : Cells x (w.heap.size + 1) [.string { data := #[] }, .slice none 0 0, .slice none 0 0, .slice none 0 0] ∧ ∀ o, x.frozen? ⟨w.heap.size + 1, o, none⟩ = false := by
  obtain ⟨h1, h2, -⟩ := BS.box h 1 _ rfl
  exact ⟨h1, h2⟩
theorem CP.push1 {w x y : World} {P : List Value} {r1 r2 r3 : Row} {o0 o1 o2 o3 v' : Value} {n : Nat} {cs : List Value} (h : CP w x P r1 r2 r3 [o0, o1, o2, o3]) (ho : y.ownsRow w.heap.size r1.ty r1.k v' n cs) (hg : x.grownBy y r1.v.ownBlock) (hat : ∀ g, v'.ownBlock = some g → r1.v.ownBlock = some g ∨ x.heap.size ≤ g) : CP w (y.setCell ⟨w.heap.size + 1 + 1, 1, none⟩ v') P ⟨r1.ty, r1.k, v', n, cs⟩ r2 r3 [o0, v', o2, o3] := by
  have h1 := BS.push h (k := 0) rfl ho hg hat
  exact h1.put 0 _ _ rfl 1 (by simp) v'
theorem CP.push2 {w x y : World} {P : List Value} {r1 r2 r3 : Row} {o0 o1 o2 o3 v' : Value} {n : Nat} {cs : List Value} (h : CP w x P r1 r2 r3 [o0, o1, o2, o3]) (ho : y.ownsRow w.heap.size r2.ty r2.k v' n cs) (hg : x.grownBy y r2.v.ownBlock) (hat : ∀ g, v'.ownBlock = some g → r2.v.ownBlock = some g ∨ x.heap.size ≤ g) : CP w (y.setCell ⟨w.heap.size + 1 + 1, 2, none⟩ v') P r1 ⟨r2.ty, r2.k, v', n, cs⟩ r3 [o0, o1, v', o3] := by
  have h1 := BS.push h (k := 1) rfl ho hg hat
  exact h1.put 0 _ _ rfl 2 (by simp) v'
theorem CP.push3 {w x y : World} {P : List Value} {r1 r2 r3 : Row} {o0 o1 o2 o3 v' : Value} {n : Nat} {cs : List Value} (h : CP w x P r1 r2 r3 [o0, o1, o2, o3]) (ho : y.ownsRow w.heap.size r3.ty r3.k v' n cs) (hg : x.grownBy y r3.v.ownBlock) (hat : ∀ g, v'.ownBlock = some g → r3.v.ownBlock = some g ∨ x.heap.size ≤ g) : CP w (y.setCell ⟨w.heap.size + 1 + 1, 3, none⟩ v') P r1 r2 ⟨r3.ty, r3.k, v', n, cs⟩ [o0, o1, o2, v'] := by
  have h1 := BS.push h (k := 2) rfl ho hg hat
  exact h1.put 0 _ _ rfl 3 (by simp) v'
theorem CP.outNe {w x : World} {P O : List Value} {r1 r2 r3 : Row} (h : CP w x P r1 r2 r3 O) : r1.v.ownBlock ≠ some (w.heap.size + 1 + 1) ∧ r2.v.ownBlock ≠ some (w.heap.size + 1 + 1) ∧ r3.v.ownBlock ≠ some (w.heap.size + 1 + 1) := ⟨BS.far h 0 0 _ _ rfl rfl, BS.far h 0 1 _ _ rfl rfl, BS.far h 0 2 _ _ rfl rfl⟩

set_option maxRecDepth 100000 in
set_option maxHeartbeats 8000000 in
theorem copyB_any {w : World} {o : ObjD} {s : Sl} (h : OV w o s) (hl : Len 140737488355328 o) :
    Calls Try.prog 19 #[s.val o] w fun e w' => ∃ s', e = .returned (s'.val o) ∧ BS w w' (objRows (o, s')) [] := by
  obtain ⟨i1, hi1, hz10, hz11, hz12⟩ := info_partsL infoI
  obtain ⟨i2, hi2, hz20, hz21, hz22⟩ := info_partsL infoS
  obtain ⟨i3, hi3, hz30, hz31, hz32⟩ := info_partsL infoR
  have hn1 := h.ints.count
  have hn2 := h.syms.count
  have hn3 := h.rels.count
  obtain ⟨hl1, hl2, hl3⟩ := hl
  obtain ⟨a1, l1, c1, a2, l2, c2, a3, l3, c3⟩ := s
  unfold Sl.val
  simp only at *
  rw [hn1] at hl1
  rw [hn2] at hl2
  rw [hn3] at hl3
  have HO : Hid _ := h
  have HNN : Hid (o.data.length = l1 ∧ o.syms.length = l2 ∧ o.rels.length = l3) := ⟨hn1, hn2, hn3⟩
  clear h hn1 hn2 hn3
  obtain ⟨code, hcode⟩ : ∃ c, o.code = c := ⟨_, rfl⟩
  rw [hcode]
  have HCO : Hid _ := hcode
  clear hcode
  have HC0 : Hid (CP w (((w.alloc (.cells #[.string code, .slice a1 l1 c1, .slice a2 l2 c2, .slice a3 l3 c3] 40)).alloc (.cells #[.string { data := #[] }, .slice none 0 0, .slice none 0 0, .slice none 0 0] 40)).alloc (.cells #[.string code, .slice none 0 0, .slice none 0 0, .slice none 0 0] 40)) [.string code, .slice a1 l1 c1, .slice a2 l2 c2, .slice a3 l3 c3] ⟨2, 1, .slice none 0 0, 0, []⟩ ⟨36, 3, .slice none 0 0, 0, []⟩ ⟨45, 4, .slice none 0 0, 0, []⟩ [.string code, .slice none 0 0, .slice none 0 0, .slice none 0 0]) := CP.start w _ _ _ rfl _
  obtain ⟨X0, hX0⟩ : ∃ X, ((w.alloc (.cells #[.string code, .slice a1 l1 c1, .slice a2 l2 c2, .slice a3 l3 c3] 40)).alloc (.cells #[.string { data := #[] }, .slice none 0 0, .slice none 0 0, .slice none 0 0] 40)).alloc (.cells #[.string code, .slice none 0 0, .slice none 0 0, .slice none 0 0] 40) = X := ⟨_, rfl⟩
  rw [hX0] at HC0
  have HS1 : Hid _ := (HO.out.ints.below (BS.low HC0.out)).src
  have HN1 : Hid _ := HO.out.ints.nilOf
  have hB0 := (BS.low HC0.out).size
  have HX0 : Hid _ := hX0
  clear hX0
  have HW1 : Hid _ := BS.own HC0.out 0 _ rfl
  go_enter Try.func19, Try.ntmps19
  go_upto_region 2 with fail
  rw [HX0.out]
  have t1 := HC0.out.cells.1 1 _ rfl
  have u1 := HC0.out.cells.2.1 1 _ rfl
  go_wp2_with (first | (at_builtin; refine wpList_append_more rfl _ _ 26 rfl w.heap.size 2 i1 _ 1 8 Try.underlying26 hi1 hz10 hz11 hz12 rfl (by decide) (v := .slice none 0 0) (n := 0) (xs := []) rfl HW1.out hB0 (a := a1) (l := l1) (c := c1) (cs := o.data.flatMap intC) rfl HN1.out HS1.out.1 HS1.out.2.1 HS1.out.2.2 (by omega) (by omega) ?_) | go_in)
  intro v1 x1 ho1 hg1 hat1
  obtain ⟨e1, f1, rfl⟩ := own_slice ho1
  have hne1 := HC0.out.outNe
  have j1 : x1.cell? ⟨w.heap.size + 1 + 1, 1, none⟩ = some (.slice none 0 0) := hg1.cell t1 (by simp [Value.ownBlock])
  have z1 : x1.frozen? ⟨w.heap.size + 1 + 1, 1, none⟩ = false := (hg1.frozen_far ⟨w.heap.size + 1 + 1, 1, none⟩ HC0.out.cells.2.2.2 (by simp [Value.ownBlock])).trans (HC0.out.cells.2.2.1 1)
  have HC1 : Hid (CP w (x1.setCell ⟨w.heap.size + 1 + 1, 1, none⟩ (.slice e1 l1 f1)) [.string code, .slice a1 l1 c1, .slice a2 l2 c2, .slice a3 l3 c3] ⟨2, 1, .slice e1 l1 f1, l1, o.data.flatMap intC⟩ ⟨36, 3, .slice none 0 0, 0, []⟩ ⟨45, 4, .slice none 0 0, 0, []⟩ [.string code, .slice e1 l1 f1, .slice none 0 0, .slice none 0 0]) := HC0.out.push1 ho1 hg1 hat1
  obtain ⟨X1, hX1⟩ : ∃ X, x1.setCell ⟨w.heap.size + 1 + 1, 1, none⟩ (.slice e1 l1 f1) = X := ⟨_, rfl⟩
  rw [hX1] at HC1
  clear HC0 ho1 hg1 hat1 hne1 t1 u1
  have HS2 : Hid _ := (HO.out.syms.below (BS.low HC1.out)).src
  have HN2 : Hid _ := HO.out.syms.nilOf
  have hB1 := (BS.low HC1.out).size
  have HW2 : Hid _ := BS.own HC1.out 1 _ rfl
  have t2 := HC1.out.cells.1 2 _ rfl
  have u2 := HC1.out.cells.2.1 2 _ rfl
  go_wp2_with (first | (at_builtin; refine wpList_append_more rfl _ _ 27 rfl w.heap.size 36 i2 _ 3 32 Try.underlying27 hi2 hz20 hz21 hz22 rfl (by decide) (v := .slice none 0 0) (n := 0) (xs := []) rfl HW2.out hB1 (a := a2) (l := l2) (c := c2) (cs := o.syms.flatMap symC) rfl HN2.out HS2.out.1 HS2.out.2.1 HS2.out.2.2 (by omega) (by omega) ?_) | go_in)
  clear hX1 j1 z1
  intro v2 x2 ho2 hg2 hat2
  obtain ⟨e2, f2, rfl⟩ := own_slice ho2
  have hne2 := HC1.out.outNe
  have j2 : x2.cell? ⟨w.heap.size + 1 + 1, 2, none⟩ = some (.slice none 0 0) := hg2.cell t2 (by simp [Value.ownBlock])
  have z2 : x2.frozen? ⟨w.heap.size + 1 + 1, 2, none⟩ = false := (hg2.frozen_far ⟨w.heap.size + 1 + 1, 2, none⟩ HC1.out.cells.2.2.2 (by simp [Value.ownBlock])).trans (HC1.out.cells.2.2.1 2)
  have HC2 : Hid (CP w (x2.setCell ⟨w.heap.size + 1 + 1, 2, none⟩ (.slice e2 l2 f2)) [.string code, .slice a1 l1 c1, .slice a2 l2 c2, .slice a3 l3 c3] ⟨2, 1, .slice e1 l1 f1, l1, o.data.flatMap intC⟩ ⟨36, 3, .slice e2 l2 f2, l2, o.syms.flatMap symC⟩ ⟨45, 4, .slice none 0 0, 0, []⟩ [.string code, .slice e1 l1 f1, .slice e2 l2 f2, .slice none 0 0]) := HC1.out.push2 ho2 hg2 hat2
  obtain ⟨X2, hX2⟩ : ∃ X, x2.setCell ⟨w.heap.size + 1 + 1, 2, none⟩ (.slice e2 l2 f2) = X := ⟨_, rfl⟩
  rw [hX2] at HC2
  clear HC1 ho2 hg2 hat2 hne2 t2 u2
  have HS3 : Hid _ := (HO.out.rels.below (BS.low HC2.out)).src
  have HN3 : Hid _ := HO.out.rels.nilOf
  have hB2 := (BS.low HC2.out).size
  have HW3 : Hid _ := BS.own HC2.out 2 _ rfl
  have t3 := HC2.out.cells.1 3 _ rfl
  have u3 := HC2.out.cells.2.1 3 _ rfl
  go_wp2_with (first | (at_builtin; refine wpList_append_more rfl _ _ 38 rfl w.heap.size 45 i3 _ 4 40 Try.underlying38 hi3 hz30 hz31 hz32 rfl (by decide) (v := .slice none 0 0) (n := 0) (xs := []) rfl HW3.out hB2 (a := a3) (l := l3) (c := c3) (cs := o.rels.flatMap relC) rfl HN3.out HS3.out.1 HS3.out.2.1 HS3.out.2.2 (by omega) (by omega) ?_) | go_in)
  clear hX2 j2 z2
  intro v3 x3 ho3 hg3 hat3
  obtain ⟨e3, f3, rfl⟩ := own_slice ho3
  have hne3 := HC2.out.outNe
  have j3 : x3.cell? ⟨w.heap.size + 1 + 1, 3, none⟩ = some (.slice none 0 0) := hg3.cell t3 (by simp [Value.ownBlock])
  have z3 : x3.frozen? ⟨w.heap.size + 1 + 1, 3, none⟩ = false := (hg3.frozen_far ⟨w.heap.size + 1 + 1, 3, none⟩ HC2.out.cells.2.2.2 (by simp [Value.ownBlock])).trans (HC2.out.cells.2.2.1 3)
  have HC3 : Hid (CP w (x3.setCell ⟨w.heap.size + 1 + 1, 3, none⟩ (.slice e3 l3 f3)) [.string code, .slice a1 l1 c1, .slice a2 l2 c2, .slice a3 l3 c3] ⟨2, 1, .slice e1 l1 f1, l1, o.data.flatMap intC⟩ ⟨36, 3, .slice e2 l2 f2, l2, o.syms.flatMap symC⟩ ⟨45, 4, .slice e3 l3 f3, l3, o.rels.flatMap relC⟩ [.string code, .slice e1 l1 f1, .slice e2 l2 f2, .slice e3 l3 f3]) := HC2.out.push3 ho3 hg3 hat3
  obtain ⟨X3, hX3⟩ : ∃ X, x3.setCell ⟨w.heap.size + 1 + 1, 3, none⟩ (.slice e3 l3 f3) = X := ⟨_, rfl⟩
  rw [hX3] at HC3
  clear HC2 ho3 hg3 hat3 hne3 t3 u3
  have y0 := HC3.out.cells.1 0 _ rfl
  have y1 := HC3.out.cells.1 1 _ rfl
  have y2 := HC3.out.cells.1 2 _ rfl
  have y3 := HC3.out.cells.1 3 _ rfl
  have t0 := HC3.out.res.1 0 _ rfl
  have t1 := HC3.out.res.1 1 _ rfl
  have t2 := HC3.out.res.1 2 _ rfl
  have t3 := HC3.out.res.1 3 _ rfl
  have g0 := HC3.out.res.2 0
  have g1 := HC3.out.res.2 1
  have g2 := HC3.out.res.2 2
  have g3 := HC3.out.res.2 3
  go_wp2
  refine bodyPost_ret (v := .agg #[.string code, .slice e1 l1 f1, .slice e2 l2 f2, .slice e3 l3 f3]) (by simp [results, Try.results19, go_sem, t0, t1, t2, t3]) rfl ?_
  refine ⟨⟨e1, l1, f1, e2, l2, f2, e3, l3, f3⟩, rfl, ?_⟩
  have h4 := ((((BS.put HC3.out 1 _ _ rfl 0 (by simp) (.string code)).put 1 _ _ rfl 1 (by simp) (.slice e1 l1 f1)).put 1 _ _ rfl 2 (by simp) (.slice e2 l2 f2)).put 1 _ _ rfl 3 (by simp) (.slice e3 l3 f3)).noBox
  unfold objRows rowI rowS rowR
  simp only
  rw [HNN.out.1, HNN.out.2.1, HNN.out.2.2]
  exact h4
end Go.Proofs.Ytaoklmphcgigeaa

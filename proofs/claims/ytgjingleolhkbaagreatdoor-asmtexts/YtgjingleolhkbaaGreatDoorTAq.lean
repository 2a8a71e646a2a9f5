/- A layout that grows item by item. (Written by gen_add.py.) -/
import Derived.Test.YtgjingleolhkbaaGreatDoorTAp
import Derived.Deep.AppendLies
namespace Go.Proofs.YtgjingleolhkbaaGreatDoor
open Go.RowKit Go.Maps
set_option linter.unusedVariables false
set_option linter.unusedSimpArgs false

theorem infoJp : (Tryz.prog.info? 109).map (fun i => (i.zero, i.size, i.bytes)) = some (some (.agg #[.int .i64 0, .int .i64 0]), 2, 16) := by kernel_rfl
theorem infoPc : (Tryz.prog.info? 111).map (fun i => (i.zero, i.size, i.bytes)) = some (some (.agg #[.int .i64 0, .int .i64 0, .int .i64 0]), 3, 24) := by kernel_rfl
def pC (o : Int) : List Value := [.int .i64 o, .int .i64 (Z.sz o), .int .i64 0]
structure LA (w W : World) (yb bm : Nat) (ai : Option Addr) (li ci : Nat) (ts : List X.It) (vp vj : Value) (pn jn : Nat) (pc jc : List Value) : Prop where
 low : Below w.heap.size w W
 hy : w.heap.size ≤ yb
 y : W.heap[yb]? = some (.cells #[.map (some bm), .slice ai li ci, vp, vj, .int .i64 0] 87 (0, 0))
 hm : w.heap.size ≤ bm
 nm : NM W bm ts
 pr : W.ownsRow w.heap.size 111 3 vp pn pc
 jr : W.ownsRow w.heap.size 109 2 vj jn jc
theorem below_own' {w x y : World} {B : Nat} {ty : TypeId} {k n : Nat} {v : Value} {cs : List Value} (h : Below B w x) (ho : x.ownsRow B ty k v n cs) (hg : x.grownBy y v.ownBlock) (hw : B ≤ x.heap.size) : Below B w y := by
 rcases ho.2 with ⟨e1, -⟩ | ⟨g, cap, cur, e1, hb, -⟩
 ·rw [e1] at hg
  exact ⟨hg.os.trans h.os, hg.tape.trans h.tape, hg.output.trans h.output, Nat.le_trans h.size hg.size, fun i hi => (hg.block i (by omega) (fun e => by cases e)).trans (h.block i hi)⟩
 ·rw [e1] at hg
  exact below_gb h hg hb hw
section
variable {w W W' : World} {yb bm : Nat} {ai : Option Addr} {li ci : Nat} {ts : List X.It} {vp vj v' : Value} {pn jn n' : Nat} {pc jc cs : List Value}
theorem LA.below (h : LA w W yb bm ai li ci ts vp vj pn jn pc jc) (hb : Below W.heap.size W W') : LA w W' yb bm ai li ci ts vp vj pn jn pc jc :=
 ⟨h.low.trans (hb.mono h.low.size), h.hy, (hb.block yb (blk_lt h.y)).trans h.y, h.hm, h.nm.below hb, own_thru h.pr hb, own_thru h.jr hb⟩
theorem LA.cells (h : LA w W yb bm ai li ci ts vp vj pn jn pc jc) : W.cell? ⟨yb, 0, none⟩ = some (.map (some bm)) ∧ W.cell? ⟨yb, 1, none⟩ = some (.slice ai li ci) ∧ W.cell? ⟨yb, 2, none⟩ = some vp ∧ W.cell? ⟨yb, 3, none⟩ = some vj ∧ (∀ j, W.frozen? ⟨yb, j, none⟩ = false) ∧ yb < W.heap.size := by
 refine ⟨?_, ?_, ?_, ?_, frozen_of h.y, blk_lt h.y⟩ <;> (rw [cell_of h.y]; rfl)
theorem own_ne {B k n b : Nat} {ty t2 : TypeId} {v : Value} {cs : List Value} {cur : Array Value} {fr : Nat × Nat} (h : W.ownsRow B ty k v n cs) (hb : W.heap[b]? = some (.cells cur t2 fr)) (hne : t2 ≠ ty) : some b ≠ v.ownBlock := fun e => by
 obtain ⟨-, cur2, e2⟩ := own_cells h b _ e.symm hb
 injection e2 with _ e2
 exact hne e2
theorem own_neM {B k n b : Nat} {ty : TypeId} {v : Value} {cs : List Value} (h : W.ownsRow B ty k v n cs) {es : Array MapEntry} {cl : Nat} (hb : W.heap[b]? = some (.map es cl)) : some b ≠ v.ownBlock := fun e => by
 obtain ⟨-, cur2, e2⟩ := own_cells h b _ e.symm hb
 cases e2
theorem LA.pushJ (h : LA w W yb bm ai li ci ts vp vj pn jn pc jc) (ho : W'.ownsRow w.heap.size 109 2 v' n' cs) (hg : W.grownBy W' vj.ownBlock) : LA w (W'.setCell ⟨yb, 3, none⟩ v') yb bm ai li ci ts vp v' pn n' pc cs := by
 have hy : W'.heap[yb]? = _ := (hg.block yb (blk_lt h.y) (own_ne h.jr h.y (by decide))).trans h.y
 obtain ⟨es, cl, hmm⟩ := h.nm.map
 have hs := gb_set W' ⟨yb, 3, none⟩ v'
 have hL : Below w.heap.size w W' := below_own' h.low h.jr hg h.low.size
 refine ⟨hL.setCell h.hy _, h.hy, ?_, h.hm, (h.nm.kept hg (own_neM h.jr hmm)).kept hs ?_, (h.pr.kept hg ?_).kept hs (.inr fun e => ?_), ho.kept hs (.inr fun e => ?_)⟩
 ·rw [heap_setCell_same W' yb 3 _ _ _ hy]
  rfl
 ·intro e; cases e
  have := h.y
  rw [hmm] at this; cases this
 ·rcases h.pr.2 with ⟨e, -⟩ | ⟨g, cap, cur, e, hb, hh, -⟩
  ·exact .inl (by rw [e]; rfl)
  ·refine .inr ?_
   rw [e]
   exact own_ne h.jr hh (by decide)
 ·exact own_ne h.pr h.y (by decide) e.symm
 ·exact own_ne ho hy (by decide) e.symm
theorem LA.pushP (h : LA w W yb bm ai li ci ts vp vj pn jn pc jc) (ho : W'.ownsRow w.heap.size 111 3 v' n' cs) (hg : W.grownBy W' vp.ownBlock) : LA w (W'.setCell ⟨yb, 2, none⟩ v') yb bm ai li ci ts v' vj n' jn cs jc := by
 have hy : W'.heap[yb]? = _ := (hg.block yb (blk_lt h.y) (own_ne h.pr h.y (by decide))).trans h.y
 obtain ⟨es, cl, hmm⟩ := h.nm.map
 have hs := gb_set W' ⟨yb, 2, none⟩ v'
 have hL : Below w.heap.size w W' := below_own' h.low h.pr hg h.low.size
 refine ⟨hL.setCell h.hy _, h.hy, ?_, h.hm, (h.nm.kept hg (own_neM h.pr hmm)).kept hs ?_, ho.kept hs (.inr fun e => ?_), (h.jr.kept hg ?_).kept hs (.inr fun e => ?_)⟩
 ·rw [heap_setCell_same W' yb 2 _ _ _ hy]
  rfl
 ·intro e; cases e
  have := h.y
  rw [hmm] at this; cases this
 ·exact own_ne ho hy (by decide) e.symm
 ·rcases h.jr.2 with ⟨e, -⟩ | ⟨g, cap, cur, e, hb, hh, -⟩
  ·exact .inl (by rw [e]; rfl)
  ·refine .inr ?_
   rw [e]
   exact own_ne h.pr hh (by decide)
 ·exact own_ne h.jr h.y (by decide) e.symm
end

section
variable {w W : World} {yb bm : Nat} {ai : Option Addr} {li ci : Nat} {ts : List X.It} {vp vj : Value} {pn jn : Nat} {pc jc : List Value}
def AddOut (w w' : World) (yb bm : Nat) (ai : Option Addr) (li ci : Nat) (ts : List X.It) (pn jn : Nat) (pc jc : List Value) (k : Nat) (t : X.It) : Prop :=
 ∃ vp' vj', LA w w' yb bm ai li ci ts vp' vj' (pn + 1) (if Z.jump t = true then jn + 1 else jn) (pc ++ pC (Z.op0 t)) (if Z.jump t = true then jc ++ jpC (k, Z.labN ts t.name) else jc)
set_option maxRecDepth 100000 in
set_option maxHeartbeats 8000000 in
theorem add_any (h : LA w W yb bm ai li ci ts vp vj pn jn pc jc) (hJ : J.Tab w) (hp : pn ≤ 20000) (hj : jn ≤ 20000) (k : Nat) (hk : k ≤ 20000) (t : X.It) (hnm : t.name.length ≤ maxLen) (aw : Option Addr) (lw cw : Nat) :
  Calls Tryz.prog 50 #[.pointer (some ⟨yb, 0, none⟩), .int .i64 k, itV t (.slice aw lw cw)] W fun e w' => e = .returned (.tuple #[]) ∧ AddOut w w' yb bm ai li ci ts pn jn pc jc k t := by
 obtain ⟨i1, hi1, hz10, hz11, hz12⟩ := info_parts infoJp
 obtain ⟨i2, hi2, hz20, hz21, hz22⟩ := info_parts infoPc
 have HJT : Hid (J.Tab w) := hJ
 have hkey := keyStr t.name hnm
 obtain ⟨nm, hnmE⟩ : ∃ nm, X.str t.name = nm := ⟨_, rfl⟩
 obtain ⟨bx, hbx⟩ : ∃ bx, W.heap.size = bx := ⟨_, rfl⟩
 obtain ⟨ap, cp, rfl⟩ := own_slice h.pr
 obtain ⟨aj, cj, rfl⟩ := own_slice h.jr
 obtain ⟨Y0, hY0⟩ : ∃ Y0, W.alloc (.cells #[.int .i64 t.kind, .string nm, .int .i64 t.op, .int .i64 t.a, .int .i64 t.b, .int .i64 t.n, .slice aw lw cw] 44) = Y0 := ⟨_, rfl⟩
 have hyl : yb < W.heap.size := h.cells.2.2.2.2.2
 have hbxy : yb ≠ bx := by omega
 have HA0 : Hid (LA w Y0 yb bm ai li ci ts (.slice ap pn cp) (.slice aj jn cj) pn jn pc jc) := by subst hY0; exact h.below (bl1 _ _)
 have HBX0 : Hid (Y0.heap[bx]? = some (.cells #[.int .i64 t.kind, .string nm, .int .i64 t.op, .int .i64 t.a, .int .i64 t.b, .int .i64 t.n, .slice aw lw cw] 44 (0, 0))) := by
  show _ = _
  subst hY0 hbx
  exact (MapKept.heap_alloc W _).1
 have f0 : Y0.cell? ⟨bx, 0, none⟩ = some (.int .i64 t.kind) := by rw [cell_of HBX0.out]; rfl
 have f1 : Y0.cell? ⟨bx, 1, none⟩ = some (.string nm) := by rw [cell_of HBX0.out]; rfl
 have f2 : Y0.cell? ⟨bx, 2, none⟩ = some (.int .i64 t.op) := by rw [cell_of HBX0.out]; rfl
 have f3 : Y0.cell? ⟨bx, 3, none⟩ = some (.int .i64 t.a) := by rw [cell_of HBX0.out]; rfl
 have f4 : Y0.cell? ⟨bx, 4, none⟩ = some (.int .i64 t.b) := by rw [cell_of HBX0.out]; rfl
 have f5 : Y0.cell? ⟨bx, 5, none⟩ = some (.int .i64 t.n) := by rw [cell_of HBX0.out]; rfl
 have f6 : Y0.cell? ⟨bx, 6, none⟩ = some (.slice aw lw cw) := by rw [cell_of HBX0.out]; rfl
 have hjc := isJump_any t aw lw cw Y0
 unfold itV at hjc ⊢
 rw [hnmE] at hjc hkey ⊢
 clear h hJ hyl
 cases hJm : Z.jump t with
 | false =>
  rw [hJm] at hjc
  have HFIN : Hid (∀ (W' : World) (vp' : Value), LA w W' yb bm ai li ci ts vp' (.slice aj jn cj) (pn + 1) jn (pc ++ pC t.op) jc → AddOut w W' yb bm ai li ci ts pn jn pc jc k t) := fun W' vp' h => ⟨vp', _, by
   have e : Z.op0 t = t.op := by unfold Z.op0; rw [hJm]; rfl
   rw [e, hJm]
   exact h⟩
  clear hJm
  go_enter Tryz.func50, Tryz.ntmps50
  go_wp2_with fail
  refine hjc.mono ?_
  rintro e w1 ⟨rfl, hb1⟩
  have HD : Hid (LA w w1 yb bm ai li ci ts (.slice ap pn cp) (.slice aj jn cj) pn jn pc jc) := LA.below HA0.out hb1
  obtain ⟨o, ho⟩ : ∃ o, t.op = o := ⟨_, rfl⟩
  obtain ⟨so, hso⟩ : ∃ so, Z.sz o = so := ⟨_, rfl⟩
  have HSO : Hid (Z.sz o = so) := hso
  have hsize : ∀ W', Below w1.heap.size w1 W' → Calls Tryz.prog 71 #[.int .i64 o] W' fun e w' => e = .returned (.int .i64 so) ∧ Below W'.heap.size W' w' := fun W' hb => by rw [← HSO.out]; exact J.size_any o W' (J.Tab.below HJT.out (HD.out.below hb).low)
  have HS0 : Hid (w1.drew.cell? ⟨yb, 0, none⟩ = some (.map (some bm))) := by show _ = _; rw [World.cell?_drew]; exact HD.out.cells.1
  have HLD : Hid (w1.cell? ⟨yb, 2, none⟩ = some (.slice ap pn cp)) := HD.out.cells.2.2.1
  clear hso
  rw [ho] at HFIN
  clear hb1 hjc hY0 f0 f1 f2 f3 f4 f5 f6
  go_wp2_with fail
  clear ho
  refine wp_region_held_drew (S := (fun w' : World => w'.cell? ⟨yb, 0, none⟩ = some (.map (some bm)))) (by kernel_rfl) HS0.out (fun hHeld => ?_)
  refine tj 0 ?_
  simp only [Act.put, zA, zB, zC]
  refine tj 1 ?_
  simp only [Act.put, zA, zB, zC]
  refine tj 2 ?_
  simp only [Act.put, zA, zB, zC]
  refine tj 3 ?_
  simp only [Act.put, zA, zB, zC]
  refine tj 5 ?_
  simp only [Act.put, zA, zB, zC]
  refine tj 6 ?_
  simp only [Act.put, zA, zB, zC]
  refine tr [4, 7] ?_
  refine AllReadyH.cons (tA rfl) (fun K hK => ?_) ?_
  ·have m3 := HLD.out
   go_simp
   refine hK.out _ _ hHeld (fun hHeld => ?_)
   clear hK K m3
   try simp only [Act.put, zA, zB, zC]
   refine tr [7] ?_
   refine AllReadyH.cons (tA rfl) (fun K hK => ?_) ?_
   ·go_simp
    refine (hsize _ (Below.refl _ _).drew).mono ?_
    rintro e y1 ⟨rfl, hb1⟩
    have HC : Hid (LA w y1 yb bm ai li ci ts (.slice ap pn cp) _ pn _ pc _) := (HD.out.below (Below.refl _ _).drew).below hb1
    clear hb1
    try go_wp2_with fail
    refine hK.out _ _ HC.out.cells.1 (fun hHeld => ?_)
    clear hK K
    try simp only [Act.put, zA, zB, zC]
    refine tj 8 ?_
    simp only [Act.put, zA, zB, zC]
    refine tr [9] ?_
    refine AllReadyH.cons (tA rfl) (fun K hK => ?_) ?_
    ·go_simp
     have HE : Hid (LA w (y1.alloc (.cells #[.int .i64 o, .int .i64 so, .int .i64 0] 111)) yb bm ai li ci ts (.slice ap pn cp) _ pn _ pc _) := HC.out.below (bl1 _ _)
     have HWE : Hid (w.heap.size ≤ (y1.alloc (.cells #[.int .i64 o, .int .i64 so, .int .i64 0] 111)).heap.size) := HE.out.low.size
     have HNC : Hid (∀ j u, (pC o)[j]? = some u → (y1.alloc (.cells #[.int .i64 o, .int .i64 so, .int .i64 0] 111)).cell? ((⟨y1.heap.size, 0, none⟩ : Addr).add j) = some u) := fun j u hu => by
      rw [Addr.add_lit, Nat.zero_add]
      unfold pC at hu
      rw [HSO.out] at hu
      exact cellA rfl (by simpa using hu)
     refine hK.out _ _ HE.out.cells.1 (fun hHeld => ?_)
     clear hK K
     try simp only [Act.put, zA, zB, zC]
     refine tr [10] ?_
     refine AllReadyH.cons (tA rfl) (fun K hK => ?_) AllReadyH.nil
     refine step_append_lies _ (by rfl) _ _ 84 (by rfl) w.heap.size 111 i2 _ 3 24 Tryz.underlying84 hi2 hz20 hz21 hz22 (by rfl) (by decide) (.slice ap pn cp) pn pc (by rfl) HE.out.pr ⟨y1.heap.size, 0, none⟩ 1 1 (pC o) (by rfl) (by rfl) HNC.out (by intro u hu; simp [pC] at hu; rcases hu with rfl | rfl | rfl <;> rfl) (by decide) (by unfold maxLen; omega) (by omega) HWE.out _ rfl ?_
     intro g cap Y6 ho6 hg6 hat6 hlt6
     have HP : Hid _ := HE.out.pushP ho6 hg6
     have h60 : Y6.cell? ⟨yb, 0, none⟩ = some (.map (some bm)) := hg6.cell HE.out.cells.1 (own_ne HE.out.pr HE.out.y (by decide))
     have m6 : Y6.cell? ⟨yb, 2, none⟩ = some (.slice ap pn cp) := hg6.cell HE.out.cells.2.2.1 (own_ne HE.out.pr HE.out.y (by decide))
     have z6 : Y6.frozen? ⟨yb, 2, none⟩ = false := (hg6.frozen_far ⟨yb, 2, none⟩ HE.out.cells.2.2.2.2.2 (own_ne HE.out.pr HE.out.y (by decide))).trans (HE.out.cells.2.2.2.2.1 2)
     have h61 := (World.cell?_setCell_other Y6 ⟨yb, 2, none⟩ ⟨yb, 0, none⟩ (.slice (some ⟨g, 0, none⟩) (pn + 1) cap) (by simp)).trans h60
     refine hK.out _ _ h60 (fun hHeld => ?_)
     clear hK K ho6 hg6 hat6 hlt6
     try simp only [Act.put, zA, zB, zC]
     refine tj 11 ?_
     simp only [Act.put, zA, zB, zC]
     refine tj 12 ?_
     simp only [Act.put, zA, zB, zC]
     refine tr [13] ?_
     refine AllReadyH.cons (tA rfl) (fun K hK => ?_) AllReadyH.nil
     go_simp
     refine hK.out _ _ h61 (fun hHeld => ?_)
     clear hK K
     try simp only [Act.put, zA, zB, zC]
     refine wpAnyH_done (by kernel_rfl) ?_ _
     clear hHeld
     clear m6 z6 h60 h61
     go_wp2_with fail
     go_end0
     exact ⟨rfl, HFIN.out _ _ HP.out⟩
    exact AllReadyH.nil

   exact AllReadyH.nil

  refine AllReadyH.cons (tA rfl) (fun K hK => ?_) ?_
  ·go_simp
   refine (hsize _ (Below.refl _ _).drew).mono ?_
   rintro e y1 ⟨rfl, hb1⟩
   have HC : Hid (LA w y1 yb bm ai li ci ts (.slice ap pn cp) _ pn _ pc _) := (HD.out.below (Below.refl _ _).drew).below hb1
   clear hb1
   try go_wp2_with fail
   refine hK.out _ _ HC.out.cells.1 (fun hHeld => ?_)
   clear hK K
   try simp only [Act.put, zA, zB, zC]
   refine tj 8 ?_
   simp only [Act.put, zA, zB, zC]
   refine tr [4, 9] ?_
   refine AllReadyH.cons (tA rfl) (fun K hK => ?_) ?_
   ·have m3 := HC.out.cells.2.2.1
    go_simp
    refine hK.out _ _ hHeld (fun hHeld => ?_)
    clear hK K m3
    try simp only [Act.put, zA, zB, zC]
    refine tr [9] ?_
    refine AllReadyH.cons (tA rfl) (fun K hK => ?_) ?_
    ·go_simp
     have HE : Hid (LA w (y1.alloc (.cells #[.int .i64 o, .int .i64 so, .int .i64 0] 111)) yb bm ai li ci ts (.slice ap pn cp) _ pn _ pc _) := HC.out.below (bl1 _ _)
     have HWE : Hid (w.heap.size ≤ (y1.alloc (.cells #[.int .i64 o, .int .i64 so, .int .i64 0] 111)).heap.size) := HE.out.low.size
     have HNC : Hid (∀ j u, (pC o)[j]? = some u → (y1.alloc (.cells #[.int .i64 o, .int .i64 so, .int .i64 0] 111)).cell? ((⟨y1.heap.size, 0, none⟩ : Addr).add j) = some u) := fun j u hu => by
      rw [Addr.add_lit, Nat.zero_add]
      unfold pC at hu
      rw [HSO.out] at hu
      exact cellA rfl (by simpa using hu)
     refine hK.out _ _ HE.out.cells.1 (fun hHeld => ?_)
     clear hK K
     try simp only [Act.put, zA, zB, zC]
     refine tr [10] ?_
     refine AllReadyH.cons (tA rfl) (fun K hK => ?_) AllReadyH.nil
     refine step_append_lies _ (by rfl) _ _ 84 (by rfl) w.heap.size 111 i2 _ 3 24 Tryz.underlying84 hi2 hz20 hz21 hz22 (by rfl) (by decide) (.slice ap pn cp) pn pc (by rfl) HE.out.pr ⟨y1.heap.size, 0, none⟩ 1 1 (pC o) (by rfl) (by rfl) HNC.out (by intro u hu; simp [pC] at hu; rcases hu with rfl | rfl | rfl <;> rfl) (by decide) (by unfold maxLen; omega) (by omega) HWE.out _ rfl ?_
     intro g cap Y6 ho6 hg6 hat6 hlt6
     have HP : Hid _ := HE.out.pushP ho6 hg6
     have h60 : Y6.cell? ⟨yb, 0, none⟩ = some (.map (some bm)) := hg6.cell HE.out.cells.1 (own_ne HE.out.pr HE.out.y (by decide))
     have m6 : Y6.cell? ⟨yb, 2, none⟩ = some (.slice ap pn cp) := hg6.cell HE.out.cells.2.2.1 (own_ne HE.out.pr HE.out.y (by decide))
     have z6 : Y6.frozen? ⟨yb, 2, none⟩ = false := (hg6.frozen_far ⟨yb, 2, none⟩ HE.out.cells.2.2.2.2.2 (own_ne HE.out.pr HE.out.y (by decide))).trans (HE.out.cells.2.2.2.2.1 2)
     have h61 := (World.cell?_setCell_other Y6 ⟨yb, 2, none⟩ ⟨yb, 0, none⟩ (.slice (some ⟨g, 0, none⟩) (pn + 1) cap) (by simp)).trans h60
     refine hK.out _ _ h60 (fun hHeld => ?_)
     clear hK K ho6 hg6 hat6 hlt6
     try simp only [Act.put, zA, zB, zC]
     refine tj 11 ?_
     simp only [Act.put, zA, zB, zC]
     refine tj 12 ?_
     simp only [Act.put, zA, zB, zC]
     refine tr [13] ?_
     refine AllReadyH.cons (tA rfl) (fun K hK => ?_) AllReadyH.nil
     go_simp
     refine hK.out _ _ h61 (fun hHeld => ?_)
     clear hK K
     try simp only [Act.put, zA, zB, zC]
     refine wpAnyH_done (by kernel_rfl) ?_ _
     clear hHeld
     clear m6 z6 h60 h61
     go_wp2_with fail
     go_end0
     exact ⟨rfl, HFIN.out _ _ HP.out⟩
    exact AllReadyH.nil

   refine AllReadyH.cons (tA rfl) (fun K hK => ?_) ?_
   ·go_simp
    have HE : Hid (LA w (y1.alloc (.cells #[.int .i64 o, .int .i64 so, .int .i64 0] 111)) yb bm ai li ci ts (.slice ap pn cp) _ pn _ pc _) := HC.out.below (bl1 _ _)
    have HWE : Hid (w.heap.size ≤ (y1.alloc (.cells #[.int .i64 o, .int .i64 so, .int .i64 0] 111)).heap.size) := HE.out.low.size
    have HNC : Hid (∀ j u, (pC o)[j]? = some u → (y1.alloc (.cells #[.int .i64 o, .int .i64 so, .int .i64 0] 111)).cell? ((⟨y1.heap.size, 0, none⟩ : Addr).add j) = some u) := fun j u hu => by
     rw [Addr.add_lit, Nat.zero_add]
     unfold pC at hu
     rw [HSO.out] at hu
     exact cellA rfl (by simpa using hu)
    refine hK.out _ _ HE.out.cells.1 (fun hHeld => ?_)
    clear hK K
    try simp only [Act.put, zA, zB, zC]
    refine tr [4] ?_
    refine AllReadyH.cons (tA rfl) (fun K hK => ?_) ?_
    ·have m3 := HE.out.cells.2.2.1
     go_simp
     refine hK.out _ _ hHeld (fun hHeld => ?_)
     clear hK K m3
     try simp only [Act.put, zA, zB, zC]
     refine tr [10] ?_
     refine AllReadyH.cons (tA rfl) (fun K hK => ?_) AllReadyH.nil
     refine step_append_lies _ (by rfl) _ _ 84 (by rfl) w.heap.size 111 i2 _ 3 24 Tryz.underlying84 hi2 hz20 hz21 hz22 (by rfl) (by decide) (.slice ap pn cp) pn pc (by rfl) HE.out.pr ⟨y1.heap.size, 0, none⟩ 1 1 (pC o) (by rfl) (by rfl) HNC.out (by intro u hu; simp [pC] at hu; rcases hu with rfl | rfl | rfl <;> rfl) (by decide) (by unfold maxLen; omega) (by omega) HWE.out _ rfl ?_
     intro g cap Y6 ho6 hg6 hat6 hlt6
     have HP : Hid _ := HE.out.pushP ho6 hg6
     have h60 : Y6.cell? ⟨yb, 0, none⟩ = some (.map (some bm)) := hg6.cell HE.out.cells.1 (own_ne HE.out.pr HE.out.y (by decide))
     have m6 : Y6.cell? ⟨yb, 2, none⟩ = some (.slice ap pn cp) := hg6.cell HE.out.cells.2.2.1 (own_ne HE.out.pr HE.out.y (by decide))
     have z6 : Y6.frozen? ⟨yb, 2, none⟩ = false := (hg6.frozen_far ⟨yb, 2, none⟩ HE.out.cells.2.2.2.2.2 (own_ne HE.out.pr HE.out.y (by decide))).trans (HE.out.cells.2.2.2.2.1 2)
     have h61 := (World.cell?_setCell_other Y6 ⟨yb, 2, none⟩ ⟨yb, 0, none⟩ (.slice (some ⟨g, 0, none⟩) (pn + 1) cap) (by simp)).trans h60
     refine hK.out _ _ h60 (fun hHeld => ?_)
     clear hK K ho6 hg6 hat6 hlt6
     try simp only [Act.put, zA, zB, zC]
     refine tj 11 ?_
     simp only [Act.put, zA, zB, zC]
     refine tj 12 ?_
     simp only [Act.put, zA, zB, zC]
     refine tr [13] ?_
     refine AllReadyH.cons (tA rfl) (fun K hK => ?_) AllReadyH.nil
     go_simp
     refine hK.out _ _ h61 (fun hHeld => ?_)
     clear hK K
     try simp only [Act.put, zA, zB, zC]
     refine wpAnyH_done (by kernel_rfl) ?_ _
     clear hHeld
     clear m6 z6 h60 h61
     go_wp2_with fail
     go_end0
     exact ⟨rfl, HFIN.out _ _ HP.out⟩
    exact AllReadyH.nil

   exact AllReadyH.nil

  exact AllReadyH.nil

 | true =>
  rw [hJm] at hjc
  obtain ⟨o, ho⟩ : ∃ o, Z.shortOf t.op = o := ⟨_, rfl⟩
  obtain ⟨q, hq⟩ : ∃ q, Z.labN ts t.name = q := ⟨_, rfl⟩
  have HFIN : Hid (∀ (W' : World) (vp' : Value) {vj' : Value}, LA w W' yb bm ai li ci ts vp' vj' (pn + 1) (jn + 1) (pc ++ pC o) (jc ++ jpC (k, q)) → AddOut w W' yb bm ai li ci ts pn jn pc jc k t) := fun W' vp' vj' h => ⟨vp', vj', by
   have e : Z.op0 t = o := by unfold Z.op0; rw [hJm, ← ho]; rfl
   rw [e, hJm, hq]
   exact h⟩
  have hsh := shortOf_any t.op
  rw [ho] at hsh
  have HQ : Hid _ := hq
  clear hJm ho hq
  go_enter Tryz.func50, Tryz.ntmps50
  go_wp2_with fail
  refine hjc.mono ?_
  rintro e w1 ⟨rfl, hb1⟩
  have HD0 : Hid (LA w w1 yb bm ai li ci ts (.slice ap pn cp) (.slice aj jn cj) pn jn pc jc) := LA.below HA0.out hb1
  have HB1 : Hid (w1.heap[bx]? = some (.cells #[.int .i64 t.kind, .string nm, .int .i64 t.op, .int .i64 t.a, .int .i64 t.b, .int .i64 t.n, .slice aw lw cw] 44 (0, 0))) := (hb1.block bx (blk_lt HBX0.out)).trans HBX0.out
  clear hb1 hjc hY0 f0 f1 f2 f3 f4 f5 f6
  go_wp2_with fail
  refine (hsh _).mono ?_
  rintro e z1 ⟨rfl, hz1⟩
  rw [hz1]
  clear hz1 hsh
  have HRUN : Hid ((Instr.lookup 54 (.map (some bm)) (.string nm) false).run Tryz.prog w1.drew = .ok (.int .i64 q) w1.drew) := by
   show _ = _
   obtain ⟨D, n, h1, h2, h3⟩ := HD0.out.nm.ex
   obtain ⟨c, hc, hat, -⟩ := h1.drew.lookup_int lawS Tryz.underlying54 Tryz.underlying3 (zeroI _) hkey
   rw [h3 t.name, HQ.out] at hat
   rw [hc]
   injection hat with hat
   injection hat with _ hat
   rw [hat]
  have HLD : Hid (w1.cell? ⟨yb, 3, none⟩ = some (.slice aj jn cj)) := HD0.out.cells.2.2.2.1
  have HS0 : Hid (w1.drew.cell? ⟨yb, 0, none⟩ = some (.map (some bm)) ∧ w1.drew.cell? ⟨bx, 1, none⟩ = some (.string nm)) := ⟨by rw [World.cell?_drew]; exact HD0.out.cells.1, by rw [World.cell?_drew, cell_of HB1.out]; rfl⟩
  have HE : Hid (LA w (w1.alloc (.cells #[.int .i64 k, .int .i64 q] 109)).drew yb bm ai li ci ts (.slice ap pn cp) (.slice aj jn cj) pn jn pc jc) := (LA.below HD0.out (bl1 _ _)).below (Below.refl _ _).drew
  have HBX : Hid ((w1.alloc (.cells #[.int .i64 k, .int .i64 q] 109)).drew.heap[bx]? = some (.cells #[.int .i64 t.kind, .string nm, .int .i64 t.op, .int .i64 t.a, .int .i64 t.b, .int .i64 t.n, .slice aw lw cw] 44 (0, 0))) := ((bl1 w1 _).block bx (blk_lt HB1.out)).trans HB1.out
  have HBE : Hid ((w1.alloc (.cells #[.int .i64 k, .int .i64 q] 109)).drew.cell? ⟨bx, 1, none⟩ = some (.string nm)) := by show _ = _; rw [cell_of HBX.out]; rfl
  have HSE : Hid ((w1.alloc (.cells #[.int .i64 k, .int .i64 q] 109)).drew.cell? ⟨yb, 0, none⟩ = some (.map (some bm)) ∧ (w1.alloc (.cells #[.int .i64 k, .int .i64 q] 109)).drew.cell? ⟨bx, 1, none⟩ = some (.string nm)) := ⟨HE.out.cells.1, HBE.out⟩
  have HWE : Hid (w.heap.size ≤ (w1.alloc (.cells #[.int .i64 k, .int .i64 q] 109)).drew.heap.size) := HE.out.low.size
  have HNC : Hid (∀ j u, (jpC (k, q))[j]? = some u → (w1.alloc (.cells #[.int .i64 k, .int .i64 q] 109)).drew.cell? ((⟨w1.heap.size, 0, none⟩ : Addr).add j) = some u) := fun j u hu => by
   rw [Addr.add_lit, Nat.zero_add, World.cell?_drew]
   exact cellA rfl (by simpa [jpC] using hu)
  go_wp2_with fail
  refine wp_region_held_drew (S := (fun w' : World => w'.cell? ⟨yb, 0, none⟩ = some (.map (some bm)) ∧ w'.cell? ⟨bx, 1, none⟩ = some (.string nm))) (by kernel_rfl) HS0.out (fun hHeld => ?_)
  refine tj 0 ?_
  simp only [Act.put, zA, zB, zC]
  refine tj 1 ?_
  simp only [Act.put, zA, zB, zC]
  refine tj 2 ?_
  simp only [Act.put, zA, zB, zC]
  refine tj 3 ?_
  simp only [Act.put, zA, zB, zC]
  refine tj 5 ?_
  simp only [Act.put, zA, zB, zC]
  refine tj 6 ?_
  simp only [Act.put, zA, zB, zC]
  refine tj 7 ?_
  simp only [Act.put, zA, zB, zC]
  refine tj 8 ?_
  simp only [Act.put, zA, zB, zC]
  refine tj 9 ?_
  simp only [Act.put, zA, zB, zC]
  refine tj 10 ?_
  simp only [Act.put, zA, zB, zC]
  refine tj 11 ?_
  simp only [Act.put, zA, zB, zC]
  refine tr [4, 12] ?_
  refine AllReadyH.cons (tA rfl) (fun K hK => ?_) ?_
  ·have m3 := HLD.out
   go_simp
   refine hK.out _ _ hHeld (fun hHeld => ?_)
   clear hK K m3
   try simp only [Act.put, zA, zB, zC]
   refine tr [12] ?_
   refine AllReadyH.cons (tA rfl) (fun K hK => ?_) ?_
   ·have m4 := HRUN.out
    go_simp
    refine hK.out _ _ hHeld (fun hHeld => ?_)
    clear hK K m4
    try simp only [Act.put, zA, zB, zC]
    refine tj 13 ?_
    simp only [Act.put, zA, zB, zC]
    refine tr [14] ?_
    refine AllReadyH.cons (tA rfl) (fun K hK => ?_) ?_
    ·go_simp
     refine hK.out _ _ HSE.out (fun hHeld => ?_)
     clear hK K
     try simp only [Act.put, zA, zB, zC]
     refine tr [15] ?_
     refine AllReadyH.cons (tA rfl) (fun K hK => ?_) AllReadyH.nil
     refine step_append_lies _ (by rfl) _ _ 85 (by rfl) w.heap.size 109 i1 _ 2 16 Tryz.underlying85 hi1 hz10 hz11 hz12 (by rfl) (by decide) (.slice aj jn cj) jn jc (by rfl) HE.out.jr ⟨w1.heap.size, 0, none⟩ 1 1 (jpC (k, q)) (by rfl) (by rfl) HNC.out (by intro u hu; simp [jpC] at hu; rcases hu with rfl | rfl <;> rfl) (by decide) (by unfold maxLen; omega) (by omega) HWE.out _ rfl ?_
     intro g cap Y6 ho6 hg6 hat6 hlt6
     have HP : Hid _ := HE.out.pushJ ho6 hg6
     have h60 : Y6.cell? ⟨yb, 0, none⟩ = some (.map (some bm)) ∧ Y6.cell? ⟨bx, 1, none⟩ = some (.string nm) := ⟨hg6.cell HE.out.cells.1 (own_ne HE.out.jr HE.out.y (by decide)), hg6.cell HBE.out (own_ne HE.out.jr HBX.out (by decide))⟩
     have m6 : Y6.cell? ⟨yb, 3, none⟩ = some (.slice aj jn cj) := hg6.cell HE.out.cells.2.2.2.1 (own_ne HE.out.jr HE.out.y (by decide))
     have z6 : Y6.frozen? ⟨yb, 3, none⟩ = false := (hg6.frozen_far ⟨yb, 3, none⟩ HE.out.cells.2.2.2.2.2 (own_ne HE.out.jr HE.out.y (by decide))).trans (HE.out.cells.2.2.2.2.1 3)
     have h61 := (World.cell?_setCell_other Y6 ⟨yb, 3, none⟩ ⟨yb, 0, none⟩ (.slice (some ⟨g, 0, none⟩) (jn + 1) cap) (by simp)).trans h60.1
     have h62 := (World.cell?_setCell_far Y6 ⟨yb, 3, none⟩ ⟨bx, 1, none⟩ (.slice (some ⟨g, 0, none⟩) (jn + 1) cap) hbxy).trans h60.2
     refine hK.out _ _ h60 (fun hHeld => ?_)
     clear hK K ho6 hg6 hat6 hlt6
     try simp only [Act.put, zA, zB, zC]
     refine tj 16 ?_
     simp only [Act.put, zA, zB, zC]
     refine tj 17 ?_
     simp only [Act.put, zA, zB, zC]
     refine tr [18] ?_
     refine AllReadyH.cons (tA rfl) (fun K hK => ?_) AllReadyH.nil
     go_simp
     refine hK.out _ _ ⟨h61, h62⟩ (fun hHeld => ?_)
     clear hK K
     try simp only [Act.put, zA, zB, zC]
     refine wpAnyH_done (by kernel_rfl) ?_ _
     clear hHeld
     clear m6 z6 h60 h61 h62
     obtain ⟨Z7, hZ7⟩ : ∃ Z7, Y6.setCell ⟨yb, 3, none⟩ (.slice (some ⟨g, 0, none⟩) (jn + 1) cap) = Z7 := ⟨_, rfl⟩
     rw [hZ7] at HP
     have HD : Hid (LA w Z7 yb bm ai li ci ts (.slice ap pn cp) _ pn _ pc _) := HP.out
     clear HLD HS0 HE HSE HWE HNC HRUN HP
     obtain ⟨so, hso⟩ : ∃ so, Z.sz o = so := ⟨_, rfl⟩
     have HSO : Hid (Z.sz o = so) := hso
     have hsize : ∀ W', Below Z7.heap.size Z7 W' → Calls Tryz.prog 71 #[.int .i64 o] W' fun e w' => e = .returned (.int .i64 so) ∧ Below W'.heap.size W' w' := fun W' hb => by rw [← HSO.out]; exact J.size_any o W' (J.Tab.below HJT.out (HD.out.below hb).low)
     have HS0 : Hid (Z7.drew.cell? ⟨yb, 0, none⟩ = some (.map (some bm))) := by show _ = _; rw [World.cell?_drew]; exact HD.out.cells.1
     have HLD : Hid (Z7.cell? ⟨yb, 2, none⟩ = some (.slice ap pn cp)) := HD.out.cells.2.2.1
     clear hso
     try rw [hZ7]
     clear hZ7
     go_wp2_with fail
     refine wp_region_held_drew (S := (fun w' : World => w'.cell? ⟨yb, 0, none⟩ = some (.map (some bm)))) (by kernel_rfl) HS0.out (fun hHeld => ?_)
     refine tj 0 ?_
     simp only [Act.put, zA, zB, zC]
     refine tj 1 ?_
     simp only [Act.put, zA, zB, zC]
     refine tj 2 ?_
     simp only [Act.put, zA, zB, zC]
     refine tj 3 ?_
     simp only [Act.put, zA, zB, zC]
     refine tj 5 ?_
     simp only [Act.put, zA, zB, zC]
     refine tj 6 ?_
     simp only [Act.put, zA, zB, zC]
     refine tr [4, 7] ?_
     refine AllReadyH.cons (tA rfl) (fun K hK => ?_) ?_
     ·have m3 := HLD.out
      go_simp
      refine hK.out _ _ hHeld (fun hHeld => ?_)
      clear hK K m3
      try simp only [Act.put, zA, zB, zC]
      refine tr [7] ?_
      refine AllReadyH.cons (tA rfl) (fun K hK => ?_) ?_
      ·go_simp
       refine (hsize _ (Below.refl _ _).drew).mono ?_
       rintro e y1 ⟨rfl, hb1⟩
       have HC : Hid (LA w y1 yb bm ai li ci ts (.slice ap pn cp) _ pn _ pc _) := (HD.out.below (Below.refl _ _).drew).below hb1
       clear hb1
       try go_wp2_with fail
       refine hK.out _ _ HC.out.cells.1 (fun hHeld => ?_)
       clear hK K
       try simp only [Act.put, zA, zB, zC]
       refine tj 8 ?_
       simp only [Act.put, zA, zB, zC]
       refine tr [9] ?_
       refine AllReadyH.cons (tA rfl) (fun K hK => ?_) ?_
       ·go_simp
        have HE : Hid (LA w (y1.alloc (.cells #[.int .i64 o, .int .i64 so, .int .i64 0] 111)) yb bm ai li ci ts (.slice ap pn cp) _ pn _ pc _) := HC.out.below (bl1 _ _)
        have HWE : Hid (w.heap.size ≤ (y1.alloc (.cells #[.int .i64 o, .int .i64 so, .int .i64 0] 111)).heap.size) := HE.out.low.size
        have HNC : Hid (∀ j u, (pC o)[j]? = some u → (y1.alloc (.cells #[.int .i64 o, .int .i64 so, .int .i64 0] 111)).cell? ((⟨y1.heap.size, 0, none⟩ : Addr).add j) = some u) := fun j u hu => by
         rw [Addr.add_lit, Nat.zero_add]
         unfold pC at hu
         rw [HSO.out] at hu
         exact cellA rfl (by simpa using hu)
        refine hK.out _ _ HE.out.cells.1 (fun hHeld => ?_)
        clear hK K
        try simp only [Act.put, zA, zB, zC]
        refine tr [10] ?_
        refine AllReadyH.cons (tA rfl) (fun K hK => ?_) AllReadyH.nil
        refine step_append_lies _ (by rfl) _ _ 84 (by rfl) w.heap.size 111 i2 _ 3 24 Tryz.underlying84 hi2 hz20 hz21 hz22 (by rfl) (by decide) (.slice ap pn cp) pn pc (by rfl) HE.out.pr ⟨y1.heap.size, 0, none⟩ 1 1 (pC o) (by rfl) (by rfl) HNC.out (by intro u hu; simp [pC] at hu; rcases hu with rfl | rfl | rfl <;> rfl) (by decide) (by unfold maxLen; omega) (by omega) HWE.out _ rfl ?_
        intro g cap Y6 ho6 hg6 hat6 hlt6
        have HP : Hid _ := HE.out.pushP ho6 hg6
        have h60 : Y6.cell? ⟨yb, 0, none⟩ = some (.map (some bm)) := hg6.cell HE.out.cells.1 (own_ne HE.out.pr HE.out.y (by decide))
        have m6 : Y6.cell? ⟨yb, 2, none⟩ = some (.slice ap pn cp) := hg6.cell HE.out.cells.2.2.1 (own_ne HE.out.pr HE.out.y (by decide))
        have z6 : Y6.frozen? ⟨yb, 2, none⟩ = false := (hg6.frozen_far ⟨yb, 2, none⟩ HE.out.cells.2.2.2.2.2 (own_ne HE.out.pr HE.out.y (by decide))).trans (HE.out.cells.2.2.2.2.1 2)
        have h61 := (World.cell?_setCell_other Y6 ⟨yb, 2, none⟩ ⟨yb, 0, none⟩ (.slice (some ⟨g, 0, none⟩) (pn + 1) cap) (by simp)).trans h60
        refine hK.out _ _ h60 (fun hHeld => ?_)
        clear hK K ho6 hg6 hat6 hlt6
        try simp only [Act.put, zA, zB, zC]
        refine tj 11 ?_
        simp only [Act.put, zA, zB, zC]
        refine tj 12 ?_
        simp only [Act.put, zA, zB, zC]
        refine tr [13] ?_
        refine AllReadyH.cons (tA rfl) (fun K hK => ?_) AllReadyH.nil
        go_simp
        refine hK.out _ _ h61 (fun hHeld => ?_)
        clear hK K
        try simp only [Act.put, zA, zB, zC]
        refine wpAnyH_done (by kernel_rfl) ?_ _
        clear hHeld
        clear m6 z6 h60 h61
        go_wp2_with fail
        go_end0
        exact ⟨rfl, HFIN.out _ _ HP.out⟩
       exact AllReadyH.nil

      exact AllReadyH.nil

     refine AllReadyH.cons (tA rfl) (fun K hK => ?_) ?_
     ·go_simp
      refine (hsize _ (Below.refl _ _).drew).mono ?_
      rintro e y1 ⟨rfl, hb1⟩
      have HC : Hid (LA w y1 yb bm ai li ci ts (.slice ap pn cp) _ pn _ pc _) := (HD.out.below (Below.refl _ _).drew).below hb1
      clear hb1
      try go_wp2_with fail
      refine hK.out _ _ HC.out.cells.1 (fun hHeld => ?_)
      clear hK K
      try simp only [Act.put, zA, zB, zC]
      refine tj 8 ?_
      simp only [Act.put, zA, zB, zC]
      refine tr [4, 9] ?_
      refine AllReadyH.cons (tA rfl) (fun K hK => ?_) ?_
      ·have m3 := HC.out.cells.2.2.1
       go_simp
       refine hK.out _ _ hHeld (fun hHeld => ?_)
       clear hK K m3
       try simp only [Act.put, zA, zB, zC]
       refine tr [9] ?_
       refine AllReadyH.cons (tA rfl) (fun K hK => ?_) ?_
       ·go_simp
        have HE : Hid (LA w (y1.alloc (.cells #[.int .i64 o, .int .i64 so, .int .i64 0] 111)) yb bm ai li ci ts (.slice ap pn cp) _ pn _ pc _) := HC.out.below (bl1 _ _)
        have HWE : Hid (w.heap.size ≤ (y1.alloc (.cells #[.int .i64 o, .int .i64 so, .int .i64 0] 111)).heap.size) := HE.out.low.size
        have HNC : Hid (∀ j u, (pC o)[j]? = some u → (y1.alloc (.cells #[.int .i64 o, .int .i64 so, .int .i64 0] 111)).cell? ((⟨y1.heap.size, 0, none⟩ : Addr).add j) = some u) := fun j u hu => by
         rw [Addr.add_lit, Nat.zero_add]
         unfold pC at hu
         rw [HSO.out] at hu
         exact cellA rfl (by simpa using hu)
        refine hK.out _ _ HE.out.cells.1 (fun hHeld => ?_)
        clear hK K
        try simp only [Act.put, zA, zB, zC]
        refine tr [10] ?_
        refine AllReadyH.cons (tA rfl) (fun K hK => ?_) AllReadyH.nil
        refine step_append_lies _ (by rfl) _ _ 84 (by rfl) w.heap.size 111 i2 _ 3 24 Tryz.underlying84 hi2 hz20 hz21 hz22 (by rfl) (by decide) (.slice ap pn cp) pn pc (by rfl) HE.out.pr ⟨y1.heap.size, 0, none⟩ 1 1 (pC o) (by rfl) (by rfl) HNC.out (by intro u hu; simp [pC] at hu; rcases hu with rfl | rfl | rfl <;> rfl) (by decide) (by unfold maxLen; omega) (by omega) HWE.out _ rfl ?_
        intro g cap Y6 ho6 hg6 hat6 hlt6
        have HP : Hid _ := HE.out.pushP ho6 hg6
        have h60 : Y6.cell? ⟨yb, 0, none⟩ = some (.map (some bm)) := hg6.cell HE.out.cells.1 (own_ne HE.out.pr HE.out.y (by decide))
        have m6 : Y6.cell? ⟨yb, 2, none⟩ = some (.slice ap pn cp) := hg6.cell HE.out.cells.2.2.1 (own_ne HE.out.pr HE.out.y (by decide))
        have z6 : Y6.frozen? ⟨yb, 2, none⟩ = false := (hg6.frozen_far ⟨yb, 2, none⟩ HE.out.cells.2.2.2.2.2 (own_ne HE.out.pr HE.out.y (by decide))).trans (HE.out.cells.2.2.2.2.1 2)
        have h61 := (World.cell?_setCell_other Y6 ⟨yb, 2, none⟩ ⟨yb, 0, none⟩ (.slice (some ⟨g, 0, none⟩) (pn + 1) cap) (by simp)).trans h60
        refine hK.out _ _ h60 (fun hHeld => ?_)
        clear hK K ho6 hg6 hat6 hlt6
        try simp only [Act.put, zA, zB, zC]
        refine tj 11 ?_
        simp only [Act.put, zA, zB, zC]
        refine tj 12 ?_
        simp only [Act.put, zA, zB, zC]
        refine tr [13] ?_
        refine AllReadyH.cons (tA rfl) (fun K hK => ?_) AllReadyH.nil
        go_simp
        refine hK.out _ _ h61 (fun hHeld => ?_)
        clear hK K
        try simp only [Act.put, zA, zB, zC]
        refine wpAnyH_done (by kernel_rfl) ?_ _
        clear hHeld
        clear m6 z6 h60 h61
        go_wp2_with fail
        go_end0
        exact ⟨rfl, HFIN.out _ _ HP.out⟩
       exact AllReadyH.nil

      refine AllReadyH.cons (tA rfl) (fun K hK => ?_) ?_
      ·go_simp
       have HE : Hid (LA w (y1.alloc (.cells #[.int .i64 o, .int .i64 so, .int .i64 0] 111)) yb bm ai li ci ts (.slice ap pn cp) _ pn _ pc _) := HC.out.below (bl1 _ _)
       have HWE : Hid (w.heap.size ≤ (y1.alloc (.cells #[.int .i64 o, .int .i64 so, .int .i64 0] 111)).heap.size) := HE.out.low.size
       have HNC : Hid (∀ j u, (pC o)[j]? = some u → (y1.alloc (.cells #[.int .i64 o, .int .i64 so, .int .i64 0] 111)).cell? ((⟨y1.heap.size, 0, none⟩ : Addr).add j) = some u) := fun j u hu => by
        rw [Addr.add_lit, Nat.zero_add]
        unfold pC at hu
        rw [HSO.out] at hu
        exact cellA rfl (by simpa using hu)
       refine hK.out _ _ HE.out.cells.1 (fun hHeld => ?_)
       clear hK K
       try simp only [Act.put, zA, zB, zC]
       refine tr [4] ?_
       refine AllReadyH.cons (tA rfl) (fun K hK => ?_) ?_
       ·have m3 := HE.out.cells.2.2.1
        go_simp
        refine hK.out _ _ hHeld (fun hHeld => ?_)
        clear hK K m3
        try simp only [Act.put, zA, zB, zC]
        refine tr [10] ?_
        refine AllReadyH.cons (tA rfl) (fun K hK => ?_) AllReadyH.nil
        refine step_append_lies _ (by rfl) _ _ 84 (by rfl) w.heap.size 111 i2 _ 3 24 Tryz.underlying84 hi2 hz20 hz21 hz22 (by rfl) (by decide) (.slice ap pn cp) pn pc (by rfl) HE.out.pr ⟨y1.heap.size, 0, none⟩ 1 1 (pC o) (by rfl) (by rfl) HNC.out (by intro u hu; simp [pC] at hu; rcases hu with rfl | rfl | rfl <;> rfl) (by decide) (by unfold maxLen; omega) (by omega) HWE.out _ rfl ?_
        intro g cap Y6 ho6 hg6 hat6 hlt6
        have HP : Hid _ := HE.out.pushP ho6 hg6
        have h60 : Y6.cell? ⟨yb, 0, none⟩ = some (.map (some bm)) := hg6.cell HE.out.cells.1 (own_ne HE.out.pr HE.out.y (by decide))
        have m6 : Y6.cell? ⟨yb, 2, none⟩ = some (.slice ap pn cp) := hg6.cell HE.out.cells.2.2.1 (own_ne HE.out.pr HE.out.y (by decide))
        have z6 : Y6.frozen? ⟨yb, 2, none⟩ = false := (hg6.frozen_far ⟨yb, 2, none⟩ HE.out.cells.2.2.2.2.2 (own_ne HE.out.pr HE.out.y (by decide))).trans (HE.out.cells.2.2.2.2.1 2)
        have h61 := (World.cell?_setCell_other Y6 ⟨yb, 2, none⟩ ⟨yb, 0, none⟩ (.slice (some ⟨g, 0, none⟩) (pn + 1) cap) (by simp)).trans h60
        refine hK.out _ _ h60 (fun hHeld => ?_)
        clear hK K ho6 hg6 hat6 hlt6
        try simp only [Act.put, zA, zB, zC]
        refine tj 11 ?_
        simp only [Act.put, zA, zB, zC]
        refine tj 12 ?_
        simp only [Act.put, zA, zB, zC]
        refine tr [13] ?_
        refine AllReadyH.cons (tA rfl) (fun K hK => ?_) AllReadyH.nil
        go_simp
        refine hK.out _ _ h61 (fun hHeld => ?_)
        clear hK K
        try simp only [Act.put, zA, zB, zC]
        refine wpAnyH_done (by kernel_rfl) ?_ _
        clear hHeld
        clear m6 z6 h60 h61
        go_wp2_with fail
        go_end0
        exact ⟨rfl, HFIN.out _ _ HP.out⟩
       exact AllReadyH.nil

      exact AllReadyH.nil

     exact AllReadyH.nil
    exact AllReadyH.nil

   exact AllReadyH.nil

  refine AllReadyH.cons (tA rfl) (fun K hK => ?_) ?_
  ·have m4 := HRUN.out
   go_simp
   refine hK.out _ _ hHeld (fun hHeld => ?_)
   clear hK K m4
   try simp only [Act.put, zA, zB, zC]
   refine tj 13 ?_
   simp only [Act.put, zA, zB, zC]
   refine tr [4, 14] ?_
   refine AllReadyH.cons (tA rfl) (fun K hK => ?_) ?_
   ·have m3 := HLD.out
    go_simp
    refine hK.out _ _ hHeld (fun hHeld => ?_)
    clear hK K m3
    try simp only [Act.put, zA, zB, zC]
    refine tr [14] ?_
    refine AllReadyH.cons (tA rfl) (fun K hK => ?_) ?_
    ·go_simp
     refine hK.out _ _ HSE.out (fun hHeld => ?_)
     clear hK K
     try simp only [Act.put, zA, zB, zC]
     refine tr [15] ?_
     refine AllReadyH.cons (tA rfl) (fun K hK => ?_) AllReadyH.nil
     refine step_append_lies _ (by rfl) _ _ 85 (by rfl) w.heap.size 109 i1 _ 2 16 Tryz.underlying85 hi1 hz10 hz11 hz12 (by rfl) (by decide) (.slice aj jn cj) jn jc (by rfl) HE.out.jr ⟨w1.heap.size, 0, none⟩ 1 1 (jpC (k, q)) (by rfl) (by rfl) HNC.out (by intro u hu; simp [jpC] at hu; rcases hu with rfl | rfl <;> rfl) (by decide) (by unfold maxLen; omega) (by omega) HWE.out _ rfl ?_
     intro g cap Y6 ho6 hg6 hat6 hlt6
     have HP : Hid _ := HE.out.pushJ ho6 hg6
     have h60 : Y6.cell? ⟨yb, 0, none⟩ = some (.map (some bm)) ∧ Y6.cell? ⟨bx, 1, none⟩ = some (.string nm) := ⟨hg6.cell HE.out.cells.1 (own_ne HE.out.jr HE.out.y (by decide)), hg6.cell HBE.out (own_ne HE.out.jr HBX.out (by decide))⟩
     have m6 : Y6.cell? ⟨yb, 3, none⟩ = some (.slice aj jn cj) := hg6.cell HE.out.cells.2.2.2.1 (own_ne HE.out.jr HE.out.y (by decide))
     have z6 : Y6.frozen? ⟨yb, 3, none⟩ = false := (hg6.frozen_far ⟨yb, 3, none⟩ HE.out.cells.2.2.2.2.2 (own_ne HE.out.jr HE.out.y (by decide))).trans (HE.out.cells.2.2.2.2.1 3)
     have h61 := (World.cell?_setCell_other Y6 ⟨yb, 3, none⟩ ⟨yb, 0, none⟩ (.slice (some ⟨g, 0, none⟩) (jn + 1) cap) (by simp)).trans h60.1
     have h62 := (World.cell?_setCell_far Y6 ⟨yb, 3, none⟩ ⟨bx, 1, none⟩ (.slice (some ⟨g, 0, none⟩) (jn + 1) cap) hbxy).trans h60.2
     refine hK.out _ _ h60 (fun hHeld => ?_)
     clear hK K ho6 hg6 hat6 hlt6
     try simp only [Act.put, zA, zB, zC]
     refine tj 16 ?_
     simp only [Act.put, zA, zB, zC]
     refine tj 17 ?_
     simp only [Act.put, zA, zB, zC]
     refine tr [18] ?_
     refine AllReadyH.cons (tA rfl) (fun K hK => ?_) AllReadyH.nil
     go_simp
     refine hK.out _ _ ⟨h61, h62⟩ (fun hHeld => ?_)
     clear hK K
     try simp only [Act.put, zA, zB, zC]
     refine wpAnyH_done (by kernel_rfl) ?_ _
     clear hHeld
     clear m6 z6 h60 h61 h62
     obtain ⟨Z7, hZ7⟩ : ∃ Z7, Y6.setCell ⟨yb, 3, none⟩ (.slice (some ⟨g, 0, none⟩) (jn + 1) cap) = Z7 := ⟨_, rfl⟩
     rw [hZ7] at HP
     have HD : Hid (LA w Z7 yb bm ai li ci ts (.slice ap pn cp) _ pn _ pc _) := HP.out
     clear HLD HS0 HE HSE HWE HNC HRUN HP
     obtain ⟨so, hso⟩ : ∃ so, Z.sz o = so := ⟨_, rfl⟩
     have HSO : Hid (Z.sz o = so) := hso
     have hsize : ∀ W', Below Z7.heap.size Z7 W' → Calls Tryz.prog 71 #[.int .i64 o] W' fun e w' => e = .returned (.int .i64 so) ∧ Below W'.heap.size W' w' := fun W' hb => by rw [← HSO.out]; exact J.size_any o W' (J.Tab.below HJT.out (HD.out.below hb).low)
     have HS0 : Hid (Z7.drew.cell? ⟨yb, 0, none⟩ = some (.map (some bm))) := by show _ = _; rw [World.cell?_drew]; exact HD.out.cells.1
     have HLD : Hid (Z7.cell? ⟨yb, 2, none⟩ = some (.slice ap pn cp)) := HD.out.cells.2.2.1
     clear hso
     try rw [hZ7]
     clear hZ7
     go_wp2_with fail
     refine wp_region_held_drew (S := (fun w' : World => w'.cell? ⟨yb, 0, none⟩ = some (.map (some bm)))) (by kernel_rfl) HS0.out (fun hHeld => ?_)
     refine tj 0 ?_
     simp only [Act.put, zA, zB, zC]
     refine tj 1 ?_
     simp only [Act.put, zA, zB, zC]
     refine tj 2 ?_
     simp only [Act.put, zA, zB, zC]
     refine tj 3 ?_
     simp only [Act.put, zA, zB, zC]
     refine tj 5 ?_
     simp only [Act.put, zA, zB, zC]
     refine tj 6 ?_
     simp only [Act.put, zA, zB, zC]
     refine tr [4, 7] ?_
     refine AllReadyH.cons (tA rfl) (fun K hK => ?_) ?_
     ·have m3 := HLD.out
      go_simp
      refine hK.out _ _ hHeld (fun hHeld => ?_)
      clear hK K m3
      try simp only [Act.put, zA, zB, zC]
      refine tr [7] ?_
      refine AllReadyH.cons (tA rfl) (fun K hK => ?_) ?_
      ·go_simp
       refine (hsize _ (Below.refl _ _).drew).mono ?_
       rintro e y1 ⟨rfl, hb1⟩
       have HC : Hid (LA w y1 yb bm ai li ci ts (.slice ap pn cp) _ pn _ pc _) := (HD.out.below (Below.refl _ _).drew).below hb1
       clear hb1
       try go_wp2_with fail
       refine hK.out _ _ HC.out.cells.1 (fun hHeld => ?_)
       clear hK K
       try simp only [Act.put, zA, zB, zC]
       refine tj 8 ?_
       simp only [Act.put, zA, zB, zC]
       refine tr [9] ?_
       refine AllReadyH.cons (tA rfl) (fun K hK => ?_) ?_
       ·go_simp
        have HE : Hid (LA w (y1.alloc (.cells #[.int .i64 o, .int .i64 so, .int .i64 0] 111)) yb bm ai li ci ts (.slice ap pn cp) _ pn _ pc _) := HC.out.below (bl1 _ _)
        have HWE : Hid (w.heap.size ≤ (y1.alloc (.cells #[.int .i64 o, .int .i64 so, .int .i64 0] 111)).heap.size) := HE.out.low.size
        have HNC : Hid (∀ j u, (pC o)[j]? = some u → (y1.alloc (.cells #[.int .i64 o, .int .i64 so, .int .i64 0] 111)).cell? ((⟨y1.heap.size, 0, none⟩ : Addr).add j) = some u) := fun j u hu => by
         rw [Addr.add_lit, Nat.zero_add]
         unfold pC at hu
         rw [HSO.out] at hu
         exact cellA rfl (by simpa using hu)
        refine hK.out _ _ HE.out.cells.1 (fun hHeld => ?_)
        clear hK K
        try simp only [Act.put, zA, zB, zC]
        refine tr [10] ?_
        refine AllReadyH.cons (tA rfl) (fun K hK => ?_) AllReadyH.nil
        refine step_append_lies _ (by rfl) _ _ 84 (by rfl) w.heap.size 111 i2 _ 3 24 Tryz.underlying84 hi2 hz20 hz21 hz22 (by rfl) (by decide) (.slice ap pn cp) pn pc (by rfl) HE.out.pr ⟨y1.heap.size, 0, none⟩ 1 1 (pC o) (by rfl) (by rfl) HNC.out (by intro u hu; simp [pC] at hu; rcases hu with rfl | rfl | rfl <;> rfl) (by decide) (by unfold maxLen; omega) (by omega) HWE.out _ rfl ?_
        intro g cap Y6 ho6 hg6 hat6 hlt6
        have HP : Hid _ := HE.out.pushP ho6 hg6
        have h60 : Y6.cell? ⟨yb, 0, none⟩ = some (.map (some bm)) := hg6.cell HE.out.cells.1 (own_ne HE.out.pr HE.out.y (by decide))
        have m6 : Y6.cell? ⟨yb, 2, none⟩ = some (.slice ap pn cp) := hg6.cell HE.out.cells.2.2.1 (own_ne HE.out.pr HE.out.y (by decide))
        have z6 : Y6.frozen? ⟨yb, 2, none⟩ = false := (hg6.frozen_far ⟨yb, 2, none⟩ HE.out.cells.2.2.2.2.2 (own_ne HE.out.pr HE.out.y (by decide))).trans (HE.out.cells.2.2.2.2.1 2)
        have h61 := (World.cell?_setCell_other Y6 ⟨yb, 2, none⟩ ⟨yb, 0, none⟩ (.slice (some ⟨g, 0, none⟩) (pn + 1) cap) (by simp)).trans h60
        refine hK.out _ _ h60 (fun hHeld => ?_)
        clear hK K ho6 hg6 hat6 hlt6
        try simp only [Act.put, zA, zB, zC]
        refine tj 11 ?_
        simp only [Act.put, zA, zB, zC]
        refine tj 12 ?_
        simp only [Act.put, zA, zB, zC]
        refine tr [13] ?_
        refine AllReadyH.cons (tA rfl) (fun K hK => ?_) AllReadyH.nil
        go_simp
        refine hK.out _ _ h61 (fun hHeld => ?_)
        clear hK K
        try simp only [Act.put, zA, zB, zC]
        refine wpAnyH_done (by kernel_rfl) ?_ _
        clear hHeld
        clear m6 z6 h60 h61
        go_wp2_with fail
        go_end0
        exact ⟨rfl, HFIN.out _ _ HP.out⟩
       exact AllReadyH.nil

      exact AllReadyH.nil

     refine AllReadyH.cons (tA rfl) (fun K hK => ?_) ?_
     ·go_simp
      refine (hsize _ (Below.refl _ _).drew).mono ?_
      rintro e y1 ⟨rfl, hb1⟩
      have HC : Hid (LA w y1 yb bm ai li ci ts (.slice ap pn cp) _ pn _ pc _) := (HD.out.below (Below.refl _ _).drew).below hb1
      clear hb1
      try go_wp2_with fail
      refine hK.out _ _ HC.out.cells.1 (fun hHeld => ?_)
      clear hK K
      try simp only [Act.put, zA, zB, zC]
      refine tj 8 ?_
      simp only [Act.put, zA, zB, zC]
      refine tr [4, 9] ?_
      refine AllReadyH.cons (tA rfl) (fun K hK => ?_) ?_
      ·have m3 := HC.out.cells.2.2.1
       go_simp
       refine hK.out _ _ hHeld (fun hHeld => ?_)
       clear hK K m3
       try simp only [Act.put, zA, zB, zC]
       refine tr [9] ?_
       refine AllReadyH.cons (tA rfl) (fun K hK => ?_) ?_
       ·go_simp
        have HE : Hid (LA w (y1.alloc (.cells #[.int .i64 o, .int .i64 so, .int .i64 0] 111)) yb bm ai li ci ts (.slice ap pn cp) _ pn _ pc _) := HC.out.below (bl1 _ _)
        have HWE : Hid (w.heap.size ≤ (y1.alloc (.cells #[.int .i64 o, .int .i64 so, .int .i64 0] 111)).heap.size) := HE.out.low.size
        have HNC : Hid (∀ j u, (pC o)[j]? = some u → (y1.alloc (.cells #[.int .i64 o, .int .i64 so, .int .i64 0] 111)).cell? ((⟨y1.heap.size, 0, none⟩ : Addr).add j) = some u) := fun j u hu => by
         rw [Addr.add_lit, Nat.zero_add]
         unfold pC at hu
         rw [HSO.out] at hu
         exact cellA rfl (by simpa using hu)
        refine hK.out _ _ HE.out.cells.1 (fun hHeld => ?_)
        clear hK K
        try simp only [Act.put, zA, zB, zC]
        refine tr [10] ?_
        refine AllReadyH.cons (tA rfl) (fun K hK => ?_) AllReadyH.nil
        refine step_append_lies _ (by rfl) _ _ 84 (by rfl) w.heap.size 111 i2 _ 3 24 Tryz.underlying84 hi2 hz20 hz21 hz22 (by rfl) (by decide) (.slice ap pn cp) pn pc (by rfl) HE.out.pr ⟨y1.heap.size, 0, none⟩ 1 1 (pC o) (by rfl) (by rfl) HNC.out (by intro u hu; simp [pC] at hu; rcases hu with rfl | rfl | rfl <;> rfl) (by decide) (by unfold maxLen; omega) (by omega) HWE.out _ rfl ?_
        intro g cap Y6 ho6 hg6 hat6 hlt6
        have HP : Hid _ := HE.out.pushP ho6 hg6
        have h60 : Y6.cell? ⟨yb, 0, none⟩ = some (.map (some bm)) := hg6.cell HE.out.cells.1 (own_ne HE.out.pr HE.out.y (by decide))
        have m6 : Y6.cell? ⟨yb, 2, none⟩ = some (.slice ap pn cp) := hg6.cell HE.out.cells.2.2.1 (own_ne HE.out.pr HE.out.y (by decide))
        have z6 : Y6.frozen? ⟨yb, 2, none⟩ = false := (hg6.frozen_far ⟨yb, 2, none⟩ HE.out.cells.2.2.2.2.2 (own_ne HE.out.pr HE.out.y (by decide))).trans (HE.out.cells.2.2.2.2.1 2)
        have h61 := (World.cell?_setCell_other Y6 ⟨yb, 2, none⟩ ⟨yb, 0, none⟩ (.slice (some ⟨g, 0, none⟩) (pn + 1) cap) (by simp)).trans h60
        refine hK.out _ _ h60 (fun hHeld => ?_)
        clear hK K ho6 hg6 hat6 hlt6
        try simp only [Act.put, zA, zB, zC]
        refine tj 11 ?_
        simp only [Act.put, zA, zB, zC]
        refine tj 12 ?_
        simp only [Act.put, zA, zB, zC]
        refine tr [13] ?_
        refine AllReadyH.cons (tA rfl) (fun K hK => ?_) AllReadyH.nil
        go_simp
        refine hK.out _ _ h61 (fun hHeld => ?_)
        clear hK K
        try simp only [Act.put, zA, zB, zC]
        refine wpAnyH_done (by kernel_rfl) ?_ _
        clear hHeld
        clear m6 z6 h60 h61
        go_wp2_with fail
        go_end0
        exact ⟨rfl, HFIN.out _ _ HP.out⟩
       exact AllReadyH.nil

      refine AllReadyH.cons (tA rfl) (fun K hK => ?_) ?_
      ·go_simp
       have HE : Hid (LA w (y1.alloc (.cells #[.int .i64 o, .int .i64 so, .int .i64 0] 111)) yb bm ai li ci ts (.slice ap pn cp) _ pn _ pc _) := HC.out.below (bl1 _ _)
       have HWE : Hid (w.heap.size ≤ (y1.alloc (.cells #[.int .i64 o, .int .i64 so, .int .i64 0] 111)).heap.size) := HE.out.low.size
       have HNC : Hid (∀ j u, (pC o)[j]? = some u → (y1.alloc (.cells #[.int .i64 o, .int .i64 so, .int .i64 0] 111)).cell? ((⟨y1.heap.size, 0, none⟩ : Addr).add j) = some u) := fun j u hu => by
        rw [Addr.add_lit, Nat.zero_add]
        unfold pC at hu
        rw [HSO.out] at hu
        exact cellA rfl (by simpa using hu)
       refine hK.out _ _ HE.out.cells.1 (fun hHeld => ?_)
       clear hK K
       try simp only [Act.put, zA, zB, zC]
       refine tr [4] ?_
       refine AllReadyH.cons (tA rfl) (fun K hK => ?_) ?_
       ·have m3 := HE.out.cells.2.2.1
        go_simp
        refine hK.out _ _ hHeld (fun hHeld => ?_)
        clear hK K m3
        try simp only [Act.put, zA, zB, zC]
        refine tr [10] ?_
        refine AllReadyH.cons (tA rfl) (fun K hK => ?_) AllReadyH.nil
        refine step_append_lies _ (by rfl) _ _ 84 (by rfl) w.heap.size 111 i2 _ 3 24 Tryz.underlying84 hi2 hz20 hz21 hz22 (by rfl) (by decide) (.slice ap pn cp) pn pc (by rfl) HE.out.pr ⟨y1.heap.size, 0, none⟩ 1 1 (pC o) (by rfl) (by rfl) HNC.out (by intro u hu; simp [pC] at hu; rcases hu with rfl | rfl | rfl <;> rfl) (by decide) (by unfold maxLen; omega) (by omega) HWE.out _ rfl ?_
        intro g cap Y6 ho6 hg6 hat6 hlt6
        have HP : Hid _ := HE.out.pushP ho6 hg6
        have h60 : Y6.cell? ⟨yb, 0, none⟩ = some (.map (some bm)) := hg6.cell HE.out.cells.1 (own_ne HE.out.pr HE.out.y (by decide))
        have m6 : Y6.cell? ⟨yb, 2, none⟩ = some (.slice ap pn cp) := hg6.cell HE.out.cells.2.2.1 (own_ne HE.out.pr HE.out.y (by decide))
        have z6 : Y6.frozen? ⟨yb, 2, none⟩ = false := (hg6.frozen_far ⟨yb, 2, none⟩ HE.out.cells.2.2.2.2.2 (own_ne HE.out.pr HE.out.y (by decide))).trans (HE.out.cells.2.2.2.2.1 2)
        have h61 := (World.cell?_setCell_other Y6 ⟨yb, 2, none⟩ ⟨yb, 0, none⟩ (.slice (some ⟨g, 0, none⟩) (pn + 1) cap) (by simp)).trans h60
        refine hK.out _ _ h60 (fun hHeld => ?_)
        clear hK K ho6 hg6 hat6 hlt6
        try simp only [Act.put, zA, zB, zC]
        refine tj 11 ?_
        simp only [Act.put, zA, zB, zC]
        refine tj 12 ?_
        simp only [Act.put, zA, zB, zC]
        refine tr [13] ?_
        refine AllReadyH.cons (tA rfl) (fun K hK => ?_) AllReadyH.nil
        go_simp
        refine hK.out _ _ h61 (fun hHeld => ?_)
        clear hK K
        try simp only [Act.put, zA, zB, zC]
        refine wpAnyH_done (by kernel_rfl) ?_ _
        clear hHeld
        clear m6 z6 h60 h61
        go_wp2_with fail
        go_end0
        exact ⟨rfl, HFIN.out _ _ HP.out⟩
       exact AllReadyH.nil

      exact AllReadyH.nil

     exact AllReadyH.nil
    exact AllReadyH.nil

   refine AllReadyH.cons (tA rfl) (fun K hK => ?_) ?_
   ·go_simp
    refine hK.out _ _ HSE.out (fun hHeld => ?_)
    clear hK K
    try simp only [Act.put, zA, zB, zC]
    refine tr [4] ?_
    refine AllReadyH.cons (tA rfl) (fun K hK => ?_) ?_
    ·have m3 := HE.out.cells.2.2.2.1
     go_simp
     refine hK.out _ _ hHeld (fun hHeld => ?_)
     clear hK K m3
     try simp only [Act.put, zA, zB, zC]
     refine tr [15] ?_
     refine AllReadyH.cons (tA rfl) (fun K hK => ?_) AllReadyH.nil
     refine step_append_lies _ (by rfl) _ _ 85 (by rfl) w.heap.size 109 i1 _ 2 16 Tryz.underlying85 hi1 hz10 hz11 hz12 (by rfl) (by decide) (.slice aj jn cj) jn jc (by rfl) HE.out.jr ⟨w1.heap.size, 0, none⟩ 1 1 (jpC (k, q)) (by rfl) (by rfl) HNC.out (by intro u hu; simp [jpC] at hu; rcases hu with rfl | rfl <;> rfl) (by decide) (by unfold maxLen; omega) (by omega) HWE.out _ rfl ?_
     intro g cap Y6 ho6 hg6 hat6 hlt6
     have HP : Hid _ := HE.out.pushJ ho6 hg6
     have h60 : Y6.cell? ⟨yb, 0, none⟩ = some (.map (some bm)) ∧ Y6.cell? ⟨bx, 1, none⟩ = some (.string nm) := ⟨hg6.cell HE.out.cells.1 (own_ne HE.out.jr HE.out.y (by decide)), hg6.cell HBE.out (own_ne HE.out.jr HBX.out (by decide))⟩
     have m6 : Y6.cell? ⟨yb, 3, none⟩ = some (.slice aj jn cj) := hg6.cell HE.out.cells.2.2.2.1 (own_ne HE.out.jr HE.out.y (by decide))
     have z6 : Y6.frozen? ⟨yb, 3, none⟩ = false := (hg6.frozen_far ⟨yb, 3, none⟩ HE.out.cells.2.2.2.2.2 (own_ne HE.out.jr HE.out.y (by decide))).trans (HE.out.cells.2.2.2.2.1 3)
     have h61 := (World.cell?_setCell_other Y6 ⟨yb, 3, none⟩ ⟨yb, 0, none⟩ (.slice (some ⟨g, 0, none⟩) (jn + 1) cap) (by simp)).trans h60.1
     have h62 := (World.cell?_setCell_far Y6 ⟨yb, 3, none⟩ ⟨bx, 1, none⟩ (.slice (some ⟨g, 0, none⟩) (jn + 1) cap) hbxy).trans h60.2
     refine hK.out _ _ h60 (fun hHeld => ?_)
     clear hK K ho6 hg6 hat6 hlt6
     try simp only [Act.put, zA, zB, zC]
     refine tj 16 ?_
     simp only [Act.put, zA, zB, zC]
     refine tj 17 ?_
     simp only [Act.put, zA, zB, zC]
     refine tr [18] ?_
     refine AllReadyH.cons (tA rfl) (fun K hK => ?_) AllReadyH.nil
     go_simp
     refine hK.out _ _ ⟨h61, h62⟩ (fun hHeld => ?_)
     clear hK K
     try simp only [Act.put, zA, zB, zC]
     refine wpAnyH_done (by kernel_rfl) ?_ _
     clear hHeld
     clear m6 z6 h60 h61 h62
     obtain ⟨Z7, hZ7⟩ : ∃ Z7, Y6.setCell ⟨yb, 3, none⟩ (.slice (some ⟨g, 0, none⟩) (jn + 1) cap) = Z7 := ⟨_, rfl⟩
     rw [hZ7] at HP
     have HD : Hid (LA w Z7 yb bm ai li ci ts (.slice ap pn cp) _ pn _ pc _) := HP.out
     clear HLD HS0 HE HSE HWE HNC HRUN HP
     obtain ⟨so, hso⟩ : ∃ so, Z.sz o = so := ⟨_, rfl⟩
     have HSO : Hid (Z.sz o = so) := hso
     have hsize : ∀ W', Below Z7.heap.size Z7 W' → Calls Tryz.prog 71 #[.int .i64 o] W' fun e w' => e = .returned (.int .i64 so) ∧ Below W'.heap.size W' w' := fun W' hb => by rw [← HSO.out]; exact J.size_any o W' (J.Tab.below HJT.out (HD.out.below hb).low)
     have HS0 : Hid (Z7.drew.cell? ⟨yb, 0, none⟩ = some (.map (some bm))) := by show _ = _; rw [World.cell?_drew]; exact HD.out.cells.1
     have HLD : Hid (Z7.cell? ⟨yb, 2, none⟩ = some (.slice ap pn cp)) := HD.out.cells.2.2.1
     clear hso
     try rw [hZ7]
     clear hZ7
     go_wp2_with fail
     refine wp_region_held_drew (S := (fun w' : World => w'.cell? ⟨yb, 0, none⟩ = some (.map (some bm)))) (by kernel_rfl) HS0.out (fun hHeld => ?_)
     refine tj 0 ?_
     simp only [Act.put, zA, zB, zC]
     refine tj 1 ?_
     simp only [Act.put, zA, zB, zC]
     refine tj 2 ?_
     simp only [Act.put, zA, zB, zC]
     refine tj 3 ?_
     simp only [Act.put, zA, zB, zC]
     refine tj 5 ?_
     simp only [Act.put, zA, zB, zC]
     refine tj 6 ?_
     simp only [Act.put, zA, zB, zC]
     refine tr [4, 7] ?_
     refine AllReadyH.cons (tA rfl) (fun K hK => ?_) ?_
     ·have m3 := HLD.out
      go_simp
      refine hK.out _ _ hHeld (fun hHeld => ?_)
      clear hK K m3
      try simp only [Act.put, zA, zB, zC]
      refine tr [7] ?_
      refine AllReadyH.cons (tA rfl) (fun K hK => ?_) ?_
      ·go_simp
       refine (hsize _ (Below.refl _ _).drew).mono ?_
       rintro e y1 ⟨rfl, hb1⟩
       have HC : Hid (LA w y1 yb bm ai li ci ts (.slice ap pn cp) _ pn _ pc _) := (HD.out.below (Below.refl _ _).drew).below hb1
       clear hb1
       try go_wp2_with fail
       refine hK.out _ _ HC.out.cells.1 (fun hHeld => ?_)
       clear hK K
       try simp only [Act.put, zA, zB, zC]
       refine tj 8 ?_
       simp only [Act.put, zA, zB, zC]
       refine tr [9] ?_
       refine AllReadyH.cons (tA rfl) (fun K hK => ?_) ?_
       ·go_simp
        have HE : Hid (LA w (y1.alloc (.cells #[.int .i64 o, .int .i64 so, .int .i64 0] 111)) yb bm ai li ci ts (.slice ap pn cp) _ pn _ pc _) := HC.out.below (bl1 _ _)
        have HWE : Hid (w.heap.size ≤ (y1.alloc (.cells #[.int .i64 o, .int .i64 so, .int .i64 0] 111)).heap.size) := HE.out.low.size
        have HNC : Hid (∀ j u, (pC o)[j]? = some u → (y1.alloc (.cells #[.int .i64 o, .int .i64 so, .int .i64 0] 111)).cell? ((⟨y1.heap.size, 0, none⟩ : Addr).add j) = some u) := fun j u hu => by
         rw [Addr.add_lit, Nat.zero_add]
         unfold pC at hu
         rw [HSO.out] at hu
         exact cellA rfl (by simpa using hu)
        refine hK.out _ _ HE.out.cells.1 (fun hHeld => ?_)
        clear hK K
        try simp only [Act.put, zA, zB, zC]
        refine tr [10] ?_
        refine AllReadyH.cons (tA rfl) (fun K hK => ?_) AllReadyH.nil
        refine step_append_lies _ (by rfl) _ _ 84 (by rfl) w.heap.size 111 i2 _ 3 24 Tryz.underlying84 hi2 hz20 hz21 hz22 (by rfl) (by decide) (.slice ap pn cp) pn pc (by rfl) HE.out.pr ⟨y1.heap.size, 0, none⟩ 1 1 (pC o) (by rfl) (by rfl) HNC.out (by intro u hu; simp [pC] at hu; rcases hu with rfl | rfl | rfl <;> rfl) (by decide) (by unfold maxLen; omega) (by omega) HWE.out _ rfl ?_
        intro g cap Y6 ho6 hg6 hat6 hlt6
        have HP : Hid _ := HE.out.pushP ho6 hg6
        have h60 : Y6.cell? ⟨yb, 0, none⟩ = some (.map (some bm)) := hg6.cell HE.out.cells.1 (own_ne HE.out.pr HE.out.y (by decide))
        have m6 : Y6.cell? ⟨yb, 2, none⟩ = some (.slice ap pn cp) := hg6.cell HE.out.cells.2.2.1 (own_ne HE.out.pr HE.out.y (by decide))
        have z6 : Y6.frozen? ⟨yb, 2, none⟩ = false := (hg6.frozen_far ⟨yb, 2, none⟩ HE.out.cells.2.2.2.2.2 (own_ne HE.out.pr HE.out.y (by decide))).trans (HE.out.cells.2.2.2.2.1 2)
        have h61 := (World.cell?_setCell_other Y6 ⟨yb, 2, none⟩ ⟨yb, 0, none⟩ (.slice (some ⟨g, 0, none⟩) (pn + 1) cap) (by simp)).trans h60
        refine hK.out _ _ h60 (fun hHeld => ?_)
        clear hK K ho6 hg6 hat6 hlt6
        try simp only [Act.put, zA, zB, zC]
        refine tj 11 ?_
        simp only [Act.put, zA, zB, zC]
        refine tj 12 ?_
        simp only [Act.put, zA, zB, zC]
        refine tr [13] ?_
        refine AllReadyH.cons (tA rfl) (fun K hK => ?_) AllReadyH.nil
        go_simp
        refine hK.out _ _ h61 (fun hHeld => ?_)
        clear hK K
        try simp only [Act.put, zA, zB, zC]
        refine wpAnyH_done (by kernel_rfl) ?_ _
        clear hHeld
        clear m6 z6 h60 h61
        go_wp2_with fail
        go_end0
        exact ⟨rfl, HFIN.out _ _ HP.out⟩
       exact AllReadyH.nil

      exact AllReadyH.nil

     refine AllReadyH.cons (tA rfl) (fun K hK => ?_) ?_
     ·go_simp
      refine (hsize _ (Below.refl _ _).drew).mono ?_
      rintro e y1 ⟨rfl, hb1⟩
      have HC : Hid (LA w y1 yb bm ai li ci ts (.slice ap pn cp) _ pn _ pc _) := (HD.out.below (Below.refl _ _).drew).below hb1
      clear hb1
      try go_wp2_with fail
      refine hK.out _ _ HC.out.cells.1 (fun hHeld => ?_)
      clear hK K
      try simp only [Act.put, zA, zB, zC]
      refine tj 8 ?_
      simp only [Act.put, zA, zB, zC]
      refine tr [4, 9] ?_
      refine AllReadyH.cons (tA rfl) (fun K hK => ?_) ?_
      ·have m3 := HC.out.cells.2.2.1
       go_simp
       refine hK.out _ _ hHeld (fun hHeld => ?_)
       clear hK K m3
       try simp only [Act.put, zA, zB, zC]
       refine tr [9] ?_
       refine AllReadyH.cons (tA rfl) (fun K hK => ?_) ?_
       ·go_simp
        have HE : Hid (LA w (y1.alloc (.cells #[.int .i64 o, .int .i64 so, .int .i64 0] 111)) yb bm ai li ci ts (.slice ap pn cp) _ pn _ pc _) := HC.out.below (bl1 _ _)
        have HWE : Hid (w.heap.size ≤ (y1.alloc (.cells #[.int .i64 o, .int .i64 so, .int .i64 0] 111)).heap.size) := HE.out.low.size
        have HNC : Hid (∀ j u, (pC o)[j]? = some u → (y1.alloc (.cells #[.int .i64 o, .int .i64 so, .int .i64 0] 111)).cell? ((⟨y1.heap.size, 0, none⟩ : Addr).add j) = some u) := fun j u hu => by
         rw [Addr.add_lit, Nat.zero_add]
         unfold pC at hu
         rw [HSO.out] at hu
         exact cellA rfl (by simpa using hu)
        refine hK.out _ _ HE.out.cells.1 (fun hHeld => ?_)
        clear hK K
        try simp only [Act.put, zA, zB, zC]
        refine tr [10] ?_
        refine AllReadyH.cons (tA rfl) (fun K hK => ?_) AllReadyH.nil
        refine step_append_lies _ (by rfl) _ _ 84 (by rfl) w.heap.size 111 i2 _ 3 24 Tryz.underlying84 hi2 hz20 hz21 hz22 (by rfl) (by decide) (.slice ap pn cp) pn pc (by rfl) HE.out.pr ⟨y1.heap.size, 0, none⟩ 1 1 (pC o) (by rfl) (by rfl) HNC.out (by intro u hu; simp [pC] at hu; rcases hu with rfl | rfl | rfl <;> rfl) (by decide) (by unfold maxLen; omega) (by omega) HWE.out _ rfl ?_
        intro g cap Y6 ho6 hg6 hat6 hlt6
        have HP : Hid _ := HE.out.pushP ho6 hg6
        have h60 : Y6.cell? ⟨yb, 0, none⟩ = some (.map (some bm)) := hg6.cell HE.out.cells.1 (own_ne HE.out.pr HE.out.y (by decide))
        have m6 : Y6.cell? ⟨yb, 2, none⟩ = some (.slice ap pn cp) := hg6.cell HE.out.cells.2.2.1 (own_ne HE.out.pr HE.out.y (by decide))
        have z6 : Y6.frozen? ⟨yb, 2, none⟩ = false := (hg6.frozen_far ⟨yb, 2, none⟩ HE.out.cells.2.2.2.2.2 (own_ne HE.out.pr HE.out.y (by decide))).trans (HE.out.cells.2.2.2.2.1 2)
        have h61 := (World.cell?_setCell_other Y6 ⟨yb, 2, none⟩ ⟨yb, 0, none⟩ (.slice (some ⟨g, 0, none⟩) (pn + 1) cap) (by simp)).trans h60
        refine hK.out _ _ h60 (fun hHeld => ?_)
        clear hK K ho6 hg6 hat6 hlt6
        try simp only [Act.put, zA, zB, zC]
        refine tj 11 ?_
        simp only [Act.put, zA, zB, zC]
        refine tj 12 ?_
        simp only [Act.put, zA, zB, zC]
        refine tr [13] ?_
        refine AllReadyH.cons (tA rfl) (fun K hK => ?_) AllReadyH.nil
        go_simp
        refine hK.out _ _ h61 (fun hHeld => ?_)
        clear hK K
        try simp only [Act.put, zA, zB, zC]
        refine wpAnyH_done (by kernel_rfl) ?_ _
        clear hHeld
        clear m6 z6 h60 h61
        go_wp2_with fail
        go_end0
        exact ⟨rfl, HFIN.out _ _ HP.out⟩
       exact AllReadyH.nil

      refine AllReadyH.cons (tA rfl) (fun K hK => ?_) ?_
      ·go_simp
       have HE : Hid (LA w (y1.alloc (.cells #[.int .i64 o, .int .i64 so, .int .i64 0] 111)) yb bm ai li ci ts (.slice ap pn cp) _ pn _ pc _) := HC.out.below (bl1 _ _)
       have HWE : Hid (w.heap.size ≤ (y1.alloc (.cells #[.int .i64 o, .int .i64 so, .int .i64 0] 111)).heap.size) := HE.out.low.size
       have HNC : Hid (∀ j u, (pC o)[j]? = some u → (y1.alloc (.cells #[.int .i64 o, .int .i64 so, .int .i64 0] 111)).cell? ((⟨y1.heap.size, 0, none⟩ : Addr).add j) = some u) := fun j u hu => by
        rw [Addr.add_lit, Nat.zero_add]
        unfold pC at hu
        rw [HSO.out] at hu
        exact cellA rfl (by simpa using hu)
       refine hK.out _ _ HE.out.cells.1 (fun hHeld => ?_)
       clear hK K
       try simp only [Act.put, zA, zB, zC]
       refine tr [4] ?_
       refine AllReadyH.cons (tA rfl) (fun K hK => ?_) ?_
       ·have m3 := HE.out.cells.2.2.1
        go_simp
        refine hK.out _ _ hHeld (fun hHeld => ?_)
        clear hK K m3
        try simp only [Act.put, zA, zB, zC]
        refine tr [10] ?_
        refine AllReadyH.cons (tA rfl) (fun K hK => ?_) AllReadyH.nil
        refine step_append_lies _ (by rfl) _ _ 84 (by rfl) w.heap.size 111 i2 _ 3 24 Tryz.underlying84 hi2 hz20 hz21 hz22 (by rfl) (by decide) (.slice ap pn cp) pn pc (by rfl) HE.out.pr ⟨y1.heap.size, 0, none⟩ 1 1 (pC o) (by rfl) (by rfl) HNC.out (by intro u hu; simp [pC] at hu; rcases hu with rfl | rfl | rfl <;> rfl) (by decide) (by unfold maxLen; omega) (by omega) HWE.out _ rfl ?_
        intro g cap Y6 ho6 hg6 hat6 hlt6
        have HP : Hid _ := HE.out.pushP ho6 hg6
        have h60 : Y6.cell? ⟨yb, 0, none⟩ = some (.map (some bm)) := hg6.cell HE.out.cells.1 (own_ne HE.out.pr HE.out.y (by decide))
        have m6 : Y6.cell? ⟨yb, 2, none⟩ = some (.slice ap pn cp) := hg6.cell HE.out.cells.2.2.1 (own_ne HE.out.pr HE.out.y (by decide))
        have z6 : Y6.frozen? ⟨yb, 2, none⟩ = false := (hg6.frozen_far ⟨yb, 2, none⟩ HE.out.cells.2.2.2.2.2 (own_ne HE.out.pr HE.out.y (by decide))).trans (HE.out.cells.2.2.2.2.1 2)
        have h61 := (World.cell?_setCell_other Y6 ⟨yb, 2, none⟩ ⟨yb, 0, none⟩ (.slice (some ⟨g, 0, none⟩) (pn + 1) cap) (by simp)).trans h60
        refine hK.out _ _ h60 (fun hHeld => ?_)
        clear hK K ho6 hg6 hat6 hlt6
        try simp only [Act.put, zA, zB, zC]
        refine tj 11 ?_
        simp only [Act.put, zA, zB, zC]
        refine tj 12 ?_
        simp only [Act.put, zA, zB, zC]
        refine tr [13] ?_
        refine AllReadyH.cons (tA rfl) (fun K hK => ?_) AllReadyH.nil
        go_simp
        refine hK.out _ _ h61 (fun hHeld => ?_)
        clear hK K
        try simp only [Act.put, zA, zB, zC]
        refine wpAnyH_done (by kernel_rfl) ?_ _
        clear hHeld
        clear m6 z6 h60 h61
        go_wp2_with fail
        go_end0
        exact ⟨rfl, HFIN.out _ _ HP.out⟩
       exact AllReadyH.nil

      exact AllReadyH.nil

     exact AllReadyH.nil
    exact AllReadyH.nil

   exact AllReadyH.nil

  exact AllReadyH.nil

end

end Go.Proofs.YtgjingleolhkbaaGreatDoor

/- The document's memory, as it lies. -/
import Derived.Test.YtfkpbmopneleiaaMemRow
import Derived.Test.YtfkpbmopneleiaaMemFJ
import Derived.Test.YtfkpbmopneleiaaMemRefMay
namespace Go.Proofs.Ytfkpbmopneleiaa
open Go.RowKit Go.Maps
set_option linter.unusedVariables false

structure RefV (B : Nat) (w : World) (bx : Nat) (rs : List Reg) (R W : List Int) (lv v1 v2 : Value) (us : List Value) (L1 L2 : List Int) (t : Nat → Nat) : Prop where
  reg : RegRow B w lv rs us t
  c0 : w.cell? ⟨bx, 0, none⟩ = some lv
  c1 : w.cell? ⟨bx, 1, none⟩ = some v1
  c2 : w.cell? ⟨bx, 2, none⟩ = some v2
  fz : ∀ o, w.frozen? ⟨bx, o, none⟩ = false
  tb : t bx = 1
  o1 : w.ownsRow B 2 1 v1 L1.length (intsR L1)
  o2 : w.ownsRow B 2 1 v2 L2.length (intsR L2)
  t1 : ∀ g, v1.ownBlock = some g → t g = 3
  t2 : ∀ g, v2.ownBlock = some g → t g = 4
  i1 : M.Ris L1 (· ∈ R)
  i2 : M.Ris L2 (· ∈ W)
  f1 : ∀ n ∈ L1, (Lit.int .i64 n).wf = true
  f2 : ∀ n ∈ L2, (Lit.int .i64 n).wf = true
def RefX (B : Nat) (w : World) (bx : Nat) (rs : List Reg) (R W : List Int) (t : Nat → Nat) : Prop := ∃ lv v1 v2 us L1 L2, RefV B w bx rs R W lv v1 v2 us L1 L2 t

theorem RefV.lt {B : Nat} {w : World} {bx : Nat} {rs : List Reg} {R W : List Int} {lv v1 v2 : Value} {us : List Value} {L1 L2 : List Int} {t : Nat → Nat} (h : RefV B w bx rs R W lv v1 v2 us L1 L2 t) : bx < w.heap.size := World.block_lt_of_cell? w ⟨bx, 0, none⟩ h.c0
/-- Another world in which all marked blocks are as they were. -/
theorem RefV.conv {B : Nat} {w w' : World} {bx : Nat} {rs : List Reg} {R W : List Int} {lv v1 v2 : Value} {us : List Value} {L1 L2 : List Int} {t : Nat → Nat} (h : RefV B w bx rs R W lv v1 v2 us L1 L2 t) (hb : ∀ k, t k ≠ 0 → w'.heap[k]? = w.heap[k]?) (hs : w.heap.size ≤ w'.heap.size) : RefV B w' bx rs R W lv v1 v2 us L1 L2 t where
  reg := h.reg.conv (fun k hk => hb k (by omega)) (fun _ _ => rfl) (fun k hk => ⟨(h.reg.lt k hk).1, Nat.lt_of_lt_of_le (h.reg.lt k hk).2 hs⟩)
  c0 := (World.cell?_of_block (a := ⟨bx, 0, none⟩) (hb bx (by rw [h.tb]; decide))).trans h.c0
  c1 := (World.cell?_of_block (a := ⟨bx, 1, none⟩) (hb bx (by rw [h.tb]; decide))).trans h.c1
  c2 := (World.cell?_of_block (a := ⟨bx, 2, none⟩) (hb bx (by rw [h.tb]; decide))).trans h.c2
  fz := fun o => (World.frozen?_of_block (a := ⟨bx, o, none⟩) (hb bx (by rw [h.tb]; decide))).trans (h.fz o)
  tb := h.tb
  o1 := row_cong h.o1 (fun g hg => hb g (by rw [h.t1 g hg]; decide))
  o2 := row_cong h.o2 (fun g hg => hb g (by rw [h.t2 g hg]; decide))
  t1 := h.t1
  t2 := h.t2
  i1 := h.i1
  i2 := h.i2
  f1 := h.f1
  f2 := h.f2
theorem RefV.frame {B : Nat} {w w' : World} {bx : Nat} {rs : List Reg} {R W : List Int} {lv v1 v2 : Value} {us : List Value} {L1 L2 : List Int} {t p p' : Nat → Nat} (h : RefV B w bx rs R W lv v1 v2 us L1 L2 t) (hs : St p p' w w') (hd : ∀ k, t k ≠ 0 → p k = 0) : RefV B w' bx rs R W lv v1 v2 us L1 L2 t :=
  h.conv (fun k hk => hs.block k (h.reg.lt k hk).2 (hd k hk)) hs.size
theorem RefV.below {B : Nat} {w w' : World} {bx : Nat} {rs : List Reg} {R W : List Int} {lv v1 v2 : Value} {us : List Value} {L1 L2 : List Int} {t : Nat → Nat} (h : RefV B w bx rs R W lv v1 v2 us L1 L2 t) (hb : Below w.heap.size w w') : RefV B w' bx rs R W lv v1 v2 us L1 L2 t :=
  h.frame (St.ofBelow (fun _ => 0) hb) (fun _ _ => rfl)
theorem RefX.frame {B : Nat} {w w' : World} {bx : Nat} {rs : List Reg} {R W : List Int} {t p p' : Nat → Nat} (h : RefX B w bx rs R W t) (hs : St p p' w w') (hd : ∀ k, t k ≠ 0 → p k = 0) : RefX B w' bx rs R W t := by
  obtain ⟨lv, v1, v2, us, L1, L2, h⟩ := h
  exact ⟨lv, v1, v2, us, L1, L2, h.frame hs hd⟩
theorem RefX.lt {B : Nat} {w : World} {bx : Nat} {rs : List Reg} {R W : List Int} {t : Nat → Nat} (h : RefX B w bx rs R W t) : ∀ k, t k ≠ 0 → B ≤ k ∧ k < w.heap.size := by
  obtain ⟨lv, v1, v2, us, L1, L2, h⟩ := h
  exact h.reg.lt

/-- One of the memory's three cells is another value. -/
theorem set_cells {w : World} {bx o : Nat} {u : Value} (hx : (w.cell? ⟨bx, o, none⟩).isSome = true) : (w.setCell ⟨bx, o, none⟩ u).cell? ⟨bx, o, none⟩ = some u ∧ ∀ j, j ≠ o → (w.setCell ⟨bx, o, none⟩ u).cell? ⟨bx, j, none⟩ = w.cell? ⟨bx, j, none⟩ :=
  ⟨World.cell?_setCell_same' _ _ _ hx, fun j hj => World.cell?_setCell_other _ _ _ _ (by intro e; apply hj; have := congrArg Addr.off e; simpa using this.symm)⟩

/-- A new list of what was read. -/
theorem RefV.read {B : Nat} {w w1 : World} {bx : Nat} {rs : List Reg} {R W : List Int} {lv v1 v2 : Value} {us : List Value} {L1 L2 : List Int} {t : Nat → Nat} {u : Value} {n : Int} (h : RefV B w bx rs R W lv v1 v2 us L1 L2 t) (hb : Below w.heap.size w w1) (ho : w1.ownsRow w.heap.size 2 1 u (putL n L1).length (intsR (putL n L1))) (hn : (Lit.int .i64 n).wf = true) (hB : B ≤ w.heap.size) :
    ∃ t', RefX B (w1.setCell ⟨bx, 1, none⟩ u) bx rs (R ++ [n]) W t' ∧ St t t' w (w1.setCell ⟨bx, 1, none⟩ u) := by
  have k := h.below hb
  have hbx := h.lt
  have sc := set_cells (w := w1) (bx := bx) (o := 1) (u := u) (by rw [k.c1]; rfl)
  have hu : ∀ g, u.ownBlock = some g → w.heap.size ≤ g ∧ g < w1.heap.size := fun g hg => ho.lt g hg
  have hsame : ∀ x, x < w1.heap.size → x ≠ bx → (w1.setCell ⟨bx, 1, none⟩ u).heap[x]? = w1.heap[x]? := fun x hx hne => (gb_set w1 ⟨bx, 1, none⟩ u).block x hx (by simpa using hne)
  refine ⟨fun x => if u.ownBlock = some x then 3 else t x, ⟨lv, u, v2, us, putL n L1, L2, ?_⟩, ?_⟩
  · have nt : ∀ x, t x ≠ 0 → ¬ u.ownBlock = some x := fun x hx e => by have := (h.reg.lt x hx).2; have := (hu x e).1; omega
    have nb : ∀ x, t x ≠ 1 → x ≠ bx := fun x hx e => hx (by rw [e]; exact h.tb)
    have hlt : ∀ x, (if u.ownBlock = some x then 3 else t x) ≠ 0 → B ≤ x ∧ x < (w1.setCell ⟨bx, 1, none⟩ u).heap.size := fun x hx => by
      rw [World.size_setCell]
      by_cases c : u.ownBlock = some x
      · have := hu x c; omega
      · rw [if_neg c] at hx; exact k.reg.lt x hx
    refine { reg := k.reg.conv (fun x hx => hsame x (k.reg.lt x (by omega)).2 (nb x (by omega))) (fun x hx => if_neg (nt x (by omega))) hlt, c0 := (sc.2 0 (by decide)).trans k.c0, c1 := sc.1, c2 := (sc.2 2 (by decide)).trans k.c2, fz := fun o => by rw [World.frozen?_setCell]; exact k.fz o, tb := by rw [if_neg (nt bx (by rw [h.tb]; decide))]; exact h.tb, o1 := ?_, o2 := ?_, t1 := fun g hg => if_pos hg, t2 := fun g hg => by rw [if_neg (nt g (by rw [h.t2 g hg]; decide))]; exact h.t2 g hg, i1 := ris_put k.i1, i2 := k.i2, f1 := fits_put k.i1 k.f1 hn, f2 := k.f2 }
    · exact row_cong (own_base ho hB) (fun g hg => hsame g (hu g hg).2 (by have := (hu g hg).1; omega))
    · exact row_cong k.o2 (fun g hg => hsame g (k.o2.lt g hg).2 (nb g (by rw [h.t2 g hg]; decide)))
  · refine ⟨fun x hx => if_neg (fun e => by have := (hu x e).1; omega), fun x hx hz => ?_, ?_, ?_, ?_, ?_⟩
    · exact (hsame x (by have := hb.size; omega) (fun e => by rw [e, h.tb] at hz; cases hz)).trans (hb.block x hx)
    · rw [World.size_setCell]; exact hb.size
    · exact (gb_set w1 ⟨bx, 1, none⟩ u).os.trans hb.os
    · exact (gb_set w1 ⟨bx, 1, none⟩ u).tape.trans hb.tape
    · exact (gb_set w1 ⟨bx, 1, none⟩ u).output.trans hb.output
/-- A new list of what was written. -/
theorem RefV.wrote {B : Nat} {w w1 : World} {bx : Nat} {rs : List Reg} {R W : List Int} {lv v1 v2 : Value} {us : List Value} {L1 L2 : List Int} {t : Nat → Nat} {u : Value} {n : Int} (h : RefV B w bx rs R W lv v1 v2 us L1 L2 t) (hb : Below w.heap.size w w1) (ho : w1.ownsRow w.heap.size 2 1 u (putL n L2).length (intsR (putL n L2))) (hn : (Lit.int .i64 n).wf = true) (hB : B ≤ w.heap.size) :
    ∃ t', RefV B (w1.setCell ⟨bx, 2, none⟩ u) bx rs R (W ++ [n]) lv v1 u us L1 (putL n L2) t' ∧ St t t' w (w1.setCell ⟨bx, 2, none⟩ u) := by
  have k := h.below hb
  have hbx := h.lt
  have sc := set_cells (w := w1) (bx := bx) (o := 2) (u := u) (by rw [k.c2]; rfl)
  have hu : ∀ g, u.ownBlock = some g → w.heap.size ≤ g ∧ g < w1.heap.size := fun g hg => ho.lt g hg
  have hsame : ∀ x, x < w1.heap.size → x ≠ bx → (w1.setCell ⟨bx, 2, none⟩ u).heap[x]? = w1.heap[x]? := fun x hx hne => (gb_set w1 ⟨bx, 2, none⟩ u).block x hx (by simpa using hne)
  refine ⟨fun x => if u.ownBlock = some x then 4 else t x, ?_, ?_⟩
  · have nt : ∀ x, t x ≠ 0 → ¬ u.ownBlock = some x := fun x hx e => by have := (h.reg.lt x hx).2; have := (hu x e).1; omega
    have nb : ∀ x, t x ≠ 1 → x ≠ bx := fun x hx e => hx (by rw [e]; exact h.tb)
    have hlt : ∀ x, (if u.ownBlock = some x then 4 else t x) ≠ 0 → B ≤ x ∧ x < (w1.setCell ⟨bx, 2, none⟩ u).heap.size := fun x hx => by
      rw [World.size_setCell]
      by_cases c : u.ownBlock = some x
      · have := hu x c; omega
      · rw [if_neg c] at hx; exact k.reg.lt x hx
    refine { reg := k.reg.conv (fun x hx => hsame x (k.reg.lt x (by omega)).2 (nb x (by omega))) (fun x hx => if_neg (nt x (by omega))) hlt, c0 := (sc.2 0 (by decide)).trans k.c0, c1 := (sc.2 1 (by decide)).trans k.c1, c2 := sc.1, fz := fun o => by rw [World.frozen?_setCell]; exact k.fz o, tb := by rw [if_neg (nt bx (by rw [h.tb]; decide))]; exact h.tb, o1 := ?_, o2 := ?_, t1 := fun g hg => by rw [if_neg (nt g (by rw [h.t1 g hg]; decide))]; exact h.t1 g hg, t2 := fun g hg => if_pos hg, i1 := k.i1, i2 := ris_put k.i2, f1 := k.f1, f2 := fits_put k.i2 k.f2 hn }
    · exact row_cong k.o1 (fun g hg => hsame g (k.o1.lt g hg).2 (nb g (by rw [h.t1 g hg]; decide)))
    · exact row_cong (own_base ho hB) (fun g hg => hsame g (hu g hg).2 (by have := (hu g hg).1; omega))
  · refine ⟨fun x hx => if_neg (fun e => by have := (hu x e).1; omega), fun x hx hz => ?_, ?_, ?_, ?_, ?_⟩
    · exact (hsame x (by have := hb.size; omega) (fun e => by rw [e, h.tb] at hz; cases hz)).trans (hb.block x hx)
    · rw [World.size_setCell]; exact hb.size
    · exact (gb_set w1 ⟨bx, 2, none⟩ u).os.trans hb.os
    · exact (gb_set w1 ⟨bx, 2, none⟩ u).tape.trans hb.tape
    · exact (gb_set w1 ⟨bx, 2, none⟩ u).output.trans hb.output
/-- A word is another one. -/
theorem RefV.putW {B : Nat} {w : World} {bx : Nat} {rs : List Reg} {R W : List Int} {lv v1 v2 : Value} {us : List Value} {L1 L2 : List Int} {t : Nat → Nat} (h : RefV B w bx rs R W lv v1 v2 us L1 L2 t) (i j : Nat) (hi : i < rs.length) (hj : j < (rs.getD i noReg).words.length) (n : Int) (hn : (Lit.int .i64 n).wf = true) :
    ∃ g cap, us.getD i nilR = .slice (some ⟨g, 0, none⟩) (rs.getD i noReg).words.length cap ∧ w.cell? ⟨g, j, none⟩ = some (.int .i64 ((rs.getD i noReg).words.getD j 0)) ∧ w.frozen? ⟨g, j, none⟩ = false ∧ RefX B (w.setCell ⟨g, j, none⟩ (.int .i64 n)) bx (putWord rs i j n) R W t ∧ St t t w (w.setCell ⟨g, j, none⟩ (.int .i64 n)) := by
  obtain ⟨g, cap, hv, htg, hc, hf, hr⟩ := h.reg.put i j hi hj n hn
  have sg := gb_set w ⟨g, j, none⟩ (.int .i64 n)
  have hsame : ∀ x, x < w.heap.size → t x < 5 → (w.setCell ⟨g, j, none⟩ (.int .i64 n)).heap[x]? = w.heap[x]? := fun x hx ht => sg.block x hx (fun e => by
    have e' : x = g := by simpa using e
    rw [e', htg] at ht
    omega)
  have hbx := hsame bx h.lt (by rw [h.tb]; decide)
  refine ⟨g, cap, hv, hc, hf, ⟨lv, v1, v2, us, L1, L2, { reg := hr, c0 := (World.cell?_of_block (a := ⟨bx, 0, none⟩) hbx).trans h.c0, c1 := (World.cell?_of_block (a := ⟨bx, 1, none⟩) hbx).trans h.c1, c2 := (World.cell?_of_block (a := ⟨bx, 2, none⟩) hbx).trans h.c2, fz := fun o => by rw [World.frozen?_setCell]; exact h.fz o, tb := h.tb, o1 := row_cong h.o1 (fun x hx => hsame x (h.o1.lt x hx).2 (by rw [h.t1 x hx]; decide)), o2 := row_cong h.o2 (fun x hx => hsame x (h.o2.lt x hx).2 (by rw [h.t2 x hx]; decide)), t1 := h.t1, t2 := h.t2, i1 := h.i1, i2 := h.i2, f1 := h.f1, f2 := h.f2 }⟩, St.ofGrown t sg (by show t g ≠ 0; rw [htg]; omega)⟩

end Go.Proofs.Ytfkpbmopneleiaa

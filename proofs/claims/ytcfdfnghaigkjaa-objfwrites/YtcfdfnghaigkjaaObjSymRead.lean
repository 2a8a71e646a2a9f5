/- What the reader's sym and reloc come to. (Written by gen_symread.py.) -/
import Derived.Test.YtcfdfnghaigkjaaObjKind
namespace Go.Proofs.Ytcfdfnghaigkjaa
open Go.RowKit Go.Maps Go.Lib
set_option linter.unusedVariables false

theorem RdV.lt {w : World} {br : Nat} {s : ByteArray} {i : Nat} (h : RdV w br s i) : br < w.heap.size := World.block_lt_of_cell? w ⟨br, 0, none⟩ h.c0
theorem RdV.far {w : World} {br : Nat} {s : ByteArray} {i : Nat} (h : RdV w br s i) (a : Addr) (v : Value) (hne : a.block ≠ br) : RdV (w.setCell a v) br s i :=
  ⟨(World.cell?_setCell_far _ _ _ _ hne).trans h.c0, (World.cell?_setCell_far _ _ _ _ hne).trans h.c1, fun o => by rw [World.frozen?_setCell]; exact h.fz o, h.le, h.sz⟩
theorem grown_far {w x : World} {br : Nat} (h : w.grownBy x (some br)) (a : Addr) (v : Value) (ha : w.heap.size ≤ a.block) : w.grownBy (x.setCell a v) (some br) :=
  ⟨h.os, h.tape, h.output, by rw [World.size_setCell]; exact h.size, fun k hk hne => (Below.heap_setCell _ _ _ _ (by omega)).trans (h.block k hk hne)⟩
theorem grown_cell {w x : World} {br b o : Nat} {v : Value} (h : w.grownBy x (some br)) (hc : w.cell? ⟨b, o, none⟩ = some v) (hne : b ≠ br) : x.cell? ⟨b, o, none⟩ = some v := h.cell hc (by simpa using hne)
theorem grown_froz {w x : World} {br b o : Nat} (h : w.grownBy x (some br)) (hb : b < w.heap.size) (hne : b ≠ br) (hf : w.frozen? ⟨b, o, none⟩ = false) : x.frozen? ⟨b, o, none⟩ = false := (h.frozen_far ⟨b, o, none⟩ hb (by simpa using hne)).trans hf

def Cells (x : World) (b : Nat) (vs : List Value) : Prop := ∀ j u, vs[j]? = some u → x.cell? ⟨b, j, none⟩ = some u
/-- The call's two blocks, beside the reader. -/
structure Bx (w x : World) (br : Nat) (s : ByteArray) (i : Nat) (vs rs : List Value) : Prop where
  rd : RdV x br s i
  g : w.grownBy x (some br)
  a : Cells x (w.heap.size + 1) vs
  r : Cells x w.heap.size rs
  az : ∀ o, x.frozen? ⟨w.heap.size + 1, o, none⟩ = false
  rz : ∀ o, x.frozen? ⟨w.heap.size, o, none⟩ = false
  sz : w.heap.size + 2 ≤ x.heap.size
  lt : br < w.heap.size
theorem Bx.call {w x y : World} {br : Nat} {s : ByteArray} {i j : Nat} {vs rs : List Value} (h : Bx w x br s i vs rs) (hr : RdV y br s j) (hg : x.grownBy y (some br)) : Bx w y br s j vs rs :=
  have hl := h.lt
  have hz := h.sz
  ⟨hr, grown_trans h.g hg, fun k u hu => grown_cell hg (h.a k u hu) (by omega), fun k u hu => grown_cell hg (h.r k u hu) (by omega), fun o => grown_froz hg (by omega) (by omega) (h.az o), fun o => grown_froz hg (by omega) (by omega) (h.rz o), Nat.le_trans h.sz hg.size, h.lt⟩
theorem Bx.put {w x : World} {br : Nat} {s : ByteArray} {i : Nat} {vs rs : List Value} (h : Bx w x br s i vs rs) (k : Nat) (hk : k < vs.length) (u : Value) : Bx w (x.setCell ⟨w.heap.size + 1, k, none⟩ u) br s i (vs.set k u) rs :=
  have hl := h.lt
  ⟨h.rd.far _ _ (by show w.heap.size + 1 ≠ br; omega), grown_far h.g _ _ (by show w.heap.size ≤ w.heap.size + 1; omega), fun j v hv => by
    by_cases e : k = j
    · subst e
      rw [List.getElem?_set_self hk] at hv
      cases hv
      refine World.cell?_setCell_same' _ _ _ ?_
      rw [h.a k vs[k] (by simp [hk])]
      rfl
    · rw [List.getElem?_set_ne e] at hv
      rw [World.cell?_setCell_other _ _ _ _ (fun e' => e (by have := congrArg Addr.off e'; simpa using this))]
      exact h.a j v hv, fun j v hv => (World.cell?_setCell_far _ _ _ _ (by show w.heap.size + 1 ≠ w.heap.size; omega)).trans (h.r j v hv), fun o => by rw [World.frozen?_setCell]; exact h.az o, fun o => by rw [World.frozen?_setCell]; exact h.rz o, by rw [World.size_setCell]; exact h.sz, h.lt⟩

def rdSym (s : ByteArray) (i : Nat) : Option (Sym × Nat) := match rdName s i with
  | some (nm, j) => match rdKind s j with
    | some (kd, k) => match rdUp s k 65536 with
      | some (ps, l) => some (⟨nm, kd, ps⟩, l)
      | none => none
    | none => none
  | none => none
def rdRel (s : ByteArray) (i : Nat) : Option (Rel × Nat) := match rdUp s i 65536 with
  | some (ps, j) => match rdKind s j with
    | some (kd, k) => match rdName s k with
      | some (nm, l) => match rdLong s l with
        | some (ad, m) => some (⟨ps, kd, nm, ad⟩, m)
        | none => none
      | none => none
    | none => none
  | none => none
def symV (x : Sym) : Value := .agg #[.string x.name, .int .i64 x.kind, .int .i64 x.pos]
def relV (x : Rel) : Value := .agg #[.int .i64 x.pos, .int .i64 x.kind, .string x.name, .int .i64 x.add]

set_option maxRecDepth 100000 in
set_option maxHeartbeats 2000000 in
theorem rsym_any {w : World} {br : Nat} {s : ByteArray} {i : Nat} (h : RdV w br s i) :
    Calls Try.prog 52 #[.pointer (some ⟨br, 0, none⟩)] w fun e w' => Reads w br s (rdSym s i) symV e w' := by
  have hbr := h.lt
  obtain ⟨W1, hW1⟩ : ∃ W1, w.alloc (.cells #[.string { data := #[] }, .int .i64 0, .int .i64 0] 41) = W1 := ⟨_, rfl⟩
  have s1 : W1.heap.size = w.heap.size + 1 := by subst hW1; simp
  have b1 : Below w.heap.size w W1 := by subst hW1; exact bl_one _ _
  obtain ⟨W2, hW2⟩ : ∃ W2, W1.alloc (.cells #[.string { data := #[] }, .int .i64 0, .int .i64 0] 41) = W2 := ⟨_, rfl⟩
  have b2 : Below W1.heap.size W1 W2 := by subst hW2; exact bl_one _ _
  have s2 : W2.heap.size = w.heap.size + 1 + 1 := by subst hW2; simp; omega
  have r0 : W2.cell? ⟨w.heap.size, 0, none⟩ = some (.string { data := #[] }) := by subst hW2; rw [World.cell?_alloc_past _ _ _ (by omega)]; subst hW1; exact cell_last rfl rfl
  have a0 : W2.cell? ⟨w.heap.size + 1, 0, none⟩ = some (.string { data := #[] }) := by subst hW2; exact cell_last s1.symm rfl
  have r1 : W2.cell? ⟨w.heap.size, 1, none⟩ = some (.int .i64 0) := by subst hW2; rw [World.cell?_alloc_past _ _ _ (by omega)]; subst hW1; exact cell_last rfl rfl
  have a1 : W2.cell? ⟨w.heap.size + 1, 1, none⟩ = some (.int .i64 0) := by subst hW2; exact cell_last s1.symm rfl
  have r2 : W2.cell? ⟨w.heap.size, 2, none⟩ = some (.int .i64 0) := by subst hW2; rw [World.cell?_alloc_past _ _ _ (by omega)]; subst hW1; exact cell_last rfl rfl
  have a2 : W2.cell? ⟨w.heap.size + 1, 2, none⟩ = some (.int .i64 0) := by subst hW2; exact cell_last s1.symm rfl
  have rz : ∀ o, W2.frozen? ⟨w.heap.size, o, none⟩ = false := fun o => by subst hW2; rw [World.frozen?_alloc_past _ _ _ (by omega)]; subst hW1; exact World.frozen?_alloc_at _ _ _ _ rfl
  have az : ∀ o, W2.frozen? ⟨w.heap.size + 1, o, none⟩ = false := fun o => by subst hW2; exact World.frozen?_alloc_at _ _ _ _ s1.symm
  have b12 : Below w.heap.size w W2 := b1.trans (b2.mono (by omega))
  have HR : Hid (RdV W2 br s i) := h.below b12
  have HG : Hid (w.grownBy W2 (some br)) := ⟨b12.os, b12.tape, b12.output, b12.size, fun k hk _ => b12.block k hk⟩
  have n0 : w.heap.size ≠ br := by omega
  have n1 : w.heap.size + 1 ≠ br := by omega
  have HCA : Cells W2 (w.heap.size + 1) [.string { data := #[] }, .int .i64 0, .int .i64 0] := fun j u hu => by
    match j, hu with
    | 0, hu => cases hu; exact a0
    | 1, hu => cases hu; exact a1
    | 2, hu => cases hu; exact a2
    | j + 3, hu => simp at hu
  have HCR : Cells W2 w.heap.size [.string { data := #[] }, .int .i64 0, .int .i64 0] := fun j u hu => by
    match j, hu with
    | 0, hu => cases hu; exact r0
    | 1, hu => cases hu; exact r1
    | 2, hu => cases hu; exact r2
    | j + 3, hu => simp at hu
  have HB : Hid (Bx w W2 br s i [.string { data := #[] }, .int .i64 0, .int .i64 0] [.string { data := #[] }, .int .i64 0, .int .i64 0]) := ⟨HR.out, HG.out, HCA, HCR, az, rz, by omega, hbr⟩
  clear h b1 b2 b12 HR HG az rz a0 r0 a1 r1 a2 r2 HCA HCR s2
  go_enter Try.func52, Try.ntmps52
  go_wp2_with fail
  refine (rname_any HB.out.rd).mono ?_
  rintro e y0 ⟨⟨nm, j0, hf, rfl, hr⟩ | ⟨hf, c, rfl⟩, hg⟩
  rotate_left
  · have HF : Hid (rdSym s i = none) := by show _ = _; simp only [rdSym, hf]
    have HGG : Hid _ := grown_trans HB.out.g hg
    clear hf hg
    go_wp2
    exact ⟨rfl, .inr ⟨HF.out, c, rfl⟩, HGG.out⟩
  have F0 : Hid _ := hf
  have HBy : Hid _ := HB.out.call hr hg
  have q := HBy.out.a 0 (.string { data := #[] }) rfl
  have z := HBy.out.az 0
  obtain ⟨Y0, hY0⟩ : ∃ Y, y0.setCell ⟨w.heap.size + 1, 0, none⟩ (.string nm) = Y := ⟨_, rfl⟩
  have hp := HBy.out.put 0 (by simp) (.string nm)
  rw [hY0] at hp
  have HB : Hid (Bx w Y0 br s j0 [.string nm, .int .i64 0, .int .i64 0] [.string { data := #[] }, .int .i64 0, .int .i64 0]) := hp
  clear hf hr hg hp
  go_wp2_with fail
  clear q z
  refine (rkind_any HB.out.rd).mono ?_
  rintro e y1 ⟨⟨kd, j1, hf, rfl, hr⟩ | ⟨hf, c, rfl⟩, hg⟩
  rotate_left
  · have HF : Hid (rdSym s i = none) := by show _ = _; simp only [rdSym, F0.out, hf]
    have HGG : Hid _ := grown_trans HB.out.g hg
    clear hf hg
    go_wp2
    exact ⟨rfl, .inr ⟨HF.out, c, rfl⟩, HGG.out⟩
  have F1 : Hid _ := hf
  have HBy : Hid _ := HB.out.call hr hg
  have q := HBy.out.a 1 (.int .i64 0) rfl
  have z := HBy.out.az 1
  obtain ⟨Y1, hY1⟩ : ∃ Y, y1.setCell ⟨w.heap.size + 1, 1, none⟩ (.int .i64 kd) = Y := ⟨_, rfl⟩
  have hp := HBy.out.put 1 (by simp) (.int .i64 kd)
  rw [hY1] at hp
  have HB : Hid (Bx w Y1 br s j1 [.string nm, .int .i64 kd, .int .i64 0] [.string { data := #[] }, .int .i64 0, .int .i64 0]) := hp
  clear hf hr hg hp
  go_wp2_with fail
  clear q z
  refine (rup_any HB.out.rd 65536 (by decide)).mono ?_
  rintro e y2 ⟨⟨ps, j2, hf, rfl, hr⟩ | ⟨hf, c, rfl⟩, hg⟩
  rotate_left
  · have HF : Hid (rdSym s i = none) := by show _ = _; simp only [rdSym, F0.out, F1.out, hf]
    have HGG : Hid _ := grown_trans HB.out.g hg
    clear hf hg
    go_wp2
    exact ⟨rfl, .inr ⟨HF.out, c, rfl⟩, HGG.out⟩
  have F2 : Hid _ := hf
  have HBy : Hid _ := HB.out.call hr hg
  have q := HBy.out.a 2 (.int .i64 0) rfl
  have z := HBy.out.az 2
  obtain ⟨Y2, hY2⟩ : ∃ Y, y2.setCell ⟨w.heap.size + 1, 2, none⟩ (.int .i64 ps) = Y := ⟨_, rfl⟩
  have hp := HBy.out.put 2 (by simp) (.int .i64 ps)
  rw [hY2] at hp
  have HB : Hid (Bx w Y2 br s j2 [.string nm, .int .i64 kd, .int .i64 ps] [.string { data := #[] }, .int .i64 0, .int .i64 0]) := hp
  clear hf hr hg hp
  have p0 := HB.out.a 0 (.string nm) rfl
  have o0 := HB.out.r 0 (.string { data := #[] }) rfl
  have w0 := HB.out.rz 0
  have p1 := HB.out.a 1 (.int .i64 kd) rfl
  have o1 := HB.out.r 1 (.int .i64 0) rfl
  have w1 := HB.out.rz 1
  have p2 := HB.out.a 2 (.int .i64 ps) rfl
  have o2 := HB.out.r 2 (.int .i64 0) rfl
  have w2 := HB.out.rz 2
  have HF : Hid (rdSym s i = some (⟨nm, kd, ps⟩, j2)) := by show _ = _; simp only [rdSym, F0.out, F1.out, F2.out]
  have HRF : Hid _ := HB.out.rd
  have HGF : Hid _ := HB.out.g
  go_wp2
  refine bodyPost_ret (v := symV ⟨nm, kd, ps⟩) (by simp [results, Try.results52, go_sem, symV, o0, o1, o2]) rfl ?_
  refine ⟨.inl ⟨_, _, HF.out, rfl, RdV.far (RdV.far (RdV.far (HRF.out) _ _ n0) _ _ n0) _ _ n0⟩, grown_far (grown_far (grown_far (HGF.out) _ _ (Nat.le_refl _)) _ _ (Nat.le_refl _)) _ _ (Nat.le_refl _)⟩

set_option maxRecDepth 100000 in
set_option maxHeartbeats 2000000 in
theorem rrel_any {w : World} {br : Nat} {s : ByteArray} {i : Nat} (h : RdV w br s i) :
    Calls Try.prog 53 #[.pointer (some ⟨br, 0, none⟩)] w fun e w' => Reads w br s (rdRel s i) relV e w' := by
  have hbr := h.lt
  obtain ⟨W1, hW1⟩ : ∃ W1, w.alloc (.cells #[.int .i64 0, .int .i64 0, .string { data := #[] }, .int .i64 0] 43) = W1 := ⟨_, rfl⟩
  have s1 : W1.heap.size = w.heap.size + 1 := by subst hW1; simp
  have b1 : Below w.heap.size w W1 := by subst hW1; exact bl_one _ _
  obtain ⟨W2, hW2⟩ : ∃ W2, W1.alloc (.cells #[.int .i64 0, .int .i64 0, .string { data := #[] }, .int .i64 0] 43) = W2 := ⟨_, rfl⟩
  have b2 : Below W1.heap.size W1 W2 := by subst hW2; exact bl_one _ _
  have s2 : W2.heap.size = w.heap.size + 1 + 1 := by subst hW2; simp; omega
  have r0 : W2.cell? ⟨w.heap.size, 0, none⟩ = some (.int .i64 0) := by subst hW2; rw [World.cell?_alloc_past _ _ _ (by omega)]; subst hW1; exact cell_last rfl rfl
  have a0 : W2.cell? ⟨w.heap.size + 1, 0, none⟩ = some (.int .i64 0) := by subst hW2; exact cell_last s1.symm rfl
  have r1 : W2.cell? ⟨w.heap.size, 1, none⟩ = some (.int .i64 0) := by subst hW2; rw [World.cell?_alloc_past _ _ _ (by omega)]; subst hW1; exact cell_last rfl rfl
  have a1 : W2.cell? ⟨w.heap.size + 1, 1, none⟩ = some (.int .i64 0) := by subst hW2; exact cell_last s1.symm rfl
  have r2 : W2.cell? ⟨w.heap.size, 2, none⟩ = some (.string { data := #[] }) := by subst hW2; rw [World.cell?_alloc_past _ _ _ (by omega)]; subst hW1; exact cell_last rfl rfl
  have a2 : W2.cell? ⟨w.heap.size + 1, 2, none⟩ = some (.string { data := #[] }) := by subst hW2; exact cell_last s1.symm rfl
  have r3 : W2.cell? ⟨w.heap.size, 3, none⟩ = some (.int .i64 0) := by subst hW2; rw [World.cell?_alloc_past _ _ _ (by omega)]; subst hW1; exact cell_last rfl rfl
  have a3 : W2.cell? ⟨w.heap.size + 1, 3, none⟩ = some (.int .i64 0) := by subst hW2; exact cell_last s1.symm rfl
  have rz : ∀ o, W2.frozen? ⟨w.heap.size, o, none⟩ = false := fun o => by subst hW2; rw [World.frozen?_alloc_past _ _ _ (by omega)]; subst hW1; exact World.frozen?_alloc_at _ _ _ _ rfl
  have az : ∀ o, W2.frozen? ⟨w.heap.size + 1, o, none⟩ = false := fun o => by subst hW2; exact World.frozen?_alloc_at _ _ _ _ s1.symm
  have b12 : Below w.heap.size w W2 := b1.trans (b2.mono (by omega))
  have HR : Hid (RdV W2 br s i) := h.below b12
  have HG : Hid (w.grownBy W2 (some br)) := ⟨b12.os, b12.tape, b12.output, b12.size, fun k hk _ => b12.block k hk⟩
  have n0 : w.heap.size ≠ br := by omega
  have n1 : w.heap.size + 1 ≠ br := by omega
  have HCA : Cells W2 (w.heap.size + 1) [.int .i64 0, .int .i64 0, .string { data := #[] }, .int .i64 0] := fun j u hu => by
    match j, hu with
    | 0, hu => cases hu; exact a0
    | 1, hu => cases hu; exact a1
    | 2, hu => cases hu; exact a2
    | 3, hu => cases hu; exact a3
    | j + 4, hu => simp at hu
  have HCR : Cells W2 w.heap.size [.int .i64 0, .int .i64 0, .string { data := #[] }, .int .i64 0] := fun j u hu => by
    match j, hu with
    | 0, hu => cases hu; exact r0
    | 1, hu => cases hu; exact r1
    | 2, hu => cases hu; exact r2
    | 3, hu => cases hu; exact r3
    | j + 4, hu => simp at hu
  have HB : Hid (Bx w W2 br s i [.int .i64 0, .int .i64 0, .string { data := #[] }, .int .i64 0] [.int .i64 0, .int .i64 0, .string { data := #[] }, .int .i64 0]) := ⟨HR.out, HG.out, HCA, HCR, az, rz, by omega, hbr⟩
  clear h b1 b2 b12 HR HG az rz a0 r0 a1 r1 a2 r2 a3 r3 HCA HCR s2
  go_enter Try.func53, Try.ntmps53
  go_wp2_with fail
  refine (rup_any HB.out.rd 65536 (by decide)).mono ?_
  rintro e y0 ⟨⟨ps, j0, hf, rfl, hr⟩ | ⟨hf, c, rfl⟩, hg⟩
  rotate_left
  · have HF : Hid (rdRel s i = none) := by show _ = _; simp only [rdRel, hf]
    have HGG : Hid _ := grown_trans HB.out.g hg
    clear hf hg
    go_wp2
    exact ⟨rfl, .inr ⟨HF.out, c, rfl⟩, HGG.out⟩
  have F0 : Hid _ := hf
  have HBy : Hid _ := HB.out.call hr hg
  have q := HBy.out.a 0 (.int .i64 0) rfl
  have z := HBy.out.az 0
  obtain ⟨Y0, hY0⟩ : ∃ Y, y0.setCell ⟨w.heap.size + 1, 0, none⟩ (.int .i64 ps) = Y := ⟨_, rfl⟩
  have hp := HBy.out.put 0 (by simp) (.int .i64 ps)
  rw [hY0] at hp
  have HB : Hid (Bx w Y0 br s j0 [.int .i64 ps, .int .i64 0, .string { data := #[] }, .int .i64 0] [.int .i64 0, .int .i64 0, .string { data := #[] }, .int .i64 0]) := hp
  clear hf hr hg hp
  go_wp2_with fail
  clear q z
  refine (rkind_any HB.out.rd).mono ?_
  rintro e y1 ⟨⟨kd, j1, hf, rfl, hr⟩ | ⟨hf, c, rfl⟩, hg⟩
  rotate_left
  · have HF : Hid (rdRel s i = none) := by show _ = _; simp only [rdRel, F0.out, hf]
    have HGG : Hid _ := grown_trans HB.out.g hg
    clear hf hg
    go_wp2
    exact ⟨rfl, .inr ⟨HF.out, c, rfl⟩, HGG.out⟩
  have F1 : Hid _ := hf
  have HBy : Hid _ := HB.out.call hr hg
  have q := HBy.out.a 1 (.int .i64 0) rfl
  have z := HBy.out.az 1
  obtain ⟨Y1, hY1⟩ : ∃ Y, y1.setCell ⟨w.heap.size + 1, 1, none⟩ (.int .i64 kd) = Y := ⟨_, rfl⟩
  have hp := HBy.out.put 1 (by simp) (.int .i64 kd)
  rw [hY1] at hp
  have HB : Hid (Bx w Y1 br s j1 [.int .i64 ps, .int .i64 kd, .string { data := #[] }, .int .i64 0] [.int .i64 0, .int .i64 0, .string { data := #[] }, .int .i64 0]) := hp
  clear hf hr hg hp
  go_wp2_with fail
  clear q z
  refine (rname_any HB.out.rd).mono ?_
  rintro e y2 ⟨⟨nm, j2, hf, rfl, hr⟩ | ⟨hf, c, rfl⟩, hg⟩
  rotate_left
  · have HF : Hid (rdRel s i = none) := by show _ = _; simp only [rdRel, F0.out, F1.out, hf]
    have HGG : Hid _ := grown_trans HB.out.g hg
    clear hf hg
    go_wp2
    exact ⟨rfl, .inr ⟨HF.out, c, rfl⟩, HGG.out⟩
  have F2 : Hid _ := hf
  have HBy : Hid _ := HB.out.call hr hg
  have q := HBy.out.a 2 (.string { data := #[] }) rfl
  have z := HBy.out.az 2
  obtain ⟨Y2, hY2⟩ : ∃ Y, y2.setCell ⟨w.heap.size + 1, 2, none⟩ (.string nm) = Y := ⟨_, rfl⟩
  have hp := HBy.out.put 2 (by simp) (.string nm)
  rw [hY2] at hp
  have HB : Hid (Bx w Y2 br s j2 [.int .i64 ps, .int .i64 kd, .string nm, .int .i64 0] [.int .i64 0, .int .i64 0, .string { data := #[] }, .int .i64 0]) := hp
  clear hf hr hg hp
  go_wp2_with fail
  clear q z
  refine (rlong_any HB.out.rd).mono ?_
  rintro e y3 ⟨⟨ad, j3, hf, rfl, hr⟩ | ⟨hf, c, rfl⟩, hg⟩
  rotate_left
  · have HF : Hid (rdRel s i = none) := by show _ = _; simp only [rdRel, F0.out, F1.out, F2.out, hf]
    have HGG : Hid _ := grown_trans HB.out.g hg
    clear hf hg
    go_wp2
    exact ⟨rfl, .inr ⟨HF.out, c, rfl⟩, HGG.out⟩
  have F3 : Hid _ := hf
  have HBy : Hid _ := HB.out.call hr hg
  have q := HBy.out.a 3 (.int .i64 0) rfl
  have z := HBy.out.az 3
  obtain ⟨Y3, hY3⟩ : ∃ Y, y3.setCell ⟨w.heap.size + 1, 3, none⟩ (.int .i64 ad) = Y := ⟨_, rfl⟩
  have hp := HBy.out.put 3 (by simp) (.int .i64 ad)
  rw [hY3] at hp
  have HB : Hid (Bx w Y3 br s j3 [.int .i64 ps, .int .i64 kd, .string nm, .int .i64 ad] [.int .i64 0, .int .i64 0, .string { data := #[] }, .int .i64 0]) := hp
  clear hf hr hg hp
  have p0 := HB.out.a 0 (.int .i64 ps) rfl
  have o0 := HB.out.r 0 (.int .i64 0) rfl
  have w0 := HB.out.rz 0
  have p1 := HB.out.a 1 (.int .i64 kd) rfl
  have o1 := HB.out.r 1 (.int .i64 0) rfl
  have w1 := HB.out.rz 1
  have p2 := HB.out.a 2 (.string nm) rfl
  have o2 := HB.out.r 2 (.string { data := #[] }) rfl
  have w2 := HB.out.rz 2
  have p3 := HB.out.a 3 (.int .i64 ad) rfl
  have o3 := HB.out.r 3 (.int .i64 0) rfl
  have w3 := HB.out.rz 3
  have HF : Hid (rdRel s i = some (⟨ps, kd, nm, ad⟩, j3)) := by show _ = _; simp only [rdRel, F0.out, F1.out, F2.out, F3.out]
  have HRF : Hid _ := HB.out.rd
  have HGF : Hid _ := HB.out.g
  go_wp2
  refine bodyPost_ret (v := relV ⟨ps, kd, nm, ad⟩) (by simp [results, Try.results53, go_sem, relV, o0, o1, o2, o3]) rfl ?_
  refine ⟨.inl ⟨_, _, HF.out, rfl, RdV.far (RdV.far (RdV.far (RdV.far (HRF.out) _ _ n0) _ _ n0) _ _ n0) _ _ n0⟩, grown_far (grown_far (grown_far (grown_far (HGF.out) _ _ (Nat.le_refl _)) _ _ (Nat.le_refl _)) _ _ (Nat.le_refl _)) _ _ (Nat.le_refl _)⟩

end Go.Proofs.Ytcfdfnghaigkjaa

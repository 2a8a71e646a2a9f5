/- A memory, as it lies: its block, what was touched, its regions and their words, each in blocks of their own. -/
import Derived.Test.YtfkpbmopneleiaaMemFind
import Derived.Test.YtfkpbmopneleiaaMemTouch
import Derived.Test.YtfkpbmopneleiaaMemCopied
import Derived.Deep.AppendLies
namespace Go.Proofs.Ytfkpbmopneleiaa
open Go.RowKit Go.Maps

theorem infoR : (Try.prog.info? 26).map (fun i => (i.zero, i.size, i.bytes)) = some (some (.agg #[.int .i64 0, .slice none 0 0, .bool false]), 3, 40) := by kernel_rfl

/-- A region's three cells; its words lie in a block of their own. -/
def Reg.cs (r : Reg) (b : Nat) : List Value := [.int .i64 r.base, .slice (some ⟨b, 0, none⟩) r.words.length r.words.length, .bool r.write]
def regCells (rs : List Reg) (bs : List Nat) : List Value := (rs.zip bs).flatMap fun x => x.1.cs x.2

structure MemV (B : Nat) (w : World) (bm : Nat) (rs : List Reg) (R W : List Int) (br bw nr nw : Nat) (lv : Value) (bs : List Nat) : Prop where
  touch : Touch w bm R W br bw nr nw
  c2 : w.cell? ⟨bm, 2, none⟩ = some lv
  f2 : ∀ o, w.frozen? ⟨bm, o, none⟩ = false
  lo : B ≤ bm ∧ B ≤ br ∧ B ≤ bw
  len : bs.length = rs.length
  row : w.ownsRow B 26 3 lv rs.length (regCells rs bs)
  words : ∀ i, i < rs.length → w.heap[bs.getD i 0]? = some (.cells ((rs.getD i noReg).words.map (Value.int .i64)).toArray 2 (0, 0)) ∧ B ≤ bs.getD i 0
  nodup : bs.Nodup
  apart : ∀ b ∈ bs, b ≠ bm ∧ b ≠ br ∧ b ≠ bw ∧ lv.ownBlock ≠ some b
  rowApart : lv.ownBlock ≠ some bm ∧ lv.ownBlock ≠ some br ∧ lv.ownBlock ≠ some bw
  fits : ∀ r ∈ rs, (Lit.int .i64 r.base).wf = true ∧ (∀ n ∈ r.words, (Lit.int .i64 n).wf = true)

theorem regCells_snoc (rs : List Reg) (bs : List Nat) (h : bs.length = rs.length) (r : Reg) (b : Nat) : regCells (rs ++ [r]) (bs ++ [b]) = regCells rs bs ++ r.cs b := by
  unfold regCells
  rw [List.zip_append h.symm, List.flatMap_append]
  simp
theorem regCells_len (rs : List Reg) (bs : List Nat) (h : bs.length = rs.length) : (regCells rs bs).length = rs.length * 3 := by
  induction rs generalizing bs with
  | nil => simp [regCells]
  | cons r rs ih =>
    cases bs with
    | nil => simp at h
    | cons b bs =>
      have := ih bs (by simpa using h)
      simp only [regCells, List.zip_cons_cons, List.flatMap_cons, List.length_append, List.length_cons] at *
      rw [this]
      simp [Reg.cs]
      omega
theorem regCells_at (rs : List Reg) (bs : List Nat) (h : bs.length = rs.length) (k : Nat) (hk : k < rs.length) (j : Nat) (hj : j < 3) : (regCells rs bs)[k * 3 + j]? = ((rs.getD k noReg).cs (bs.getD k 0))[j]? := by
  induction rs generalizing bs k with
  | nil => simp at hk
  | cons r rs ih =>
    cases bs with
    | nil => simp at h
    | cons b bs =>
      simp only [regCells, List.zip_cons_cons, List.flatMap_cons]
      cases k with
      | zero => rw [List.getElem?_append_left (by simp [Reg.cs]; omega)]; simp
      | succ k =>
        rw [List.getElem?_append_right (by simp [Reg.cs]; omega)]
        have e : (k + 1) * 3 + j - (r.cs b).length = k * 3 + j := by simp [Reg.cs]; omega
        rw [e]
        have := ih bs (by simpa using h) k (by simpa using hk)
        simpa [regCells] using this
theorem reg_one (r : Reg) (b : Nat) : ∀ u ∈ r.cs b, u.oneCell' = true := by
  intro u hu
  simp [Reg.cs] at hu
  rcases hu with rfl | rfl | rfl <;> rfl

/-- What a memory's block list holds still when nothing ahead of the heap's end was written. -/
theorem MemV.below {B : Nat} {w w' : World} {bm : Nat} {rs : List Reg} {R W : List Int} {br bw nr nw : Nat} {lv : Value} {bs : List Nat} (h : MemV B w bm rs R W br bw nr nw lv bs) (hb : Below w.heap.size w w') : MemV B w' bm rs R W br bw nr nw lv bs :=
  { touch := h.touch.below hb
    c2 := (hb.cell (p := ⟨bm, 2, none⟩) (World.block_lt_of_cell? w ⟨bm, 2, none⟩ h.c2)).trans h.c2
    f2 := fun o => (hb.frozen (p := ⟨bm, o, none⟩) (World.block_lt_of_cell? w ⟨bm, 2, none⟩ h.c2)).trans (h.f2 o)
    lo := h.lo
    len := h.len
    row := own_kept h.row hb
    words := fun i hi => ⟨(hb.block _ (Array.getElem?_eq_some_iff.1 (h.words i hi).1).1).trans (h.words i hi).1, (h.words i hi).2⟩
    nodup := h.nodup
    apart := h.apart
    rowApart := h.rowApart
    fits := h.fits }

theorem getD_at {l : List Nat} {i : Nat} (h : i < l.length) : l.getD i 0 = l[i] := by simp [List.getD, h]
theorem gb_set (w : World) (a : Addr) (u : Value) : w.grownBy (w.setCell a u) (some a.block) :=
  ⟨rfl, rfl, rfl, by simp [World.setCell], fun k hk hne => Below.heap_setCell _ _ _ _ (fun e => hne (by rw [e]))⟩
theorem grown_heap {w w' : World} {row : Option Nat} (hg : w.grownBy w' row) {b : Nat} {o : Obj} (h : w.heap[b]? = some o) (hne : some b ≠ row) : w'.heap[b]? = some o :=
  (hg.block b (Array.getElem?_eq_some_iff.1 h).1 hne).trans h
theorem touch_lt {w : World} {bt : Nat} {rs ws : List Int} {br bw nr nw : Nat} (h : Touch w bt rs ws br bw nr nw) : bt < w.heap.size := World.block_lt_of_cell? w ⟨bt, 0, none⟩ h.c0
theorem map_lt {w : World} {b n : Nat} {D : DataW Unit} (h : w.ownsMap Try.prog 2 unitElem b n D) : b < w.heap.size := by
  obtain ⟨es, clock, hb, -⟩ := h
  exact (Array.getElem?_eq_some_iff.1 hb).1

/-- A region more. -/
theorem MemV.push {B : Nat} {w w5 : World} {bm : Nat} {rs : List Reg} {R W : List Int} {br bw nr nw : Nat} {lv : Value} {bs : List Nat} (h : MemV B w bm rs R W br bw nr nw lv bs) {r : Reg} {b' g cap : Nat}
    (hb' : w.heap[b']? = some (.cells (r.words.map (Value.int .i64)).toArray 2 (0, 0))) (hB' : B ≤ b') (hfr : b' ≠ bm ∧ b' ≠ br ∧ b' ≠ bw ∧ lv.ownBlock ≠ some b' ∧ b' ∉ bs)
    (hfit : (Lit.int .i64 r.base).wf = true ∧ (∀ n ∈ r.words, (Lit.int .i64 n).wf = true))
    (ho : w5.ownsRow B 26 3 (.slice (some ⟨g, 0, none⟩) (rs.length + 1) cap) (rs.length + 1) (regCells rs bs ++ r.cs b')) (hg : w.grownBy w5 lv.ownBlock) (hat : lv.ownBlock = some g ∨ g = w.heap.size) :
    MemV B (w5.setCell ⟨bm, 2, none⟩ (.slice (some ⟨g, 0, none⟩) (rs.length + 1) cap)) bm (rs ++ [r]) R W br bw nr nw (.slice (some ⟨g, 0, none⟩) (rs.length + 1) cap) (bs ++ [b']) := by
  have zm : bm < w.heap.size := touch_lt h.touch
  have zr : br < w.heap.size := map_lt h.touch.r
  have zw : bw < w.heap.size := map_lt h.touch.w'
  have zb : b' < w.heap.size := (Array.getElem?_eq_some_iff.1 hb').1
  obtain ⟨a1, a2, a3⟩ := h.rowApart
  have gne : ∀ x, x < w.heap.size → lv.ownBlock ≠ some x → g ≠ x := by
    intro x hx hne e
    subst e
    rcases hat with e | e
    · exact hne e
    · omega
  have s5 := gb_set w5 ⟨bm, 2, none⟩ (.slice (some ⟨g, 0, none⟩) (rs.length + 1) cap)
  have c2 : w5.cell? ⟨bm, 2, none⟩ = some lv := hg.cell h.c2 (Ne.symm a1)
  have hlen := h.len
  have hw : ∀ i, i < rs.length → bs.getD i 0 ∈ bs := fun i hi => by rw [getD_at (by omega)]; exact List.getElem_mem _
  refine { touch := ?_, c2 := ?_, f2 := ?_, lo := h.lo, len := by simp [hlen], row := ?_, words := ?_, nodup := ?_, apart := ?_, rowApart := ?_, fits := ?_ }
  · refine ⟨?_, ?_, h.touch.ne, h.touch.nt, ?_, ?_⟩
    · rw [World.cell?_setCell_other _ _ _ _ (by simp)]; exact hg.cell h.touch.c0 (Ne.symm a1)
    · rw [World.cell?_setCell_other _ _ _ _ (by simp)]; exact hg.cell h.touch.c1 (Ne.symm a1)
    · exact (h.touch.r.kept hg (Ne.symm a2)).kept s5 (by simpa using h.touch.nt.1.symm)
    · exact (h.touch.w'.kept hg (Ne.symm a3)).kept s5 (by simpa using h.touch.nt.2.symm)
  · exact World.cell?_setCell_same _ _ _ c2
  · intro o; rw [World.frozen?_setCell, hg.frozen_far ⟨bm, o, none⟩ zm (Ne.symm a1)]; exact h.f2 o
  · rw [regCells_snoc rs bs hlen]
    have := ho.kept s5 (.inr (by simpa [Value.ownBlock] using gne bm zm a1))
    simpa using this
  · intro i hi
    by_cases hlt : i < rs.length
    · have e1 : (bs ++ [b']).getD i 0 = bs.getD i 0 := by simp [List.getD, List.getElem?_append_left (show i < bs.length by omega)]
      have e2 : (rs ++ [r]).getD i noReg = rs.getD i noReg := by simp [List.getD, List.getElem?_append_left hlt]
      rw [e1, e2]
      obtain ⟨h1, h2⟩ := h.words i hlt
      obtain ⟨p1, -, -, p4⟩ := h.apart _ (hw i hlt)
      exact ⟨grown_heap s5 (grown_heap hg h1 (Ne.symm p4)) (by simpa using p1), h2⟩
    · have hi' : i = rs.length := by simp at hi; omega
      subst hi'
      have e1 : (bs ++ [b']).getD rs.length 0 = b' := by rw [← hlen]; simp [List.getD]
      have e2 : (rs ++ [r]).getD rs.length noReg = r := by simp [List.getD]
      rw [e1, e2]
      exact ⟨grown_heap s5 (grown_heap hg hb' (Ne.symm hfr.2.2.2.1)) (by simpa using hfr.1), hB'⟩
  · rw [List.nodup_append]
    refine ⟨h.nodup, by simp, ?_⟩
    intro x hx y hy e
    simp at hy
    subst hy
    subst e
    exact hfr.2.2.2.2 hx
  · intro b hb
    rcases List.mem_append.1 hb with hb | hb
    · obtain ⟨p1, p2, p3, p4⟩ := h.apart b hb
      refine ⟨p1, p2, p3, ?_⟩
      obtain ⟨i, hi, rfl⟩ := List.getElem_of_mem hb
      have hwi := (h.words i (by omega)).1
      rw [getD_at hi] at hwi
      simpa [Value.ownBlock] using gne _ (Array.getElem?_eq_some_iff.1 hwi).1 p4
    · simp at hb
      subst hb
      exact ⟨hfr.1, hfr.2.1, hfr.2.2.1, by simpa [Value.ownBlock] using gne b zb hfr.2.2.2.1⟩
  · exact ⟨by simpa [Value.ownBlock] using gne bm zm a1, by simpa [Value.ownBlock] using gne br zr a2, by simpa [Value.ownBlock] using gne bw zw a3⟩
  · intro x hx
    rcases List.mem_append.1 hx with hx | hx
    · exact h.fits x hx
    · simp at hx; subst hx; exact hfit

end Go.Proofs.Ytfkpbmopneleiaa

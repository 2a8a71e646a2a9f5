/- Where an address lies in a memory; what reading, writing and storing make of a memory: no walk. -/
import Derived.Test.YtfkpbmopneleiaaMemV
namespace Go.Proofs.Ytfkpbmopneleiaa
open Go.RowKit Go.Maps
set_option linter.unusedVariables false

/-- The address x is the j-th word of the i-th region. -/
def Loc (rs : List Reg) (x : Int) (i j : Nat) : Prop := x.tmod 8 = 0 ∧ i < rs.length ∧ inReg (rs.getD i noReg) x = true ∧ noneTo rs x i ∧ (j : Int) = (x - (rs.getD i noReg).base) / 8 ∧ j < (rs.getD i noReg).words.length
/-- It is no word's. -/
def NoLoc (rs : List Reg) (x : Int) : Prop := ¬ x.tmod 8 = 0 ∨ noneTo rs x rs.length
/-- All regions may be. -/
def AllOk (rs : List Reg) : Prop := ∀ i, i < rs.length → regOk (rs.getD i noReg) = true

theorem loc_j {rs : List Reg} {x : Int} {i : Nat} (hx : x.tmod 8 = 0) (hi : i < rs.length) (h : inReg (rs.getD i noReg) x = true) (hn : noneTo rs x i) : ∃ j, Loc rs x i j := by
  have h' := h
  unfold inReg at h'
  obtain ⟨h1, h2⟩ := Bool.and_eq_true_iff.1 h'
  have h1 := of_decide_eq_true h1
  have h2 := of_decide_eq_true h2
  exact ⟨((x - (rs.getD i noReg).base) / 8).toNat, hx, hi, h, hn, by omega, by omega⟩

theorem heap_cell {w : World} {b : Nat} {cs : Array Value} {t : TypeId} {fr : Nat × Nat} (h : w.heap[b]? = some (.cells cs t fr)) (i : Nat) : w.cell? ⟨b, i, none⟩ = cs[i]? := by
  simp [World.cell?, h]
theorem heap_set {w : World} {b : Nat} {cs : Array Value} {t : TypeId} {fr : Nat × Nat} (h : w.heap[b]? = some (.cells cs t fr)) (j : Nat) (v : Value) : (w.setCell ⟨b, j, none⟩ v).heap[b]? = some (.cells (cs.setIfInBounds j v) t fr) := by
  simp [World.setCell, Array.getElem?_modify, h]
theorem view_block {w : World} {b : Nat} {zs : List Int} (h : w.heap[b]? = some (.cells (zs.map (Value.int .i64)).toArray 2 (0, 0))) (hf : ∀ n ∈ zs, (Lit.int .i64 n).wf = true) : View w (some ⟨b, 0, none⟩) zs.length zs.length zs := by
  refine ⟨rfl, hf, by simp, .inr ⟨b, 0, rfl, fun i hi => ?_⟩⟩
  have hc : w.cell? ⟨b, 0 + i, none⟩ = (zs.map (Value.int .i64)).toArray[0 + i]? := heap_cell h _
  rw [hc]
  simp [List.getD, hi]

theorem MemV.view {B : Nat} {w : World} {bm : Nat} {rs : List Reg} {R W : List Int} {br bw nr nw : Nat} {lv : Value} {bs : List Nat} (h : MemV B w bm rs R W br bw nr nw lv bs) (i : Nat) (hi : i < rs.length) : View w (some ⟨bs.getD i 0, 0, none⟩) (rs.getD i noReg).words.length (rs.getD i noReg).words.length (rs.getD i noReg).words :=
  view_block (h.words i hi).1 (h.fits _ (by simp [List.getD, hi])).2

theorem MemV.form {B : Nat} {w : World} {bm : Nat} {rs : List Reg} {R W : List Int} {br bw nr nw : Nat} {lv : Value} {bs : List Nat} (h : MemV B w bm rs R W br bw nr nw lv bs) :
    ∃ a cap, lv = .slice a rs.length cap ∧ RegsV w a rs.length cap rs ∧ (rs.length = 0 ∨ ∃ g, a = some ⟨g, 0, none⟩ ∧ g < w.heap.size ∧ lv.ownBlock = some g ∧ ∀ i, i < rs.length → w.cell? ⟨g, i * 3, none⟩ = some (.int .i64 (rs.getD i noReg).base) ∧ w.cell? ⟨g, i * 3 + 1, none⟩ = some (.slice (some ⟨bs.getD i 0, 0, none⟩) (rs.getD i noReg).words.length (rs.getD i noReg).words.length) ∧ w.cell? ⟨g, i * 3 + 2, none⟩ = some (.bool (rs.getD i noReg).write)) := by
  rcases h.row.2 with ⟨rfl, h0⟩ | ⟨g, cap, cur, rfl, hb, hg, hnc, hcm, hcs, htake⟩
  · refine ⟨none, 0, by rw [h0], ⟨rfl, by omega, by omega, fun r hr => (h.fits r hr).1, .inl h0⟩, .inl h0⟩
  · have hc : ∀ i j, i < rs.length → j < 3 → w.cell? ⟨g, i * 3 + j, none⟩ = ((rs.getD i noReg).cs (bs.getD i 0))[j]? := fun i j hi hj => by
      rw [World.ownsRow.cellAt h.row _ (by omega)]
      exact regCells_at rs bs h.len i hi j hj
    refine ⟨some ⟨g, 0, none⟩, cap, rfl, ⟨rfl, by omega, by unfold maxLen at hcm; omega, fun r hr => (h.fits r hr).1, ?_⟩, .inr ⟨g, rfl, (Array.getElem?_eq_some_iff.1 hg).1, rfl, fun i hi => ⟨hc i 0 hi (by decide), hc i 1 hi (by decide), hc i 2 hi (by decide)⟩⟩⟩
    refine .inr ⟨g, 0, rfl, fun i hi => ⟨_, _, _, ?_, ?_, ?_, h.view i hi⟩⟩
    · rw [Nat.zero_add]; exact hc i 0 hi (by decide)
    · rw [Nat.zero_add]; exact hc i 1 hi (by decide)
    · rw [Nat.zero_add]; exact hc i 2 hi (by decide)

/-- What stays, where one block alone was written that is neither the memory's own nor its regions' nor their words'. -/
theorem MemV.kept {B : Nat} {w w' : World} {bm : Nat} {rs : List Reg} {R W R' W' : List Int} {br bw nr nw nr' nw' : Nat} {lv : Value} {bs : List Nat} (h : MemV B w bm rs R W br bw nr nw lv bs) {x : Nat} (hg : w.grownBy w' (some x)) (hx : x = br ∨ x = bw) (ht : Touch w' bm R' W' br bw nr' nw') : MemV B w' bm rs R' W' br bw nr' nw' lv bs := by
  have n1 : bm ≠ x := by rcases hx with rfl | rfl; exact h.touch.nt.1; exact h.touch.nt.2
  have n2 : lv.ownBlock ≠ some x := by rcases hx with rfl | rfl; exact h.rowApart.2.1; exact h.rowApart.2.2
  refine { touch := ht, c2 := hg.cell h.c2 (by simpa using n1), f2 := ?_, lo := h.lo, len := h.len, row := h.row.kept hg (.inr n2), words := ?_, nodup := h.nodup, apart := h.apart, rowApart := h.rowApart, fits := h.fits }
  · intro o; rw [hg.frozen_far ⟨bm, o, none⟩ (World.block_lt_of_cell? w ⟨bm, 2, none⟩ h.c2) (by simpa using n1)]; exact h.f2 o
  · intro i hi
    obtain ⟨h1, h2⟩ := h.words i hi
    have hm : bs.getD i 0 ∈ bs := by rw [getD_at (by have := h.len; omega)]; exact List.getElem_mem _
    obtain ⟨-, p2, p3, -⟩ := h.apart _ hm
    refine ⟨grown_heap hg h1 ?_, h2⟩
    rcases hx with rfl | rfl
    · simpa using p2
    · simpa using p3

/-- The regions, a word turned. -/
def putWord (rs : List Reg) (i j : Nat) (n : Int) : List Reg := rs.set i { rs.getD i noReg with words := (rs.getD i noReg).words.set j n }
theorem putWord_len (rs : List Reg) (i j : Nat) (n : Int) : (putWord rs i j n).length = rs.length := by simp [putWord]
theorem putWord_same (rs : List Reg) (i j : Nat) (n : Int) (hi : i < rs.length) : (putWord rs i j n).getD i noReg = { rs.getD i noReg with words := (rs.getD i noReg).words.set j n } := by
  unfold putWord
  simp [List.getD, hi]
theorem putWord_other (rs : List Reg) (i j k : Nat) (n : Int) (hne : i ≠ k) : (putWord rs i j n).getD k noReg = rs.getD k noReg := by
  unfold putWord
  simp [List.getD, List.getElem?_set_ne hne]
theorem putWord_cells (rs : List Reg) (bs : List Nat) (h : bs.length = rs.length) (i j : Nat) (n : Int) (hi : i < rs.length) : regCells (putWord rs i j n) bs = regCells rs bs := by
  have h' : bs.length = (putWord rs i j n).length := by rw [putWord_len]; exact h
  apply List.ext_getElem?
  intro k
  by_cases hk : k < rs.length * 3
  · have e : k = k / 3 * 3 + k % 3 := by omega
    rw [e, regCells_at _ bs h' (k / 3) (by rw [putWord_len]; omega) (k % 3) (by omega), regCells_at rs bs h (k / 3) (by omega) (k % 3) (by omega)]
    by_cases c : i = k / 3
    · rw [← c, putWord_same rs i j n hi]
      simp [Reg.cs]
    · rw [putWord_other rs i j (k / 3) n c]
  · rw [List.getElem?_eq_none (by rw [regCells_len _ _ h', putWord_len]; omega), List.getElem?_eq_none (by rw [regCells_len _ _ h]; omega)]

theorem MemV.put {B : Nat} {w : World} {bm : Nat} {rs : List Reg} {R W : List Int} {br bw nr nw : Nat} {lv : Value} {bs : List Nat} (h : MemV B w bm rs R W br bw nr nw lv bs) (i j : Nat) (hi : i < rs.length) (hj : j < (rs.getD i noReg).words.length) (n : Int) (hn : (Lit.int .i64 n).wf = true) :
    MemV B (w.setCell ⟨bs.getD i 0, j, none⟩ (.int .i64 n)) bm (putWord rs i j n) R W br bw nr nw lv bs := by
  have hlen := h.len
  have hm : ∀ k, k < rs.length → bs.getD k 0 ∈ bs := fun k hk => by rw [getD_at (by omega)]; exact List.getElem_mem _
  obtain ⟨p1, p2, p3, p4⟩ := h.apart _ (hm i hi)
  have sg := gb_set w ⟨bs.getD i 0, j, none⟩ (.int .i64 n)
  refine { touch := ⟨?_, ?_, h.touch.ne, h.touch.nt, h.touch.r.kept sg (by simpa using p2.symm), h.touch.w'.kept sg (by simpa using p3.symm)⟩, c2 := ?_, f2 := ?_, lo := h.lo, len := by rw [putWord_len]; exact hlen, row := ?_, words := ?_, nodup := h.nodup, apart := h.apart, rowApart := h.rowApart, fits := ?_ }
  · exact sg.cell h.touch.c0 (by simpa using p1.symm)
  · exact sg.cell h.touch.c1 (by simpa using p1.symm)
  · exact sg.cell h.c2 (by simpa using p1.symm)
  · intro o; rw [World.frozen?_setCell]; exact h.f2 o
  · rw [putWord_len, putWord_cells rs bs hlen i j n hi]
    exact h.row.kept sg (.inr p4)
  · intro k hk
    rw [putWord_len] at hk
    by_cases c : i = k
    · subst c
      rw [putWord_same rs i j n hi]
      obtain ⟨h1, h2⟩ := h.words i hi
      refine ⟨?_, h2⟩
      rw [heap_set h1]
      congr 2
      simp [List.map_set]
    · rw [putWord_other rs i j k n c]
      obtain ⟨h1, h2⟩ := h.words k hk
      refine ⟨grown_heap sg h1 ?_, h2⟩
      intro e
      have e' : bs.getD k 0 = bs.getD i 0 := by simpa using e
      rw [getD_at (by omega), getD_at (by omega)] at e'
      exact c ((List.getElem_inj h.nodup).1 e').symm
  · intro r hr
    obtain ⟨k, hk, rfl⟩ := List.getElem_of_mem hr
    rw [putWord_len] at hk
    have e0 : (putWord rs i j n)[k]'(by rw [putWord_len]; exact hk) = (putWord rs i j n).getD k noReg := by simp [List.getD, putWord_len, hk]
    rw [e0]
    have hmem : ∀ q, q < rs.length → rs.getD q noReg ∈ rs := fun q hq => by simp [List.getD, hq]
    by_cases c : i = k
    · subst c
      rw [putWord_same rs i j n hi]
      obtain ⟨f1, f2⟩ := h.fits _ (hmem i hi)
      refine ⟨f1, fun m hm' => ?_⟩
      rcases List.mem_or_eq_of_mem_set hm' with hm' | rfl
      · exact f2 m hm'
      · exact hn
    · rw [putWord_other rs i j k n c]
      exact h.fits _ (hmem k hk)

end Go.Proofs.Ytfkpbmopneleiaa

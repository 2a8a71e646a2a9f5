/- Regions in a row of their own, each one's words in a row of their own; which block is whose is told by a mark. -/
import Derived.Test.YtfkpbmopneleiaaMemAppend
import Derived.Test.YtfkpbmopneleiaaMemLoad
namespace Go.Proofs.Ytfkpbmopneleiaa
open Go.RowKit Go.Maps
set_option linter.unusedVariables false

abbrev intsR (zs : List Int) : List Value := zs.map (Value.int .i64)
def nilR : Value := .slice none 0 0

/-- What was done turned marked blocks alone; the marks of what was there are as they were. -/
structure St (t t' : Nat → Nat) (w w' : World) : Prop where
  tag : ∀ k, k < w.heap.size → t' k = t k
  block : ∀ k, k < w.heap.size → t k = 0 → w'.heap[k]? = w.heap[k]?
  size : w.heap.size ≤ w'.heap.size
  os : w'.os = w.os
  tape : w'.tape = w.tape
  output : w'.output = w.output
theorem St.ofBelow {w w' : World} (t : Nat → Nat) (h : Below w.heap.size w w') : St t t w w' := ⟨fun _ _ => rfl, fun k hk _ => h.block k hk, h.size, h.os, h.tape, h.output⟩
theorem St.trans {t t' t'' : Nat → Nat} {w w' w'' : World} (h : St t t' w w') (k : St t' t'' w' w'') : St t t'' w w'' :=
  ⟨fun i hi => (k.tag i (Nat.lt_of_lt_of_le hi h.size)).trans (h.tag i hi), fun i hi hz => (k.block i (Nat.lt_of_lt_of_le hi h.size) ((h.tag i hi).trans hz)).trans (h.block i hi hz), Nat.le_trans h.size k.size, k.os.trans h.os, k.tape.trans h.tape, k.output.trans h.output⟩
theorem St.toBelow {t t' : Nat → Nat} {w w' : World} {B : Nat} (h : St t t' w w') (hlo : ∀ k, t k ≠ 0 → B ≤ k) (hB : B ≤ w.heap.size) : Below B w w' :=
  ⟨h.os, h.tape, h.output, h.size, fun k hk => h.block k (by omega) (by
    cases Nat.eq_zero_or_pos (t k) with
    | inl h0 => exact h0
    | inr h0 => have := hlo k (by omega); omega)⟩
theorem St.ofGrown {w w' : World} {x : Nat} (t : Nat → Nat) (h : w.grownBy w' (some x)) (hx : t x ≠ 0) : St t t w w' :=
  ⟨fun _ _ => rfl, fun k hk hz => h.block k hk (fun e => hx (by have : k = x := by simpa using e
                                                                rw [← this]; exact hz)), h.size, h.os, h.tape, h.output⟩

theorem row_cong {w w' : World} {B : Nat} {v : Value} {e : TypeId} {size n : Nat} {xs : List Value} (o : w.ownsRow B e size v n xs) (h : ∀ g, v.ownBlock = some g → w'.heap[g]? = w.heap[g]?) : w'.ownsRow B e size v n xs := by
  refine ⟨o.1, ?_⟩
  rcases o.2 with h0 | ⟨g, cap, cur, rfl, hb, hg, r1, r2, r3, r4⟩
  · exact .inl h0
  · exact .inr ⟨g, cap, cur, rfl, hb, (h g rfl).trans hg, r1, r2, r3, r4⟩

def cs3 (r : Reg) (u : Value) : List Value := [.int .i64 r.base, u, .bool r.write]
def rowCells (rs : List Reg) (us : List Value) : List Value := (rs.zip us).flatMap fun x => cs3 x.1 x.2
theorem rowCells_snoc (rs : List Reg) (us : List Value) (h : us.length = rs.length) (r : Reg) (u : Value) : rowCells (rs ++ [r]) (us ++ [u]) = rowCells rs us ++ cs3 r u := by
  unfold rowCells
  rw [List.zip_append h.symm, List.flatMap_append]
  simp
theorem rowCells_len (rs : List Reg) (us : List Value) (h : us.length = rs.length) : (rowCells rs us).length = rs.length * 3 := by
  induction rs generalizing us with
  | nil => simp [rowCells]
  | cons r rs ih =>
    cases us with
    | nil => simp at h
    | cons b us =>
      have := ih us (by simpa using h)
      simp only [rowCells, List.zip_cons_cons, List.flatMap_cons, List.length_append, List.length_cons] at *
      rw [this]
      simp [cs3]
      omega
theorem rowCells_at (rs : List Reg) (us : List Value) (h : us.length = rs.length) (k : Nat) (hk : k < rs.length) (j : Nat) (hj : j < 3) : (rowCells rs us)[k * 3 + j]? = (cs3 (rs.getD k noReg) (us.getD k nilR))[j]? := by
  induction rs generalizing us k with
  | nil => simp at hk
  | cons r rs ih =>
    cases us with
    | nil => simp at h
    | cons b us =>
      simp only [rowCells, List.zip_cons_cons, List.flatMap_cons]
      cases k with
      | zero => rw [List.getElem?_append_left (by simp [cs3]; omega)]; simp
      | succ k =>
        rw [List.getElem?_append_right (by simp [cs3]; omega)]
        have e : (k + 1) * 3 + j - (cs3 r b).length = k * 3 + j := by simp [cs3]; omega
        rw [e]
        have := ih us (by simpa using h) k (by simpa using hk)
        simpa [rowCells] using this
theorem rowCells_put (rs : List Reg) (us : List Value) (h : us.length = rs.length) (i j : Nat) (n : Int) (hi : i < rs.length) : rowCells (putWord rs i j n) us = rowCells rs us := by
  have h' : us.length = (putWord rs i j n).length := by rw [putWord_len]; exact h
  apply List.ext_getElem?
  intro k
  by_cases hk : k < rs.length * 3
  · have e : k = k / 3 * 3 + k % 3 := by omega
    rw [e, rowCells_at _ us h' (k / 3) (by rw [putWord_len]; omega) (k % 3) (by omega), rowCells_at rs us h (k / 3) (by omega) (k % 3) (by omega)]
    by_cases c : i = k / 3
    · rw [← c, putWord_same rs i j n hi]
      simp [cs3]
    · rw [putWord_other rs i j (k / 3) n c]
  · rw [List.getElem?_eq_none (by rw [rowCells_len _ _ h', putWord_len]; omega), List.getElem?_eq_none (by rw [rowCells_len _ _ h]; omega)]

structure RegRow (B : Nat) (w : World) (lv : Value) (rs : List Reg) (us : List Value) (t : Nat → Nat) : Prop where
  len : us.length = rs.length
  row : w.ownsRow B 26 3 lv rs.length (rowCells rs us)
  words : ∀ i, i < rs.length → w.ownsRow B 2 1 (us.getD i nilR) (rs.getD i noReg).words.length (intsR (rs.getD i noReg).words)
  tl : ∀ g, lv.ownBlock = some g → t g = 2
  tu : ∀ i, i < rs.length → ∀ g, (us.getD i nilR).ownBlock = some g → t g = i + 5
  lt : ∀ k, t k ≠ 0 → B ≤ k ∧ k < w.heap.size
  fits : ∀ r ∈ rs, (Lit.int .i64 r.base).wf = true ∧ ∀ n ∈ r.words, (Lit.int .i64 n).wf = true

theorem RegRow.nil (B : Nat) (w : World) (t : Nat → Nat) (h : ∀ k, t k ≠ 0 → B ≤ k ∧ k < w.heap.size) : RegRow B w (.slice none 0 0) [] [] t :=
  ⟨rfl, World.ownsRow_nil _ _ _ _, by simp, by simp [Value.ownBlock], by simp, h, by simp⟩

/-- In a world whose marked blocks are as they were; with marks that are as they were. -/
theorem RegRow.conv {B : Nat} {w w' : World} {lv : Value} {rs : List Reg} {us : List Value} {t t' : Nat → Nat} (h : RegRow B w lv rs us t) (hb : ∀ k, t k = 2 ∨ 5 ≤ t k → w'.heap[k]? = w.heap[k]?) (ht : ∀ k, t k = 2 ∨ 5 ≤ t k → t' k = t k) (hlt : ∀ k, t' k ≠ 0 → B ≤ k ∧ k < w'.heap.size) : RegRow B w' lv rs us t' where
  len := h.len
  row := row_cong h.row (fun g hg => hb g (.inl (h.tl g hg)))
  words := fun i hi => row_cong (h.words i hi) (fun g hg => hb g (by have := h.tu i hi g hg; omega))
  tl := fun g hg => (ht g (.inl (h.tl g hg))).trans (h.tl g hg)
  tu := fun i hi g hg => (ht g (by have := h.tu i hi g hg; omega)).trans (h.tu i hi g hg)
  lt := hlt
  fits := h.fits
theorem RegRow.frame {B : Nat} {w w' : World} {lv : Value} {rs : List Reg} {us : List Value} {t p p' : Nat → Nat} (h : RegRow B w lv rs us t) (hs : St p p' w w') (hd : ∀ k, t k ≠ 0 → p k = 0) : RegRow B w' lv rs us t :=
  h.conv (fun k hk => hs.block k (h.lt k (by omega)).2 (hd k (by omega))) (fun _ _ => rfl) (fun k hk => ⟨(h.lt k hk).1, Nat.lt_of_lt_of_le (h.lt k hk).2 hs.size⟩)
theorem RegRow.below {B : Nat} {w w' : World} {lv : Value} {rs : List Reg} {us : List Value} {t : Nat → Nat} (h : RegRow B w lv rs us t) (hb : Below w.heap.size w w') : RegRow B w' lv rs us t :=
  h.frame (St.ofBelow (fun _ => 0) hb) (fun _ _ => rfl)

theorem RegRow.push {B : Nat} {w w5 : World} {lv : Value} {rs : List Reg} {us : List Value} {t : Nat → Nat} {u : Value} {r : Reg} {g cap : Nat} (h : RegRow B w lv rs us t)
    (o : w.ownsRow B 2 1 u r.words.length (intsR r.words)) (hu : ∀ x, u.ownBlock = some x → t x = 0)
    (hf : (Lit.int .i64 r.base).wf = true ∧ ∀ n ∈ r.words, (Lit.int .i64 n).wf = true)
    (hr : w5.ownsRow B 26 3 (.slice (some ⟨g, 0, none⟩) (rs.length + 1) cap) (rs.length + 1) (rowCells rs us ++ cs3 r u)) (hg : w.grownBy w5 lv.ownBlock) (hat : lv.ownBlock = some g ∨ g = w.heap.size) :
    ∃ t' : Nat → Nat, RegRow B w5 (.slice (some ⟨g, 0, none⟩) (rs.length + 1) cap) (rs ++ [r]) (us ++ [u]) t' ∧ (∀ k, t k ≠ 0 → t' k = t k) := by
  have hbl : ∀ k, k < w.heap.size → t k ≠ 2 → w5.heap[k]? = w.heap[k]? := fun k hk h2 => hg.block k hk (fun e => h2 (h.tl k e.symm))
  have hgb : B ≤ g ∧ g < w5.heap.size := hr.lt g rfl
  have hug : u.ownBlock ≠ some g := by
    intro e
    rcases hat with hat | hat
    · have := h.tl g hat; have := hu g e; omega
    · have := (o.lt g e).2; omega
  refine ⟨fun k => if u.ownBlock = some k then rs.length + 5 else if k = g then 2 else t k, ?_, ?_⟩
  · refine ⟨by simp [h.len], ?_, ?_, ?_, ?_, ?_, ?_⟩
    · rw [rowCells_snoc rs us h.len]
      simpa using hr
    · intro i hi
      by_cases hlt : i < rs.length
      · have e1 : (us ++ [u]).getD i nilR = us.getD i nilR := by simp [List.getD, List.getElem?_append_left (show i < us.length by have := h.len; omega)]
        have e2 : (rs ++ [r]).getD i noReg = rs.getD i noReg := by simp [List.getD, List.getElem?_append_left hlt]
        rw [e1, e2]
        exact row_cong (h.words i hlt) (fun x hx => hbl x ((h.words i hlt).lt x hx).2 (by have := h.tu i hlt x hx; omega))
      · obtain rfl : i = rs.length := by simp at hi; omega
        have e1 : (us ++ [u]).getD rs.length nilR = u := by rw [← h.len]; simp [List.getD]
        have e2 : (rs ++ [r]).getD rs.length noReg = r := by simp [List.getD]
        rw [e1, e2]
        exact row_cong o (fun x hx => hbl x (o.lt x hx).2 (by have := hu x hx; omega))
    · intro x hx
      have : x = g := by simpa [Value.ownBlock] using hx.symm
      subst this
      simp [hug]
    · intro i hi x hx
      by_cases hlt : i < rs.length
      · have e1 : (us ++ [u]).getD i nilR = us.getD i nilR := by simp [List.getD, List.getElem?_append_left (show i < us.length by have := h.len; omega)]
        rw [e1] at hx
        have ht := h.tu i hlt x hx
        have n1 : ¬ u.ownBlock = some x := fun e => by have := hu x e; omega
        have n2 : ¬ x = g := by
          rintro rfl
          rcases hat with hat | hat
          · have := h.tl x hat; omega
          · have := ((h.words i hlt).lt x hx).2; omega
        simp [n1, n2, ht]
      · obtain rfl : i = rs.length := by simp at hi; omega
        have e1 : (us ++ [u]).getD rs.length nilR = u := by rw [← h.len]; simp [List.getD]
        rw [e1] at hx
        simp [hx]
    · intro k hk
      have hsz := hg.size
      by_cases c1 : u.ownBlock = some k
      · have := o.lt k c1; omega
      · by_cases c2 : k = g
        · subst c2; exact hgb
        · simp [c1, c2] at hk
          have := h.lt k hk
          omega
    · intro f hf'
      rcases List.mem_append.1 hf' with h1 | h1
      · exact h.fits f h1
      · obtain rfl : f = r := by simpa using h1
        exact hf
  · intro k hk
    have n1 : ¬ u.ownBlock = some k := fun e => hk (hu k e)
    by_cases c2 : k = g
    · subst c2
      rcases hat with hat | hat
      · simp [n1, h.tl k hat]
      · have := (h.lt k hk).2; omega
    · simp [n1, c2]

theorem RegRow.put {B : Nat} {w : World} {lv : Value} {rs : List Reg} {us : List Value} {t : Nat → Nat} (h : RegRow B w lv rs us t) (i j : Nat) (hi : i < rs.length) (hj : j < (rs.getD i noReg).words.length) (n : Int) (hn : (Lit.int .i64 n).wf = true) :
    ∃ g cap, us.getD i nilR = .slice (some ⟨g, 0, none⟩) (rs.getD i noReg).words.length cap ∧ t g = i + 5 ∧ w.cell? ⟨g, j, none⟩ = some (.int .i64 ((rs.getD i noReg).words.getD j 0)) ∧ w.frozen? ⟨g, j, none⟩ = false ∧ RegRow B (w.setCell ⟨g, j, none⟩ (.int .i64 n)) lv (putWord rs i j n) us t := by
  have ho := h.words i hi
  rcases ho.2 with ⟨-, h0⟩ | ⟨g, cap, cur, hv, hb, hg, r1, r2, r3, r4⟩
  · omega
  have htg : t g = i + 5 := h.tu i hi g (by rw [hv]; rfl)
  have hcj : w.cell? ⟨g, j, none⟩ = some (.int .i64 ((rs.getD i noReg).words.getD j 0)) := by
    have hc := (show w.ownsRow B 2 1 (.slice (some ⟨g, 0, none⟩) (rs.getD i noReg).words.length cap) (rs.getD i noReg).words.length (intsR (rs.getD i noReg).words) by rw [← hv]; exact ho).cellAt j (by omega)
    rw [hc]
    have hm := map_at (zs := (rs.getD i noReg).words) hj
    rw [List.getElem?_toArray] at hm
    exact hm
  have sg := gb_set w ⟨g, j, none⟩ (.int .i64 n)
  refine ⟨g, cap, hv, htg, hcj, heap_froz hg j, ?_⟩
  refine ⟨by rw [putWord_len]; exact h.len, ?_, ?_, h.tl, ?_, ?_, ?_⟩
  · rw [putWord_len, rowCells_put rs us h.len i j n hi]
    exact row_cong h.row (fun x hx => sg.block x (h.row.lt x hx).2 (fun e => by
      have : x = g := by simpa using e
      have := h.tl x hx
      subst_vars
      omega))
  · intro k hk
    rw [putWord_len] at hk
    by_cases c : i = k
    · subst c
      rw [putWord_same rs i j n hi]
      have hl : (intsR ((rs.getD i noReg).words.set j n)).length = (rs.getD i noReg).words.length * 1 := by simp
      refine ⟨by simp, .inr ⟨g, cap, cur.setIfInBounds j (.int .i64 n), by rw [hv]; simp, hb, heap_set hg j _, by simpa using r1, r2, by simpa using r3, ?_⟩⟩
      simp only [List.length_set, Nat.mul_one] at r4 ⊢
      rw [Array.toList_setIfInBounds, List.take_set, r4]
      simp [intsR, List.map_set]
    · rw [putWord_other rs i j k n c]
      exact row_cong (h.words k hk) (fun x hx => sg.block x ((h.words k hk).lt x hx).2 (fun e => by
        have e' : x = g := by simpa using e
        have := h.tu k hk x hx
        rw [e'] at this
        omega))
  · intro k hk
    rw [putWord_len] at hk
    exact h.tu k hk
  · intro k hk
    have := h.lt k hk
    exact ⟨this.1, by rw [World.size_setCell]; exact this.2⟩
  · intro r hr
    obtain ⟨k, hk, rfl⟩ := List.getElem_of_mem hr
    rw [putWord_len] at hk
    have e0 : (putWord rs i j n)[k]'(by rw [putWord_len]; exact hk) = (putWord rs i j n).getD k noReg := by simp [List.getD, putWord_len, hk]
    rw [e0]
    have hmem : ∀ q, q < rs.length → rs.getD q noReg ∈ rs := fun q hq => by simp [List.getD, hq]
    by_cases c : i = k
    · subst c
      rw [putWord_same rs i j n hi]
      obtain ⟨f1, f2⟩ := h.fits _ (hmem i hi)
      refine ⟨f1, fun m hm' => ?_⟩
      rcases List.mem_or_eq_of_mem_set hm' with hm' | rfl
      · exact f2 m hm'
      · exact hn
    · rw [putWord_other rs i j k n c]
      exact h.fits _ (hmem k hk)

/-- The row's cells. -/
theorem RegRow.form {B : Nat} {w : World} {lv : Value} {rs : List Reg} {us : List Value} {t : Nat → Nat} (h : RegRow B w lv rs us t) : ∃ a cap, lv = .slice a rs.length cap ∧ rs.length ≤ cap ∧ cap ≤ 9223372036854775807 ∧ (rs.length = 0 ∨ ∃ g, a = some ⟨g, 0, none⟩ ∧ g < w.heap.size ∧ t g = 2 ∧ ∀ i, i < rs.length → w.cell? ⟨g, i * 3, none⟩ = some (.int .i64 (rs.getD i noReg).base) ∧ w.cell? ⟨g, i * 3 + 1, none⟩ = some (us.getD i nilR) ∧ w.cell? ⟨g, i * 3 + 2, none⟩ = some (.bool (rs.getD i noReg).write)) := by
  have hr := h.row
  rcases hr.2 with ⟨rfl, h0⟩ | ⟨g, cap, cur, rfl, hb, hg, r1, r2, r3, r4⟩
  · exact ⟨none, 0, by rw [h0], by omega, by decide, .inl h0⟩
  · refine ⟨_, cap, rfl, r1, by unfold maxLen at r2; omega, .inr ⟨g, rfl, (hr.lt g rfl).2, h.tl g rfl, fun i hi => ?_⟩⟩
    have p0 := hr.cellAt (i * 3 + 0) (by omega)
    have p1 := hr.cellAt (i * 3 + 1) (by omega)
    have p2 := hr.cellAt (i * 3 + 2) (by omega)
    rw [rowCells_at rs us h.len i hi 0 (by omega)] at p0
    rw [rowCells_at rs us h.len i hi 1 (by omega)] at p1
    rw [rowCells_at rs us h.len i hi 2 (by omega)] at p2
    exact ⟨by simpa [cs3] using p0, by simpa [cs3] using p1, by simpa [cs3] using p2⟩
theorem RegRow.view {B : Nat} {w : World} {lv : Value} {rs : List Reg} {us : List Value} {t : Nat → Nat} (h : RegRow B w lv rs us t) (i : Nat) (hi : i < rs.length) : ∃ a c, us.getD i nilR = .slice a (rs.getD i noReg).words.length c ∧ View w a (rs.getD i noReg).words.length c (rs.getD i noReg).words :=
  view_own (h.fits (rs.getD i noReg) (by simp [List.getD, hi])).2 (h.words i hi)
theorem RegRow.regs {B : Nat} {w : World} {a : Option Addr} {cap : Nat} {rs : List Reg} {us : List Value} {t : Nat → Nat} (h : RegRow B w (.slice a rs.length cap) rs us t) : RegsV w a rs.length cap rs := by
  obtain ⟨a', cap', e, h1, h2, h3⟩ := h.form
  cases e
  refine ⟨rfl, h1, h2, fun r hr => (h.fits r hr).1, ?_⟩
  rcases h3 with h0 | ⟨g, rfl, -, -, hc⟩
  · exact .inl h0
  · refine .inr ⟨g, 0, rfl, fun i hi => ?_⟩
    obtain ⟨k0, k1, k2⟩ := hc i hi
    obtain ⟨a1, c1, e1, V⟩ := h.view i hi
    rw [e1] at k1
    simp only [Nat.zero_add]
    exact ⟨a1, _, c1, k0, k1, k2, V⟩

end Go.Proofs.Ytfkpbmopneleiaa

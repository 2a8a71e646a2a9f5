/- Parts while they are made: rows of one's own, each apart from the others. -/
import Derived.Test.YtafdjmccgijmnaaHiParts
import Derived.Test.YtafdjmccgijmnaaHiFindM
namespace Go.Proofs.Ytafdjmccgijmnaa
open Go.RowKit A Go.Maps
set_option linter.unusedVariables false
set_option linter.unusedSimpArgs false
structure Rw where
  ty : TypeId
  k : Nat
  v : Value
  n : Nat
  cs : List Value
def upd {α : Type} (R : Nat → α) (k : Nat) (r : α) : Nat → α := fun j => if j = k then r else R j
theorem upd_self {α : Type} (R : Nat → α) (k : Nat) (r : α) : upd R k r k = r := if_pos rfl
theorem upd_ne {α : Type} (R : Nat → α) {k j : Nat} (r : α) (h : j ≠ k) : upd R k r j = R j := if_neg h
structure FW (w W : World) (M : Nat) (R : Nat → Rw) : Prop where
  low : Below w.heap.size w W
  own : ∀ k, k < M → W.ownsRow w.heap.size (R k).ty (R k).k (R k).v (R k).n (R k).cs
  dis : ∀ k l, k < M → l < M → k ≠ l → ∀ b, (R k).v.ownBlock = some b → (R l).v.ownBlock ≠ some b
section
variable {w W y : World} {M : Nat} {R : Nat → Rw}
theorem FW.below (h : FW w W M R) (hb : Below W.heap.size W y) : FW w y M R := ⟨h.low.trans (hb.mono h.low.size), fun k hk => hown_thru (h.own k hk) hb, h.dis⟩
theorem FW.push (h : FW w W M R) {k : Nat} (hk : k < M) {v : Value} {n : Nat} {cs : List Value} (ho : y.ownsRow w.heap.size (R k).ty (R k).k v n cs) (hg : W.grownBy y (R k).v.ownBlock) (hat : ∀ g, v.ownBlock = some g → (R k).v.ownBlock = some g ∨ W.heap.size ≤ g) : FW w y M (upd R k ⟨(R k).ty, (R k).k, v, n, cs⟩) := by
  have hrb : ∀ b, (R k).v.ownBlock = some b → w.heap.size ≤ b := fun b e => ((h.own k hk).lt b e).1
  refine ⟨⟨hg.os.trans h.low.os, hg.tape.trans h.low.tape, hg.output.trans h.low.output, Nat.le_trans h.low.size hg.size, fun i hi => (hg.block i (by have := h.low.size; omega) (fun e => by have := hrb i e.symm; omega)).trans (h.low.block i hi)⟩, fun l hl => ?_, fun l m hl hm hlm b hb => ?_⟩
  · by_cases e : l = k
    · subst e; rw [upd_self]; exact ho
    · rw [upd_ne _ _ e]
      refine (h.own l hl).kept hg ?_
      cases e2 : (R l).v.ownBlock with
      | none => exact .inl rfl
      | some b => exact .inr fun e' => h.dis l k hl hk e b e2 e'.symm
  · by_cases e : l = k
    · subst e
      rw [upd_self] at hb
      rw [upd_ne _ _ (fun e => hlm e.symm)]
      intro e
      rcases hat b hb with h1 | h1
      · exact h.dis m l hm hl (fun e => hlm e.symm) b e h1
      · have := ((h.own m hm).lt _ e).2; omega
    · rw [upd_ne _ _ e] at hb
      by_cases e2 : m = k
      · subst e2
        rw [upd_self]
        intro e3
        rcases hat b e3 with h1 | h1
        · exact h.dis l m hl hm hlm b hb h1
        · have := ((h.own l hl).lt _ hb).2; omega
      · rw [upd_ne _ _ e2]; exact h.dis l m hl hm hlm b hb
theorem FW.nil (h : FW w W M R) (ty : TypeId) (k : Nat) : FW w W (M + 1) (upd R M ⟨ty, k, .slice none 0 0, 0, []⟩) := by
  refine ⟨h.low, fun l hl => ?_, fun l m hl hm hlm b hb => ?_⟩
  · by_cases e : l = M
    · subst e; rw [upd_self]; exact World.ownsRow_nil _ _ _ _
    · rw [upd_ne _ _ e]; exact h.own l (by omega)
  · by_cases e : l = M
    · subst e; rw [upd_self] at hb; simp [Value.ownBlock] at hb
    · rw [upd_ne _ _ e] at hb
      by_cases e2 : m = M
      · subst e2; rw [upd_self]; simp [Value.ownBlock]
      · rw [upd_ne _ _ e2]; exact h.dis l m (by omega) (by omega) hlm b hb
end
namespace H
def pcl (a : Option Addr) (c : Nat) (ks : List (Option Nat)) (R : Nat → Rw) : List Value := (List.range ks.length).flatMap fun i => [obSl a c (ks.getD i none), (R (2 * i + 1)).v, (R (2 * i + 2)).v]
def acl (ts : List Ac) (ns : List Nat) : List Value := ns.flatMap fun k => (ts.getD k noAc).cs
theorem pcl_len (a : Option Addr) (c : Nat) (ks : List (Option Nat)) (R : Nat → Rw) : (pcl a c ks R).length = ks.length * 3 := by
  unfold pcl
  rw [A.flat_len' (m := 3) (fun _ => rfl)]
  simp
theorem pcl_at (a : Option Addr) (c : Nat) (ks : List (Option Nat)) (R : Nat → Rw) {i j : Nat} (hi : i < ks.length) (hj : j < 3) : (pcl a c ks R)[i * 3 + j]? = [obSl a c (ks.getD i none), (R (2 * i + 1)).v, (R (2 * i + 2)).v][j]? := by
  unfold pcl
  rw [A.flat_at (fun i => [obSl a c (ks.getD i none), (R (2 * i + 1)).v, (R (2 * i + 2)).v]) 3 0 (fun _ => rfl) _ _ _ (by simpa using hi) hj]
  have : (List.range ks.length).getD i 0 = i := by simp [List.getD, hi]
  rw [this]
theorem acl_len (ts : List Ac) (ns : List Nat) : (acl ts ns).length = ns.length * 7 := by
  unfold acl
  rw [A.flat_len' (m := 7) (fun _ => rfl)]
theorem pcl_ext {a : Option Addr} {c : Nat} {ks : List (Option Nat)} {R : Nat → Rw} {cs : List Value} (hl : cs.length = ks.length * 3) (h : ∀ i, i < ks.length → cs[i * 3]? = some (obSl a c (ks.getD i none)) ∧ cs[i * 3 + 1]? = some (R (2 * i + 1)).v ∧ cs[i * 3 + 2]? = some (R (2 * i + 2)).v) : cs = pcl a c ks R := by
  apply List.ext_getElem?
  intro q
  by_cases hq : q < ks.length * 3
  · obtain ⟨i, j, hij, hj⟩ : ∃ i j, q = i * 3 + j ∧ j < 3 := ⟨q / 3, q % 3, by omega, Nat.mod_lt _ (by decide)⟩
    have hi : i < ks.length := by omega
    subst hij
    rw [pcl_at _ _ _ _ hi hj]
    obtain ⟨h0, h1, h2⟩ := h i hi
    rcases (show j = 0 ∨ j = 1 ∨ j = 2 by omega) with rfl | rfl | rfl
    · exact h0
    · exact h1
    · exact h2
  · rw [List.getElem?_eq_none (by omega), List.getElem?_eq_none (by rw [pcl_len]; omega)]
end H
/-- The parts: their row, and for each the rows of its acts and of their numbers. -/
structure PW (w W : World) (a : Option Addr) (c : Nat) (ts : List H.Ac) (ks : List (Option Nat)) (al nl : Nat → List Nat) (v : Value) (R : Nat → Rw) : Prop where
  fw : FW w W (1 + 2 * ks.length) R
  r0 : R 0 = ⟨56, 3, v, ks.length, H.pcl a c ks R⟩
  ra : ∀ i, i < ks.length → R (2 * i + 1) = ⟨42, 7, (R (2 * i + 1)).v, (al i).length, H.acl ts (al i)⟩
  rn : ∀ i, i < ks.length → R (2 * i + 2) = ⟨3, 1, (R (2 * i + 2)).v, (nl i).length, (nl i).map nV⟩
section
variable {w W y : World} {a : Option Addr} {c : Nat} {ts : List H.Ac} {ks : List (Option Nat)} {al nl : Nat → List Nat} {v : Value} {R : Nat → Rw}
theorem PW.start (w : World) (a : Option Addr) (c : Nat) (ts : List H.Ac) : PW w w a c ts [] (fun _ => []) (fun _ => []) (.slice none 0 0) (fun _ => ⟨56, 3, .slice none 0 0, 0, []⟩) :=
  ⟨⟨Below.refl _ _, fun _ _ => World.ownsRow_nil _ _ _ _, fun k l hk hl hkl => by simp at hk hl; omega⟩, rfl, fun i hi => by simp at hi, fun i hi => by simp at hi⟩
theorem PW.below (h : PW w W a c ts ks al nl v R) (hb : Below W.heap.size W y) : PW w y a c ts ks al nl v R := ⟨h.fw.below hb, h.r0, h.ra, h.rn⟩
theorem PW.prow (h : PW w W a c ts ks al nl v R) : W.ownsRow w.heap.size 56 3 v ks.length (H.pcl a c ks R) := by
  have := h.fw.own 0 (by omega)
  rw [h.r0] at this
  exact this
theorem PW.arow (h : PW w W a c ts ks al nl v R) {i : Nat} (hi : i < ks.length) : W.ownsRow w.heap.size 42 7 (R (2 * i + 1)).v (al i).length (H.acl ts (al i)) := by
  have := h.fw.own (2 * i + 1) (by omega)
  rw [h.ra i hi] at this
  exact this
theorem PW.nrow (h : PW w W a c ts ks al nl v R) {i : Nat} (hi : i < ks.length) : W.ownsRow w.heap.size 3 1 (R (2 * i + 2)).v (nl i).length ((nl i).map nV) := by
  have := h.fw.own (2 * i + 2) (by omega)
  rw [h.rn i hi] at this
  exact this
theorem PW.at {g cp : Nat} (h : PW w W a c ts ks al nl (.slice (some ⟨g, 0, none⟩) ks.length cp) R) {i : Nat} (hi : i < ks.length) : W.cell? ⟨g, i * 3, none⟩ = some (H.obSl a c (ks.getD i none)) ∧ W.cell? ⟨g, i * 3 + 1, none⟩ = some (R (2 * i + 1)).v ∧ W.cell? ⟨g, i * 3 + 2, none⟩ = some (R (2 * i + 2)).v ∧ ∀ j, W.frozen? ⟨g, j, none⟩ = false := by
  have hr := h.prow
  refine ⟨?_, ?_, ?_, fun j => hr.frozenAt j⟩
  · rw [hr.cellAt (i * 3) (by omega)]; exact H.pcl_at a c ks R hi (j := 0) (by decide)
  · rw [hr.cellAt (i * 3 + 1) (by omega)]; exact H.pcl_at a c ks R hi (j := 1) (by decide)
  · rw [hr.cellAt (i * 3 + 2) (by omega)]; exact H.pcl_at a c ks R hi (j := 2) (by decide)
/-- A part more. -/
theorem PW.new (h : PW w W a c ts ks al nl v R) {q : Option Nat} {v1 : Value} (hg : W.grownBy y v.ownBlock) (ho : y.ownsRow w.heap.size 56 3 v1 (ks.length + 1) (H.pcl a c ks R ++ [H.obSl a c q, .slice none 0 0, .slice none 0 0])) (hat : ∀ g, v1.ownBlock = some g → v.ownBlock = some g ∨ W.heap.size ≤ g) :
    PW w y a c ts (ks ++ [q]) (upd al ks.length []) (upd nl ks.length []) v1 (upd (upd (upd R 0 ⟨56, 3, v1, ks.length + 1, H.pcl a c ks R ++ [H.obSl a c q, .slice none 0 0, .slice none 0 0]⟩) (1 + 2 * ks.length) ⟨42, 7, .slice none 0 0, 0, []⟩) (1 + 2 * ks.length + 1) ⟨3, 1, .slice none 0 0, 0, []⟩) := by
  have hr0 := h.r0
  have h1 := h.fw.push (k := 0) (by omega) (v := v1) (n := ks.length + 1) (cs := H.pcl a c ks R ++ [H.obSl a c q, .slice none 0 0, .slice none 0 0]) (by rw [hr0]; exact ho) (by rw [hr0]; exact hg) (by rw [hr0]; exact hat)
  rw [hr0] at h1
  have h2 := (h1.nil 42 7).nil 3 1
  simp only at h2
  obtain ⟨R3, hR3⟩ : ∃ R3, upd (upd (upd R 0 ⟨56, 3, v1, ks.length + 1, H.pcl a c ks R ++ [H.obSl a c q, .slice none 0 0, .slice none 0 0]⟩) (1 + 2 * ks.length) ⟨42, 7, .slice none 0 0, 0, []⟩) (1 + 2 * ks.length + 1) ⟨3, 1, .slice none 0 0, 0, []⟩ = R3 := ⟨_, rfl⟩
  rw [hR3] at h2 ⊢
  have e0 : R3 0 = ⟨56, 3, v1, ks.length + 1, H.pcl a c ks R ++ [H.obSl a c q, .slice none 0 0, .slice none 0 0]⟩ := by rw [← hR3, upd_ne _ _ (by omega), upd_ne _ _ (by omega), upd_self]
  have eA : ∀ i, i < ks.length → R3 (2 * i + 1) = R (2 * i + 1) ∧ R3 (2 * i + 2) = R (2 * i + 2) := fun i hi => by
    rw [← hR3]
    exact ⟨by rw [upd_ne _ _ (by omega), upd_ne _ _ (by omega), upd_ne _ _ (by omega)], by rw [upd_ne _ _ (by omega), upd_ne _ _ (by omega), upd_ne _ _ (by omega)]⟩
  have eM : R3 (2 * ks.length + 1) = ⟨42, 7, .slice none 0 0, 0, []⟩ ∧ R3 (2 * ks.length + 2) = ⟨3, 1, .slice none 0 0, 0, []⟩ := by
    rw [← hR3]
    exact ⟨by rw [upd_ne _ _ (by omega), show 2 * ks.length + 1 = 1 + 2 * ks.length by omega, upd_self], by rw [show 2 * ks.length + 2 = 1 + 2 * ks.length + 1 by omega, upd_self]⟩
  refine ⟨?_, ?_, fun i hi => ?_, fun i hi => ?_⟩
  · rw [List.length_append]
    exact h2
  · rw [e0, List.length_append]
    congr 1
    refine H.pcl_ext (by rw [List.length_append, H.pcl_len]; simp; omega) (fun i hi => ?_)
    rw [List.length_append, List.length_cons, List.length_nil] at hi
    by_cases e : i < ks.length
    · rw [(eA i e).1, (eA i e).2, List.getElem?_append_left (by rw [H.pcl_len]; omega), List.getElem?_append_left (by rw [H.pcl_len]; omega), List.getElem?_append_left (by rw [H.pcl_len]; omega)]
      refine ⟨?_, H.pcl_at a c ks R e (j := 1) (by decide), H.pcl_at a c ks R e (j := 2) (by decide)⟩
      rw [show (ks ++ [q]).getD i none = ks.getD i none by simp [List.getD, List.getElem?_append_left e]]
      exact H.pcl_at a c ks R e (j := 0) (by decide)
    · obtain rfl : i = ks.length := by omega
      rw [eM.1, eM.2, List.getElem?_append_right (by rw [H.pcl_len]; omega), List.getElem?_append_right (by rw [H.pcl_len]; omega), List.getElem?_append_right (by rw [H.pcl_len]; omega), H.pcl_len]
      refine ⟨?_, ?_, ?_⟩
      · simp
      · simp
      · simp
  · rw [List.length_append, List.length_cons, List.length_nil] at hi
    by_cases e : i < ks.length
    · rw [(eA i e).1, upd_ne _ _ (by omega)]; exact h.ra i e
    · obtain rfl : i = ks.length := by omega
      rw [eM.1, upd_self]; rfl
  · rw [List.length_append, List.length_cons, List.length_nil] at hi
    by_cases e : i < ks.length
    · rw [(eA i e).2, upd_ne _ _ (by omega)]; exact h.rn i e
    · obtain rfl : i = ks.length := by omega
      rw [eM.2, upd_self]; rfl
theorem set_at {α : Type} (l : List α) (k j : Nat) (x : α) (hk : k < l.length) : (l.set k x)[j]? = if j = k then some x else l[j]? := by
  by_cases e : j = k
  · subst e; rw [if_pos rfl, List.getElem?_set_self hk]
  · rw [if_neg e, List.getElem?_set_ne (fun e' => e e'.symm)]
/-- An act more in a part: its row grows, and the part's cell is stored over. -/
theorem PW.act {g cp : Nat} (h : PW w W a c ts ks al nl (.slice (some ⟨g, 0, none⟩) ks.length cp) R) {i k : Nat} (hi : i < ks.length) {va : Value} (hg : W.grownBy y (R (2 * i + 1)).v.ownBlock) (ho : y.ownsRow w.heap.size 42 7 va ((al i).length + 1) (H.acl ts (al i) ++ (ts.getD k H.noAc).cs)) (hat : ∀ q, va.ownBlock = some q → (R (2 * i + 1)).v.ownBlock = some q ∨ W.heap.size ≤ q) :
    (y.cell? ⟨g, i * 3 + 1, none⟩ = some (R (2 * i + 1)).v ∧ y.frozen? ⟨g, i * 3 + 1, none⟩ = false) ∧ ∃ R', PW w (y.setCell ⟨g, i * 3 + 1, none⟩ va) a c ts ks (upd al i (al i ++ [k])) nl (.slice (some ⟨g, 0, none⟩) ks.length cp) R' := by
  have hra := h.ra i hi
  have h1 := h.fw.push (k := 2 * i + 1) (by omega) (v := va) (n := (al i).length + 1) (cs := H.acl ts (al i) ++ (ts.getD k H.noAc).cs) (by rw [hra]; exact ho) (by rw [hra] at hg ⊢; exact hg) (by rw [hra] at hat ⊢; exact hat)
  obtain ⟨R1, hR1⟩ : ∃ R1, upd R (2 * i + 1) ⟨(R (2 * i + 1)).ty, (R (2 * i + 1)).k, va, (al i).length + 1, H.acl ts (al i) ++ (ts.getD k H.noAc).cs⟩ = R1 := ⟨_, rfl⟩
  rw [hR1] at h1
  have e0 : R1 0 = R 0 := by rw [← hR1, upd_ne _ _ (by omega)]
  have hP := h1.own 0 (by omega)
  rw [e0, h.r0] at hP
  have hst := hP.stored (i * 3 + 1) va
  have hcell := hP.cellAt (i * 3 + 1) (by simp; omega)
  have hpc := H.pcl_at a c ks R hi (j := 1) (by decide)
  simp only at hcell
  refine ⟨⟨by rw [hcell, hpc]; rfl, hP.frozenAt _⟩, ?_⟩
  have h2 := h1.push (k := 0) (by omega) (v := .slice (some ⟨g, 0, none⟩) ks.length cp) (n := ks.length) (cs := (H.pcl a c ks R).set (i * 3 + 1) va) (by rw [e0, h.r0]; exact hst.1) (by rw [e0, h.r0]; exact hst.2) (by rw [e0, h.r0]; exact fun q hq => .inl hq)
  rw [e0, h.r0] at h2
  simp only at h2
  refine ⟨_, h2, ?_, fun j hj => ?_, fun j hj => ?_⟩
  · rw [upd_self]
    congr 1
    refine H.pcl_ext (by rw [List.length_set, H.pcl_len]) (fun j hj => ?_)
    rw [upd_ne _ _ (by omega), upd_ne _ _ (by omega), set_at _ _ _ _ (by rw [H.pcl_len]; omega), set_at _ _ _ _ (by rw [H.pcl_len]; omega), set_at _ _ _ _ (by rw [H.pcl_len]; omega), if_neg (by omega), if_neg (show ¬ j * 3 + 2 = i * 3 + 1 by omega), ← hR1]
    refine ⟨H.pcl_at a c ks R hj (j := 0) (by decide), ?_, ?_⟩
    · by_cases e : j = i
      · subst e; rw [if_pos rfl, upd_self]
      · rw [if_neg (by omega), upd_ne _ _ (by omega)]; exact H.pcl_at a c ks R hj (j := 1) (by decide)
    · rw [upd_ne _ _ (by omega)]; exact H.pcl_at a c ks R hj (j := 2) (by decide)
  · rw [upd_ne _ _ (by omega), ← hR1]
    by_cases e : j = i
    · subst e
      rw [upd_self, upd_self, hra]
      simp [H.acl]
    · rw [upd_ne _ _ (by omega), upd_ne _ _ e]; exact h.ra j hj
  · rw [upd_ne _ _ (by omega), ← hR1, upd_ne _ _ (by omega)]; exact h.rn j hj
theorem PW.num {g cp : Nat} (h : PW w W a c ts ks al nl (.slice (some ⟨g, 0, none⟩) ks.length cp) R) {i k : Nat} (hi : i < ks.length) {va : Value} (hg : W.grownBy y (R (2 * i + 2)).v.ownBlock) (ho : y.ownsRow w.heap.size 3 1 va ((nl i).length + 1) ((nl i).map nV ++ [nV k])) (hat : ∀ q, va.ownBlock = some q → (R (2 * i + 2)).v.ownBlock = some q ∨ W.heap.size ≤ q) :
    (y.cell? ⟨g, i * 3 + 2, none⟩ = some (R (2 * i + 2)).v ∧ y.frozen? ⟨g, i * 3 + 2, none⟩ = false) ∧ ∃ R', PW w (y.setCell ⟨g, i * 3 + 2, none⟩ va) a c ts ks al (upd nl i (nl i ++ [k])) (.slice (some ⟨g, 0, none⟩) ks.length cp) R' := by
  have hra := h.rn i hi
  have h1 := h.fw.push (k := 2 * i + 2) (by omega) (v := va) (n := (nl i).length + 1) (cs := (nl i).map nV ++ [nV k]) (by rw [hra]; exact ho) (by rw [hra] at hg ⊢; exact hg) (by rw [hra] at hat ⊢; exact hat)
  obtain ⟨R1, hR1⟩ : ∃ R1, upd R (2 * i + 2) ⟨(R (2 * i + 2)).ty, (R (2 * i + 2)).k, va, (nl i).length + 1, (nl i).map nV ++ [nV k]⟩ = R1 := ⟨_, rfl⟩
  rw [hR1] at h1
  have e0 : R1 0 = R 0 := by rw [← hR1, upd_ne _ _ (by omega)]
  have hP := h1.own 0 (by omega)
  rw [e0, h.r0] at hP
  have hst := hP.stored (i * 3 + 2) va
  have hcell := hP.cellAt (i * 3 + 2) (by simp; omega)
  have hpc := H.pcl_at a c ks R hi (j := 2) (by decide)
  simp only at hcell
  refine ⟨⟨by rw [hcell, hpc]; rfl, hP.frozenAt _⟩, ?_⟩
  have h2 := h1.push (k := 0) (by omega) (v := .slice (some ⟨g, 0, none⟩) ks.length cp) (n := ks.length) (cs := (H.pcl a c ks R).set (i * 3 + 2) va) (by rw [e0, h.r0]; exact hst.1) (by rw [e0, h.r0]; exact hst.2) (by rw [e0, h.r0]; exact fun q hq => .inl hq)
  rw [e0, h.r0] at h2
  simp only at h2
  refine ⟨_, h2, ?_, fun j hj => ?_, fun j hj => ?_⟩
  · rw [upd_self]
    congr 1
    refine H.pcl_ext (by rw [List.length_set, H.pcl_len]) (fun j hj => ?_)
    rw [upd_ne _ _ (by omega), upd_ne _ _ (by omega), set_at _ _ _ _ (by rw [H.pcl_len]; omega), set_at _ _ _ _ (by rw [H.pcl_len]; omega), set_at _ _ _ _ (by rw [H.pcl_len]; omega), if_neg (by omega), if_neg (show ¬ j * 3 + 1 = i * 3 + 2 by omega), ← hR1]
    refine ⟨H.pcl_at a c ks R hj (j := 0) (by decide), ?_, ?_⟩
    · rw [upd_ne _ _ (by omega)]; exact H.pcl_at a c ks R hj (j := 1) (by decide)
    · by_cases e : j = i
      · subst e; rw [if_pos rfl, upd_self]
      · rw [if_neg (by omega), upd_ne _ _ (by omega)]; exact H.pcl_at a c ks R hj (j := 2) (by decide)
  · rw [upd_ne _ _ (by omega), ← hR1, upd_ne _ _ (by omega)]; exact h.ra j hj
  · rw [upd_ne _ _ (by omega), ← hR1]
    by_cases e : j = i
    · subst e
      rw [upd_self, upd_self, hra]
      simp
    · rw [upd_ne _ _ (by omega), upd_ne _ _ e]; exact h.rn j hj
end
end Go.Proofs.Ytafdjmccgijmnaa

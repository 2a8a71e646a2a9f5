/- Copies of footprints, in a row of their own. -/
import Derived.Test.YtlbofiaikhcheaaMemAppend
import Derived.Test.YtlbofiaikhcheaaMemFJ
namespace Go.Proofs.Ytlbofiaikhcheaa
open Go.RowKit Go.Maps
set_option linter.unusedVariables false

theorem infoF : (Try.prog.info? 40).map (fun i => (i.zero, i.size, i.bytes)) = some (some (.agg #[.slice none 0 0, .slice none 0 0]), 2, 48) := by kernel_rfl

def nilV : Value := .slice none 0 0
def prs (vs : List (Value × Value)) : List Value := vs.flatMap fun v => [v.1, v.2]
abbrev ints (zs : List Int) : List Value := zs.map (Value.int .i64)

structure OwnF (B : Nat) (w : World) (lv : Value) (fs : List (List Int × List Int)) (vs : List (Value × Value)) : Prop where
  len : vs.length = fs.length
  row : w.ownsRow B 40 2 lv fs.length (prs vs)
  one : ∀ i, i < fs.length → w.ownsRow B 2 1 (vs.getD i (nilV, nilV)).1 (fs.getD i ([], [])).1.length (ints (fs.getD i ([], [])).1) ∧ w.ownsRow B 2 1 (vs.getD i (nilV, nilV)).2 (fs.getD i ([], [])).2.length (ints (fs.getD i ([], [])).2)
  far : ∀ v ∈ vs, ∀ g, lv.ownBlock = some g → v.1.ownBlock ≠ some g ∧ v.2.ownBlock ≠ some g
  fits : ∀ f ∈ fs, (∀ n ∈ f.1, (Lit.int .i64 n).wf = true) ∧ (∀ n ∈ f.2, (Lit.int .i64 n).wf = true)

theorem OwnF.nil (B : Nat) (w : World) : OwnF B w (.slice none 0 0) [] [] :=
  ⟨rfl, World.ownsRow_nil _ _ _ _, by simp, by simp, by simp⟩
theorem OwnF.below {B : Nat} {w w' : World} {lv : Value} {fs : List (List Int × List Int)} {vs : List (Value × Value)} (h : OwnF B w lv fs vs) (hb : Below w.heap.size w w') : OwnF B w' lv fs vs :=
  ⟨h.len, own_kept h.row hb, fun i hi => ⟨own_kept (h.one i hi).1 hb, own_kept (h.one i hi).2 hb⟩, h.far, h.fits⟩

theorem getD_memF {vs : List (Value × Value)} {i : Nat} (h : i < vs.length) : vs.getD i (nilV, nilV) ∈ vs := by simp [List.getD, h]
theorem prs_len (vs : List (Value × Value)) : (prs vs).length = vs.length * 2 := by
  induction vs with
  | nil => rfl
  | cons v vs ih => simp only [prs, List.flatMap_cons, List.length_append, List.length_cons, List.length_nil] at *; omega
theorem prs_at (vs : List (Value × Value)) (k : Nat) (hk : k < vs.length) : (prs vs)[k * 2]? = some (vs.getD k (nilV, nilV)).1 ∧ (prs vs)[k * 2 + 1]? = some (vs.getD k (nilV, nilV)).2 := by
  induction vs generalizing k with
  | nil => simp at hk
  | cons v vs ih =>
    cases k with
    | zero => simp [prs]
    | succ k =>
      have := ih k (by simpa using hk)
      simp only [prs, List.flatMap_cons, List.cons_append, List.nil_append] at *
      rw [show (k + 1) * 2 = k * 2 + 1 + 1 by omega, show k * 2 + 1 + 1 + 1 = k * 2 + 1 + 1 + 1 from rfl]
      simp only [List.getElem?_cons_succ, List.getD_cons_succ]
      exact this

theorem OwnF.push {B C : Nat} {w w5 : World} {lv : Value} {fs : List (List Int × List Int)} {vs : List (Value × Value)} {u1 u2 : Value} {z : List Int × List Int} {g cap : Nat} (h : OwnF B w lv fs vs)
    (o1 : w.ownsRow C 2 1 u1 z.1.length (ints z.1)) (o2 : w.ownsRow C 2 1 u2 z.2.length (ints z.2)) (hBC : B ≤ C) (hC : ∀ x, lv.ownBlock = some x → x < C)
    (hf : (∀ n ∈ z.1, (Lit.int .i64 n).wf = true) ∧ (∀ n ∈ z.2, (Lit.int .i64 n).wf = true))
    (hr : w5.ownsRow B 40 2 (.slice (some ⟨g, 0, none⟩) (fs.length + 1) cap) (fs.length + 1) (prs vs ++ [u1, u2])) (hg : w.grownBy w5 lv.ownBlock) (hat : lv.ownBlock = some g ∨ g = w.heap.size) :
    OwnF B w5 (.slice (some ⟨g, 0, none⟩) (fs.length + 1) cap) (fs ++ [z]) (vs ++ [(u1, u2)]) := by
  have keep : ∀ {v : Value} {n : Nat} {xs : List Value} {D : Nat}, w.ownsRow D 2 1 v n xs → v.ownBlock ≠ lv.ownBlock ∨ lv.ownBlock = none → w5.ownsRow D 2 1 v n xs := by
    intro v n xs D ho hne
    rcases hne with hne | hne
    · exact ho.kept hg (.inr hne)
    · refine ho.kept hg ?_
      cases hv : v.ownBlock with
      | none =>
        rcases ho.2 with ⟨rfl, rfl⟩ | ⟨g, cap, cur, rfl, -⟩
        · exact .inl rfl
        · simp [Value.ownBlock] at hv
      | some x => exact .inr (by rw [hne]; simp)
  have n1 : ∀ {u : Value} {n : Nat} {xs : List Value}, w.ownsRow C 2 1 u n xs → u.ownBlock ≠ lv.ownBlock ∨ lv.ownBlock = none := by
    intro u n xs o
    cases hl : lv.ownBlock with
    | none => exact .inr rfl
    | some x => exact .inl (fun e => by have := (o.lt _ e).1; have := hC _ hl; omega)
  have blk : ∀ {u : Value} {n : Nat} {xs : List Value} {D : Nat}, w.ownsRow D 2 1 u n xs → ∀ x, u.ownBlock = some x → x < w.heap.size := fun o x hx => (o.lt x hx).2
  have base : ∀ {u : Value} {n : Nat} {xs : List Value}, w5.ownsRow C 2 1 u n xs → w5.ownsRow B 2 1 u n xs := fun o => own_base o hBC
  refine ⟨by simp [h.len], ?_, ?_, ?_, ?_⟩
  · simpa [prs] using hr
  · intro i hi
    by_cases hlt : i < fs.length
    · have e1 : (vs ++ [(u1, u2)]).getD i (nilV, nilV) = vs.getD i (nilV, nilV) := by simp [List.getD, List.getElem?_append_left (show i < vs.length by have := h.len; omega)]
      have e2 : (fs ++ [z]).getD i ([], []) = fs.getD i ([], []) := by simp [List.getD, List.getElem?_append_left hlt]
      rw [e1, e2]
      have hm := getD_memF (vs := vs) (i := i) (by have := h.len; omega)
      have ne : ∀ {u : Value}, (∀ g, lv.ownBlock = some g → u.ownBlock ≠ some g) → u.ownBlock ≠ lv.ownBlock ∨ lv.ownBlock = none := by
        intro u hu
        cases hl : lv.ownBlock with
        | none => exact .inr rfl
        | some x => exact .inl (hu x hl)
      exact ⟨keep (h.one i hlt).1 (ne fun g hg => (h.far _ hm g hg).1), keep (h.one i hlt).2 (ne fun g hg => (h.far _ hm g hg).2)⟩
    · obtain rfl : i = fs.length := by simp at hi; omega
      have e1 : (vs ++ [(u1, u2)]).getD fs.length (nilV, nilV) = (u1, u2) := by rw [← h.len]; simp [List.getD]
      have e2 : (fs ++ [z]).getD fs.length ([], []) = z := by simp [List.getD]
      rw [e1, e2]
      exact ⟨base (keep o1 (n1 o1)), base (keep o2 (n1 o2))⟩
  · intro v hv x hx
    have hxg : x = g := by simpa [Value.ownBlock] using hx.symm
    subst hxg
    rcases List.mem_append.1 hv with hv | hv
    · rcases hat with hat | hat
      · exact h.far v hv x hat
      · obtain ⟨i, hi, e⟩ := List.getElem_of_mem hv
        have ho := h.one i (by have := h.len; omega)
        rw [show vs.getD i (nilV, nilV) = v by simp [List.getD, hi, e]] at ho
        exact ⟨fun e => by have := blk ho.1 _ e; omega, fun e => by have := blk ho.2 _ e; omega⟩
    · obtain rfl : v = (u1, u2) := by simpa using hv
      rcases hat with hat | hat
      · have := hC _ hat
        exact ⟨fun e => by have := (o1.lt _ e).1; omega, fun e => by have := (o2.lt _ e).1; omega⟩
      · exact ⟨fun e => by have := blk o1 _ e; omega, fun e => by have := blk o2 _ e; omega⟩
  · intro f hf'
    rcases List.mem_append.1 hf' with h1 | h1
    · exact h.fits f h1
    · obtain rfl : f = z := by simpa using h1
      exact hf

theorem OwnF.foots {B : Nat} {w : World} {lv : Value} {fs : List (List Int × List Int)} {vs : List (Value × Value)} (h : OwnF B w lv fs vs) : ∃ a cap, lv = .slice a fs.length cap ∧ FootsV w a fs.length fs := by
  rcases h.row.2 with ⟨rfl, h0⟩ | ⟨g, cap, cur, rfl, -⟩
  · exact ⟨none, 0, by rw [h0], ⟨rfl, .inl h0⟩⟩
  · refine ⟨_, _, rfl, ⟨rfl, .inr ⟨g, 0, rfl, fun i hi => ?_⟩⟩⟩
    have hl := h.len
    have p := prs_at vs i (by omega)
    have k0 := h.row.cellAt (i * 2) (by omega)
    have k1 := h.row.cellAt (i * 2 + 1) (by omega)
    rw [p.1] at k0
    rw [p.2] at k1
    have hf := h.fits (fs.getD i ([], [])) (by simp [List.getD, hi])
    obtain ⟨a1, c1, e1, V1⟩ := view_own hf.1 (h.one i hi).1
    obtain ⟨a2, c2, e2, V2⟩ := view_own hf.2 (h.one i hi).2
    rw [e1] at k0
    rw [e2] at k1
    refine ⟨a1, _, c1, a2, _, c2, ?_, ?_, V1, V2⟩
    · rw [Nat.zero_add]; exact k0
    · rw [Nat.zero_add]; exact k1

end Go.Proofs.Ytlbofiaikhcheaa

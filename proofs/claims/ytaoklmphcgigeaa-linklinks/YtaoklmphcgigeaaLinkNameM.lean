/- A name in the place of another one. -/
import Derived.Test.YtaoklmphcgigeaaLinkOrderM
namespace Go.Proofs.Ytaoklmphcgigeaa
open Go.RowKit Go.Lib
set_option linter.unusedVariables false
set_option linter.unusedSimpArgs false

section
variable (old new : ByteArray)
def ren (nm : ByteArray) : ByteArray := if nm = old then new else nm
def renS (s : Sym) : Sym := ⟨ren old new s.name, s.kind, s.pos⟩
def renR (r : Rel) : Rel := ⟨r.pos, r.kind, ren old new r.name, r.add⟩
def renO (o : ObjD) : ObjD := ⟨o.code, o.data, o.syms.map (renS old new), o.rels.map (renR old new)⟩
/-- Nobody has the new name. -/
def fresh (o : ObjD) : Prop := (∀ s ∈ o.syms, s.name ≠ new) ∧ ∀ r ∈ o.rels, r.name ≠ new
end
theorem ren_inj {old new a b : ByteArray} (ha : a ≠ new) (hb : b ≠ new) : ren old new a = ren old new b ↔ a = b := by
  unfold ren
  constructor
  · intro h
    by_cases h1 : a = old
    · by_cases h2 : b = old
      · rw [h1, h2]
      · rw [if_pos h1, if_neg h2] at h; exact absurd h.symm hb
    · by_cases h2 : b = old
      · rw [if_neg h1, if_pos h2] at h; exact absurd h ha
      · rw [if_neg h1, if_neg h2] at h; exact h
  · intro h; rw [h]
theorem ren_ok {old new : ByteArray} (ho : nameOk old = true) (hn : nameOk new = true) (a : ByteArray) : nameOk (ren old new a) = nameOk a := by
  unfold ren
  split
  · rename_i h; rw [h, ho, hn]
  · rfl
theorem getD_map {α : Type} {f : α → α} {l : List α} {d : α} {i : Nat} (hi : i < l.length) : (l.map f).getD i d = f (l.getD i d) := by simp [List.getD, hi]
theorem ren_may {old new : ByteArray} (ho : nameOk old = true) (hn : nameOk new = true) {o : ObjD} (hf : fresh new o) : (renO old new o).may = o.may := by
  unfold ObjD.may renO symsOk relsOk
  simp only [List.length_map]
  congr 2
  · congr 1
    rw [Bool.eq_iff_iff, List.all_eq_true, List.all_eq_true]
    have key : ∀ i ∈ List.range o.syms.length, symAt o.code.size o.data.length (o.syms.map (renS old new)) i = symAt o.code.size o.data.length o.syms i := by
      intro i hi
      have hi' : i < o.syms.length := by simpa using hi
      unfold symAt symOk
      rw [getD_map hi']
      congr 1
      · rw [Bool.eq_iff_iff, List.all_eq_true, List.all_eq_true]
        have k2 : ∀ j ∈ List.range i, decide (((o.syms.map (renS old new)).getD j noSym).name ≠ (renS old new (o.syms.getD i noSym)).name) = decide ((o.syms.getD j noSym).name ≠ (o.syms.getD i noSym).name) := by
          intro j hj
          have hj' : j < i := by simpa using hj
          rw [getD_map (by omega)]
          have m1 : o.syms.getD j noSym ∈ o.syms := by simp [List.getD, show j < o.syms.length by omega]
          have m2 : o.syms.getD i noSym ∈ o.syms := by simp [List.getD, hi']
          have := ren_inj (old := old) (hf.1 _ m1) (hf.1 _ m2)
          exact decide_eq_decide.2 (not_congr this)
        constructor
        · intro h j hj; rw [← k2 j hj]; exact h j hj
        · intro h j hj; rw [k2 j hj]; exact h j hj
      · simp only [renS, ren_ok ho hn]
        rfl
    constructor
    · intro h i hi; rw [← key i hi]; exact h i hi
    · intro h i hi; rw [key i hi]; exact h i hi
  · congr 1
    rw [Bool.eq_iff_iff, List.all_eq_true, List.all_eq_true]
    have key : ∀ i ∈ List.range o.rels.length, relOk o.code.size (freeAt (o.rels.map (renR old new)) i) ((o.rels.map (renR old new)).getD i noRel) = relOk o.code.size (freeAt o.rels i) (o.rels.getD i noRel) := by
      intro i hi
      have hi' : i < o.rels.length := by simpa using hi
      have hfr : freeAt (o.rels.map (renR old new)) i = freeAt o.rels i := by
        unfold freeAt
        split
        · rfl
        · rw [getD_map (by omega)]
          rfl
      rw [hfr, getD_map hi']
      unfold relOk
      simp only [renR, ren_ok ho hn]
      rfl
    constructor
    · intro h i hi; rw [← key i hi]; exact h i hi
    · intro h i hi; rw [key i hi]; exact h i hi
theorem ren_thr (old new : ByteArray) : ∀ ss : List Sym, L.thr (ss.map (renS old new)) = L.thr ss := fun ss => by
  unfold L.thr
  rw [List.filter_map, List.length_map]
  rfl
theorem ren_grow (old new : ByteArray) (z : L.Sz) (o : ObjD) : L.grow z (renO old new o) = L.grow z o := by
  unfold L.grow renO
  simp [ren_thr]
theorem ren_fold (old new : ByteArray) : ∀ (os : List ObjD) (z : L.Sz), (os.map (renO old new)).foldl L.grow z = os.foldl L.grow z
  | [], z => rfl
  | o :: os, z => by
    simp only [List.map_cons, List.foldl_cons, ren_grow]
    exact ren_fold old new os _
theorem ren_syms (old new : ByteArray) : ∀ (os : List ObjD) (z : L.Sz), L.symsFrom z (os.map (renO old new)) = (L.symsFrom z os).map (renS old new)
  | [], z => rfl
  | o :: os, z => by
    simp only [List.map_cons, L.symsFrom, List.map_append, ren_grow, ren_syms old new os]
    congr 1
    simp [renO, List.map_map, Function.comp_def, L.moved, renS]
    intro a _
    rfl
theorem syms_fresh {new : ByteArray} : ∀ (os : List ObjD) (z : L.Sz), (∀ o ∈ os, fresh new o) → ∀ s ∈ L.symsFrom z os, s.name ≠ new
  | [], z, _, s, hs => by simp [L.symsFrom] at hs
  | o :: os, z, h, s, hs => by
    simp only [L.symsFrom, List.mem_append, List.mem_map] at hs
    rcases hs with ⟨y, hy, rfl⟩ | hs
    · exact (h o (List.mem_cons_self ..)).1 y hy
    · exact syms_fresh os _ (fun p hp => h p (List.mem_cons_of_mem _ hp)) s hs
theorem ren_twice {old new : ByteArray} : ∀ (ss : List Sym), (∀ s ∈ ss, s.name ≠ new) → L.twice (ss.map (renS old new)) = L.twice ss
  | [], _ => rfl
  | s :: ss, h => by
    simp only [List.map_cons, L.twice, ren_twice ss (fun u hu => h u (List.mem_cons_of_mem _ hu)), List.any_map]
    congr 1
    rw [Bool.eq_iff_iff, List.any_eq_true, List.any_eq_true]
    have e : ∀ u ∈ ss, ((fun u : Sym => decide (u.name = (renS old new s).name)) ∘ renS old new) u = decide (u.name = s.name) := fun u hu => by
      exact decide_eq_decide.2 (ren_inj (h u (List.mem_cons_of_mem _ hu)) (h s (List.mem_cons_self ..)))
    constructor
    · rintro ⟨u, hu, h1⟩; exact ⟨u, hu, by rw [← e u hu]; exact h1⟩
    · rintro ⟨u, hu, h1⟩; exact ⟨u, hu, by rw [e u hu]; exact h1⟩
theorem ren_look {old new : ByteArray} : ∀ (ss : List Sym), (∀ s ∈ ss, s.name ≠ new) → ∀ nm, nm ≠ new → L.look (ss.map (renS old new)) (ren old new nm) = (L.look ss nm).map (renS old new)
  | [], _, nm, _ => rfl
  | s :: ss, h, nm, hn => by
    have ih := ren_look (old := old) ss (fun u hu => h u (List.mem_cons_of_mem _ hu)) nm hn
    unfold L.look at *
    rw [List.map_cons, List.find?_cons, List.find?_cons]
    have e : decide ((renS old new s).name = ren old new nm) = decide (s.name = nm) := by
      exact decide_eq_decide.2 (ren_inj (h s (List.mem_cons_self ..)) hn)
    rw [e]
    cases decide (s.name = nm) with
    | true => rfl
    | false => exact ih
theorem ren_ask {old new : ByteArray} {ss : List Sym} (h : ∀ s ∈ ss, s.name ≠ new) : ∀ (rs : List Rel), (∀ r ∈ rs, r.name ≠ new) → L.ask (ss.map (renS old new)) (rs.map (renR old new)) = L.ask ss rs
  | [], _ => rfl
  | r :: rs, hr => by
    have e : L.askOne (ss.map (renS old new)) (renR old new r) = L.askOne ss r := by
      unfold L.askOne
      have : (renR old new r).name = ren old new r.name := rfl
      rw [this, ren_look ss h r.name (hr r (List.mem_cons_self ..))]
      cases L.look ss r.name with
      | none => rfl
      | some s => rfl
    simp only [List.map_cons, L.ask, e, ren_ask h rs (fun q hq => hr q (List.mem_cons_of_mem _ hq))]
theorem ren_patch {old new : ByteArray} {ss : List Sym} (h : ∀ s ∈ ss, s.name ≠ new) (z : L.Sz) : ∀ (rs : List Rel) (c : List UInt8), (∀ r ∈ rs, r.name ≠ new) → patchRels (ss.map (renS old new)) z c (rs.map (renR old new)) = patchRels ss z c rs
  | [], c, _ => rfl
  | r :: rs, c, hr => by
    have hv : L.value (ss.map (renS old new)) z (renR old new r) = L.value ss z r := by
      unfold L.value
      have e : ((L.look (ss.map (renS old new)) (renR old new r).name).getD noSym).pos = ((L.look ss r.name).getD noSym).pos := by
        have : (renR old new r).name = ren old new r.name := rfl
        rw [this, ren_look ss h r.name (hr r (List.mem_cons_self ..))]
        cases L.look ss r.name <;> rfl
      rw [e]
      rfl
    have hk : L.valueOk (ss.map (renS old new)) z (renR old new r) = L.valueOk ss z r := by unfold L.valueOk; rw [hv]; rfl
    have hf : fillS (ss.map (renS old new)) z (renR old new r) = fillS ss z r := by unfold fillS; rw [hv]
    simp only [List.map_cons, patchRels, hk, hf]
    rw [ren_patch h z rs _ (fun q hq => hr q (List.mem_cons_of_mem _ hq))]
    rfl
theorem ren_codes {old new : ByteArray} {ss : List Sym} (h : ∀ s ∈ ss, s.name ≠ new) : ∀ (os : List ObjD) (z : L.Sz), (∀ o ∈ os, fresh new o) → codes (ss.map (renS old new)) z (os.map (renO old new)) = codes ss z os
  | [], z, _ => rfl
  | o :: os, z, ho => by
    have e : patchRels (ss.map (renS old new)) z (renO old new o).code.data.toList (renO old new o).rels = patchRels ss z o.code.data.toList o.rels := ren_patch h z o.rels _ (ho o (List.mem_cons_self ..)).2
    simp only [List.map_cons, codes, e, ren_grow, ren_codes h os _ (fun p hp => ho p (List.mem_cons_of_mem _ hp))]
theorem ren_rels (old new : ByteArray) (os : List ObjD) : L.rels (os.map (renO old new)) = (L.rels os).map (renR old new) := by
  unfold L.rels
  induction os with
  | nil => rfl
  | cons o os ih => simp only [List.map_cons, List.flatMap_cons, List.map_append, ih]; rfl
theorem ren_datas (old new : ByteArray) (os : List ObjD) : datas (os.map (renO old new)) = datas os := by
  unfold datas
  induction os with
  | nil => rfl
  | cons o os ih => simp only [List.map_cons, List.flatMap_cons, ih]; rfl
/-- With a new name in the place of another one all is the same but for the name. -/
theorem link_ren {old new : ByteArray} (ho : nameOk old = true) (hn : nameOk new = true) {os : List ObjD} (hf : ∀ o ∈ os, fresh new o) :
    linkE (os.map (renO old new)) = linkE os ∧ linkC (os.map (renO old new)) = linkC os ∧ linkD (os.map (renO old new)) = linkD os ∧ linkS (os.map (renO old new)) = (linkS os).map (renS old new) := by
  have hs : L.syms (os.map (renO old new)) = (L.syms os).map (renS old new) := ren_syms old new os L.zero
  have hsf : ∀ s ∈ L.syms os, s.name ≠ new := syms_fresh os L.zero hf
  have hm : mayAll (os.map (renO old new)) = mayAll os := by
    unfold mayAll
    rw [List.length_map, List.all_map]
    congr 1
    rw [Bool.eq_iff_iff, List.all_eq_true, List.all_eq_true]
    constructor
    · intro h o hoo; rw [← ren_may ho hn (hf o hoo)]; exact h o hoo
    · intro h o hoo; simp only [Function.comp]; rw [ren_may ho hn (hf o hoo)]; exact h o hoo
  have hz : L.sizes (os.map (renO old new)) = L.sizes os := ren_fold old new os L.zero
  have hl : layE (os.map (renO old new)) = layE os := by
    unfold layE
    rw [hs, ren_twice _ hsf, ren_rels, ren_ask hsf _ (fun r hr => by
      obtain ⟨o, hoo, hr⟩ := List.mem_flatMap.1 hr
      exact (hf o hoo).2 r hr)]
  have hfi : mayAll os = true → filled (os.map (renO old new)) = filled os := fun h => by
    have hmm : ∀ o ∈ os, o.may = true := by unfold mayAll at h; simp at h; exact h.2
    rw [filled_codes hmm, filled_codes (os := os.map (renO old new)) (fun p hp => by
      obtain ⟨o, hoo, rfl⟩ := List.mem_map.1 hp
      rw [ren_may ho hn (hf o hoo)]
      exact hmm o hoo), hs, ren_codes hsf os _ hf]
  have hE : linkE (os.map (renO old new)) = linkE os := by
    unfold linkE
    rw [hm, hl, hz]
    cases h : mayAll os with
    | false => rfl
    | true => rw [hfi h]
  refine ⟨hE, ?_, ?_, ?_⟩
  · unfold linkC
    rw [hE]
    split
    · rename_i h0
      have hmm : mayAll os = true := by
        have := (link_ok h0).1
        unfold mayAll
        simpa using this
      rw [hfi hmm]
    · rfl
  · unfold linkD; rw [hE, ren_datas]
  · unfold linkS
    rw [hE, hs]
    split <;> rfl
end Go.Proofs.Ytaoklmphcgigeaa

/- All code, filled, object by object. -/
import Derived.Test.YtaoklmphcgigeaaLinkLink
namespace Go.Proofs.Ytaoklmphcgigeaa
open Go.RowKit Go.Lib
set_option linter.unusedVariables false
set_option linter.unusedSimpArgs false

theorem patch_mid {a c p : List UInt8} {k : Nat} {s : ByteArray} (h : k + s.size ≤ c.length) : patch (a ++ c ++ p) (a.length + k) s = a ++ patch c k s ++ p := by
  unfold patch
  rw [List.append_assoc a c p, List.take_length_add_append, List.take_append_of_le_length (by omega), show a.length + k + s.size = a.length + (k + s.size) by omega, List.drop_length_add_append, List.drop_append_of_le_length (by omega)]
  simp only [List.append_assoc]
/-- An object's code, its places filled. -/
def patchRels (ss : List Sym) (z : L.Sz) : List UInt8 → List Rel → Option (List UInt8)
  | c, [] => some c
  | c, r :: rs => if L.valueOk ss z r = true then patchRels ss z (patch c r.pos.toNat (fillS ss z r)) rs else none
def codes (ss : List Sym) : L.Sz → List ObjD → Option (List UInt8)
  | _, [] => some []
  | z, o :: os => (patchRels ss z o.code.data.toList o.rels).bind fun c => (codes ss (L.grow z o) os).map fun cs => c ++ cs
def inCode (n : Nat) (rs : List Rel) : Prop := ∀ r ∈ rs, 0 ≤ r.pos ∧ r.pos + 4 ≤ n
theorem fillS_le (ss : List Sym) (z : L.Sz) (r : Rel) : (fillS ss z r).size ≤ 4 := fillS_size ss z r
theorem patchRels_len {ss : List Sym} {z : L.Sz} : ∀ (rs : List Rel) (c c' : List UInt8), inCode c.length rs → patchRels ss z c rs = some c' → c'.length = c.length
  | [], c, c', _, h => by simp [patchRels] at h; rw [h]
  | r :: rs, c, c', hin, h => by
    unfold patchRels at h
    split at h
    · have h1 := hin r (List.mem_cons_self ..)
      have h2 := fillS_le ss z r
      have e : (patch c r.pos.toNat (fillS ss z r)).length = c.length := patch_len (by omega)
      rw [patchRels_len rs _ c' (fun q hq => by rw [e]; exact hin q (List.mem_cons_of_mem _ hq)) h, e]
    · cases h
theorem fillRels_mid {ss : List Sym} {z : L.Sz} {a p : List UInt8} (ha : a.length = z.b) : ∀ (rs : List Rel) (c : List UInt8), inCode c.length rs → fillRels ss z (a ++ c ++ p) rs = (patchRels ss z c rs).map fun c' => a ++ c' ++ p
  | [], c, _ => rfl
  | r :: rs, c, hin => by
    have h1 := hin r (List.mem_cons_self ..)
    have h2 := fillS_le ss z r
    unfold fillRels patchRels
    split
    · rw [← ha, patch_mid (by omega)]
      have e : (patch c r.pos.toNat (fillS ss z r)).length = c.length := patch_len (by omega)
      exact fillRels_mid ha rs _ (fun q hq => by rw [e]; exact hin q (List.mem_cons_of_mem _ hq))
    · rfl
theorem may_in {o : ObjD} (h : o.may = true) : inCode o.code.data.toList.length o.rels := fun r hr => by
  have := may_rels h r hr
  have e : o.code.data.toList.length = o.code.size := rfl
  omega
theorem patch_zero {a q : List UInt8} {n : Nat} {s : ByteArray} (h : s.size ≤ q.length) : patch (a ++ q) a.length s = a ++ s.data.toList ++ q.drop s.size := by
  unfold patch
  rw [List.take_left' rfl, List.drop_length_add_append]
theorem fillAll_codes {ss : List Sym} : ∀ (os : List ObjD) (z : L.Sz) (a q : List UInt8), a.length = z.b → q.length + z.b = (os.foldl L.grow z).b → (∀ o ∈ os, o.may = true) → fillAll ss z (a ++ q) os = (codes ss z os).map fun c => a ++ c
  | [], z, a, q, ha, hq, hm => by
    have : q = [] := List.eq_nil_of_length_eq_zero (by simp only [List.foldl_nil] at hq; omega)
    subst this
    simp [fillAll, codes]
  | o :: os, z, a, q, ha, hq, hm => by
    have hg : (L.grow z o).b = z.b + o.code.size := rfl
    have h1 := grow_mono os (L.grow z o)
    simp only [List.foldl_cons] at hq
    have hle : o.code.size ≤ q.length := by omega
    have e : o.code.data.toList.length = o.code.size := rfl
    unfold fillAll codes
    rw [show z.b = a.length from ha.symm, patch_zero (n := 0) hle, fillRels_mid ha _ _ (may_in (hm o (List.mem_cons_self ..)))]
    cases hp : patchRels ss z o.code.data.toList o.rels with
    | none => rfl
    | some c =>
      have hc := patchRels_len _ _ _ (may_in (hm o (List.mem_cons_self ..))) hp
      simp only [Option.map_some, Option.bind_some]
      rw [fillAll_codes os (L.grow z o) (a ++ c) (q.drop o.code.size) (by rw [List.length_append]; omega) (by rw [List.length_drop]; omega) (fun p hp => hm p (List.mem_cons_of_mem _ hp))]
      simp [List.append_assoc, Function.comp_def]
theorem filled_codes {os : List ObjD} (hm : ∀ o ∈ os, o.may = true) : filled os = codes (L.syms os) L.zero os := by
  unfold filled
  have := fillAll_codes (ss := L.syms os) os L.zero [] (List.replicate (L.sizes os).b 0) rfl (by simp [L.zero, L.sizes]) hm
  simp only [List.nil_append] at this
  rw [this]
  simp
theorem codes_append {ss : List Sym} : ∀ (os ps : List ObjD) (z : L.Sz), codes ss z (os ++ ps) = (codes ss z os).bind fun a => (codes ss (os.foldl L.grow z) ps).map fun c => a ++ c
  | [], ps, z => by simp [codes]
  | o :: os, ps, z => by
    simp only [List.cons_append, codes, List.foldl_cons]
    rw [codes_append os ps (L.grow z o)]
    cases patchRels ss z o.code.data.toList o.rels with
    | none => rfl
    | some c =>
      cases codes ss (L.grow z o) os with
      | none => rfl
      | some cs =>
        cases codes ss (os.foldl L.grow (L.grow z o)) ps with
        | none => rfl
        | some es => simp
theorem codes_len {ss : List Sym} : ∀ (os : List ObjD) (z : L.Sz) (c : List UInt8), (∀ o ∈ os, o.may = true) → codes ss z os = some c → c.length + z.b = (os.foldl L.grow z).b
  | [], z, c, hm, h => by simp [codes] at h; subst h; simp
  | o :: os, z, c, hm, h => by
    unfold codes at h
    cases hp : patchRels ss z o.code.data.toList o.rels with
    | none => rw [hp] at h; cases h
    | some a =>
      rw [hp] at h
      simp only [Option.bind_some] at h
      cases hq : codes ss (L.grow z o) os with
      | none => rw [hq] at h; cases h
      | some b =>
        rw [hq] at h
        simp only [Option.map_some, Option.some.injEq] at h
        subst h
        have h1 := patchRels_len _ _ _ (may_in (hm o (List.mem_cons_self ..))) hp
        have h2 := codes_len os (L.grow z o) b (fun p hp => hm p (List.mem_cons_of_mem _ hp)) hq
        have hg : (L.grow z o).b = z.b + o.code.size := rfl
        have e : o.code.data.toList.length = o.code.size := rfl
        rw [List.length_append, List.foldl_cons]
        omega
/-- Symbols that tell the same of all names that are asked for fill the same. -/
theorem patchRels_same {ss tt : List Sym} {z : L.Sz} : ∀ (rs : List Rel) (c : List UInt8), (∀ r ∈ rs, L.look ss r.name = L.look tt r.name) → patchRels ss z c rs = patchRels tt z c rs
  | [], c, _ => rfl
  | r :: rs, c, h => by
    have h1 := h r (List.mem_cons_self ..)
    unfold patchRels
    have hv : L.value ss z r = L.value tt z r := by unfold L.value; rw [h1]
    have hk : L.valueOk ss z r = L.valueOk tt z r := by unfold L.valueOk; rw [hv]
    have hf : fillS ss z r = fillS tt z r := by unfold fillS; rw [hv]
    rw [hk, hf, patchRels_same rs _ (fun q hq => h q (List.mem_cons_of_mem _ hq))]
theorem codes_same {ss tt : List Sym} : ∀ (os : List ObjD) (z : L.Sz), (∀ o ∈ os, ∀ r ∈ o.rels, L.look ss r.name = L.look tt r.name) → codes ss z os = codes tt z os
  | [], z, _ => rfl
  | o :: os, z, h => by
    unfold codes
    rw [patchRels_same _ _ (h o (List.mem_cons_self ..)), codes_same os _ (fun p hp => h p (List.mem_cons_of_mem _ hp))]
theorem ask_found {ss : List Sym} : ∀ (rs : List Rel), L.ask ss rs = 0 → ∀ r ∈ rs, L.askOne ss r = 0
  | [], _, r, hr => by cases hr
  | x :: rs, h, r, hr => by
    unfold L.ask at h
    split at h
    · rename_i h0
      rcases List.mem_cons.1 hr with rfl | hr
      · exact h0
      · exact ask_found rs h r hr
    · rename_i h0
      exact absurd h h0
theorem askOne_found {ss : List Sym} {r : Rel} (h : L.askOne ss r = 0) : ∃ s, L.look ss r.name = some s ∧ (r.kind = 2 ↔ s.kind = 2) := by
  unfold L.askOne at h
  cases e : L.look ss r.name with
  | none => rw [e] at h; simp at h
  | some s =>
    rw [e] at h
    refine ⟨s, rfl, ?_⟩
    by_cases h1 : decide (r.kind = 2) = decide (s.kind = 2)
    · simpa using h1
    · simp only [h1, if_false] at h
      cases h
/-- What an answer without an error says. -/
theorem link_ok {os : List ObjD} (h : linkE os = 0) : (os.length ≤ 16 ∧ ∀ o ∈ os, o.may = true) ∧ L.twice (L.syms os) = false ∧ (∀ r ∈ L.rels os, L.askOne (L.syms os) r = 0) ∧ L.fit (L.sizes os) = true ∧ codes (L.syms os) L.zero os = some (linkC os) ∧ linkD os = datas os ∧ linkS os = L.syms os := by
  have hh := h
  unfold linkE at h
  split at h
  · rename_i hm
    have hmm : os.length ≤ 16 ∧ ∀ o ∈ os, o.may = true := by unfold mayAll at hm; simpa using hm
    split at h
    · rename_i hl
      split at h
      · rename_i hf
        split at h
        · rename_i hs
          have ht : L.twice (L.syms os) = false := by
            cases e : L.twice (L.syms os) with
            | false => rfl
            | true => unfold layE at hl; rw [e] at hl; simp at hl
          have ha : L.ask (L.syms os) (L.rels os) = 0 := by unfold layE at hl; rw [ht] at hl; simpa using hl
          refine ⟨hmm, ht, ask_found _ ha, hf, ?_, ?_, ?_⟩
          · unfold linkC
            rw [if_pos hh, ← filled_codes hmm.2]
            cases e : filled os with
            | none => rw [e] at hs; cases hs
            | some c => rfl
          · unfold linkD; rw [if_pos hh]
          · unfold linkS; rw [if_pos hh]
        · cases h
      · cases h
    · rename_i hl
      exact absurd h hl
  · cases h
theorem look_append_some {ss tt : List Sym} {nm : ByteArray} {s : Sym} (h : L.look ss nm = some s) : L.look (ss ++ tt) nm = some s := by
  unfold L.look at *
  rw [List.find?_append, h]
  rfl
/-- An object more. -/
theorem link_more {os : List ObjD} {o : ObjD} (h1 : linkE os = 0) (h2 : linkE (os ++ [o]) = 0) : (∃ q, linkC (os ++ [o]) = linkC os ++ q ∧ q.length = o.code.size) ∧ linkD (os ++ [o]) = linkD os ++ o.data ∧ (∃ t, linkS (os ++ [o]) = linkS os ++ t) := by
  obtain ⟨a1, a2, a3, a4, a5, a6, a7⟩ := link_ok h1
  obtain ⟨b1, b2, b3, b4, b5, b6, b7⟩ := link_ok h2
  refine ⟨?_, ?_, ?_⟩
  · rw [codes_append] at b5
    have hs : codes (L.syms (os ++ [o])) L.zero os = codes (L.syms os) L.zero os := by
      apply codes_same
      intro p hp r hr
      obtain ⟨s, hs, -⟩ := askOne_found (a3 r (List.mem_flatMap.2 ⟨p, hp, hr⟩))
      rw [hs, L.syms_snoc]
      exact look_append_some hs
    rw [hs, a5] at b5
    simp only [Option.bind_some] at b5
    cases e : codes (L.syms (os ++ [o])) (os.foldl L.grow L.zero) [o] with
    | none => rw [e] at b5; cases b5
    | some q =>
      rw [e] at b5
      simp only [Option.map_some, Option.some.injEq] at b5
      refine ⟨q, b5.symm, ?_⟩
      have h3 := codes_len [o] _ q (fun p hp => b1.2 p (List.mem_append_right _ hp)) e
      simp only [List.foldl_cons, List.foldl_nil] at h3
      have hg : (L.grow (os.foldl L.grow L.zero) o).b = (os.foldl L.grow L.zero).b + o.code.size := rfl
      omega
  · rw [a6, b6]
    simp [datas]
  · rw [a7, b7, L.syms_snoc]
    exact ⟨_, rfl⟩
end Go.Proofs.Ytaoklmphcgigeaa

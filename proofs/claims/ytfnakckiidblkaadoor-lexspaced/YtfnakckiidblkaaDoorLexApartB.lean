/- What Lex makes of sources put together. -/
import Derived.Test.YtfnakckiidblkaaDoorLexApart
namespace Go.Proofs.YtfnakckiidblkaaDoor
set_option linter.unusedVariables false
set_option linter.unusedSimpArgs false

namespace X
def Self (t : Tok) : Prop := t.text ≠ [] ∧ t.kind ≠ 0 ∧ step t.text = some (t.kind, t.text.length, t.n)
theorem self_of : ∀ (f i : Nat) (l : By) (ts : List Tok), lexF f i l = some ts → ∀ t ∈ ts, Self t
  | f, i, [], ts, h => by
    rw [lexF_nil] at h
    cases h
    intro t ht
    cases ht
  | 0, i, c :: l, ts, h => by simp [lexF] at h
  | f + 1, i, c :: l, ts, h => by
    unfold lexF at h
    cases e : step (c :: l) with
    | none => rw [e] at h; simp at h
    | some q =>
      obtain ⟨k, n, v⟩ := q
      rw [e] at h
      simp only at h
      obtain ⟨us, h1, h2⟩ := Option.map_eq_some_iff.1 h
      obtain ⟨hn, hm⟩ := step_size (by simp) e
      have hg := self_of f (i + n) _ us h1
      by_cases hk : k = 0
      · rw [if_pos hk] at h2
        subst h2
        exact hg
      · rw [if_neg hk] at h2
        subst h2
        intro t ht
        rcases List.mem_cons.1 ht with rfl | ht
        · have htl : ((c :: l).take n).length = n := by rw [List.length_take]; omega
          refine ⟨fun e => ?_, hk, ?_⟩
          · have := congrArg List.length e
            simp only [htl] at this
            simp at this
            omega
          · show step ((c :: l).take n) = some (k, ((c :: l).take n).length, v)
            rw [htl]
            exact self_take e hk (by simp)
        · exact hg t ht
/-- Each token's text, a space ahead of it. -/
def sp (ts : List Tok) : By := ts.flatMap fun t => 32 :: t.text
theorem sp_head (ts : List Tok) : ∃ r, sp ts ++ [32] = 32 :: r := by
  cases ts with
  | nil => exact ⟨[], rfl⟩
  | cons t ts => exact ⟨t.text ++ (sp ts ++ [32]), by simp [sp]⟩
theorem self_note {t : Tok} (h : Self t) : ¬ (first t.text = 47 ∧ first (t.text.drop 1) = 47) := fun ⟨h1, h2⟩ => by
  have h3 := h.2.2
  rw [step_eq, h1, h2] at h3
  simp [stepX] at h3
  exact h.2.1 h3.1.symm
def core (t : Tok) : Nat × By × Nat := (t.kind, t.text, t.n)
theorem lexF_spaced : ∀ (ts : List Tok) (i : Nat), (∀ t ∈ ts, Self t) → ∃ us, lexF (sp ts ++ [32]).length i (sp ts ++ [32]) = some us ∧ us.map core = ts.map core
  | [], i, _ => ⟨[], by show lexF [32].length i [32] = _; rw [lexF_blank (Or.inr (Or.inl rfl)), lexF_nil], rfl⟩
  | t :: ts, i, h => by
    obtain ⟨r, hr⟩ := sp_head ts
    have ht := h t (by simp)
    obtain ⟨us, h1, h2⟩ := lexF_spaced ts (i + 1 + t.text.length) (fun u hu => h u (by simp [hu]))
    refine ⟨⟨t.kind, t.text, t.n, i + 1⟩ :: us, ?_, by simp [core, h2]⟩
    have hsp : sp (t :: ts) ++ [32] = 32 :: (t.text ++ (sp ts ++ [32])) := by simp [sp]
    have hne : t.text ++ (sp ts ++ [32]) ≠ [] := by simp
    have hst : step (t.text ++ (sp ts ++ [32])) = some (t.kind, t.text.length, t.n) := by
      rw [hr, step_sep ht.1 (Or.inr ⟨rfl, self_note ht⟩)]
      exact ht.2.2
    rw [hsp, lexF_blank (Or.inr (Or.inl rfl)), lexF_step hne, hst]
    simp only
    rw [List.drop_left, List.take_left, h1]
    simp [ht.2.1]
theorem lex_parts {l : By} {L : List Tok} (h : X.lex l = (L, 0)) : l.length ≤ 20000 ∧ ∃ ts, lexF l.length 0 l = some ts ∧ L = ts ++ [⟨0, [], 0, l.length⟩] ∧ ts.length + 1 ≤ 4000 := by
  unfold X.lex at h
  split at h
  · cases h
  split at h
  · cases h
  · rename_i ts hts
    split at h
    · cases h
    · injection h with h _
      exact ⟨by omega, ts, hts, h.symm, by omega⟩
theorem lex_make {l : By} {ts : List Tok} (hl : l.length ≤ 20000) (h : lexF l.length 0 l = some ts) (hn : ts.length + 1 ≤ 4000) : X.lex l = (ts ++ [⟨0, [], 0, l.length⟩], 0) := by
  unfold X.lex
  rw [if_neg (by omega), h]
  simp only
  rw [if_neg (by omega)]
theorem lex_spaced {l : By} {L : List Tok} (h : X.lex l = (L, 0)) (hb : (sp L).length ≤ 20000) : ∃ M, X.lex (sp L) = (M, 0) ∧ M.map core = L.map core := by
  obtain ⟨-, ts, h1, rfl, h2⟩ := lex_parts h
  obtain ⟨us, h3, h4⟩ := lexF_spaced ts 0 (self_of _ _ _ _ h1)
  have hsp : sp (ts ++ [⟨0, [], 0, l.length⟩]) = sp ts ++ [32] := by simp [sp]
  rw [hsp] at hb ⊢
  have hlen : us.length = ts.length := by have := congrArg List.length h4; simpa using this
  refine ⟨_, lex_make hb h3 (by omega), ?_⟩
  rw [List.map_append, List.map_append, h4]
  rfl
theorem lex_joined {s t : By} {A B : List Tok} (hs : X.lex s = (A, 0)) (ht : X.lex t = (B, 0)) (h1 : s.length ≤ 9500) (h2 : t.length ≤ 9500) (h3 : A.length ≤ 1900) (h4 : B.length ≤ 1900) :
    X.lex (s ++ 10 :: t) = (A.take (A.length - 1) ++ B.map (shift (s.length + 1)), 0) := by
  obtain ⟨-, ts, e1, rfl, e2⟩ := lex_parts hs
  obtain ⟨-, us, f1, rfl, f2⟩ := lex_parts ht
  have hj := lexF_join t s.length s 0 (Nat.le_refl _)
  rw [e1] at hj
  simp only at hj
  have hsh := lexF_shift (0 + s.length + 1) t.length 0 t
  rw [Nat.zero_add] at hsh
  rw [show 0 + s.length + 1 = s.length + 1 by omega] at hsh hj
  rw [hsh, f1] at hj
  simp only [Option.map_some] at hj
  simp only [List.length_append, List.length_singleton] at h3 h4
  rw [lex_make (by simp; omega) hj (by simp; omega)]
  have h5 : (ts ++ [(⟨0, [], 0, s.length⟩ : Tok)]).take ((ts ++ [(⟨0, [], 0, s.length⟩ : Tok)]).length - 1) = ts := by simp
  rw [h5]
  simp [shift]
  omega
theorem note_all {l : By} (h : ∀ c ∈ l, c.toNat ≠ 10) : note l = l.length := by
  unfold note
  exact (all_span _ l).2 (List.all_eq_true.2 fun c hc => by simpa using h c hc)
theorem lexF_tail {nt : By} (h : ∀ c ∈ nt, c.toNat ≠ 10) (i : Nat) : lexF (32 :: 9 :: 47 :: 47 :: nt).length i (32 :: 9 :: 47 :: 47 :: nt) = some [] := by
  have hst : step (47 :: 47 :: nt) = some (0, (47 :: 47 :: nt : By).length, 0) := by
    rw [step_eq]
    have h1 : first (47 :: 47 :: nt : By) = 47 := rfl
    have h2 : first ((47 :: 47 :: nt : By).drop 1) = 47 := rfl
    rw [h1, h2, note_all (l := 47 :: 47 :: nt) (by
      intro c hc
      rcases List.mem_cons.1 hc with rfl | hc
      · decide
      rcases List.mem_cons.1 hc with rfl | hc
      · decide
      · exact h c hc)]
    simp [stepX]
  rw [lexF_blank (Or.inr (Or.inl rfl)), lexF_blank (Or.inr (Or.inr rfl)), lexF_step (by simp), hst]
  simp only
  rw [List.drop_length, lexF_nil]
  rfl
theorem lex_end' {s nt : By} (h1 : s.length ≤ 19000) (h2 : nt.length ≤ 500) (h : ∀ c ∈ nt, c.toNat ≠ 10) :
    (∃ z, z ≠ 0 ∧ X.lex s = ([], z) ∧ X.lex (s ++ 10 :: 32 :: 9 :: 47 :: 47 :: nt) = ([], z)) ∨ ∃ ts, X.lex s = (ts ++ [⟨0, [], 0, s.length⟩], 0) ∧ X.lex (s ++ 10 :: 32 :: 9 :: 47 :: 47 :: nt) = (ts ++ [⟨0, [], 0, (s ++ 10 :: 32 :: 9 :: 47 :: 47 :: nt).length⟩], 0) := by
  have hj := lexF_join (32 :: 9 :: 47 :: 47 :: nt) s.length s 0 (Nat.le_refl _)
  rw [lexF_tail h] at hj
  have hl : (s ++ 10 :: 32 :: 9 :: 47 :: 47 :: nt).length ≤ 20000 := by simp; omega
  generalize s ++ 10 :: 32 :: 9 :: 47 :: 47 :: nt = t at *
  cases e : lexF s.length 0 s with
  | none =>
    rw [e] at hj
    left
    refine ⟨2, by decide, ?_, ?_⟩
    · unfold X.lex; rw [if_neg (by omega), e]
    · unfold X.lex; rw [if_neg (by omega), hj]
  | some ts =>
    rw [e] at hj
    simp only [Option.map_some, List.append_nil] at hj
    by_cases hn : ts.length + 1 ≤ 4000
    · right
      exact ⟨ts, lex_make (by omega) e hn, lex_make hl hj hn⟩
    · left
      refine ⟨8, by decide, ?_, ?_⟩
      · unfold X.lex; rw [if_neg (by omega), e]; simp only; rw [if_pos (by omega)]
      · unfold X.lex; rw [if_neg (by omega), hj]; simp only; rw [if_pos (by omega)]
end X
end Go.Proofs.YtfnakckiidblkaaDoor

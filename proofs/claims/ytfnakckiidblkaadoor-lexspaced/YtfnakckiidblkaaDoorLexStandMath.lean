/- Each token's text stands where it says, and they rise. -/
import Derived.Test.YtfnakckiidblkaaDoorLexSame
namespace Go.Proofs.YtfnakckiidblkaaDoor
set_option linter.unusedVariables false
set_option linter.unusedSimpArgs false

namespace X
def Good (l : By) : Nat → List Tok → Prop
  | _, [] => True
  | e, t :: ts => e ≤ t.at' ∧ t.at' + t.text.length ≤ l.length ∧ (l.drop t.at').take t.text.length = t.text ∧ t.kind ≠ 0 ∧ Good l (t.at' + t.text.length) ts
theorem Good.mono {l : By} {e e' : Nat} {ts : List Tok} (h : Good l e' ts) (he : e ≤ e') : Good l e ts := by
  cases ts with
  | nil => trivial
  | cons t ts => exact ⟨Nat.le_trans he h.1, h.2⟩
theorem good_of : ∀ (f i : Nat) (l : By) (ts : List Tok), i ≤ l.length → lexF f i (l.drop i) = some ts → Good l i ts
  | f, i, l, ts, hi, h => by
    cases hd : l.drop i with
    | nil =>
      rw [hd] at h
      unfold lexF at h
      cases h
      trivial
    | cons c r =>
      rw [hd] at h
      cases f with
      | zero => simp [lexF] at h
      | succ f =>
        unfold lexF at h
        cases e : step (c :: r) with
        | none => rw [e] at h; simp at h
        | some q =>
          obtain ⟨k, n, v⟩ := q
          rw [e] at h
          simp only at h
          obtain ⟨us, h1, h2⟩ := Option.map_eq_some_iff.1 h
          obtain ⟨hn, hm⟩ := step_size (by simp) e
          have hlen : (c :: r).length = l.length - i := by rw [← hd, List.length_drop]
          rw [← hd, List.drop_drop] at h1
          have hg := good_of f (i + n) l us (by omega) h1
          by_cases hk : k = 0
          · rw [if_pos hk] at h2
            subst h2
            exact hg.mono (by omega)
          · rw [if_neg hk] at h2
            subst h2
            have htl : ((c :: r).take n).length = n := by rw [List.length_take]; omega
            refine ⟨Nat.le_refl _, ?_, ?_, hk, ?_⟩
            · show i + ((c :: r).take n).length ≤ _
              omega
            · show (l.drop i).take ((c :: r).take n).length = (c :: r).take n
              rw [htl, hd]
            · show Good l (i + ((c :: r).take n).length) us
              rw [htl]
              exact hg
/-- Where the tokens ahead of the k-th end. -/
def ends (L : List Tok) (k : Nat) : Nat := if k = 0 then 0 else (L.getD (k - 1) noTok).at' + (L.getD (k - 1) noTok).text.length
structure Std (l : By) (L : List Tok) : Prop where
  ne : 0 < L.length
  last : (L.getD (L.length - 1) noTok).at' = l.length
  each : ∀ k, k < L.length → ends L k ≤ (L.getD k noTok).at' ∧ (L.getD k noTok).at' + (L.getD k noTok).text.length ≤ l.length ∧ (l.drop (L.getD k noTok).at').take (L.getD k noTok).text.length = (L.getD k noTok).text ∧ ((L.getD k noTok).kind = 0 ↔ k = L.length - 1)
theorem good_each {l : By} : ∀ (ts : List Tok) (e k : Nat), Good l e ts → k ≤ ts.length → (if k = 0 then e else (ts.getD (k - 1) noTok).at' + (ts.getD (k - 1) noTok).text.length) ≤ ((ts ++ [(⟨0, [], 0, l.length⟩ : Tok)]).getD k noTok).at' ∨ ¬ e ≤ l.length
  | [], e, k, h, hk => by
    have : k = 0 := by simpa using hk
    subst this
    simp
    omega
  | t :: ts, e, 0, h, hk => by
    left
    simp
    exact h.1
  | t :: ts, e, k + 1, h, hk => by
    have hk' : k ≤ ts.length := by simpa using hk
    rcases good_each ts _ k h.2.2.2.2 hk' with h1 | h1
    · left
      cases k with
      | zero => simpa using h1
      | succ k => simpa using h1
    · exact absurd h.2.1 h1
theorem good_at {l : By} : ∀ (ts : List Tok) (e k : Nat), Good l e ts → k < ts.length → (ts.getD k noTok).at' + (ts.getD k noTok).text.length ≤ l.length ∧ (l.drop (ts.getD k noTok).at').take (ts.getD k noTok).text.length = (ts.getD k noTok).text ∧ (ts.getD k noTok).kind ≠ 0
  | [], e, k, h, hk => by simp at hk
  | t :: ts, e, 0, h, hk => ⟨h.2.1, h.2.2.1, h.2.2.2.1⟩
  | t :: ts, e, k + 1, h, hk => good_at ts _ k h.2.2.2.2 (by simpa using hk)
theorem std_of {l : By} {L : List Tok} (h : X.lex l = (L, 0)) : Std l L := by
  unfold X.lex at h
  split at h
  · cases h
  split at h
  · cases h
  · rename_i ts hts
    split at h
    · cases h
    · injection h with h _
      have hg := good_of l.length 0 l ts (by omega) (by simpa using hts)
      subst h
      have hlen : (ts ++ [(⟨0, [], 0, l.length⟩ : Tok)]).length = ts.length + 1 := by simp
      refine ⟨by omega, ?_, fun k hk => ?_⟩
      · rw [hlen]
        simp [List.getD]
      · rw [hlen] at hk ⊢
        have h1 := good_each ts 0 k hg (by omega)
        have h1' : ends (ts ++ [(⟨0, [], 0, l.length⟩ : Tok)]) k ≤ ((ts ++ [(⟨0, [], 0, l.length⟩ : Tok)]).getD k noTok).at' := by
          rcases h1 with h1 | h1
          · unfold ends
            by_cases h0 : k = 0
            · rw [if_pos h0] at h1 ⊢
              exact h1
            · rw [if_neg h0] at h1 ⊢
              have : (ts ++ [(⟨0, [], 0, l.length⟩ : Tok)]).getD (k - 1) noTok = ts.getD (k - 1) noTok := by
                simp [List.getD, List.getElem?_append_left (show k - 1 < ts.length by omega)]
              rw [this]
              exact h1
          · omega
        refine ⟨h1', ?_⟩
        by_cases h0 : k < ts.length
        · have : (ts ++ [(⟨0, [], 0, l.length⟩ : Tok)]).getD k noTok = ts.getD k noTok := by
            simp [List.getD, List.getElem?_append_left h0]
          rw [this]
          obtain ⟨g1, g2, g3⟩ := good_at ts 0 k hg h0
          exact ⟨g1, g2, ⟨fun e => absurd e g3, fun e => by omega⟩⟩
        · obtain rfl : k = ts.length := by omega
          have : (ts ++ [(⟨0, [], 0, l.length⟩ : Tok)]).getD ts.length noTok = ⟨0, [], 0, l.length⟩ := by simp [List.getD]
          rw [this]
          simp
theorem lex_no {l : By} {L : List Tok} {z : Nat} (h : X.lex l = (L, z)) (hz : z ≠ 0) : L = [] := by
  unfold X.lex at h
  split at h
  · cases h; rfl
  split at h
  · cases h; rfl
  · split at h
    · cases h; rfl
    · cases h; exact absurd rfl hz
theorem lex_codes {l : By} {L : List Tok} {z : Nat} (h : X.lex l = (L, z)) : z = 0 ∨ z = 2 ∨ z = 8 := by
  unfold X.lex at h
  split at h
  · cases h; simp
  split at h
  · cases h; simp
  · split at h
    · cases h; simp
    · cases h; simp
end X
end Go.Proofs.YtfnakckiidblkaaDoor

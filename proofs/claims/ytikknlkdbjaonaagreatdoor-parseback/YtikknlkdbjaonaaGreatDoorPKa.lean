/- Each token's text stands where it says, and they rise. -/
import Derived.Test.YtikknlkdbjaonaaGreatDoorPBAa
import Derived.Test.YtikknlkdbjaonaaGreatDoorPBAk
import Derived.Test.YtikknlkdbjaonaaGreatDoorPBAn
namespace Go.Proofs.YtikknlkdbjaonaaGreatDoor
set_option linter.unusedVariables false
set_option linter.unusedSimpArgs false

abbrev noTok : X.Tok := ⟨0, [], 0, 0⟩
namespace X
def Good (l : By) : Nat → List Tok → Prop
  | _, [] => True
  | e, t :: ts => e ≤ t.at' ∧ t.at' + t.text.length ≤ l.length ∧ (l.drop t.at').take t.text.length = t.text ∧ t.kind ≠ 0 ∧ Good l (t.at' + t.text.length) ts
theorem Good.mono {l : By} {e e' : Nat} {ts : List Tok} (h : Good l e' ts) (he : e ≤ e') : Good l e ts := by
  cases ts with
  | nil => trivial
  | cons t ts => exact ⟨Nat.le_trans he h.1, h.2⟩
theorem good_of : ∀ (f i : Nat) (l : By) (ts : List Tok), i ≤ l.length → lexF f i (l.drop i) = some ts → Good l i ts
  | f, i, l, ts, hi, h => by
    cases hd : l.drop i with
    | nil =>
      rw [hd] at h
      unfold lexF at h
      cases h
      trivial
    | cons c r =>
      rw [hd] at h
      cases f with
      | zero => simp [lexF] at h
      | succ f =>
        unfold lexF at h
        cases e : step (c :: r) with
        | none => rw [e] at h; simp at h
        | some q =>
          obtain ⟨k, n, v⟩ := q
          rw [e] at h
          simp only at h
          obtain ⟨us, h1, h2⟩ := Option.map_eq_some_iff.1 h
          obtain ⟨hn, hm⟩ := step_size (by simp) e
          have hlen : (c :: r).length = l.length - i := by rw [← hd, List.length_drop]
          rw [← hd, List.drop_drop] at h1
          have hg := good_of f (i + n) l us (by omega) h1
          by_cases hk : k = 0
          · rw [if_pos hk] at h2
            subst h2
            exact hg.mono (by omega)
          · rw [if_neg hk] at h2
            subst h2
            have htl : ((c :: r).take n).length = n := by rw [List.length_take]; omega
            refine ⟨Nat.le_refl _, ?_, ?_, hk, ?_⟩
            · show i + ((c :: r).take n).length ≤ _
              omega
            · show (l.drop i).take ((c :: r).take n).length = (c :: r).take n
              rw [htl, hd]
            · show Good l (i + ((c :: r).take n).length) us
              rw [htl]
              exact hg
/-- Where the tokens ahead of the k-th end. -/
def ends (L : List Tok) (k : Nat) : Nat := if k = 0 then 0 else (L.getD (k - 1) noTok).at' + (L.getD (k - 1) noTok).text.length
structure Std (l : By) (L : List Tok) : Prop where
  ne : 0 < L.length
  last : (L.getD (L.length - 1) noTok).at' = l.length
  each : ∀ k, k < L.length → ends L k ≤ (L.getD k noTok).at' ∧ (L.getD k noTok).at' + (L.getD k noTok).text.length ≤ l.length ∧ (l.drop (L.getD k noTok).at').take (L.getD k noTok).text.length = (L.getD k noTok).text ∧ ((L.getD k noTok).kind = 0 ↔ k = L.length - 1)
theorem good_each {l : By} : ∀ (ts : List Tok) (e k : Nat), Good l e ts → k ≤ ts.length → (if k = 0 then e else (ts.getD (k - 1) noTok).at' + (ts.getD (k - 1) noTok).text.length) ≤ ((ts ++ [(⟨0, [], 0, l.length⟩ : Tok)]).getD k noTok).at' ∨ ¬ e ≤ l.length
  | [], e, k, h, hk => by
    have : k = 0 := by simpa using hk
    subst this
    simp
    omega
  | t :: ts, e, 0, h, hk => by
    left
    simp
    exact h.1
  | t :: ts, e, k + 1, h, hk => by
    have hk' : k ≤ ts.length := by simpa using hk
    rcases good_each ts _ k h.2.2.2.2 hk' with h1 | h1
    · left
      cases k with
      | zero => simpa using h1
      | succ k => simpa using h1
    · exact absurd h.2.1 h1
theorem good_at {l : By} : ∀ (ts : List Tok) (e k : Nat), Good l e ts → k < ts.length → (ts.getD k noTok).at' + (ts.getD k noTok).text.length ≤ l.length ∧ (l.drop (ts.getD k noTok).at').take (ts.getD k noTok).text.length = (ts.getD k noTok).text ∧ (ts.getD k noTok).kind ≠ 0
  | [], e, k, h, hk => by simp at hk
  | t :: ts, e, 0, h, hk => ⟨h.2.1, h.2.2.1, h.2.2.2.1⟩
  | t :: ts, e, k + 1, h, hk => good_at ts _ k h.2.2.2.2 (by simpa using hk)
theorem std_of {l : By} {L : List Tok} (h : X.lex l = (L, 0)) : Std l L := by
  unfold X.lex at h
  split at h
  · cases h
  split at h
  · cases h
  · rename_i ts hts
    split at h
    · cases h
    · injection h with h _
      have hg := good_of l.length 0 l ts (by omega) (by simpa using hts)
      subst h
      have hlen : (ts ++ [(⟨0, [], 0, l.length⟩ : Tok)]).length = ts.length + 1 := by simp
      refine ⟨by omega, ?_, fun k hk => ?_⟩
      · rw [hlen]
        simp [List.getD]
      · rw [hlen] at hk ⊢
        have h1 := good_each ts 0 k hg (by omega)
        have h1' : ends (ts ++ [(⟨0, [], 0, l.length⟩ : Tok)]) k ≤ ((ts ++ [(⟨0, [], 0, l.length⟩ : Tok)]).getD k noTok).at' := by
          rcases h1 with h1 | h1
          · unfold ends
            by_cases h0 : k = 0
            · rw [if_pos h0] at h1 ⊢
              exact h1
            · rw [if_neg h0] at h1 ⊢
              have : (ts ++ [(⟨0, [], 0, l.length⟩ : Tok)]).getD (k - 1) noTok = ts.getD (k - 1) noTok := by
                simp [List.getD, List.getElem?_append_left (show k - 1 < ts.length by omega)]
              rw [this]
              exact h1
          · omega
        refine ⟨h1', ?_⟩
        by_cases h0 : k < ts.length
        · have : (ts ++ [(⟨0, [], 0, l.length⟩ : Tok)]).getD k noTok = ts.getD k noTok := by
            simp [List.getD, List.getElem?_append_left h0]
          rw [this]
          obtain ⟨g1, g2, g3⟩ := good_at ts 0 k hg h0
          exact ⟨g1, g2, ⟨fun e => absurd e g3, fun e => by omega⟩⟩
        · obtain rfl : k = ts.length := by omega
          have : (ts ++ [(⟨0, [], 0, l.length⟩ : Tok)]).getD ts.length noTok = ⟨0, [], 0, l.length⟩ := by simp [List.getD]
          rw [this]
          simp
theorem lex_no {l : By} {L : List Tok} {z : Nat} (h : X.lex l = (L, z)) (hz : z ≠ 0) : L = [] := by
  unfold X.lex at h
  split at h
  · cases h; rfl
  split at h
  · cases h; rfl
  · split at h
    · cases h; rfl
    · cases h; exact absurd rfl hz
theorem lex_codes {l : By} {L : List Tok} {z : Nat} (h : X.lex l = (L, z)) : z = 0 ∨ z = 2 ∨ z = 8 := by
  unfold X.lex at h
  split at h
  · cases h; simp
  split at h
  · cases h; simp
  · split at h
    · cases h; simp
    · cases h; simp
end X
end Go.Proofs.YtikknlkdbjaonaaGreatDoor

/- Sources one behind the other, with a blank between. -/
namespace Go.Proofs.YtikknlkdbjaonaaGreatDoor
set_option linter.unusedVariables false
set_option linter.unusedSimpArgs false

namespace X
def stepX (x y nt : Nat) (nu wo : Option (Nat × Nat × Nat)) : Option (Nat × Nat × Nat) :=
  if x = 32 ∨ x = 9 ∨ x = 10 then some (0, 1, 0)
  else if x = 38 ∨ x = 124 then some (4, if y = x then 2 else 1, 0)
  else if x = 60 ∨ x = 62 then some (4, if y = x ∨ y = 61 then 2 else 1, 0)
  else if x = 61 ∨ x = 33 then some (4, if y = 61 then 2 else 1, 0)
  else if x = 47 then (if y = 47 then some (0, nt, 0) else some (4, 1, 0))
  else if sgn x = true then some (4, 1, 0)
  else if dg x = true then nu
  else wo
theorem step_eq (l : By) : step l = stepX (first l) (first (l.drop 1)) (note l) (number l) (wordOrName l) := rfl
theorem stepX_eq {x y y' nt nt' : Nat} {nu wo : Option (Nat × Nat × Nat)} (hy : y' = y ∨ (y = 0 ∧ (y' = 0 ∨ y' = 10 ∨ y' = 32))) (hn : x = 47 → y = 47 → nt' = nt) : stepX x y' nt' nu wo = stepX x y nt nu wo := by
  rcases hy with rfl | ⟨rfl, hy⟩
  · by_cases h : x = 47 ∧ y' = 47
    · rw [hn h.1 h.2]
    · unfold stepX
      by_cases h1 : x = 47
      · have h2 : ¬ y' = 47 := fun e => h ⟨h1, e⟩
        simp [h1, h2]
      · simp [h1]
  · unfold stepX
    by_cases h1 : x = 32 ∨ x = 9 ∨ x = 10
    · rw [if_pos h1, if_pos h1]
    rw [if_neg h1, if_neg h1]
    by_cases h2 : x = 38 ∨ x = 124
    · rw [if_pos h2, if_pos h2, if_neg (by omega), if_neg (by omega)]
    rw [if_neg h2, if_neg h2]
    by_cases h3 : x = 60 ∨ x = 62
    · rw [if_pos h3, if_pos h3, if_neg (by omega), if_neg (by omega)]
    rw [if_neg h3, if_neg h3]
    by_cases h4 : x = 61 ∨ x = 33
    · rw [if_pos h4, if_pos h4, if_neg (by omega), if_neg (by omega)]
    rw [if_neg h4, if_neg h4]
    by_cases h5 : x = 47
    · rw [if_pos h5, if_pos h5, if_neg (by omega), if_neg (by omega)]
    rw [if_neg h5, if_neg h5]
theorem tw_append (p : UInt8 → Bool) {c : UInt8} (hc : p c = false) (l t : By) : (l ++ c :: t).takeWhile p = l.takeWhile p := by
  induction l with
  | nil => simp [List.takeWhile_cons, hc]
  | cons a l ih =>
    cases h : p a
    · simp [List.takeWhile_cons, h]
    · simp [List.takeWhile_cons, h, ih]
theorem first_append {l t : By} (hl : l ≠ []) : first (l ++ t) = first l := by
  cases l with
  | nil => exact absurd rfl hl
  | cons a l => rfl
theorem second_append {l t : By} {c : UInt8} (hl : l ≠ []) (hc : c.toNat = 10 ∨ c.toNat = 32) : first ((l ++ c :: t).drop 1) = first (l.drop 1) ∨ (first (l.drop 1) = 0 ∧ (first ((l ++ c :: t).drop 1) = 0 ∨ first ((l ++ c :: t).drop 1) = 10 ∨ first ((l ++ c :: t).drop 1) = 32)) := by
  match l, hl with
  | [a], _ => right; refine ⟨rfl, ?_⟩; show c.toNat = 0 ∨ c.toNat = 10 ∨ c.toNat = 32; omega
  | a :: b :: l, _ => left; rfl
/-- A line feed behind a source, or a space behind what begins no note, turns nothing of what it begins with. -/
theorem step_sep {l t : By} {c : UInt8} (hl : l ≠ []) (hc : c.toNat = 10 ∨ (c.toNat = 32 ∧ ¬ (first l = 47 ∧ first (l.drop 1) = 47))) : step (l ++ c :: t) = step l := by
  have hcc : c.toNat = 10 ∨ c.toNat = 32 := by omega
  have hpd : pd c = false := by rcases hcc with h | h <;> simp [pd, dg, h]
  have hpin : pin c = false := by rcases hcc with h | h <;> simp [pin, inn, lt, dg, h]
  have e1 : number (l ++ c :: t) = number l := by unfold number span; rw [tw_append pd hpd, tw_append pin hpin]
  have e2 : wordOrName (l ++ c :: t) = wordOrName l := by unfold wordOrName span; rw [tw_append pin hpin]
  rw [step_eq, step_eq l, first_append hl, e1, e2]
  refine stepX_eq (second_append hl hcc) fun h1 h2 => ?_
  rcases hc with h | h
  · unfold note span
    rw [tw_append _ (by simp [h])]
  · exact absurd ⟨h1, h2⟩ h.2
theorem step_blank {c : UInt8} {t : By} (hc : c.toNat = 10 ∨ c.toNat = 32 ∨ c.toNat = 9) : step (c :: t) = some (0, 1, 0) := by
  rw [step_eq]
  have : first (c :: t) = c.toNat := rfl
  rw [this]
  unfold stepX
  rw [if_pos (by omega)]
theorem lexF_nil (f i : Nat) : lexF f i [] = some [] := by unfold lexF; rfl
theorem lexF_blank {c : UInt8} {t : By} {i : Nat} (hc : c.toNat = 10 ∨ c.toNat = 32 ∨ c.toNat = 9) : lexF (c :: t).length i (c :: t) = lexF t.length (i + 1) t := by
  rw [lexF_step (by simp), step_blank hc]
  simp
/-- Two sources with a line feed between. -/
theorem lexF_join (t : By) : ∀ (n : Nat) (l : By) (i : Nat), l.length ≤ n → lexF (l ++ 10 :: t).length i (l ++ 10 :: t) = match lexF l.length i l with
    | none => none
    | some ts => (lexF t.length (i + l.length + 1) t).map (ts ++ ·)
  | _, [], i, _ => by
    rw [List.nil_append, lexF_blank (Or.inl rfl), lexF_nil]
    simp
  | 0, c :: l, i, h => by simp at h
  | n + 1, c :: l, i, h => by
    have hne : (c :: l) ≠ [] := by simp
    rw [lexF_step (by simp), lexF_step hne, step_sep hne (Or.inl rfl)]
    cases e : step (c :: l) with
    | none => rfl
    | some q =>
      obtain ⟨k, m, v⟩ := q
      obtain ⟨hn, hm⟩ := step_size hne e
      have hd : ((c :: l) ++ 10 :: t).drop m = (c :: l).drop m ++ 10 :: t := by rw [List.drop_append_of_le_length hm]
      have htk : ((c :: l) ++ 10 :: t).take m = (c :: l).take m := by rw [List.take_append_of_le_length hm]
      simp only
      rw [hd, htk, lexF_join t n ((c :: l).drop m) (i + m) (by simp at h ⊢; omega)]
      cases lexF ((c :: l).drop m).length (i + m) ((c :: l).drop m) with
      | none => rfl
      | some us =>
        have hlen : i + m + ((c :: l).drop m).length + 1 = i + (c :: l).length + 1 := by rw [List.length_drop]; omega
        simp only [Option.map_some]
        rw [hlen]
        cases lexF t.length (i + (c :: l).length + 1) t with
        | none => rfl
        | some vs => by_cases hk : k = 0 <;> simp [hk]
def shift (d : Nat) (t : Tok) : Tok := ⟨t.kind, t.text, t.n, t.at' + d⟩
theorem lexF_shift (d : Nat) : ∀ (f i : Nat) (l : By), lexF f (i + d) l = (lexF f i l).map (List.map (shift d))
  | f, i, [] => by rw [lexF_nil, lexF_nil]; rfl
  | 0, i, c :: l => rfl
  | f + 1, i, c :: l => by
    unfold lexF
    cases e : step (c :: l) with
    | none => rfl
    | some q =>
      obtain ⟨k, n, v⟩ := q
      simp only
      rw [show i + d + n = i + n + d by omega, lexF_shift d f (i + n) _, Option.map_map, Option.map_map]
      congr 1
      funext us
      by_cases hk : k = 0 <;> simp [hk, shift]

/-! ### A token alone -/
theorem first_take' {l : By} {n : Nat} (hn : 1 ≤ n) : first (l.take n) = first l := by
  cases l with
  | nil => simp
  | cons c l => cases n with
    | zero => omega
    | succ n => rfl
theorem tw_tw (p : UInt8 → Bool) (l : By) : (l.takeWhile p).takeWhile p = l.takeWhile p := by
  induction l with
  | nil => rfl
  | cons a l ih => cases h : p a <;> simp [List.takeWhile_cons, h, ih]
theorem tw_sub (p q : UInt8 → Bool) (hpq : ∀ c, p c = true → q c = true) (l : By) : (l.takeWhile p).takeWhile q = l.takeWhile p := by
  induction l with
  | nil => rfl
  | cons a l ih =>
    cases h : p a
    · simp [List.takeWhile_cons, h]
    · simp [List.takeWhile_cons, h, hpq a h, ih]
theorem self_take {l : By} {k n v : Nat} (h : step l = some (k, n, v)) (hk : k ≠ 0) (hl : l ≠ []) : step (l.take n) = some (k, n, v) := by
  obtain ⟨hn1, hn2⟩ := step_size hl h
  have hf := first_take' (l := l) hn1
  rw [step_eq] at h
  rw [step_eq, hf]
  generalize hx : first l = x at *
  have hy2 : n = 2 → first ((l.take n).drop 1) = first (l.drop 1) := fun e => by
    subst e
    match l, hn2 with
    | a :: b :: r, _ => rfl
  have hy1 : n = 1 → first ((l.take n).drop 1) = 0 := fun e => by
    subst e
    match l, hl with
    | a :: r, _ => rfl
  unfold stepX at h ⊢
  split at h
  · simp only [Option.some.injEq, Prod.mk.injEq] at h; exact absurd h.1.symm hk
  rw [if_neg ‹_›]
  split at h
  · rename_i hc
    rw [if_pos hc]
    simp only [Option.some.injEq, Prod.mk.injEq] at h ⊢
    refine ⟨h.1, ?_, h.2.2⟩
    split at h
    · rw [hy2 h.2.1.symm, if_pos ‹_›]; exact h.2.1
    · rw [hy1 h.2.1.symm, if_neg (by omega)]; exact h.2.1
  rw [if_neg ‹_›]
  split at h
  · rename_i hc
    rw [if_pos hc]
    simp only [Option.some.injEq, Prod.mk.injEq] at h ⊢
    refine ⟨h.1, ?_, h.2.2⟩
    split at h
    · rw [hy2 h.2.1.symm, if_pos ‹_›]; exact h.2.1
    · rw [hy1 h.2.1.symm, if_neg (by omega)]; exact h.2.1
  rw [if_neg ‹_›]
  split at h
  · rename_i hc
    rw [if_pos hc]
    simp only [Option.some.injEq, Prod.mk.injEq] at h ⊢
    refine ⟨h.1, ?_, h.2.2⟩
    split at h
    · rw [hy2 h.2.1.symm, if_pos ‹_›]; exact h.2.1
    · rw [hy1 h.2.1.symm, if_neg (by omega)]; exact h.2.1
  rw [if_neg ‹_›]
  split at h
  · rename_i hc
    rw [if_pos hc]
    split at h
    · simp only [Option.some.injEq, Prod.mk.injEq] at h; exact absurd h.1.symm hk
    · simp only [Option.some.injEq, Prod.mk.injEq] at h ⊢
      rw [hy1 h.2.1.symm, if_neg (by omega)]
      simp only [Option.some.injEq, Prod.mk.injEq]
      exact h
  rw [if_neg ‹_›]
  split at h
  · rw [if_pos ‹_›]; exact h
  rw [if_neg ‹_›]
  split at h
  · rw [if_pos ‹_›]
    unfold number at h ⊢
    split at h
    · rename_i hc
      simp only [Option.some.injEq, Prod.mk.injEq] at h
      have ht : l.take n = l.takeWhile pd := by rw [← h.2.1, ← takeWhile_eq]
      have e1 : (l.take n).takeWhile pd = l.takeWhile pd := by rw [ht, tw_tw]
      have e2 : (l.take n).takeWhile pin = l.takeWhile pd := by rw [ht]; exact tw_sub pd pin (fun c h => inn_of_dg h) l
      unfold span at h hc ⊢
      rw [e1, e2, if_pos ⟨hc.1, Nat.le_refl _⟩]
      simp only [Option.some.injEq, Prod.mk.injEq]
      exact h
    · cases h
  · rw [if_neg ‹_›]
    unfold wordOrName at h ⊢
    have key : span pin l = n → (l.take n).takeWhile pin = l.takeWhile pin := fun e => by rw [← e, ← takeWhile_eq, tw_tw]
    split at h
    · rename_i hc
      simp only [Option.some.injEq, Prod.mk.injEq] at h
      have e1 := key h.2.1
      unfold span at h ⊢
      rw [e1, if_pos hc]
      simp only [Option.some.injEq, Prod.mk.injEq]
      exact h
    · rename_i hc
      split at h
      · rename_i hc2
        simp only [Option.some.injEq, Prod.mk.injEq] at h
        have e1 := key h.2.1
        unfold span at h ⊢
        rw [e1, if_neg hc, if_pos hc2]
        simp only [Option.some.injEq, Prod.mk.injEq]
        exact h
      · cases h
end X
end Go.Proofs.YtikknlkdbjaonaaGreatDoor

/- What Lex makes of sources put together. -/
namespace Go.Proofs.YtikknlkdbjaonaaGreatDoor
set_option linter.unusedVariables false
set_option linter.unusedSimpArgs false

namespace X
def Self (t : Tok) : Prop := t.text ≠ [] ∧ t.kind ≠ 0 ∧ step t.text = some (t.kind, t.text.length, t.n)
theorem self_of : ∀ (f i : Nat) (l : By) (ts : List Tok), lexF f i l = some ts → ∀ t ∈ ts, Self t
  | f, i, [], ts, h => by
    rw [lexF_nil] at h
    cases h
    intro t ht
    cases ht
  | 0, i, c :: l, ts, h => by simp [lexF] at h
  | f + 1, i, c :: l, ts, h => by
    unfold lexF at h
    cases e : step (c :: l) with
    | none => rw [e] at h; simp at h
    | some q =>
      obtain ⟨k, n, v⟩ := q
      rw [e] at h
      simp only at h
      obtain ⟨us, h1, h2⟩ := Option.map_eq_some_iff.1 h
      obtain ⟨hn, hm⟩ := step_size (by simp) e
      have hg := self_of f (i + n) _ us h1
      by_cases hk : k = 0
      · rw [if_pos hk] at h2
        subst h2
        exact hg
      · rw [if_neg hk] at h2
        subst h2
        intro t ht
        rcases List.mem_cons.1 ht with rfl | ht
        · have htl : ((c :: l).take n).length = n := by rw [List.length_take]; omega
          refine ⟨fun e => ?_, hk, ?_⟩
          · have := congrArg List.length e
            simp only [htl] at this
            simp at this
            omega
          · show step ((c :: l).take n) = some (k, ((c :: l).take n).length, v)
            rw [htl]
            exact self_take e hk (by simp)
        · exact hg t ht
/-- Each token's text, a space ahead of it. -/
def sp (ts : List Tok) : By := ts.flatMap fun t => 32 :: t.text
theorem sp_head (ts : List Tok) : ∃ r, sp ts ++ [32] = 32 :: r := by
  cases ts with
  | nil => exact ⟨[], rfl⟩
  | cons t ts => exact ⟨t.text ++ (sp ts ++ [32]), by simp [sp]⟩
theorem self_note {t : Tok} (h : Self t) : ¬ (first t.text = 47 ∧ first (t.text.drop 1) = 47) := fun ⟨h1, h2⟩ => by
  have h3 := h.2.2
  rw [step_eq, h1, h2] at h3
  simp [stepX] at h3
  exact h.2.1 h3.1.symm
def core (t : Tok) : Nat × By × Nat := (t.kind, t.text, t.n)
theorem lexF_spaced : ∀ (ts : List Tok) (i : Nat), (∀ t ∈ ts, Self t) → ∃ us, lexF (sp ts ++ [32]).length i (sp ts ++ [32]) = some us ∧ us.map core = ts.map core
  | [], i, _ => ⟨[], by show lexF [32].length i [32] = _; rw [lexF_blank (Or.inr (Or.inl rfl)), lexF_nil], rfl⟩
  | t :: ts, i, h => by
    obtain ⟨r, hr⟩ := sp_head ts
    have ht := h t (by simp)
    obtain ⟨us, h1, h2⟩ := lexF_spaced ts (i + 1 + t.text.length) (fun u hu => h u (by simp [hu]))
    refine ⟨⟨t.kind, t.text, t.n, i + 1⟩ :: us, ?_, by simp [core, h2]⟩
    have hsp : sp (t :: ts) ++ [32] = 32 :: (t.text ++ (sp ts ++ [32])) := by simp [sp]
    have hne : t.text ++ (sp ts ++ [32]) ≠ [] := by simp
    have hst : step (t.text ++ (sp ts ++ [32])) = some (t.kind, t.text.length, t.n) := by
      rw [hr, step_sep ht.1 (Or.inr ⟨rfl, self_note ht⟩)]
      exact ht.2.2
    rw [hsp, lexF_blank (Or.inr (Or.inl rfl)), lexF_step hne, hst]
    simp only
    rw [List.drop_left, List.take_left, h1]
    simp [ht.2.1]
theorem lex_parts {l : By} {L : List Tok} (h : X.lex l = (L, 0)) : l.length ≤ 20000 ∧ ∃ ts, lexF l.length 0 l = some ts ∧ L = ts ++ [⟨0, [], 0, l.length⟩] ∧ ts.length + 1 ≤ 4000 := by
  unfold X.lex at h
  split at h
  · cases h
  split at h
  · cases h
  · rename_i ts hts
    split at h
    · cases h
    · injection h with h _
      exact ⟨by omega, ts, hts, h.symm, by omega⟩
theorem lex_make {l : By} {ts : List Tok} (hl : l.length ≤ 20000) (h : lexF l.length 0 l = some ts) (hn : ts.length + 1 ≤ 4000) : X.lex l = (ts ++ [⟨0, [], 0, l.length⟩], 0) := by
  unfold X.lex
  rw [if_neg (by omega), h]
  simp only
  rw [if_neg (by omega)]
theorem lex_spaced {l : By} {L : List Tok} (h : X.lex l = (L, 0)) (hb : (sp L).length ≤ 20000) : ∃ M, X.lex (sp L) = (M, 0) ∧ M.map core = L.map core := by
  obtain ⟨-, ts, h1, rfl, h2⟩ := lex_parts h
  obtain ⟨us, h3, h4⟩ := lexF_spaced ts 0 (self_of _ _ _ _ h1)
  have hsp : sp (ts ++ [⟨0, [], 0, l.length⟩]) = sp ts ++ [32] := by simp [sp]
  rw [hsp] at hb ⊢
  have hlen : us.length = ts.length := by have := congrArg List.length h4; simpa using this
  refine ⟨_, lex_make hb h3 (by omega), ?_⟩
  rw [List.map_append, List.map_append, h4]
  rfl
theorem lex_joined {s t : By} {A B : List Tok} (hs : X.lex s = (A, 0)) (ht : X.lex t = (B, 0)) (h1 : s.length ≤ 9500) (h2 : t.length ≤ 9500) (h3 : A.length ≤ 1900) (h4 : B.length ≤ 1900) :
    X.lex (s ++ 10 :: t) = (A.take (A.length - 1) ++ B.map (shift (s.length + 1)), 0) := by
  obtain ⟨-, ts, e1, rfl, e2⟩ := lex_parts hs
  obtain ⟨-, us, f1, rfl, f2⟩ := lex_parts ht
  have hj := lexF_join t s.length s 0 (Nat.le_refl _)
  rw [e1] at hj
  simp only at hj
  have hsh := lexF_shift (0 + s.length + 1) t.length 0 t
  rw [Nat.zero_add] at hsh
  rw [show 0 + s.length + 1 = s.length + 1 by omega] at hsh hj
  rw [hsh, f1] at hj
  simp only [Option.map_some] at hj
  simp only [List.length_append, List.length_singleton] at h3 h4
  rw [lex_make (by simp; omega) hj (by simp; omega)]
  have h5 : (ts ++ [(⟨0, [], 0, s.length⟩ : Tok)]).take ((ts ++ [(⟨0, [], 0, s.length⟩ : Tok)]).length - 1) = ts := by simp
  rw [h5]
  simp [shift]
  omega
end X
end Go.Proofs.YtikknlkdbjaonaaGreatDoor

/- A list of tokens that stands in another one: what is read of its expressions. -/
namespace Go.Proofs.YtikknlkdbjaonaaGreatDoor.Y
open X
set_option linter.unusedVariables false
set_option linter.unusedSimpArgs false
/-- The tokens of one list, up to a place, stand in another one so much further on. -/
structure Lie (A C : List X.Tok) (o p : Nat) : Prop where
  len : A.length ≤ C.length
  kd : ∀ {k m : Nat}, k < p → m = k + o → (tk C m).kind = (tk A k).kind
  tx : ∀ {k m : Nat}, k < p → m = k + o → (tk C m).text = (tk A k).text
  nm : ∀ {k m : Nat}, k < p → m = k + o → (tk C m).n = (tk A k).n
/-- Two lists grow by as much, and by the same where they were as long. -/
def Gw (E E' F F' : List Exp) : Prop := ∃ N N2, E' = E ++ N ∧ F' = F ++ N2 ∧ N.length = N2.length ∧ (E.length = F.length → N = N2)
theorem Gw.refl (E F : List Exp) : Gw E E F F := ⟨[], [], by simp, by simp, rfl, fun _ => rfl⟩
theorem Gw.len {E E' F F' : List Exp} (h : Gw E E' F F') (e : E.length = F.length) : E'.length = F'.length := by
  obtain ⟨N, M, rfl, rfl, h1, h2⟩ := h
  simp [e, h1]
theorem Gw.trans {E E' E'' F F' F'' : List Exp} (h : Gw E E' F F') (k : Gw E' E'' F' F'') : Gw E E'' F F'' := by
  have hl := h.len
  obtain ⟨N, M, rfl, rfl, h1, h2⟩ := h
  obtain ⟨N', M', rfl, rfl, h3, h4⟩ := k
  exact ⟨N ++ N', M ++ M', by simp, by simp, by simp [h1, h3], fun e => by rw [h2 e, h4 (hl e)]⟩
theorem Gw.one {E E' F F' : List Exp} (h : Gw E E' F F') {e e2 : Exp} (he : E.length = F.length → e2 = e) : Gw E (E' ++ [e]) F (F' ++ [e2]) := by
  obtain ⟨N, M, rfl, rfl, h1, h2⟩ := h
  exact ⟨N ++ [e], M ++ [e2], by simp, by simp, by simp [h1], fun q => by rw [h2 q, he q]⟩
theorem Gw.sum {E E' F F' : List Exp} (h : Gw E E' F F') : E'.length + F.length = E.length + F'.length := by
  obtain ⟨N, M, rfl, rfl, h1, h2⟩ := h
  simp; omega
variable {A C : List X.Tok} {o p : Nat}
theorem lie_un (L : Lie A C o p) : ∀ f g, f ≤ g →
    (∀ d i E x j E' F, un A f d i E = some (x, j, E') → j < p → ∃ x2 F', un C g d (i + o) F = some (x2, j + o, F') ∧ Gw E E' F F' ∧ (E.length = F.length → x2 = x)) ∧
    (∀ lv d i E x j E' F, 1 ≤ lv → bin A f lv d i E = some (x, j, E') → j < p → ∃ x2 F', bin C g lv d (i + o) F = some (x2, j + o, F') ∧ Gw E E' F F' ∧ (E.length = F.length → x2 = x)) ∧
    (∀ lv d y i E x j E' y2 F, 1 ≤ lv → i ≤ A.length → lp A f lv d y i E = some (x, j, E') → j < p → (E.length = F.length → y2 = y) → ∃ x2 F', lp C g lv d y2 (i + o) F = some (x2, j + o, F') ∧ Gw E E' F F' ∧ (E.length = F.length → x2 = x))
  | 0, _, _ => ⟨fun _ _ _ _ _ _ _ h => by simp [un] at h, fun _ _ _ _ _ _ _ _ _ h => by simp [bin] at h, fun _ _ _ _ _ _ _ _ _ _ _ _ h => by simp [lp] at h⟩
  | f + 1, 0, h => by omega
  | f + 1, g + 1, hfg => by
    obtain ⟨h1, h2, h3⟩ := lie_un L f g (by omega)
    refine ⟨fun d i E x j E' F h hj => ?_, fun lv d i E x j E' F hl h hj => ?_, fun lv d y i E x j E' y2 F hl hi h hj hy => ?_⟩
    · have hij := (on A _).1 _ _ _ _ _ _ h
      have t0 := L.tx (k := i) (by omega) rfl
      have k0 := L.kd (k := i) (by omega) rfl
      have n0 := L.nm (k := i) (by omega) rfl
      rw [un] at h ⊢
      rw [t0, k0, n0]
      by_cases c1 : (tk A i).text = [45] ∨ (tk A i).text = [33]
      · rw [if_pos c1] at h ⊢
        by_cases c2 : 20 ≤ d
        · rw [if_pos c2] at h; cases h
        rw [if_neg c2] at h ⊢
        split at h
        · cases h
        · rename_i he
          injection h with h; injection h with h0 h; injection h with h h'; subst h0 h h'
          obtain ⟨x2, F', e, hg, hx⟩ := h1 _ _ _ _ _ _ F he hj
          rw [show i + o + 1 = i + 1 + o by omega, e]
          exact ⟨_, _, rfl, hg.one fun q => by rw [hx q], fun q => (hg.len q).symm⟩
      rw [if_neg c1] at h ⊢
      by_cases c2 : (tk A i).text = [40]
      · rw [if_pos c2] at h ⊢
        by_cases c3 : 20 ≤ d
        · rw [if_pos c3] at h; cases h
        rw [if_neg c3] at h ⊢
        split at h
        · cases h
        · rename_i x' j' E1 he
          split at h
          · rename_i ht
            injection h with h; injection h with h0 h; injection h with h h'; subst h0 h h'
            obtain ⟨x2, F', e, hg, hx⟩ := h2 _ _ _ _ _ _ _ F (Nat.le_refl _) he (by omega)
            rw [show i + o + 1 = i + 1 + o by omega, e]
            simp only
            rw [if_pos (by rw [L.tx (k := j') (by omega) rfl]; exact ht)]
            exact ⟨_, _, by rw [show j' + 1 + o = j' + o + 1 by omega], hg, hx⟩
          · cases h
      rw [if_neg c2] at h ⊢
      by_cases c3 : (tk A i).kind = 1
      · rw [if_pos c3] at h ⊢
        injection h with h; injection h with h0 h; injection h with h h'; subst h0 h h'
        exact ⟨_, _, by rw [show i + 1 + o = i + o + 1 by omega], (Gw.refl E F).one fun _ => rfl, fun q => q.symm⟩
      rw [if_neg c3] at h ⊢
      by_cases c4 : (tk A i).kind = 2
      · rw [if_pos c4] at h ⊢
        by_cases c5 : (tk A (i + 1)).text = [91]
        · rw [if_pos c5] at h
          by_cases c3 : 20 ≤ d
          · rw [if_pos c3] at h; cases h
          rw [if_neg c3] at h
          split at h
          · cases h
          · rename_i x' j' E1 he
            split at h
            · rename_i ht
              injection h with h; injection h with h0 h; injection h with h h'; subst h0 h h'
              have hij2 := (on A _).2.1 _ _ _ _ _ _ _ (Nat.le_refl _) he
              obtain ⟨x2, F', e, hg, hx⟩ := h2 _ _ _ _ _ _ _ F (Nat.le_refl _) he (by omega)
              rw [if_pos (by rw [L.tx (k := i + 1) (by omega) (by omega)]; exact c5), if_neg c3, show i + o + 2 = i + 2 + o by omega, e]
              simp only
              rw [if_pos (by rw [L.tx (k := j') (by omega) rfl]; exact ht)]
              exact ⟨_, _, by rw [show j' + 1 + o = j' + o + 1 by omega], hg.one fun q => by rw [hx q], fun q => (hg.len q).symm⟩
            · cases h
        · rw [if_neg c5] at h
          injection h with h; injection h with h0 h; injection h with h h'; subst h0 h h'
          rw [if_neg (by rw [L.tx (k := i + 1) (by omega) (by omega)]; exact c5)]
          exact ⟨_, _, by rw [show i + 1 + o = i + o + 1 by omega], (Gw.refl E F).one fun _ => rfl, fun q => q.symm⟩
      · rw [if_neg c4] at h; cases h
    · rw [bin] at h ⊢
      split at h
      · cases h
      · rename_i x1 j1 E1 he
        have hij := (on A _).1 _ _ _ _ _ _ he
        have hij2 := (on A _).2.2 _ _ _ _ _ _ _ _ hl hij.2 h
        obtain ⟨x2, F', e, hg, hx⟩ := h1 _ _ _ _ _ _ F he (by omega)
        rw [e]
        obtain ⟨x3, F2, e2, hg2, hx2⟩ := h3 _ _ _ _ _ _ _ _ x2 F' hl hij.2 h hj (fun q => hx (by have := hg.sum; omega))
        exact ⟨_, _, e2, hg.trans hg2, fun q => hx2 (hg.len q)⟩
    · have hij := (on A _).2.2 _ _ _ _ _ _ _ _ hl hi h
      rw [lp] at h ⊢
      rw [L.tx (k := i) (by omega) rfl]
      by_cases c1 : lv ≤ lev (tk A i).text
      · rw [if_pos c1] at h ⊢
        split at h
        · cases h
        · rename_i y1 j1 E1 he
          have hij1 := (on A _).2.1 _ _ _ _ _ _ _ (Nat.le_add_left _ _) he
          have hij2 := (on A _).2.2 _ _ _ _ _ _ _ _ hl hij1.2 h
          obtain ⟨x2, F', e, hg, hx⟩ := h2 _ _ _ _ _ _ _ F (Nat.le_add_left _ _) he (by omega)
          rw [show i + o + 1 = i + 1 + o by omega, e]
          simp only
          obtain ⟨x3, F2, e2, hg2, hx2⟩ := h3 _ _ _ _ _ _ _ _ F'.length (F' ++ [⟨5, (tk A i).text, [], 0, y2, x2⟩]) hl hij1.2 h hj (fun q => by simp at q; omega)
          have hgg := hg.one (e := ⟨5, (tk A i).text, [], 0, y, y1⟩) (e2 := ⟨5, (tk A i).text, [], 0, y2, x2⟩) (fun q => by rw [hy q, hx q])
          exact ⟨_, _, e2, hgg.trans hg2, fun q => hx2 (hgg.len q)⟩
      · rw [if_neg c1] at h ⊢
        injection h with h; injection h with h0 h; injection h with h h'; subst h0 h h'
        exact ⟨_, _, rfl, Gw.refl E F, hy⟩
theorem lie_Bin (L : Lie A C o p) {lv d i x j : Nat} {E E' : List Exp} (F : List Exp) (hl : 1 ≤ lv) (h : Bin A lv d i E = some (x, j, E')) (hj : j < p) : ∃ x2 F', Bin C lv d (i + o) F = some (x2, j + o, F') ∧ Gw E E' F F' ∧ (E.length = F.length → x2 = x) :=
  (lie_un L (fu A + 1) (fu C + 1) (by have := L.len; unfold fu; omega)).2.1 _ _ _ _ _ _ _ F hl h hj
end Go.Proofs.YtikknlkdbjaonaaGreatDoor.Y

/- A list of tokens that stands in another one: what is read of its statements and declarations. -/
namespace Go.Proofs.YtikknlkdbjaonaaGreatDoor.Y
open X
set_option linter.unusedVariables false
set_option linter.unusedSimpArgs false
variable {A C : List X.Tok} {o p : Nat}
/-- What was read goes on alike. -/
abbrev JS (C : List X.Tok) (r : SR) (o j : Nat) (E E' : List Exp) (S S' : List Stmt) (F : List Exp) (T : List Stmt) : Prop := ∃ s2 F' T', r = some (s2, j + o, F', T') ∧ Gw E E' F F' ∧ T'.length + S.length = T.length + S'.length
theorem lie_val (L : Lie A C o p) {s s' s2 : Stmt} {d i j : Nat} {E E' : List Exp} {S S' : List Stmt} (F : List Exp) (T : List Stmt) (h : val A s d i E S = some (s', j, E', S')) (hj : j ≤ p) : JS C (val C s2 d (i + o) F T) o j E E' S S' F T := by
  unfold val at h ⊢
  rw [Option.bind_eq_some_iff] at h
  obtain ⟨⟨x, k, E1⟩, hb, h⟩ := h
  dsimp only at h
  split at h
  · rename_i ht
    injection h with h; injection h with _ h; injection h with h h'; injection h' with h' h''; subst h h' h''
    obtain ⟨x2, F', e, hg, -⟩ := lie_Bin L F (Nat.le_refl _) hb (by omega)
    rw [e, Option.bind_some]
    dsimp only
    rw [if_pos (by rw [L.tx (k := k) (by omega) rfl]; exact ht)]
    exact ⟨_, _, _, by rw [show k + 1 + o = k + o + 1 by omega], hg, by omega⟩
  · cases h
theorem lie_cnd (L : Lie A C o p) {d i x j : Nat} {E E' : List Exp} (F : List Exp) (h : cnd A d i E = some (x, j, E')) (hj : j ≤ p) : ∃ x2 F', cnd C d (i + o) F = some (x2, j + o, F') ∧ Gw E E' F F' := by
  unfold cnd at h ⊢
  split at h
  · rename_i h0
    rw [Option.bind_eq_some_iff] at h
    obtain ⟨⟨y, k, E1⟩, hb, h⟩ := h
    have ho := Bin_on (Nat.le_refl _) hb
    dsimp only at h
    split at h
    · rename_i ht
      injection h with h; injection h with _ h; injection h with h h'; subst h h'
      obtain ⟨x2, F', e, hg, -⟩ := lie_Bin L F (Nat.le_refl _) hb (by omega)
      rw [if_pos (by rw [L.tx (k := i) (by omega) rfl]; exact h0), show i + o + 1 = i + 1 + o by omega, e, Option.bind_some]
      dsimp only
      rw [if_pos (by rw [L.tx (k := k) (by omega) rfl]; exact ht)]
      exact ⟨_, _, by rw [show k + 1 + o = k + o + 1 by omega], hg⟩
    · cases h
  · cases h
theorem lie_fin (L : Lie A C o p) {s s' s2 : Stmt} {i j : Nat} {E E' : List Exp} {S S' : List Stmt} (F : List Exp) (T : List Stmt) (h : fin A s i E S = some (s', j, E', S')) (hj : j ≤ p) : JS C (fin C s2 (i + o) F T) o j E E' S S' F T := by
  unfold fin at h ⊢
  split at h
  · rename_i h0
    split at h
    · rename_i ht
      injection h with h; injection h with _ h; injection h with h h'; injection h' with h' h''; subst h h' h''
      rw [if_pos (by rw [L.tx (k := i) (by omega) rfl]; exact h0), if_pos (by rw [L.tx (k := i + 1) (by omega) (by omega)]; exact ht)]
      exact ⟨_, _, _, by rw [show i + 2 + o = i + o + 2 by omega], Gw.refl _ _, by omega⟩
    · cases h
  · cases h
theorem al_on {ts : List X.Tok} : ∀ (f d i : Nat) (l : List Int) (E : List Exp) (l' : List Int) (j : Nat) (E' : List Exp), al ts f d i l E = some (l', j, E') → i ≤ j
  | 0, _, _, _, _, _, _, _, h => by simp [al] at h
  | f + 1, d, i, l, E, l', j, E', h => by
    rw [al] at h
    split at h
    · rw [Option.bind_eq_some_iff] at h
      obtain ⟨⟨y, k, E1⟩, hb, h⟩ := h
      have := Bin_on (Nat.le_refl _) hb
      have := al_on f d _ _ _ _ _ _ h
      dsimp only at this
      omega
    · injection h with h; injection h with h0 h; injection h with h h'; omega
theorem lie_al (L : Lie A C o p) : ∀ (f g d i : Nat) (l l2 : List Int) (E : List Exp) (l' : List Int) (j : Nat) (E' : List Exp) (F : List Exp), f ≤ g → al A f d i l E = some (l', j, E') → j < p → ∃ l3 F', al C g d (i + o) l2 F = some (l3, j + o, F') ∧ Gw E E' F F'
  | 0, _, _, _, _, _, _, _, _, _, _, _, h, _ => by simp [al] at h
  | f + 1, 0, _, _, _, _, _, _, _, _, _, h, _, _ => by omega
  | f + 1, g + 1, d, i, l, l2, E, l', j, E', F, hf, h, hj => by
    have hij := al_on _ _ _ _ _ _ _ _ h
    rw [al] at h ⊢
    rw [L.tx (k := i) (by omega) rfl]
    split at h
    · rename_i h0
      rw [Option.bind_eq_some_iff] at h
      obtain ⟨⟨y, k, E1⟩, hb, h⟩ := h
      dsimp only at h
      have hk := al_on _ _ _ _ _ _ _ _ h
      obtain ⟨x2, F', e, hg, -⟩ := lie_Bin L F (Nat.le_refl _) hb (by omega)
      rw [if_pos h0, show i + o + 1 = i + 1 + o by omega, e, Option.bind_some]
      dsimp only
      obtain ⟨l3, F2, e2, hg2⟩ := lie_al L f g d k _ (l2 ++ [(x2 : Int)]) _ _ _ _ F' (by omega) h hj
      exact ⟨l3, F2, e2, hg.trans hg2⟩
    · rename_i h0
      injection h with h; injection h with h0 h; injection h with h h'; subst h h'
      rw [if_neg ‹_›]
      exact ⟨_, _, rfl, Gw.refl _ _⟩
theorem ag_on {ts : List X.Tok} {d i j : Nat} {l : List Int} {E E' : List Exp} (h : ag ts d i E = some (l, j, E')) : i ≤ j := by
  unfold ag at h
  split at h
  · injection h with h; injection h with h0 h; injection h with h h'; omega
  · rw [Option.bind_eq_some_iff] at h
    obtain ⟨⟨y, k, E1⟩, hb, h⟩ := h
    have := Bin_on (Nat.le_refl _) hb
    have := al_on _ _ _ _ _ _ _ _ h
    dsimp only at this
    omega
theorem lie_ag (L : Lie A C o p) {d i j : Nat} {l : List Int} {E E' : List Exp} (F : List Exp) (h : ag A d i E = some (l, j, E')) (hj : j < p) : ∃ l3 F', ag C d (i + o) F = some (l3, j + o, F') ∧ Gw E E' F F' := by
  have hij := ag_on h
  unfold ag at h ⊢
  rw [L.tx (k := i) (by omega) rfl]
  split at h
  · injection h with h; injection h with h0 h; injection h with h h'; subst h h'
    rw [if_pos ‹_›]
    exact ⟨_, _, rfl, Gw.refl _ _⟩
  · rename_i h0
    rw [Option.bind_eq_some_iff] at h
    obtain ⟨⟨y, k, E1⟩, hb, h⟩ := h
    dsimp only at h
    have hk := al_on _ _ _ _ _ _ _ _ h
    obtain ⟨x2, F', e, hg, -⟩ := lie_Bin L F (Nat.le_refl _) hb (by omega)
    rw [if_neg h0, e, Option.bind_some]
    dsimp only
    obtain ⟨l3, F2, e2, hg2⟩ := lie_al L _ (C.length + 1) d k _ [(x2 : Int)] _ _ _ _ F' (by have := L.len; omega) h hj
    exact ⟨l3, F2, e2, hg.trans hg2⟩
theorem fin_on {ts : List X.Tok} {s s' : Stmt} {i j : Nat} {E E' : List Exp} {S S' : List Stmt} (h : fin ts s i E S = some (s', j, E', S')) : j = i + 2 := by
  unfold fin at h
  split at h
  · split at h
    · injection h with h; injection h with _ h; injection h with h _; omega
    · cases h
  · cases h
theorem lie_cl (L : Lie A C o p) {d i j : Nat} {nm nm2 : By} {s : Stmt} {E E' : List Exp} {S S' : List Stmt} (F : List Exp) (T : List Stmt) (h : cl A d nm i E S = some (s, j, E', S')) (hj : j ≤ p) : JS C (cl C d nm2 (i + o) F T) o j E E' S S' F T := by
  have hij : i + 4 ≤ j := by
    unfold cl at h
    split at h
    · split at h
      · split at h
        · have := fin_on h; omega
        · cases h
      · cases h
    · split at h
      · split at h
        · split at h
          · split at h
            · rw [Option.bind_eq_some_iff] at h
              obtain ⟨⟨y, k, E1⟩, hb, h⟩ := h
              have := Bin_on (Nat.le_refl _) hb
              have := fin_on h; dsimp only at this; omega
            · cases h
          · cases h
        · cases h
      · split at h
        · split at h
          · rw [Option.bind_eq_some_iff] at h
            obtain ⟨⟨y, k, E1⟩, hb, h⟩ := h
            have := ag_on hb
            have := fin_on h; dsimp only at this; omega
          · cases h
        · cases h
  unfold cl at h ⊢
  rw [L.tx (k := i) (by omega) rfl, L.kd (k := i) (by omega) rfl, L.tx (k := i + 1) (by omega) (show i + o + 1 = i + 1 + o by omega), L.kd (k := i + 2) (by omega) (show i + o + 2 = i + 2 + o by omega), L.tx (k := i + 3) (by omega) (show i + o + 3 = i + 3 + o by omega)]
  split at h
  · rename_i h0
    rw [if_pos h0]
    split at h
    · rename_i h1
      rw [if_pos h1]
      split at h
      · rename_i h2
        rw [if_pos h2, show i + o + 3 = i + 3 + o by omega]
        exact lie_fin L F T h hj
      · cases h
    · cases h
  · rename_i h0
    rw [if_neg h0]
    split at h
    · rename_i h1
      rw [if_pos h1]
      split at h
      · rename_i h2
        rw [if_pos h2]
        split at h
        · rename_i h3
          rw [if_pos h3]
          split at h
          · rename_i h4
            rw [if_pos h4]
            rw [Option.bind_eq_some_iff] at h
            obtain ⟨⟨y, k, E1⟩, hb, h⟩ := h
            have hf := fin_on h
            dsimp only at h hf
            obtain ⟨x2, F', e, hg, -⟩ := lie_Bin L F (Nat.le_refl _) hb (by omega)
            rw [show i + o + 4 = i + 4 + o by omega, e, Option.bind_some]
            dsimp only
            obtain ⟨s3, F2, T2, e2, hg2, ht⟩ := lie_fin (s2 := ⟨6, nm2, (tk C (i + o + 2)).text, (x2 : Int), 0, [], [], []⟩) L F' T h hj
            exact ⟨_, _, _, e2, hg.trans hg2, ht⟩
          · cases h
        · cases h
      · cases h
    · rename_i h1
      rw [if_neg h1]
      split at h
      · rename_i h2
        rw [if_pos h2]
        split at h
        · rename_i h3
          rw [if_pos h3]
          rw [Option.bind_eq_some_iff] at h
          obtain ⟨⟨y, k, E1⟩, hb, h⟩ := h
          have hf := fin_on h
          dsimp only at h hf
          obtain ⟨x2, F', e, hg⟩ := lie_ag L F hb (by omega)
          rw [show i + o + 2 = i + 2 + o by omega, e, Option.bind_some]
          dsimp only
          obtain ⟨s3, F2, T2, e2, hg2, ht⟩ := lie_fin (s2 := ⟨4, nm2, (tk A i).text, 0, 0, x2, [], []⟩) L F' T h hj
          exact ⟨_, _, _, e2, hg.trans hg2, ht⟩
        · cases h
      · cases h
end Go.Proofs.YtikknlkdbjaonaaGreatDoor.Y

/- A list of tokens that stands in another one: blocks. -/
namespace Go.Proofs.YtikknlkdbjaonaaGreatDoor.Y
open X
set_option linter.unusedVariables false
set_option linter.unusedSimpArgs false
variable {A C : List X.Tok} {o p : Nat}
theorem Ix_on {ts : List X.Tok} {d i x j : Nat} {E E' : List Exp} (h : Ix ts d i E = some (x, j, E')) : i + 3 ≤ j := by
  unfold Ix at h
  split at h
  · cases h
  · split at h
    · cases h
    · rename_i he
      split at h
      · injection h with h; injection h with _ h; injection h with h _
        have := Bin_on (Nat.le_refl _) he
        omega
      · cases h
theorem lie_Ix (L : Lie A C o p) {d i x j : Nat} {E E' : List Exp} (F : List Exp) (h : Ix A d i E = some (x, j, E')) (hj : j ≤ p) : ∃ x2 F', Ix C d (i + o) F = some (x2, j + o, F') ∧ Gw E E' F F' := by
  unfold Ix at h ⊢
  split at h
  · cases h
  · rename_i h0
    rw [if_neg h0]
    split at h
    · cases h
    · rename_i y k E1 he
      split at h
      · rename_i ht
        injection h with h; injection h with _ h; injection h with h h'; subst h h'
        obtain ⟨x2, F', e, hg, -⟩ := lie_Bin L F (Nat.le_refl _) he (by omega)
        rw [show i + o + 1 = i + 1 + o by omega, e]
        dsimp only
        rw [if_pos (by rw [L.tx (k := k) (by omega) rfl]; exact ht)]
        exact ⟨_, _, by rw [show k + 1 + o = k + o + 1 by omega], hg⟩
      · cases h
theorem isC_lie (L : Lie A C o p) {i : Nat} (hi : i + 1 < p) : isC C (i + o) = isC A i := by
  unfold isC
  rw [L.tx (k := i) (by omega) rfl, L.kd (k := i) (by omega) rfl, L.tx (k := i + 1) (by omega) (by omega)]
theorem val_on {ts : List X.Tok} {s s' : Stmt} {d i j : Nat} {E E' : List Exp} {S S' : List Stmt} (h : val ts s d i E S = some (s', j, E', S')) : i + 2 ≤ j := by
  unfold val at h
  rw [Option.bind_eq_some_iff] at h
  obtain ⟨⟨x, k, E1⟩, hb, h⟩ := h
  have := Bin_on (Nat.le_refl _) hb
  dsimp only at h
  split at h
  · injection h with h; injection h with _ h; injection h with h _; omega
  · cases h
theorem cl_on {ts : List X.Tok} {d i j : Nat} {nm : By} {s : Stmt} {E E' : List Exp} {S S' : List Stmt} (h : cl ts d nm i E S = some (s, j, E', S')) : i + 4 ≤ j := by
  unfold cl at h
  split at h
  · split at h
    · split at h
      · have := fin_on h; omega
      · cases h
    · cases h
  · split at h
    · split at h
      · split at h
        · split at h
          · rw [Option.bind_eq_some_iff] at h
            obtain ⟨⟨y, k, E1⟩, hb, h⟩ := h
            have := Bin_on (Nat.le_refl _) hb
            have := fin_on h; dsimp only at this; omega
          · cases h
        · cases h
      · cases h
    · split at h
      · split at h
        · rw [Option.bind_eq_some_iff] at h
          obtain ⟨⟨y, k, E1⟩, hb, h⟩ := h
          have := ag_on hb
          have := fin_on h; dsimp only at this; omega
        · cases h
      · cases h
theorem setS_on {ts : List X.Tok} {d i j : Nat} {s : Stmt} {E E' : List Exp} {S S' : List Stmt} (h : setS ts d i E S = some (s, j, E', S')) : i + 4 ≤ j := by
  unfold setS at h
  split at h
  · split at h
    · rw [Option.bind_eq_some_iff] at h
      obtain ⟨⟨y, k, E1⟩, hb, h⟩ := h
      have := Ix_on hb
      dsimp only at h
      split at h
      · have := val_on h; omega
      · cases h
    · split at h
      · split at h
        · have := cl_on h; omega
        · have := val_on h; omega
      · cases h
  · cases h
theorem lie_setS (L : Lie A C o p) {d i j : Nat} {s : Stmt} {E E' : List Exp} {S S' : List Stmt} (F : List Exp) (T : List Stmt) (h : setS A d i E S = some (s, j, E', S')) (hj : j ≤ p) : JS C (setS C d (i + o) F T) o j E E' S S' F T := by
  have hij := setS_on h
  unfold setS at h ⊢
  rw [L.kd (k := i) (by omega) rfl, L.tx (k := i + 1) (by omega) (show i + o + 1 = i + 1 + o by omega)]
  split at h
  · rename_i h0
    rw [if_pos h0]
    split at h
    · rename_i h1
      rw [if_pos h1]
      rw [Option.bind_eq_some_iff] at h
      obtain ⟨⟨y, k, E1⟩, hb, h⟩ := h
      dsimp only at h
      split at h
      · rename_i h2
        have hv := val_on h
        obtain ⟨x2, F', e, hg⟩ := lie_Ix L F hb (by omega)
        rw [show i + o + 1 = i + 1 + o by omega, e, Option.bind_some]
        dsimp only
        rw [if_pos (by rw [L.tx (k := k) (by omega) rfl]; exact h2), show k + o + 1 = k + 1 + o by omega]
        obtain ⟨s3, F2, T2, e2, hg2, ht⟩ := lie_val (s2 := ⟨3, (tk C (i + o)).text, [], 0, (x2 : Int), [], [], []⟩) L F' T h hj
        exact ⟨_, _, _, e2, hg.trans hg2, ht⟩
      · cases h
    · rename_i h1
      rw [if_neg h1]
      split at h
      · rename_i h2
        rw [if_pos h2, show i + o + 2 = i + 2 + o by omega, isC_lie L (by omega)]
        split at h
        · rename_i h3
          rw [if_pos h3]
          exact lie_cl L F T h hj
        · rename_i h3
          rw [if_neg h3]
          exact lie_val L F T h hj
      · cases h
  · cases h
theorem blk_on (ts : List X.Tok) : ∀ f, (∀ d i E S l j E' S', blk ts f d i E S = some (l, j, E', S') → i + 2 ≤ j) ∧ (∀ d i l E S l' j E' S', sl ts f d i l E S = some (l', j, E', S') → i + 1 ≤ j) ∧ (∀ d i E S s j E' S', stm ts f d i E S = some (s, j, E', S') → i + 3 ≤ j)
  | 0 => ⟨fun _ _ _ _ _ _ _ _ h => by simp [blk] at h, fun _ _ _ _ _ _ _ _ _ h => by simp [sl] at h, fun _ _ _ _ _ _ _ _ h => by simp [stm] at h⟩
  | f + 1 => by
    obtain ⟨h1, h2, h3⟩ := blk_on ts f
    refine ⟨fun d i E S l j E' S' h => ?_, fun d i l E S l' j E' S' h => ?_, fun d i E S s j E' S' h => ?_⟩
    · rw [blk] at h
      split at h
      · split at h
        · cases h
        · have := h2 _ _ _ _ _ _ _ _ _ h; omega
      · cases h
    · rw [sl] at h
      split at h
      · injection h with h; injection h with h0 h; injection h with h _; omega
      · rw [Option.bind_eq_some_iff] at h
        obtain ⟨⟨s, k, E1, S1⟩, hb, h⟩ := h
        have := h3 _ _ _ _ _ _ _ _ hb
        have := h2 _ _ _ _ _ _ _ _ _ h
        dsimp only at this
        omega
    · rw [stm] at h
      split at h
      · split at h
        · split at h
          · have := val_on h; omega
          · cases h
        · cases h
      · split at h
        · rw [Option.bind_eq_some_iff] at h
          obtain ⟨⟨x, k, E1⟩, hb, h⟩ := h
          have h4 : i + 1 ≤ k := by
            unfold cnd at hb
            split at hb
            · rw [Option.bind_eq_some_iff] at hb
              obtain ⟨⟨y, k', E2⟩, hb, hh⟩ := hb
              have := Bin_on (Nat.le_refl _) hb
              dsimp only at hh
              split at hh
              · injection hh with hh; injection hh with _ hh; injection hh with hh _; omega
              · cases hh
            · cases hb
          rw [Option.bind_eq_some_iff] at h
          obtain ⟨⟨l, k2, E2, S2⟩, hb2, h⟩ := h
          have h5 := h1 _ _ _ _ _ _ _ _ hb2
          dsimp only at h h5
          split at h
          · rw [Option.bind_eq_some_iff] at h
            obtain ⟨⟨l3, k3, E3, S3⟩, hb3, h⟩ := h
            have h6 := h1 _ _ _ _ _ _ _ _ hb3
            injection h with h; injection h with h0 h; injection h with h _
            dsimp only at *
            omega
          · injection h with h; injection h with h0 h; injection h with h _
            omega
        · split at h
          · rw [Option.bind_eq_some_iff] at h
            obtain ⟨⟨x, k, E1⟩, hb, h⟩ := h
            have h4 : i + 1 ≤ k := by
              unfold cnd at hb
              split at hb
              · rw [Option.bind_eq_some_iff] at hb
                obtain ⟨⟨y, k', E2⟩, hb, hh⟩ := hb
                have := Bin_on (Nat.le_refl _) hb
                dsimp only at hh
                split at hh
                · injection hh with hh; injection hh with _ hh; injection hh with hh _; omega
                · cases hh
              · cases hb
            rw [Option.bind_eq_some_iff] at h
            obtain ⟨⟨l, k2, E2, S2⟩, hb2, h⟩ := h
            have h5 := h1 _ _ _ _ _ _ _ _ hb2
            injection h with h; injection h with h0 h; injection h with h _
            dsimp only at *
            omega
          · split at h
            · split at h
              · rw [Option.bind_eq_some_iff] at h
                obtain ⟨⟨l, k2, E2, S2⟩, hb2, h⟩ := h
                have h5 := h1 _ _ _ _ _ _ _ _ hb2
                injection h with h; injection h with h0 h; injection h with h _
                dsimp only at *
                omega
              · cases h
            · split at h
              · have := val_on h; omega
              · split at h
                · have := val_on h; omega
                · split at h
                  · have := cl_on h; omega
                  · have := setS_on h; omega
theorem cnd_on {ts : List X.Tok} {d i x j : Nat} {E E' : List Exp} (hb : cnd ts d i E = some (x, j, E')) : i + 2 ≤ j := by
  unfold cnd at hb
  split at hb
  · rw [Option.bind_eq_some_iff] at hb
    obtain ⟨⟨y, k', E2⟩, hb, hh⟩ := hb
    have := Bin_on (Nat.le_refl _) hb
    dsimp only at hh
    split at hh
    · injection hh with hh; injection hh with _ hh; injection hh with hh _; omega
    · cases hh
  · cases hb
theorem lie_blk (L : Lie A C o p) : ∀ f g, f ≤ g →
    (∀ d i E S l j E' S' F T, blk A f d i E S = some (l, j, E', S') → j ≤ p → ∃ l2 F' T', blk C g d (i + o) F T = some (l2, j + o, F', T') ∧ Gw E E' F F' ∧ T'.length + S.length = T.length + S'.length) ∧
    (∀ d i l E S l' j E' S' l2 F T, sl A f d i l E S = some (l', j, E', S') → j ≤ p → ∃ l3 F' T', sl C g d (i + o) l2 F T = some (l3, j + o, F', T') ∧ Gw E E' F F' ∧ T'.length + S.length = T.length + S'.length) ∧
    (∀ d i E S s j E' S' F T, stm A f d i E S = some (s, j, E', S') → j < p → JS C (stm C g d (i + o) F T) o j E E' S S' F T)
  | 0, _, _ => ⟨fun _ _ _ _ _ _ _ _ _ _ h => by simp [blk] at h, fun _ _ _ _ _ _ _ _ _ _ _ _ h => by simp [sl] at h, fun _ _ _ _ _ _ _ _ _ _ h => by simp [stm] at h⟩
  | f + 1, 0, h => by omega
  | f + 1, g + 1, hfg => by
    obtain ⟨h1, h2, h3⟩ := lie_blk L f g (by omega)
    refine ⟨fun d i E S l j E' S' F T h hj => ?_, fun d i l E S l' j E' S' l2 F T h hj => ?_, fun d i E S s j E' S' F T h hj => ?_⟩
    · have hij := (blk_on A _).1 _ _ _ _ _ _ _ _ h
      rw [blk] at h ⊢
      rw [L.tx (k := i) (by omega) rfl]
      split at h
      · rename_i h0
        rw [if_pos h0]
        split at h
        · cases h
        · rename_i h4
          rw [if_neg h4, show i + o + 1 = i + 1 + o by omega]
          exact h2 _ _ _ _ _ _ _ _ _ _ _ _ h hj
      · cases h
    · have hij := (blk_on A _).2.1 _ _ _ _ _ _ _ _ _ h
      rw [sl] at h ⊢
      rw [L.tx (k := i) (by omega) rfl]
      split at h
      · rename_i h0
        rw [if_pos h0]
        injection h with h; injection h with h0 h; injection h with h h'; injection h' with h' h''; subst h0 h h' h''
        exact ⟨_, _, _, by rw [show i + 1 + o = i + o + 1 by omega], Gw.refl _ _, by omega⟩
      · rename_i h0
        rw [if_neg h0]
        rw [Option.bind_eq_some_iff] at h
        obtain ⟨⟨s, k, E1, S1⟩, hb, h⟩ := h
        have hk := (blk_on A _).2.1 _ _ _ _ _ _ _ _ _ h
        dsimp only at h hk
        obtain ⟨s2, F', T', e, hg, ht⟩ := h3 _ _ _ _ _ _ _ _ F T hb (by omega)
        rw [e, Option.bind_some]
        dsimp only
        obtain ⟨l3, F2, T2, e2, hg2, ht2⟩ := h2 _ _ _ _ _ _ _ _ _ (l2 ++ [(T'.length : Int)]) F' (T' ++ [s2]) h hj
        rw [List.length_append, List.length_append] at ht2
        simp only [List.length_cons, List.length_nil] at ht2
        exact ⟨_, _, _, e2, hg.trans hg2, by omega⟩
    · have hij := (blk_on A _).2.2 _ _ _ _ _ _ _ _ h
      rw [stm] at h ⊢
      rw [L.tx (k := i) (by omega) rfl, L.kd (k := i + 1) (by omega) (show i + o + 1 = i + 1 + o by omega), L.tx (k := i + 2) (by omega) (show i + o + 2 = i + 2 + o by omega), isC_lie L (by omega)]
      split at h
      · rename_i c1
        rw [if_pos c1]
        split at h
        · rename_i c2
          rw [if_pos c2]
          split at h
          · rename_i c3
            rw [if_pos c3, show i + o + 3 = i + 3 + o by omega]
            exact lie_val L F T h (by omega)
          · cases h
        · cases h
      rename_i c1
      rw [if_neg c1]
      split at h
      · rename_i c2
        rw [if_pos c2]
        rw [Option.bind_eq_some_iff] at h
        obtain ⟨⟨x, k, E1⟩, hb, h⟩ := h
        dsimp only at h
        rw [Option.bind_eq_some_iff] at h
        obtain ⟨⟨l, k2, E2, S2⟩, hb2, h⟩ := h
        have g2 := (blk_on A _).1 _ _ _ _ _ _ _ _ hb2
        dsimp only at h
        split at h
        · rename_i he
          rw [Option.bind_eq_some_iff] at h
          obtain ⟨⟨l3, k3, E3, S3⟩, hb3, h⟩ := h
          have g3 := (blk_on A _).1 _ _ _ _ _ _ _ _ hb3
          injection h with h; injection h with h0 h; injection h with h h'; injection h' with h' h''; subst h0 h h' h''
          dsimp only at hj g3
          obtain ⟨x2, F1, e1, hg1⟩ := lie_cnd L F hb (by omega)
          rw [show i + o + 1 = i + 1 + o by omega, e1, Option.bind_some]
          dsimp only
          obtain ⟨l2, F2, T2, e2, hg2, ht2⟩ := h1 _ _ _ _ _ _ _ _ F1 T hb2 (by omega)
          rw [e2, Option.bind_some]
          dsimp only
          rw [if_pos (by rw [L.tx (k := k2) (by omega) rfl]; exact he), show k2 + o + 1 = k2 + 1 + o by omega]
          obtain ⟨l4, F3, T3, e3, hg3, ht3⟩ := h1 _ _ _ _ _ _ _ _ F2 T2 hb3 (by omega)
          rw [e3, Option.bind_some]
          dsimp only
          exact ⟨_, _, _, rfl, (hg1.trans hg2).trans hg3, by omega⟩
        · rename_i he
          injection h with h; injection h with h0 h; injection h with h h'; injection h' with h' h''; subst h0 h h' h''
          obtain ⟨x2, F1, e1, hg1⟩ := lie_cnd L F hb (by omega)
          rw [show i + o + 1 = i + 1 + o by omega, e1, Option.bind_some]
          dsimp only
          obtain ⟨l2, F2, T2, e2, hg2, ht2⟩ := h1 _ _ _ _ _ _ _ _ F1 T hb2 (by omega)
          rw [e2, Option.bind_some]
          dsimp only
          rw [if_neg (by rw [L.tx (k := k2) (by omega) rfl]; exact he)]
          exact ⟨_, _, _, rfl, hg1.trans hg2, by omega⟩
      rename_i c2
      rw [if_neg c2]
      split at h
      · rename_i c3
        rw [if_pos c3]
        rw [Option.bind_eq_some_iff] at h
        obtain ⟨⟨x, k, E1⟩, hb, h⟩ := h
        dsimp only at h
        rw [Option.bind_eq_some_iff] at h
        obtain ⟨⟨l, k2, E2, S2⟩, hb2, h⟩ := h
        have g2 := (blk_on A _).1 _ _ _ _ _ _ _ _ hb2
        injection h with h; injection h with h0 h; injection h with h h'; injection h' with h' h''; subst h0 h h' h''
        dsimp only at hj g2
        obtain ⟨x2, F1, e1, hg1⟩ := lie_cnd L F hb (by omega)
        rw [show i + o + 1 = i + 1 + o by omega, e1, Option.bind_some]
        dsimp only
        obtain ⟨l2, F2, T2, e2, hg2, ht2⟩ := h1 _ _ _ _ _ _ _ _ F1 T hb2 (by omega)
        rw [e2, Option.bind_some]
        exact ⟨_, _, _, rfl, hg1.trans hg2, by omega⟩
      rename_i c3
      rw [if_neg c3]
      split at h
      · rename_i c4
        rw [if_pos c4]
        split at h
        · rename_i c5
          rw [if_pos c5]
          rw [Option.bind_eq_some_iff] at h
          obtain ⟨⟨l, k2, E2, S2⟩, hb2, h⟩ := h
          injection h with h; injection h with h0 h; injection h with h h'; injection h' with h' h''; subst h0 h h' h''
          dsimp only at hj
          obtain ⟨l2, F2, T2, e2, hg2, ht2⟩ := h1 _ _ _ _ _ _ _ _ F T hb2 (by omega)
          rw [show i + o + 2 = i + 2 + o by omega, e2, Option.bind_some]
          exact ⟨_, _, _, rfl, hg2, by omega⟩
        · cases h
      rename_i c4
      rw [if_neg c4]
      split at h
      · rename_i c5
        rw [if_pos c5, show i + o + 1 = i + 1 + o by omega]
        exact lie_val L F T h (by omega)
      rename_i c5
      rw [if_neg c5]
      split at h
      · rename_i c6
        rw [if_pos c6, show i + o + 1 = i + 1 + o by omega]
        exact lie_val L F T h (by omega)
      rename_i c6
      rw [if_neg c6]
      split at h
      · rename_i c7
        rw [if_pos c7]
        exact lie_cl L F T h (by omega)
      · rename_i c7
        rw [if_neg c7]
        exact lie_setS L F T h (by omega)
end Go.Proofs.YtikknlkdbjaonaaGreatDoor.Y

/- A list of tokens that stands in another one: declarations, and sources one behind the other. -/
namespace Go.Proofs.YtikknlkdbjaonaaGreatDoor.Y
open X
set_option linter.unusedVariables false
set_option linter.unusedSimpArgs false
variable {A C : List X.Tok} {o p : Nat}
/-- What was read goes on alike. -/
abbrev JD (r : DR) (o j : Nat) (E E' : List Exp) (S S' : List Stmt) (F : List Exp) (T : List Stmt) : Prop := ∃ x2 F' T', r = some (x2, j + o, F', T') ∧ Gw E E' F F' ∧ T'.length + S.length = T.length + S'.length
theorem fnc3_on {ts : List X.Tok} {f : Nat} {x x' : Decl} {i j : Nat} {E E' : List Exp} {S S' : List Stmt} (h : fnc3 ts f x i E S = some (x', j, E', S')) : i + 3 ≤ j := by
  unfold fnc3 at h
  split at h
  · split at h
    · split at h
      · split at h
        · split at h
          · injection h with h; injection h with _ h; injection h with h _; omega
          · cases h
        · rw [Option.bind_eq_some_iff] at h
          obtain ⟨⟨l, k, E1, S1⟩, hb, h⟩ := h
          have := (blk_on ts _).1 _ _ _ _ _ _ _ _ hb
          injection h with h; injection h with _ h; injection h with h _
          dsimp only at h
          omega
      · cases h
    · cases h
  · cases h
theorem lie_fnc3 (L : Lie A C o p) {f g : Nat} (hf : f ≤ g) {x x' x2 : Decl} (hx : x2.ext = x.ext) {i j : Nat} {E E' : List Exp} {S S' : List Stmt} (F : List Exp) (T : List Stmt) (h : fnc3 A f x i E S = some (x', j, E', S')) (hj : j ≤ p) : JD (fnc3 C g x2 (i + o) F T) o j E E' S S' F T := by
  have hij := fnc3_on h
  unfold fnc3 at h ⊢
  rw [L.tx (k := i) (by omega) rfl, L.kd (k := i + 1) (by omega) (show i + o + 1 = i + 1 + o by omega), L.nm (k := i + 1) (by omega) (show i + o + 1 = i + 1 + o by omega), L.tx (k := i + 2) (by omega) (show i + o + 2 = i + 2 + o by omega), hx]
  split at h
  · rename_i h0
    rw [if_pos h0]
    split at h
    · rename_i h1
      rw [if_pos h1]
      split at h
      · rename_i h2
        rw [if_pos h2]
        split at h
        · rename_i h3
          rw [if_pos h3]
          split at h
          · rename_i h4
            rw [if_pos h4]
            injection h with h; injection h with h0 h; injection h with h h'; injection h' with h' h''; subst h h' h''
            exact ⟨_, _, _, by rw [show i + 3 + o = i + o + 3 by omega], Gw.refl _ _, by omega⟩
          · cases h
        · rename_i h3
          rw [if_neg h3]
          rw [Option.bind_eq_some_iff] at h
          obtain ⟨⟨l, k, E1, S1⟩, hb, h⟩ := h
          injection h with h; injection h with h0 h; injection h with h h'; injection h' with h' h''; subst h h' h''
          dsimp only at hj
          obtain ⟨l2, F2, T2, e2, hg2, ht2⟩ := (lie_blk L f g hf).1 _ _ _ _ _ _ _ _ F T hb hj
          rw [show i + o + 2 = i + 2 + o by omega, e2, Option.bind_some]
          exact ⟨_, _, _, rfl, hg2, ht2⟩
      · cases h
    · cases h
  · cases h
theorem fnc2_on {ts : List X.Tok} {f : Nat} {x x' : Decl} {i j : Nat} {E E' : List Exp} {S S' : List Stmt} (h : fnc2 ts f x i E S = some (x', j, E', S')) : i + 4 ≤ j := by
  unfold fnc2 at h
  split at h
  · split at h
    · split at h
      · have := fnc3_on h; omega
      · cases h
    · have := fnc3_on h; omega
  · cases h
theorem lie_fnc2 (L : Lie A C o p) {f g : Nat} (hf : f ≤ g) {x x' x2 : Decl} (hx : x2.ext = x.ext) {i j : Nat} {E E' : List Exp} {S S' : List Stmt} (F : List Exp) (T : List Stmt) (h : fnc2 A f x i E S = some (x', j, E', S')) (hj : j ≤ p) : JD (fnc2 C g x2 (i + o) F T) o j E E' S S' F T := by
  have hij := fnc2_on h
  unfold fnc2 at h ⊢
  rw [L.tx (k := i) (by omega) rfl, L.tx (k := i + 1) (by omega) (show i + o + 1 = i + 1 + o by omega), L.kd (k := i + 2) (by omega) (show i + o + 2 = i + 2 + o by omega)]
  split at h
  · rename_i h0
    rw [if_pos h0]
    split at h
    · rename_i h1
      rw [if_pos h1]
      split at h
      · rename_i h2
        rw [if_pos h2, show i + o + 3 = i + 3 + o by omega]
        refine lie_fnc3 L hf ?_ F T h hj
        exact hx
      · cases h
    · rename_i h1
      rw [if_neg h1, show i + o + 1 = i + 1 + o by omega]
      exact lie_fnc3 L hf hx F T h hj
  · cases h
theorem pl_on {ts : List X.Tok} : ∀ (f i : Nat) (l l' : List By) (j : Nat), pl ts f i l = some (l', j) → i ≤ j
  | 0, _, _, _, _, h => by simp [pl] at h
  | f + 1, i, l, l', j, h => by
    rw [pl] at h
    split at h
    · split at h
      · have := pl_on f _ _ _ _ h; omega
      · cases h
    · injection h with h; injection h with _ h; omega
theorem lie_pl (L : Lie A C o p) : ∀ (f g i : Nat) (l l' l2 : List By) (j : Nat), f ≤ g → pl A f i l = some (l', j) → j < p → ∃ l3, pl C g (i + o) l2 = some (l3, j + o)
  | 0, _, _, _, _, _, _, _, h, _ => by simp [pl] at h
  | f + 1, 0, _, _, _, _, _, h, _, _ => by omega
  | f + 1, g + 1, i, l, l', l2, j, hf, h, hj => by
    have hij := pl_on _ _ _ _ _ h
    rw [pl] at h ⊢
    rw [L.tx (k := i) (by omega) rfl]
    split at h
    · rename_i h0
      rw [if_pos h0]
      split at h
      · rename_i h1
        have hij := pl_on _ _ _ _ _ h
        rw [if_pos (by rw [L.kd (k := i + 1) (by omega) (by omega)]; exact h1), show i + o + 2 = i + 2 + o by omega]
        exact lie_pl L f g _ _ _ _ _ (by omega) h hj
      · cases h
    · rename_i h0
      rw [if_neg h0]
      injection h with h; injection h with h0 h; subst h
      exact ⟨_, rfl⟩
theorem prm_on {ts : List X.Tok} {i j : Nat} {l : List By} (h : prm ts i = some (l, j)) : i ≤ j := by
  unfold prm at h
  split at h
  · injection h with h; injection h with _ h; omega
  · split at h
    · have := pl_on _ _ _ _ _ h; omega
    · cases h
theorem lie_prm (L : Lie A C o p) {i j : Nat} {l : List By} (h : prm A i = some (l, j)) (hj : j < p) : ∃ l3, prm C (i + o) = some (l3, j + o) := by
  have hij := prm_on h
  unfold prm at h ⊢
  rw [L.tx (k := i) (by omega) rfl, L.kd (k := i) (by omega) rfl]
  split at h
  · rename_i h0
    rw [if_pos h0]
    injection h with h; injection h with h0 h; subst h
    exact ⟨_, rfl⟩
  · rename_i h0
    rw [if_neg h0]
    split at h
    · rename_i h1
      rw [if_pos h1, show i + o + 1 = i + 1 + o by omega]
      exact lie_pl L _ _ _ _ _ _ _ (by have := L.len; omega) h hj
    · cases h
theorem lie_fnc (L : Lie A C o p) {f g : Nat} (hf : f ≤ g) {x x' x2 : Decl} (hx : x2.ext = x.ext) {i j : Nat} {E E' : List Exp} {S S' : List Stmt} (F : List Exp) (T : List Stmt) (h : fnc A f x i E S = some (x', j, E', S')) (hj : j ≤ p) : JD (fnc C g x2 (i + o) F T) o j E E' S S' F T := by
  unfold fnc at h ⊢
  rw [hx]
  split at h
  · rename_i h0
    rw [if_pos h0]
    split at h
    · rename_i h1
      split at h
      · rename_i h2
        have hij := fnc2_on h
        rw [if_pos (by rw [L.kd (k := i) (by omega) rfl]; exact h1), if_pos (by rw [L.nm (k := i) (by omega) rfl]; exact h2), show i + o + 1 = i + 1 + o by omega]
        refine lie_fnc2 L hf ?_ F T h hj
        rfl
      · cases h
    · cases h
  · rename_i h0
    rw [if_neg h0]
    rw [Option.bind_eq_some_iff] at h
    obtain ⟨⟨l, k⟩, hb, h⟩ := h
    have hij := fnc2_on h
    dsimp only at h hij
    obtain ⟨l3, e⟩ := lie_prm L hb (by omega)
    rw [e, Option.bind_some]
    dsimp only
    refine lie_fnc2 L hf ?_ F T h hj
    rfl
theorem lie_nmb2 (L : Lie A C o p) {x x' x2 : Decl} {i j : Nat} {E E' : List Exp} {S S' : List Stmt} (F : List Exp) (T : List Stmt) (h : nmb2 A x i E S = some (x', j, E', S')) (hj : j ≤ p) : JD (nmb2 C x2 (i + o) F T) o j E E' S S' F T ∧ j = i + 3 := by
  unfold nmb2 at h ⊢
  split at h
  · rename_i h0
    split at h
    · rename_i h1
      split at h
      · rename_i h2
        injection h with h; injection h with h0 h; injection h with h h'; injection h' with h' h''; subst h h' h''
        rw [if_pos (by rw [L.tx (k := i) (by omega) rfl]; assumption), if_pos (by rw [L.kd (k := i + 1) (by omega) (by omega)]; exact h1), if_pos (by rw [L.tx (k := i + 2) (by omega) (by omega)]; exact h2)]
        exact ⟨⟨_, _, _, by rw [show i + 3 + o = i + o + 3 by omega], Gw.refl _ _, by omega⟩, rfl⟩
      · cases h
    · cases h
  · cases h
theorem lie_nmb (L : Lie A C o p) {f g : Nat} (hf : f ≤ g) {x x' x2 : Decl} (hx : x2.ext = x.ext) {i j : Nat} {E E' : List Exp} {S S' : List Stmt} (F : List Exp) (T : List Stmt) (h : nmb A f x i E S = some (x', j, E', S')) (hij : i + 1 < j) (hj : j ≤ p) : JD (nmb C g x2 (i + o) F T) o j E E' S S' F T := by
  unfold nmb at h ⊢
  rw [L.tx (k := i) (by omega) rfl]
  split at h
  · rename_i h0
    rw [if_pos h0, show i + o + 1 = i + 1 + o by omega]
    refine lie_fnc L hf ?_ F T h hj
    exact hx
  · rename_i h0
    rw [if_neg h0]
    split at h
    · rename_i h1
      rw [if_pos h1]
      split at h
      · rename_i h2
        split at h
        · rename_i h3
          split at h
          · cases h
          · rename_i h4
            split at h
            · rename_i h5
              have hn := (lie_nmb2 (x2 := { x2 with kind := 4, n := ((tk C (i + o + 1)).n : Int) }) L F T h hj)
              have e1 := hn.2
              rw [if_pos (by rw [L.kd (k := i + 1) (by omega) (by omega)]; exact h2), if_pos (by rw [L.nm (k := i + 1) (by omega) (by omega)]; exact h3), if_neg (by rw [L.nm (k := i + 1) (by omega) (by omega)]; exact h4), if_pos (by rw [L.tx (k := i + 2) (by omega) (by omega)]; exact h5), show i + o + 3 = i + 3 + o by omega]
              exact hn.1
            · cases h
        · cases h
      · cases h
    · rename_i h1
      rw [if_neg h1]
      exact (lie_nmb2 L F T h hj).1
theorem obj_on {ts : List X.Tok} {b : Bool} {i j : Nat} {k : Int} (h : obj ts b i = some (k, j)) : j = i + 1 := by
  unfold obj at h
  split at h
  · injection h with h; injection h with _ h; omega
  · split at h
    · split at h <;> (injection h with h; injection h with _ h; omega)
    · split at h
      · injection h with h; injection h with _ h; omega
      · cases h
theorem lie_obj (L : Lie A C o p) {b : Bool} {i j : Nat} {k : Int} (h : obj A b i = some (k, j)) (hj : j ≤ p) : obj C b (i + o) = some (k, j + o) := by
  have hij := obj_on h
  unfold obj at h ⊢
  rw [L.tx (k := i) (by omega) rfl]
  subst hij
  rw [show i + 1 + o = i + o + 1 by omega]
  split at h
  · rename_i h0
    rw [if_pos h0]
    injection h with h; injection h with h _; subst h; rfl
  · rename_i h0
    rw [if_neg h0]
    split at h
    · rename_i h1
      rw [if_pos h1]
      split at h
      · rename_i h2
        rw [if_pos h2]
        injection h with h; injection h with h _; subst h; rfl
      · rename_i h2
        rw [if_neg h2]
        injection h with h; injection h with h _; subst h; rfl
    · rename_i h1
      rw [if_neg h1]
      split at h
      · rename_i h2
        rw [if_pos h2]
        injection h with h; injection h with h _; subst h; rfl
      · cases h
theorem nmb_on {ts : List X.Tok} {f : Nat} {x x' : Decl} {i j : Nat} {E E' : List Exp} {S S' : List Stmt} (h : nmb ts f x i E S = some (x', j, E', S')) : i + 2 ≤ j := by
  have hn2 : ∀ {x : Decl} {i : Nat}, nmb2 ts x i E S = some (x', j, E', S') → i + 3 ≤ j := by
    intro x i h
    unfold nmb2 at h
    split at h
    · split at h
      · split at h
        · injection h with h; injection h with _ h; injection h with h _; omega
        · cases h
      · cases h
    · cases h
  unfold nmb at h
  split at h
  · unfold fnc at h
    split at h
    · split at h
      · split at h
        · have := fnc2_on h; omega
        · cases h
      · cases h
    · rw [Option.bind_eq_some_iff] at h
      obtain ⟨⟨l, k⟩, hb, h⟩ := h
      have := prm_on hb
      have := fnc2_on h
      dsimp only at this
      omega
  · split at h
    · split at h
      · split at h
        · split at h
          · cases h
          · split at h
            · have := hn2 h; omega
            · cases h
        · cases h
      · cases h
    · have := hn2 h; omega
theorem dcl2_on {ts : List X.Tok} {f : Nat} {b : Bool} {x' : Decl} {i j : Nat} {E E' : List Exp} {S S' : List Stmt} (h : dcl2 ts f b i E S = some (x', j, E', S')) : i + 3 ≤ j := by
  unfold dcl2 at h
  split at h
  · split at h
    · have := nmb_on h; omega
    · cases h
  · rw [Option.bind_eq_some_iff] at h
    obtain ⟨⟨k, i1⟩, hb, h⟩ := h
    have := obj_on hb
    dsimp only at h
    split at h
    · split at h
      · split at h
        · split at h
          · split at h
            · injection h with h; injection h with _ h; injection h with h _; omega
            · cases h
          · cases h
        · cases h
      · split at h
        · injection h with h; injection h with _ h; injection h with h _; omega
        · cases h
    · cases h
theorem lie_dcl2 (L : Lie A C o p) {f g : Nat} (hf : f ≤ g) {b : Bool} {x' : Decl} {i j : Nat} {E E' : List Exp} {S S' : List Stmt} (F : List Exp) (T : List Stmt) (h : dcl2 A f b i E S = some (x', j, E', S')) (hj : j ≤ p) : JD (dcl2 C g b (i + o) F T) o j E E' S S' F T := by
  have hij := dcl2_on h
  unfold dcl2 at h ⊢
  rw [L.tx (k := i) (by omega) rfl, L.kd (k := i + 1) (by omega) (show i + o + 1 = i + 1 + o by omega)]
  split at h
  · rename_i h0
    rw [if_pos h0]
    split at h
    · rename_i h1
      rw [if_pos h1, show i + o + 2 = i + 2 + o by omega]
      have hn := nmb_on h
      refine lie_nmb L hf ?_ F T h (by omega) hj
      rfl
    · cases h
  · rename_i h0
    rw [if_neg h0]
    rw [Option.bind_eq_some_iff] at h
    obtain ⟨⟨k, i1⟩, hb, h⟩ := h
    have hi1 := obj_on hb
    subst hi1
    dsimp only at h
    rw [lie_obj L hb (by omega), Option.bind_some]
    dsimp only
    split at h
    · rename_i h1
      rw [if_pos (by rw [L.kd (k := i + 1) (by omega) (by omega)]; exact h1)]
      split at h
      · rename_i h2
        rw [if_pos h2]
        split at h
        · rename_i h3
          split at h
          · rename_i h4
            split at h
            · rename_i h5
              injection h with h; injection h with h0 h; injection h with h h'; injection h' with h' h''; subst h h' h''
              rw [if_pos (by rw [L.kd (k := i + 1 + 1) (by omega) (by omega)]; exact h3), if_pos (by rw [L.nm (k := i + 1 + 1) (by omega) (by omega)]; exact h4), if_pos (by rw [L.tx (k := i + 1 + 2) (by omega) (by omega)]; exact h5)]
              exact ⟨_, _, _, by rw [show i + 1 + 3 + o = i + 1 + o + 3 by omega], Gw.refl _ _, by omega⟩
            · cases h
          · cases h
        · cases h
      · rename_i h2
        rw [if_neg h2]
        split at h
        · rename_i h3
          injection h with h; injection h with h0 h; injection h with h h'; injection h' with h' h''; subst h h' h''
          rw [if_pos (by rw [L.tx (k := i + 1 + 1) (by omega) (by omega)]; exact h3)]
          exact ⟨_, _, _, by rw [show i + 1 + 2 + o = i + 1 + o + 2 by omega], Gw.refl _ _, by omega⟩
        · cases h
    · cases h
theorem dcl_on {ts : List X.Tok} {f : Nat} {x' : Decl} {i j : Nat} {E E' : List Exp} {S S' : List Stmt} (h : dcl ts f i E S = some (x', j, E', S')) : i + 3 ≤ j := by
  unfold dcl at h
  split at h
  · split at h
    · rw [Option.bind_eq_some_iff] at h
      obtain ⟨⟨l, k, E1, S1⟩, hb, h⟩ := h
      have := (blk_on ts _).1 _ _ _ _ _ _ _ _ hb
      injection h with h; injection h with _ h; injection h with h _
      dsimp only at h
      omega
    · cases h
  · split at h
    · have := dcl2_on h; omega
    · exact dcl2_on h
theorem lie_dcl (L : Lie A C o p) {f g : Nat} (hf : f ≤ g) {x' : Decl} {i j : Nat} {E E' : List Exp} {S S' : List Stmt} (F : List Exp) (T : List Stmt) (h : dcl A f i E S = some (x', j, E', S')) (hj : j ≤ p) : JD (dcl C g (i + o) F T) o j E E' S S' F T := by
  have hij := dcl_on h
  unfold dcl at h ⊢
  rw [L.tx (k := i) (by omega) rfl, L.kd (k := i + 1) (by omega) (show i + o + 1 = i + 1 + o by omega)]
  split at h
  · rename_i h0
    rw [if_pos h0]
    split at h
    · rename_i h1
      rw [if_pos h1]
      rw [Option.bind_eq_some_iff] at h
      obtain ⟨⟨l, k, E1, S1⟩, hb, h⟩ := h
      injection h with h; injection h with h0 h; injection h with h h'; injection h' with h' h''; subst h h' h''
      dsimp only at hj
      obtain ⟨l2, F2, T2, e2, hg2, ht2⟩ := (lie_blk L f g hf).1 _ _ _ _ _ _ _ _ F T hb hj
      rw [show i + o + 2 = i + 2 + o by omega, e2, Option.bind_some]
      exact ⟨_, _, _, rfl, hg2, ht2⟩
    · cases h
  · rename_i h0
    rw [if_neg h0]
    split at h
    · rename_i h1
      rw [if_pos h1, show i + o + 1 = i + 1 + o by omega]
      exact lie_dcl2 L hf F T h hj
    · rename_i h1
      rw [if_neg h1]
      exact lie_dcl2 L hf F T h hj
/-- How much fuel there is tells nothing. -/
theorem dl_fuel (ts : List X.Tok) (F : Nat) : ∀ (f g i : Nat) (D : List Decl) (E : List Exp) (S : List Stmt), ts.length + 1 ≤ f + i → ts.length + 1 ≤ g + i → 1 ≤ f → 1 ≤ g → dl ts F f i D E S = dl ts F g i D E S
  | 0, _, _, _, _, _, _, _, h, _ => by omega
  | _, 0, _, _, _, _, _, _, _, h => by omega
  | f + 1, g + 1, i, D, E, S, h1, h2, _, _ => by
    rw [dl, dl]
    by_cases h0 : (tk ts i).kind = 0
    · rw [if_pos h0, if_pos h0]
    · rw [if_neg h0, if_neg h0]
      have hi := in_of_kind h0
      cases hd : dcl ts F i E S with
      | none => rfl
      | some q =>
        obtain ⟨x, j, E', S'⟩ := q
        have := dcl_on hd
        rw [Option.bind_some, Option.bind_some]
        exact dl_fuel ts F f g _ _ _ _ (by dsimp only; omega) (by dsimp only; omega) (by omega) (by omega)
/-- All declarations that stand ahead of the end. -/
theorem lie_dl (L : Lie A C o p) (G : Good A) (hA : A.length = p + 1) (hp : ∀ i, i < p → (tk A i).kind ≠ 0) (h0 : (tk A p).kind = 0) {fA fC : Nat} (hf : fA ≤ fC) : ∀ (f i : Nat) (D : List Decl) (E : List Exp) (S : List Stmt) (M : Mod) (g : Nat) (D2 : List Decl) (F : List Exp) (T : List Stmt), i ≤ p → C.length + 1 ≤ g + (i + o) → 1 ≤ g → dl A fA f i D E S = some M → ∃ g' D' F' T', dl C fC g (i + o) D2 F T = dl C fC g' (p + o) D' F' T' ∧ C.length + 1 ≤ g' + (p + o) ∧ 1 ≤ g' ∧ Gw E M.exps F F' ∧ D'.length + D.length = D2.length + M.decls.length ∧ T'.length + S.length = T.length + M.stmts.length
  | 0, _, _, _, _, _, _, _, _, _, _, _, _, h => by simp [dl] at h
  | f + 1, i, D, E, S, M, 0, D2, F, T, _, _, h, _ => by omega
  | f + 1, i, D, E, S, M, g + 1, D2, F, T, hi, hg, _, h => by
    rw [dl] at h
    by_cases he : i = p
    · subst he
      rw [if_pos h0] at h
      injection h with h
      subst h
      exact ⟨g + 1, D2, F, T, rfl, hg, by omega, Gw.refl _ _, by simp only [Nat.add_comm], by simp only [Nat.add_comm]⟩
    · rw [if_neg (hp i (by omega))] at h
      rw [Option.bind_eq_some_iff] at h
      obtain ⟨⟨x, j, E1, S1⟩, hb, h⟩ := h
      dsimp only at h
      have hon := dcl_on hb
      have hlen := dcl_len G hb
      have hjp : j ≤ p := by omega
      obtain ⟨x2, F1, T1, e1, hg1, ht1⟩ := lie_dcl L hf F T hb hjp
      rw [dl, if_neg (by rw [L.kd (k := i) (by omega) rfl]; exact hp i (by omega)), e1, Option.bind_some]
      dsimp only
      obtain ⟨g', D', F', T', e2, a1, a2, a3, a4, a5⟩ := lie_dl L G hA hp h0 hf f j _ E1 S1 M g (D2 ++ [x2]) F1 T1 hjp (by omega) (by
        have := L.kd (k := i) (by omega) rfl
        have hk := in_of_kind (ts := C) (i := i + o) (by rw [this]; exact hp i (by omega))
        rcases Nat.eq_zero_or_pos g with hz | hz
        · exfalso; subst hz; omega
        · exact hz) h
      rw [List.length_append, List.length_append] at a4
      simp only [List.length_cons, List.length_nil] at a4
      exact ⟨g', D', F', T', e2, a1, a2, hg1.trans a3, by omega, by omega⟩
theorem lexF_count : ∀ (f i : Nat) (l : By) (ts : List X.Tok), lexF f i l = some ts → ts.length ≤ l.length
  | f, i, [], ts, h => by rw [X.lexF_nil] at h; cases h; simp
  | 0, i, c :: l, ts, h => by simp [lexF] at h
  | f + 1, i, c :: l, ts, h => by
    unfold lexF at h
    cases e : X.step (c :: l) with
    | none => rw [e] at h; simp at h
    | some q =>
      obtain ⟨k, n, v⟩ := q
      rw [e] at h
      simp only at h
      obtain ⟨us, h1, h2⟩ := Option.map_eq_some_iff.1 h
      obtain ⟨hn, hm⟩ := X.step_size (by simp) e
      have := lexF_count f (i + n) _ us h1
      rw [List.length_drop] at this
      split at h2
      · subst h2; omega
      · subst h2; simp only [List.length_cons] at *; omega
theorem lex_count {l : By} {L : List X.Tok} (h : X.lex l = (L, 0)) : L.length ≤ l.length + 1 := by
  obtain ⟨-, ts, h1, rfl, -⟩ := X.lex_parts h
  have := lexF_count _ _ _ _ h1
  rw [List.length_append]
  simp only [List.length_cons, List.length_nil]
  omega
theorem ends_of {l : By} {L : List X.Tok} (h : X.lex l = (L, 0)) : ∃ p, L.length = p + 1 ∧ (∀ i, i < p → (tk L i).kind ≠ 0) ∧ (tk L p).kind = 0 := by
  have hs := X.std_of h
  have hn := hs.ne
  refine ⟨L.length - 1, by omega, fun i hi => ?_, ?_⟩
  · intro e
    exact absurd ((hs.each i (by omega)).2.2.2.1 e) (by omega)
  · exact (hs.each (L.length - 1) (by omega)).2.2.2.2 rfl
theorem joined_mod {s t : By} {A B : List X.Tok} {M N : Mod} (hs : X.lex s = (A, 0)) (ht : X.lex t = (B, 0)) (h1 : s.length ≤ 1500) (h2 : t.length ≤ 1500) (hM : modOf A = some M) (hN : modOf B = some N) : ∃ K N2, parse (s ++ 10 :: t) = (some K, 0) ∧ K.decls.length = M.decls.length + N.decls.length ∧ K.stmts.length = M.stmts.length + N.stmts.length ∧ K.exps = M.exps ++ N2 ∧ N2.length = N.exps.length := by
  have cA := lex_count hs
  have cB := lex_count ht
  have hj := X.lex_joined hs ht (by omega) (by omega) (by omega) (by omega)
  obtain ⟨p, pA, kA, eA⟩ := ends_of hs
  obtain ⟨q, pB, kB, eB⟩ := ends_of ht
  have gA := good_lex hs
  have gB := good_lex ht
  unfold parse
  rw [hj, if_pos rfl]
  obtain ⟨C, hC⟩ : ∃ C, A.take (A.length - 1) ++ B.map (X.shift (s.length + 1)) = C := ⟨_, rfl⟩
  rw [hC]
  have hlen : C.length = p + (q + 1) := by rw [← hC, List.length_append, List.length_take, List.length_map]; omega
  have htl : (A.take (A.length - 1)).length = p := by rw [List.length_take]; omega
  have cl : ∀ k, k < p → tk C k = tk A k := fun k hk => by
    unfold tk
    rw [← hC, List.getD_eq_getElem?_getD, List.getElem?_append_left (by omega), List.getElem?_take, if_pos (by omega), ← List.getD_eq_getElem?_getD]
  have cr : ∀ k, k < q + 1 → tk C (k + p) = X.shift (s.length + 1) (tk B k) := fun k hk => by
    unfold tk
    rw [← hC, List.getD_eq_getElem?_getD, List.getElem?_append_right (by omega), htl, show k + p - p = k by omega, List.getElem?_map, List.getD_eq_getElem?_getD, List.getElem?_eq_getElem (by omega)]
    rfl
  have LA : Lie A C 0 p := ⟨by omega, fun hk e => by rw [e, Nat.add_zero, cl _ hk], fun hk e => by rw [e, Nat.add_zero, cl _ hk], fun hk e => by rw [e, Nat.add_zero, cl _ hk]⟩
  have LB : Lie B C p q := ⟨by omega, fun hk e => by subst e; rw [cr _ (by omega)]; rfl, fun hk e => by subst e; rw [cr _ (by omega)]; rfl, fun hk e => by subst e; rw [cr _ (by omega)]; rfl⟩
  obtain ⟨g1, D1, E1, S1, e1, a1, a2, a3, a4, a5⟩ := lie_dl LA gA pA kA eA (show 3 * A.length + 4 ≤ 3 * C.length + 4 by omega) _ 0 [] [] [] M (C.length + 1) [] [] [] (by omega) (by omega) (by omega) hM
  obtain ⟨g2, D2, E2, S2, e2, b1, b2, b3, b4, b5⟩ := lie_dl LB gB pB kB eB (show 3 * B.length + 4 ≤ 3 * C.length + 4 by omega) _ 0 [] [] [] N g1 D1 E1 S1 (by omega) (by omega) a2 hN
  have hend : (tk C (q + p)).kind = 0 := by rw [cr q (by omega)]; exact eB
  have hK : modOf C = some ⟨D2, S2, E2⟩ := by
    unfold modOf
    rw [show (0 : Nat) = 0 + 0 from rfl, e1, show p + 0 = 0 + p by omega, e2]
    obtain ⟨g2, rfl⟩ : ∃ g, g2 = g + 1 := ⟨g2 - 1, by omega⟩
    rw [dl, if_pos hend]
  rw [hK]
  obtain ⟨U, V, u1, u2, u3, u4⟩ := a3
  obtain ⟨U2, V2, v1, v2, v3, v4⟩ := b3
  have hUV := u4 rfl
  simp only [List.nil_append] at u1 u2 v1
  refine ⟨_, V2, rfl, ?_, ?_, ?_, ?_⟩
  · dsimp only; simp only [List.length_nil] at a4 b4; omega
  · dsimp only; simp only [List.length_nil] at a5 b5; omega
  · dsimp only; rw [v2, u2, ← hUV, u1]
  · rw [v1]; omega
end Go.Proofs.YtikknlkdbjaonaaGreatDoor.Y

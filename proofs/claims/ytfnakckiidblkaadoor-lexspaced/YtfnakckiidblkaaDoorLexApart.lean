/- Sources one behind the other, with a blank between. -/
import Derived.Test.YtfnakckiidblkaaDoorLexStandMath
namespace Go.Proofs.YtfnakckiidblkaaDoor
set_option linter.unusedVariables false
set_option linter.unusedSimpArgs false

namespace X
def stepX (x y nt : Nat) (nu wo : Option (Nat × Nat × Nat)) : Option (Nat × Nat × Nat) :=
  if x = 32 ∨ x = 9 ∨ x = 10 then some (0, 1, 0)
  else if x = 38 ∨ x = 124 then some (4, if y = x then 2 else 1, 0)
  else if x = 60 ∨ x = 62 then some (4, if y = x ∨ y = 61 then 2 else 1, 0)
  else if x = 61 ∨ x = 33 then some (4, if y = 61 then 2 else 1, 0)
  else if x = 47 then (if y = 47 then some (0, nt, 0) else some (4, 1, 0))
  else if sgn x = true then some (4, 1, 0)
  else if dg x = true then nu
  else wo
theorem step_eq (l : By) : step l = stepX (first l) (first (l.drop 1)) (note l) (number l) (wordOrName l) := rfl
theorem stepX_eq {x y y' nt nt' : Nat} {nu wo : Option (Nat × Nat × Nat)} (hy : y' = y ∨ (y = 0 ∧ (y' = 0 ∨ y' = 10 ∨ y' = 32))) (hn : x = 47 → y = 47 → nt' = nt) : stepX x y' nt' nu wo = stepX x y nt nu wo := by
  rcases hy with rfl | ⟨rfl, hy⟩
  · by_cases h : x = 47 ∧ y' = 47
    · rw [hn h.1 h.2]
    · unfold stepX
      by_cases h1 : x = 47
      · have h2 : ¬ y' = 47 := fun e => h ⟨h1, e⟩
        simp [h1, h2]
      · simp [h1]
  · unfold stepX
    by_cases h1 : x = 32 ∨ x = 9 ∨ x = 10
    · rw [if_pos h1, if_pos h1]
    rw [if_neg h1, if_neg h1]
    by_cases h2 : x = 38 ∨ x = 124
    · rw [if_pos h2, if_pos h2, if_neg (by omega), if_neg (by omega)]
    rw [if_neg h2, if_neg h2]
    by_cases h3 : x = 60 ∨ x = 62
    · rw [if_pos h3, if_pos h3, if_neg (by omega), if_neg (by omega)]
    rw [if_neg h3, if_neg h3]
    by_cases h4 : x = 61 ∨ x = 33
    · rw [if_pos h4, if_pos h4, if_neg (by omega), if_neg (by omega)]
    rw [if_neg h4, if_neg h4]
    by_cases h5 : x = 47
    · rw [if_pos h5, if_pos h5, if_neg (by omega), if_neg (by omega)]
    rw [if_neg h5, if_neg h5]
theorem tw_append (p : UInt8 → Bool) {c : UInt8} (hc : p c = false) (l t : By) : (l ++ c :: t).takeWhile p = l.takeWhile p := by
  induction l with
  | nil => simp [List.takeWhile_cons, hc]
  | cons a l ih =>
    cases h : p a
    · simp [List.takeWhile_cons, h]
    · simp [List.takeWhile_cons, h, ih]
theorem first_append {l t : By} (hl : l ≠ []) : first (l ++ t) = first l := by
  cases l with
  | nil => exact absurd rfl hl
  | cons a l => rfl
theorem second_append {l t : By} {c : UInt8} (hl : l ≠ []) (hc : c.toNat = 10 ∨ c.toNat = 32) : first ((l ++ c :: t).drop 1) = first (l.drop 1) ∨ (first (l.drop 1) = 0 ∧ (first ((l ++ c :: t).drop 1) = 0 ∨ first ((l ++ c :: t).drop 1) = 10 ∨ first ((l ++ c :: t).drop 1) = 32)) := by
  match l, hl with
  | [a], _ => right; refine ⟨rfl, ?_⟩; show c.toNat = 0 ∨ c.toNat = 10 ∨ c.toNat = 32; omega
  | a :: b :: l, _ => left; rfl
/-- A line feed behind a source, or a space behind what begins no note, turns nothing of what it begins with. -/
theorem step_sep {l t : By} {c : UInt8} (hl : l ≠ []) (hc : c.toNat = 10 ∨ (c.toNat = 32 ∧ ¬ (first l = 47 ∧ first (l.drop 1) = 47))) : step (l ++ c :: t) = step l := by
  have hcc : c.toNat = 10 ∨ c.toNat = 32 := by omega
  have hpd : pd c = false := by rcases hcc with h | h <;> simp [pd, dg, h]
  have hpin : pin c = false := by rcases hcc with h | h <;> simp [pin, inn, lt, dg, h]
  have e1 : number (l ++ c :: t) = number l := by unfold number span; rw [tw_append pd hpd, tw_append pin hpin]
  have e2 : wordOrName (l ++ c :: t) = wordOrName l := by unfold wordOrName span; rw [tw_append pin hpin]
  rw [step_eq, step_eq l, first_append hl, e1, e2]
  refine stepX_eq (second_append hl hcc) fun h1 h2 => ?_
  rcases hc with h | h
  · unfold note span
    rw [tw_append _ (by simp [h])]
  · exact absurd ⟨h1, h2⟩ h.2
theorem step_blank {c : UInt8} {t : By} (hc : c.toNat = 10 ∨ c.toNat = 32 ∨ c.toNat = 9) : step (c :: t) = some (0, 1, 0) := by
  rw [step_eq]
  have : first (c :: t) = c.toNat := rfl
  rw [this]
  unfold stepX
  rw [if_pos (by omega)]
theorem lexF_nil (f i : Nat) : lexF f i [] = some [] := by unfold lexF; rfl
theorem lexF_blank {c : UInt8} {t : By} {i : Nat} (hc : c.toNat = 10 ∨ c.toNat = 32 ∨ c.toNat = 9) : lexF (c :: t).length i (c :: t) = lexF t.length (i + 1) t := by
  rw [lexF_step (by simp), step_blank hc]
  simp
/-- Two sources with a line feed between. -/
theorem lexF_join (t : By) : ∀ (n : Nat) (l : By) (i : Nat), l.length ≤ n → lexF (l ++ 10 :: t).length i (l ++ 10 :: t) = match lexF l.length i l with
    | none => none
    | some ts => (lexF t.length (i + l.length + 1) t).map (ts ++ ·)
  | _, [], i, _ => by
    rw [List.nil_append, lexF_blank (Or.inl rfl), lexF_nil]
    simp
  | 0, c :: l, i, h => by simp at h
  | n + 1, c :: l, i, h => by
    have hne : (c :: l) ≠ [] := by simp
    rw [lexF_step (by simp), lexF_step hne, step_sep hne (Or.inl rfl)]
    cases e : step (c :: l) with
    | none => rfl
    | some q =>
      obtain ⟨k, m, v⟩ := q
      obtain ⟨hn, hm⟩ := step_size hne e
      have hd : ((c :: l) ++ 10 :: t).drop m = (c :: l).drop m ++ 10 :: t := by rw [List.drop_append_of_le_length hm]
      have htk : ((c :: l) ++ 10 :: t).take m = (c :: l).take m := by rw [List.take_append_of_le_length hm]
      simp only
      rw [hd, htk, lexF_join t n ((c :: l).drop m) (i + m) (by simp at h ⊢; omega)]
      cases lexF ((c :: l).drop m).length (i + m) ((c :: l).drop m) with
      | none => rfl
      | some us =>
        have hlen : i + m + ((c :: l).drop m).length + 1 = i + (c :: l).length + 1 := by rw [List.length_drop]; omega
        simp only [Option.map_some]
        rw [hlen]
        cases lexF t.length (i + (c :: l).length + 1) t with
        | none => rfl
        | some vs => by_cases hk : k = 0 <;> simp [hk]
def shift (d : Nat) (t : Tok) : Tok := ⟨t.kind, t.text, t.n, t.at' + d⟩
theorem lexF_shift (d : Nat) : ∀ (f i : Nat) (l : By), lexF f (i + d) l = (lexF f i l).map (List.map (shift d))
  | f, i, [] => by rw [lexF_nil, lexF_nil]; rfl
  | 0, i, c :: l => rfl
  | f + 1, i, c :: l => by
    unfold lexF
    cases e : step (c :: l) with
    | none => rfl
    | some q =>
      obtain ⟨k, n, v⟩ := q
      simp only
      rw [show i + d + n = i + n + d by omega, lexF_shift d f (i + n) _, Option.map_map, Option.map_map]
      congr 1
      funext us
      by_cases hk : k = 0 <;> simp [hk, shift]

/-! ### A token alone -/
theorem first_take' {l : By} {n : Nat} (hn : 1 ≤ n) : first (l.take n) = first l := by
  cases l with
  | nil => simp
  | cons c l => cases n with
    | zero => omega
    | succ n => rfl
theorem tw_tw (p : UInt8 → Bool) (l : By) : (l.takeWhile p).takeWhile p = l.takeWhile p := by
  induction l with
  | nil => rfl
  | cons a l ih => cases h : p a <;> simp [List.takeWhile_cons, h, ih]
theorem tw_sub (p q : UInt8 → Bool) (hpq : ∀ c, p c = true → q c = true) (l : By) : (l.takeWhile p).takeWhile q = l.takeWhile p := by
  induction l with
  | nil => rfl
  | cons a l ih =>
    cases h : p a
    · simp [List.takeWhile_cons, h]
    · simp [List.takeWhile_cons, h, hpq a h, ih]
theorem self_take {l : By} {k n v : Nat} (h : step l = some (k, n, v)) (hk : k ≠ 0) (hl : l ≠ []) : step (l.take n) = some (k, n, v) := by
  obtain ⟨hn1, hn2⟩ := step_size hl h
  have hf := first_take' (l := l) hn1
  rw [step_eq] at h
  rw [step_eq, hf]
  generalize hx : first l = x at *
  have hy2 : n = 2 → first ((l.take n).drop 1) = first (l.drop 1) := fun e => by
    subst e
    match l, hn2 with
    | a :: b :: r, _ => rfl
  have hy1 : n = 1 → first ((l.take n).drop 1) = 0 := fun e => by
    subst e
    match l, hl with
    | a :: r, _ => rfl
  unfold stepX at h ⊢
  split at h
  · simp only [Option.some.injEq, Prod.mk.injEq] at h; exact absurd h.1.symm hk
  rw [if_neg ‹_›]
  split at h
  · rename_i hc
    rw [if_pos hc]
    simp only [Option.some.injEq, Prod.mk.injEq] at h ⊢
    refine ⟨h.1, ?_, h.2.2⟩
    split at h
    · rw [hy2 h.2.1.symm, if_pos ‹_›]; exact h.2.1
    · rw [hy1 h.2.1.symm, if_neg (by omega)]; exact h.2.1
  rw [if_neg ‹_›]
  split at h
  · rename_i hc
    rw [if_pos hc]
    simp only [Option.some.injEq, Prod.mk.injEq] at h ⊢
    refine ⟨h.1, ?_, h.2.2⟩
    split at h
    · rw [hy2 h.2.1.symm, if_pos ‹_›]; exact h.2.1
    · rw [hy1 h.2.1.symm, if_neg (by omega)]; exact h.2.1
  rw [if_neg ‹_›]
  split at h
  · rename_i hc
    rw [if_pos hc]
    simp only [Option.some.injEq, Prod.mk.injEq] at h ⊢
    refine ⟨h.1, ?_, h.2.2⟩
    split at h
    · rw [hy2 h.2.1.symm, if_pos ‹_›]; exact h.2.1
    · rw [hy1 h.2.1.symm, if_neg (by omega)]; exact h.2.1
  rw [if_neg ‹_›]
  split at h
  · rename_i hc
    rw [if_pos hc]
    split at h
    · simp only [Option.some.injEq, Prod.mk.injEq] at h; exact absurd h.1.symm hk
    · simp only [Option.some.injEq, Prod.mk.injEq] at h ⊢
      rw [hy1 h.2.1.symm, if_neg (by omega)]
      simp only [Option.some.injEq, Prod.mk.injEq]
      exact h
  rw [if_neg ‹_›]
  split at h
  · rw [if_pos ‹_›]; exact h
  rw [if_neg ‹_›]
  split at h
  · rw [if_pos ‹_›]
    unfold number at h ⊢
    split at h
    · rename_i hc
      simp only [Option.some.injEq, Prod.mk.injEq] at h
      have ht : l.take n = l.takeWhile pd := by rw [← h.2.1, ← takeWhile_eq]
      have e1 : (l.take n).takeWhile pd = l.takeWhile pd := by rw [ht, tw_tw]
      have e2 : (l.take n).takeWhile pin = l.takeWhile pd := by rw [ht]; exact tw_sub pd pin (fun c h => inn_of_dg h) l
      unfold span at h hc ⊢
      rw [e1, e2, if_pos ⟨hc.1, Nat.le_refl _⟩]
      simp only [Option.some.injEq, Prod.mk.injEq]
      exact h
    · cases h
  · rw [if_neg ‹_›]
    unfold wordOrName at h ⊢
    have key : span pin l = n → (l.take n).takeWhile pin = l.takeWhile pin := fun e => by rw [← e, ← takeWhile_eq, tw_tw]
    split at h
    · rename_i hc
      simp only [Option.some.injEq, Prod.mk.injEq] at h
      have e1 := key h.2.1
      unfold span at h ⊢
      rw [e1, if_pos hc]
      simp only [Option.some.injEq, Prod.mk.injEq]
      exact h
    · rename_i hc
      split at h
      · rename_i hc2
        simp only [Option.some.injEq, Prod.mk.injEq] at h
        have e1 := key h.2.1
        unfold span at h ⊢
        rw [e1, if_neg hc, if_pos hc2]
        simp only [Option.some.injEq, Prod.mk.injEq]
        exact h
      · cases h
end X
end Go.Proofs.YtfnakckiidblkaaDoor

/- A search that keeps what was found to lead nowhere: what it answers. No walk. -/
import Derived.Test.YtafdjmccgijmnaaHiFind
namespace Go.Proofs.Ytafdjmccgijmnaa
namespace H
set_option linter.unusedVariables false
set_option linter.unusedSimpArgs false
section
variable {σ : Type} (p : Pb σ)
/-- What is kept: places that lead nowhere. -/
abbrev Memo (σ : Type) := List (Nat × σ)
def Pb.tryM (g : Nat → σ → Memo σ → Option (List Nat) × Memo σ) (d : Nat) (s : σ) : List Nat → Memo σ → Option (List Nat) × Memo σ
  | [], M => (none, M)
  | k :: ks, M =>
    if p.free d k = true then
      match p.step s k with
      | none => Pb.tryM g d s ks M
      | some s' => match g (wth d k) s' M with
        | (some r, M') => (some (k :: r), M')
        | (none, M') => Pb.tryM g d s ks M'
    else Pb.tryM g d s ks M
def Pb.findM [DecidableEq σ] : Nat → Nat → σ → Memo σ → Option (List Nat) × Memo σ
  | 0, d, s, M => if p.all d = true then (some [], M) else (none, M)
  | f + 1, d, s, M =>
    if p.all d = true then (some [], M) else if (d, s) ∈ M then (none, M) else
      match p.tryM (Pb.findM f) d s (List.range p.n) M with
      | (some r, M') => (some r, M')
      | (none, M') => (none, (d, s) :: M')
/-- From here no order leads on. -/
def Pb.Bad (d : Nat) (s : σ) : Prop := ∀ o, ¬ p.Ok d s o
/-- What a search answers is so, and what it keeps leads nowhere. -/
def Pb.Says (d : Nat) (s : σ) (r : Option (List Nat) × Memo σ) : Prop := (∀ x ∈ r.2, p.Bad x.1 x.2) ∧ match r.1 with
  | some o => p.Ok d s o
  | none => p.Bad d s
end
section
variable {σ : Type} {p : Pb σ}
theorem tryM_says {g : Nat → σ → Memo σ → Option (List Nat) × Memo σ} {d : Nat} {s : σ} (hg : ∀ k s' M, k < p.n → p.free d k = true → (∀ x ∈ M, p.Bad x.1 x.2) → p.Says (wth d k) s' (g (wth d k) s' M)) : ∀ (ks : List Nat) (M : Memo σ), (∀ k ∈ ks, k < p.n) → (∀ x ∈ M, p.Bad x.1 x.2) → (∀ x ∈ (p.tryM g d s ks M).2, p.Bad x.1 x.2) ∧ match (p.tryM g d s ks M).1 with
    | some o => p.Ok d s o
    | none => ∀ k ∈ ks, p.free d k = true → ∀ s', p.step s k = some s' → p.Bad (wth d k) s'
  | [], M, _, hM => ⟨hM, fun k hk => by cases hk⟩
  | k :: ks, M, hn, hM => by
    have ihM := fun M' (h : ∀ x ∈ M', p.Bad x.1 x.2) => tryM_says (s := s) hg ks M' (fun q hq => hn q (List.mem_cons_of_mem _ hq)) h
    rw [Pb.tryM]
    by_cases hf : p.free d k = true
    · rw [if_pos hf]
      cases hs : p.step s k with
      | none =>
        obtain ⟨h1, h2⟩ := ihM M hM
        refine ⟨h1, ?_⟩
        revert h2
        simp only
        cases (p.tryM g d s ks M).1 with
        | some o => exact id
        | none =>
          intro h2 q hq hqf s' hqs
          rcases List.mem_cons.1 hq with rfl | hq
          · rw [hs] at hqs; cases hqs
          · exact h2 q hq hqf s' hqs
      | some s' =>
        have hsay := hg k s' M (hn k List.mem_cons_self) hf hM
        obtain ⟨⟨r, M'⟩, hr⟩ : ∃ x, g (wth d k) s' M = x := ⟨_, rfl⟩
        rw [hr] at hsay
        simp only [hr]
        cases r with
        | some o => exact ⟨hsay.1, hn k List.mem_cons_self, hf, s', hs, hsay.2⟩
        | none =>
          obtain ⟨h1, h2⟩ := ihM M' hsay.1
          refine ⟨h1, ?_⟩
          revert h2
          simp only
          cases (p.tryM g d s ks M').1 with
          | some o => exact id
          | none =>
            intro h2 q hq hqf s2 hqs
            rcases List.mem_cons.1 hq with rfl | hq
            · rw [hs] at hqs
              cases hqs
              exact hsay.2
            · exact h2 q hq hqf s2 hqs
    · rw [if_neg hf]
      obtain ⟨h1, h2⟩ := ihM M hM
      refine ⟨h1, ?_⟩
      revert h2
      cases (p.tryM g d s ks M).1 with
      | some o => exact id
      | none =>
        intro h2 q hq hqf s' hqs
        rcases List.mem_cons.1 hq with rfl | hq
        · exact absurd hqf hf
        · exact h2 q hq hqf s' hqs
/-- What the search answers is so. -/
theorem findM_says [DecidableEq σ] : ∀ (f : Nat) (d : Nat) (s : σ) (M : Memo σ), p.left d ≤ f → (∀ x ∈ M, p.Bad x.1 x.2) → p.Says d s (p.findM f d s M)
  | 0, d, s, M, hl, hM => by
    rw [Pb.findM]
    by_cases ha : p.all d = true
    · rw [if_pos ha]; exact ⟨hM, ha⟩
    · rw [if_neg ha]
      refine ⟨hM, fun o ho => ?_⟩
      cases o with
      | nil => exact ha ho
      | cons k r =>
        have := left_lt ho.1 ho.2.1
        omega
  | f + 1, d, s, M, hl, hM => by
    rw [Pb.findM]
    by_cases ha : p.all d = true
    · rw [if_pos ha]; exact ⟨hM, ha⟩
    · rw [if_neg ha]
      by_cases hin : (d, s) ∈ M
      · rw [if_pos hin]; exact ⟨hM, hM _ hin⟩
      · rw [if_neg hin]
        have h := tryM_says (p := p) (g := p.findM f) (d := d) (s := s) (fun k s' M' hk hfr hM' => findM_says f _ s' M' (by have := left_lt hk hfr; omega) hM') (List.range p.n) M (fun k hk => List.mem_range.1 hk) hM
        obtain ⟨⟨r, M'⟩, hr⟩ : ∃ x, p.tryM (p.findM f) d s (List.range p.n) M = x := ⟨_, rfl⟩
        rw [hr] at h
        simp only [hr]
        cases r with
        | some o => exact h
        | none =>
          have hbad : p.Bad d s := fun o ho => by
            cases o with
            | nil => exact ha ho
            | cons k r =>
              obtain ⟨hk, hfr, s', hs, hok⟩ := ho
              exact h.2 k (List.mem_range.2 hk) hfr s' hs r hok
          refine ⟨fun x hx => ?_, hbad⟩
          rcases List.mem_cons.1 hx with rfl | hx
          · exact hbad
          · exact h.1 x hx
end
end H
end Go.Proofs.Ytafdjmccgijmnaa

/- What put comes to: a rising list with one number more. No walk. -/
import Derived.Test.YtfkpbmopneleiaaMemRefPut
namespace Go.Proofs.Ytfkpbmopneleiaa
open Go.RowKit Go.Maps
set_option linter.unusedVariables false

structure PutInv (n : Int) (zs : List Int) : Prop where
  done : (putS n zs).2 = true ↔ ∃ z ∈ zs, n ≤ z
  mem : ∀ x, x ∈ (putS n zs).1 ↔ (x ∈ zs ∧ x ≠ n) ∨ ((putS n zs).2 = true ∧ x = n)
  up : (putS n zs).1.Pairwise (· < ·)

theorem putS_concat (n : Int) (zs : List Int) (z : Int) : putS n (zs ++ [z]) = stepP n (putS n zs) z := by
  unfold putS
  rw [List.foldl_append]
  rfl
theorem up_snoc {ys : List Int} {z : Int} (h : ys.Pairwise (· < ·)) (hz : ∀ x ∈ ys, x < z) : (ys ++ [z]).Pairwise (· < ·) := by
  rw [List.pairwise_append]
  exact ⟨h, by simp, fun a ha b hb => by simp at hb; subst hb; exact hz a ha⟩
theorem putInv_step {n : Int} {zs : List Int} {z : Int} (h : PutInv n zs) (hz : ∀ x ∈ zs, x < z) : PutInv n (zs ++ [z]) := by
  obtain ⟨hd, hm, hu⟩ := h
  have hc := putS_concat n zs z
  rcases hs : putS n zs with ⟨ys, d⟩
  rw [hs] at hd hm hu hc
  simp only at hd hm hu
  cases d with
  | true =>
    obtain ⟨q, hq, hnq⟩ := hd.1 rfl
    have hqz := hz q hq
    have hne : ¬ z = n := by omega
    have e : putS n (zs ++ [z]) = (ys ++ [z], true) := by rw [hc]; simp [stepP, hne]
    refine ⟨?_, ?_, ?_⟩
    · rw [e]; exact ⟨fun _ => ⟨q, by simp [hq], hnq⟩, fun _ => rfl⟩
    · intro x
      rw [e]
      simp only [List.mem_append, List.mem_singleton]
      rw [hm x]
      constructor
      · rintro ((⟨h1, h2⟩ | ⟨-, h2⟩) | h1)
        · exact .inl ⟨.inl h1, h2⟩
        · exact .inr ⟨by trivial, h2⟩
        · exact .inl ⟨.inr h1, by omega⟩
      · rintro (⟨h1 | h1, h2⟩ | ⟨-, h2⟩)
        · exact .inl (.inl ⟨h1, h2⟩)
        · exact .inr h1
        · exact .inl (.inr ⟨by trivial, h2⟩)
    · rw [e]
      refine up_snoc hu (fun x hx => ?_)
      rcases (hm x).1 hx with ⟨h1, -⟩ | ⟨-, h2⟩
      · exact hz x h1
      · omega
  | false =>
    have hlt : ∀ x ∈ zs, x < n := fun x hx => by
      by_cases c : n ≤ x
      · exact absurd (hd.2 ⟨x, hx, c⟩) (by simp)
      · omega
    have hm' : ∀ x, x ∈ ys ↔ x ∈ zs := fun x => by
      rw [hm x]
      constructor
      · rintro (⟨h1, -⟩ | ⟨h1, -⟩)
        · exact h1
        · cases h1
      · intro h1
        have := hlt x h1
        exact .inl ⟨h1, by omega⟩
    by_cases hle : n ≤ z
    · by_cases hne : z = n
      · subst hne
        have e : putS z (zs ++ [z]) = (ys ++ [z], true) := by rw [hc]; simp [stepP]
        refine ⟨?_, ?_, ?_⟩
        · rw [e]; simp
        · intro x
          rw [e]
          simp only [List.mem_append, List.mem_singleton]
          rw [hm' x]
          constructor
          · rintro (h1 | h1)
            · have := hlt x h1
              exact .inl ⟨.inl h1, by omega⟩
            · exact .inr ⟨by trivial, h1⟩
          · rintro (⟨h1 | h1, h2⟩ | ⟨-, h2⟩)
            · exact .inl h1
            · exact .inr h1
            · exact .inr h2
        · rw [e]
          exact up_snoc hu (fun x hx => hlt x ((hm' x).1 hx))
      · have e : putS n (zs ++ [z]) = (ys ++ [n] ++ [z], true) := by rw [hc]; simp [stepP, hne, hle]
        refine ⟨?_, ?_, ?_⟩
        · rw [e]; exact ⟨fun _ => ⟨z, by simp, hle⟩, fun _ => rfl⟩
        · intro x
          rw [e]
          simp only [List.mem_append, List.mem_singleton]
          rw [hm' x]
          constructor
          · rintro ((h1 | h1) | h1)
            · have := hlt x h1
              exact .inl ⟨.inl h1, by omega⟩
            · exact .inr ⟨by trivial, h1⟩
            · exact .inl ⟨.inr h1, by omega⟩
          · rintro (⟨h1 | h1, h2⟩ | ⟨-, h2⟩)
            · exact .inl (.inl h1)
            · exact .inr h1
            · exact .inl (.inr h2)
        · rw [e]
          refine up_snoc (up_snoc hu (fun x hx => hlt x ((hm' x).1 hx))) (fun x hx => ?_)
          simp only [List.mem_append, List.mem_singleton] at hx
          rcases hx with h1 | h1
          · have := hlt x ((hm' x).1 h1)
            omega
          · omega
    · have hne : ¬ z = n := by omega
      have e : putS n (zs ++ [z]) = (ys ++ [z], false) := by rw [hc]; simp [stepP, hne, hle]
      refine ⟨?_, ?_, ?_⟩
      · rw [e]
        refine ⟨fun h => (by cases h), ?_⟩
        rintro ⟨q, h1, h2⟩
        simp only [List.mem_append, List.mem_singleton] at h1
        rcases h1 with h1 | h1
        · have := hlt q h1
          omega
        · omega
      · intro x
        rw [e]
        simp only [List.mem_append, List.mem_singleton]
        rw [hm' x]
        constructor
        · rintro (h1 | h1)
          · have := hlt x h1
            exact .inl ⟨.inl h1, by omega⟩
          · exact .inl ⟨.inr h1, by omega⟩
        · rintro (⟨h1 | h1, h2⟩ | ⟨h1, -⟩)
          · exact .inl h1
          · exact .inr h1
          · cases h1
      · rw [e]
        exact up_snoc hu (fun x hx => hz x ((hm' x).1 hx))
theorem putInv_all (n : Int) : ∀ zs : List Int, zs.Pairwise (· < ·) → PutInv n zs := by
  suffices h : ∀ (m : Nat) (zs : List Int), zs.length = m → zs.Pairwise (· < ·) → PutInv n zs from fun zs => h zs.length zs rfl
  intro m
  induction m with
  | zero =>
    intro zs hz hp
    obtain rfl : zs = [] := List.length_eq_zero_iff.1 hz
    exact ⟨by simp [putS], by simp [putS], by simp [putS]⟩
  | succ m ih =>
    intro zs hz hp
    rcases List.eq_nil_or_concat zs with rfl | ⟨l, z, rfl⟩
    · simp at hz
    · rw [List.concat_eq_append] at *
      rw [List.pairwise_append] at hp
      exact putInv_step (ih l (by simpa using hz) hp.1) (fun x hx => hp.2.2 x hx z (by simp))
theorem putL_ris {n : Int} {zs : List Int} {p : Int → Prop} (h : M.Ris zs p) : M.Ris (putL n zs) (fun x => p x ∨ x = n) := by
  obtain ⟨hd, hm, hu⟩ := putInv_all n zs h.up
  unfold putL
  cases hs : (putS n zs).2 with
  | true =>
    rw [if_pos rfl]
    refine ⟨hu, fun x => ?_⟩
    rw [hm x, hs, h.mem]
    constructor
    · rintro (⟨h1, -⟩ | ⟨-, h1⟩)
      · exact .inl h1
      · exact .inr h1
    · rintro (h1 | h1)
      · by_cases c : x = n
        · exact .inr ⟨by trivial, c⟩
        · exact .inl ⟨h1, c⟩
      · exact .inr ⟨by trivial, h1⟩
  | false =>
    have hlt : ∀ x ∈ zs, x < n := fun x hx => by
      by_cases c : n ≤ x
      · exact absurd (hd.2 ⟨x, hx, c⟩) (by simp [hs])
      · omega
    rw [if_neg (by decide)]
    have hm' : ∀ x, x ∈ (putS n zs).1 ↔ x ∈ zs := fun x => by
      rw [hm x, hs]
      constructor
      · rintro (⟨h1, -⟩ | ⟨h1, -⟩)
        · exact h1
        · cases h1
      · intro h1
        have := hlt x h1
        exact .inl ⟨h1, by omega⟩
    refine ⟨up_snoc hu (fun x hx => hlt x ((hm' x).1 hx)), fun x => ?_⟩
    simp only [List.mem_append, List.mem_singleton]
    rw [hm' x, h.mem]

end Go.Proofs.Ytfkpbmopneleiaa

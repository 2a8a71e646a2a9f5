/- Who races with whom: no walk. -/
import Derived.Test.YtfkpbmopneleiaaMemJoin
namespace Go.Proofs.Ytfkpbmopneleiaa
open Go.RowKit Go.Maps
set_option linter.unusedVariables false

theorem clash_comm (ra wa rb wb : List Int) : clash ra wa rb wb = clash rb wb ra wa := by
  unfold clash
  rw [M.meets_comm wa wb]
  cases M.meets wb wa <;> cases M.meets wa rb <;> cases M.meets wb ra <;> rfl
theorem meets_nil_l (a : List Int) : M.meets [] a = false := by
  unfold M.meets
  simp
theorem clash_reads (ra rb : List Int) : clash ra [] rb [] = false := by
  unfold clash
  rw [meets_nil_l, meets_nil_l, meets_nil_l]
  rfl
theorem meets_or {L a b c : List Int} (h : ∀ x, x ∈ L ↔ x ∈ a ∨ x ∈ b) : M.meets L c = (M.meets a c || M.meets b c) := by
  rw [Bool.eq_iff_iff, Bool.or_eq_true, M.meets_iff, M.meets_iff, M.meets_iff]
  constructor
  · rintro ⟨x, h1, h2⟩
    rcases (h x).1 h1 with h1 | h1
    · exact .inl ⟨x, h1, h2⟩
    · exact .inr ⟨x, h1, h2⟩
  · rintro (⟨x, h1, h2⟩ | ⟨x, h1, h2⟩)
    · exact ⟨x, (h x).2 (.inl h1), h2⟩
    · exact ⟨x, (h x).2 (.inr h1), h2⟩
theorem clash_join {L L' ra wa rb wb rc wc : List Int} (h1 : M.Ris L (· ∈ rds [(ra, wa), (rb, wb)])) (h2 : M.Ris L' (· ∈ wrs [(ra, wa), (rb, wb)])) : clash L L' rc wc = (clash ra wa rc wc || clash rb wb rc wc) := by
  have e1 : ∀ x, x ∈ L ↔ x ∈ ra ∨ x ∈ rb := fun x => by rw [h1.mem]; simp [rds]
  have e2 : ∀ x, x ∈ L' ↔ x ∈ wa ∨ x ∈ wb := fun x => by rw [h2.mem]; simp [wrs]
  unfold clash
  rw [meets_or e2 (c := wc), meets_or e2 (c := rc), M.meets_comm wc L, meets_or e1 (c := wc), M.meets_comm wc ra, M.meets_comm wc rb]
  cases M.meets wa wc <;> cases M.meets wb wc <;> cases M.meets wa rc <;> cases M.meets wb rc <;> cases M.meets ra wc <;> cases M.meets rb wc <;> rfl
theorem join_swap {L K : List Int} {a b : List Int × List Int} (h1 : M.Ris L (· ∈ rds [a, b])) (h2 : M.Ris K (· ∈ rds [b, a])) : L = K :=
  M.ris_unique h1 h2 (fun x => by simp [rds]; exact Or.comm)
theorem join_swap' {L K : List Int} {a b : List Int × List Int} (h1 : M.Ris L (· ∈ wrs [a, b])) (h2 : M.Ris K (· ∈ wrs [b, a])) : L = K :=
  M.ris_unique h1 h2 (fun x => by simp [wrs]; exact Or.comm)
theorem ris_len {L : List Int} {R : List Int} (h : M.Ris L (· ∈ R)) : L.length ≤ R.length :=
  List.Nodup.length_le_of_subset (h.up.imp fun hab => by omega) fun x hx => (h.mem x).1 hx

end Go.Proofs.Ytfkpbmopneleiaa

/- The longest sign that begins a source is what the switch finds. -/
import Derived.Test.YtfnakckiidblkaaDoorLexRefSign
namespace Go.Proofs.YtfnakckiidblkaaDoor
set_option linter.unusedVariables false
set_option linter.unusedSimpArgs false

namespace X
theorem p1 {l : By} {x : Nat} (h : first l = x) (a : UInt8) (ha : a.toNat ≠ 0) : [a].isPrefixOf l = decide (x = a.toNat) := by
  subst h
  cases l with
  | nil => exact (decide_eq_false (fun e : 0 = a.toNat => ha e.symm)).symm
  | cons c r =>
    by_cases h : a = c
    · subst h; simp [List.isPrefixOf, first]
    · have h' : ¬ c.toNat = a.toNat := fun e => h (UInt8.toNat_inj.1 e).symm
      simp [List.isPrefixOf, first, h, h']
theorem p2 {l : By} {x y : Nat} (h : first l = x) (h2 : first (l.drop 1) = y) (a b : UInt8) (ha : a.toNat ≠ 0) (hb : b.toNat ≠ 0) : [a, b].isPrefixOf l = (decide (x = a.toNat) && decide (y = b.toNat)) := by
  cases l with
  | nil =>
    subst h
    have : decide (first [] = a.toNat) = false := decide_eq_false (fun e : 0 = a.toNat => ha e.symm)
    rw [this]
    rfl
  | cons c r =>
    have := p1 (l := r) (x := y) (by simpa using h2) b hb
    rw [← this, ← p1 h a ha]
    simp [List.isPrefixOf]
theorem find_cons (p : By → Bool) (t : By) (ts : List By) : ((t :: ts).find? p).getD [] = if p t = true then t else (ts.find? p).getD [] := by
  rw [List.find?_cons]
  cases p t <;> rfl
/-- What the list finds. -/
def signR (l : By) : Option (Nat × Nat × Nat) := if X.sign l = [] then none else some (4, (X.sign l).length, 0)
theorem sign_eq {l : By} {x y : Nat} (hx : first l = x) (hy : first (l.drop 1) = y) : X.sign l =
    if x = 38 ∧ y = 38 then [38, 38] else
    if x = 124 ∧ y = 124 then [124, 124] else
    if x = 61 ∧ y = 61 then [61, 61] else
    if x = 33 ∧ y = 61 then [33, 61] else
    if x = 60 ∧ y = 61 then [60, 61] else
    if x = 62 ∧ y = 61 then [62, 61] else
    if x = 60 ∧ y = 60 then [60, 60] else
    if x = 62 ∧ y = 62 then [62, 62] else
    if x = 43 then [43] else
    if x = 45 then [45] else
    if x = 42 then [42] else
    if x = 47 then [47] else
    if x = 37 then [37] else
    if x = 38 then [38] else
    if x = 124 then [124] else
    if x = 94 then [94] else
    if x = 60 then [60] else
    if x = 62 then [62] else
    if x = 33 then [33] else
    if x = 61 then [61] else
    if x = 40 then [40] else
    if x = 41 then [41] else
    if x = 123 then [123] else
    if x = 125 then [125] else
    if x = 91 then [91] else
    if x = 93 then [93] else
    if x = 59 then [59] else
    if x = 44 then [44] else [] := by
  unfold X.sign X.signs
  simp only [find_cons, (p2 hx hy 38 38 (by decide) (by decide)), (p2 hx hy 124 124 (by decide) (by decide)), (p2 hx hy 61 61 (by decide) (by decide)), (p2 hx hy 33 61 (by decide) (by decide)), (p2 hx hy 60 61 (by decide) (by decide)), (p2 hx hy 62 61 (by decide) (by decide)), (p2 hx hy 60 60 (by decide) (by decide)), (p2 hx hy 62 62 (by decide) (by decide)), (p1 hx 43 (by decide)), (p1 hx 45 (by decide)), (p1 hx 42 (by decide)), (p1 hx 47 (by decide)), (p1 hx 37 (by decide)), (p1 hx 38 (by decide)), (p1 hx 124 (by decide)), (p1 hx 94 (by decide)), (p1 hx 60 (by decide)), (p1 hx 62 (by decide)), (p1 hx 33 (by decide)), (p1 hx 61 (by decide)), (p1 hx 40 (by decide)), (p1 hx 41 (by decide)), (p1 hx 123 (by decide)), (p1 hx 125 (by decide)), (p1 hx 91 (by decide)), (p1 hx 93 (by decide)), (p1 hx 59 (by decide)), (p1 hx 44 (by decide)), Bool.and_eq_true, decide_eq_true_eq]
  simp only [show ((33 : UInt8)).toNat = 33 from rfl, show ((37 : UInt8)).toNat = 37 from rfl, show ((38 : UInt8)).toNat = 38 from rfl, show ((40 : UInt8)).toNat = 40 from rfl, show ((41 : UInt8)).toNat = 41 from rfl, show ((42 : UInt8)).toNat = 42 from rfl, show ((43 : UInt8)).toNat = 43 from rfl, show ((44 : UInt8)).toNat = 44 from rfl, show ((45 : UInt8)).toNat = 45 from rfl, show ((47 : UInt8)).toNat = 47 from rfl, show ((59 : UInt8)).toNat = 59 from rfl, show ((60 : UInt8)).toNat = 60 from rfl, show ((61 : UInt8)).toNat = 61 from rfl, show ((62 : UInt8)).toNat = 62 from rfl, show ((91 : UInt8)).toNat = 91 from rfl, show ((93 : UInt8)).toNat = 93 from rfl, show ((94 : UInt8)).toNat = 94 from rfl, show ((123 : UInt8)).toNat = 123 from rfl, show ((124 : UInt8)).toNat = 124 from rfl, show ((125 : UInt8)).toNat = 125 from rfl]
  rfl
theorem sign_step {l : By} (hne : l ≠ []) (hb : ¬ (first l = 32 ∨ first l = 9 ∨ first l = 10)) (hn : ¬ (first l = 47 ∧ first (l.drop 1) = 47)) (hl : lt (first l) = false) (hd : dg (first l) = false) :
    X.step l = signR l ∧ (X.sign l ≠ [] → l.take (X.sign l).length = X.sign l) := by
  obtain ⟨x, hx⟩ : ∃ x, first l = x := ⟨_, rfl⟩
  obtain ⟨y, hy⟩ : ∃ y, first (l.drop 1) = y := ⟨_, rfl⟩
  have he := sign_eq hx hy
  refine ⟨?_, fun h => ?_⟩
  rotate_left
  · unfold X.sign at h ⊢
    cases e : X.signs.find? (fun t => t.isPrefixOf l) with
    | none => rw [e] at h; exact absurd rfl h
    | some b => have := List.find?_some e; exact pre_iff.1 this
  unfold signR
  rw [he]
  unfold X.step
  simp only [hx, hy]
  rw [hx] at hb hl hd hn
  rw [hy] at hn
  rw [if_neg hb]
  have hw : x ∉ [38, 124, 60, 62, 61, 33, 47, 43, 45, 42, 37, 94, 40, 41, 123, 125, 91, 93, 59, 44] → wordOrName l = none := fun _ => by
    have ht : l.takeWhile pin = [] := by
      cases l with
      | nil => rfl
      | cons c r =>
        have : pin c = false := by
          have h1 : c.toNat = x := hx
          simp [pin, inn, h1, hl, hd]
        simp [List.takeWhile_cons, this]
    unfold wordOrName
    rw [ht, if_neg (by decide), if_neg (by decide)]
  by_cases hm : x ∈ [38, 124, 60, 62, 61, 33, 47, 43, 45, 42, 37, 94, 40, 41, 123, 125, 91, 93, 59, 44]
  · clear he hw hb
    simp only [List.mem_cons, List.not_mem_nil, or_false] at hm
    rcases hm with rfl | rfl | rfl | rfl | rfl | rfl | rfl | rfl | rfl | rfl | rfl | rfl | rfl | rfl | rfl | rfl | rfl | rfl | rfl | rfl
    · by_cases h : y = 38 <;> simp [h]
    · by_cases h : y = 124 <;> simp [h]
    · by_cases h : y = 60
      · simp [h]
      · by_cases h2 : y = 61 <;> simp [h, h2]
    · by_cases h : y = 62
      · simp [h]
      · by_cases h2 : y = 61 <;> simp [h, h2]
    · by_cases h : y = 61 <;> simp [h]
    · by_cases h : y = 61 <;> simp [h]
    · have h : ¬ y = 47 := fun e => hn ⟨rfl, e⟩
      simp [h]
    · simp [sgn]
    · simp [sgn]
    · simp [sgn]
    · simp [sgn]
    · simp [sgn]
    · simp [sgn]
    · simp [sgn]
    · simp [sgn]
    · simp [sgn]
    · simp [sgn]
    · simp [sgn]
    · simp [sgn]
    · simp [sgn]
  · rw [hw hm]
    simp only [List.mem_cons, List.not_mem_nil, or_false, not_or] at hm
    have hs : sgn x = false := by simp [sgn]; omega
    simp only [hs, hd, Bool.false_eq_true, if_false]
    repeat (first | rw [if_neg (by omega)])
    rw [if_pos]
    repeat (first | rw [if_neg (by omega)])

end X
end Go.Proofs.YtfnakckiidblkaaDoor

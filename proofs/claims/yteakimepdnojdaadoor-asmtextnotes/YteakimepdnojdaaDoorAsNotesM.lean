/- Notes and spaces: the mathematics. -/
import Derived.Test.YteakimepdnojdaaDoorAsBackMath
namespace Go.Proofs.YteakimepdnojdaaDoor.X
set_option linter.unusedVariables false
set_option linter.unusedSimpArgs false

/-- A line with its spaces made more, until a note sign stood there. -/
def lineN : Bool → By → By
  | _, [] => []
  | b, c :: l => if c = 32 ∧ b = false then 32 :: 32 :: 32 :: lineN b l else c :: lineN (b || decide (c = 35)) l
/-- The text that AsmtextNotes makes. -/
def noted (n : By) : Bool → By → By
  | _, [] => 32 :: 35 :: n
  | b, c :: l => if c = 10 then (32 :: 35 :: n) ++ 10 :: noted n false l else if c = 32 ∧ b = false then 32 :: 32 :: 32 :: noted n b l else c :: noted n (b || decide (c = 35)) l

theorem ahead_cons (c : UInt8) (l : By) : ahead (c :: l) = if c = 35 then [] else c :: ahead l := by
  unfold ahead
  by_cases h : c = 35 <;> simp [h]
theorem words_note (n : By) : ∀ (l : By) (cur : By), fieldsGo cur (ahead (lineN false l ++ 32 :: 35 :: n)) = fieldsGo cur (ahead l)
  | [], cur => by
    rw [lineN, List.nil_append, ahead_cons, if_neg (by decide), ahead_cons, if_pos rfl]
    show fieldsGo cur [32] = fieldsGo cur []
    by_cases h : cur = [] <;> simp [fieldsGo, h]
  | c :: l, cur => by
    by_cases h1 : c = 32
    · subst h1
      rw [lineN, if_pos ⟨rfl, rfl⟩]
      simp only [List.cons_append, ahead_cons, if_neg (show ¬ (32 : UInt8) = 35 by decide)]
      rw [fieldsGo, if_pos rfl]
      conv => rhs; rw [fieldsGo, if_pos rfl]
      have e : ∀ x, fieldsGo [] (32 :: 32 :: x) = fieldsGo [] x := fun x => by rw [fieldsGo, if_pos rfl, if_pos rfl, fieldsGo, if_pos rfl, if_pos rfl]
      rw [e, words_note n l []]
    · rw [lineN, if_neg (fun h => h1 h.1), Bool.false_or]
      by_cases h2 : c = 35
      · subst h2
        rw [List.cons_append, ahead_cons, if_pos rfl, ahead_cons, if_pos rfl]
      · rw [show decide (c = 35) = false by simp [h2], List.cons_append, ahead_cons, if_neg h2, ahead_cons, if_neg h2, fieldsGo, if_neg h1, words_note n l _]
        conv => rhs; rw [fieldsGo, if_neg h1]
theorem wordsOf_note (n l : By) : wordsOf (lineN false l ++ 32 :: 35 :: n) = wordsOf l := words_note n l []
theorem lines_cons {c : UInt8} {l x : By} {xs : List By} (hc : c ≠ 10) (hl : lines l = x :: xs) : lines (c :: l) = (c :: x) :: xs := by rw [lines, if_neg hc, hl]
theorem note_no {n : By} (hn : ∀ c ∈ n, c ≠ 10) : ∀ c ∈ (32 : UInt8) :: 35 :: n, c ≠ 10 := by
  intro c hc
  simp at hc
  rcases hc with rfl | rfl | hc
  · decide
  · decide
  · exact hn c hc
theorem lines_noted (n : By) (hn : ∀ c ∈ n, c ≠ 10) : ∀ (s : By) (b : Bool) (x : By) (xs : List By), lines s = x :: xs → lines (noted n b s) = (lineN b x ++ 32 :: 35 :: n) :: xs.map fun y => lineN false y ++ 32 :: 35 :: n
  | [], b, x, xs, h => by
    cases h
    rw [noted, lines_one _ (note_no hn)]
    rfl
  | c :: l, b, x, xs, h => by
    obtain ⟨y, ys, hl⟩ : ∃ y ys, lines l = y :: ys := by
      cases e : lines l with
      | nil => exact absurd e (lines_ne l)
      | cons y ys => exact ⟨y, ys, rfl⟩
    by_cases h1 : c = 10
    · subst h1
      rw [lines, if_pos rfl] at h
      injection h with e1 e2
      subst e1
      rw [noted, if_pos rfl, lines_app _ _ (note_no hn), lines_noted n hn l false y ys hl, ← e2, hl]
      simp [lineN]
    · rw [lines_cons h1 hl] at h
      injection h with e1 e2
      subst e1 e2
      rw [noted, if_neg h1]
      by_cases h2 : c = 32 ∧ b = false
      · obtain ⟨rfl, rfl⟩ := h2
        rw [if_pos ⟨rfl, rfl⟩, lines_cons (by decide) (lines_cons (by decide) (lines_cons (by decide) (lines_noted n hn l false y ys hl)))]
        simp [lineN]
      · rw [if_neg h2, lines_cons h1 (lines_noted n hn l _ y ys hl)]
        rw [show lineN b (c :: y) = c :: lineN (b || decide (c = 35)) y by rw [lineN, if_neg h2]]
        simp
theorem wl_noted (n : By) (hn : ∀ c ∈ n, c ≠ 10) (s : By) : wl (noted n false s) = wl s := by
  unfold wl
  cases hl : lines s with
  | nil => exact absurd hl (lines_ne s)
  | cons x xs =>
    rw [lines_noted n hn s false x xs hl]
    simp only [List.map_cons, wordsOf_note, List.map_map]
    congr 2
    refine List.map_congr_left fun y _ => ?_
    exact wordsOf_note n y
theorem noted_len (n : By) : ∀ (s : By) (b : Bool), (noted n b s).length ≤ (n.length + 6) * (s.length + 1)
  | [], b => by simp [noted]
  | c :: l, b => by
    have h1 := noted_len n l
    have e : (n.length + 6) * ((c :: l).length + 1) = (n.length + 6) * (l.length + 1) + (n.length + 6) := by rw [List.length_cons, Nat.mul_succ (n.length + 6) (l.length + 1)]
    rw [noted, e]
    split
    · have := h1 false
      simp only [List.length_append, List.length_cons]
      omega
    · split
      · have := h1 b
        simp only [List.length_cons]
        omega
      · have := h1 (b || decide (c = 35))
        simp only [List.length_cons]
        omega
theorem parse_noted (n : By) (hn : ∀ c ∈ n, c ≠ 10) (s : By) (h1 : s.length ≤ 1000) (h2 : n.length ≤ 100) : parse (noted n false s) = parse s ∧ (noted n false s).length ≤ 150000 := by
  have h3 := noted_len n s false
  have h4 : (n.length + 6) * (s.length + 1) ≤ 106 * 1001 := Nat.mul_le_mul (by omega) (by omega)
  refine ⟨?_, by omega⟩
  unfold parse
  rw [if_neg (by omega), if_neg (by omega), wl_noted n hn s]
/-- What is kept of a note. -/
def kept (l : By) : By := l.filter fun c => !decide (c = 10)
theorem kept_len (l : By) : (kept l).length ≤ l.length := List.length_filter_le _ _
theorem kept_no (l : By) : ∀ c ∈ kept l, c ≠ 10 := by
  intro c hc
  have := (List.mem_filter.1 hc).2
  simpa using this
theorem kept_snoc (l : By) (c : UInt8) : kept (l ++ [c]) = if c = 10 then kept l else kept l ++ [c] := by
  unfold kept
  rw [List.filter_append]
  by_cases h : c = 10 <;> simp [h]
end Go.Proofs.YteakimepdnojdaaDoor.X

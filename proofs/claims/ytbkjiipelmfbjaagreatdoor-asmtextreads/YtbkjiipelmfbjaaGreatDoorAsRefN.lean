/- The items of a text, by the document: the mathematics of lines. -/
import Derived.Test.YtbkjiipelmfbjaaGreatDoorAsRefL
import Derived.Test.YtbkjiipelmfbjaaGreatDoorAsParse
namespace Go.Proofs.YtbkjiipelmfbjaaGreatDoor
open Go.RowKit Go.Maps Go.Lib
set_option linter.unusedVariables false
set_option linter.unusedSimpArgs false

theorem fieldsGo_ne : ∀ (l cur : X.By), ∀ x ∈ X.fieldsGo cur l, x ≠ []
  | [], cur, x, hx => by
    rw [X.fieldsGo_end] at hx
    by_cases h : cur = []
    · rw [if_pos h] at hx; cases hx
    · rw [if_neg h] at hx; simp at hx; rw [hx]; exact h
  | c :: l, cur, x, hx => by
    by_cases h : c = 32
    · subst h
      rw [X.fieldsGo_sp] at hx
      rcases List.mem_append.1 hx with hx | hx
      · by_cases h : cur = []
        · rw [if_pos h] at hx; cases hx
        · rw [if_neg h] at hx; simp at hx; rw [hx]; exact h
      · exact fieldsGo_ne l [] x hx
    · rw [X.fieldsGo_step h] at hx
      exact fieldsGo_ne l _ x hx
theorem words_ne {l : X.By} : ∀ x ∈ X.wordsOf l, x ≠ [] := fun x hx => fieldsGo_ne _ _ x hx
/-- The words of a line, if it has any. -/
def some1 (ws : List X.By) : List (List X.By) := if ws = [] then [] else [ws]
theorem wlOf_cons (x : X.By) (ls : List X.By) : wlOf (x :: ls) = some1 (X.wordsOf x) ++ wlOf ls := by
  unfold wlOf some1
  rw [List.map_cons, List.filter_cons]
  by_cases h : X.wordsOf x = []
  · simp [h]
  · simp [h]
theorem wl_line {L r : X.By} (h : ∀ c ∈ L, c ≠ 10) : X.wl (L ++ 10 :: r) = some1 (X.wordsOf L) ++ X.wl r := by
  rw [wl_eq, X.lines_app L r h, wlOf_cons]; rfl
theorem wl_last {L : X.By} (h : ∀ c ∈ L, c ≠ 10) : X.wl L = some1 (X.wordsOf L) := by
  rw [wl_eq, X.lines_one L h, wlOf_cons]
  simp [wlOf]
theorem drop_mid {S : X.By} {fr k : Nat} (h : fr ≤ k) (hk : k ≤ S.length) : S.drop fr = (S.take k).drop fr ++ S.drop k := by
  conv => lhs; rw [← List.take_append_drop k S]
  rw [List.drop_append_of_le_length (by rw [List.length_take]; omega)]

end Go.Proofs.YtbkjiipelmfbjaaGreatDoor

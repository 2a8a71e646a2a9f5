/- A list of numbers, opened. -/
import Derived.Test.YtafdjmccgijmnaaHiOpen
import Derived.Test.YtafdjmccgijmnaaHiHas
namespace Go.Proofs.Ytafdjmccgijmnaa
open Go.ChangeShapes Go.WideShapes Go.ChangeAt Go.RowKit Go.Joins A
set_option linter.unusedVariables false
section
variable {H' : Type} {enc : TypeId × Value → H'} {w : World} {base : Nat} {spare : Nat → Bool} {held : Bool}
theorem open_N {fuel : Nat} {v : Value} {x : DataW H' × List MemPlace} (hsp : ∀ b, spare b = true) (h : DataW.trod enc Try.prog w base spare held fuel 27 [v] = some x) : ∃ a l c zs, v = .slice a l c ∧ NumsV w a l c zs := by
  rcases open_ints Try.underlying27 Try.underlying3 cell_int h with ⟨hcs, -⟩ | ⟨a, l, c, zs, hcs, -, hl, hm, hz, -, hcell, hwz⟩
  · simp at hcs
    subst hcs
    exact ⟨none, 0, 0, [], rfl, ⟨rfl, ⟨Nat.le_refl _, by decide⟩, by simp, .inl rfl⟩⟩
  · simp at hcs
    subst hcs
    rw [hsp, if_pos rfl] at hz
    refine ⟨some a, l, c, zs.take l, rfl, ⟨by simp; omega, ⟨hl, hm⟩, fun n hn => ?_, ?_⟩⟩
    · have := hwz n (List.mem_of_mem_take hn)
      have h2 : (decide (IntKind.i64.min ≤ n) && decide (n ≤ IntKind.i64.max)) = true := this
      rw [Bool.and_eq_true, decide_eq_true_eq, decide_eq_true_eq] at h2
      have e1 : IntKind.i64.min = -9223372036854775808 := by decide
      have e2 : IntKind.i64.max = 9223372036854775807 := by decide
      rw [e1, e2] at h2
      exact h2
    · by_cases h0 : l = 0
      · exact .inl h0
      · obtain ⟨b, off, rfl, hc'⟩ := ints_at hcell (by omega)
        refine .inr ⟨b, off, rfl, fun i hi => ?_⟩
        rw [hc' i (by omega)]
        simp [List.getD, hi]
end
end Go.Proofs.Ytafdjmccgijmnaa

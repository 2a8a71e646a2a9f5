/- Whether a history may be: the document's way and the program's. No walk. -/
import Derived.Test.YtafdjmccgijmnaaHiCheck
namespace Go.Proofs.Ytafdjmccgijmnaa
open Go.RowKit A Go.Maps
set_option linter.unusedVariables false
set_option linter.unusedSimpArgs false
namespace H
/-- Of two acts of one thread, whether the first one speaks against the second one. -/
def Ac.badD (a b : Ac) : Bool := decide (a.call = b.call) || (decide (a.call < b.call) && (decide (a.back < 0) || decide (b.call ≤ a.back)))
def okD (ts : List Ac) (i k : Nat) : Bool := decide (i = k) || (!decide ((ts.getD i noAc).th = (ts.getD k noAc).th) || !((ts.getD i noAc).badD (ts.getD k noAc)))
def rowD (ts : List Ac) (i : Nat) : Bool := (ts.getD i noAc).may && (List.range ts.length).all (okD ts i)
def mayD (ts : List Ac) : Bool := decide (ts.length ≤ 60) && (List.range ts.length).all (rowD ts)
theorem clash_bad {a b : Ac} (ha : a.may = true) (hb : b.may = true) (ht : a.th = b.th) : a.clash b = (a.badD b || b.badD a) := by
  obtain ⟨th, dd, nm, arg, call, back, ans⟩ := a
  obtain ⟨th2, dd2, nm2, arg2, call2, back2, ans2⟩ := b
  unfold Ac.may at ha hb
  unfold Ac.clash Ac.ahead Ac.badD
  simp only [Bool.and_eq_true, Bool.or_eq_true, decide_eq_true_eq] at ha hb ht ⊢
  rw [Bool.eq_iff_iff]
  simp only [Bool.and_eq_true, Bool.or_eq_true, decide_eq_true_eq, Bool.not_eq_true', Bool.and_eq_false_iff, decide_eq_false_iff_not]
  omega
theorem clash_apart {a b : Ac} (ht : ¬ a.th = b.th) : a.clash b = false := by
  unfold Ac.clash
  rw [decide_eq_false ht]
  rfl
theorem mayD_eq (ts : List Ac) : mayD ts = mayH ts := by
  unfold mayD mayH
  by_cases hl : ts.length ≤ 60
  · rw [decide_eq_true hl, Bool.true_and, Bool.true_and, Bool.eq_iff_iff, List.all_eq_true, List.all_eq_true]
    constructor
    · intro h i hi
      have hr := h i hi
      unfold rowD at hr
      rw [Bool.and_eq_true] at hr
      unfold okAt
      rw [hr.1, Bool.true_and, Bool.not_eq_true', List.any_eq_false]
      intro j hj
      have hj' := List.mem_range.1 hj
      have hi' := List.mem_range.1 hi
      have hr2 := h j (List.mem_range.2 (by omega))
      unfold rowD at hr2
      rw [Bool.and_eq_true] at hr2
      by_cases ht : (ts.getD i noAc).th = (ts.getD j noAc).th
      · rw [clash_bad hr.1 hr2.1 ht]
        have h1 := List.all_eq_true.1 hr.2 j (List.mem_range.2 (by omega))
        have h2 := List.all_eq_true.1 hr2.2 i hi
        unfold okD at h1 h2
        rw [decide_eq_false (by omega), decide_eq_true ht] at h1
        rw [decide_eq_false (by omega), decide_eq_true ht.symm] at h2
        simp only [Bool.false_or, Bool.not_true, Bool.not_eq_true'] at h1 h2
        rw [h1, h2]
        decide
      · rw [clash_apart ht]; decide
    · intro h i hi
      have hr := h i hi
      have hi' := List.mem_range.1 hi
      unfold okAt at hr
      rw [Bool.and_eq_true, Bool.not_eq_true', List.any_eq_false] at hr
      unfold rowD
      rw [hr.1, Bool.true_and, List.all_eq_true]
      intro j hj
      have hj' := List.mem_range.1 hj
      have hr2 := h j hj
      unfold okAt at hr2
      rw [Bool.and_eq_true, Bool.not_eq_true', List.any_eq_false] at hr2
      unfold okD
      by_cases e : i = j
      · rw [decide_eq_true e]; rfl
      by_cases ht : (ts.getD i noAc).th = (ts.getD j noAc).th
      · rw [decide_eq_true ht]
        have hb : (ts.getD i noAc).badD (ts.getD j noAc) = false := by
          by_cases hlt : j < i
          · have := hr.2 j (List.mem_range.2 hlt)
            rw [clash_bad hr.1 hr2.1 ht, Bool.or_eq_true] at this
            cases hb : (ts.getD i noAc).badD (ts.getD j noAc) with
            | false => rfl
            | true => exact absurd (.inl hb) this
          · have := hr2.2 i (List.mem_range.2 (by omega))
            rw [clash_bad hr2.1 hr.1 ht.symm, Bool.or_eq_true] at this
            cases hb : (ts.getD i noAc).badD (ts.getD j noAc) with
            | false => rfl
            | true => exact absurd (.inr hb) this
        rw [hb]
        simp
      · rw [decide_eq_false ht]; simp
  · rw [decide_eq_false hl]; rfl
end H
end Go.Proofs.Ytafdjmccgijmnaa

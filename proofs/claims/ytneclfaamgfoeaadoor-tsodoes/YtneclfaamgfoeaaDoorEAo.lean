/- Finish, and the document's. -/
import Derived.Test.YtneclfaamgfoeaaDoorEAg
namespace Go.Proofs.YtneclfaamgfoeaaDoor
open Go.RowKit

set_option maxHeartbeats 2000000 in
theorem finish_any (c : S.C) (k a v r n : Int) (w : World) :
    Calls Tryd.prog 60 #[c.v, S.reqV k a v r, .int .i64 n] w fun e w' => e = .returned (S.finish c k r n).v ∧ Below w.heap.size w w' := by
  by_cases hk : k = 1 ∨ k = 3 ∨ k = 4
  · have hr : decide (k = 1 ∨ k = 3 ∨ k = 4) = true := decide_eq_true hk
    rw [S.finish_yes hk]
    by_cases h8 : r = 8
    · subst h8
      go_enter Tryd.func60, Tryd.ntmps60
      go_wp2_with (first | (go_at_call 84; refine (reads_any _ _).mono ?_; rintro e w' ⟨rfl, rfl⟩))
      exact bodyPost_ret (v := { c with pc := n }.v) (by simp [results, Tryd.results60, go_sem]) rfl ⟨rfl, bl3 _ _ _ _⟩
    · by_cases hr8 : 0 ≤ r ∧ r < 8
      · have hi : S.isr r = true := S.isr_yes hr8
        rcases (show r = 0 ∨ r = 1 ∨ r = 2 ∨ r = 3 ∨ r = 4 ∨ r = 5 ∨ r = 6 ∨ r = 7 by omega) with rfl | rfl | rfl | rfl | rfl | rfl | rfl | rfl
        all_goals
          go_enter Tryd.func60, Tryd.ntmps60
          go_wp2_with (first | (go_at_call 84; refine (reads_any _ _).mono ?_; rintro e w' ⟨rfl, rfl⟩) | (go_at_call 85; refine (isreg_any _ _).mono ?_; rintro e w' ⟨rfl, rfl⟩))
          exact bodyPost_ret (v := (c.put _ n).v) (by simp [results, Tryd.results60, go_sem, S.C.put]) rfl ⟨rfl, bl3 _ _ _ _⟩
      · have hi : S.isr r = false := S.isr_no hr8
        go_enter Tryd.func60, Tryd.ntmps60
        go_wp2_with (first | (go_at_call 84; refine (reads_any _ _).mono ?_; rintro e w' ⟨rfl, rfl⟩) | (go_at_call 85; refine (isreg_any _ _).mono ?_; rintro e w' ⟨rfl, rfl⟩))
        exact bodyPost_ret (v := c.v) (by simp [results, Tryd.results60, go_sem]) rfl ⟨by rw [S.fin_no h8 hr8], bl3 _ _ _ _⟩
  · have hr : decide (k = 1 ∨ k = 3 ∨ k = 4) = false := decide_eq_false hk
    go_enter Tryd.func60, Tryd.ntmps60
    go_wp2_with (first | (go_at_call 84; refine (reads_any _ _).mono ?_; rintro e w' ⟨rfl, rfl⟩))
    exact bodyPost_ret (v := c.v) (by simp [results, Tryd.results60, go_sem]) rfl ⟨by rw [S.finish_no hk], bl3 _ _ _ _⟩

end Go.Proofs.YtneclfaamgfoeaaDoor

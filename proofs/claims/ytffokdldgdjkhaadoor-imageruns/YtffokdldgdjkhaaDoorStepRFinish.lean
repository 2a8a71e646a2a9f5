/- The document's Finish. -/
import Derived.Test.YtffokdldgdjkhaaDoorStepSmall
namespace Go.Proofs.YtffokdldgdjkhaaDoor
open Go.RowKit

set_option maxHeartbeats 4000000 in
theorem rfinish_any (c : S.C) (k a v r n : Int) (w : World) :
    Calls Tryd.prog 60 #[c.v, S.reqV k a v r, .int .i64 n] w fun e w' => e = .returned (S.finish c k r n).v ∧ Below w.heap.size w w' := by
  by_cases hk : k = 1 ∨ k = 3 ∨ k = 4
  · rw [S.finish_yes hk]
    by_cases h8 : r = 8
    · subst h8
      rcases hk with rfl | rfl | rfl
      all_goals
        go_enter Tryd.func60, Tryd.ntmps60
        go_wp2
        exact bodyPost_ret (v := { c with pc := n }.v) (by simp [results, Tryd.results60, go_sem]) rfl ⟨rfl, bl3 _ _ _ _⟩
    · by_cases hr8 : 0 ≤ r ∧ r < 8
      · rcases (show r = 0 ∨ r = 1 ∨ r = 2 ∨ r = 3 ∨ r = 4 ∨ r = 5 ∨ r = 6 ∨ r = 7 by omega) with rfl | rfl | rfl | rfl | rfl | rfl | rfl | rfl
        all_goals
          rcases hk with rfl | rfl | rfl
          all_goals
            go_enter Tryd.func60, Tryd.ntmps60
            go_wp2
            exact bodyPost_ret (v := (c.put _ n).v) (by simp [results, Tryd.results60, go_sem, S.C.put]) rfl ⟨rfl, bl3 _ _ _ _⟩
      · rw [S.fin_no h8 hr8]
        have hr9 : r < 0 ∨ 8 < r := by omega
        clear hr8
        rcases hr9 with hr9 | hr9
        all_goals
          rcases hk with rfl | rfl | rfl
          all_goals
            go_enter Tryd.func60, Tryd.ntmps60
            go_wp2
            exact bodyPost_ret (v := c.v) (by simp [results, Tryd.results60, go_sem]) rfl ⟨rfl, bl3 _ _ _ _⟩
  · rw [S.finish_no hk]
    have h1 : (k != 1) = true := by simp; omega
    have h3 : (k != 3) = true := by simp; omega
    have h4 : (k != 4) = true := by simp; omega
    clear hk
    go_enter Tryd.func60, Tryd.ntmps60
    go_wp2
    exact bodyPost_ret (v := c.v) (by simp [results, Tryd.results60, go_sem]) rfl ⟨rfl, bl3 _ _ _ _⟩

end Go.Proofs.YtffokdldgdjkhaaDoor

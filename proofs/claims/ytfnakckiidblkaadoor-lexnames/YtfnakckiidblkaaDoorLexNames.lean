/- The walk of LexNames. -/
import Derived.Test.YtfnakckiidblkaaDoorLexLive
namespace Go.Proofs.YtfnakckiidblkaaDoor
open Go.RowKit Go.Maps Go.Lib
set_option linter.unusedVariables false
set_option linter.unusedSimpArgs false

set_option maxRecDepth 100000 in
set_option maxHeartbeats 1000000 in
theorem names_any (s : ByteArray) (hs : s.size ≤ maxLen) (w : World) (ht : Tab w) :
    Calls Tryd.prog 4 #[.string s] w fun e w' => e = .returned (.bool true) ∧ Below w.heap.size w w' := by
  have c1 := name_any s hs
  have c2 := rname_any s hs
  have HT : Hid _ := ht
  clear ht
  cases h : X.name s.data.toList
  all_goals
    rw [h] at c1 c2
    go_enter Tryd.func4, Tryd.ntmps4
    go_wp2_with (first | (go_at_call 13; refine (c1 _ HT.out).mono ?_; rintro e w' ⟨rfl, rfl⟩) | (go_at_call 14; refine (c2 _).mono ?_; rintro e w1 ⟨rfl, hb1⟩) | (go_at_call 12; refine (live_any _ (HT.out.below hb1)).mono ?_; rintro e w2 ⟨rfl, hb2⟩))
    go_ret
    exact ⟨ret_b rfl, hb1.trans (hb2.mono hb1.size)⟩

end Go.Proofs.YtfnakckiidblkaaDoor

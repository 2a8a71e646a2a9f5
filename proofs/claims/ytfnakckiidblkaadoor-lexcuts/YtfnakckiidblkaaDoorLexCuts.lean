/- The walk of LexCuts. -/
import Derived.Test.YtfnakckiidblkaaDoorLexLive
import Derived.Test.YtfnakckiidblkaaDoorLexRefMain
namespace Go.Proofs.YtfnakckiidblkaaDoor
open Go.RowKit Go.Maps Go.Lib
set_option linter.unusedVariables false
set_option linter.unusedSimpArgs false

set_option maxRecDepth 100000 in
set_option maxHeartbeats 4000000 in
theorem cuts_any (s : ByteArray) (hs : s.size ≤ maxLen) (w : World) (ht : Tab w) :
    Calls Tryd.prog 3 #[.string s] w fun e w' => e = .returned (.bool true) ∧ Below w.heap.size w w' := by
  have HT : Hid _ := ht
  have c1 := lex_any s hs w ht
  have c2 := rlex_any s hs
  clear ht
  obtain ⟨L, z, hr⟩ : ∃ L z, X.lex s.data.toList = (L, z) := ⟨_, _, rfl⟩
  rw [hr] at c1 c2
  have hz : ((z : Int) == z) = true := by simp
  go_enter Tryd.func3, Tryd.ntmps3
  go_wp2_with fail
  refine c1.mono ?_
  rintro e w1 ⟨a1, n1, k1, rfl, ho1, hn1, hb1⟩
  have HV1 : Hid _ := TV.of_own ho1 hn1
  have HB1 : Hid (Below w.heap.size w w1) := hb1
  clear ho1 hb1
  go_wp2_with fail
  refine (c2 _).mono ?_
  rintro e w2 ⟨a2, n2, k2, rfl, ho2, hn2, hb2⟩
  have HV2 : Hid _ := TV.of_own ho2 hn2
  have HV1' : Hid _ := HV1.out.below hb2
  have HB2 : Hid (Below w.heap.size w w2) := HB1.out.trans (hb2.mono HB1.out.size)
  clear ho2 hb2
  go_wp2_with fail
  refine (same_any HV1'.out HV2.out).mono ?_
  rw [decide_eq_true rfl]
  rintro e w3 ⟨rfl, hb3⟩
  have HB3 : Hid (Below w.heap.size w w3) := HB2.out.trans (hb3.mono HB2.out.size)
  go_wp2_with fail
  refine (live_any _ (HT.out.below HB3.out)).mono ?_
  rintro e w4 ⟨rfl, hb4⟩
  go_wp2
  go_ret
  exact ⟨ret_b rfl, HB3.out.trans (hb4.mono HB3.out.size)⟩

end Go.Proofs.YtfnakckiidblkaaDoor

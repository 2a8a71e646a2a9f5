/- What word.Put comes to. -/
import Derived.Test.YtcfdfnghaigkjaaWordGrp
namespace Go.Proofs.Ytcfdfnghaigkjaa
open Go.RowKit

set_option maxHeartbeats 400000 in
theorem put_any (u : Int) (h0 : 0 ≤ u) (h1 : u ≤ 18446744073709551615) (w : World) :
    Calls Try.prog 64 #[.int .u64 u] w fun e w' => e = .returned (.string (strOfNums (W.put u))) ∧ Below w.heap.size w w' := by
  have H1 : Hid (u ≤ 18446744073709551615) := h1
  clear h1
  go_enter Try.func64, Try.ntmps64
  go_wp2_with fail
  refine (groups_any w.heap.size 0 (.slice none 0 0) [] u h0 H1.out w (World.ownsRow_nil _ _ _ _) (Nat.le_refl _) (by omega)).mono ?_
  rintro e w1 ⟨v1, rfl, ho, hb⟩
  have hcv := conv_own ho
  simp only [List.nil_append] at hcv
  clear ho
  go_wp2
  go_ret
  exact ⟨rfl, hb⟩

end Go.Proofs.Ytcfdfnghaigkjaa

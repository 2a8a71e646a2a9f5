/- Regions: where one ends, whether two overlap. -/
import Derived.Test.YtneclfaamgfoeaaDoorEAb
import Derived.Deep.RegionWith
namespace Go.Proofs.YtneclfaamgfoeaaDoor
open Go.RowKit Go.Maps

set_option maxRecDepth 100000 in
set_option maxHeartbeats 1000000 in
theorem end_any (w : World) (b : Int) (a : Option Addr) (l c : Nat) (wr : Bool) (h0 : 0 ≤ b) (h1 : b ≤ 1099511627776) (h2 : l ≤ 65536) :
    Calls Tryd.prog 71 #[.agg #[.int .i64 b, .slice a l c, .bool wr]] w fun e w' => e = .returned (.int .i64 (b + 8 * l)) ∧ w' = w.alloc (.cells #[.int .i64 b, .slice a l c, .bool wr] 96) := by
  go_enter Tryd.func71, Tryd.ntmps71
  go_wp2
  go_ret
  exact ⟨rfl, rfl⟩

set_option maxRecDepth 100000 in
set_option maxHeartbeats 1000000 in
theorem overlap_any (w : World) (b1 : Int) (a1 : Option Addr) (l1 c1 : Nat) (w1 : Bool) (b2 : Int) (a2 : Option Addr) (l2 c2 : Nat) (w2 : Bool) (h0 : 0 ≤ b1) (h1 : b1 ≤ 1099511627776) (h2 : l1 ≤ 65536) (g0 : 0 ≤ b2) (g1 : b2 ≤ 1099511627776) (g2 : l2 ≤ 65536) :
    Calls Tryd.prog 54 #[.agg #[.int .i64 b1, .slice a1 l1 c1, .bool w1], .agg #[.int .i64 b2, .slice a2 l2 c2, .bool w2]] w fun e w' => e = .returned (.bool (decide (b1 < b2 + 8 * l2) && decide (b2 < b1 + 8 * l1))) ∧ Below w.heap.size w w' := by
  by_cases hc : b1 < b2 + 8 * l2
  · rw [decide_eq_true hc, Bool.true_and]
    go_enter Tryd.func54, Tryd.ntmps54
    go_wp2_with fail
    go_region_with (go_at_call 71; refine (end_any _ _ _ _ _ _ ?_ ?_ ?_).mono ?_; omega; omega; omega; rintro e x ⟨rfl, rfl⟩)
    all_goals go_wp2
    all_goals go_ret
    all_goals exact ⟨rfl, by repeat (first | exact Below.refl _ _ | assumption | refine Below.drew ?_ | refine Below.alloc ?_ (by first | omega | (simp; done) | (simp; omega)) _)⟩
  · have hdf : decide (b1 < b2 + 8 * (l2 : Int)) = false := decide_eq_false hc
    rw [decide_eq_false hc, Bool.false_and]
    go_enter Tryd.func54, Tryd.ntmps54
    go_wp2_with fail
    first | (go_region_with (go_at_call 71; refine (end_any _ _ _ _ _ _ ?_ ?_ ?_).mono ?_; omega; omega; omega; rintro e x ⟨rfl, rfl⟩)) | fail
    all_goals go_wp2
    all_goals go_ret
    all_goals exact ⟨rfl, by repeat (first | exact Below.refl _ _ | assumption | refine Below.drew ?_ | refine Below.alloc ?_ (by first | omega | (simp; done) | (simp; omega)) _)⟩

end Go.Proofs.YtneclfaamgfoeaaDoor

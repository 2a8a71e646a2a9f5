/- ins.Encode. -/
import Derived.Test.YtgjingleolhkbaaGreatDoorInsBears
import Derived.Test.YtgjingleolhkbaaGreatDoorInsNumber
import Derived.Deep.RegionHeld3
import Derived.Deep.DrawnRows
namespace Go.Proofs.YtgjingleolhkbaaGreatDoor.J
open Go.RowKit
set_option linter.unusedVariables false
attribute [local go_sem ↓] Go.wp_at_zero Go.wp_at_succ

theorem retSE {s t : ByteArray} {k : IntKind} {a b : Int} (h : s = t) (h' : a = b) : Ending.returned (.tuple #[.string s, .int k a]) = .returned (.tuple #[.string t, .int k b]) := by rw [h, h']

set_option maxRecDepth 100000 in
set_option maxHeartbeats 8000000 in
theorem enc_none (op a b n : Int) (h : op < 1 ∨ 33 < op) (w : World) (ht : Tab w) :
    Calls Tryz.prog 76 #[insV op a b n] w fun e w' => e = .returned (.tuple #[.string (strOfNums []), .int .i64 1]) ∧ Below w.heap.size w w' := by
  go_enter Tryz.func76, Tryz.ntmps76
  go_wp2_with (go_at_call 93; refine (formOf_no _ h _ (ht.alloc _)).mono ?_; rintro e w' ⟨rfl, rfl⟩)
  go_ret2
  exact ⟨rfl, bl3 _ _ _ _⟩

set_option maxRecDepth 100000 in
set_option maxHeartbeats 8000000 in
theorem enc_bad (op a b n : Int) (h : 1 ≤ op ∧ op ≤ 33) (hb : I.bears (I.regs op) (I.num op) a b n = false) (w : World) (ht : Tab w) :
    Calls Tryz.prog 76 #[insV op a b n] w fun e w' => e = .returned (.tuple #[.string (strOfNums []), .int .i64 1]) ∧ Below w.heap.size w w' := by
  go_enter Tryz.func76, Tryz.ntmps76
  go_wp2_with (first | (go_at_call 93; refine (formOf_yes _ h _ (ht.alloc _)).mono ?_; rintro e w' ⟨rfl, rfl⟩) | (go_at_call 96; refine (bears_any _ _ (I.regs_range _) _ _ _ _ _ _).mono ?_; rintro e w1 ⟨rfl, hb1⟩))
  go_ret2
  exact ⟨rfl, (bl3 _ _ _ _).trans (hb1.mono (by simp; omega))⟩

end Go.Proofs.YtgjingleolhkbaaGreatDoor.J

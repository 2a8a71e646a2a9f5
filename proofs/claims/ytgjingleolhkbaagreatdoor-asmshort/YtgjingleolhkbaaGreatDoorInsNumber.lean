/- The number's bytes, written and read. -/
import Derived.Test.YtgjingleolhkbaaGreatDoorInsWrite
import Derived.Test.YtgjingleolhkbaaGreatDoorWordNum
namespace Go.Proofs.YtgjingleolhkbaaGreatDoor.J
open Go.RowKit
set_option linter.unusedVariables false

theorem retSB {s t : List Int} {a b : Bool} (h : s = t) (h' : a = b) : Ending.returned (.tuple #[.string (strOfNums s), .bool a]) = .returned (.tuple #[.string (strOfNums t), .bool b]) := by rw [h, h']
theorem retIB {k : IntKind} {s t : Int} {a b : Bool} (h : s = t) (h' : a = b) : Ending.returned (.tuple #[.int k s, .bool a]) = .returned (.tuple #[.int k t, .bool b]) := by rw [h, h']

set_option maxHeartbeats 8000000 in
theorem wnum_0 (r : Int) (t : Bool) (n : Int) (w : World) :
    Calls Tryz.prog 97 #[formW r 0 t, .int .i64 n] w fun e w' => e = .returned (.tuple #[.string (strOfNums []), .bool true]) ∧ Below w.heap.size w w' := by
  go_enter Tryz.func97, Tryz.ntmps97
  go_wp2
  go_ret2
  exact ⟨rfl, bl1 _ _⟩

set_option maxHeartbeats 8000000 in
theorem wnum_m (r m : Int) (t : Bool) (n : Int) (hm : ¬ m = 0) (w : World) :
    Calls Tryz.prog 97 #[formW r m t, .int .i64 n] w fun e w' => e = .returned (.tuple #[.string (strOfNums (W.bytesV n m)), .bool (W.bytesE n m == 0 && (decide (0 ≤ n) || !t))]) ∧ Below w.heap.size w w' := by
  obtain ⟨ee, he⟩ : ∃ ee, W.bytesE n m = ee := ⟨_, rfl⟩
  have HE : Hid (W.bytesE n m = ee) := he
  rw [he]
  clear he
  by_cases h0 : ee = 0
  · subst h0
    go_enter Tryz.func97, Tryz.ntmps97
    go_wp2_with fail
    refine (bytes_any n m _).mono ?_
    rintro e w1 ⟨rfl, hb1⟩
    rw [HE.out]
    obtain ⟨hc1, hf1⟩ := bcell hb1
    go_wp2_with (go_at_call 111; refine (allows_any _ _ _ _ _).mono ?_; rintro e w' ⟨rfl, rfl⟩)
    go_ret2
    exact ⟨retSB rfl (by simp), ((bl1 _ _).trans (hb1.mono (by simp))).alloc (by have := hb1.size; simp at this; omega) _⟩
  · have h0' : (ee == 0) = false := by simpa using h0
    go_enter Tryz.func97, Tryz.ntmps97
    go_wp2_with fail
    refine (bytes_any n m _).mono ?_
    rintro e w1 ⟨rfl, hb1⟩
    rw [HE.out]
    go_wp2
    go_ret2
    exact ⟨retSB rfl (by rw [h0']; rfl), (bl1 _ _).trans (hb1.mono (by simp))⟩

end Go.Proofs.YtgjingleolhkbaaGreatDoor.J

/- The number's bytes, written and read. -/
import Derived.Test.YtffokdldgdjkhaaDoorInsWrite
import Derived.Test.YtffokdldgdjkhaaDoorWordNum
namespace Go.Proofs.YtffokdldgdjkhaaDoor
set_option maxRecDepth 100000
open Go.RowKit
set_option linter.unusedVariables false

theorem retSB {s t : List Int} {a b : Bool} (h : s = t) (h' : a = b) : Ending.returned (.tuple #[.string (strOfNums s), .bool a]) = .returned (.tuple #[.string (strOfNums t), .bool b]) := by rw [h, h']
theorem retIB {k : IntKind} {s t : Int} {a b : Bool} (h : s = t) (h' : a = b) : Ending.returned (.tuple #[.int k s, .bool a]) = .returned (.tuple #[.int k t, .bool b]) := by rw [h, h']

set_option maxHeartbeats 8000000 in
theorem rnum_0 (r : Int) (t : Bool) (s : ByteArray) (w : World) :
    Calls Tryd.prog 68 #[formW r 0 t, .string s] w fun e w' => e = .returned (.tuple #[.int .i64 0, .bool true]) ∧ w' = w.alloc (.cells #[.int .i64 r, .int .i64 0, .bool t] 133) := by
  go_enter Tryd.func68, Tryd.ntmps68
  go_wp2
  go_ret2
  exact ⟨rfl, rfl⟩

set_option maxHeartbeats 8000000 in
theorem rnum_m (r m : Int) (t : Bool) (s : ByteArray) (hm : ¬ m = 0) (w : World) :
    Calls Tryd.prog 68 #[formW r m t, .string s] w fun e w' => e = .returned (.tuple #[.int .i64 (W.numV s), .bool (W.numE s == 0 && (decide (0 ≤ W.numV s) || !t))]) ∧ Below w.heap.size w w' := by
  obtain ⟨ee, he⟩ : ∃ ee, W.numE s = ee := ⟨_, rfl⟩
  have HE : Hid (W.numE s = ee) := he
  obtain ⟨v, hv⟩ : ∃ v, W.numV s = v := ⟨_, rfl⟩
  have HV : Hid (W.numV s = v) := hv
  rw [he, hv]
  clear he hv
  by_cases h0 : ee = 0
  · subst h0
    go_enter Tryd.func68, Tryd.ntmps68
    go_wp2_with (first | (go_at_call 80; refine (number_any _ _).mono ?_; rintro e w' ⟨rfl, rfl⟩; rw [HE.out, HV.out]) | (go_at_call 81; refine (allows_any _ _ _ _ _).mono ?_; rintro e w' ⟨rfl, rfl⟩))
    go_ret2
    exact ⟨retIB rfl (by simp), bl2 _ _ _⟩
  · have h0' : (ee == 0) = false := by simpa using h0
    go_enter Tryd.func68, Tryd.ntmps68
    go_wp2_with (go_at_call 80; refine (number_any _ _).mono ?_; rintro e w' ⟨rfl, rfl⟩; rw [HE.out, HV.out])
    go_ret2
    exact ⟨retIB rfl (by rw [h0']; rfl), bl1 _ _⟩

end Go.Proofs.YtffokdldgdjkhaaDoor

/- The number's bytes, written and read. -/
import Derived.Test.YtcllbbdkihmpgaaDoorInsWrite
import Derived.Test.YtcllbbdkihmpgaaDoorWordNum
namespace Go.Proofs.YtcllbbdkihmpgaaDoor
open Go.RowKit
set_option linter.unusedVariables false

theorem retSB {s t : List Int} {a b : Bool} (h : s = t) (h' : a = b) : Ending.returned (.tuple #[.string (strOfNums s), .bool a]) = .returned (.tuple #[.string (strOfNums t), .bool b]) := by rw [h, h']
theorem retIB {k : IntKind} {s t : Int} {a b : Bool} (h : s = t) (h' : a = b) : Ending.returned (.tuple #[.int k s, .bool a]) = .returned (.tuple #[.int k t, .bool b]) := by rw [h, h']

set_option maxHeartbeats 8000000 in
theorem wnum_0 (r : Int) (t : Bool) (n : Int) (w : World) :
    Calls Tryd.prog 21 #[formW r 0 t, .int .i64 n] w fun e w' => e = .returned (.tuple #[.string (strOfNums []), .bool true]) ∧ Below w.heap.size w w' := by
  go_enter Tryd.func21, Tryd.ntmps21
  go_wp2
  go_ret2
  exact ⟨rfl, bl1 _ _⟩

set_option maxHeartbeats 8000000 in
theorem wnum_m (r m : Int) (t : Bool) (n : Int) (hm : ¬ m = 0) (w : World) :
    Calls Tryd.prog 21 #[formW r m t, .int .i64 n] w fun e w' => e = .returned (.tuple #[.string (strOfNums (W.bytesV n m)), .bool (W.bytesE n m == 0 && (decide (0 ≤ n) || !t))]) ∧ Below w.heap.size w w' := by
  obtain ⟨ee, he⟩ : ∃ ee, W.bytesE n m = ee := ⟨_, rfl⟩
  have HE : Hid (W.bytesE n m = ee) := he
  rw [he]
  clear he
  by_cases h0 : ee = 0
  · subst h0
    go_enter Tryd.func21, Tryd.ntmps21
    go_wp2_with fail
    refine (bytes_any n m _).mono ?_
    rintro e w1 ⟨rfl, hb1⟩
    rw [HE.out]
    obtain ⟨hc1, hf1⟩ := bcell hb1
    go_wp2_with (go_at_call 31; refine (allows_any _ _ _ _ _).mono ?_; rintro e w' ⟨rfl, rfl⟩)
    go_ret2
    exact ⟨retSB rfl (by simp), ((bl1 _ _).trans (hb1.mono (by simp))).alloc (by have := hb1.size; simp at this; omega) _⟩
  · have h0' : (ee == 0) = false := by simpa using h0
    go_enter Tryd.func21, Tryd.ntmps21
    go_wp2_with fail
    refine (bytes_any n m _).mono ?_
    rintro e w1 ⟨rfl, hb1⟩
    rw [HE.out]
    go_wp2
    go_ret2
    exact ⟨retSB rfl (by rw [h0']; rfl), (bl1 _ _).trans (hb1.mono (by simp))⟩

set_option maxHeartbeats 8000000 in
theorem rnum_0 (r : Int) (t : Bool) (s : ByteArray) (w : World) :
    Calls Tryd.prog 34 #[formW r 0 t, .string s] w fun e w' => e = .returned (.tuple #[.int .i64 0, .bool true]) ∧ w' = w.alloc (.cells #[.int .i64 r, .int .i64 0, .bool t] 41) := by
  go_enter Tryd.func34, Tryd.ntmps34
  go_wp2
  go_ret2
  exact ⟨rfl, rfl⟩

set_option maxHeartbeats 8000000 in
theorem rnum_m (r m : Int) (t : Bool) (s : ByteArray) (hm : ¬ m = 0) (w : World) :
    Calls Tryd.prog 34 #[formW r m t, .string s] w fun e w' => e = .returned (.tuple #[.int .i64 (W.numV s), .bool (W.numE s == 0 && (decide (0 ≤ W.numV s) || !t))]) ∧ Below w.heap.size w w' := by
  obtain ⟨ee, he⟩ : ∃ ee, W.numE s = ee := ⟨_, rfl⟩
  have HE : Hid (W.numE s = ee) := he
  obtain ⟨v, hv⟩ : ∃ v, W.numV s = v := ⟨_, rfl⟩
  have HV : Hid (W.numV s = v) := hv
  rw [he, hv]
  clear he hv
  by_cases h0 : ee = 0
  · subst h0
    go_enter Tryd.func34, Tryd.ntmps34
    go_wp2_with (first | (go_at_call 37; refine (number_any _ _).mono ?_; rintro e w' ⟨rfl, rfl⟩; rw [HE.out, HV.out]) | (go_at_call 31; refine (allows_any _ _ _ _ _).mono ?_; rintro e w' ⟨rfl, rfl⟩))
    go_ret2
    exact ⟨retIB rfl (by simp), bl2 _ _ _⟩
  · have h0' : (ee == 0) = false := by simpa using h0
    go_enter Tryd.func34, Tryd.ntmps34
    go_wp2_with (go_at_call 37; refine (number_any _ _).mono ?_; rintro e w' ⟨rfl, rfl⟩; rw [HE.out, HV.out])
    go_ret2
    exact ⟨retIB rfl (by rw [h0']; rfl), bl1 _ _⟩

end Go.Proofs.YtcllbbdkihmpgaaDoor

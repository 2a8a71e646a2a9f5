/- The registers' byte and the number's bytes. -/
import Derived.Test.YtgjingleolhkbaaGreatDoorInsForm
import Derived.Test.YtgjingleolhkbaaGreatDoorWordBytes
namespace Go.Proofs.YtgjingleolhkbaaGreatDoor.J
open Go.RowKit
set_option linter.unusedVariables false

abbrev insW (op a b n : Int) : Value := .agg #[.int .i64 op, .int .i64 a, .int .i64 b, .int .i64 n]
abbrev formW (r m : Int) (t : Bool) : Value := .agg #[.int .i64 r, .int .i64 m, .bool t]

set_option maxHeartbeats 8000000 in
theorem wregs_0 (m : Int) (t : Bool) (op a b n : Int) (w : World) :
    Calls Tryz.prog 98 #[formW 0 m t, insW op a b n] w fun e w' => e = .returned (.string (strOfNums [])) ∧ Below w.heap.size w w' := by
  go_enter Tryz.func98, Tryz.ntmps98
  go_wp2
  go_ret
  exact ⟨rfl, bl2 _ _ _⟩
theorem conv1 (W : World) (b : Nat) (x : Int) (hb : b = W.heap.size) : (convert 65 9 (.slice (some ⟨b, 0, none⟩) 1 1)).run Tryz.prog (W.alloc (.cells #[.int .u8 x] 5)) = .ok (.string (strOfNums [x])) (W.alloc (.cells #[.int .u8 x] 5)) := by
  subst hb
  refine run_convert_bytes_arg (P := Tryz.prog) _ 65 5 Tryz.underlying65 Tryz.underlying5 W.heap.size 0 1 1 [x] rfl ?_ 9 Tryz.underlying9
  intro i hi
  obtain rfl : i = 0 := by simp at hi; omega
  simp

set_option maxHeartbeats 8000000 in
theorem wregs_1 (m : Int) (t : Bool) (op a b n : Int) (h0 : 0 ≤ a) (h8 : a < 8) (w : World) :
    Calls Tryz.prog 98 #[formW 1 m t, insW op a b n] w fun e w' => e = .returned (.string (strOfNums [a])) ∧ Below w.heap.size w w' := by
  have hcv := conv1
  have hw : IntKind.u8.wrap a = a := by rw [IntKind.wrap_u8]; omega
  go_enter Tryz.func98, Tryz.ntmps98
  go_wp2
  go_ret
  exact ⟨rfl, bl3 _ _ _ _⟩

set_option maxHeartbeats 8000000 in
theorem wregs_2 (m : Int) (t : Bool) (op a b n : Int) (h0 : 0 ≤ a) (h8 : a < 8) (g0 : 0 ≤ b) (g8 : b < 8) (w : World) :
    Calls Tryz.prog 98 #[formW 2 m t, insW op a b n] w fun e w' => e = .returned (.string (strOfNums [16 * a + b])) ∧ Below w.heap.size w w' := by
  have hcv := conv1
  have hw : IntKind.u8.wrap (16 * a + b) = 16 * a + b := by rw [IntKind.wrap_u8]; omega
  go_enter Tryz.func98, Tryz.ntmps98
  go_wp2
  go_ret
  exact ⟨rfl, bl3 _ _ _ _⟩

end Go.Proofs.YtgjingleolhkbaaGreatDoor.J

/- The registers' byte and the number's bytes. -/
import Derived.Test.YtffokdldgdjkhaaDoorInsForm
import Derived.Test.YtffokdldgdjkhaaDoorWordBytes
namespace Go.Proofs.YtffokdldgdjkhaaDoor
set_option maxRecDepth 100000
open Go.RowKit
set_option linter.unusedVariables false

abbrev insW (op a b n : Int) : Value := .agg #[.int .i64 op, .int .i64 a, .int .i64 b, .int .i64 n]
abbrev formW (r m : Int) (t : Bool) : Value := .agg #[.int .i64 r, .int .i64 m, .bool t]

theorem conv1 (W : World) (b : Nat) (x : Int) (hb : b = W.heap.size) : (convert 74 9 (.slice (some ⟨b, 0, none⟩) 1 1)).run Tryd.prog (W.alloc (.cells #[.int .u8 x] 5)) = .ok (.string (strOfNums [x])) (W.alloc (.cells #[.int .u8 x] 5)) := by
  subst hb
  refine run_convert_bytes_arg (P := Tryd.prog) _ 74 5 Tryd.underlying74 Tryd.underlying5 W.heap.size 0 1 1 [x] rfl ?_ 9 Tryd.underlying9
  intro i hi
  obtain rfl : i = 0 := by simp at hi; omega
  simp

end Go.Proofs.YtffokdldgdjkhaaDoor

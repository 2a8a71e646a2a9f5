/- ins.Encode. -/
import Derived.Test.YtffokdldgdjkhaaDoorInsBears
import Derived.Test.YtffokdldgdjkhaaDoorInsNumber
import Derived.Deep.RegionHeld3
import Derived.Deep.DrawnRows
namespace Go.Proofs.YtffokdldgdjkhaaDoor
set_option maxRecDepth 100000
open Go.RowKit
set_option linter.unusedVariables false
attribute [local go_sem ↓] Go.wp_at_zero Go.wp_at_succ

theorem retSE {s t : ByteArray} {k : IntKind} {a b : Int} (h : s = t) (h' : a = b) : Ending.returned (.tuple #[.string s, .int k a]) = .returned (.tuple #[.string t, .int k b]) := by rw [h, h']

end Go.Proofs.YtffokdldgdjkhaaDoor

/- A number out of bytes fits. -/
import Derived.Test.YtffokdldgdjkhaaDoorWordNumMath
namespace Go.Proofs.YtffokdldgdjkhaaDoor.W
set_option maxRecDepth 100000
open Go.RowKit

theorem numV_wf (s : ByteArray) : (Lit.int .i64 (numV s)).wf = true := by
  have h : -9223372036854775808 ≤ numV s ∧ numV s ≤ 9223372036854775807 := by
    unfold numV
    split
    · unfold sx
      split
      · omega
      · split
        · unfold wrap32; omega
        · unfold wrap64; omega
    · omega
  simp [Lit.wf, IntKind.min, IntKind.max, IntKind.signed, IntKind.bits]
  omega

end Go.Proofs.YtffokdldgdjkhaaDoor.W

/- Has a form room for all that an instruction says? -/
import Derived.Test.YtffokdldgdjkhaaDoorInsForm
namespace Go.Proofs.YtffokdldgdjkhaaDoor
set_option maxRecDepth 100000
open Go.RowKit
set_option linter.unusedVariables false

abbrev insV (op a b n : Int) : Value := .agg #[.int .i64 op, .int .i64 a, .int .i64 b, .int .i64 n]
abbrev formV (r m : Int) (t : Bool) : Value := .agg #[.int .i64 r, .int .i64 m, .bool t]

end Go.Proofs.YtffokdldgdjkhaaDoor

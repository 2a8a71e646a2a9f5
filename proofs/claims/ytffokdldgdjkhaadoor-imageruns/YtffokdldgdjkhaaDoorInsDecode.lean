/- ins.Decode. -/
import Derived.Test.YtffokdldgdjkhaaDoorInsReadB
namespace Go.Proofs.YtffokdldgdjkhaaDoor
set_option maxRecDepth 100000
open Go.RowKit
set_option linter.unusedVariables false
attribute [local go_sem ↓] Go.wp_at_zero Go.wp_at_succ

abbrev decV (i : Value) (n e : Int) : Value := .tuple #[i, .int .i64 n, .int .i64 e]
/-- What Decode answers. -/
def I.cut (s : ByteArray) (at' : Int) : ByteArray := s.extract at'.toNat s.size
def I.decR (s : ByteArray) (at' : Int) : Value :=
  if at' < 0 ∨ (s.size : Int) < at' then decV (insW 0 0 0 0) 0 1
  else if I.dOk (I.cut s at') = true then decV (insW (I.hd (I.cut s at')) (I.dA (I.cut s at')) (I.dB (I.cut s at')) (I.dN (I.cut s at'))) (at' + I.psize (I.hd (I.cut s at'))) 0
  else decV (insW 0 0 0 0) 0 9

end Go.Proofs.YtffokdldgdjkhaaDoor

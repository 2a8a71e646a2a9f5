/- The instruction with whose form bytes begin: no walk. -/
import Derived.Test.YtffokdldgdjkhaaDoorInsMath
import Derived.Test.YtffokdldgdjkhaaDoorWordNumMath
namespace Go.Proofs.YtffokdldgdjkhaaDoor.I
set_option maxRecDepth 100000
open Go.RowKit

/-- The first byte, as a number. -/
def hd (s : ByteArray) : Int := (W.tail s 0).headD 0
theorem hd_eq (s : ByteArray) (h : 0 < s.size) : hd s = (s[0].toNat : Int) := by
  unfold hd; rw [W.tail_cons s 0 h]; rfl
/-- What the registers' byte says, and the number's bytes. -/
def rA (r : Int) (s : ByteArray) : Int := if r = 0 then 0 else if r = 1 then hd s else hd s / 16
def rB (r : Int) (s : ByteArray) : Int := if r = 2 then hd s % 16 else 0
def rdN (m : Int) (s : ByteArray) : Int := if m = 0 then 0 else W.numV s
def rdOk (m : Int) (t : Bool) (s : ByteArray) : Bool := if m = 0 then true else W.numE s == 0 && (decide (0 ≤ W.numV s) || !t)

end Go.Proofs.YtffokdldgdjkhaaDoor.I

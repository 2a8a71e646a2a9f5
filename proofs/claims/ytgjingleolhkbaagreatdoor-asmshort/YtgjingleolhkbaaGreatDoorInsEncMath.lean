/- An instruction's bytes. -/
import Derived.Test.YtgjingleolhkbaaGreatDoorInsMath
namespace Go.Proofs.YtgjingleolhkbaaGreatDoor.J.I

/-- The registers' byte. -/
def regB (r a b : Int) : List Int := if r = 0 then [] else if r = 1 then [a] else [16 * a + b]
/-- The number's bytes, and whether there are such. -/
def numW (m n : Int) : List Int := if m = 0 then [] else W.bytesV n m
def numOk (m : Int) (t : Bool) (n : Int) : Bool := if m = 0 then true else (W.bytesE n m == 0 && (decide (0 ≤ n) || !t))

theorem regB_len (r a b : Int) : (regB r a b).length ≤ 1 := by
  unfold regB
  split
  · simp
  · split <;> simp
theorem numW_len (m n : Int) : (numW m n).length ≤ 8 := by
  unfold numW W.bytesV
  split
  · simp
  · split
    · rename_i hs
      split
      · rw [W.bytesOf_length]
        unfold W.isSz at hs
        simp at hs
        omega
      · simp
    · simp

end Go.Proofs.YtgjingleolhkbaaGreatDoor.J.I

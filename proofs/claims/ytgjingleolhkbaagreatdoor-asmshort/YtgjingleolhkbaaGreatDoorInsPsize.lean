/- How many bytes an instruction takes, as the program reckons it. -/
import Derived.Test.YtgjingleolhkbaaGreatDoorInsMath
namespace Go.Proofs.YtgjingleolhkbaaGreatDoor.J

def I.psize (op : Int) : Int := if I.regs op = 0 then 1 + I.num op else 2 + I.num op
theorem I.psize_size (op : Int) (h : 1 ≤ op ∧ op ≤ 33) : I.psize op = I.size op := by
  rcases I.cases33 op h.1 h.2 with rfl | rfl | rfl | rfl | rfl | rfl | rfl | rfl | rfl | rfl | rfl | rfl | rfl | rfl | rfl | rfl | rfl | rfl | rfl | rfl | rfl | rfl | rfl | rfl | rfl | rfl | rfl | rfl | rfl | rfl | rfl | rfl | rfl <;> decide

end Go.Proofs.YtgjingleolhkbaaGreatDoor.J

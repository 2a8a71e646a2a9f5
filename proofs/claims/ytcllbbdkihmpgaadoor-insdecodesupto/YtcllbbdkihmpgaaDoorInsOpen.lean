/- The arguments of layer 3's statements, opened; a world that holds the tables. -/
import Derived.Test.YtcllbbdkihmpgaaDoorCards
import Derived.Test.YtcllbbdkihmpgaaDoorTie
import Derived.Test.YtcllbbdkihmpgaaDoorInsLaid
import Derived.WalkKit
import Derived.ProofKit
import Derived.OpenShut
import Derived.ShutString
import Derived.ChangeOld
import Derived.Below
import Derived.Carry
import Derived.Deep.DeepHandedRow
import Derived.Lib.SmallJoins
namespace Go.Proofs.YtcllbbdkihmpgaaDoor
open Go.ChangeShapes Go.WideShapes Go.ChangeAt Go.RowKit Go.Joins

section
variable {H : Type} {enc : TypeId × Value → H} {w : World} {base : Nat} {spare : Nat → Bool} {held : Bool}
theorem open_ins {r : Reach} {b0 : Nat} {v : Value} {d : DataW H} {p : List MemPlace} (hv : Value.okWide Tryd.prog w r b0 23 v) (h : DataW.Trod enc Tryd.prog w base spare held 23 v d p) :
    ∃ op a b n : Int, v = .agg #[.int .i64 op, .int .i64 a, .int .i64 b, .int .i64 n] ∧ (Lit.int .i64 op).wf = true ∧ (Lit.int .i64 a).wf = true ∧ (Lit.int .i64 b).wf = true ∧ (Lit.int .i64 n).wf = true := by
  obtain ⟨v0, v1, v2, v3, y0, y1, y2, y3, n, rfl, -, -, h0, h1, h2, h3⟩ := open_agg4 Tryd.underlying23 (by kernel_rfl) (by kernel_rfl) hv h
  obtain ⟨a0, e0, -, w0⟩ := DataW.trod_int Tryd.underlying3 h0
  obtain ⟨a1, e1, -, w1⟩ := DataW.trod_int Tryd.underlying3 h1
  obtain ⟨a2, e2, -, w2⟩ := DataW.trod_int Tryd.underlying3 h2
  obtain ⟨a3, e3, -, w3⟩ := DataW.trod_int Tryd.underlying2 h3
  simp only [List.cons.injEq, and_true] at e0 e1 e2 e3
  subst e0 e1 e2 e3
  exact ⟨a0, a1, a2, a3, rfl, w0, w1, w2, w3⟩
end

/-- A block that holds these cells in the place of its own. -/
def setObj (cs : Array Value) : Obj → Obj
  | .cells _ t frozen => .cells cs t frozen
  | o => o
/-- A world for the witness: the settled one, the tables holding what their initialisers lay. -/
noncomputable def laidWorld (os : Os) : World :=
  { World.holding Tryd.prog os ⟨#[], #[], []⟩ with heap := ((World.holding Tryd.prog os ⟨#[], #[], []⟩).heap.modify 0 (setObj I.nums)).modify 1 (setObj I.forms) }

end Go.Proofs.YtcllbbdkihmpgaaDoor

/- An item's line, by the document. -/
import Derived.Test.YtbkjiipelmfbjaaGreatDoorAsRefD
import Derived.Test.YtbkjiipelmfbjaaGreatDoorAsRow
import Derived.Test.YtbkjiipelmfbjaaGreatDoorAsPrint
namespace Go.Proofs.YtbkjiipelmfbjaaGreatDoor
open Go.RowKit Go.Lib
set_option linter.unusedVariables false
set_option linter.unusedSimpArgs false

def LineOut (w : World) (L : X.By) (e : Ending) (w' : World) : Prop := e = .returned (.string (X.str L)) ∧ Below w.heap.size w w'
theorem line_name {kd : Int} {nm : ByteArray} {op a b n : Int} {ws : List Int} (hk : kd = 1) : Go.Lib.join (X.said ⟨kd, nm.data.toList, op, a, b, n, ws⟩) [32] = nm.data.toList ++ [58] := by
  subst hk; unfold X.said; simp [Go.Lib.join_one]
theorem line_glob {kd : Int} {nm : ByteArray} {op a b n : Int} {ws : List Int} (hk : kd = 4) : Go.Lib.join (X.said ⟨kd, nm.data.toList, op, a, b, n, ws⟩) [32] = X.wGlobal ++ 32 :: nm.data.toList := by
  subst hk; unfold X.said; simp [Go.Lib.join_cons, Go.Lib.joinTail]
theorem line_thread {kd : Int} {nm : ByteArray} {op a b n : Int} {ws : List Int} (hk : kd = 5) : Go.Lib.join (X.said ⟨kd, nm.data.toList, op, a, b, n, ws⟩) [32] = X.wThread ++ 32 :: nm.data.toList := by
  subst hk; unfold X.said; simp [Go.Lib.join_cons, Go.Lib.joinTail]
theorem line_words {kd : Int} {nm : ByteArray} {op a b n : Int} {ws : List Int} (hk : kd = 3) : Go.Lib.join (X.said ⟨kd, nm.data.toList, op, a, b, n, ws⟩) [32] = (X.wWords ++ 32 :: nm.data.toList) ++ Go.Lib.joinTail [32] (ws.map Go.Lib.itoa) := by
  subst hk; unfold X.said; simp [Go.Lib.join_cons, Go.Lib.joinTail]
theorem line_ins {kd : Int} {nm : ByteArray} {op a b n : Int} {ws : List Int} (hk : kd = 2) : Go.Lib.join (X.said ⟨kd, nm.data.toList, op, a, b, n, ws⟩) [32] = (X.row op.toNat).1 ++ Go.Lib.joinTail [32] ((X.row op.toNat).2.map (X.operand ⟨kd, nm.data.toList, op, a, b, n, ws⟩)) := by
  subst hk; unfold X.said X.saidIns; simp [Go.Lib.join_cons]
theorem tail_snoc {α : Type} (f : α → X.By) {l : List α} {k : Nat} {x : α} (h : l[k]? = some x) : Go.Lib.joinTail [32] ((l.map f).take (k + 1)) = Go.Lib.joinTail [32] ((l.map f).take k) ++ 32 :: f x := by
  rw [Go.Lib.joinTail_take_succ [32] (l.map f) k (f x) (by simp [h])]
  simp

end Go.Proofs.YtbkjiipelmfbjaaGreatDoor

/- An item's words, and its line. -/
import Derived.Test.YtgjingleolhkbaaGreatDoorAsChk
import Derived.Deep.AppendLies
import Derived.Laws.OwnMore
namespace Go.Proofs.YtgjingleolhkbaaGreatDoor
open Go.RowKit
set_option linter.unusedVariables false
set_option linter.unusedSimpArgs false

/-- Words as cells. -/
def sC (ws : List X.By) : List Value := ws.map fun x => Value.string (X.str x)
theorem infoS : (Tryz.prog.info? 9).map (fun i => (i.zero, i.size, i.bytes)) = some (some (.string { data := #[] }), 1, 16) := by kernel_rfl
def row1 (f : UInt8 → X.By) (m r : X.By) : List X.By := m :: r.map f
theorem row1_snoc {f : UInt8 → X.By} {m : X.By} {r : ByteArray} {k : Nat} (hk : k < r.size) : sC ((row1 f m r.data.toList).take (k + 1 + 1)) = sC ((row1 f m r.data.toList).take (k + 1)) ++ [.string (X.str (f r[k]))] := by
  unfold sC row1
  rw [List.take_succ_cons, List.take_succ_cons, List.map_cons, List.map_cons, List.cons_append, ← List.map_take, ← List.map_take]
  congr 1
  rw [List.take_add_one, get_list r k hk]
  simp
theorem own_thru {w w1 : World} {B : Nat} {ty : TypeId} {k : Nat} {u : Value} {n : Nat} {cs : List Value} (hu : w.ownsRow B ty k u n cs) (hb : Below w.heap.size w w1) : w1.ownsRow B ty k u n cs := by
  have g : w.grownBy w1 none := ⟨hb.os, hb.tape, hb.output, hb.size, fun k hk _ => hb.block k hk⟩
  cases e : u.ownBlock with
  | none => exact hu.kept g (.inl e)
  | some b => exact hu.kept g (.inr (by rw [e]; simp))
theorem own_baseB {w : World} {B B' : Nat} {v : Value} {e : TypeId} {size n : Nat} {xs : List Value} (o : w.ownsRow B e size v n xs) (h : B' ≤ B) : w.ownsRow B' e size v n xs := by
  refine ⟨o.1, ?_⟩
  rcases o.2 with h1 | ⟨g, cap, cur, h1, h2, h3⟩
  · exact .inl h1
  · exact .inr ⟨g, cap, cur, h1, Nat.le_trans h h2, h3⟩
theorem own_slice {w : World} {B : Nat} {ty : TypeId} {k : Nat} {u : Value} {n : Nat} {cs : List Value} (hu : w.ownsRow B ty k u n cs) : ∃ a c, u = .slice a n c := by
  rcases hu.2 with ⟨e1, e2⟩ | ⟨g, cap, cur, e1, -⟩
  · exact ⟨_, _, by rw [e1, e2]⟩
  · exact ⟨_, _, e1⟩
theorem below_grownB {B C : Nat} {w x y : World} {v : Value} {e : TypeId} {k n : Nat} {cs : List Value} (hb : Below C w x) (ho : x.ownsRow B e k v n cs) (hg : x.grownBy y v.ownBlock) (hw : B ≤ x.heap.size) (hc : C ≤ B) : Below C w y :=
  ⟨hg.os.trans hb.os, hg.tape.trans hb.tape, hg.output.trans hb.output, Nat.le_trans hb.size hg.size, fun i hi => (hg.block i (by omega) (fun e => by have := (ho.lt i e.symm).1; omega)).trans (hb.block i hi)⟩
theorem shape_len {op : Int} (h : 0 ≤ op ∧ op < 34) : (X.row op.toNat).2.length ≤ 3 := by
  have h1 : ∀ o : Fin 34, (X.row o.val).2.length ≤ 3 := by decide
  exact h1 ⟨op.toNat, by omega⟩

/-- Words in a row of their own. -/
def SaidOut (w : World) (ws : List X.By) (e : Ending) (w' : World) : Prop := ∃ g c, e = .returned (.slice (some ⟨g, 0, none⟩) ws.length c) ∧ w'.ownsRow w.heap.size 9 1 (.slice (some ⟨g, 0, none⟩) ws.length c) ws.length (sC ws) ∧ Below w.heap.size w w'

end Go.Proofs.YtgjingleolhkbaaGreatDoor

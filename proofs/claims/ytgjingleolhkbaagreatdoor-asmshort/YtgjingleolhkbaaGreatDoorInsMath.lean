/- The program's forms, the tables that hold them, and an instruction's bytes: no walk. -/
import Derived.Test.YtgjingleolhkbaaGreatDoorProg
import Derived.Test.YtgjingleolhkbaaGreatDoorFormMath
import Derived.Test.YtgjingleolhkbaaGreatDoorWordBytesMath
import Derived.WalkKit
import Derived.Below
namespace Go.Proofs.YtgjingleolhkbaaGreatDoor.J
open Go.RowKit

abbrev I.nums : Array Value := #[.int .i64 0, .int .i64 8, .int .i64 3, .int .i64 3, .int .i64 3, .int .i64 3, .int .i64 3, .int .i64 3, .int .i64 3, .int .i64 3, .int .i64 3, .int .i64 3, .int .i64 3, .int .i64 3, .int .i64 3, .int .i64 3, .int .i64 3, .int .i64 9, .int .i64 9, .int .i64 7, .int .i64 5, .int .i64 7, .int .i64 7, .int .i64 5, .int .i64 1, .int .i64 4, .int .i64 6, .int .i64 6, .int .i64 9, .int .i64 9, .int .i64 1, .int .i64 2, .int .i64 1, .int .i64 10]
abbrev I.forms : Array Value := #[.int .i64 0, .int .i64 0, .bool false, .int .i64 0, .int .i64 0, .bool false, .int .i64 1, .int .i64 0, .bool false, .int .i64 2, .int .i64 0, .bool false, .int .i64 0, .int .i64 1, .bool false, .int .i64 0, .int .i64 4, .bool false, .int .i64 1, .int .i64 1, .bool false, .int .i64 1, .int .i64 4, .bool false, .int .i64 1, .int .i64 8, .bool false, .int .i64 2, .int .i64 4, .bool false, .int .i64 0, .int .i64 1, .bool true]

/-- The two tables stand in memory as the program's text lays them. -/
def Tab (w : World) : Prop := (∀ o, w.cell? ⟨1, o, none⟩ = I.nums[o]?) ∧ (∀ o, w.cell? ⟨2, o, none⟩ = I.forms[o]?) ∧ 3 ≤ w.heap.size
theorem Tab.below {w w' : World} (h : Tab w) (hb : Below w.heap.size w w') : Tab w' :=
  ⟨fun o => (hb.cell (p := ⟨1, o, none⟩) (by have := h.2.2; simp; omega)).trans (h.1 o), fun o => (hb.cell (p := ⟨2, o, none⟩) (by have := h.2.2; simp; omega)).trans (h.2.1 o), Nat.le_trans h.2.2 hb.size⟩
theorem Tab.alloc {w : World} (h : Tab w) (x : Obj) : Tab (w.alloc x) := h.below ((Below.refl _ _).alloc (Nat.le_refl _) _)
theorem Tab.drew {w : World} (h : Tab w) : Tab w.drew := ⟨h.1, h.2.1, h.2.2⟩

namespace I
/-- How many registers, how many bytes of N, is N a natural number: as the program's table has it. -/
def regs (op : Int) : Int := if hasB (form op) then 2 else if hasA (form op) then 1 else 0
def num (op : Int) : Int := numB (form op)
def nat (op : Int) : Bool := op == 33
abbrev fv (op : Int) : Value := .agg #[.int .i64 (regs op), .int .i64 (num op), .bool (nat op)]
def is (op : Int) : Bool := decide (1 ≤ op ∧ op ≤ 33)
theorem regs_range (op : Int) : regs op = 0 ∨ regs op = 1 ∨ regs op = 2 := by
  unfold regs; split
  · omega
  · split <;> omega
theorem num_range (op : Int) : num op = 0 ∨ num op = 1 ∨ num op = 4 ∨ num op = 8 := by
  unfold num numB
  repeat (split; omega)
  omega
/-- Is it a register? -/
def isr (r : Int) : Bool := decide (0 ≤ r ∧ r < 8)
theorem isr_yes {r : Int} (h : 0 ≤ r ∧ r < 8) : isr r = true := decide_eq_true h
theorem isr_no {r : Int} (h : ¬ (0 ≤ r ∧ r < 8)) : isr r = false := decide_eq_false h
/-- Has the form room for all that the instruction says? -/
def bad (r m a b n : Int) : Bool := a != 0 && decide (r < 1) || b != 0 && decide (r < 2) || n != 0 && m == 0
def bears (r m a b n : Int) : Bool := !(bad r m a b n) && (isr a && isr b)
theorem bears_ok {r m a b n : Int} (h : (a != 0 && decide (r < 1) || b != 0 && decide (r < 2) || n != 0 && m == 0) = false) : bears r m a b n = (isr a && isr b) := by
  unfold bears bad; rw [h]; rfl
theorem bears_bad {r m a b n : Int} (h : (a != 0 && decide (r < 1) || b != 0 && decide (r < 2) || n != 0 && m == 0) = true) : bears r m a b n = false := by
  unfold bears bad; rw [h]; rfl
end I
end Go.Proofs.YtgjingleolhkbaaGreatDoor.J

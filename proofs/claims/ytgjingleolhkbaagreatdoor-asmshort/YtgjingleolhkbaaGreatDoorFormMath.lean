/- The forms of instructions, by their numbers: no program in sight. -/
import Derived.WalkKit
namespace Go.Proofs.YtgjingleolhkbaaGreatDoor.J.I

/-- The document's kinds of forms. -/
def form (op : Int) : Int :=
  if op = 1 then 1 else if 2 ≤ op ∧ op ≤ 16 then 2 else if op = 17 ∨ op = 18 ∨ op = 28 ∨ op = 29 then 3 else if op = 19 ∨ op = 21 ∨ op = 22 then 4
  else if op = 20 ∨ op = 23 then 5 else if op = 24 ∨ op = 30 ∨ op = 32 then 6 else if op = 25 then 7 else if op = 26 ∨ op = 27 then 8 else if op = 31 then 9
  else if op = 33 then 10 else 0
def hasA (f : Int) : Bool := f == 1 || f == 2 || f == 3 || f == 4 || f == 8 || f == 9
def hasB (f : Int) : Bool := f == 2 || f == 3
def numB (f : Int) : Int := if f = 1 then 8 else if f = 3 ∨ f = 4 ∨ f = 5 then 4 else if f = 7 ∨ f = 8 ∨ f = 10 then 1 else 0
/-- How many bytes an instruction takes. -/
def size (op : Int) : Int :=
  if form op = 0 then 0 else if hasA (form op) = true then 1 + (numB (form op) + 1) else 1 + numB (form op)

theorem cases33 (op : Int) (h1 : 1 ≤ op) (h2 : op ≤ 33) : op = 1 ∨ op = 2 ∨ op = 3 ∨ op = 4 ∨ op = 5 ∨ op = 6 ∨ op = 7 ∨ op = 8 ∨ op = 9 ∨ op = 10 ∨ op = 11 ∨ op = 12 ∨ op = 13 ∨ op = 14 ∨ op = 15 ∨ op = 16 ∨ op = 17 ∨ op = 18 ∨ op = 19 ∨ op = 20 ∨ op = 21 ∨ op = 22 ∨ op = 23 ∨ op = 24 ∨ op = 25 ∨ op = 26 ∨ op = 27 ∨ op = 28 ∨ op = 29 ∨ op = 30 ∨ op = 31 ∨ op = 32 ∨ op = 33 := by omega
theorem form_none {op : Int} (h : op < 1 ∨ 33 < op) : form op = 0 := by
  unfold form
  rw [if_neg (by omega), if_neg (by omega), if_neg (by omega), if_neg (by omega), if_neg (by omega), if_neg (by omega), if_neg (by omega), if_neg (by omega), if_neg (by omega), if_neg (by omega)]
theorem form_range (op : Int) : 0 ≤ form op ∧ form op ≤ 10 := by
  unfold form
  repeat (split; omega)
  omega
theorem form_some {op : Int} (h1 : 1 ≤ op) (h2 : op ≤ 33) : form op ≠ 0 := by
  unfold form
  intro h
  repeat (split at h; omega)
  omega
theorem size_none {op : Int} (h : op < 1 ∨ 33 < op) : size op = 0 := if_pos (form_none h)
theorem size_pos {op : Int} (h1 : 1 ≤ op) (h2 : op ≤ 33) : 1 ≤ size op ∧ size op ≤ 10 := by
  rcases cases33 op h1 h2 with rfl | rfl | rfl | rfl | rfl | rfl | rfl | rfl | rfl | rfl | rfl | rfl | rfl | rfl | rfl | rfl | rfl | rfl | rfl | rfl | rfl | rfl | rfl | rfl | rfl | rfl | rfl | rfl | rfl | rfl | rfl | rfl | rfl <;> decide

end Go.Proofs.YtgjingleolhkbaaGreatDoor.J.I

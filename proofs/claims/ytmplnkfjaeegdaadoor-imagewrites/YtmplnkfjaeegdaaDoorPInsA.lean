/- The program's forms, the tables that hold them, and an instruction's bytes: no walk. -/
import Derived.Test.YtmplnkfjaeegdaaDoorProg
import Derived.Test.YtmplnkfjaeegdaaDoorPWord
import Derived.WalkKit
import Derived.Below
import Derived.WalkSpells
import Derived.WalkLawsBesides
import Derived.Deep.RegionHeld3
import Derived.Deep.DrawnRows
import Derived.Deep.RegionWith
namespace Go.Proofs.YtmplnkfjaeegdaaDoor
set_option maxRecDepth 100000
open Go.RowKit

abbrev I.nums : Array Value := #[.int .i64 0, .int .i64 8, .int .i64 3, .int .i64 3, .int .i64 3, .int .i64 3, .int .i64 3, .int .i64 3, .int .i64 3, .int .i64 3, .int .i64 3, .int .i64 3, .int .i64 3, .int .i64 3, .int .i64 3, .int .i64 3, .int .i64 3, .int .i64 9, .int .i64 9, .int .i64 7, .int .i64 5, .int .i64 7, .int .i64 7, .int .i64 5, .int .i64 1, .int .i64 4, .int .i64 6, .int .i64 6, .int .i64 9, .int .i64 9, .int .i64 1, .int .i64 2, .int .i64 1, .int .i64 10]
abbrev I.forms : Array Value := #[.int .i64 0, .int .i64 0, .bool false, .int .i64 0, .int .i64 0, .bool false, .int .i64 1, .int .i64 0, .bool false, .int .i64 2, .int .i64 0, .bool false, .int .i64 0, .int .i64 1, .bool false, .int .i64 0, .int .i64 4, .bool false, .int .i64 1, .int .i64 1, .bool false, .int .i64 1, .int .i64 4, .bool false, .int .i64 1, .int .i64 8, .bool false, .int .i64 2, .int .i64 4, .bool false, .int .i64 0, .int .i64 1, .bool true]

/-- The two tables stand in memory as the program's text lays them. -/
def Tab (w : World) : Prop := (∀ o, w.cell? ⟨0, o, none⟩ = I.nums[o]?) ∧ (∀ o, w.cell? ⟨1, o, none⟩ = I.forms[o]?) ∧ 2 ≤ w.heap.size
theorem Tab.below {w w' : World} (h : Tab w) (hb : Below w.heap.size w w') : Tab w' :=
  ⟨fun o => (hb.cell (p := ⟨0, o, none⟩) (by have := h.2.2; simp; omega)).trans (h.1 o), fun o => (hb.cell (p := ⟨1, o, none⟩) (by have := h.2.2; simp; omega)).trans (h.2.1 o), Nat.le_trans h.2.2 hb.size⟩
theorem Tab.alloc {w : World} (h : Tab w) (x : Obj) : Tab (w.alloc x) := h.below ((Below.refl _ _).alloc (Nat.le_refl _) _)
theorem Tab.drew {w : World} (h : Tab w) : Tab w.drew := ⟨h.1, h.2.1, h.2.2⟩

namespace I
/-- How many registers, how many bytes of N, is N a natural number: as the program's table has it. -/
def regs (op : Int) : Int := if hasB (form op) then 2 else if hasA (form op) then 1 else 0
def num (op : Int) : Int := numB (form op)
def nat (op : Int) : Bool := op == 33
abbrev fv (op : Int) : Value := .agg #[.int .i64 (regs op), .int .i64 (num op), .bool (nat op)]
def is (op : Int) : Bool := decide (1 ≤ op ∧ op ≤ 33)
theorem regs_range (op : Int) : regs op = 0 ∨ regs op = 1 ∨ regs op = 2 := by
  unfold regs; split
  · omega
  · split <;> omega
theorem num_range (op : Int) : num op = 0 ∨ num op = 1 ∨ num op = 4 ∨ num op = 8 := by
  unfold num numB
  repeat (split; omega)
  omega
/-- Is it a register? -/
def isr (r : Int) : Bool := decide (0 ≤ r ∧ r < 8)
theorem isr_yes {r : Int} (h : 0 ≤ r ∧ r < 8) : isr r = true := decide_eq_true h
theorem isr_no {r : Int} (h : ¬ (0 ≤ r ∧ r < 8)) : isr r = false := decide_eq_false h
/-- Has the form room for all that the instruction says? -/
def bad (r m a b n : Int) : Bool := a != 0 && decide (r < 1) || b != 0 && decide (r < 2) || n != 0 && m == 0
def bears (r m a b n : Int) : Bool := !(bad r m a b n) && (isr a && isr b)
theorem bears_ok {r m a b n : Int} (h : (a != 0 && decide (r < 1) || b != 0 && decide (r < 2) || n != 0 && m == 0) = false) : bears r m a b n = (isr a && isr b) := by
  unfold bears bad; rw [h]; rfl
theorem bears_bad {r m a b n : Int} (h : (a != 0 && decide (r < 1) || b != 0 && decide (r < 2) || n != 0 && m == 0) = true) : bears r m a b n = false := by
  unfold bears bad; rw [h]; rfl
end I
end Go.Proofs.YtmplnkfjaeegdaaDoor

/- The forms' small functions. -/
namespace Go.Proofs.YtmplnkfjaeegdaaDoor
set_option maxRecDepth 100000
open Go.RowKit
set_option linter.unusedVariables false

theorem bcell {W w1 : World} (hb : Below W.heap.size W w1) : (∀ b o, b < W.heap.size → w1.cell? ⟨b, o, none⟩ = W.cell? ⟨b, o, none⟩) ∧ (∀ b o, b < W.heap.size → w1.frozen? ⟨b, o, none⟩ = W.frozen? ⟨b, o, none⟩) :=
  ⟨fun b o h => hb.cell (p := ⟨b, o, none⟩) h, fun b o h => hb.frozen (p := ⟨b, o, none⟩) h⟩
theorem bl1 (w : World) (x : Obj) : Below w.heap.size w (w.alloc x) := (Below.refl _ _).alloc (Nat.le_refl _) _
theorem bl2 (w : World) (x y : Obj) : Below w.heap.size w ((w.alloc x).alloc y) := (bl1 w x).alloc (by simp) _
theorem bl3 (w : World) (x y z : Obj) : Below w.heap.size w (((w.alloc x).alloc y).alloc z) := (bl2 w x y).alloc (by simp; omega) _
theorem ret_boolI {a b : Bool} (h : a = b) : Ending.returned (.bool a) = .returned (.bool b) := by rw [h]

set_option maxRecDepth 100000 in
set_option maxHeartbeats 8000000 in
theorem formOf_yes (op : Int) (h : 1 ≤ op ∧ op ≤ 33) (w : World) (ht : Tab w) :
    Calls Tryd.prog 96 #[.int .i64 op] w fun e w' => e = .returned (.tuple #[I.fv op, .bool true]) ∧ w' = w.alloc (.cells #[.int .i64 (I.regs op), .int .i64 (I.num op), .bool (I.nat op)] 159) := by
  obtain ⟨h0, h1, hz⟩ := ht
  have z0 : 0 < w.heap.size := by omega
  have z1 : 1 < w.heap.size := by omega
  rcases I.cases33 op h.1 h.2 with rfl | rfl | rfl | rfl | rfl | rfl | rfl | rfl | rfl | rfl | rfl | rfl | rfl | rfl | rfl | rfl | rfl | rfl | rfl | rfl | rfl | rfl | rfl | rfl | rfl | rfl | rfl | rfl | rfl | rfl | rfl | rfl | rfl
  all_goals
    go_enter Tryd.func96, Tryd.ntmps96
    go_wp2
    exact bodyPost_ret (v := .tuple #[I.fv _, .bool true]) (by simp [results, Tryd.results96, go_sem]; decide) rfl ⟨rfl, by rfl⟩

set_option maxRecDepth 100000 in
set_option maxHeartbeats 8000000 in
theorem formOf_no (op : Int) (h : op < 1 ∨ 33 < op) (w : World) (ht : Tab w) :
    Calls Tryd.prog 96 #[.int .i64 op] w fun e w' => e = .returned (.tuple #[.agg #[.int .i64 0, .int .i64 0, .bool false], .bool false]) ∧ w' = w.alloc (.cells #[.int .i64 0, .int .i64 0, .bool false] 159) := by
  obtain ⟨h0, h1, hz⟩ := ht
  have z0 : 0 < w.heap.size := by omega
  rcases (show op < 0 ∨ op = 0 ∨ 34 ≤ op by omega) with h | rfl | h
  all_goals
    go_enter Tryd.func96, Tryd.ntmps96
    go_wp2
    exact bodyPost_ret (v := .tuple #[.agg #[.int .i64 0, .int .i64 0, .bool false], .bool false]) (by simp [results, Tryd.results96, go_sem]) rfl ⟨rfl, rfl⟩

set_option maxHeartbeats 4000000 in
theorem fsize_any (r n : Int) (b : Bool) (hr : r = 0 ∨ r = 1 ∨ r = 2) (hn : n = 0 ∨ n = 1 ∨ n = 4 ∨ n = 8) (w : World) :
    Calls Tryd.prog 97 #[.agg #[.int .i64 r, .int .i64 n, .bool b]] w fun e w' => e = .returned (.int .i64 (if r = 0 then 1 + n else 2 + n)) ∧ w' = w.alloc (.cells #[.int .i64 r, .int .i64 n, .bool b] 159) := by
  by_cases h : r = 0
  · subst h
    rcases hn with rfl | rfl | rfl | rfl
    all_goals
      go_enter Tryd.func97, Tryd.ntmps97
      go_wp2
      go_ret
      exact ⟨rfl, rfl⟩
  · rw [if_neg h]
    rcases hn with rfl | rfl | rfl | rfl
    all_goals
      go_enter Tryd.func97, Tryd.ntmps97
      go_wp2
      go_ret
      exact ⟨rfl, rfl⟩

theorem isregI_any (r : Int) (w : World) :
    Calls Tryd.prog 108 #[.int .i64 r] w fun e w' => e = .returned (.bool (I.isr r)) ∧ w' = w := by
  by_cases h : 0 ≤ r
  · by_cases h2 : r < 8
    · go_enter Tryd.func108, Tryd.ntmps108
      go_wp2
      go_ret
      exact ⟨ret_boolI (by rw [I.isr_yes (by omega)]), rfl⟩
    · go_enter Tryd.func108, Tryd.ntmps108
      go_wp2
      go_ret
      exact ⟨ret_boolI (by rw [I.isr_no (by omega)]), rfl⟩
  · go_enter Tryd.func108, Tryd.ntmps108
    go_wp2
    go_ret
    exact ⟨ret_boolI (by rw [I.isr_no (by omega)]), rfl⟩

theorem allows_any (r m n : Int) (b : Bool) (w : World) :
    Calls Tryd.prog 110 #[.agg #[.int .i64 r, .int .i64 m, .bool b], .int .i64 n] w fun e w' => e = .returned (.bool (decide (0 ≤ n) || !b)) ∧ w' = w.alloc (.cells #[.int .i64 r, .int .i64 m, .bool b] 159) := by
  by_cases h : 0 ≤ n
  · go_enter Tryd.func110, Tryd.ntmps110
    go_wp2
    go_ret
    exact ⟨ret_boolI (by simp [h]), rfl⟩
  · have h' : decide (0 ≤ n) = false := decide_eq_false h
    go_enter Tryd.func110, Tryd.ntmps110
    go_wp2
    go_ret
    exact ⟨ret_boolI (by simp), rfl⟩

end Go.Proofs.YtmplnkfjaeegdaaDoor

/- How many bytes an instruction takes, as the program reckons it. -/
namespace Go.Proofs.YtmplnkfjaeegdaaDoor
set_option maxRecDepth 100000

def I.psize (op : Int) : Int := if I.regs op = 0 then 1 + I.num op else 2 + I.num op
theorem I.psize_size (op : Int) (h : 1 ≤ op ∧ op ≤ 33) : I.psize op = I.size op := by
  rcases I.cases33 op h.1 h.2 with rfl | rfl | rfl | rfl | rfl | rfl | rfl | rfl | rfl | rfl | rfl | rfl | rfl | rfl | rfl | rfl | rfl | rfl | rfl | rfl | rfl | rfl | rfl | rfl | rfl | rfl | rfl | rfl | rfl | rfl | rfl | rfl | rfl <;> decide

end Go.Proofs.YtmplnkfjaeegdaaDoor

/- The registers' byte and the number's bytes. -/
namespace Go.Proofs.YtmplnkfjaeegdaaDoor
set_option maxRecDepth 100000
open Go.RowKit
set_option linter.unusedVariables false

abbrev insW (op a b n : Int) : Value := .agg #[.int .i64 op, .int .i64 a, .int .i64 b, .int .i64 n]
abbrev formW (r m : Int) (t : Bool) : Value := .agg #[.int .i64 r, .int .i64 m, .bool t]

theorem conv1 (W : World) (b : Nat) (x : Int) (hb : b = W.heap.size) : (convert 60 9 (.slice (some ⟨b, 0, none⟩) 1 1)).run Tryd.prog (W.alloc (.cells #[.int .u8 x] 5)) = .ok (.string (strOfNums [x])) (W.alloc (.cells #[.int .u8 x] 5)) := by
  subst hb
  refine run_convert_bytes_arg (P := Tryd.prog) _ 60 5 Tryd.underlying60 Tryd.underlying5 W.heap.size 0 1 1 [x] rfl ?_ 9 Tryd.underlying9
  intro i hi
  obtain rfl : i = 0 := by simp at hi; omega
  simp

end Go.Proofs.YtmplnkfjaeegdaaDoor

/- The number's bytes, written and read. -/
namespace Go.Proofs.YtmplnkfjaeegdaaDoor
set_option maxRecDepth 100000
open Go.RowKit
set_option linter.unusedVariables false

theorem retSB {s t : List Int} {a b : Bool} (h : s = t) (h' : a = b) : Ending.returned (.tuple #[.string (strOfNums s), .bool a]) = .returned (.tuple #[.string (strOfNums t), .bool b]) := by rw [h, h']
theorem retIB {k : IntKind} {s t : Int} {a b : Bool} (h : s = t) (h' : a = b) : Ending.returned (.tuple #[.int k s, .bool a]) = .returned (.tuple #[.int k t, .bool b]) := by rw [h, h']

set_option maxHeartbeats 8000000 in
theorem rnum_0 (r : Int) (t : Bool) (s : ByteArray) (w : World) :
    Calls Tryd.prog 99 #[formW r 0 t, .string s] w fun e w' => e = .returned (.tuple #[.int .i64 0, .bool true]) ∧ w' = w.alloc (.cells #[.int .i64 r, .int .i64 0, .bool t] 159) := by
  go_enter Tryd.func99, Tryd.ntmps99
  go_wp2
  go_ret2
  exact ⟨rfl, rfl⟩

set_option maxHeartbeats 8000000 in
theorem rnum_m (r m : Int) (t : Bool) (s : ByteArray) (hm : ¬ m = 0) (w : World) :
    Calls Tryd.prog 99 #[formW r m t, .string s] w fun e w' => e = .returned (.tuple #[.int .i64 (W.numV s), .bool (W.numE s == 0 && (decide (0 ≤ W.numV s) || !t))]) ∧ Below w.heap.size w w' := by
  obtain ⟨ee, he⟩ : ∃ ee, W.numE s = ee := ⟨_, rfl⟩
  have HE : Hid (W.numE s = ee) := he
  obtain ⟨v, hv⟩ : ∃ v, W.numV s = v := ⟨_, rfl⟩
  have HV : Hid (W.numV s = v) := hv
  rw [he, hv]
  clear he hv
  by_cases h0 : ee = 0
  · subst h0
    go_enter Tryd.func99, Tryd.ntmps99
    go_wp2_with (first | (go_at_call 109; refine (number_any _ _).mono ?_; rintro e w' ⟨rfl, rfl⟩; rw [HE.out, HV.out]) | (go_at_call 110; refine (allows_any _ _ _ _ _).mono ?_; rintro e w' ⟨rfl, rfl⟩))
    go_ret2
    exact ⟨retIB rfl (by simp), bl2 _ _ _⟩
  · have h0' : (ee == 0) = false := by simpa using h0
    go_enter Tryd.func99, Tryd.ntmps99
    go_wp2_with (go_at_call 109; refine (number_any _ _).mono ?_; rintro e w' ⟨rfl, rfl⟩; rw [HE.out, HV.out])
    go_ret2
    exact ⟨retIB rfl (by rw [h0']; rfl), bl1 _ _⟩

end Go.Proofs.YtmplnkfjaeegdaaDoor

/- Has a form room for all that an instruction says? -/
namespace Go.Proofs.YtmplnkfjaeegdaaDoor
set_option maxRecDepth 100000
open Go.RowKit
set_option linter.unusedVariables false

abbrev insV (op a b n : Int) : Value := .agg #[.int .i64 op, .int .i64 a, .int .i64 b, .int .i64 n]
abbrev formV (r m : Int) (t : Bool) : Value := .agg #[.int .i64 r, .int .i64 m, .bool t]

end Go.Proofs.YtmplnkfjaeegdaaDoor

/- ins.Encode. -/
namespace Go.Proofs.YtmplnkfjaeegdaaDoor
set_option maxRecDepth 100000
open Go.RowKit
set_option linter.unusedVariables false
attribute [local go_sem ↓] Go.wp_at_zero Go.wp_at_succ

theorem retSE {s t : ByteArray} {k : IntKind} {a b : Int} (h : s = t) (h' : a = b) : Ending.returned (.tuple #[.string s, .int k a]) = .returned (.tuple #[.string t, .int k b]) := by rw [h, h']

end Go.Proofs.YtmplnkfjaeegdaaDoor

/- An instruction's bytes. -/
namespace Go.Proofs.YtmplnkfjaeegdaaDoor.I
set_option maxRecDepth 100000

/-- The registers' byte. -/
def regB (r a b : Int) : List Int := if r = 0 then [] else if r = 1 then [a] else [16 * a + b]
/-- The number's bytes, and whether there are such. -/
def numW (m n : Int) : List Int := if m = 0 then [] else W.bytesV n m
def numOk (m : Int) (t : Bool) (n : Int) : Bool := if m = 0 then true else (W.bytesE n m == 0 && (decide (0 ≤ n) || !t))

theorem regB_len (r a b : Int) : (regB r a b).length ≤ 1 := by
  unfold regB
  split
  · simp
  · split <;> simp
theorem numW_len (m n : Int) : (numW m n).length ≤ 8 := by
  unfold numW W.bytesV
  split
  · simp
  · split
    · rename_i hs
      split
      · rw [W.bytesOf_length]
        unfold W.isSz at hs
        simp at hs
        omega
      · simp
    · simp

end Go.Proofs.YtmplnkfjaeegdaaDoor.I

/- ins.Encode, where the form has room for all. -/
namespace Go.Proofs.YtmplnkfjaeegdaaDoor
set_option maxRecDepth 100000
open Go.RowKit
set_option linter.unusedVariables false
attribute [local go_sem ↓] Go.wp_at_zero Go.wp_at_succ

theorem strOfNums_app (a b : List Int) : strOfNums a ++ strOfNums b = strOfNums (a ++ b) := by
  apply ByteArray.ext
  simp [strOfNums]

theorem conv_at (w : World) (b : Nat) (x : Int) (h : w.cell? ⟨b, 0, none⟩ = some (.int .u8 x)) : (convert 60 9 (.slice (some ⟨b, 0, none⟩) 1 1)).run Tryd.prog w = .ok (.string (strOfNums [x])) w := by
  refine run_convert_bytes_arg (P := Tryd.prog) _ 60 5 Tryd.underlying60 Tryd.underlying5 b 0 1 1 [x] rfl ?_ 9 Tryd.underlying9
  intro i hi
  obtain rfl : i = 0 := by simp at hi; omega
  simpa using h
theorem conv_drew (W : World) (b : Nat) (x : Int) (hb : b = W.heap.size) : (convert 60 9 (.slice (some ⟨b, 0, none⟩) 1 1)).run Tryd.prog (W.alloc (.cells #[.int .u8 x] 5)).drew = .ok (.string (strOfNums [x])) (W.alloc (.cells #[.int .u8 x] 5)).drew := by
  subst hb
  exact conv_at _ _ _ (by simp)
theorem conv_below {W w3 : World} (hb : Below W.heap.size W w3) (b : Nat) (x : Int) (h1 : b < W.heap.size) (h2 : W.cell? ⟨b, 0, none⟩ = some (.int .u8 x)) : (convert 60 9 (.slice (some ⟨b, 0, none⟩) 1 1)).run Tryd.prog w3 = .ok (.string (strOfNums [x])) w3 :=
  conv_at _ _ _ ((hb.cell (p := ⟨b, 0, none⟩) h1).trans h2)

theorem cell_thruI {W w3 : World} (hb : Below W.heap.size W w3) {b o : Nat} {v : Value} (h : W.cell? ⟨b, o, none⟩ = some v) : w3.cell? ⟨b, o, none⟩ = some v :=
  (hb.cell (p := ⟨b, o, none⟩) (World.block_lt_of_cell? W ⟨b, o, none⟩ h)).trans h

end Go.Proofs.YtmplnkfjaeegdaaDoor

/- ins.Encode and ins.Size, whatever the instruction. -/
namespace Go.Proofs.YtmplnkfjaeegdaaDoor
set_option maxRecDepth 100000
open Go.RowKit
set_option linter.unusedVariables false

/-- Is there a form, and does it bear all that the instruction says? -/
def I.fits (op a b n : Int) : Bool := decide (1 ≤ op ∧ op ≤ 33) && I.bears (I.regs op) (I.num op) a b n
def I.encE (op a b n : Int) : Int := if I.fits op a b n = true then (if I.numOk (I.num op) (I.nat op) n = true then 0 else 7) else 1
def I.encV (op a b n : Int) : List Int := if I.fits op a b n = true then (if I.numOk (I.num op) (I.nat op) n = true then [op] ++ I.regB (I.regs op) a b ++ I.numW (I.num op) n else []) else []

theorem I.bears_regs {r m a b n : Int} (h : I.bears r m a b n = true) : (0 ≤ a ∧ a < 8) ∧ 0 ≤ b ∧ b < 8 := by
  unfold I.bears at h
  have h2 := Bool.and_eq_true_iff.1 (Bool.and_eq_true_iff.1 h).2
  exact ⟨of_decide_eq_true h2.1, of_decide_eq_true h2.2⟩

set_option maxRecDepth 100000 in
set_option maxHeartbeats 8000000 in
theorem size_any (op : Int) (w : World) (ht : Tab w) :
    Calls Tryd.prog 71 #[.int .i64 op] w fun e w' => e = .returned (.int .i64 (I.size op)) ∧ Below w.heap.size w w' := by
  by_cases h : 1 ≤ op ∧ op ≤ 33
  · rw [← I.psize_size op h]
    obtain ⟨v, hv⟩ : ∃ v, I.psize op = v := ⟨_, rfl⟩
    have HV : Hid (I.psize op = v) := hv
    rw [hv]
    clear hv
    go_enter Tryd.func71, Tryd.ntmps71
    go_wp2_with (first | (go_at_call 96; refine (formOf_yes _ h _ ht).mono ?_; rintro e w' ⟨rfl, rfl⟩) | (go_at_call 97; refine (fsize_any _ _ _ (I.regs_range _) (I.num_range _) _).mono ?_; rintro e w' ⟨rfl, rfl⟩))
    all_goals
      go_ret
      refine ⟨congrArg (fun x => Ending.returned (.int .i64 x)) ?_, bl3 _ _ _ _⟩
      rw [← HV.out]
      unfold I.psize
      first | rw [if_pos ‹I.regs op = 0›] | rw [if_neg ‹¬ I.regs op = 0›]
  · rw [I.size_none (by omega)]
    go_enter Tryd.func71, Tryd.ntmps71
    go_wp2_with (go_at_call 96; refine (formOf_no _ ?_ _ ht).mono ?_; omega; rintro e w' ⟨rfl, rfl⟩)
    go_ret
    exact ⟨rfl, bl2 _ _ _⟩

end Go.Proofs.YtmplnkfjaeegdaaDoor

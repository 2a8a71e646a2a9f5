/- Assembly texts, as plain functions of bytes. -/
import Derived.Lib.ParseIntB
import Derived.Lib.IndexMore
import Derived.Lib.ItoaMem
import Derived.Lib.ItoaLen
import Derived.Lib.Join
import Derived.Test.YtgjingleolhkbaaGreatDoorProg
import Derived.WalkKit
import Derived.WalkSpells
import Derived.WalkLawsBesides
import Derived.OwnWalk
import Derived.Deep.LoopGhost
import Derived.Shelf.Abstract
import Derived.Deep.QuietTactic
import Derived.BigQuiet
import Derived.Shelf.Strconv.ParseIntPublic10
import Derived.Shelf.Strings.Cut
import Derived.Shelf.Strings.FieldsFuncAny
import Derived.Shelf.Strings.OnBuilder
import Derived.Shelf.Small.Wraps
import Derived.Shelf.Small.Strs
import Derived.Shelf.Strconv.Itoa4
namespace Go.Proofs.YtgjingleolhkbaaGreatDoor
namespace X
set_option linter.unusedVariables false
set_option linter.unusedSimpArgs false

abbrev By := List UInt8
def lt (n : Nat) : Bool := (decide (97 ≤ n) && decide (n ≤ 122)) || ((decide (65 ≤ n) && decide (n ≤ 90)) || decide (n = 95))
def dg (n : Nat) : Bool := decide (48 ≤ n) && decide (n ≤ 57)
def inn (n : Nat) : Bool := lt n || (dg n || decide (n = 46))
def first (l : By) : Nat := match l with | [] => 0 | c :: _ => c.toNat
/-- What may be a name. -/
def name (l : By) : Bool := decide (1 ≤ l.length) && (decide (l.length ≤ 28) && (lt (first l) && l.tail.all (fun c => inn c.toNat)))

/-- An item. -/
structure It where
  kind : Int
  name : By
  op : Int
  a : Int
  b : Int
  n : Int
  words : List Int
deriving DecidableEq
def noIt : It := ⟨0, [], 0, 0, 0, 0, []⟩

def rows : List (By × By) := [([], []), ([109, 111, 118, 105], [65, 78]), ([109, 111, 118], [65, 66]), ([97, 100, 100], [65, 66]), ([115, 117, 98], [65, 66]), ([109, 117, 108], [65, 66]), ([100, 105, 118], [65, 66]), ([114, 101, 109], [65, 66]), ([97, 110, 100], [65, 66]), ([111, 114], [65, 66]), ([120, 111, 114], [65, 66]), ([115, 104, 108], [65, 66]), ([115, 97, 114], [65, 66]), ([101, 113], [65, 66]), ([110, 101], [65, 66]), ([108, 116], [65, 66]), ([108, 101], [65, 66]), ([108, 100], [65, 66, 78]), ([115, 116], [65, 78, 66]), ([97, 100, 114], [65, 64, 78]), ([106, 109, 112], [64]), ([106, 122], [65, 64]), ([106, 110, 122], [65, 64]), ([99, 97, 108, 108], [64]), ([114, 101, 116], []), ([], []), ([], []), ([], []), ([120, 99, 104, 103], [65, 78, 66]), ([120, 97, 100, 100], [65, 78, 66]), ([102, 101, 110, 99, 101], []), ([111, 117, 116], [65]), ([104, 97, 108, 116], []), ([116, 114, 97, 112], [78])]
theorem rows_length : rows.length = 34 := by decide
def row (op : Nat) : By × By := rows.getD op ([], [])
def rowOf (op : Int) : Option (By × By) := if 0 ≤ op ∧ op < 34 ∧ (row op.toNat).1 ≠ [] then some (row op.toNat) else none
def opOf (m : By) : Option Nat := rows.findIdx? (fun r => decide (r.1 = m))
def isReg (r : Int) : Bool := decide (0 ≤ r) && decide (r < 8)
def numOk (op n : Int) : Bool := if op = 1 then true else if op = 33 then decide (0 ≤ n) && decide (n ≤ 127) else decide (-2147483648 ≤ n) && decide (n ≤ 2147483647)
def has (b : By) (c : UInt8) : Bool := b.contains c
def insOk (t : It) : Bool := match rowOf t.op with
  | none => false
  | some r => decide (has r.2 64 = decide (t.name ≠ [])) && ((decide (t.name = []) || name t.name) && ((decide (t.a = 0) || has r.2 65) && ((decide (t.b = 0) || has r.2 66) && ((decide (t.n = 0) || has r.2 78) && (isReg t.a && (isReg t.b && numOk t.op t.n))))))
def zeroIns (t : It) : Bool := decide (t.op = 0 ∧ t.a = 0 ∧ t.b = 0 ∧ t.n = 0)
/-- Whether an item may be. -/
def itOk (t : It) : Bool :=
  if t.kind = 1 ∨ t.kind = 4 ∨ t.kind = 5 then name t.name && (decide (t.words = []) && zeroIns t)
  else if t.kind = 3 then name t.name && (decide (1 ≤ t.words.length) && (decide (t.words.length ≤ 4096) && zeroIns t))
  else if t.kind = 2 then insOk t && decide (t.words = [])
  else false
def itsOk (l : List It) : Bool := decide (l.length ≤ 20000) && l.all itOk

/-! ### Words -/
def num (w : By) : Option Int := match Go.Lib.parseIntB 64 w with
  | .ok n => if Go.Lib.itoa n = w then some n else none
  | _ => none
def reg (w : By) : Option Int := match w with
  | [c, d] => if c = 114 ∧ dg d.toNat = true then some ((d.toNat : Int) - 48) else none
  | _ => none
def set (t : It) (c : UInt8) (w : By) : Option It :=
  if c = 65 then (reg w).map fun x => { t with a := x }
  else if c = 66 then (reg w).map fun x => { t with b := x }
  else if c = 78 then (num w).map fun x => { t with n := x }
  else if c = 64 then some { t with name := w }
  else none
def setAll (t : It) : By → List By → Option It
  | [], [] => some t
  | c :: r, w :: ws => (set t c w).bind fun t' => setAll t' r ws
  | _, _ => none
def takeIns (f : By) (r : List By) : Option It := match opOf f with
  | none => none
  | some op => if r.length = (row op).2.length then setAll ⟨2, [], op, 0, 0, 0, []⟩ (row op).2 r else none
def wGlobal : By := [46, 103, 108, 111, 98, 97, 108]
def wThread : By := [46, 116, 104, 114, 101, 97, 100]
def wWords : By := [46, 119, 111, 114, 100, 115]
def nums : List By → Option (List Int)
  | [] => some []
  | w :: ws => (num w).bind fun n => (nums ws).map fun l => n :: l
def takeNamed (k : Int) (r : List By) : Option It := match r with
  | [x] => some ⟨k, x, 0, 0, 0, 0, []⟩
  | _ => none
def takeWords (r : List By) : Option It := match r with
  | [] => none
  | x :: ns => (nums ns).map fun l => ⟨3, x, 0, 0, 0, 0, l⟩
def take (f : By) (r : List By) : Option It :=
  if f.getLast? = some 58 then (if r = [] then some ⟨1, f.dropLast, 0, 0, 0, 0, []⟩ else none)
  else if f = wGlobal then takeNamed 4 r
  else if f = wThread then takeNamed 5 r
  else if f = wWords then takeWords r
  else takeIns f r
/-- The item of a line's words. -/
def read (ws : List By) : Option It := match ws with
  | [] => none
  | f :: r => (take f r).bind fun t => if itOk t = true then some t else none

def fieldsGo : By → By → List By
  | cur, [] => if cur = [] then [] else [cur]
  | cur, c :: l => if c = 32 then (if cur = [] then fieldsGo [] l else cur :: fieldsGo [] l) else fieldsGo (cur ++ [c]) l
def fields (l : By) : List By := fieldsGo [] l
def ahead (l : By) : By := l.takeWhile (fun c => !decide (c = 35))
def wordsOf (l : By) : List By := fields (ahead l)
def lines : By → List By
  | [] => [[]]
  | c :: l => if c = 10 then [] :: lines l else match lines l with
    | [] => [[c]]
    | x :: xs => (c :: x) :: xs
/-- The words of each line that has any. -/
def wl (s : By) : List (List By) := ((lines s).map wordsOf).filter fun ws => decide (ws ≠ [])
def reads : List (List By) → Option (List It)
  | [] => some []
  | ws :: r => (read ws).bind fun t => (reads r).map fun l => t :: l
/-- What asmtext.Parse answers. -/
def parse (s : By) : List It × Nat :=
  if 200000 < s.length then ([], 8) else match reads (wl s) with
    | none => ([], 2)
    | some l => if l.length ≤ 20000 then (l, 0) else ([], 2)

/-! ### Printing -/
def operand (t : It) (c : UInt8) : By := if c = 65 then 114 :: Go.Lib.itoa t.a else if c = 66 then 114 :: Go.Lib.itoa t.b else if c = 78 then Go.Lib.itoa t.n else t.name
def saidIns (t : It) : List By := (row t.op.toNat).1 :: (row t.op.toNat).2.map (operand t)
def said (t : It) : List By :=
  if t.kind = 1 then [t.name ++ [58]]
  else if t.kind = 4 then [wGlobal, t.name]
  else if t.kind = 5 then [wThread, t.name]
  else if t.kind = 3 then wWords :: t.name :: t.words.map Go.Lib.itoa
  else saidIns t
def lineOf (t : It) : By := Go.Lib.join (said t) [32] ++ [10]
def text (l : List It) : By := l.flatMap lineOf
/-- What asmtext.Print answers. -/
def print (l : List It) : By × Nat := if itsOk l = true then (if 200000 < (text l).length then ([], 8) else (text l, 0)) else ([], 1)

/-! ### Numbers there and back -/
def pd (c : UInt8) : Bool := dg c.toNat
def fits (n : Int) : Prop := -9223372036854775808 ≤ n ∧ n ≤ 9223372036854775807
theorem num_some {w : By} {n : Int} (h : num w = some n) : Go.Lib.itoa n = w := by
  unfold num at h
  split at h
  · split at h
    · cases h; assumption
    · cases h
  · cases h
theorem parse_fits {w : By} {n : Int} (h : Go.Lib.parseIntB 64 w = .ok n) : fits n := by
  unfold Go.Lib.parseIntB at h
  have hp : (2 ^ (64 - 1) : Nat) = 9223372036854775808 := by decide
  cases w with
  | nil => cases h
  | cons c r =>
    simp only at h
    split at h
    · cases h
    · cases h
    · rename_i u hu
      rw [hp] at h
      split at h
      · cases h
      · split at h
        · cases h
        · rename_i h1 h2
          injection h with h
          unfold fits
          by_cases hc : c.toNat = 45
          · simp [hc] at h h1 h2; omega
          · simp [hc] at h h1 h2; omega
theorem num_fits {w : By} {n : Int} (h : num w = some n) : fits n := by
  unfold num at h
  split at h
  · rename_i m hm
    split at h
    · cases h; exact parse_fits hm
    · cases h
  · cases h

end X
end Go.Proofs.YtgjingleolhkbaaGreatDoor

/- The small functions of asmtext. -/
namespace Go.Proofs.YtgjingleolhkbaaGreatDoor
open Go.RowKit
set_option linter.unusedVariables false
set_option linter.unusedSimpArgs false

theorem ret_b {a b : Bool} (h : a = b) : Ending.returned (.bool a) = .returned (.bool b) := by rw [h]
theorem ret_i {k : IntKind} {a b : Int} (h : a = b) : Ending.returned (.int k a) = .returned (.int k b) := by rw [h]
theorem below_drew' {B : Nat} {x y : World} (h : Below B x y) (m : Nat) : Below B x (y.drewN m) := ⟨h.os, h.tape, h.output, h.size, h.block⟩
theorem bl1 (w : World) (x : Obj) : Below w.heap.size w (w.alloc x) := (Below.refl _ _).alloc (Nat.le_refl _) _
theorem bl2 (w : World) (x y : Obj) : Below w.heap.size w ((w.alloc x).alloc y) := (bl1 w x).alloc (by simp) _

/-! ### Bytes of a string -/
def X.str (l : X.By) : ByteArray := ⟨l.toArray⟩
theorem str_list (l : X.By) : (X.str l).data.toList = l := rfl
theorem str_size (l : X.By) : (X.str l).size = l.length := by simp [X.str, ByteArray.size]
theorem str_eq (s : ByteArray) : X.str s.data.toList = s := by cases s; simp [X.str]
theorem len_list (s : ByteArray) : s.data.toList.length = s.size := by simp
theorem bytes_ext' {a b : ByteArray} (h : a.data.toList = b.data.toList) : a = b := by
  cases a; cases b; simp at h; simp [h]
theorem extract_eq (s : ByteArray) (a b : Nat) : s.extract a b = X.str ((s.data.toList.take b).drop a) := by
  refine bytes_ext' ?_
  rw [str_list]
  rw [ByteArray.data_extract, Array.toList_extract, List.extract_eq_take_drop]
  rw [List.drop_take]
theorem get_list (s : ByteArray) (k : Nat) (h : k < s.size) : s.data.toList[k]? = some s[k] := by
  have h' : k < s.data.toList.length := by simpa using h
  rw [List.getElem?_eq_getElem h']
  rfl
theorem drop_cons (s : ByteArray) (k : Nat) (h : k < s.size) : s.data.toList.drop k = s[k] :: s.data.toList.drop (k + 1) := by
  have h' : k < s.data.toList.length := by simpa using h
  rw [List.drop_eq_getElem_cons h']
  rfl
theorem toList_ne' {a b : ByteArray} (h : ¬ a.data.toList = b.data.toList) : (a.toList == b.toList) = false := by
  rw [ByteArray.toList_eq, ByteArray.toList_eq]
  exact beq_eq_false_iff_ne.2 h
theorem toList_eq' {a b : ByteArray} (h : a.data.toList = b.data.toList) : (a.toList == b.toList) = true := by
  rw [ByteArray.toList_eq, ByteArray.toList_eq]
  exact beq_iff_eq.2 h

set_option maxHeartbeats 4000000 in
theorem isDigit_any (n : Nat) (w : World) :
    Calls Tryz.prog 88 #[.int .u8 n] w fun e w' => e = .returned (.bool (X.dg n)) ∧ w' = w := by
  go_enter Tryz.func88, Tryz.ntmps88
  go_wp2
  all_goals
    go_ret
    exact ⟨ret_b (by rw [Bool.eq_iff_iff]; simp [X.dg]; try omega), rfl⟩

set_option maxHeartbeats 4000000 in
theorem beginsName_any (n : Nat) (w : World) :
    Calls Tryz.prog 87 #[.int .u8 n] w fun e w' => e = .returned (.bool (X.lt n)) ∧ w' = w := by
  go_enter Tryz.func87, Tryz.ntmps87
  go_wp2
  all_goals
    go_ret
    exact ⟨ret_b (by rw [Bool.eq_iff_iff]; simp [X.lt]; try omega), rfl⟩

set_option maxHeartbeats 4000000 in
theorem isRegister_any (n : Int) (w : World) :
    Calls Tryz.prog 91 #[.int .i64 n] w fun e w' => e = .returned (.bool (X.isReg n)) ∧ w' = w := by
  go_enter Tryz.func91, Tryz.ntmps91
  go_wp2
  all_goals
    go_ret
    exact ⟨ret_b (by rw [Bool.eq_iff_iff]; simp [X.isReg]; try omega), rfl⟩

set_option maxHeartbeats 4000000 in
theorem numberMayBe_any (op n : Int) (w : World) :
    Calls Tryz.prog 92 #[.int .i64 op, .int .i64 n] w fun e w' => e = .returned (.bool (X.numOk op n)) ∧ w' = w := by
  by_cases h1 : op = 1
  · subst h1
    go_enter Tryz.func92, Tryz.ntmps92
    go_wp2
    all_goals
      go_ret
      exact ⟨ret_b (by simp [X.numOk]), rfl⟩
  · by_cases h2 : op = 33
    · subst h2
      go_enter Tryz.func92, Tryz.ntmps92
      go_wp2
      all_goals
        go_ret
        exact ⟨ret_b (by rw [Bool.eq_iff_iff]; simp [X.numOk]; try omega), rfl⟩
    · have h1' : (op == 1) = false := by simp [h1]
      have h2' : (op == 33) = false := by simp [h2]
      have HR : Hid (X.numOk op n = (decide (-2147483648 ≤ n) && decide (n ≤ 2147483647))) := by show _ = _; simp [X.numOk, h1, h2]
      go_enter Tryz.func92, Tryz.ntmps92
      go_wp2
      all_goals
        go_ret
        exact ⟨ret_b (by rw [HR.out, Bool.eq_iff_iff]; simp; try omega), rfl⟩

set_option maxHeartbeats 4000000 in
theorem isSpace_any (r : Int) (w : World) :
    Calls Tryz.prog 103 #[.int .i32 r] w fun e w' => e = .returned (.bool (decide (r = 32))) ∧ w' = w := by
  go_enter Tryz.func103, Tryz.ntmps103
  go_wp2
  all_goals
    go_ret
    exact ⟨ret_b (by rw [Bool.eq_iff_iff]; simp), rfl⟩

theorem name_false {s : ByteArray} (h : s.size < 1 ∨ 28 < s.size) : X.name s.data.toList = false := by
  rw [Bool.eq_false_iff]
  intro e
  simp only [X.name, Bool.and_eq_true, decide_eq_true_eq, len_list] at e
  omega
theorem first_eq (s : ByteArray) (h : 0 < s.size) : X.first s.data.toList = s[0].toNat := by
  have := drop_cons s 0 h
  rw [List.drop_zero] at this
  rw [this]; rfl
theorem name_first {s : ByteArray} (h0 : 0 < s.size) (h : X.lt s[0].toNat = false) : X.name s.data.toList = false := by
  rw [Bool.eq_false_iff]
  intro e
  simp only [X.name, Bool.and_eq_true, first_eq s h0, h] at e
  simp at e
theorem name_byte {s : ByteArray} {k : Nat} (h1 : 1 ≤ k) (hk : k < s.size) (h : X.inn s[k].toNat = false) : X.name s.data.toList = false := by
  rw [Bool.eq_false_iff]
  intro e
  simp only [X.name, Bool.and_eq_true, List.all_eq_true] at e
  have := e.2.2.2 s[k] (by
    rw [List.mem_iff_getElem?]
    refine ⟨k - 1, ?_⟩
    rw [List.getElem?_tail, show k - 1 + 1 = k by omega]
    exact get_list s k hk)
  rw [h] at this
  cases this
theorem name_yes {s : ByteArray} (h0 : 1 ≤ s.size) (h1 : s.size ≤ 28) (hf : X.lt s[0].toNat = true) (h : ∀ j (hj : j < s.size), 1 ≤ j → X.inn s[j].toNat = true) : X.name s.data.toList = true := by
  simp only [X.name, Bool.and_eq_true, decide_eq_true_eq, len_list, List.all_eq_true]
  refine ⟨h0, h1, by rw [first_eq s (by omega)]; exact hf, fun c hc => ?_⟩
  obtain ⟨k, hk⟩ := List.mem_iff_getElem?.1 hc
  rw [List.getElem?_tail] at hk
  have hlt : k + 1 < s.size := by have := (List.getElem?_eq_some_iff.1 hk).1; simpa using this
  rw [get_list s (k + 1) hlt] at hk
  cases hk
  exact h (k + 1) hlt (by omega)

set_option maxRecDepth 100000 in
set_option maxHeartbeats 4000000 in
theorem nameMayBe_any (s : ByteArray) (hs : s.size ≤ maxLen) (w : World) :
    Calls Tryz.prog 68 #[.string s] w fun e w' => e = .returned (.bool (X.name s.data.toList)) ∧ w' = w := by
  unfold maxLen at hs
  by_cases h0 : s.size < 1
  · have HR : Hid _ := name_false (.inl h0)
    have h0' : (s.size : Int) < 1 := by omega
    go_enter Tryz.func68, Tryz.ntmps68
    go_wp2
    go_ret
    exact ⟨ret_b HR.out.symm, rfl⟩
  by_cases h1 : 28 < s.size
  · have HR : Hid _ := name_false (.inr h1)
    go_enter Tryz.func68, Tryz.ntmps68
    go_wp2
    go_ret
    exact ⟨ret_b HR.out.symm, rfl⟩
  have h0' : 0 < s.size := by omega
  cases hf : X.lt s[0].toNat
  · have HR : Hid _ := name_first h0' hf
    go_enter Tryz.func68, Tryz.ntmps68
    go_wp2_with (go_at_call 87; refine (beginsName_any s[0].toNat _).mono ?_; rw [hf]; rintro e w' ⟨rfl, rfl⟩)
    go_ret
    exact ⟨ret_b HR.out.symm, rfl⟩
  have HF : Hid _ := hf
  go_enter Tryz.func68, Tryz.ntmps68
  go_wp2_with (go_at_call 87; refine (beginsName_any s[0].toNat _).mono ?_; rw [hf]; rintro e w' ⟨rfl, rfl⟩)
  clear hf
  go_loop [3] (fun i => ∃ (k : Nat), i = .int .i64 k ∧ 1 ≤ k ∧ k ≤ s.size ∧ Hid (∀ j (hj : j < s.size), 1 ≤ j → j < k → X.inn s[j].toNat = true)) (fun i => s.size - (intOf i).toNat)
  case atStart => exact ⟨1, rfl, Nat.le_refl _, by omega, (fun j hj h1 h2 => by omega : ∀ j (hj : j < s.size), 1 ≤ j → j < 1 → X.inn s[j].toNat = true)⟩
  case round =>
    obtain ⟨k, rfl, hk1, hk, HA⟩ := hrel
    by_cases hlt : k < s.size
    · have HNO : Hid (X.inn s[k].toNat = false → X.name s.data.toList = false) := fun h => name_byte hk1 hlt h
      have HYE : Hid (X.inn s[k].toNat = true → ∀ j (hj : j < s.size), 1 ≤ j → j < k + 1 → X.inn s[j].toNat = true) := fun h j hj h1 h2 => by
        by_cases e : j = k
        · subst e; exact h
        · exact HA.out j hj h1 (by omega)
      cases h2 : X.lt s[k].toNat
      · cases h3 : X.dg s[k].toNat
        · by_cases h4 : s[k].toNat = 46
          · have h4' : ((s[k].toNat : Int) != 46) = false := by simp; omega
            have HI : Hid (X.inn s[k].toNat = true) := by show _ = _; simp [X.inn, h4]
            clear h4
            go_wp2_with (first | (go_at_call 87; refine (beginsName_any s[k].toNat _).mono ?_; rw [h2]; rintro e w' ⟨rfl, rfl⟩) | (go_at_call 88; refine (isDigit_any s[k].toNat _).mono ?_; rw [h3]; rintro e w' ⟨rfl, rfl⟩))
            go_round
            case rel => exact ⟨k + 1, by go_num, by omega, by omega, HYE.out HI.out⟩
            case measure => simp [intOf]; omega
          · have h4' : ((s[k].toNat : Int) != 46) = true := by simp; omega
            have HI : Hid (X.inn s[k].toNat = false) := by show _ = _; simp [X.inn, h2, h3, h4]
            clear h4
            go_wp2_with (first | (go_at_call 87; refine (beginsName_any s[k].toNat _).mono ?_; rw [h2]; rintro e w' ⟨rfl, rfl⟩) | (go_at_call 88; refine (isDigit_any s[k].toNat _).mono ?_; rw [h3]; rintro e w' ⟨rfl, rfl⟩))
            go_ret
            exact ⟨ret_b (HNO.out HI.out).symm, rfl⟩
        · have HI : Hid (X.inn s[k].toNat = true) := by show _ = _; simp [X.inn, h3]
          go_wp2_with (first | (go_at_call 87; refine (beginsName_any s[k].toNat _).mono ?_; rw [h2]; rintro e w' ⟨rfl, rfl⟩) | (go_at_call 88; refine (isDigit_any s[k].toNat _).mono ?_; rw [h3]; rintro e w' ⟨rfl, rfl⟩))
          go_round
          case rel => exact ⟨k + 1, by go_num, by omega, by omega, HYE.out HI.out⟩
          case measure => simp [intOf]; omega
      · have HI : Hid (X.inn s[k].toNat = true) := by show _ = _; simp [X.inn, h2]
        go_wp2_with (first | (go_at_call 87; refine (beginsName_any s[k].toNat _).mono ?_; rw [h2]; rintro e w' ⟨rfl, rfl⟩) | (go_at_call 88; refine (isDigit_any s[k].toNat _).mono ?_; rintro e w' ⟨rfl, rfl⟩))
        go_round
        case rel => exact ⟨k + 1, by go_num, by omega, by omega, HYE.out HI.out⟩
        case measure => simp [intOf]; omega
    · go_wp2
      go_ret
      obtain rfl : k = s.size := by omega
      exact ⟨ret_b (name_yes (by omega) (by omega) HF.out (fun j hj h => HA.out j hj h hj)).symm, rfl⟩

end Go.Proofs.YtgjingleolhkbaaGreatDoor

/- Texts there and back: what is printed is read as it was, and what was read is printed word by word. -/
namespace Go.Proofs.YtgjingleolhkbaaGreatDoor
namespace X
set_option linter.unusedVariables false
set_option linter.unusedSimpArgs false

/-! ### Words that a line may have -/

/-! ### Registers -/
theorem reg_some {w : By} {a : Int} (h : reg w = some a) : 114 :: Go.Lib.itoa a = w ∧ 0 ≤ a ∧ a < 10 := by
  unfold reg at h
  split at h
  · rename_i c d
    split at h
    · rename_i hc
      obtain ⟨rfl, hd⟩ := hc
      simp [dg] at hd
      injection h with h
      subst h
      obtain ⟨k, hk⟩ : ∃ k : Nat, (d.toNat : Int) - 48 = k := ⟨d.toNat - 48, by omega⟩
      rw [hk, Go.Lib.itoa_nonneg, Go.Lib.decDigits_one (by omega)]
      refine ⟨?_, by omega, by omega⟩
      congr 1
      rw [show 48 + k = d.toNat by omega]
      simp
    · cases h
  · cases h

/-! ### Instructions -/
def shapes : List By := [[], [65, 78], [65, 66], [65, 66, 78], [65, 78, 66], [65, 64, 78], [64], [65, 64], [65], [78]]
theorem row_shape : ∀ op : Fin 34, (row op.val).2 ∈ shapes := by decide
theorem opOf_some {f : By} {k : Nat} (h : opOf f = some k) : k < 34 ∧ (row k).1 = f := by
  unfold opOf at h
  rw [List.findIdx?_eq_some_iff_getElem] at h
  obtain ⟨hk, h1, -⟩ := h
  rw [rows_length] at hk
  refine ⟨hk, ?_⟩
  simp only [decide_eq_true_eq] at h1
  rw [← h1, row]
  simp [List.getD, rows_length, hk]
theorem rowOf_some {op : Int} {r : By × By} (h : rowOf op = some r) : 0 ≤ op ∧ op < 34 ∧ r = row op.toNat ∧ r.1 ≠ [] := by
  unfold rowOf at h
  split at h
  · rename_i h1; injection h with h; subst h; exact ⟨h1.1, h1.2.1, rfl, h1.2.2⟩
  · cases h
theorem insOk_split {t : It} (h : insOk t = true) : 0 ≤ t.op ∧ t.op < 34 ∧ (row t.op.toNat).1 ≠ [] ∧ (has (row t.op.toNat).2 64 = decide (t.name ≠ [])) ∧ (t.name = [] ∨ name t.name = true) ∧ (t.a = 0 ∨ has (row t.op.toNat).2 65 = true) ∧ (t.b = 0 ∨ has (row t.op.toNat).2 66 = true) ∧ (t.n = 0 ∨ has (row t.op.toNat).2 78 = true) ∧ isReg t.a = true ∧ isReg t.b = true ∧ numOk t.op t.n = true := by
  unfold insOk at h
  split at h
  · cases h
  · rename_i r hr
    obtain ⟨h1, h2, rfl, h3⟩ := rowOf_some hr
    simp only [Bool.and_eq_true, Bool.or_eq_true, decide_eq_true_eq] at h
    exact ⟨h1, h2, h3, h⟩
/-- Numbers that an item has. -/
def fitsIt (t : It) : Prop := fits t.n ∧ ∀ n ∈ t.words, fits n
theorem isReg_iff {a : Int} : isReg a = true ↔ 0 ≤ a ∧ a < 8 := by simp [isReg]

theorem setAll_said {t0 t : It} {b : By} {ws : List By} (hs : b ∈ shapes) (h : setAll t0 b ws = some t) : ws = b.map (operand t) ∧ t.op = t0.op ∧ t.kind = t0.kind ∧ t.words = t0.words := by
  simp only [shapes, List.mem_cons, List.not_mem_nil, or_false] at hs
  have e0 : ∀ {ws : List By}, setAll t0 [] ws = some t → ws = [] := by intro ws h; cases ws with | nil => rfl | cons => simp [setAll] at h
  rcases hs with rfl | rfl | rfl | rfl | rfl | rfl | rfl | rfl | rfl | rfl <;>
    (rcases ws with _ | ⟨w0, _ | ⟨w1, _ | ⟨w2, _ | ⟨w3, ws⟩⟩⟩⟩ <;> simp [setAll, set, Option.bind_eq_some_iff] at h)
  all_goals first | subst h | (obtain ⟨y0, h0, h⟩ := h; subst h) | (obtain ⟨xy0, ⟨y0, h0, rfl⟩, h⟩ := h; first | subst h | (obtain ⟨y1, h1, h⟩ := h; subst h) | (obtain ⟨xy1, ⟨y1, h1, rfl⟩, h⟩ := h; first | subst h | (obtain ⟨y2, h2, h⟩ := h; subst h) | (obtain ⟨xy2, ⟨y2, h2, rfl⟩, h⟩ := h; fail)))
  all_goals try (obtain ⟨z0, h0, rfl⟩ := h0)
  all_goals simp [operand]
  all_goals first
    | exact ⟨(reg_some h0).1.symm, (num_some h1).symm⟩
    | exact ⟨(reg_some h0).1.symm, (reg_some h1).1.symm⟩
    | exact ⟨(reg_some h0).1.symm, (reg_some h1).1.symm, (num_some h2).symm⟩
    | exact ⟨(reg_some h0).1.symm, (num_some h1).symm, (reg_some h2).1.symm⟩
    | exact (reg_some h0).1.symm
    | exact (num_some h0).symm

theorem nums_some : ∀ {ws : List By} {l : List Int}, nums ws = some l → ws = l.map Go.Lib.itoa ∧ ∀ n ∈ l, fits n
  | [], l, h => by simp [nums] at h; subst h; simp
  | w :: ws, l, h => by
    simp only [nums, Option.bind_eq_some_iff, Option.map_eq_some_iff] at h
    obtain ⟨n, h1, r, h2, rfl⟩ := h
    obtain ⟨h3, h4⟩ := nums_some h2
    refine ⟨by simp [← num_some h1, h3], fun m hm => ?_⟩
    rcases List.mem_cons.1 hm with rfl | hm
    · exact num_fits h1
    · exact h4 m hm

theorem itOk_ins {t : It} (h : itOk t = true) (hk : t.kind = 2) : insOk t = true ∧ t.words = [] := by
  unfold itOk at h
  rw [hk] at h
  simpa using h
theorem itOk_cases {t : It} (h : itOk t = true) : (t.kind = 2 ∧ insOk t = true ∧ t.words = []) ∨ (t.kind = 3 ∧ name t.name = true ∧ t.words ≠ [] ∧ t.words.length ≤ 4096 ∧ zeroIns t = true) ∨ ((t.kind = 1 ∨ t.kind = 4 ∨ t.kind = 5) ∧ name t.name = true ∧ t.words = [] ∧ zeroIns t = true) := by
  unfold itOk at h
  split at h
  · rename_i hk; simp only [Bool.and_eq_true, decide_eq_true_eq] at h; exact .inr (.inr ⟨hk, h⟩)
  · split at h
    · rename_i hk
      simp only [Bool.and_eq_true, decide_eq_true_eq] at h
      exact .inr (.inl ⟨hk, h.1, (fun e => by rw [e] at h; simp at h), h.2.2⟩)
    · split at h
      · rename_i hk; simp only [Bool.and_eq_true, decide_eq_true_eq] at h; exact .inl ⟨hk, h⟩
      · cases h

theorem dropLast_colon {f : By} (h : f.getLast? = some 58) : f.dropLast ++ [58] = f := by
  have hne : f ≠ [] := by rintro rfl; simp at h
  have := List.dropLast_concat_getLast hne
  rw [List.getLast?_eq_some_getLast hne] at h
  injection h with h
  rw [h] at this
  exact this
/-- What is read is said word by word. -/
theorem said_read {ws : List By} {t : It} (h : read ws = some t) : said t = ws ∧ itOk t = true := by
  unfold read at h
  cases ws with
  | nil => cases h
  | cons f r =>
    simp only [Option.bind_eq_some_iff] at h
    obtain ⟨t', h1, h2⟩ := h
    split at h2
    · rename_i hok
      injection h2 with h2
      subst h2
      refine ⟨?_, hok⟩
      unfold take at h1
      split at h1
      · rename_i hl
        split at h1
        · rename_i hr; injection h1 with h1; subst h1 hr; simp [said, dropLast_colon hl]
        · cases h1
      · split at h1
        · rename_i hf
          unfold takeNamed at h1
          split at h1
          · injection h1 with h1; subst h1 hf; simp [said]
          · cases h1
        · split at h1
          · rename_i hf
            unfold takeNamed at h1
            split at h1
            · injection h1 with h1; subst h1 hf; simp [said]
            · cases h1
          · split at h1
            · rename_i hf
              unfold takeWords at h1
              split at h1
              · cases h1
              · simp only [Option.map_eq_some_iff] at h1
                obtain ⟨l, hl, rfl⟩ := h1
                obtain ⟨e, -⟩ := nums_some hl
                subst hf e
                simp [said]
            · unfold takeIns at h1
              split at h1
              · cases h1
              · rename_i op hop
                obtain ⟨ho, hm⟩ := opOf_some hop
                split at h1
                · obtain ⟨e1, e2, e3, -⟩ := setAll_said (row_shape ⟨op, ho⟩) h1
                  simp only at e1 e2 e3
                  have : said t' = saidIns t' := by unfold said; rw [e3]; rfl
                  rw [this, saidIns, e2]
                  simp only [Int.toNat_natCast]
                  rw [hm, ← e1]
                · cases h1
    · cases h2
theorem read_fits {ws : List By} {t : It} (h : read ws = some t) : fitsIt t := by
  obtain ⟨hs, hok⟩ := said_read h
  unfold read at h
  cases ws with
  | nil => cases h
  | cons f r =>
    simp only [Option.bind_eq_some_iff] at h
    obtain ⟨t', h1, h2⟩ := h
    split at h2
    · injection h2 with h2
      subst h2
      unfold take at h1
      split at h1
      · split at h1
        · injection h1 with h1; subst h1; exact ⟨by constructor <;> simp, by simp⟩
        · cases h1
      · have hnm : ∀ k, takeNamed k r = some t' → fitsIt t' := fun k h1 => by
          unfold takeNamed at h1
          split at h1
          · injection h1 with h1; subst h1; exact ⟨by constructor <;> simp, by simp⟩
          · cases h1
        split at h1
        · exact hnm _ h1
        · split at h1
          · exact hnm _ h1
          · split at h1
            · unfold takeWords at h1
              split at h1
              · cases h1
              · simp only [Option.map_eq_some_iff] at h1
                obtain ⟨l, hl, rfl⟩ := h1
                exact ⟨by constructor <;> simp, (nums_some hl).2⟩
            · unfold takeIns at h1
              split at h1
              · cases h1
              · rename_i op hop
                split at h1
                · obtain ⟨ho, -⟩ := opOf_some hop
                  have hsh := row_shape ⟨op, ho⟩
                  simp only at hsh
                  obtain ⟨-, -, -, e4⟩ := setAll_said hsh h1
                  refine ⟨?_, by rw [e4]; simp⟩
                  clear e4 hs hok hnm
                  simp only [shapes, List.mem_cons, List.not_mem_nil, or_false] at hsh
                  generalize (row op).2 = b at h1 hsh
                  rcases hsh with rfl | rfl | rfl | rfl | rfl | rfl | rfl | rfl | rfl | rfl <;>
                    (rcases r with _ | ⟨w0, _ | ⟨w1, _ | ⟨w2, _ | ⟨w3, ws⟩⟩⟩⟩ <;> simp [setAll, set, Option.bind_eq_some_iff] at h1)
                  all_goals first | subst h1 | (obtain ⟨y0, h0, h1⟩ := h1; subst h1) | (obtain ⟨xy0, ⟨y0, h0, rfl⟩, h1⟩ := h1; first | subst h1 | (obtain ⟨y1, h3, h1⟩ := h1; subst h1) | (obtain ⟨xy1, ⟨y1, h3, rfl⟩, h1⟩ := h1; first | subst h1 | (obtain ⟨y2, h4, h1⟩ := h1; subst h1) | (obtain ⟨xy2, ⟨y2, h4, rfl⟩, h1⟩ := h1; fail)))
                  all_goals try (obtain ⟨z0, h0, rfl⟩ := h0)
                  all_goals first
                    | (exact ⟨(by simp : (-9223372036854775808 : Int) ≤ 0), (by simp : (0 : Int) ≤ 9223372036854775807)⟩)
                    | exact num_fits h3
                    | exact num_fits h4
                    | exact num_fits h0
                · cases h1
    · cases h2

/-! ### Cutting -/
theorem fieldsGo_app : ∀ (w cur l : By), (∀ c ∈ w, c ≠ 32) → fieldsGo cur (w ++ l) = fieldsGo (cur ++ w) l
  | [], cur, l, _ => by simp
  | c :: w, cur, l, h => by
    rw [List.cons_append, fieldsGo, if_neg (h c (by simp)), fieldsGo_app w _ l (fun d hd => h d (by simp [hd]))]
    simp
theorem ahead_all {l : By} (h : ∀ c ∈ l, c ≠ 35) : ahead l = l := by
  induction l with
  | nil => rfl
  | cons c l ih =>
    have h1 := h c (by simp)
    have := ih (fun d hd => h d (by simp [hd]))
    unfold ahead at this ⊢
    rw [List.takeWhile_cons]
    simp [h1, this]
theorem lines_app : ∀ (l r : By), (∀ c ∈ l, c ≠ 10) → lines (l ++ 10 :: r) = l :: lines r
  | [], r, _ => by simp [lines]
  | c :: l, r, h => by
    have h1 := h c (by simp)
    have := lines_app l r (fun d hd => h d (by simp [hd]))
    rw [List.cons_append, lines, if_neg h1, this]
theorem lines_one : ∀ (l : By), (∀ c ∈ l, c ≠ 10) → lines l = [l]
  | [], _ => rfl
  | c :: l, h => by
    have h1 := h c (by simp)
    have := lines_one l (fun d hd => h d (by simp [hd]))
    rw [lines, if_neg h1, this]
theorem reads_some : ∀ {ws : List (List By)} {l : List It}, reads ws = some l → ws = l.map said ∧ (∀ t ∈ l, itOk t = true) ∧ ∀ t ∈ l, fitsIt t
  | [], l, h => by simp [reads] at h; subst h; simp
  | w :: ws, l, h => by
    simp only [reads, Option.bind_eq_some_iff, Option.map_eq_some_iff] at h
    obtain ⟨t, h1, r, h2, rfl⟩ := h
    obtain ⟨h3, h4, h5⟩ := reads_some h2
    obtain ⟨h6, h7⟩ := said_read h1
    refine ⟨by simp [h6, h3], ?_, ?_⟩
    · intro x hx
      rcases List.mem_cons.1 hx with rfl | hx
      · exact h7
      · exact h4 x hx
    · intro x hx
      rcases List.mem_cons.1 hx with rfl | hx
      · exact read_fits h1
      · exact h5 x hx
theorem itsOk_iff {l : List It} : itsOk l = true ↔ l.length ≤ 20000 ∧ ∀ t ∈ l, itOk t = true := by simp [itsOk]
/-! ### How long a text is -/
theorem fieldsGo_len : ∀ (l cur : By), ((fieldsGo cur l).map fun w => w.length + 1).sum ≤ cur.length + l.length + 1
  | [], cur => by unfold fieldsGo; split <;> simp
  | c :: l, cur => by
    unfold fieldsGo
    split
    · split
      · have := fieldsGo_len l []
        simp at this ⊢; omega
      · have := fieldsGo_len l []
        simp at this ⊢; omega
    · have := fieldsGo_len l (cur ++ [c])
      simp at this ⊢; omega
/-- What came out of Parse may be, and its numbers fit. -/
theorem parse_ok {s : By} {l : List It} {z : Nat} (h : parse s = (l, z)) : (z = 0 ∨ l = []) ∧ (z = 0 ∨ z = 2 ∨ z = 8) ∧ l.length ≤ 20000 ∧ (∀ t ∈ l, itOk t = true) ∧ ∀ t ∈ l, fitsIt t := by
  unfold parse at h
  split at h
  · cases h; simp
  · split at h
    · cases h; simp
    · rename_i l' hr
      split at h
      · rename_i hl
        cases h
        obtain ⟨h1, h2, h3⟩ := reads_some hr
        exact ⟨.inl rfl, .inl rfl, hl, h2, h3⟩
      · cases h; simp
theorem reads_app : ∀ (a b : List (List By)), reads (a ++ b) = (reads a).bind fun x => (reads b).map fun y => x ++ y
  | [], b => by simp [reads]
  | w :: a, b => by
    rw [List.cons_append, reads, reads, reads_app a b]
    cases read w with
    | none => rfl
    | some t =>
      cases reads a with
      | none => rfl
      | some x => cases reads b with
        | none => rfl
        | some y => rfl
theorem reads_length : ∀ {ws : List (List By)} {l : List It}, reads ws = some l → l.length = ws.length := fun h => by rw [(reads_some h).1]; simp

end X
end Go.Proofs.YtgjingleolhkbaaGreatDoor

/- The library's contracts of what asmtext calls of strings and strconv, laid over this program: which function and which type of the program stands for which of the contracts' own. -/
namespace Go.Proofs
open Go.Shelf
def Tryz.lays137_ren : Go.Shelf.Ren := ⟨fun | 137 => 108 | 217 => 117 | 266 => 127 | n => n, fun | 9 => 9 | 5 => 5 | 3 => 3 | n => n, fun | n => n⟩
theorem Tryz.lays137 : Go.Proofs.Lays.n137 Tryz.prog Tryz.lays137_ren := {
  mixed := by kernel_rfl
  f137 := Tryz.func108.trans (congrArg some (by kernel_rfl))
  f217 := Tryz.func117.trans (congrArg some (by kernel_rfl))
  f266 := Tryz.func127.trans (congrArg some (by kernel_rfl))
  t3 := Tryz.underlying3
  a3 := Tryz.isAgg3
  z3 := Tryz.sizeOf3
  v3 := Tryz.zeroValue3
  t5 := Tryz.underlying5
  a5 := Tryz.isAgg5
  z5 := Tryz.sizeOf5
  v5 := Tryz.zeroValue5
  t9 := Tryz.underlying9
  a9 := Tryz.isAgg9
  z9 := Tryz.sizeOf9
  v9 := Tryz.zeroValue9 }
open Go.RowKit in
theorem Tryz.strings_IndexByte (s : ByteArray) (c : Int) (w : World) :
    Calls Tryz.prog 108 #[.string s, .int .u8 c] w fun e w' => e = .returned (.int .i64 (Lib.indexByte s.data.toList c.toNat.toUInt8)) ∧ w' = w := Any.strings_IndexByte Tryz.lays137 s c w
def Tryz.lays104_ren : Go.Shelf.Ren := ⟨fun | 104 => 104 | 211 => 113 | 207 => 123 | n => n, fun | 9 => 9 | 4 => 4 | 24 => 135 | 3 => 3 | n => n, fun | n => n⟩
theorem Tryz.lays104 : Go.Proofs.Lays.n104 Tryz.prog Tryz.lays104_ren := {
  mixed := by kernel_rfl
  f104 := Tryz.func104.trans (congrArg some (by kernel_rfl))
  f207 := Tryz.func123.trans (congrArg some (by kernel_rfl))
  f211 := Tryz.func113.trans (congrArg some (by kernel_rfl))
  t3 := Tryz.underlying3
  a3 := Tryz.isAgg3
  z3 := Tryz.sizeOf3
  v3 := Tryz.zeroValue3
  t4 := Tryz.underlying4
  a4 := Tryz.isAgg4
  z4 := Tryz.sizeOf4
  v4 := Tryz.zeroValue4
  t9 := Tryz.underlying9
  a9 := Tryz.isAgg9
  z9 := Tryz.sizeOf9
  v9 := Tryz.zeroValue9
  t24 := Tryz.underlying135
  a24 := Tryz.isAgg135
  z24 := Tryz.sizeOf135
  v24 := Tryz.zeroValue135 }
open Go.RowKit in
theorem Tryz.strings_CutSuffix (s p : ByteArray) (w : World) (hs : s.size ≤ 9223372036854775807) :
    Calls Tryz.prog 104 #[.string s, .string p] w fun e w' => e = .returned (.tuple #[.string ⟨(Lib.trimSuffix s.data.toList p.data.toList).toArray⟩, .bool (Lib.hasSuffix s.data.toList p.data.toList)]) ∧ w' = w := Any.strings_CutSuffix Tryz.lays104 s p w hs
open Go.RowKit Go.Sort Go.Lib in
open Go.RowKit Go.Sort Go.Lib in
def Tryz.laysM173_ren : Go.Shelf.Ren := ⟨fun | 173 => 131 | 246 => 137 | 283 => 143 | 284 => 144 | 285 => 145 | 286 => 146 | 129 => 149 | 317 => 148 | 318 => 150 | 319 => 151 | 320 => 152 | 337 => 153 | 338 => 154 | n => n, fun | 2 => 2 | 3 => 3 | 9 => 9 | 4 => 4 | 171 => 177 | 0 => 0 | 53 => 116 | 37 => 65 | 5 => 5 | 173 => 180 | 212 => 187 | 51 => 161 | 20 => 20 | 213 => 188 | 46 => 123 | 232 => 191 | 233 => 192 | n => n, fun | 17 => 6 | 18 => 7 | 19 => 8 | n => n⟩
theorem Tryz.laysM173 : Go.Proofs.LaysM.n173 Tryz.prog Tryz.laysM173_ren := {
  mixed := by kernel_rfl
  f129 := Tryz.func149.trans (congrArg some (by kernel_rfl))
  f173 := Tryz.func131.trans (congrArg some (by kernel_rfl))
  f246 := Tryz.func137.trans (congrArg some (by kernel_rfl))
  f283 := Tryz.func143.trans (congrArg some (by kernel_rfl))
  f284 := Tryz.func144.trans (congrArg some (by kernel_rfl))
  f285 := Tryz.func145.trans (congrArg some (by kernel_rfl))
  f286 := Tryz.func146.trans (congrArg some (by kernel_rfl))
  f317 := Tryz.func148.trans (congrArg some (by kernel_rfl))
  f318 := Tryz.func150.trans (congrArg some (by kernel_rfl))
  f319 := Tryz.func151.trans (congrArg some (by kernel_rfl))
  f320 := Tryz.func152.trans (congrArg some (by kernel_rfl))
  f337 := Tryz.func153.trans (congrArg some (by kernel_rfl))
  f338 := Tryz.func154.trans (congrArg some (by kernel_rfl))
  t0 := Tryz.underlying0
  a0 := Tryz.isAgg0
  z0 := Tryz.sizeOf0
  v0 := Tryz.zeroValue0
  t2 := Tryz.underlying2
  a2 := Tryz.isAgg2
  z2 := Tryz.sizeOf2
  v2 := Tryz.zeroValue2
  t3 := Tryz.underlying3
  a3 := Tryz.isAgg3
  z3 := Tryz.sizeOf3
  v3 := Tryz.zeroValue3
  t4 := Tryz.underlying4
  a4 := Tryz.isAgg4
  z4 := Tryz.sizeOf4
  v4 := Tryz.zeroValue4
  t5 := Tryz.underlying5
  a5 := Tryz.isAgg5
  z5 := Tryz.sizeOf5
  v5 := Tryz.zeroValue5
  t9 := Tryz.underlying9
  a9 := Tryz.isAgg9
  z9 := Tryz.sizeOf9
  v9 := Tryz.zeroValue9
  t20 := Tryz.underlying20
  a20 := Tryz.isAgg20
  z20 := Tryz.sizeOf20
  v20 := Tryz.zeroValue20
  t37 := Tryz.underlying65
  a37 := Tryz.isAgg65
  z37 := Tryz.sizeOf65
  v37 := Tryz.zeroValue65
  t46 := Tryz.underlying123
  a46 := Tryz.isAgg123
  z46 := Tryz.sizeOf123
  v46 := Tryz.zeroValue123
  t51 := Tryz.underlying161
  a51 := Tryz.isAgg161
  z51 := Tryz.sizeOf161
  v51 := Tryz.zeroValue161
  t53 := Tryz.underlying116
  a53 := Tryz.isAgg116
  z53 := Tryz.sizeOf116
  v53 := Tryz.zeroValue116
  t171 := Tryz.underlying177
  a171 := Tryz.isAgg177
  z171 := Tryz.sizeOf177
  v171 := Tryz.zeroValue177
  t173 := Tryz.underlying180
  a173 := Tryz.isAgg180
  z173 := Tryz.sizeOf180
  v173 := Tryz.zeroValue180
  t212 := Tryz.underlying187
  a212 := Tryz.isAgg187
  z212 := Tryz.sizeOf187
  v212 := Tryz.zeroValue187
  t213 := Tryz.underlying188
  a213 := Tryz.isAgg188
  z213 := Tryz.sizeOf188
  t232 := Tryz.underlying191
  a232 := Tryz.isAgg191
  z232 := Tryz.sizeOf191
  v232 := Tryz.zeroValue191
  t233 := Tryz.underlying192
  a233 := Tryz.isAgg192
  z233 := Tryz.sizeOf192
  v233 := Tryz.zeroValue192
  g17 := by kernel_rfl
  g18 := by kernel_rfl
  g19 := by kernel_rfl
  i0 := by kernel_rfl
  i2 := by kernel_rfl
  i3 := by kernel_rfl
  i4 := by kernel_rfl
  i5 := by kernel_rfl
  i9 := by kernel_rfl
  i20 := by kernel_rfl
  i37 := by kernel_rfl
  i46 := by kernel_rfl
  i51 := by kernel_rfl
  i53 := by kernel_rfl
  i171 := by kernel_rfl
  i173 := by kernel_rfl
  i212 := by kernel_rfl
  i232 := by kernel_rfl
  i233 := by kernel_rfl
  m17 := by kernel_rfl
  m18 := by kernel_rfl
  m19 := by kernel_rfl }
open Go.RowKit Go.Sort Go.Lib in
theorem Tryz.strconv_FormatInt_10 (n : Int) (h0 : -9223372036854775808 ≤ n) (h1 : n ≤ 9223372036854775807) (w : World) (htab : Lib.TabIs Tryz.prog w "internal/strconv.uint64pow10" .u64 Lib.pow10Tab) :
    Calls Tryz.prog 131 #[.int .i64 n, .int .i64 10] w fun e w' => e = .returned (.string ⟨(Lib.itoa n).toArray⟩) ∧ ∃ k os, w' = grow (w.drewN k) os := Any.strconv_FormatInt_10 Tryz.laysM173 n h0 h1 w htab
def Tryz.laysC174_ren : Go.Shelf.Ren := ⟨fun | 174 => 124 | 247 => 129 | 245 => 130 | 287 => 132 | 279 => 133 | 280 => 134 | 281 => 135 | 282 => 136 | 321 => 138 | 322 => 139 | 316 => 140 | 171 => 142 | 205 => 141 | 243 => 147 | 246 => 137 | 283 => 143 | 284 => 144 | 285 => 145 | 286 => 146 | 129 => 149 | 317 => 148 | 318 => 150 | 319 => 151 | 320 => 152 | 337 => 153 | 338 => 154 | n => n, fun | 9 => 9 | 3 => 3 | 2 => 2 | 75 => 157 | 85 => 158 | 4 => 4 | 167 => 166 | 5 => 5 | 53 => 116 | 175 => 167 | 46 => 123 | 168 => 169 | 37 => 65 | 0 => 0 | 210 => 175 | 21 => 21 | 127 => 182 | 145 => 185 | 143 => 183 | 171 => 177 | 173 => 180 | 212 => 187 | 51 => 161 | 20 => 20 | 213 => 188 | 232 => 191 | 233 => 192 | 80 => 193 | n => n, fun | 15 => 4 | 16 => 5 | 17 => 6 | 18 => 7 | 19 => 8 | n => n⟩
theorem Tryz.laysC174 : Go.Proofs.LaysC.n174 Tryz.prog Tryz.laysC174_ren := {
  mixed := by kernel_rfl
  f129 := Tryz.func149.trans (congrArg some (by kernel_rfl))
  f171 := Tryz.func142.trans (congrArg some (by kernel_rfl))
  f174 := Tryz.func124.trans (congrArg some (by kernel_rfl))
  f205 := Tryz.func141.trans (congrArg some (by kernel_rfl))
  f243 := Tryz.func147.trans (congrArg some (by kernel_rfl))
  f245 := Tryz.func130.trans (congrArg some (by kernel_rfl))
  f246 := Tryz.func137.trans (congrArg some (by kernel_rfl))
  f247 := Tryz.func129.trans (congrArg some (by kernel_rfl))
  f279 := Tryz.func133.trans (congrArg some (by kernel_rfl))
  f280 := Tryz.func134.trans (congrArg some (by kernel_rfl))
  f281 := Tryz.func135.trans (congrArg some (by kernel_rfl))
  f282 := Tryz.func136.trans (congrArg some (by kernel_rfl))
  f283 := Tryz.func143.trans (congrArg some (by kernel_rfl))
  f284 := Tryz.func144.trans (congrArg some (by kernel_rfl))
  f285 := Tryz.func145.trans (congrArg some (by kernel_rfl))
  f286 := Tryz.func146.trans (congrArg some (by kernel_rfl))
  f287 := Tryz.func132.trans (congrArg some (by kernel_rfl))
  f316 := Tryz.func140.trans (congrArg some (by kernel_rfl))
  f317 := Tryz.func148.trans (congrArg some (by kernel_rfl))
  f318 := Tryz.func150.trans (congrArg some (by kernel_rfl))
  f319 := Tryz.func151.trans (congrArg some (by kernel_rfl))
  f320 := Tryz.func152.trans (congrArg some (by kernel_rfl))
  f321 := Tryz.func138.trans (congrArg some (by kernel_rfl))
  f322 := Tryz.func139.trans (congrArg some (by kernel_rfl))
  f337 := Tryz.func153.trans (congrArg some (by kernel_rfl))
  f338 := Tryz.func154.trans (congrArg some (by kernel_rfl))
  t0 := Tryz.underlying0
  a0 := Tryz.isAgg0
  z0 := Tryz.sizeOf0
  v0 := Tryz.zeroValue0
  t2 := Tryz.underlying2
  a2 := Tryz.isAgg2
  z2 := Tryz.sizeOf2
  v2 := Tryz.zeroValue2
  t3 := Tryz.underlying3
  a3 := Tryz.isAgg3
  z3 := Tryz.sizeOf3
  v3 := Tryz.zeroValue3
  t4 := Tryz.underlying4
  a4 := Tryz.isAgg4
  z4 := Tryz.sizeOf4
  v4 := Tryz.zeroValue4
  t5 := Tryz.underlying5
  a5 := Tryz.isAgg5
  z5 := Tryz.sizeOf5
  v5 := Tryz.zeroValue5
  t9 := Tryz.underlying9
  a9 := Tryz.isAgg9
  z9 := Tryz.sizeOf9
  v9 := Tryz.zeroValue9
  t20 := Tryz.underlying20
  a20 := Tryz.isAgg20
  z20 := Tryz.sizeOf20
  v20 := Tryz.zeroValue20
  t21 := Tryz.underlying21
  a21 := Tryz.isAgg21
  z21 := Tryz.sizeOf21
  v21 := Tryz.zeroValue21
  t37 := Tryz.underlying65
  a37 := Tryz.isAgg65
  z37 := Tryz.sizeOf65
  v37 := Tryz.zeroValue65
  t46 := Tryz.underlying123
  a46 := Tryz.isAgg123
  z46 := Tryz.sizeOf123
  v46 := Tryz.zeroValue123
  t51 := Tryz.underlying161
  a51 := Tryz.isAgg161
  z51 := Tryz.sizeOf161
  v51 := Tryz.zeroValue161
  t53 := Tryz.underlying116
  a53 := Tryz.isAgg116
  z53 := Tryz.sizeOf116
  v53 := Tryz.zeroValue116
  t75 := Tryz.underlying157
  a75 := Tryz.isAgg157
  z75 := Tryz.sizeOf157
  v75 := Tryz.zeroValue157
  t85 := Tryz.underlying158
  a85 := Tryz.isAgg158
  z85 := Tryz.sizeOf158
  v85 := Tryz.zeroValue158
  t127 := Tryz.underlying182
  a127 := Tryz.isAgg182
  z127 := Tryz.sizeOf182
  v127 := Tryz.zeroValue182
  t143 := Tryz.underlying183
  a143 := Tryz.isAgg183
  z143 := Tryz.sizeOf183
  v143 := Tryz.zeroValue183
  t145 := Tryz.underlying185
  a145 := Tryz.isAgg185
  z145 := Tryz.sizeOf185
  v145 := Tryz.zeroValue185
  t167 := Tryz.underlying166
  a167 := Tryz.isAgg166
  z167 := Tryz.sizeOf166
  v167 := Tryz.zeroValue166
  t168 := Tryz.underlying169
  a168 := Tryz.isAgg169
  z168 := Tryz.sizeOf169
  v168 := Tryz.zeroValue169
  t171 := Tryz.underlying177
  a171 := Tryz.isAgg177
  z171 := Tryz.sizeOf177
  v171 := Tryz.zeroValue177
  t173 := Tryz.underlying180
  a173 := Tryz.isAgg180
  z173 := Tryz.sizeOf180
  v173 := Tryz.zeroValue180
  t175 := Tryz.underlying167
  a175 := Tryz.isAgg167
  z175 := Tryz.sizeOf167
  v175 := Tryz.zeroValue167
  t210 := Tryz.underlying175
  a210 := Tryz.isAgg175
  z210 := Tryz.sizeOf175
  v210 := Tryz.zeroValue175
  t212 := Tryz.underlying187
  a212 := Tryz.isAgg187
  z212 := Tryz.sizeOf187
  v212 := Tryz.zeroValue187
  t213 := Tryz.underlying188
  a213 := Tryz.isAgg188
  z213 := Tryz.sizeOf188
  t232 := Tryz.underlying191
  a232 := Tryz.isAgg191
  z232 := Tryz.sizeOf191
  v232 := Tryz.zeroValue191
  t233 := Tryz.underlying192
  a233 := Tryz.isAgg192
  z233 := Tryz.sizeOf192
  v233 := Tryz.zeroValue192
  g15 := by kernel_rfl
  g16 := by kernel_rfl
  g17 := by kernel_rfl
  g18 := by kernel_rfl
  g19 := by kernel_rfl
  t80 := Tryz.underlying193
  a80 := Tryz.isAgg193
  z80 := Tryz.sizeOf193
  v80 := Tryz.zeroValue193
  i0 := by kernel_rfl
  i2 := by kernel_rfl
  i3 := by kernel_rfl
  i4 := by kernel_rfl
  i5 := by kernel_rfl
  i9 := by kernel_rfl
  i20 := by kernel_rfl
  i21 := by kernel_rfl
  i37 := by kernel_rfl
  i46 := by kernel_rfl
  i51 := by kernel_rfl
  i53 := by kernel_rfl
  i75 := by kernel_rfl
  i80 := by kernel_rfl
  i85 := by kernel_rfl
  i127 := by kernel_rfl
  i143 := by kernel_rfl
  i145 := by kernel_rfl
  i167 := by kernel_rfl
  i168 := by kernel_rfl
  i171 := by kernel_rfl
  i173 := by kernel_rfl
  i175 := by kernel_rfl
  i210 := by kernel_rfl
  i212 := by kernel_rfl
  i232 := by kernel_rfl
  i233 := by kernel_rfl
  m15 := by kernel_rfl
  m16 := by kernel_rfl
  m17 := by kernel_rfl
  m18 := by kernel_rfl
  m19 := by kernel_rfl
  c0 := by kernel_rfl
  c2 := by kernel_rfl
  c3 := by kernel_rfl
  c4 := by kernel_rfl
  c5 := by kernel_rfl
  c9 := by kernel_rfl
  c20 := by kernel_rfl
  c21 := by kernel_rfl
  c37 := by kernel_rfl
  c46 := by kernel_rfl
  c51 := by kernel_rfl
  c53 := by kernel_rfl
  c75 := by kernel_rfl
  c80 := by kernel_rfl
  c85 := by kernel_rfl
  c127 := by kernel_rfl
  c143 := by kernel_rfl
  c145 := by kernel_rfl
  c167 := by kernel_rfl
  c168 := by kernel_rfl
  c171 := by kernel_rfl
  c173 := by kernel_rfl
  c175 := by kernel_rfl
  c210 := by kernel_rfl
  c212 := by kernel_rfl
  c213 := by kernel_rfl
  c232 := by kernel_rfl
  c233 := by kernel_rfl }
open Go.RowKit in
theorem Tryz.strconv_ParseInt_10_at64_ok (s : ByteArray) (hmax : s.size ≤ 9223372036854775806) (v : Int) (h : Lib.parseIntB 64 s.data.toList = .ok v) (w : World) :
    Calls Tryz.prog 124 #[.string s, .int .i64 10, .int .i64 64] w fun e w' => e = .returned (.tuple #[.int .i64 v, .nilIface]) ∧ (w' = w ∨ ∃ t, w' = Lib.bytesWorld w 5 t) := Any.strconv_ParseInt_10_at64_ok Tryz.laysC174 s hmax v h w
open Go.RowKit in
theorem Tryz.strconv_ParseInt_10_at64_syntax (s : ByteArray) (hlim : s.size ≤ 281474976710656) (h : Lib.parseIntB 64 s.data.toList = .«syntax») (ev : Value) (w : World) (hv : w.cell? ⟨4, 0, none⟩ = some ev) (hev : ev = .nilIface ∨ ∃ te pe, ev = .iface te pe) :
    Calls Tryz.prog 124 #[.string s, .int .i64 10, .int .i64 64] w fun e w' => ∃ N, e = .returned (.tuple #[.int .i64 (0), .iface 169 (.pointer (some ⟨N, 0, none⟩))]) ∧ w.heap.size ≤ N ∧ w'.heap[N]? = some (.cells #[.string ⟨#[80, 97, 114, 115, 101, 73, 110, 116]⟩, .string s, ev] 175 (0, 0)) ∧ Below w.heap.size w w' := Any.strconv_ParseInt_10_at64_syntax Tryz.laysC174 s hlim h ev w hv hev
open Go.RowKit in
theorem Tryz.strconv_ParseInt_10_at64_range (s : ByteArray) (hlim : s.size ≤ 281474976710656) (h : Lib.parseIntB 64 s.data.toList = .range) (ev : Value) (w : World) (hv : w.cell? ⟨5, 0, none⟩ = some ev) (hev : ev = .nilIface ∨ ∃ te pe, ev = .iface te pe) :
    Calls Tryz.prog 124 #[.string s, .int .i64 10, .int .i64 64] w fun e w' => ∃ N, e = .returned (.tuple #[.int .i64 (Lib.intSat 64 s.data.toList), .iface 169 (.pointer (some ⟨N, 0, none⟩))]) ∧ w.heap.size ≤ N ∧ w'.heap[N]? = some (.cells #[.string ⟨#[80, 97, 114, 115, 101, 73, 110, 116]⟩, .string s, ev] 175 (0, 0)) ∧ Below w.heap.size w w' := Any.strconv_ParseInt_10_at64_range Tryz.laysC174 s hlim h ev w hv hev
def Tryz.lays145_ren : Go.Shelf.Ren := ⟨fun | 145 => 83 | 220 => 101 | 219 => 112 | 217 => 117 | 225 => 120 | 224 => 121 | 267 => 122 | 266 => 127 | 314 => 128 | n => n, fun | 9 => 9 | 4 => 4 | 59 => 119 | 3 => 3 | 5 => 5 | 46 => 123 | 146 => 162 | 51 => 161 | n => n, fun | 1 => 3 | n => n⟩
theorem Tryz.lays145 : Go.Proofs.Lays.n145 Tryz.prog Tryz.lays145_ren := {
  mixed := by kernel_rfl
  f145 := Tryz.func83.trans (congrArg some (by kernel_rfl))
  f217 := Tryz.func117.trans (congrArg some (by kernel_rfl))
  f219 := Tryz.func112.trans (congrArg some (by kernel_rfl))
  f220 := Tryz.func101.trans (congrArg some (by kernel_rfl))
  f224 := Tryz.func121.trans (congrArg some (by kernel_rfl))
  f225 := Tryz.func120.trans (congrArg some (by kernel_rfl))
  f266 := Tryz.func127.trans (congrArg some (by kernel_rfl))
  f267 := Tryz.func122.trans (congrArg some (by kernel_rfl))
  f314 := Tryz.func128.trans (congrArg some (by kernel_rfl))
  t3 := Tryz.underlying3
  a3 := Tryz.isAgg3
  z3 := Tryz.sizeOf3
  v3 := Tryz.zeroValue3
  t4 := Tryz.underlying4
  a4 := Tryz.isAgg4
  z4 := Tryz.sizeOf4
  v4 := Tryz.zeroValue4
  t5 := Tryz.underlying5
  a5 := Tryz.isAgg5
  z5 := Tryz.sizeOf5
  v5 := Tryz.zeroValue5
  t9 := Tryz.underlying9
  a9 := Tryz.isAgg9
  z9 := Tryz.sizeOf9
  v9 := Tryz.zeroValue9
  t46 := Tryz.underlying123
  a46 := Tryz.isAgg123
  z46 := Tryz.sizeOf123
  v46 := Tryz.zeroValue123
  t51 := Tryz.underlying161
  a51 := Tryz.isAgg161
  z51 := Tryz.sizeOf161
  v51 := Tryz.zeroValue161
  t59 := Tryz.underlying119
  a59 := Tryz.isAgg119
  z59 := Tryz.sizeOf119
  v59 := Tryz.zeroValue119
  t146 := Tryz.underlying162
  a146 := Tryz.isAgg162
  z146 := Tryz.sizeOf162
  v146 := Tryz.zeroValue162
  g1 := by kernel_rfl }
open Go.RowKit Go.Lib in
theorem Tryz.strings_Cut (s sep : ByteArray) (m : Int) (w : World) (hs : s.size < 4294967281) (hm : w.cell? ⟨3, 0, none⟩ = some (.int .i64 m)) :
    Calls Tryz.prog 83 #[.string s, .string sep] w fun e w' => e = .returned (.tuple #[.string ⟨(Lib.cut s.data.toList sep.data.toList).1.toArray⟩, .string ⟨(Lib.cut s.data.toList sep.data.toList).2.1.toArray⟩, .bool (Lib.cut s.data.toList sep.data.toList).2.2]) ∧ ∃ n, w' = w.drewN n := Any.strings_Cut Tryz.lays145 s sep m w hs hm
def Tryz.lays229_ren : Go.Shelf.Ren := ⟨fun | 229 => 102 | n => n, fun | 9 => 9 | 40 => 140 | 31 => 74 | 152 => 149 | 3 => 3 | 0 => 0 | 4 => 4 | 21 => 21 | 154 => 151 | n => n, fun | n => n⟩
theorem Tryz.lays229 : Go.Proofs.Lays.n229 Tryz.prog Tryz.lays229_ren := {
  mixed := by kernel_rfl
  f229 := Tryz.func102.trans (congrArg some (by kernel_rfl))
  t0 := Tryz.underlying0
  a0 := Tryz.isAgg0
  z0 := Tryz.sizeOf0
  v0 := Tryz.zeroValue0
  t3 := Tryz.underlying3
  a3 := Tryz.isAgg3
  z3 := Tryz.sizeOf3
  v3 := Tryz.zeroValue3
  t4 := Tryz.underlying4
  a4 := Tryz.isAgg4
  z4 := Tryz.sizeOf4
  v4 := Tryz.zeroValue4
  t9 := Tryz.underlying9
  a9 := Tryz.isAgg9
  z9 := Tryz.sizeOf9
  v9 := Tryz.zeroValue9
  t21 := Tryz.underlying21
  a21 := Tryz.isAgg21
  z21 := Tryz.sizeOf21
  v21 := Tryz.zeroValue21
  t31 := Tryz.underlying74
  a31 := Tryz.isAgg74
  z31 := Tryz.sizeOf74
  v31 := Tryz.zeroValue74
  t40 := Tryz.underlying140
  a40 := Tryz.isAgg140
  z40 := Tryz.sizeOf140
  v40 := Tryz.zeroValue140
  t152 := Tryz.underlying149
  a152 := Tryz.isAgg149
  z152 := Tryz.sizeOf149
  v152 := Tryz.zeroValue149
  t154 := Tryz.underlying151
  a154 := Tryz.isAgg151
  z154 := Tryz.sizeOf151
  v154 := Tryz.zeroValue151 }
open Go.RowKit Go.Lib in
theorem Tryz.strings_FieldsFunc_runes (g : Nat) (lb : Array Value) (eg : ∀ args w, (callFunc g args).run Tryz.prog w = .ok (.enter g args) w) (p : Nat → Bool) (s : ByteArray) (w : World) (hs : s.size ≤ 4294967296) (hp : PredAtRunes Tryz.prog g lb p w) :
    Calls Tryz.prog 102 #[.string s, .func (.func g) #[] lb] w fun e w' => ∃ A, e = .returned (.slice (some ⟨A, 0, none⟩) (Lib.goFieldsP p s).length (Lib.goFieldsP p s).length) ∧ w.heap.size ≤ A ∧
      w'.ownsRow w.heap.size 9 1 (.slice (some ⟨A, 0, none⟩) (Lib.goFieldsP p s).length (Lib.goFieldsP p s).length) (Lib.goFieldsP p s).length ((Lib.goFieldsP p s).map Value.string) ∧ Below w.heap.size w w' := Any.strings_FieldsFunc_runes Tryz.lays229 g lb eg p s w hs hp (by kernel_rfl) (by kernel_rfl)
end Go.Proofs

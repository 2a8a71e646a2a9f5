/- Assembly texts, as plain functions of bytes. -/
import Derived.Lib.ParseIntB
import Derived.Lib.IndexMore
import Derived.Lib.ItoaMem
import Derived.Lib.ItoaLen
import Derived.Lib.Join
import Derived.Test.YtgjingleolhkbaaGreatDoorProg
import Derived.WalkKit
import Derived.WalkSpells
import Derived.WalkLawsBesides
import Derived.OwnWalk
import Derived.Deep.LoopGhost
import Derived.Shelf.Abstract
import Derived.Deep.QuietTactic
import Derived.BigQuiet
namespace Go.Proofs.YtgjingleolhkbaaGreatDoor
namespace X
set_option linter.unusedVariables false
set_option linter.unusedSimpArgs false

abbrev By := List UInt8
def lt (n : Nat) : Bool := (decide (97 ≤ n) && decide (n ≤ 122)) || ((decide (65 ≤ n) && decide (n ≤ 90)) || decide (n = 95))
def dg (n : Nat) : Bool := decide (48 ≤ n) && decide (n ≤ 57)
def inn (n : Nat) : Bool := lt n || (dg n || decide (n = 46))
def first (l : By) : Nat := match l with | [] => 0 | c :: _ => c.toNat
def name (l : By) : Bool := decide (1 ≤ l.length) && (decide (l.length ≤ 28) && (lt (first l) && l.tail.all (fun c => inn c.toNat)))

structure It where
  kind : Int
  name : By
  op : Int
  a : Int
  b : Int
  n : Int
  words : List Int
deriving DecidableEq
def noIt : It := ⟨0, [], 0, 0, 0, 0, []⟩

def rows : List (By × By) := [([], []), ([109, 111, 118, 105], [65, 78]), ([109, 111, 118], [65, 66]), ([97, 100, 100], [65, 66]), ([115, 117, 98], [65, 66]), ([109, 117, 108], [65, 66]), ([100, 105, 118], [65, 66]), ([114, 101, 109], [65, 66]), ([97, 110, 100], [65, 66]), ([111, 114], [65, 66]), ([120, 111, 114], [65, 66]), ([115, 104, 108], [65, 66]), ([115, 97, 114], [65, 66]), ([101, 113], [65, 66]), ([110, 101], [65, 66]), ([108, 116], [65, 66]), ([108, 101], [65, 66]), ([108, 100], [65, 66, 78]), ([115, 116], [65, 78, 66]), ([97, 100, 114], [65, 64, 78]), ([106, 109, 112], [64]), ([106, 122], [65, 64]), ([106, 110, 122], [65, 64]), ([99, 97, 108, 108], [64]), ([114, 101, 116], []), ([], []), ([], []), ([], []), ([120, 99, 104, 103], [65, 78, 66]), ([120, 97, 100, 100], [65, 78, 66]), ([102, 101, 110, 99, 101], []), ([111, 117, 116], [65]), ([104, 97, 108, 116], []), ([116, 114, 97, 112], [78])]
theorem rows_length : rows.length = 34 := by decide
def row (op : Nat) : By × By := rows.getD op ([], [])
def rowOf (op : Int) : Option (By × By) := if 0 ≤ op ∧ op < 34 ∧ (row op.toNat).1 ≠ [] then some (row op.toNat) else none
def opOf (m : By) : Option Nat := rows.findIdx? (fun r => decide (r.1 = m))
def isReg (r : Int) : Bool := decide (0 ≤ r) && decide (r < 8)
def numOk (op n : Int) : Bool := if op = 1 then true else if op = 33 then decide (0 ≤ n) && decide (n ≤ 127) else decide (-2147483648 ≤ n) && decide (n ≤ 2147483647)
def has (b : By) (c : UInt8) : Bool := b.contains c
def insOk (t : It) : Bool := match rowOf t.op with
  | none => false
  | some r => decide (has r.2 64 = decide (t.name ≠ [])) && ((decide (t.name = []) || name t.name) && ((decide (t.a = 0) || has r.2 65) && ((decide (t.b = 0) || has r.2 66) && ((decide (t.n = 0) || has r.2 78) && (isReg t.a && (isReg t.b && numOk t.op t.n))))))
def zeroIns (t : It) : Bool := decide (t.op = 0 ∧ t.a = 0 ∧ t.b = 0 ∧ t.n = 0)
def itOk (t : It) : Bool :=
  if t.kind = 1 ∨ t.kind = 4 ∨ t.kind = 5 then name t.name && (decide (t.words = []) && zeroIns t)
  else if t.kind = 3 then name t.name && (decide (1 ≤ t.words.length) && (decide (t.words.length ≤ 4096) && zeroIns t))
  else if t.kind = 2 then insOk t && decide (t.words = [])
  else false
def itsOk (l : List It) : Bool := decide (l.length ≤ 20000) && l.all itOk

/-! ### Words -/
def num (w : By) : Option Int := match Go.Lib.parseIntB 64 w with
  | .ok n => if Go.Lib.itoa n = w then some n else none
  | _ => none
def reg (w : By) : Option Int := match w with
  | [c, d] => if c = 114 ∧ dg d.toNat = true then some ((d.toNat : Int) - 48) else none
  | _ => none
def set (t : It) (c : UInt8) (w : By) : Option It :=
  if c = 65 then (reg w).map fun x => { t with a := x }
  else if c = 66 then (reg w).map fun x => { t with b := x }
  else if c = 78 then (num w).map fun x => { t with n := x }
  else if c = 64 then some { t with name := w }
  else none
def setAll (t : It) : By → List By → Option It
  | [], [] => some t
  | c :: r, w :: ws => (set t c w).bind fun t' => setAll t' r ws
  | _, _ => none
def takeIns (f : By) (r : List By) : Option It := match opOf f with
  | none => none
  | some op => if r.length = (row op).2.length then setAll ⟨2, [], op, 0, 0, 0, []⟩ (row op).2 r else none
def wGlobal : By := [46, 103, 108, 111, 98, 97, 108]
def wThread : By := [46, 116, 104, 114, 101, 97, 100]
def wWords : By := [46, 119, 111, 114, 100, 115]
def nums : List By → Option (List Int)
  | [] => some []
  | w :: ws => (num w).bind fun n => (nums ws).map fun l => n :: l
def takeNamed (k : Int) (r : List By) : Option It := match r with
  | [x] => some ⟨k, x, 0, 0, 0, 0, []⟩
  | _ => none
def takeWords (r : List By) : Option It := match r with
  | [] => none
  | x :: ns => (nums ns).map fun l => ⟨3, x, 0, 0, 0, 0, l⟩
def take (f : By) (r : List By) : Option It :=
  if f.getLast? = some 58 then (if r = [] then some ⟨1, f.dropLast, 0, 0, 0, 0, []⟩ else none)
  else if f = wGlobal then takeNamed 4 r
  else if f = wThread then takeNamed 5 r
  else if f = wWords then takeWords r
  else takeIns f r
def read (ws : List By) : Option It := match ws with
  | [] => none
  | f :: r => (take f r).bind fun t => if itOk t = true then some t else none

def fieldsGo : By → By → List By
  | cur, [] => if cur = [] then [] else [cur]
  | cur, c :: l => if c = 32 then (if cur = [] then fieldsGo [] l else cur :: fieldsGo [] l) else fieldsGo (cur ++ [c]) l
def fields (l : By) : List By := fieldsGo [] l
def ahead (l : By) : By := l.takeWhile (fun c => !decide (c = 35))
def wordsOf (l : By) : List By := fields (ahead l)
def lines : By → List By
  | [] => [[]]
  | c :: l => if c = 10 then [] :: lines l else match lines l with
    | [] => [[c]]
    | x :: xs => (c :: x) :: xs
def wl (s : By) : List (List By) := ((lines s).map wordsOf).filter fun ws => decide (ws ≠ [])
def reads : List (List By) → Option (List It)
  | [] => some []
  | ws :: r => (read ws).bind fun t => (reads r).map fun l => t :: l
def parse (s : By) : List It × Nat :=
  if 200000 < s.length then ([], 8) else match reads (wl s) with
    | none => ([], 2)
    | some l => if l.length ≤ 20000 then (l, 0) else ([], 2)

/-! ### Printing -/
def operand (t : It) (c : UInt8) : By := if c = 65 then 114 :: Go.Lib.itoa t.a else if c = 66 then 114 :: Go.Lib.itoa t.b else if c = 78 then Go.Lib.itoa t.n else t.name
def saidIns (t : It) : List By := (row t.op.toNat).1 :: (row t.op.toNat).2.map (operand t)
def said (t : It) : List By :=
  if t.kind = 1 then [t.name ++ [58]]
  else if t.kind = 4 then [wGlobal, t.name]
  else if t.kind = 5 then [wThread, t.name]
  else if t.kind = 3 then wWords :: t.name :: t.words.map Go.Lib.itoa
  else saidIns t
def lineOf (t : It) : By := Go.Lib.join (said t) [32] ++ [10]
def text (l : List It) : By := l.flatMap lineOf
def print (l : List It) : By × Nat := if itsOk l = true then (if 200000 < (text l).length then ([], 8) else (text l, 0)) else ([], 1)

/-! ### Numbers there and back -/
theorem foldl_ge : ∀ (t : By) (u : Nat), u ≤ t.foldl (fun u c => u * 10 + (c.toNat - 48)) u
  | [], u => Nat.le_refl _
  | c :: t, u => Nat.le_trans (by omega) (foldl_ge t (u * 10 + (c.toNat - 48)))
def pd (c : UInt8) : Bool := dg c.toNat
theorem parseU : ∀ (t : By) (acc : Nat), t.all pd = true → acc < 18446744073709551616 → Go.Lib.parseUintM 18446744073709551615 acc t = if t.foldl (fun u c => u * 10 + (c.toNat - 48)) acc < 18446744073709551616 then .ok (t.foldl (fun u c => u * 10 + (c.toNat - 48)) acc) else .range
  | [], acc, _, h => by rw [List.foldl_nil, if_pos h]; rfl
  | c :: t, acc, h, ha => by
    simp only [List.all_cons, Bool.and_eq_true, pd, dg, decide_eq_true_eq] at h
    have hge := foldl_ge t (acc * 10 + (c.toNat - 48))
    unfold Go.Lib.parseUintM
    rw [if_pos h.1, List.foldl_cons]
    by_cases h1 : 1844674407370955162 ≤ acc
    · rw [if_pos h1, if_neg (by omega)]
    · rw [if_neg h1]
      by_cases h2 : 18446744073709551615 < acc * 10 + (c.toNat - 48)
      · rw [if_pos h2, if_neg (by omega)]
      · rw [if_neg h2]
        exact parseU t _ (by simpa [pd, dg] using h.2) (by omega)
theorem u8_toNat (k : Nat) (h : k < 256) : (UInt8.ofNat k).toNat = k := by simp; omega
theorem dec_digits (u : Nat) : (Go.Lib.decDigits u).all pd = true ∧ (Go.Lib.decDigits u).foldl (fun u c => u * 10 + (c.toNat - 48)) 0 = u ∧ Go.Lib.decDigits u ≠ [] := by
  induction u using Nat.strongRecOn with
  | _ u ih =>
    rw [Go.Lib.decDigits]
    by_cases h : u < 10
    · rw [dif_pos h]
      have := u8_toNat (48 + u) (by omega)
      refine ⟨?_, ?_, by simp⟩
      · simp only [List.all_cons, List.all_nil, Bool.and_true, pd, dg, this]; simp; omega
      · simp only [List.foldl_cons, List.foldl_nil, this]; omega
    · rw [dif_neg h]
      obtain ⟨h1, h2, h3⟩ := ih (u / 10) (by omega)
      have := u8_toNat (48 + u % 10) (by omega)
      refine ⟨?_, ?_, by simp⟩
      · rw [List.all_append, h1]
        simp only [List.all_cons, List.all_nil, Bool.and_true, Bool.true_and, pd, dg, this]; simp; omega
      · rw [List.foldl_append, h2]
        simp only [List.foldl_cons, List.foldl_nil, this]; omega
def fits (n : Int) : Prop := -9223372036854775808 ≤ n ∧ n ≤ 9223372036854775807
theorem parse_itoa {n : Int} (h : fits n) : Go.Lib.parseIntB 64 (Go.Lib.itoa n) = .ok n := by
  obtain ⟨h1, h2⟩ := h
  unfold Go.Lib.itoa
  by_cases hn : n < 0
  · rw [if_pos hn]
    obtain ⟨d1, d2, d3⟩ := dec_digits n.natAbs
    have hp := parseU _ 0 d1 (by omega)
    rw [d2, if_pos (by omega)] at hp
    unfold Go.Lib.parseIntB Go.Lib.parseUintB
    simp only [show (45 : UInt8).toNat = 45 from rfl, or_true, if_true]
    rw [if_neg d3, show (2 ^ 64 - 1 : Nat) = 18446744073709551615 by decide, hp]
    simp only [not_true_eq_false, false_and, if_false, true_and, if_true]
    rw [if_neg (by have : (2 ^ (64 - 1) : Nat) = 9223372036854775808 := by decide
                   omega)]
    congr 1
    omega
  · rw [if_neg hn]
    obtain ⟨d1, d2, d3⟩ := dec_digits n.toNat
    have hp := parseU _ 0 d1 (by omega)
    rw [d2, if_pos (by omega)] at hp
    generalize hD : Go.Lib.decDigits n.toNat = D at *
    obtain ⟨c, r, rfl⟩ : ∃ c r, D = c :: r := by cases D with | nil => exact absurd rfl d3 | cons c r => exact ⟨c, r, rfl⟩
    have hc : 48 ≤ c.toNat ∧ c.toNat ≤ 57 := by simp [pd, dg] at d1; exact d1.1
    unfold Go.Lib.parseIntB Go.Lib.parseUintB
    simp only [show ¬ c.toNat = 43 by omega, show ¬ c.toNat = 45 by omega, or_self, if_false, false_and, not_false_eq_true, true_and]
    rw [if_neg (by simp), show (2 ^ 64 - 1 : Nat) = 18446744073709551615 by decide, hp]
    simp only
    rw [if_neg (by have : (2 ^ (64 - 1) : Nat) = 9223372036854775808 := by decide
                   omega)]
    congr 1
    omega
theorem num_itoa {n : Int} (h : fits n) : num (Go.Lib.itoa n) = some n := by
  unfold num; rw [parse_itoa h]; simp
theorem num_some {w : By} {n : Int} (h : num w = some n) : Go.Lib.itoa n = w := by
  unfold num at h
  split at h
  · split at h
    · cases h; assumption
    · cases h
  · cases h
theorem parse_fits {w : By} {n : Int} (h : Go.Lib.parseIntB 64 w = .ok n) : fits n := by
  unfold Go.Lib.parseIntB at h
  have hp : (2 ^ (64 - 1) : Nat) = 9223372036854775808 := by decide
  cases w with
  | nil => cases h
  | cons c r =>
    simp only at h
    split at h
    · cases h
    · cases h
    · rename_i u hu
      rw [hp] at h
      split at h
      · cases h
      · split at h
        · cases h
        · rename_i h1 h2
          injection h with h
          unfold fits
          by_cases hc : c.toNat = 45
          · simp [hc] at h h1 h2; omega
          · simp [hc] at h h1 h2; omega
theorem num_fits {w : By} {n : Int} (h : num w = some n) : fits n := by
  unfold num at h
  split at h
  · rename_i m hm
    split at h
    · cases h; exact parse_fits hm
    · cases h
  · cases h

end X
end Go.Proofs.YtgjingleolhkbaaGreatDoor

/- The small functions of asmtext. -/
namespace Go.Proofs.YtgjingleolhkbaaGreatDoor
open Go.RowKit
set_option linter.unusedVariables false
set_option linter.unusedSimpArgs false

theorem ret_b {a b : Bool} (h : a = b) : Ending.returned (.bool a) = .returned (.bool b) := by rw [h]
theorem ret_i {k : IntKind} {a b : Int} (h : a = b) : Ending.returned (.int k a) = .returned (.int k b) := by rw [h]
theorem below_drew' {B : Nat} {x y : World} (h : Below B x y) (m : Nat) : Below B x (y.drewN m) := ⟨h.os, h.tape, h.output, h.size, h.block⟩
theorem bl1 (w : World) (x : Obj) : Below w.heap.size w (w.alloc x) := (Below.refl _ _).alloc (Nat.le_refl _) _
theorem bl2 (w : World) (x y : Obj) : Below w.heap.size w ((w.alloc x).alloc y) := (bl1 w x).alloc (by simp) _

/-! ### Bytes of a string -/
def X.str (l : X.By) : ByteArray := ⟨l.toArray⟩
theorem str_list (l : X.By) : (X.str l).data.toList = l := rfl
theorem str_size (l : X.By) : (X.str l).size = l.length := by simp [X.str, ByteArray.size]
theorem str_eq (s : ByteArray) : X.str s.data.toList = s := by cases s; simp [X.str]
theorem len_list (s : ByteArray) : s.data.toList.length = s.size := by simp
theorem bytes_ext' {a b : ByteArray} (h : a.data.toList = b.data.toList) : a = b := by
 cases a; cases b; simp at h; simp [h]
theorem extract_eq (s : ByteArray) (a b : Nat) : s.extract a b = X.str ((s.data.toList.take b).drop a) := by
 refine bytes_ext' ?_
 rw [str_list]
 rw [ByteArray.data_extract, Array.toList_extract, List.extract_eq_take_drop]
 rw [List.drop_take]
theorem get_list (s : ByteArray) (k : Nat) (h : k < s.size) : s.data.toList[k]? = some s[k] := by
 have h' : k < s.data.toList.length := by simpa using h
 rw [List.getElem?_eq_getElem h']
 rfl
theorem drop_cons (s : ByteArray) (k : Nat) (h : k < s.size) : s.data.toList.drop k = s[k] :: s.data.toList.drop (k + 1) := by
 have h' : k < s.data.toList.length := by simpa using h
 rw [List.drop_eq_getElem_cons h']
 rfl
theorem toList_ne' {a b : ByteArray} (h : ¬ a.data.toList = b.data.toList) : (a.toList == b.toList) = false := by
 rw [ByteArray.toList_eq, ByteArray.toList_eq]
 exact beq_eq_false_iff_ne.2 h
theorem toList_eq' {a b : ByteArray} (h : a.data.toList = b.data.toList) : (a.toList == b.toList) = true := by
 rw [ByteArray.toList_eq, ByteArray.toList_eq]
 exact beq_iff_eq.2 h

set_option maxHeartbeats 4000000 in
theorem isDigit_any (n : Nat) (w : World) :
  Calls Tryz.prog 88 #[.int .u8 n] w fun e w' => e = .returned (.bool (X.dg n)) ∧ w' = w := by
 go_enter Tryz.func88, Tryz.ntmps88
 go_wp2
 all_goals
  go_ret
  exact ⟨ret_b (by rw [Bool.eq_iff_iff]; simp [X.dg]; try omega), rfl⟩

set_option maxHeartbeats 4000000 in
theorem beginsName_any (n : Nat) (w : World) :
  Calls Tryz.prog 87 #[.int .u8 n] w fun e w' => e = .returned (.bool (X.lt n)) ∧ w' = w := by
 go_enter Tryz.func87, Tryz.ntmps87
 go_wp2
 all_goals
  go_ret
  exact ⟨ret_b (by rw [Bool.eq_iff_iff]; simp [X.lt]; try omega), rfl⟩

set_option maxHeartbeats 4000000 in
theorem isRegister_any (n : Int) (w : World) :
  Calls Tryz.prog 91 #[.int .i64 n] w fun e w' => e = .returned (.bool (X.isReg n)) ∧ w' = w := by
 go_enter Tryz.func91, Tryz.ntmps91
 go_wp2
 all_goals
  go_ret
  exact ⟨ret_b (by rw [Bool.eq_iff_iff]; simp [X.isReg]; try omega), rfl⟩

set_option maxHeartbeats 4000000 in
theorem numberMayBe_any (op n : Int) (w : World) :
  Calls Tryz.prog 92 #[.int .i64 op, .int .i64 n] w fun e w' => e = .returned (.bool (X.numOk op n)) ∧ w' = w := by
 by_cases h1 : op = 1
 ·subst h1
  go_enter Tryz.func92, Tryz.ntmps92
  go_wp2
  all_goals
   go_ret
   exact ⟨ret_b (by simp [X.numOk]), rfl⟩
 ·by_cases h2 : op = 33
  ·subst h2
   go_enter Tryz.func92, Tryz.ntmps92
   go_wp2
   all_goals
    go_ret
    exact ⟨ret_b (by rw [Bool.eq_iff_iff]; simp [X.numOk]; try omega), rfl⟩
  ·have h1' : (op == 1) = false := by simp [h1]
   have h2' : (op == 33) = false := by simp [h2]
   have HR : Hid (X.numOk op n = (decide (-2147483648 ≤ n) && decide (n ≤ 2147483647))) := by show _ = _; simp [X.numOk, h1, h2]
   go_enter Tryz.func92, Tryz.ntmps92
   go_wp2
   all_goals
    go_ret
    exact ⟨ret_b (by rw [HR.out, Bool.eq_iff_iff]; simp; try omega), rfl⟩

set_option maxHeartbeats 4000000 in
theorem isSpace_any (r : Int) (w : World) :
  Calls Tryz.prog 103 #[.int .i32 r] w fun e w' => e = .returned (.bool (decide (r = 32))) ∧ w' = w := by
 go_enter Tryz.func103, Tryz.ntmps103
 go_wp2
 all_goals
  go_ret
  exact ⟨ret_b (by rw [Bool.eq_iff_iff]; simp), rfl⟩

theorem name_false {s : ByteArray} (h : s.size < 1 ∨ 28 < s.size) : X.name s.data.toList = false := by
 rw [Bool.eq_false_iff]
 intro e
 simp only [X.name, Bool.and_eq_true, decide_eq_true_eq, len_list] at e
 omega
theorem first_eq (s : ByteArray) (h : 0 < s.size) : X.first s.data.toList = s[0].toNat := by
 have := drop_cons s 0 h
 rw [List.drop_zero] at this
 rw [this]; rfl
theorem name_first {s : ByteArray} (h0 : 0 < s.size) (h : X.lt s[0].toNat = false) : X.name s.data.toList = false := by
 rw [Bool.eq_false_iff]
 intro e
 simp only [X.name, Bool.and_eq_true, first_eq s h0, h] at e
 simp at e
theorem name_byte {s : ByteArray} {k : Nat} (h1 : 1 ≤ k) (hk : k < s.size) (h : X.inn s[k].toNat = false) : X.name s.data.toList = false := by
 rw [Bool.eq_false_iff]
 intro e
 simp only [X.name, Bool.and_eq_true, List.all_eq_true] at e
 have := e.2.2.2 s[k] (by
  rw [List.mem_iff_getElem?]
  refine ⟨k - 1, ?_⟩
  rw [List.getElem?_tail, show k - 1 + 1 = k by omega]
  exact get_list s k hk)
 rw [h] at this
 cases this
theorem name_yes {s : ByteArray} (h0 : 1 ≤ s.size) (h1 : s.size ≤ 28) (hf : X.lt s[0].toNat = true) (h : ∀ j (hj : j < s.size), 1 ≤ j → X.inn s[j].toNat = true) : X.name s.data.toList = true := by
 simp only [X.name, Bool.and_eq_true, decide_eq_true_eq, len_list, List.all_eq_true]
 refine ⟨h0, h1, by rw [first_eq s (by omega)]; exact hf, fun c hc => ?_⟩
 obtain ⟨k, hk⟩ := List.mem_iff_getElem?.1 hc
 rw [List.getElem?_tail] at hk
 have hlt : k + 1 < s.size := by have := (List.getElem?_eq_some_iff.1 hk).1; simpa using this
 rw [get_list s (k + 1) hlt] at hk
 cases hk
 exact h (k + 1) hlt (by omega)

set_option maxRecDepth 100000 in
set_option maxHeartbeats 4000000 in
theorem nameMayBe_any (s : ByteArray) (hs : s.size ≤ maxLen) (w : World) :
  Calls Tryz.prog 68 #[.string s] w fun e w' => e = .returned (.bool (X.name s.data.toList)) ∧ w' = w := by
 unfold maxLen at hs
 by_cases h0 : s.size < 1
 ·have HR : Hid _ := name_false (.inl h0)
  have h0' : (s.size : Int) < 1 := by omega
  go_enter Tryz.func68, Tryz.ntmps68
  go_wp2
  go_ret
  exact ⟨ret_b HR.out.symm, rfl⟩
 by_cases h1 : 28 < s.size
 ·have HR : Hid _ := name_false (.inr h1)
  go_enter Tryz.func68, Tryz.ntmps68
  go_wp2
  go_ret
  exact ⟨ret_b HR.out.symm, rfl⟩
 have h0' : 0 < s.size := by omega
 cases hf : X.lt s[0].toNat
 ·have HR : Hid _ := name_first h0' hf
  go_enter Tryz.func68, Tryz.ntmps68
  go_wp2_with (go_at_call 87; refine (beginsName_any s[0].toNat _).mono ?_; rw [hf]; rintro e w' ⟨rfl, rfl⟩)
  go_ret
  exact ⟨ret_b HR.out.symm, rfl⟩
 have HF : Hid _ := hf
 go_enter Tryz.func68, Tryz.ntmps68
 go_wp2_with (go_at_call 87; refine (beginsName_any s[0].toNat _).mono ?_; rw [hf]; rintro e w' ⟨rfl, rfl⟩)
 clear hf
 go_loop [3] (fun i => ∃ (k : Nat), i = .int .i64 k ∧ 1 ≤ k ∧ k ≤ s.size ∧ Hid (∀ j (hj : j < s.size), 1 ≤ j → j < k → X.inn s[j].toNat = true)) (fun i => s.size - (intOf i).toNat)
 case atStart => exact ⟨1, rfl, Nat.le_refl _, by omega, (fun j hj h1 h2 => by omega : ∀ j (hj : j < s.size), 1 ≤ j → j < 1 → X.inn s[j].toNat = true)⟩
 case round =>
  obtain ⟨k, rfl, hk1, hk, HA⟩ := hrel
  by_cases hlt : k < s.size
  ·have HNO : Hid (X.inn s[k].toNat = false → X.name s.data.toList = false) := fun h => name_byte hk1 hlt h
   have HYE : Hid (X.inn s[k].toNat = true → ∀ j (hj : j < s.size), 1 ≤ j → j < k + 1 → X.inn s[j].toNat = true) := fun h j hj h1 h2 => by
    by_cases e : j = k
    ·subst e; exact h
    ·exact HA.out j hj h1 (by omega)
   cases h2 : X.lt s[k].toNat
   ·cases h3 : X.dg s[k].toNat
    ·by_cases h4 : s[k].toNat = 46
     ·have h4' : ((s[k].toNat : Int) != 46) = false := by simp; omega
      have HI : Hid (X.inn s[k].toNat = true) := by show _ = _; simp [X.inn, h4]
      clear h4
      go_wp2_with (first | (go_at_call 87; refine (beginsName_any s[k].toNat _).mono ?_; rw [h2]; rintro e w' ⟨rfl, rfl⟩) | (go_at_call 88; refine (isDigit_any s[k].toNat _).mono ?_; rw [h3]; rintro e w' ⟨rfl, rfl⟩))
      go_round
      case rel => exact ⟨k + 1, by go_num, by omega, by omega, HYE.out HI.out⟩
      case measure => simp [intOf]; omega
     ·have h4' : ((s[k].toNat : Int) != 46) = true := by simp; omega
      have HI : Hid (X.inn s[k].toNat = false) := by show _ = _; simp [X.inn, h2, h3, h4]
      clear h4
      go_wp2_with (first | (go_at_call 87; refine (beginsName_any s[k].toNat _).mono ?_; rw [h2]; rintro e w' ⟨rfl, rfl⟩) | (go_at_call 88; refine (isDigit_any s[k].toNat _).mono ?_; rw [h3]; rintro e w' ⟨rfl, rfl⟩))
      go_ret
      exact ⟨ret_b (HNO.out HI.out).symm, rfl⟩
    ·have HI : Hid (X.inn s[k].toNat = true) := by show _ = _; simp [X.inn, h3]
     go_wp2_with (first | (go_at_call 87; refine (beginsName_any s[k].toNat _).mono ?_; rw [h2]; rintro e w' ⟨rfl, rfl⟩) | (go_at_call 88; refine (isDigit_any s[k].toNat _).mono ?_; rw [h3]; rintro e w' ⟨rfl, rfl⟩))
     go_round
     case rel => exact ⟨k + 1, by go_num, by omega, by omega, HYE.out HI.out⟩
     case measure => simp [intOf]; omega
   ·have HI : Hid (X.inn s[k].toNat = true) := by show _ = _; simp [X.inn, h2]
    go_wp2_with (first | (go_at_call 87; refine (beginsName_any s[k].toNat _).mono ?_; rw [h2]; rintro e w' ⟨rfl, rfl⟩) | (go_at_call 88; refine (isDigit_any s[k].toNat _).mono ?_; rintro e w' ⟨rfl, rfl⟩))
    go_round
    case rel => exact ⟨k + 1, by go_num, by omega, by omega, HYE.out HI.out⟩
    case measure => simp [intOf]; omega
  ·go_wp2
   go_ret
   obtain rfl : k = s.size := by omega
   exact ⟨ret_b (name_yes (by omega) (by omega) HF.out (fun j hj h => HA.out j hj h hj)).symm, rfl⟩

end Go.Proofs.YtgjingleolhkbaaGreatDoor

/- Texts there and back: what is printed is read as it was, and what was read is printed word by word. -/
namespace Go.Proofs.YtgjingleolhkbaaGreatDoor
namespace X
set_option linter.unusedVariables false
set_option linter.unusedSimpArgs false

/-! ### Words that a line may have -/

/-! ### Registers -/
theorem reg_some {w : By} {a : Int} (h : reg w = some a) : 114 :: Go.Lib.itoa a = w ∧ 0 ≤ a ∧ a < 10 := by
 unfold reg at h
 split at h
 ·rename_i c d
  split at h
  ·rename_i hc
   obtain ⟨rfl, hd⟩ := hc
   simp [dg] at hd
   injection h with h
   subst h
   obtain ⟨k, hk⟩ : ∃ k : Nat, (d.toNat : Int) - 48 = k := ⟨d.toNat - 48, by omega⟩
   rw [hk, Go.Lib.itoa_nonneg, Go.Lib.decDigits_one (by omega)]
   refine ⟨?_, by omega, by omega⟩
   congr 1
   rw [show 48 + k = d.toNat by omega]
   simp
  ·cases h
 ·cases h

/-! ### Instructions -/
def shapes : List By := [[], [65, 78], [65, 66], [65, 66, 78], [65, 78, 66], [65, 64, 78], [64], [65, 64], [65], [78]]
theorem row_shape : ∀ op : Fin 34, (row op.val).2 ∈ shapes := by decide
def mnemOk (m : By) : Bool := decide (m.getLast? ≠ some 58) && (decide (m ≠ wGlobal) && (decide (m ≠ wThread) && decide (m ≠ wWords)))
theorem row_mnem : ∀ op : Fin 34, (row op.val).1 ≠ [] → mnemOk (row op.val).1 = true ∧ opOf (row op.val).1 = some op.val ∧ (∀ c ∈ (row op.val).1, c ≠ 32 ∧ c ≠ 35 ∧ c ≠ 10) := by decide +kernel
theorem opOf_some {f : By} {k : Nat} (h : opOf f = some k) : k < 34 ∧ (row k).1 = f := by
 unfold opOf at h
 rw [List.findIdx?_eq_some_iff_getElem] at h
 obtain ⟨hk, h1, -⟩ := h
 rw [rows_length] at hk
 refine ⟨hk, ?_⟩
 simp only [decide_eq_true_eq] at h1
 rw [← h1, row]
 simp [List.getD, rows_length, hk]
theorem rowOf_some {op : Int} {r : By × By} (h : rowOf op = some r) : 0 ≤ op ∧ op < 34 ∧ r = row op.toNat ∧ r.1 ≠ [] := by
 unfold rowOf at h
 split at h
 ·rename_i h1; injection h with h; subst h; exact ⟨h1.1, h1.2.1, rfl, h1.2.2⟩
 ·cases h
theorem insOk_split {t : It} (h : insOk t = true) : 0 ≤ t.op ∧ t.op < 34 ∧ (row t.op.toNat).1 ≠ [] ∧ (has (row t.op.toNat).2 64 = decide (t.name ≠ [])) ∧ (t.name = [] ∨ name t.name = true) ∧ (t.a = 0 ∨ has (row t.op.toNat).2 65 = true) ∧ (t.b = 0 ∨ has (row t.op.toNat).2 66 = true) ∧ (t.n = 0 ∨ has (row t.op.toNat).2 78 = true) ∧ isReg t.a = true ∧ isReg t.b = true ∧ numOk t.op t.n = true := by
 unfold insOk at h
 split at h
 ·cases h
 ·rename_i r hr
  obtain ⟨h1, h2, rfl, h3⟩ := rowOf_some hr
  simp only [Bool.and_eq_true, Bool.or_eq_true, decide_eq_true_eq] at h
  exact ⟨h1, h2, h3, h⟩
def fitsIt (t : It) : Prop := fits t.n ∧ ∀ n ∈ t.words, fits n
theorem isReg_iff {a : Int} : isReg a = true ↔ 0 ≤ a ∧ a < 8 := by simp [isReg]

theorem setAll_said {t0 t : It} {b : By} {ws : List By} (hs : b ∈ shapes) (h : setAll t0 b ws = some t) : ws = b.map (operand t) ∧ t.op = t0.op ∧ t.kind = t0.kind ∧ t.words = t0.words := by
 simp only [shapes, List.mem_cons, List.not_mem_nil, or_false] at hs
 have e0 : ∀ {ws : List By}, setAll t0 [] ws = some t → ws = [] := by intro ws h; cases ws with | nil => rfl | cons => simp [setAll] at h
 rcases hs with rfl | rfl | rfl | rfl | rfl | rfl | rfl | rfl | rfl | rfl <;>
  (rcases ws with _ | ⟨w0, _ | ⟨w1, _ | ⟨w2, _ | ⟨w3, ws⟩⟩⟩⟩ <;> simp [setAll, set, Option.bind_eq_some_iff] at h)
 all_goals first | subst h | (obtain ⟨y0, h0, h⟩ := h; subst h) | (obtain ⟨xy0, ⟨y0, h0, rfl⟩, h⟩ := h; first | subst h | (obtain ⟨y1, h1, h⟩ := h; subst h) | (obtain ⟨xy1, ⟨y1, h1, rfl⟩, h⟩ := h; first | subst h | (obtain ⟨y2, h2, h⟩ := h; subst h) | (obtain ⟨xy2, ⟨y2, h2, rfl⟩, h⟩ := h; fail)))
 all_goals try (obtain ⟨z0, h0, rfl⟩ := h0)
 all_goals simp [operand]
 all_goals first
  | exact ⟨(reg_some h0).1.symm, (num_some h1).symm⟩
  | exact ⟨(reg_some h0).1.symm, (reg_some h1).1.symm⟩
  | exact ⟨(reg_some h0).1.symm, (reg_some h1).1.symm, (num_some h2).symm⟩
  | exact ⟨(reg_some h0).1.symm, (num_some h1).symm, (reg_some h2).1.symm⟩
  | exact (reg_some h0).1.symm
  | exact (num_some h0).symm

theorem nums_some : ∀ {ws : List By} {l : List Int}, nums ws = some l → ws = l.map Go.Lib.itoa ∧ ∀ n ∈ l, fits n
 | [], l, h => by simp [nums] at h; subst h; simp
 | w :: ws, l, h => by
  simp only [nums, Option.bind_eq_some_iff, Option.map_eq_some_iff] at h
  obtain ⟨n, h1, r, h2, rfl⟩ := h
  obtain ⟨h3, h4⟩ := nums_some h2
  refine ⟨by simp [← num_some h1, h3], fun m hm => ?_⟩
  rcases List.mem_cons.1 hm with rfl | hm
  ·exact num_fits h1
  ·exact h4 m hm

theorem itOk_ins {t : It} (h : itOk t = true) (hk : t.kind = 2) : insOk t = true ∧ t.words = [] := by
 unfold itOk at h
 rw [hk] at h
 simpa using h
theorem itOk_cases {t : It} (h : itOk t = true) : (t.kind = 2 ∧ insOk t = true ∧ t.words = []) ∨ (t.kind = 3 ∧ name t.name = true ∧ t.words ≠ [] ∧ t.words.length ≤ 4096 ∧ zeroIns t = true) ∨ ((t.kind = 1 ∨ t.kind = 4 ∨ t.kind = 5) ∧ name t.name = true ∧ t.words = [] ∧ zeroIns t = true) := by
 unfold itOk at h
 split at h
 ·rename_i hk; simp only [Bool.and_eq_true, decide_eq_true_eq] at h; exact .inr (.inr ⟨hk, h⟩)
 ·split at h
  ·rename_i hk
   simp only [Bool.and_eq_true, decide_eq_true_eq] at h
   exact .inr (.inl ⟨hk, h.1, (fun e => by rw [e] at h; simp at h), h.2.2⟩)
  ·split at h
   ·rename_i hk; simp only [Bool.and_eq_true, decide_eq_true_eq] at h; exact .inl ⟨hk, h⟩
   ·cases h

theorem dropLast_colon {f : By} (h : f.getLast? = some 58) : f.dropLast ++ [58] = f := by
 have hne : f ≠ [] := by rintro rfl; simp at h
 have := List.dropLast_concat_getLast hne
 rw [List.getLast?_eq_some_getLast hne] at h
 injection h with h
 rw [h] at this
 exact this
theorem said_read {ws : List By} {t : It} (h : read ws = some t) : said t = ws ∧ itOk t = true := by
 unfold read at h
 cases ws with
 | nil => cases h
 | cons f r =>
  simp only [Option.bind_eq_some_iff] at h
  obtain ⟨t', h1, h2⟩ := h
  split at h2
  ·rename_i hok
   injection h2 with h2
   subst h2
   refine ⟨?_, hok⟩
   unfold take at h1
   split at h1
   ·rename_i hl
    split at h1
    ·rename_i hr; injection h1 with h1; subst h1 hr; simp [said, dropLast_colon hl]
    ·cases h1
   ·split at h1
    ·rename_i hf
     unfold takeNamed at h1
     split at h1
     ·injection h1 with h1; subst h1 hf; simp [said]
     ·cases h1
    ·split at h1
     ·rename_i hf
      unfold takeNamed at h1
      split at h1
      ·injection h1 with h1; subst h1 hf; simp [said]
      ·cases h1
     ·split at h1
      ·rename_i hf
       unfold takeWords at h1
       split at h1
       ·cases h1
       ·simp only [Option.map_eq_some_iff] at h1
        obtain ⟨l, hl, rfl⟩ := h1
        obtain ⟨e, -⟩ := nums_some hl
        subst hf e
        simp [said]
      ·unfold takeIns at h1
       split at h1
       ·cases h1
       ·rename_i op hop
        obtain ⟨ho, hm⟩ := opOf_some hop
        split at h1
        ·obtain ⟨e1, e2, e3, -⟩ := setAll_said (row_shape ⟨op, ho⟩) h1
         simp only at e1 e2 e3
         have : said t' = saidIns t' := by unfold said; rw [e3]; rfl
         rw [this, saidIns, e2]
         simp only [Int.toNat_natCast]
         rw [hm, ← e1]
        ·cases h1
  ·cases h2
theorem read_fits {ws : List By} {t : It} (h : read ws = some t) : fitsIt t := by
 obtain ⟨hs, hok⟩ := said_read h
 unfold read at h
 cases ws with
 | nil => cases h
 | cons f r =>
  simp only [Option.bind_eq_some_iff] at h
  obtain ⟨t', h1, h2⟩ := h
  split at h2
  ·injection h2 with h2
   subst h2
   unfold take at h1
   split at h1
   ·split at h1
    ·injection h1 with h1; subst h1; exact ⟨by constructor <;> simp, by simp⟩
    ·cases h1
   ·have hnm : ∀ k, takeNamed k r = some t' → fitsIt t' := fun k h1 => by
     unfold takeNamed at h1
     split at h1
     ·injection h1 with h1; subst h1; exact ⟨by constructor <;> simp, by simp⟩
     ·cases h1
    split at h1
    ·exact hnm _ h1
    ·split at h1
     ·exact hnm _ h1
     ·split at h1
      ·unfold takeWords at h1
       split at h1
       ·cases h1
       ·simp only [Option.map_eq_some_iff] at h1
        obtain ⟨l, hl, rfl⟩ := h1
        exact ⟨by constructor <;> simp, (nums_some hl).2⟩
      ·unfold takeIns at h1
       split at h1
       ·cases h1
       ·rename_i op hop
        split at h1
        ·obtain ⟨ho, -⟩ := opOf_some hop
         have hsh := row_shape ⟨op, ho⟩
         simp only at hsh
         obtain ⟨-, -, -, e4⟩ := setAll_said hsh h1
         refine ⟨?_, by rw [e4]; simp⟩
         clear e4 hs hok hnm
         simp only [shapes, List.mem_cons, List.not_mem_nil, or_false] at hsh
         generalize (row op).2 = b at h1 hsh
         rcases hsh with rfl | rfl | rfl | rfl | rfl | rfl | rfl | rfl | rfl | rfl <;>
          (rcases r with _ | ⟨w0, _ | ⟨w1, _ | ⟨w2, _ | ⟨w3, ws⟩⟩⟩⟩ <;> simp [setAll, set, Option.bind_eq_some_iff] at h1)
         all_goals first | subst h1 | (obtain ⟨y0, h0, h1⟩ := h1; subst h1) | (obtain ⟨xy0, ⟨y0, h0, rfl⟩, h1⟩ := h1; first | subst h1 | (obtain ⟨y1, h3, h1⟩ := h1; subst h1) | (obtain ⟨xy1, ⟨y1, h3, rfl⟩, h1⟩ := h1; first | subst h1 | (obtain ⟨y2, h4, h1⟩ := h1; subst h1) | (obtain ⟨xy2, ⟨y2, h4, rfl⟩, h1⟩ := h1; fail)))
         all_goals try (obtain ⟨z0, h0, rfl⟩ := h0)
         all_goals first
          | (exact ⟨(by simp : (-9223372036854775808 : Int) ≤ 0), (by simp : (0 : Int) ≤ 9223372036854775807)⟩)
          | exact num_fits h3
          | exact num_fits h4
          | exact num_fits h0
        ·cases h1
  ·cases h2

/-! ### Cutting -/
theorem fieldsGo_app : ∀ (w cur l : By), (∀ c ∈ w, c ≠ 32) → fieldsGo cur (w ++ l) = fieldsGo (cur ++ w) l
 | [], cur, l, _ => by simp
 | c :: w, cur, l, h => by
  rw [List.cons_append, fieldsGo, if_neg (h c (by simp)), fieldsGo_app w _ l (fun d hd => h d (by simp [hd]))]
  simp
theorem ahead_all {l : By} (h : ∀ c ∈ l, c ≠ 35) : ahead l = l := by
 induction l with
 | nil => rfl
 | cons c l ih =>
  have h1 := h c (by simp)
  have := ih (fun d hd => h d (by simp [hd]))
  unfold ahead at this ⊢
  rw [List.takeWhile_cons]
  simp [h1, this]
theorem lines_app : ∀ (l r : By), (∀ c ∈ l, c ≠ 10) → lines (l ++ 10 :: r) = l :: lines r
 | [], r, _ => by simp [lines]
 | c :: l, r, h => by
  have h1 := h c (by simp)
  have := lines_app l r (fun d hd => h d (by simp [hd]))
  rw [List.cons_append, lines, if_neg h1, this]
theorem lines_one : ∀ (l : By), (∀ c ∈ l, c ≠ 10) → lines l = [l]
 | [], _ => rfl
 | c :: l, h => by
  have h1 := h c (by simp)
  have := lines_one l (fun d hd => h d (by simp [hd]))
  rw [lines, if_neg h1, this]
theorem wl_nil : wl [] = [] := by decide
theorem reads_some : ∀ {ws : List (List By)} {l : List It}, reads ws = some l → ws = l.map said ∧ (∀ t ∈ l, itOk t = true) ∧ ∀ t ∈ l, fitsIt t
 | [], l, h => by simp [reads] at h; subst h; simp
 | w :: ws, l, h => by
  simp only [reads, Option.bind_eq_some_iff, Option.map_eq_some_iff] at h
  obtain ⟨t, h1, r, h2, rfl⟩ := h
  obtain ⟨h3, h4, h5⟩ := reads_some h2
  obtain ⟨h6, h7⟩ := said_read h1
  refine ⟨by simp [h6, h3], ?_, ?_⟩
  ·intro x hx
   rcases List.mem_cons.1 hx with rfl | hx
   ·exact h7
   ·exact h4 x hx
  ·intro x hx
   rcases List.mem_cons.1 hx with rfl | hx
   ·exact read_fits h1
   ·exact h5 x hx
theorem itsOk_iff {l : List It} : itsOk l = true ↔ l.length ≤ 20000 ∧ ∀ t ∈ l, itOk t = true := by simp [itsOk]
/-! ### How long a text is -/
theorem fieldsGo_len : ∀ (l cur : By), ((fieldsGo cur l).map fun w => w.length + 1).sum ≤ cur.length + l.length + 1
 | [], cur => by unfold fieldsGo; split <;> simp
 | c :: l, cur => by
  unfold fieldsGo
  split
  ·split
   ·have := fieldsGo_len l []
    simp at this ⊢; omega
   ·have := fieldsGo_len l []
    simp at this ⊢; omega
  ·have := fieldsGo_len l (cur ++ [c])
   simp at this ⊢; omega
theorem parse_ok {s : By} {l : List It} {z : Nat} (h : parse s = (l, z)) : (z = 0 ∨ l = []) ∧ (z = 0 ∨ z = 2 ∨ z = 8) ∧ l.length ≤ 20000 ∧ (∀ t ∈ l, itOk t = true) ∧ ∀ t ∈ l, fitsIt t := by
 unfold parse at h
 split at h
 ·cases h; simp
 ·split at h
  ·cases h; simp
  ·rename_i l' hr
   split at h
   ·rename_i hl
    cases h
    obtain ⟨h1, h2, h3⟩ := reads_some hr
    exact ⟨.inl rfl, .inl rfl, hl, h2, h3⟩
   ·cases h; simp
theorem reads_app : ∀ (a b : List (List By)), reads (a ++ b) = (reads a).bind fun x => (reads b).map fun y => x ++ y
 | [], b => by simp [reads]
 | w :: a, b => by
  rw [List.cons_append, reads, reads, reads_app a b]
  cases read w with
  | none => rfl
  | some t =>
   cases reads a with
   | none => rfl
   | some x => cases reads b with
    | none => rfl
    | some y => rfl
theorem reads_length : ∀ {ws : List (List By)} {l : List It}, reads ws = some l → l.length = ws.length := fun h => by rw [(reads_some h).1]; simp

end X
end Go.Proofs.YtgjingleolhkbaaGreatDoor

/- Assembly texts, as plain functions of bytes. -/
import Derived.Lib.ParseIntB
import Derived.Lib.IndexMore
import Derived.Lib.ItoaMem
import Derived.Lib.ItoaLen
import Derived.Lib.Join
namespace Go.Proofs.YtgjingleolhkbaaGreatDoor
namespace X
set_option linter.unusedVariables false
set_option linter.unusedSimpArgs false

abbrev By := List UInt8
def lt (n : Nat) : Bool := (decide (97 ≤ n) && decide (n ≤ 122)) || ((decide (65 ≤ n) && decide (n ≤ 90)) || decide (n = 95))
def dg (n : Nat) : Bool := decide (48 ≤ n) && decide (n ≤ 57)
def inn (n : Nat) : Bool := lt n || (dg n || decide (n = 46))
def first (l : By) : Nat := match l with | [] => 0 | c :: _ => c.toNat
/-- What may be a name. -/
def name (l : By) : Bool := decide (1 ≤ l.length) && (decide (l.length ≤ 28) && (lt (first l) && l.tail.all (fun c => inn c.toNat)))

/-- An item. -/
structure It where
  kind : Int
  name : By
  op : Int
  a : Int
  b : Int
  n : Int
  words : List Int
deriving DecidableEq
def noIt : It := ⟨0, [], 0, 0, 0, 0, []⟩

def rows : List (By × By) := [([], []), ([109, 111, 118, 105], [65, 78]), ([109, 111, 118], [65, 66]), ([97, 100, 100], [65, 66]), ([115, 117, 98], [65, 66]), ([109, 117, 108], [65, 66]), ([100, 105, 118], [65, 66]), ([114, 101, 109], [65, 66]), ([97, 110, 100], [65, 66]), ([111, 114], [65, 66]), ([120, 111, 114], [65, 66]), ([115, 104, 108], [65, 66]), ([115, 97, 114], [65, 66]), ([101, 113], [65, 66]), ([110, 101], [65, 66]), ([108, 116], [65, 66]), ([108, 101], [65, 66]), ([108, 100], [65, 66, 78]), ([115, 116], [65, 78, 66]), ([97, 100, 114], [65, 64, 78]), ([106, 109, 112], [64]), ([106, 122], [65, 64]), ([106, 110, 122], [65, 64]), ([99, 97, 108, 108], [64]), ([114, 101, 116], []), ([], []), ([], []), ([], []), ([120, 99, 104, 103], [65, 78, 66]), ([120, 97, 100, 100], [65, 78, 66]), ([102, 101, 110, 99, 101], []), ([111, 117, 116], [65]), ([104, 97, 108, 116], []), ([116, 114, 97, 112], [78])]
theorem rows_length : rows.length = 34 := by decide
def row (op : Nat) : By × By := rows.getD op ([], [])
def rowOf (op : Int) : Option (By × By) := if 0 ≤ op ∧ op < 34 ∧ (row op.toNat).1 ≠ [] then some (row op.toNat) else none
def opOf (m : By) : Option Nat := rows.findIdx? (fun r => decide (r.1 = m))
def isReg (r : Int) : Bool := decide (0 ≤ r) && decide (r < 8)
def numOk (op n : Int) : Bool := if op = 1 then true else if op = 33 then decide (0 ≤ n) && decide (n ≤ 127) else decide (-2147483648 ≤ n) && decide (n ≤ 2147483647)
def has (b : By) (c : UInt8) : Bool := b.contains c
def insOk (t : It) : Bool := match rowOf t.op with
  | none => false
  | some r => decide (has r.2 64 = decide (t.name ≠ [])) && ((decide (t.name = []) || name t.name) && ((decide (t.a = 0) || has r.2 65) && ((decide (t.b = 0) || has r.2 66) && ((decide (t.n = 0) || has r.2 78) && (isReg t.a && (isReg t.b && numOk t.op t.n))))))
def zeroIns (t : It) : Bool := decide (t.op = 0 ∧ t.a = 0 ∧ t.b = 0 ∧ t.n = 0)
/-- Whether an item may be. -/
def itOk (t : It) : Bool :=
  if t.kind = 1 ∨ t.kind = 4 ∨ t.kind = 5 then name t.name && (decide (t.words = []) && zeroIns t)
  else if t.kind = 3 then name t.name && (decide (1 ≤ t.words.length) && (decide (t.words.length ≤ 4096) && zeroIns t))
  else if t.kind = 2 then insOk t && decide (t.words = [])
  else false
def itsOk (l : List It) : Bool := decide (l.length ≤ 20000) && l.all itOk

/-! ### Words -/
def num (w : By) : Option Int := match Go.Lib.parseIntB 64 w with
  | .ok n => if Go.Lib.itoa n = w then some n else none
  | _ => none
def reg (w : By) : Option Int := match w with
  | [c, d] => if c = 114 ∧ dg d.toNat = true then some ((d.toNat : Int) - 48) else none
  | _ => none
def set (t : It) (c : UInt8) (w : By) : Option It :=
  if c = 65 then (reg w).map fun x => { t with a := x }
  else if c = 66 then (reg w).map fun x => { t with b := x }
  else if c = 78 then (num w).map fun x => { t with n := x }
  else if c = 64 then some { t with name := w }
  else none
def setAll (t : It) : By → List By → Option It
  | [], [] => some t
  | c :: r, w :: ws => (set t c w).bind fun t' => setAll t' r ws
  | _, _ => none
def takeIns (f : By) (r : List By) : Option It := match opOf f with
  | none => none
  | some op => if r.length = (row op).2.length then setAll ⟨2, [], op, 0, 0, 0, []⟩ (row op).2 r else none
def wGlobal : By := [46, 103, 108, 111, 98, 97, 108]
def wThread : By := [46, 116, 104, 114, 101, 97, 100]
def wWords : By := [46, 119, 111, 114, 100, 115]
def nums : List By → Option (List Int)
  | [] => some []
  | w :: ws => (num w).bind fun n => (nums ws).map fun l => n :: l
def takeNamed (k : Int) (r : List By) : Option It := match r with
  | [x] => some ⟨k, x, 0, 0, 0, 0, []⟩
  | _ => none
def takeWords (r : List By) : Option It := match r with
  | [] => none
  | x :: ns => (nums ns).map fun l => ⟨3, x, 0, 0, 0, 0, l⟩
def take (f : By) (r : List By) : Option It :=
  if f.getLast? = some 58 then (if r = [] then some ⟨1, f.dropLast, 0, 0, 0, 0, []⟩ else none)
  else if f = wGlobal then takeNamed 4 r
  else if f = wThread then takeNamed 5 r
  else if f = wWords then takeWords r
  else takeIns f r
/-- The item of a line's words. -/
def read (ws : List By) : Option It := match ws with
  | [] => none
  | f :: r => (take f r).bind fun t => if itOk t = true then some t else none

def fieldsGo : By → By → List By
  | cur, [] => if cur = [] then [] else [cur]
  | cur, c :: l => if c = 32 then (if cur = [] then fieldsGo [] l else cur :: fieldsGo [] l) else fieldsGo (cur ++ [c]) l
def fields (l : By) : List By := fieldsGo [] l
def ahead (l : By) : By := l.takeWhile (fun c => !decide (c = 35))
def wordsOf (l : By) : List By := fields (ahead l)
def lines : By → List By
  | [] => [[]]
  | c :: l => if c = 10 then [] :: lines l else match lines l with
    | [] => [[c]]
    | x :: xs => (c :: x) :: xs
/-- The words of each line that has any. -/
def wl (s : By) : List (List By) := ((lines s).map wordsOf).filter fun ws => decide (ws ≠ [])
def reads : List (List By) → Option (List It)
  | [] => some []
  | ws :: r => (read ws).bind fun t => (reads r).map fun l => t :: l
/-- What asmtext.Parse answers. -/
def parse (s : By) : List It × Nat :=
  if 200000 < s.length then ([], 8) else match reads (wl s) with
    | none => ([], 2)
    | some l => if l.length ≤ 20000 then (l, 0) else ([], 2)

/-! ### Printing -/
def operand (t : It) (c : UInt8) : By := if c = 65 then 114 :: Go.Lib.itoa t.a else if c = 66 then 114 :: Go.Lib.itoa t.b else if c = 78 then Go.Lib.itoa t.n else t.name
def saidIns (t : It) : List By := (row t.op.toNat).1 :: (row t.op.toNat).2.map (operand t)
def said (t : It) : List By :=
  if t.kind = 1 then [t.name ++ [58]]
  else if t.kind = 4 then [wGlobal, t.name]
  else if t.kind = 5 then [wThread, t.name]
  else if t.kind = 3 then wWords :: t.name :: t.words.map Go.Lib.itoa
  else saidIns t
def lineOf (t : It) : By := Go.Lib.join (said t) [32] ++ [10]
def text (l : List It) : By := l.flatMap lineOf
/-- What asmtext.Print answers. -/
def print (l : List It) : By × Nat := if itsOk l = true then (if 200000 < (text l).length then ([], 8) else (text l, 0)) else ([], 1)

/-! ### Numbers there and back -/
theorem foldl_ge : ∀ (t : By) (u : Nat), u ≤ t.foldl (fun u c => u * 10 + (c.toNat - 48)) u
  | [], u => Nat.le_refl _
  | c :: t, u => Nat.le_trans (by omega) (foldl_ge t (u * 10 + (c.toNat - 48)))
def pd (c : UInt8) : Bool := dg c.toNat
theorem parseU : ∀ (t : By) (acc : Nat), t.all pd = true → acc < 18446744073709551616 → Go.Lib.parseUintM 18446744073709551615 acc t = if t.foldl (fun u c => u * 10 + (c.toNat - 48)) acc < 18446744073709551616 then .ok (t.foldl (fun u c => u * 10 + (c.toNat - 48)) acc) else .range
  | [], acc, _, h => by rw [List.foldl_nil, if_pos h]; rfl
  | c :: t, acc, h, ha => by
    simp only [List.all_cons, Bool.and_eq_true, pd, dg, decide_eq_true_eq] at h
    have hge := foldl_ge t (acc * 10 + (c.toNat - 48))
    unfold Go.Lib.parseUintM
    rw [if_pos h.1, List.foldl_cons]
    by_cases h1 : 1844674407370955162 ≤ acc
    · rw [if_pos h1, if_neg (by omega)]
    · rw [if_neg h1]
      by_cases h2 : 18446744073709551615 < acc * 10 + (c.toNat - 48)
      · rw [if_pos h2, if_neg (by omega)]
      · rw [if_neg h2]
        exact parseU t _ (by simpa [pd, dg] using h.2) (by omega)
theorem u8_toNat (k : Nat) (h : k < 256) : (UInt8.ofNat k).toNat = k := by simp; omega
theorem dec_digits (u : Nat) : (Go.Lib.decDigits u).all pd = true ∧ (Go.Lib.decDigits u).foldl (fun u c => u * 10 + (c.toNat - 48)) 0 = u ∧ Go.Lib.decDigits u ≠ [] := by
  induction u using Nat.strongRecOn with
  | _ u ih =>
    rw [Go.Lib.decDigits]
    by_cases h : u < 10
    · rw [dif_pos h]
      have := u8_toNat (48 + u) (by omega)
      refine ⟨?_, ?_, by simp⟩
      · simp only [List.all_cons, List.all_nil, Bool.and_true, pd, dg, this]; simp; omega
      · simp only [List.foldl_cons, List.foldl_nil, this]; omega
    · rw [dif_neg h]
      obtain ⟨h1, h2, h3⟩ := ih (u / 10) (by omega)
      have := u8_toNat (48 + u % 10) (by omega)
      refine ⟨?_, ?_, by simp⟩
      · rw [List.all_append, h1]
        simp only [List.all_cons, List.all_nil, Bool.and_true, Bool.true_and, pd, dg, this]; simp; omega
      · rw [List.foldl_append, h2]
        simp only [List.foldl_cons, List.foldl_nil, this]; omega
def fits (n : Int) : Prop := -9223372036854775808 ≤ n ∧ n ≤ 9223372036854775807
theorem parse_itoa {n : Int} (h : fits n) : Go.Lib.parseIntB 64 (Go.Lib.itoa n) = .ok n := by
  obtain ⟨h1, h2⟩ := h
  unfold Go.Lib.itoa
  by_cases hn : n < 0
  · rw [if_pos hn]
    obtain ⟨d1, d2, d3⟩ := dec_digits n.natAbs
    have hp := parseU _ 0 d1 (by omega)
    rw [d2, if_pos (by omega)] at hp
    unfold Go.Lib.parseIntB Go.Lib.parseUintB
    simp only [show (45 : UInt8).toNat = 45 from rfl, or_true, if_true]
    rw [if_neg d3, show (2 ^ 64 - 1 : Nat) = 18446744073709551615 by decide, hp]
    simp only [not_true_eq_false, false_and, if_false, true_and, if_true]
    rw [if_neg (by have : (2 ^ (64 - 1) : Nat) = 9223372036854775808 := by decide
                   omega)]
    congr 1
    omega
  · rw [if_neg hn]
    obtain ⟨d1, d2, d3⟩ := dec_digits n.toNat
    have hp := parseU _ 0 d1 (by omega)
    rw [d2, if_pos (by omega)] at hp
    generalize hD : Go.Lib.decDigits n.toNat = D at *
    obtain ⟨c, r, rfl⟩ : ∃ c r, D = c :: r := by cases D with | nil => exact absurd rfl d3 | cons c r => exact ⟨c, r, rfl⟩
    have hc : 48 ≤ c.toNat ∧ c.toNat ≤ 57 := by simp [pd, dg] at d1; exact d1.1
    unfold Go.Lib.parseIntB Go.Lib.parseUintB
    simp only [show ¬ c.toNat = 43 by omega, show ¬ c.toNat = 45 by omega, or_self, if_false, false_and, not_false_eq_true, true_and]
    rw [if_neg (by simp), show (2 ^ 64 - 1 : Nat) = 18446744073709551615 by decide, hp]
    simp only
    rw [if_neg (by have : (2 ^ (64 - 1) : Nat) = 9223372036854775808 := by decide
                   omega)]
    congr 1
    omega
theorem num_itoa {n : Int} (h : fits n) : num (Go.Lib.itoa n) = some n := by
  unfold num; rw [parse_itoa h]; simp
theorem num_some {w : By} {n : Int} (h : num w = some n) : Go.Lib.itoa n = w := by
  unfold num at h
  split at h
  · split at h
    · cases h; assumption
    · cases h
  · cases h
theorem parse_fits {w : By} {n : Int} (h : Go.Lib.parseIntB 64 w = .ok n) : fits n := by
  unfold Go.Lib.parseIntB at h
  have hp : (2 ^ (64 - 1) : Nat) = 9223372036854775808 := by decide
  cases w with
  | nil => cases h
  | cons c r =>
    simp only at h
    split at h
    · cases h
    · cases h
    · rename_i u hu
      rw [hp] at h
      split at h
      · cases h
      · split at h
        · cases h
        · rename_i h1 h2
          injection h with h
          unfold fits
          by_cases hc : c.toNat = 45
          · simp [hc] at h h1 h2; omega
          · simp [hc] at h h1 h2; omega
theorem num_fits {w : By} {n : Int} (h : num w = some n) : fits n := by
  unfold num at h
  split at h
  · rename_i m hm
    split at h
    · cases h; exact parse_fits hm
    · cases h
  · cases h

end X
end Go.Proofs.YtgjingleolhkbaaGreatDoor

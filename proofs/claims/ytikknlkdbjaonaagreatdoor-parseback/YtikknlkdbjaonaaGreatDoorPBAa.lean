/- What a source's tokens are, as plain functions of its bytes. -/
import Derived.Lib.ParseIntB
import Derived.Lib.IndexMore
import Derived.Test.YtikknlkdbjaonaaGreatDoorProg
import Derived.WalkKit
import Derived.WalkSpells
import Derived.WalkLawsBesides
import Derived.OwnWalk
import Derived.Deep.LoopGhost
import Derived.Shelf.Abstract
import Derived.Deep.QuietTactic
import Derived.BigQuiet
namespace Go.Proofs.YtikknlkdbjaonaaGreatDoor
namespace X

abbrev By := List UInt8
def lt (n : Nat) : Bool := (decide (97 ≤ n) && decide (n ≤ 122)) || ((decide (65 ≤ n) && decide (n ≤ 90)) || decide (n = 95))
def dg (n : Nat) : Bool := decide (48 ≤ n) && decide (n ≤ 57)
def inn (n : Nat) : Bool := lt n || dg n
def pl (c : UInt8) : Bool := lt c.toNat
def pd (c : UInt8) : Bool := dg c.toNat
def pin (c : UInt8) : Bool := inn c.toNat

theorem lt_dg {n : Nat} (h : lt n = true) : dg n = false := by simp [lt, dg] at *; omega
theorem inn_of_lt {n : Nat} (h : lt n = true) : inn n = true := by simp [inn, h]
theorem inn_of_dg {n : Nat} (h : dg n = true) : inn n = true := by simp [inn, h]

def words : List By := [[108, 111, 99, 107], [116, 105, 99, 107, 101, 116], [113, 117, 101, 117, 101], [101, 120, 116, 101, 114, 110], [105, 110, 116], [98, 121], [114, 97, 110, 107], [116, 104, 114, 101, 97, 100], [118, 97, 114], [105, 102], [101, 108, 115, 101], [119, 104, 105, 108, 101], [119, 105, 116, 104], [112, 114, 105, 110, 116], [114, 101, 116, 117, 114, 110], [103, 101, 116], [112, 117, 116]]
def isWord (l : By) : Bool := words.contains l

def first (l : By) : Nat := match l with | [] => 0 | c :: _ => c.toNat
/-- What may be a name. -/
def name (l : By) : Bool := decide (l ≠ []) && decide (l.length ≤ 12) && lt (first l) && l.all pin && !isWord l

def span (p : UInt8 → Bool) (l : By) : Nat := (l.takeWhile p).length
theorem span_le (p : UInt8 → Bool) (l : By) : span p l ≤ l.length := List.Sublist.length_le (List.takeWhile_sublist p)
theorem takeWhile_eq (p : UInt8 → Bool) (l : By) : l.takeWhile p = l.take (span p l) := by
  induction l with
  | nil => rfl
  | cons c l ih =>
    unfold span at *
    by_cases h : p c = true
    · simp [h]; exact ih
    · simp [h]

def numV (l : By) : Nat := l.foldl (fun u c => u * 10 + (c.toNat - 48)) 0
def numOk (t : By) : Bool := decide (numV t < 9223372036854775808) && (decide (t = [48]) || decide (first t ≠ 48))
def number (l : By) : Option (Nat × Nat × Nat) := if numOk (l.takeWhile pd) = true ∧ span pin l ≤ span pd l then some (1, span pd l, numV (l.takeWhile pd)) else none
def wordOrName (l : By) : Option (Nat × Nat × Nat) := if isWord (l.takeWhile pin) = true then some (3, span pin l, 0) else if name (l.takeWhile pin) = true then some (2, span pin l, 0) else none
def note (l : By) : Nat := span (fun c => decide (c.toNat ≠ 10)) l
def sgn (x : Nat) : Bool := [43, 45, 42, 37, 94, 40, 41, 123, 125, 91, 93, 59, 44].contains x
/-- What a source begins with: its kind, how many bytes, its number. -/
def step (l : By) : Option (Nat × Nat × Nat) :=
  let x := first l
  let y := first (l.drop 1)
  if x = 32 ∨ x = 9 ∨ x = 10 then some (0, 1, 0)
  else if x = 38 ∨ x = 124 then some (4, if y = x then 2 else 1, 0)
  else if x = 60 ∨ x = 62 then some (4, if y = x ∨ y = 61 then 2 else 1, 0)
  else if x = 61 ∨ x = 33 then some (4, if y = 61 then 2 else 1, 0)
  else if x = 47 then (if y = 47 then some (0, note l, 0) else some (4, 1, 0))
  else if sgn x = true then some (4, 1, 0)
  else if dg x = true then number l
  else wordOrName l

structure Tok where
  kind : Nat
  text : By
  n : Nat
  at' : Nat
  deriving DecidableEq

def lexF : Nat → Nat → By → Option (List Tok)
  | _, _, [] => some []
  | 0, _, _ :: _ => none
  | f + 1, i, c :: l => match step (c :: l) with
    | none => none
    | some (k, n, v) => (lexF f (i + n) ((c :: l).drop n)).map fun ts => if k = 0 then ts else ⟨k, (c :: l).take n, v, i⟩ :: ts

/-- The tokens, and what is told beside them. -/
def lex (l : By) : List Tok × Nat :=
  if 20000 < l.length then ([], 8) else match lexF l.length 0 l with
    | none => ([], 2)
    | some ts => if 4000 < ts.length + 1 then ([], 8) else (ts ++ [⟨0, [], 0, l.length⟩], 0)

/-! ### How much is taken -/
theorem span_pos {p : UInt8 → Bool} {c : UInt8} {l : By} (h : p c = true) : 1 ≤ span p (c :: l) := by simp [span, h]
theorem step_size {l : By} (hl : l ≠ []) {k n v : Nat} (h : step l = some (k, n, v)) : 1 ≤ n ∧ n ≤ l.length := by
  obtain ⟨c, l, rfl⟩ : ∃ c r, l = c :: r := by cases l with | nil => exact absurd rfl hl | cons c r => exact ⟨c, r, rfl⟩
  have two : ∀ m, first ((c :: l).drop 1) = m → m ≠ 0 → 2 ≤ (c :: l).length := fun m h1 h2 => by
    cases l with
    | nil => simp [first] at h1; omega
    | cons d r => simp
  have one : 1 ≤ (c :: l).length := by simp
  have hx : first (c :: l) = c.toNat := rfl
  unfold step at h
  simp only at h
  split at h
  · simp at h; obtain ⟨-, rfl, -⟩ := h; omega
  split at h
  · simp only [Option.some.injEq, Prod.mk.injEq] at h
    obtain ⟨-, rfl, -⟩ := h
    split
    · have := two _ ‹_›; omega
    · omega
  split at h
  · simp only [Option.some.injEq, Prod.mk.injEq] at h
    obtain ⟨-, rfl, -⟩ := h
    split
    · have := two _ rfl; omega
    · omega
  split at h
  · simp only [Option.some.injEq, Prod.mk.injEq] at h
    obtain ⟨-, rfl, -⟩ := h
    split
    · have := two _ rfl; omega
    · omega
  split at h
  · split at h
    · simp only [Option.some.injEq, Prod.mk.injEq] at h
      obtain ⟨-, rfl, -⟩ := h
      exact ⟨span_pos (by simp; omega), span_le _ _⟩
    · simp only [Option.some.injEq, Prod.mk.injEq] at h
      obtain ⟨-, rfl, -⟩ := h; omega
  split at h
  · simp only [Option.some.injEq, Prod.mk.injEq] at h
    obtain ⟨-, rfl, -⟩ := h; omega
  split at h
  · unfold number at h
    split at h
    · simp only [Option.some.injEq, Prod.mk.injEq] at h
      obtain ⟨-, rfl, -⟩ := h
      exact ⟨span_pos ‹_›, span_le _ _⟩
    · cases h
  · have key : ∀ t : By, t = (c :: l).takeWhile pin → t ≠ [] → 1 ≤ span pin (c :: l) := fun t ht hn => by
      unfold span; rw [← ht]; cases t with | nil => exact absurd rfl hn | cons a b => simp
    unfold wordOrName at h
    split at h
    · rename_i hw
      simp only [Option.some.injEq, Prod.mk.injEq] at h
      obtain ⟨-, rfl, -⟩ := h
      refine ⟨key _ rfl fun e => ?_, span_le _ _⟩
      rw [e] at hw; revert hw; decide
    split at h
    · rename_i hw
      simp only [Option.some.injEq, Prod.mk.injEq] at h
      obtain ⟨-, rfl, -⟩ := h
      refine ⟨key _ rfl fun e => ?_, span_le _ _⟩
      rw [e] at hw; revert hw; decide
    · cases h

theorem lexF_fuel : ∀ (f g i : Nat) (l : By), l.length ≤ f → l.length ≤ g → lexF f i l = lexF g i l
  | 0, 0, _, _, _, _ => rfl
  | 0, g + 1, i, [], _, _ => rfl
  | 0, g + 1, i, c :: l, h, _ => by simp at h
  | f + 1, 0, i, [], _, _ => rfl
  | f + 1, 0, i, c :: l, _, h => by simp at h
  | f + 1, g + 1, i, [], _, _ => rfl
  | f + 1, g + 1, i, c :: l, h1, h2 => by
    unfold lexF
    cases e : step (c :: l) with
    | none => rfl
    | some q =>
      obtain ⟨k, n, v⟩ := q
      obtain ⟨hn, hm⟩ := step_size (by simp) e
      simp only
      rw [lexF_fuel f g (i + n) _ (by simp at *; omega) (by simp at *; omega)]

/-- One step, whatever the fuel. -/
theorem lexF_step {i : Nat} {l : By} (hl : l ≠ []) : lexF l.length i l = match step l with
    | none => none
    | some (k, n, v) => (lexF (l.drop n).length (i + n) (l.drop n)).map fun ts => if k = 0 then ts else ⟨k, l.take n, v, i⟩ :: ts := by
  obtain ⟨c, l, rfl⟩ : ∃ c r, l = c :: r := by cases l with | nil => exact absurd rfl hl | cons c r => exact ⟨c, r, rfl⟩
  show lexF (l.length + 1) i (c :: l) = _
  conv => lhs; unfold lexF
  cases e : step (c :: l) with
  | none => rfl
  | some q =>
    obtain ⟨k, n, v⟩ := q
    obtain ⟨hn, hm⟩ := step_size (by simp) e
    simp only
    rw [lexF_fuel l.length ((c :: l).drop n).length (i + n) _ (by simp at *; omega) (Nat.le_refl _)]

/-! ### ParseInt of digits -/
theorem foldl_ge : ∀ (t : By) (u : Nat), u ≤ t.foldl (fun u c => u * 10 + (c.toNat - 48)) u
  | [], u => Nat.le_refl _
  | c :: t, u => Nat.le_trans (by omega) (foldl_ge t (u * 10 + (c.toNat - 48)))
theorem parseU : ∀ (t : By) (acc : Nat), t.all pd = true → acc < 18446744073709551616 → Go.Lib.parseUintM 18446744073709551615 acc t = if t.foldl (fun u c => u * 10 + (c.toNat - 48)) acc < 18446744073709551616 then .ok (t.foldl (fun u c => u * 10 + (c.toNat - 48)) acc) else .range
  | [], acc, _, h => by rw [List.foldl_nil, if_pos h]; rfl
  | c :: t, acc, h, ha => by
    simp only [List.all_cons, Bool.and_eq_true, pd, dg, decide_eq_true_eq] at h
    have hge := foldl_ge t (acc * 10 + (c.toNat - 48))
    unfold Go.Lib.parseUintM
    rw [if_pos h.1, List.foldl_cons]
    by_cases h1 : 1844674407370955162 ≤ acc
    · rw [if_pos h1, if_neg (by omega)]
    · rw [if_neg h1]
      by_cases h2 : 18446744073709551615 < acc * 10 + (c.toNat - 48)
      · rw [if_pos h2, if_neg (by omega)]
      · rw [if_neg h2]
        exact parseU t _ (by simpa [pd, dg] using h.2) (by omega)
theorem parse_digits {t : By} (hne : t ≠ []) (h : t.all pd = true) : Go.Lib.parseIntB 64 t = if numV t < 9223372036854775808 then .ok (numV t : Int) else .range := by
  obtain ⟨c, r, rfl⟩ : ∃ c r, t = c :: r := by cases t with | nil => exact absurd rfl hne | cons c r => exact ⟨c, r, rfl⟩
  have hc : 48 ≤ c.toNat ∧ c.toNat ≤ 57 := by simp [pd, dg] at h; exact h.1
  have h1 := parseU (c :: r) 0 h (by omega)
  unfold Go.Lib.parseIntB Go.Lib.parseUintB
  simp only [show ¬ c.toNat = 43 by omega, show ¬ c.toNat = 45 by omega, or_self, if_false, false_and, not_false_eq_true, true_and]
  rw [if_neg (by simp), show (2 ^ 64 - 1 : Nat) = 18446744073709551615 by decide, h1]
  unfold numV
  generalize (c :: r).foldl (fun u c => u * 10 + (c.toNat - 48)) 0 = N
  by_cases h2 : N < 9223372036854775808
  · rw [if_pos (show N < 18446744073709551616 by omega), if_pos h2]
    simp only
    rw [if_neg (by simpa using h2)]
  · rw [if_neg h2]
    by_cases h3 : N < 18446744073709551616
    · rw [if_pos h3]
      simp only
      rw [if_pos (by simpa using h2)]
    · rw [if_neg h3]

/-! ### The text ahead of a line feed -/
theorem cut_note : ∀ l : By, (Go.Lib.cut l [10]).1 = l.take (note l)
  | [] => rfl
  | c :: l => by
    have ih := cut_note l
    have hge := Go.Lib.index_ge l [10]
    unfold Go.Lib.cut at *
    by_cases h : c = 10
    · subst h
      have hi : Go.Lib.index (10 :: l) [10] = 0 := by
        conv => lhs; unfold Go.Lib.index
        rw [if_pos (by simp [List.isPrefixOf])]
      rw [hi]
      simp [note, span]
    · have h' : ¬ c.toNat = 10 := fun e => h (by apply UInt8.toNat_inj.1; rw [e]; rfl)
      have hi : Go.Lib.index (c :: l) [10] = if Go.Lib.index l [10] == -1 then -1 else Go.Lib.index l [10] + 1 := by
        conv => lhs; unfold Go.Lib.index
        rw [if_neg]
        intro e
        simp [List.isPrefixOf] at e
        exact h e.symm
      have hn : note (c :: l) = note l + 1 := by simp [note, span, h']
      rw [hi, hn]
      by_cases hm : (Go.Lib.index l [10] == -1) = true
      · have e1 : Go.Lib.index l [10] = -1 := by simpa using hm
        rw [if_pos hm]
        rw [e1] at ih
        simp at ih ⊢
        exact ih
      · have e1 : ¬ Go.Lib.index l [10] = -1 := by simpa using hm
        rw [if_neg hm]
        rw [if_pos (by omega)] at ih
        rw [if_pos (by omega)]
        simp only at ih ⊢
        rw [show (Go.Lib.index l [10] + 1).toNat = (Go.Lib.index l [10]).toNat + 1 by omega, List.take_succ_cons, List.take_succ_cons, ih]

end X
end Go.Proofs.YtikknlkdbjaonaaGreatDoor

/- The small functions of lex and of the document's. -/
namespace Go.Proofs.YtikknlkdbjaonaaGreatDoor
open Go.RowKit
set_option linter.unusedVariables false
set_option linter.unusedSimpArgs false

theorem ret_b {a b : Bool} (h : a = b) : Ending.returned (.bool a) = .returned (.bool b) := by rw [h]
theorem ret_i {k : IntKind} {a b : Int} (h : a = b) : Ending.returned (.int k a) = .returned (.int k b) := by rw [h]

set_option maxHeartbeats 4000000 in
theorem isDigit_any (n : Nat) (w : World) :
    Calls Tryz.prog 50 #[.int .u8 n] w fun e w' => e = .returned (.bool (X.dg n)) ∧ w' = w := by
  go_enter Tryz.func50, Tryz.ntmps50
  go_wp2
  all_goals
    go_ret
    exact ⟨ret_b (by rw [Bool.eq_iff_iff]; simp [X.dg]; try omega), rfl⟩

set_option maxHeartbeats 4000000 in
theorem isLetter_any (n : Nat) (w : World) :
    Calls Tryz.prog 97 #[.int .u8 n] w fun e w' => e = .returned (.bool (X.lt n)) ∧ w' = w := by
  go_enter Tryz.func97, Tryz.ntmps97
  go_wp2
  all_goals
    go_ret
    exact ⟨ret_b (by rw [Bool.eq_iff_iff]; simp [X.lt]; try omega), rfl⟩

set_option maxHeartbeats 4000000 in
theorem isInName_any (n : Nat) (w : World) :
    Calls Tryz.prog 72 #[.int .u8 n] w fun e w' => e = .returned (.bool (X.inn n)) ∧ w' = w := by
  cases h : X.lt n
  all_goals
    go_enter Tryz.func72, Tryz.ntmps72
    go_wp2_with (first | (go_at_call 97; refine (isLetter_any n _).mono ?_; rw [h]; rintro e w' ⟨rfl, rfl⟩) | (go_at_call 50; refine (isDigit_any n _).mono ?_; rintro e w' ⟨rfl, rfl⟩))
    go_ret
    exact ⟨ret_b (by simp [X.inn, h]), rfl⟩

set_option maxHeartbeats 4000000 in
theorem rletter_any (n : Nat) (w : World) :
    Calls Tryz.prog 55 #[.int .u8 n] w fun e w' => e = .returned (.bool (X.lt n)) ∧ w' = w := by
  go_enter Tryz.func55, Tryz.ntmps55
  go_wp2
  all_goals
    go_ret
    exact ⟨ret_b (by rw [Bool.eq_iff_iff]; simp [X.lt]; try omega), rfl⟩

set_option maxHeartbeats 4000000 in
theorem rdigit_any (n : Nat) (w : World) :
    Calls Tryz.prog 56 #[.int .u8 n] w fun e w' => e = .returned (.bool (X.dg n)) ∧ w' = w := by
  go_enter Tryz.func56, Tryz.ntmps56
  go_wp2
  all_goals
    go_ret
    exact ⟨ret_b (by rw [Bool.eq_iff_iff]; simp [X.dg]; try omega), rfl⟩

/-! ### Bytes of a string -/
theorem get_list (s : ByteArray) (k : Nat) (h : k < s.size) : s.data.toList[k]? = some s[k] := by
  have h' : k < s.data.toList.length := by simpa using h
  rw [List.getElem?_eq_getElem h']
  rfl
theorem drop_cons (s : ByteArray) (k : Nat) (h : k < s.size) : s.data.toList.drop k = s[k] :: s.data.toList.drop (k + 1) := by
  have h' : k < s.data.toList.length := by simpa using h
  rw [List.drop_eq_getElem_cons h']
  rfl
theorem len_list (s : ByteArray) : s.data.toList.length = s.size := by simp
theorem first_drop (s : ByteArray) (k : Nat) (h : k < s.size) : X.first (s.data.toList.drop k) = s[k].toNat := by rw [drop_cons s k h]; rfl

theorem span_snoc {p : UInt8 → Bool} {l : X.By} {k : Nat} (hk : ∀ j (c : UInt8), j < k → l[j]? = some c → p c = true) {c : UInt8} (hc : l[k]? = some c) (hp : p c = false) : X.span p l = k := by
  induction l generalizing k with
  | nil => simp at hc
  | cons d l ih =>
    cases k with
    | zero => simp at hc; subst hc; simp [X.span, hp]
    | succ k =>
      have h0 := hk 0 d (by omega) rfl
      have := ih (k := k) (fun j c hj hc => hk (j + 1) c (by omega) (by simpa using hc)) (by simpa using hc)
      simp [X.span, h0] at this ⊢
      exact this
theorem span_all {p : UInt8 → Bool} {l : X.By} (hk : ∀ (j : Nat) (c : UInt8), l[j]? = some c → p c = true) : X.span p l = l.length := by
  induction l with
  | nil => rfl
  | cons d l ih =>
    have h0 := hk 0 d rfl
    have := ih (fun j c hc => hk (j + 1) c (by simpa using hc))
    simp [X.span, h0] at this ⊢
    exact this

set_option maxRecDepth 100000 in
set_option maxHeartbeats 4000000 in
theorem span_gen (g : Nat) (q : Nat → Bool) (eg : ∀ args w, (callFunc g args).run Tryz.prog w = .ok (.enter g args) w)
    (hq : ∀ (n : Nat) (w : World), Calls Tryz.prog g #[.int .u8 n] w fun e w' => e = .returned (.bool (q n)) ∧ w' = w) (s : ByteArray) (hs : s.size ≤ maxLen) (w : World) :
    Calls Tryz.prog 70 #[.string s, .func (.func g) #[] #[]] w fun e w' => e = .returned (.int .i64 (X.span (fun c => q c.toNat) s.data.toList)) ∧ w' = w := by
  unfold maxLen at hs
  go_enter Tryz.func70, Tryz.ntmps70
  go_wp2
  go_loop [8] (fun i => ∃ (k : Nat), i = .int .i64 k ∧ k ≤ s.size ∧ Hid (∀ j (c : UInt8), j < k → s.data.toList[j]? = some c → q c.toNat = true)) (fun i => s.size - (intOf i).toNat)
  case atStart => exact ⟨0, rfl, Nat.zero_le _, (fun j c hj => by omega : ∀ j (c : UInt8), j < 0 → s.data.toList[j]? = some c → q c.toNat = true)⟩
  case round =>
    obtain ⟨k, rfl, hk, HA⟩ := hrel
    by_cases hlt : k < s.size
    · have HG : Hid (s.data.toList[k]? = some s[k]) := get_list s k hlt
      cases hc : q s[k].toNat
      · go_wp2_with (first | (go_at_fn g; refine (hq s[k].toNat _).mono ?_; rw [hc]; rintro e w' ⟨rfl, rfl⟩))
        go_ret
        exact ⟨ret_i (by rw [span_snoc HA.out HG.out hc]), rfl⟩
      · go_wp2_with (first | (go_at_fn g; refine (hq s[k].toNat _).mono ?_; rw [hc]; rintro e w' ⟨rfl, rfl⟩))
        go_round
        case rel => 
          refine ⟨k + 1, by go_num, by omega, fun j c hj hg => ?_⟩
          by_cases e : j = k
          · subst e; rw [HG.out] at hg; cases hg; exact hc
          · exact HA.out j c (by omega) hg
        case measure => simp [intOf]; omega
    · go_wp2
      go_ret
      obtain rfl : k = s.size := by omega
      exact ⟨ret_i (by rw [span_all (fun j c hc => HA.out j c (by have := (List.getElem?_eq_some_iff.1 hc).1; simpa using this) hc)]; simp), rfl⟩

theorem spanD_any (s : ByteArray) (hs : s.size ≤ maxLen) (w : World) :
    Calls Tryz.prog 70 #[.string s, .func (.func 50) #[] #[]] w fun e w' => e = .returned (.int .i64 (X.span X.pd s.data.toList)) ∧ w' = w :=
  span_gen _ X.dg (enters_of Tryz.func50 (by kernel_rfl) rfl) isDigit_any s hs w
theorem spanN_any (s : ByteArray) (hs : s.size ≤ maxLen) (w : World) :
    Calls Tryz.prog 70 #[.string s, .func (.func 72) #[] #[]] w fun e w' => e = .returned (.int .i64 (X.span X.pin s.data.toList)) ∧ w' = w :=
  span_gen _ X.inn (enters_of Tryz.func72 (by kernel_rfl) rfl) isInName_any s hs w

end Go.Proofs.YtikknlkdbjaonaaGreatDoor

/- The table of words; whether a text is a name. -/
namespace Go.Proofs.YtikknlkdbjaonaaGreatDoor
open Go.RowKit
set_option linter.unusedVariables false
set_option linter.unusedSimpArgs false

/-- The table as it lies. -/
def X.wordsV : Array Value := #[.string { data := #[108, 111, 99, 107] }, .string { data := #[116, 105, 99, 107, 101, 116] }, .string { data := #[113, 117, 101, 117, 101] }, .string { data := #[101, 120, 116, 101, 114, 110] }, .string { data := #[105, 110, 116] }, .string { data := #[98, 121] }, .string { data := #[114, 97, 110, 107] }, .string { data := #[116, 104, 114, 101, 97, 100] }, .string { data := #[118, 97, 114] }, .string { data := #[105, 102] }, .string { data := #[101, 108, 115, 101] }, .string { data := #[119, 104, 105, 108, 101] }, .string { data := #[119, 105, 116, 104] }, .string { data := #[112, 114, 105, 110, 116] }, .string { data := #[114, 101, 116, 117, 114, 110] }, .string { data := #[103, 101, 116] }, .string { data := #[112, 117, 116] }]

structure Tab (w : World) : Prop where
  wd : ∀ o : Nat, w.cell? ⟨0, o, none⟩ = X.wordsV[o]?
  es : ∃ ev, w.cell? ⟨2, 0, none⟩ = some ev ∧ (ev = .nilIface ∨ ∃ te pe, ev = .iface te pe)
  er : ∃ ev, w.cell? ⟨3, 0, none⟩ = some ev ∧ (ev = .nilIface ∨ ∃ te pe, ev = .iface te pe)
  ml : ∃ m, w.cell? ⟨1, 0, none⟩ = some (.int .i64 m)
  hz : 4 ≤ w.heap.size

theorem Tab.below {w w' : World} (h : Tab w) (hb : Below w.heap.size w w') : Tab w' := by
  have hz := h.hz
  have k : ∀ b o, b < 4 → w'.cell? ⟨b, o, none⟩ = w.cell? ⟨b, o, none⟩ := fun b o hb' => hb.cell (p := ⟨b, o, none⟩) (show b < w.heap.size by omega)
  obtain ⟨e1, h1, h2⟩ := h.es
  obtain ⟨e2, h3, h4⟩ := h.er
  obtain ⟨m, h5⟩ := h.ml
  exact ⟨fun o => (k 0 o (by omega)).trans (h.wd o), ⟨e1, (k 2 0 (by omega)).trans h1, h2⟩, ⟨e2, (k 3 0 (by omega)).trans h3, h4⟩, ⟨m, (k 1 0 (by omega)).trans h5⟩, Nat.le_trans hz hb.size⟩
theorem Tab.alloc {w : World} (h : Tab w) (o : Obj) : Tab (w.alloc o) := h.below ((Below.refl _ _).alloc (Nat.le_refl _) _)

theorem cases17 {P : Nat → Prop} (k : Nat) (h : k < 17) (h0 : P 0) (h1 : P 1) (h2 : P 2) (h3 : P 3) (h4 : P 4) (h5 : P 5) (h6 : P 6) (h7 : P 7) (h8 : P 8) (h9 : P 9) (h10 : P 10) (h11 : P 11) (h12 : P 12) (h13 : P 13) (h14 : P 14) (h15 : P 15) (h16 : P 16) : P k := by
  rcases (show k = 0 ∨ k = 1 ∨ k = 2 ∨ k = 3 ∨ k = 4 ∨ k = 5 ∨ k = 6 ∨ k = 7 ∨ k = 8 ∨ k = 9 ∨ k = 10 ∨ k = 11 ∨ k = 12 ∨ k = 13 ∨ k = 14 ∨ k = 15 ∨ k = 16 by omega) with rfl | rfl | rfl | rfl | rfl | rfl | rfl | rfl | rfl | rfl | rfl | rfl | rfl | rfl | rfl | rfl | rfl <;> assumption
theorem wordsV_at (k : Nat) (h : k < 17) : ∃ b : ByteArray, X.wordsV[k]? = some (.string b) ∧ X.words[k]? = some b.data.toList := by
  refine cases17 (P := fun k => ∃ b : ByteArray, X.wordsV[k]? = some (.string b) ∧ X.words[k]? = some b.data.toList) k h ?_ ?_ ?_ ?_ ?_ ?_ ?_ ?_ ?_ ?_ ?_ ?_ ?_ ?_ ?_ ?_ ?_ <;> exact ⟨_, rfl, rfl⟩
theorem toList_ne' {a b : ByteArray} (h : ¬ a.data.toList = b.data.toList) : (a.toList == b.toList) = false := by
  rw [ByteArray.toList_eq, ByteArray.toList_eq]
  exact beq_eq_false_iff_ne.2 h
theorem toList_eq' {a b : ByteArray} (h : a.data.toList = b.data.toList) : (a.toList == b.toList) = true := by
  rw [ByteArray.toList_eq, ByteArray.toList_eq]
  exact beq_iff_eq.2 h
theorem word_yes {l : X.By} {k : Nat} (h : X.words[k]? = some l) : X.isWord l = true := by
  rw [X.isWord, List.contains_iff_mem]
  exact List.mem_of_getElem? h
theorem word_no {l : X.By} (h : ∀ (k : Nat) b, k < 17 → X.words[k]? = some b → b ≠ l) : X.isWord l = false := by
  rw [Bool.eq_false_iff]
  intro hc
  rw [X.isWord, List.contains_iff_mem] at hc
  obtain ⟨k, hk⟩ := List.mem_iff_getElem?.1 hc
  exact h k l (by have := (List.getElem?_eq_some_iff.1 hk).1; exact this) hk rfl

set_option maxRecDepth 100000 in
theorem index_words (k : Nat) (b : ByteArray) (h : X.wordsV[k]? = some (.string b)) (w : World) : (Instr.index 114 (.agg X.wordsV) (.int .i64 k)).run Tryz.prog w = .ok (.string b) w := by
  have hk : k < 17 := (Array.getElem?_eq_some_iff.1 h).1
  revert b
  refine cases17 (P := fun k => ∀ b : ByteArray, X.wordsV[k]? = some (.string b) → (Instr.index 114 (.agg X.wordsV) (.int .i64 k)).run Tryz.prog w = .ok (.string b) w) k hk ?_ ?_ ?_ ?_ ?_ ?_ ?_ ?_ ?_ ?_ ?_ ?_ ?_ ?_ ?_ ?_ ?_
  all_goals
    intro b hb
    injection hb with hb
    injection hb with hb
    subst hb
    rfl

set_option maxRecDepth 100000 in
set_option maxHeartbeats 8000000 in
theorem isWord_any (s : ByteArray) (w : World) (ht : Tab w) :
    Calls Tryz.prog 73 #[.string s] w fun e w' => e = .returned (.bool (X.isWord s.data.toList)) ∧ w' = w := by
  have h0 := ht.wd
  have c0 : w.cell? ⟨0, 0, none⟩ = some (.string { data := #[108, 111, 99, 107] }) := h0 0
  have c1 : w.cell? ⟨0, 1, none⟩ = some (.string { data := #[116, 105, 99, 107, 101, 116] }) := h0 1
  have c2 : w.cell? ⟨0, 2, none⟩ = some (.string { data := #[113, 117, 101, 117, 101] }) := h0 2
  have c3 : w.cell? ⟨0, 3, none⟩ = some (.string { data := #[101, 120, 116, 101, 114, 110] }) := h0 3
  have c4 : w.cell? ⟨0, 4, none⟩ = some (.string { data := #[105, 110, 116] }) := h0 4
  have c5 : w.cell? ⟨0, 5, none⟩ = some (.string { data := #[98, 121] }) := h0 5
  have c6 : w.cell? ⟨0, 6, none⟩ = some (.string { data := #[114, 97, 110, 107] }) := h0 6
  have c7 : w.cell? ⟨0, 7, none⟩ = some (.string { data := #[116, 104, 114, 101, 97, 100] }) := h0 7
  have c8 : w.cell? ⟨0, 8, none⟩ = some (.string { data := #[118, 97, 114] }) := h0 8
  have c9 : w.cell? ⟨0, 9, none⟩ = some (.string { data := #[105, 102] }) := h0 9
  have c10 : w.cell? ⟨0, 10, none⟩ = some (.string { data := #[101, 108, 115, 101] }) := h0 10
  have c11 : w.cell? ⟨0, 11, none⟩ = some (.string { data := #[119, 104, 105, 108, 101] }) := h0 11
  have c12 : w.cell? ⟨0, 12, none⟩ = some (.string { data := #[119, 105, 116, 104] }) := h0 12
  have c13 : w.cell? ⟨0, 13, none⟩ = some (.string { data := #[112, 114, 105, 110, 116] }) := h0 13
  have c14 : w.cell? ⟨0, 14, none⟩ = some (.string { data := #[114, 101, 116, 117, 114, 110] }) := h0 14
  have c15 : w.cell? ⟨0, 15, none⟩ = some (.string { data := #[103, 101, 116] }) := h0 15
  have c16 : w.cell? ⟨0, 16, none⟩ = some (.string { data := #[112, 117, 116] }) := h0 16
  have hz := ht.hz
  have z0 : 0 < w.heap.size := by omega
  clear ht h0
  go_enter Tryz.func73, Tryz.ntmps73
  go_wp2
  clear c0 c1 c2 c3 c4 c5 c6 c7 c8 c9 c10 c11 c12 c13 c14 c15 c16
  have hA := index_words
  conv at hA => enter [k, b, h, w, 1]; unfold X.wordsV
  generalize Value.agg #[.string { data := #[108, 111, 99, 107] }, .string { data := #[116, 105, 99, 107, 101, 116] }, .string { data := #[113, 117, 101, 117, 101] }, .string { data := #[101, 120, 116, 101, 114, 110] }, .string { data := #[105, 110, 116] }, .string { data := #[98, 121] }, .string { data := #[114, 97, 110, 107] }, .string { data := #[116, 104, 114, 101, 97, 100] }, .string { data := #[118, 97, 114] }, .string { data := #[105, 102] }, .string { data := #[101, 108, 115, 101] }, .string { data := #[119, 104, 105, 108, 101] }, .string { data := #[119, 105, 116, 104] }, .string { data := #[112, 114, 105, 110, 116] }, .string { data := #[114, 101, 116, 117, 114, 110] }, .string { data := #[103, 101, 116] }, .string { data := #[112, 117, 116] }] = A at hA ⊢
  go_loop [6] (fun i => ∃ (k : Nat), i = .int .i64 k ∧ k ≤ 17 ∧ Hid (∀ (j : Nat) b, j < k → X.words[j]? = some b → b ≠ s.data.toList)) (fun i => 17 - (intOf i).toNat)
  case atStart => exact ⟨0, rfl, Nat.zero_le _, (fun j b hj => by omega : ∀ (j : Nat) b, j < 0 → X.words[j]? = some b → b ≠ s.data.toList)⟩
  case round =>
    obtain ⟨k, rfl, hk, HA⟩ := hrel
    by_cases hlt : k < 17
    · obtain ⟨b, hb1, hb2⟩ := wordsV_at k hlt
      have HB2 : Hid _ := hb2
      have hix := hA k b hb1
      clear hb2 hb1 hA
      by_cases he : b.data.toList = s.data.toList
      · have he' := toList_eq' he
        have HE : Hid _ := he
        clear he
        go_wp2
        go_ret
        exact ⟨ret_b (word_yes (k := k) (by rw [HB2.out, HE.out])).symm, rfl⟩
      · have he' := toList_ne' he
        have HE : Hid _ := he
        clear he
        go_wp2
        go_round
        case rel =>
          refine ⟨k + 1, by go_num, by omega, fun j b' hj hb' => ?_⟩
          by_cases e : j = k
          · subst e; rw [HB2.out] at hb'; cases hb'; exact HE.out
          · exact HA.out j b' (by omega) hb'
        case measure => simp [intOf]; omega
    · go_wp2
      go_ret
      obtain rfl : k = 17 := by omega
      exact ⟨ret_b (word_no HA.out).symm, rfl⟩

end Go.Proofs.YtikknlkdbjaonaaGreatDoor

/- lex.Name; the document's Word and Name. -/
namespace Go.Proofs.YtikknlkdbjaonaaGreatDoor
open Go.RowKit
set_option linter.unusedVariables false
set_option linter.unusedSimpArgs false

theorem all_span (p : UInt8 → Bool) (l : X.By) : (X.span p l = l.length) ↔ l.all p = true := by
  induction l with
  | nil => simp [X.span]
  | cons c l ih =>
    cases h : p c
    · simp [X.span, h]
    · have : X.span p (c :: l) = X.span p l + 1 := by simp [X.span, h]
      rw [this, List.all_cons, h, Bool.true_and, ← ih, List.length_cons]
      omega
theorem empty_ne {s : ByteArray} (h : s.size ≠ 0) : (s.toList == ByteArray.toList { data := #[] }) = false := by
  refine toList_ne' fun e => h ?_
  have := congrArg List.length e
  simpa using this
theorem first_list {s : ByteArray} (h : 0 < s.size) : X.first s.data.toList = s[0].toNat := by
  have := first_drop s 0 h
  simpa using this

set_option maxRecDepth 100000 in
set_option maxHeartbeats 8000000 in
theorem name_any (s : ByteArray) (hs : s.size ≤ maxLen) (w : World) (ht : Tab w) :
    Calls Tryz.prog 74 #[.string s] w fun e w' => e = .returned (.bool (X.name s.data.toList)) ∧ w' = w := by
  have hL : s.data.toList.length = s.size := by simp
  by_cases h0 : s.size = 0
  · have hnil : s.data.toList = [] := List.eq_nil_of_length_eq_zero (by omega)
    have he : s.toList = [] := by rw [ByteArray.toList_eq]; exact hnil
    have hN : X.name s.data.toList = false := by rw [hnil]; decide
    rw [hN]
    clear hN hnil
    go_enter Tryz.func74, Tryz.ntmps74
    go_wp2
    go_ret
    exact ⟨rfl, rfl⟩
  have he : ¬ s.toList = [] := by rw [ByteArray.toList_eq]; intro e; rw [e] at hL; simp at hL; omega
  have h1 : 0 < s.size := by omega
  have hne : s.data.toList ≠ [] := fun e => by rw [e] at hL; simp at hL; omega
  have HF := first_list h1
  have HT : Hid _ := ht
  by_cases h2 : s.size ≤ 12
  rotate_left
  · have hN : X.name s.data.toList = false := by simp [X.name]; omega
    rw [hN]
    clear hN ht
    go_enter Tryz.func74, Tryz.ntmps74
    go_wp2
    go_ret
    exact ⟨rfl, rfl⟩
  cases h3 : X.lt s[0].toNat
  · have hN : X.name s.data.toList = false := by simp [X.name, HF, h3]
    rw [hN]
    clear hN ht
    go_enter Tryz.func74, Tryz.ntmps74
    go_wp2_with (first | (go_at_call 97; refine (isLetter_any s[0].toNat _).mono ?_; rw [h3]; rintro e w' ⟨rfl, rfl⟩))
    go_ret
    exact ⟨rfl, rfl⟩
  have hN : X.name s.data.toList = (s.data.toList.all X.pin && !X.isWord s.data.toList) := by simp [X.name, HF, h3, hne, h2]
  rw [hN]
  have HA := all_span X.pin s.data.toList
  generalize hsp : X.span X.pin s.data.toList = sp at HA
  have hsl : sp ≤ s.size := by rw [← hsp, ← hL]; exact X.span_le _ _
  rw [hL] at HA
  cases h4 : s.data.toList.all X.pin
  · have hd : ((sp : Int) == (s.size : Int)) = false := by
      rw [h4] at HA
      simp at HA ⊢
      omega
    clear HA hN hne ht
    go_enter Tryz.func74, Tryz.ntmps74
    go_wp2_with (first | (go_at_call 97; refine (isLetter_any s[0].toNat _).mono ?_; rw [h3]; rintro e w' ⟨rfl, rfl⟩) | (go_at_call 70; refine (spanN_any s hs _).mono ?_; rw [hsp]; rintro e w' ⟨rfl, rfl⟩))
    go_ret
    exact ⟨rfl, rfl⟩
  · have hd : ((sp : Int) == (s.size : Int)) = true := by
      rw [h4] at HA
      simp at HA ⊢
      omega
    clear HA hN hne ht
    go_enter Tryz.func74, Tryz.ntmps74
    go_wp2_with (first | (go_at_call 97; refine (isLetter_any s[0].toNat _).mono ?_; rw [h3]; rintro e w' ⟨rfl, rfl⟩) | (go_at_call 70; refine (spanN_any s hs _).mono ?_; rw [hsp]; rintro e w' ⟨rfl, rfl⟩) | (go_at_call 73; refine (isWord_any s _ HT.out).mono ?_; rintro e w' ⟨rfl, rfl⟩))
    go_ret
    exact ⟨ret_b (by simp; exact fun _ => he), rfl⟩

theorem row_cell {w : World} {a : Array Value} {t : TypeId} {k : Nat} {u : Value} (h : a[k]? = some u) : (w.alloc (.cells a t)).cell? ⟨w.heap.size, k, none⟩ = some u := by
  rw [World.cell?_alloc_at _ _ _ _ rfl]
  exact h

set_option maxRecDepth 100000 in
set_option maxHeartbeats 8000000 in
theorem rword_any (s : ByteArray) (w : World) :
    Calls Tryz.prog 57 #[.string s] w fun e w' => e = .returned (.bool (X.isWord s.data.toList)) ∧ Below w.heap.size w w' := by
  go_enter Tryz.func57, Tryz.ntmps57
  go_wp2
  have hA : ∀ (k : Nat) (b : ByteArray), X.wordsV[k]? = some (.string b) → (w.alloc (.cells X.wordsV 9)).cell? ⟨w.heap.size, k, none⟩ = some (.string b) := fun k b h => row_cell h
  have HB : Hid (Below w.heap.size w (w.alloc (.cells X.wordsV 9))) := (Below.refl _ _).alloc (Nat.le_refl _) _
  unfold X.wordsV at HB
  conv at hA => enter [k, b, h, 1]; unfold X.wordsV
  generalize w.alloc (.cells #[.string { data := #[108, 111, 99, 107] }, .string { data := #[116, 105, 99, 107, 101, 116] }, .string { data := #[113, 117, 101, 117, 101] }, .string { data := #[101, 120, 116, 101, 114, 110] }, .string { data := #[105, 110, 116] }, .string { data := #[98, 121] }, .string { data := #[114, 97, 110, 107] }, .string { data := #[116, 104, 114, 101, 97, 100] }, .string { data := #[118, 97, 114] }, .string { data := #[105, 102] }, .string { data := #[101, 108, 115, 101] }, .string { data := #[119, 104, 105, 108, 101] }, .string { data := #[119, 105, 116, 104] }, .string { data := #[112, 114, 105, 110, 116] }, .string { data := #[114, 101, 116, 117, 114, 110] }, .string { data := #[103, 101, 116] }, .string { data := #[112, 117, 116] }] 9) = W at hA HB ⊢
  go_loop [4] (fun i => ∃ (k : Nat), i = .int .i64 k ∧ k ≤ 17 ∧ Hid (∀ (j : Nat) b, j < k → X.words[j]? = some b → b ≠ s.data.toList)) (fun i => 17 - (intOf i).toNat)
  case atStart => exact ⟨0, rfl, Nat.zero_le _, (fun j b hj => by omega : ∀ (j : Nat) b, j < 0 → X.words[j]? = some b → b ≠ s.data.toList)⟩
  case round =>
    obtain ⟨k, rfl, hk, HA⟩ := hrel
    by_cases hlt : k < 17
    · obtain ⟨b, hb1, hb2⟩ := wordsV_at k hlt
      have HB2 : Hid _ := hb2
      have hix := hA k b hb1
      clear hb2 hb1 hA
      by_cases he : b.data.toList = s.data.toList
      · have he' := toList_eq' he
        have HE : Hid _ := he
        clear he
        go_wp2
        go_ret
        exact ⟨ret_b (word_yes (k := k) (by rw [HB2.out, HE.out])).symm, HB.out⟩
      · have he' := toList_ne' he
        have HE : Hid _ := he
        clear he
        go_wp2
        go_round
        case rel =>
          refine ⟨k + 1, by go_num, by omega, fun j b' hj hb' => ?_⟩
          by_cases e : j = k
          · subst e; rw [HB2.out] at hb'; cases hb'; exact HE.out
          · exact HA.out j b' (by omega) hb'
        case measure => simp [intOf]; omega
    · go_wp2
      go_ret
      obtain rfl : k = 17 := by omega
      exact ⟨ret_b (word_no HA.out).symm, HB.out⟩

set_option maxRecDepth 100000 in
set_option maxHeartbeats 8000000 in
theorem rname_any (s : ByteArray) (hs : s.size ≤ maxLen) (w : World) :
    Calls Tryz.prog 58 #[.string s] w fun e w' => e = .returned (.bool (X.name s.data.toList)) ∧ Below w.heap.size w w' := by
  have hL : s.data.toList.length = s.size := by simp
  unfold maxLen at hs
  by_cases h0 : s.size = 0
  · have hnil : s.data.toList = [] := List.eq_nil_of_length_eq_zero (by omega)
    have hN : X.name s.data.toList = false := by rw [hnil]; decide
    have h1 : s.size < 1 := by omega
    rw [hN]
    clear hN hnil h0
    go_enter Tryz.func58, Tryz.ntmps58
    go_wp2
    go_ret
    exact ⟨rfl, Below.refl _ _⟩
  have h1 : 0 < s.size := by omega
  have hne : s.data.toList ≠ [] := fun e => by rw [e] at hL; simp at hL; omega
  have HF := first_list h1
  by_cases h2 : s.size ≤ 12
  rotate_left
  · have hN : X.name s.data.toList = false := by simp [X.name]; omega
    rw [hN]
    clear hN
    go_enter Tryz.func58, Tryz.ntmps58
    go_wp2
    go_ret
    exact ⟨rfl, Below.refl _ _⟩
  cases h3 : X.lt s[0].toNat
  · have hN : X.name s.data.toList = false := by simp [X.name, HF, h3]
    rw [hN]
    clear hN
    go_enter Tryz.func58, Tryz.ntmps58
    go_wp2_with (first | (go_at_call 55; refine (rletter_any s[0].toNat _).mono ?_; rw [h3]; rintro e w' ⟨rfl, rfl⟩))
    go_ret
    exact ⟨rfl, Below.refl _ _⟩
  have hN : X.name s.data.toList = (s.data.toList.all X.pin && !X.isWord s.data.toList) := by simp [X.name, HF, h3, hne, h2]
  rw [hN]
  clear hN
  cases h5 : X.isWord s.data.toList
  rotate_left
  · go_enter Tryz.func58, Tryz.ntmps58
    go_wp2_with (first | (go_at_call 55; refine (rletter_any s[0].toNat _).mono ?_; rw [h3]; rintro e w' ⟨rfl, rfl⟩) | (go_at_call 57; refine (rword_any s _).mono ?_; rw [h5]; rintro e w' ⟨rfl, HB⟩))
    go_ret
    exact ⟨ret_b (by simp), HB⟩
  go_enter Tryz.func58, Tryz.ntmps58
  go_wp2_with (first | (go_at_call 55; refine (rletter_any s[0].toNat _).mono ?_; rw [h3]; rintro e w' ⟨rfl, rfl⟩) | (go_at_call 57; refine (rword_any s _).mono ?_; rw [h5]; rintro e w' ⟨rfl, HB⟩))
  have HBL : Hid _ := HB
  clear HB
  go_loop [3] (fun i => ∃ (k : Nat), i = .int .i64 k ∧ k ≤ s.size ∧ Hid (∀ j (c : UInt8), j < k → s.data.toList[j]? = some c → X.pin c = true)) (fun i => s.size - (intOf i).toNat)
  case atStart => exact ⟨0, rfl, Nat.zero_le _, (fun j c hj => by omega : ∀ j (c : UInt8), j < 0 → s.data.toList[j]? = some c → X.pin c = true)⟩
  case round =>
    obtain ⟨k, rfl, hk, HA⟩ := hrel
    by_cases hlt : k < s.size
    · have HG : Hid (s.data.toList[k]? = some s[k]) := get_list s k hlt
      cases hc : X.lt s[k].toNat
      · cases hd : X.dg s[k].toNat
        · go_wp2_with (first | (go_at_call 55; refine (rletter_any s[k].toNat _).mono ?_; rw [hc]; rintro e w' ⟨rfl, rfl⟩) | (go_at_call 56; refine (rdigit_any s[k].toNat _).mono ?_; rw [hd]; rintro e w' ⟨rfl, rfl⟩))
          go_ret
          have hno : s.data.toList.all X.pin = false := by
            rw [List.all_eq_false]
            exact ⟨s[k], List.mem_of_getElem? HG.out, by simp [X.pin, X.inn, hc, hd]⟩
          exact ⟨ret_b (by rw [hno]; rfl), HBL.out⟩
        · go_wp2_with (first | (go_at_call 55; refine (rletter_any s[k].toNat _).mono ?_; rw [hc]; rintro e w' ⟨rfl, rfl⟩) | (go_at_call 56; refine (rdigit_any s[k].toNat _).mono ?_; rw [hd]; rintro e w' ⟨rfl, rfl⟩))
          go_round
          case rel => 
            refine ⟨k + 1, by go_num, by omega, fun j c hj hg => ?_⟩
            by_cases e : j = k
            · subst e; rw [HG.out] at hg; cases hg; simp [X.pin, X.inn, hd]
            · exact HA.out j c (by omega) hg
          case measure => simp [intOf]; omega
      · go_wp2_with (first | (go_at_call 55; refine (rletter_any s[k].toNat _).mono ?_; rw [hc]; rintro e w' ⟨rfl, rfl⟩))
        go_round
        case rel => 
          refine ⟨k + 1, by go_num, by omega, fun j c hj hg => ?_⟩
          by_cases e : j = k
          · subst e; rw [HG.out] at hg; cases hg; simp [X.pin, X.inn, hc]
          · exact HA.out j c (by omega) hg
        case measure => simp [intOf]; omega
    · go_wp2
      go_ret
      obtain rfl : k = s.size := by omega
      have hyes : s.data.toList.all X.pin = true := by
        rw [List.all_eq_true]
        intro c hc
        obtain ⟨j, hj⟩ := List.mem_iff_getElem?.1 hc
        exact HA.out j c (by have := (List.getElem?_eq_some_iff.1 hj).1; simpa using this) hj
      exact ⟨ret_b (by rw [← hyes]; simp), HBL.out⟩

end Go.Proofs.YtikknlkdbjaonaaGreatDoor

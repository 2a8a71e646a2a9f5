/- What a source's tokens are, as plain functions of its bytes. -/
import Derived.Lib.ParseIntB
import Derived.Lib.IndexMore
namespace Go.Proofs.YtfnakckiidblkaaDoor
namespace X

abbrev By := List UInt8
def lt (n : Nat) : Bool := (decide (97 ≤ n) && decide (n ≤ 122)) || ((decide (65 ≤ n) && decide (n ≤ 90)) || decide (n = 95))
def dg (n : Nat) : Bool := decide (48 ≤ n) && decide (n ≤ 57)
def inn (n : Nat) : Bool := lt n || dg n
def pl (c : UInt8) : Bool := lt c.toNat
def pd (c : UInt8) : Bool := dg c.toNat
def pin (c : UInt8) : Bool := inn c.toNat

theorem lt_dg {n : Nat} (h : lt n = true) : dg n = false := by simp [lt, dg] at *; omega
theorem inn_of_lt {n : Nat} (h : lt n = true) : inn n = true := by simp [inn, h]
theorem inn_of_dg {n : Nat} (h : dg n = true) : inn n = true := by simp [inn, h]

def words : List By := [[108, 111, 99, 107], [116, 105, 99, 107, 101, 116], [113, 117, 101, 117, 101], [101, 120, 116, 101, 114, 110], [105, 110, 116], [98, 121], [114, 97, 110, 107], [116, 104, 114, 101, 97, 100], [118, 97, 114], [105, 102], [101, 108, 115, 101], [119, 104, 105, 108, 101], [119, 105, 116, 104], [112, 114, 105, 110, 116], [114, 101, 116, 117, 114, 110], [103, 101, 116], [112, 117, 116]]
def isWord (l : By) : Bool := words.contains l

def first (l : By) : Nat := match l with | [] => 0 | c :: _ => c.toNat
/-- What may be a name. -/
def name (l : By) : Bool := decide (l ≠ []) && decide (l.length ≤ 12) && lt (first l) && l.all pin && !isWord l

def span (p : UInt8 → Bool) (l : By) : Nat := (l.takeWhile p).length
theorem span_le (p : UInt8 → Bool) (l : By) : span p l ≤ l.length := List.Sublist.length_le (List.takeWhile_sublist p)
theorem takeWhile_eq (p : UInt8 → Bool) (l : By) : l.takeWhile p = l.take (span p l) := by
  induction l with
  | nil => rfl
  | cons c l ih =>
    unfold span at *
    by_cases h : p c = true
    · simp [h]; exact ih
    · simp [h]

def numV (l : By) : Nat := l.foldl (fun u c => u * 10 + (c.toNat - 48)) 0
def numOk (t : By) : Bool := decide (numV t < 9223372036854775808) && (decide (t = [48]) || decide (first t ≠ 48))
def number (l : By) : Option (Nat × Nat × Nat) := if numOk (l.takeWhile pd) = true ∧ span pin l ≤ span pd l then some (1, span pd l, numV (l.takeWhile pd)) else none
def wordOrName (l : By) : Option (Nat × Nat × Nat) := if isWord (l.takeWhile pin) = true then some (3, span pin l, 0) else if name (l.takeWhile pin) = true then some (2, span pin l, 0) else none
def note (l : By) : Nat := span (fun c => decide (c.toNat ≠ 10)) l
def sgn (x : Nat) : Bool := [43, 45, 42, 37, 94, 40, 41, 123, 125, 91, 93, 59, 44].contains x
/-- What a source begins with: its kind, how many bytes, its number. -/
def step (l : By) : Option (Nat × Nat × Nat) :=
  let x := first l
  let y := first (l.drop 1)
  if x = 32 ∨ x = 9 ∨ x = 10 then some (0, 1, 0)
  else if x = 38 ∨ x = 124 then some (4, if y = x then 2 else 1, 0)
  else if x = 60 ∨ x = 62 then some (4, if y = x ∨ y = 61 then 2 else 1, 0)
  else if x = 61 ∨ x = 33 then some (4, if y = 61 then 2 else 1, 0)
  else if x = 47 then (if y = 47 then some (0, note l, 0) else some (4, 1, 0))
  else if sgn x = true then some (4, 1, 0)
  else if dg x = true then number l
  else wordOrName l

structure Tok where
  kind : Nat
  text : By
  n : Nat
  at' : Nat
  deriving DecidableEq

def lexF : Nat → Nat → By → Option (List Tok)
  | _, _, [] => some []
  | 0, _, _ :: _ => none
  | f + 1, i, c :: l => match step (c :: l) with
    | none => none
    | some (k, n, v) => (lexF f (i + n) ((c :: l).drop n)).map fun ts => if k = 0 then ts else ⟨k, (c :: l).take n, v, i⟩ :: ts

/-- The tokens, and what is told beside them. -/
def lex (l : By) : List Tok × Nat :=
  if 20000 < l.length then ([], 8) else match lexF l.length 0 l with
    | none => ([], 2)
    | some ts => if 4000 < ts.length + 1 then ([], 8) else (ts ++ [⟨0, [], 0, l.length⟩], 0)

/-! ### How much is taken -/
theorem span_pos {p : UInt8 → Bool} {c : UInt8} {l : By} (h : p c = true) : 1 ≤ span p (c :: l) := by simp [span, h]
theorem step_size {l : By} (hl : l ≠ []) {k n v : Nat} (h : step l = some (k, n, v)) : 1 ≤ n ∧ n ≤ l.length := by
  obtain ⟨c, l, rfl⟩ : ∃ c r, l = c :: r := by cases l with | nil => exact absurd rfl hl | cons c r => exact ⟨c, r, rfl⟩
  have two : ∀ m, first ((c :: l).drop 1) = m → m ≠ 0 → 2 ≤ (c :: l).length := fun m h1 h2 => by
    cases l with
    | nil => simp [first] at h1; omega
    | cons d r => simp
  have one : 1 ≤ (c :: l).length := by simp
  have hx : first (c :: l) = c.toNat := rfl
  unfold step at h
  simp only at h
  split at h
  · simp at h; obtain ⟨-, rfl, -⟩ := h; omega
  split at h
  · simp only [Option.some.injEq, Prod.mk.injEq] at h
    obtain ⟨-, rfl, -⟩ := h
    split
    · have := two _ ‹_›; omega
    · omega
  split at h
  · simp only [Option.some.injEq, Prod.mk.injEq] at h
    obtain ⟨-, rfl, -⟩ := h
    split
    · have := two _ rfl; omega
    · omega
  split at h
  · simp only [Option.some.injEq, Prod.mk.injEq] at h
    obtain ⟨-, rfl, -⟩ := h
    split
    · have := two _ rfl; omega
    · omega
  split at h
  · split at h
    · simp only [Option.some.injEq, Prod.mk.injEq] at h
      obtain ⟨-, rfl, -⟩ := h
      exact ⟨span_pos (by simp; omega), span_le _ _⟩
    · simp only [Option.some.injEq, Prod.mk.injEq] at h
      obtain ⟨-, rfl, -⟩ := h; omega
  split at h
  · simp only [Option.some.injEq, Prod.mk.injEq] at h
    obtain ⟨-, rfl, -⟩ := h; omega
  split at h
  · unfold number at h
    split at h
    · simp only [Option.some.injEq, Prod.mk.injEq] at h
      obtain ⟨-, rfl, -⟩ := h
      exact ⟨span_pos ‹_›, span_le _ _⟩
    · cases h
  · have key : ∀ t : By, t = (c :: l).takeWhile pin → t ≠ [] → 1 ≤ span pin (c :: l) := fun t ht hn => by
      unfold span; rw [← ht]; cases t with | nil => exact absurd rfl hn | cons a b => simp
    unfold wordOrName at h
    split at h
    · rename_i hw
      simp only [Option.some.injEq, Prod.mk.injEq] at h
      obtain ⟨-, rfl, -⟩ := h
      refine ⟨key _ rfl fun e => ?_, span_le _ _⟩
      rw [e] at hw; revert hw; decide
    split at h
    · rename_i hw
      simp only [Option.some.injEq, Prod.mk.injEq] at h
      obtain ⟨-, rfl, -⟩ := h
      refine ⟨key _ rfl fun e => ?_, span_le _ _⟩
      rw [e] at hw; revert hw; decide
    · cases h

theorem lexF_fuel : ∀ (f g i : Nat) (l : By), l.length ≤ f → l.length ≤ g → lexF f i l = lexF g i l
  | 0, 0, _, _, _, _ => rfl
  | 0, g + 1, i, [], _, _ => rfl
  | 0, g + 1, i, c :: l, h, _ => by simp at h
  | f + 1, 0, i, [], _, _ => rfl
  | f + 1, 0, i, c :: l, _, h => by simp at h
  | f + 1, g + 1, i, [], _, _ => rfl
  | f + 1, g + 1, i, c :: l, h1, h2 => by
    unfold lexF
    cases e : step (c :: l) with
    | none => rfl
    | some q =>
      obtain ⟨k, n, v⟩ := q
      obtain ⟨hn, hm⟩ := step_size (by simp) e
      simp only
      rw [lexF_fuel f g (i + n) _ (by simp at *; omega) (by simp at *; omega)]

/-- One step, whatever the fuel. -/
theorem lexF_step {i : Nat} {l : By} (hl : l ≠ []) : lexF l.length i l = match step l with
    | none => none
    | some (k, n, v) => (lexF (l.drop n).length (i + n) (l.drop n)).map fun ts => if k = 0 then ts else ⟨k, l.take n, v, i⟩ :: ts := by
  obtain ⟨c, l, rfl⟩ : ∃ c r, l = c :: r := by cases l with | nil => exact absurd rfl hl | cons c r => exact ⟨c, r, rfl⟩
  show lexF (l.length + 1) i (c :: l) = _
  conv => lhs; unfold lexF
  cases e : step (c :: l) with
  | none => rfl
  | some q =>
    obtain ⟨k, n, v⟩ := q
    obtain ⟨hn, hm⟩ := step_size (by simp) e
    simp only
    rw [lexF_fuel l.length ((c :: l).drop n).length (i + n) _ (by simp at *; omega) (Nat.le_refl _)]

/-! ### ParseInt of digits -/
theorem foldl_ge : ∀ (t : By) (u : Nat), u ≤ t.foldl (fun u c => u * 10 + (c.toNat - 48)) u
  | [], u => Nat.le_refl _
  | c :: t, u => Nat.le_trans (by omega) (foldl_ge t (u * 10 + (c.toNat - 48)))
theorem parseU : ∀ (t : By) (acc : Nat), t.all pd = true → acc < 18446744073709551616 → Go.Lib.parseUintM 18446744073709551615 acc t = if t.foldl (fun u c => u * 10 + (c.toNat - 48)) acc < 18446744073709551616 then .ok (t.foldl (fun u c => u * 10 + (c.toNat - 48)) acc) else .range
  | [], acc, _, h => by rw [List.foldl_nil, if_pos h]; rfl
  | c :: t, acc, h, ha => by
    simp only [List.all_cons, Bool.and_eq_true, pd, dg, decide_eq_true_eq] at h
    have hge := foldl_ge t (acc * 10 + (c.toNat - 48))
    unfold Go.Lib.parseUintM
    rw [if_pos h.1, List.foldl_cons]
    by_cases h1 : 1844674407370955162 ≤ acc
    · rw [if_pos h1, if_neg (by omega)]
    · rw [if_neg h1]
      by_cases h2 : 18446744073709551615 < acc * 10 + (c.toNat - 48)
      · rw [if_pos h2, if_neg (by omega)]
      · rw [if_neg h2]
        exact parseU t _ (by simpa [pd, dg] using h.2) (by omega)
theorem parse_digits {t : By} (hne : t ≠ []) (h : t.all pd = true) : Go.Lib.parseIntB 64 t = if numV t < 9223372036854775808 then .ok (numV t : Int) else .range := by
  obtain ⟨c, r, rfl⟩ : ∃ c r, t = c :: r := by cases t with | nil => exact absurd rfl hne | cons c r => exact ⟨c, r, rfl⟩
  have hc : 48 ≤ c.toNat ∧ c.toNat ≤ 57 := by simp [pd, dg] at h; exact h.1
  have h1 := parseU (c :: r) 0 h (by omega)
  unfold Go.Lib.parseIntB Go.Lib.parseUintB
  simp only [show ¬ c.toNat = 43 by omega, show ¬ c.toNat = 45 by omega, or_self, if_false, false_and, not_false_eq_true, true_and]
  rw [if_neg (by simp), show (2 ^ 64 - 1 : Nat) = 18446744073709551615 by decide, h1]
  unfold numV
  generalize (c :: r).foldl (fun u c => u * 10 + (c.toNat - 48)) 0 = N
  by_cases h2 : N < 9223372036854775808
  · rw [if_pos (show N < 18446744073709551616 by omega), if_pos h2]
    simp only
    rw [if_neg (by simpa using h2)]
  · rw [if_neg h2]
    by_cases h3 : N < 18446744073709551616
    · rw [if_pos h3]
      simp only
      rw [if_pos (by simpa using h2)]
    · rw [if_neg h3]

/-! ### The text ahead of a line feed -/
theorem cut_note : ∀ l : By, (Go.Lib.cut l [10]).1 = l.take (note l)
  | [] => rfl
  | c :: l => by
    have ih := cut_note l
    have hge := Go.Lib.index_ge l [10]
    unfold Go.Lib.cut at *
    by_cases h : c = 10
    · subst h
      have hi : Go.Lib.index (10 :: l) [10] = 0 := by
        conv => lhs; unfold Go.Lib.index
        rw [if_pos (by simp [List.isPrefixOf])]
      rw [hi]
      simp [note, span]
    · have h' : ¬ c.toNat = 10 := fun e => h (by apply UInt8.toNat_inj.1; rw [e]; rfl)
      have hi : Go.Lib.index (c :: l) [10] = if Go.Lib.index l [10] == -1 then -1 else Go.Lib.index l [10] + 1 := by
        conv => lhs; unfold Go.Lib.index
        rw [if_neg]
        intro e
        simp [List.isPrefixOf] at e
        exact h e.symm
      have hn : note (c :: l) = note l + 1 := by simp [note, span, h']
      rw [hi, hn]
      by_cases hm : (Go.Lib.index l [10] == -1) = true
      · have e1 : Go.Lib.index l [10] = -1 := by simpa using hm
        rw [if_pos hm]
        rw [e1] at ih
        simp at ih ⊢
        exact ih
      · have e1 : ¬ Go.Lib.index l [10] = -1 := by simpa using hm
        rw [if_neg hm]
        rw [if_pos (by omega)] at ih
        rw [if_pos (by omega)]
        simp only at ih ⊢
        rw [show (Go.Lib.index l [10] + 1).toNat = (Go.Lib.index l [10]).toNat + 1 by omega, List.take_succ_cons, List.take_succ_cons, ih]

end X
end Go.Proofs.YtfnakckiidblkaaDoor

/- What an instruction does to a thread's registers, and what it asks of memory: no program in sight. -/
import Derived.WalkKit
import Derived.Test.YtffokdldgdjkhaaDoorWordMath
namespace Go.Proofs.YtffokdldgdjkhaaDoor.S
open Go.RowKit

/-- A thread: eight registers, PC, State, Trap. -/
structure C where
  r0 : Int
  r1 : Int
  r2 : Int
  r3 : Int
  r4 : Int
  r5 : Int
  r6 : Int
  r7 : Int
  pc : Int
  st : Int
  tr : Int
/-- A register. -/
def C.rd (c : C) (k : Nat) : Int :=
  match k with
  | 0 => c.r0 | 1 => c.r1 | 2 => c.r2 | 3 => c.r3 | 4 => c.r4 | 5 => c.r5 | 6 => c.r6 | 7 => c.r7 | _ => 0
/-- .. turned. -/
def C.put (c : C) (k : Nat) (v : Int) : C :=
  match k with
  | 0 => { c with r0 := v } | 1 => { c with r1 := v } | 2 => { c with r2 := v } | 3 => { c with r3 := v }
  | 4 => { c with r4 := v } | 5 => { c with r5 := v } | 6 => { c with r6 := v } | 7 => { c with r7 := v } | _ => c

abbrev C.regs (c : C) : Array Value := #[.int .i64 c.r0, .int .i64 c.r1, .int .i64 c.r2, .int .i64 c.r3, .int .i64 c.r4, .int .i64 c.r5, .int .i64 c.r6, .int .i64 c.r7]
abbrev C.v (c : C) : Value := .agg #[.int .i64 c.r0, .int .i64 c.r1, .int .i64 c.r2, .int .i64 c.r3, .int .i64 c.r4, .int .i64 c.r5, .int .i64 c.r6, .int .i64 c.r7, .int .i64 c.pc, .int .i64 c.st, .int .i64 c.tr]
abbrev insV (op a b n : Int) : Value := .agg #[.int .i64 op, .int .i64 a, .int .i64 b, .int .i64 n]
abbrev reqV (k a v r : Int) : Value := .agg #[.int .i64 k, .int .i64 a, .int .i64 v, .int .i64 r]

theorem C.rd_at (c : C) (k : Nat) (h : k < 8) : c.regs[k]? = some (.int .i64 (c.rd k)) := by
  rcases (show k = 0 ∨ k = 1 ∨ k = 2 ∨ k = 3 ∨ k = 4 ∨ k = 5 ∨ k = 6 ∨ k = 7 by omega) with rfl | rfl | rfl | rfl | rfl | rfl | rfl | rfl <;> rfl

/-- Is it a register? -/
def isr (r : Int) : Bool := decide (0 ≤ r ∧ r < 8)
theorem isr_yes {r : Int} (h : 0 ≤ r ∧ r < 8) : isr r = true := decide_eq_true h
theorem isr_no {r : Int} (h : ¬ (0 ≤ r ∧ r < 8)) : isr r = false := decide_eq_false h
/-- Is it an instruction, and are its registers some? -/
def known (op a b : Int) : Bool := decide (1 ≤ op ∧ op ≤ 33 ∧ 0 ≤ a ∧ a < 8 ∧ 0 ≤ b ∧ b < 8)
theorem known_no {op a b : Int} (h : ¬ (1 ≤ op ∧ op ≤ 33 ∧ 0 ≤ a ∧ a < 8)) : known op a b = false := decide_eq_false (by omega)
theorem known_ab {op a b : Int} (h1 : 1 ≤ op) (h2 : op ≤ 33) (h3 : 0 ≤ a ∧ a < 8) : known op a b = isr b := by
  unfold known isr
  rw [Bool.eq_iff_iff]
  simp
  omega

/-- What an answer of memory turns, where one is waited for. -/
def fin (c : C) (r n : Int) : C := if r = 8 then { c with pc := n } else if 0 ≤ r ∧ r < 8 then c.put r.toNat n else c
def finish (c : C) (k r n : Int) : C := if k = 1 ∨ k = 3 ∨ k = 4 then fin c r n else c
theorem finish_yes {c : C} {k r n : Int} (h : k = 1 ∨ k = 3 ∨ k = 4) : finish c k r n = fin c r n := if_pos h
theorem finish_no {c : C} {k r n : Int} (h : ¬ (k = 1 ∨ k = 3 ∨ k = 4)) : finish c k r n = c := if_neg h
theorem fin_no {c : C} {r n : Int} (h : r ≠ 8) (h2 : ¬ (0 ≤ r ∧ r < 8)) : fin c r n = c := by unfold fin; rw [if_neg h, if_neg h2]

/-- Does it go elsewhere by N? -/
def jumps (c : C) (op : Int) (a : Nat) : Bool :=
  if op = 20 ∨ op = 25 ∨ op = 23 then true else if op = 21 ∨ op = 26 then wrap64 (c.rd a) == 0 else if op = 22 ∨ op = 27 then wrap64 (c.rd a) != 0 else false
theorem jumps_yes {c : C} {op : Int} {a : Nat} (h : op = 20 ∨ op = 25 ∨ op = 23) : jumps c op a = true := if_pos h
theorem jumps_z {c : C} {op : Int} {a : Nat} (h : op = 21 ∨ op = 26) : jumps c op a = (wrap64 (c.rd a) == 0) := by
  unfold jumps; rw [if_neg (by omega), if_pos h]
theorem jumps_nz {c : C} {op : Int} {a : Nat} (h : op = 22 ∨ op = 27) : jumps c op a = (wrap64 (c.rd a) != 0) := by
  unfold jumps; rw [if_neg (by omega), if_neg (by omega), if_pos h]
theorem jumps_no {c : C} {op : Int} {a : Nat} (h1 : ¬ (op = 20 ∨ op = 25 ∨ op = 23)) (h2 : ¬ (op = 21 ∨ op = 26)) (h3 : ¬ (op = 22 ∨ op = 27)) : jumps c op a = false := by
  unfold jumps; rw [if_neg h1, if_neg h2, if_neg h3]

/-- What is asked of memory. -/
structure Q where
  k : Int
  a : Int
  v : Int
  r : Int
abbrev Q.w (q : Q) : Value := .agg #[.int .i64 q.k, .int .i64 q.a, .int .i64 q.v, .int .i64 q.r]
def asked (c : C) (op : Int) (a b : Nat) (n next : Int) : Q :=
  if op = 17 then ⟨1, wrap64 (c.rd b + n), 0, a⟩
  else if op = 18 then ⟨2, wrap64 (c.rd a + n), wrap64 (c.rd b), 0⟩
  else if op = 28 then ⟨3, wrap64 (c.rd a + n), wrap64 (c.rd b), b⟩
  else if op = 29 then ⟨4, wrap64 (c.rd a + n), wrap64 (c.rd b), b⟩
  else if op = 23 then ⟨2, wrap64 (c.rd 7 + -8), next, 0⟩
  else if op = 24 then ⟨1, wrap64 (c.rd 7), 0, 8⟩
  else if op = 30 ∨ op = 32 then ⟨5, 0, 0, 0⟩
  else if op = 31 then ⟨6, 0, wrap64 (c.rd a), 0⟩
  else ⟨0, 0, 0, 0⟩
theorem asked_no {c : C} {op : Int} {a b : Nat} {n next : Int} (h : ¬ op = 17 ∧ ¬ op = 18 ∧ ¬ op = 28 ∧ ¬ op = 29 ∧ ¬ op = 23 ∧ ¬ op = 24 ∧ ¬ op = 30 ∧ ¬ op = 32 ∧ ¬ op = 31) : asked c op a b n next = ⟨0, 0, 0, 0⟩ := by
  unfold asked
  rw [if_neg (by omega), if_neg (by omega), if_neg (by omega), if_neg (by omega), if_neg (by omega), if_neg (by omega), if_neg (by omega), if_neg (by omega)]

/-- The instructions that compute. -/
def computed (c : C) (op : Int) (a b : Nat) (next : Int) : C :=
  if W.binE op (wrap64 (c.rd b)) = 0 then { c.put a (W.bin op (wrap64 (c.rd a)) (wrap64 (c.rd b))) with pc := next } else { c with st := 2, tr := 1 }
theorem computed_yes {c : C} {op : Int} {a b : Nat} {next : Int} (h : W.binE op (wrap64 (c.rd b)) = 0) : computed c op a b next = { c.put a (W.bin op (wrap64 (c.rd a)) (wrap64 (c.rd b))) with pc := next } := if_pos h
theorem computed_no {c : C} {op : Int} {a b : Nat} {next : Int} (h : ¬ W.binE op (wrap64 (c.rd b)) = 0) : computed c op a b next = { c with st := 2, tr := 1 } := if_neg h

/-- The thread behind an instruction that does not compute and does not trap, but for its PC. -/
def moved (c : C) (op : Int) (a b : Nat) (n : Int) : C :=
  if op = 1 ∨ op = 19 then c.put a n else if op = 2 then c.put a (wrap64 (c.rd b)) else if op = 23 then c.put 7 (wrap64 (c.rd 7 + -8))
  else if op = 24 then c.put 7 (wrap64 (c.rd 7 + 8)) else if op = 32 then { c with st := 1 } else c
/-- The thread behind the instruction, but for what memory has still to answer. -/
def turned (c : C) (op : Int) (a b : Nat) (n next : Int) : C :=
  if op = 33 then { c with st := 2, tr := n } else if 3 ≤ op ∧ op ≤ 16 then computed c op a b next
  else { moved c op a b n with pc := if jumps c op a = true then wrap64 (next + n) else next }
theorem turned_33 {c : C} {a b : Nat} {n next : Int} : turned c 33 a b n next = { c with st := 2, tr := n } := rfl
theorem turned_comp {c : C} {op : Int} {a b : Nat} {n next : Int} (h : 3 ≤ op ∧ op ≤ 16) : turned c op a b n next = computed c op a b next := by
  unfold turned; rw [if_neg (by omega), if_pos h]
theorem turned_jump {c : C} {op : Int} {a b : Nat} {n next : Int} (h : ¬ op = 33) (h2 : ¬ (3 ≤ op ∧ op ≤ 16)) (hj : jumps c op a = true) : turned c op a b n next = { moved c op a b n with pc := wrap64 (next + n) } := by
  unfold turned; rw [if_neg h, if_neg h2, if_pos hj]
theorem turned_stay {c : C} {op : Int} {a b : Nat} {n next : Int} (h : ¬ op = 33) (h2 : ¬ (3 ≤ op ∧ op ≤ 16)) (hj : jumps c op a = false) : turned c op a b n next = { moved c op a b n with pc := next } := by
  unfold turned; rw [if_neg h, if_neg h2, if_neg (by rw [hj]; decide)]
theorem moved_no {c : C} {op : Int} {a b : Nat} {n : Int} (h : ¬ op = 1 ∧ ¬ op = 19 ∧ ¬ op = 2 ∧ ¬ op = 23 ∧ ¬ op = 24 ∧ ¬ op = 32) : moved c op a b n = c := by
  unfold moved; rw [if_neg (by omega), if_neg (by omega), if_neg (by omega), if_neg (by omega), if_neg (by omega)]

/-- Does the instruction do anything? -/
def does (c : C) (op a b : Int) : Bool := decide (c.st = 0) && known op a b
def startC (c : C) (op a b n size : Int) : C :=
  if does c op a b = true then turned c op a.toNat b.toNat n (wrap64 (c.pc + size)) else c
def startQ (c : C) (op a b n size : Int) : Q :=
  if does c op a b = true then asked c op a.toNat b.toNat n (wrap64 (c.pc + size)) else ⟨0, 0, 0, 0⟩

end Go.Proofs.YtffokdldgdjkhaaDoor.S

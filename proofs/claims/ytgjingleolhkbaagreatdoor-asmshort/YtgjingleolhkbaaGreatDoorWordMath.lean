/- Plain facts on 64-bit numbers, the bits of a count, and what an instruction makes of two numbers: no program in sight. -/
import Derived.WalkKit
namespace Go.Proofs.YtgjingleolhkbaaGreatDoor.J.W
open Go.RowKit

theorem ofInt64 (x : Int) : (BitVec.ofInt 64 x).toNat = (x % 18446744073709551616).toNat := by
  rw [BitVec.toNat_ofInt]; rfl

theorem ofInt63 : (BitVec.ofInt 64 63).toNat = 63 := by decide

theorem and63 (x : Int) : ((BitVec.ofInt 64 x &&& BitVec.ofInt 64 63).toNat : Int) = x % 64 := by
  rw [BitVec.toNat_and, ofInt64, ofInt63]
  have h : (x % 18446744073709551616).toNat &&& 63 = (x % 18446744073709551616).toNat % 64 := Nat.and_two_pow_sub_one_eq_mod _ 6
  rw [h]
  omega

theorem and63_i (x : Int) : bits .and .i64 x 63 = x % 64 := by
  show IntKind.i64.wrap ((BitVec.ofInt 64 x &&& BitVec.ofInt 64 63).toNat : Int) = _
  rw [and63, IntKind.wrap_i64]
  omega

theorem and63_u (x : Int) : bits .and .u64 x 63 = x % 64 := by
  show IntKind.u64.wrap ((BitVec.ofInt 64 x &&& BitVec.ofInt 64 63).toNat : Int) = _
  rw [and63, IntKind.wrap_u64]
  omega

theorem and63_uw (x : Int) : bits .and .u64 (IntKind.u64.wrap x) 63 = x % 64 := by
  rw [and63_u, IntKind.wrap_u64]
  omega

theorem wrap_id (x : Int) (h1 : -9223372036854775808 ≤ x) (h2 : x ≤ 9223372036854775807) : wrap64 x = x := by
  unfold wrap64; omega

theorem bits_comm_and (a b : Int) : bits .and .i64 a b = bits .and .i64 b a := by
  show IntKind.i64.wrap ((BitVec.ofInt 64 a &&& BitVec.ofInt 64 b).toNat : Int) = IntKind.i64.wrap ((BitVec.ofInt 64 b &&& BitVec.ofInt 64 a).toNat : Int)
  rw [BitVec.and_comm]
theorem bits_comm_or (a b : Int) : bits .or .i64 a b = bits .or .i64 b a := by
  show IntKind.i64.wrap ((BitVec.ofInt 64 a ||| BitVec.ofInt 64 b).toNat : Int) = IntKind.i64.wrap ((BitVec.ofInt 64 b ||| BitVec.ofInt 64 a).toNat : Int)
  rw [BitVec.or_comm]
theorem bits_comm_xor (a b : Int) : bits .xor .i64 a b = bits .xor .i64 b a := by
  show IntKind.i64.wrap ((BitVec.ofInt 64 a ^^^ BitVec.ofInt 64 b).toNat : Int) = IntKind.i64.wrap ((BitVec.ofInt 64 b ^^^ BitVec.ofInt 64 a).toNat : Int)
  rw [BitVec.xor_comm]

/-- 1, if it holds, else 0. -/
def tr (b : Bool) : Int := if b then 1 else 0

/-- What an instruction makes of two numbers. -/
def bin (op a b : Int) : Int :=
  if op = 3 then wrap64 (a + b) else if op = 4 then wrap64 (a - b) else if op = 5 then wrap64 (a * b)
  else if op = 6 then (if b = 0 then 0 else wrap64 (a.tdiv b)) else if op = 7 then (if b = 0 then 0 else a.tmod b)
  else if op = 8 then bits .and .i64 a b else if op = 9 then bits .or .i64 a b else if op = 10 then bits .xor .i64 a b
  else if op = 11 then wrap64 (a * 2 ^ (b % 64).toNat) else if op = 12 then a / 2 ^ (b % 64).toNat
  else if op = 13 then tr (a == b) else if op = 14 then tr (a != b) else if op = 15 then tr (decide (a < b)) else if op = 16 then tr (decide (a ≤ b)) else 0

/-- The error beside it. -/
def binE (op b : Int) : Int := if op < 3 ∨ 16 < op then 1 else if (op = 6 ∨ op = 7) ∧ b = 0 then 10 else 0

theorem tdiv_mul_tmod (a b : Int) : b * a.tdiv b + a.tmod b = a := Int.mul_tdiv_add_tmod a b

theorem tmod_nonpos (a b : Int) (h : a ≤ 0) : a.tmod b ≤ 0 := by
  have := Int.tmod_nonneg (a := -a) b (by omega)
  rw [Int.neg_tmod] at this
  omega

/-- The rest, reckoned by the quotient: as the document tells it. -/
theorem rem_of_quo (a b : Int) (ha : (Lit.int .i64 a).wf = true) : wrap64 (a - wrap64 (wrap64 (a.tdiv b) * b)) = a.tmod b := by
  have h := tdiv_mul_tmod a b
  have hr : (a.tmod b).natAbs ≤ a.natAbs := by
    rw [Int.natAbs_tmod]; exact Nat.mod_le _ _
  have hs := tmod_nonpos a b
  have hs' := fun h : 0 ≤ a => Int.tmod_nonneg b h
  simp [Lit.wf, IntKind.min, IntKind.max, IntKind.signed, IntKind.bits] at ha
  have e1 : ∃ k : Int, wrap64 (a.tdiv b) = a.tdiv b + 18446744073709551616 * k := ⟨-((a.tdiv b + 9223372036854775808) / 18446744073709551616), by unfold wrap64; omega⟩
  obtain ⟨k, hk⟩ := e1
  rw [hk]
  have e2 : (a.tdiv b + 18446744073709551616 * k) * b = (a - a.tmod b) + 18446744073709551616 * (k * b) := by
    rw [Int.add_mul, Int.mul_comm (a.tdiv b) b, Int.mul_assoc]; omega
  rw [e2]
  clear e2 hk h
  generalize k * b = kb
  generalize a.tmod b = r at *
  have hr' : -9223372036854775808 ≤ r ∧ r ≤ 9223372036854775807 ∧ (a ≤ 9223372036854775807) := by omega
  unfold wrap64
  omega

theorem neg_quo (a : Int) : wrap64 (-a) = wrap64 (a.tdiv (-1)) := by
  rw [Int.tdiv_neg, Int.tdiv_one]

end Go.Proofs.YtgjingleolhkbaaGreatDoor.J.W

/- Plain facts on the number that bytes are: no program in sight. -/
import Derived.Test.YtgjingleolhkbaaGreatDoorWordBytesMath
import Derived.Test.YtgjingleolhkbaaGreatDoorWordTakeMath
namespace Go.Proofs.YtgjingleolhkbaaGreatDoor.J.W
set_option maxRecDepth 100000
open Go.RowKit

/-- The number of which these are the bytes, the lowest first. -/
def num : List Int → Int
  | [] => 0
  | c :: r => num r * 256 + c

def or8 (x c : Int) : Int := bits .or .u64 (IntKind.u64.wrap (x * 256)) c
theorem or8_fold (x c : Int) : bits .or .u64 (IntKind.u64.wrap (x * 256)) c = or8 x c := rfl
def add8 (x c : Int) : Int := IntKind.u64.wrap (IntKind.u64.wrap (x * 256) + c)
theorem add8_fold (x c : Int) : IntKind.u64.wrap (IntKind.u64.wrap (x * 256) + c) = add8 x c := rfl

theorem add8_eq (x c : Int) (hx0 : 0 ≤ x) (hx : x < 72057594037927936) (hc0 : 0 ≤ c) (hc : c < 256) : add8 x c = x * 256 + c := by
  unfold add8; rw [IntKind.wrap_u64, IntKind.wrap_u64]; omega

theorem or8_eq (x c : Int) (hx0 : 0 ≤ x) (hx : x < 72057594037927936) (hc0 : 0 ≤ c) (hc : c < 256) : or8 x c = x * 256 + c := by
  unfold or8
  rw [IntKind.wrap_u64, show x * 256 % 18446744073709551616 = x * 256 by omega, u64_or _ _ (by omega) (by omega) hc0 (by omega)]
  obtain ⟨X, rfl⟩ := Int.eq_ofNat_of_zero_le hx0
  obtain ⟨C, rfl⟩ := Int.eq_ofNat_of_zero_le hc0
  have e : ((X : Int) * 256).toNat = 2 ^ 8 * X := by omega
  rw [e, Int.toNat_natCast, ← Nat.two_pow_add_eq_or_of_lt (show C < 2 ^ 8 by omega) X]
  omega

theorem or8b (x c : Int) (hx0 : 0 ≤ x) (hx : x < 72057594037927936) (hc0 : 0 ≤ c) (hc : c < 256) : bits .or .u64 (x * 256) c = x * 256 + c := by
  have h := or8_eq x c hx0 hx hc0 hc
  unfold or8 at h
  rw [IntKind.wrap_u64, show x * 256 % 18446744073709551616 = x * 256 by omega] at h
  exact h

theorem num_bd (l : List Int) (h : ∀ n ∈ l, 0 ≤ n ∧ n < 256) : 0 ≤ num l ∧ num l < 256 ^ l.length := by
  induction l with
  | nil => simp [num]
  | cons c r ih =>
    have h1 := ih (fun n hn => h n (List.mem_cons_of_mem _ hn))
    have h2 := h c (List.mem_cons_self)
    simp only [num, List.length_cons, Int.pow_succ]
    omega

theorem tail_bd (s : ByteArray) (j : Nat) : ∀ n ∈ tail s j, 0 ≤ n ∧ n < 256 := by
  intro n hn
  simp only [tail, List.mem_map] at hn
  obtain ⟨b, _, rfl⟩ := hn
  have := UInt8.toNat_lt b
  omega

theorem tail_length (s : ByteArray) (j : Nat) : (tail s j).length = s.size - j := by
  simp [tail]

theorem pow256_le (m : Nat) (h : m ≤ 7) : (256 : Int) ^ m ≤ 72057594037927936 := by
  rcases (show m = 0 ∨ m = 1 ∨ m = 2 ∨ m = 3 ∨ m = 4 ∨ m = 5 ∨ m = 6 ∨ m = 7 by omega) with rfl | rfl | rfl | rfl | rfl | rfl | rfl | rfl <;> decide

/-- What stands behind a byte fits into seven. -/
theorem num_small (s : ByteArray) (j : Nat) (hs : s.size ≤ 8) (hj : 1 ≤ j) : 0 ≤ num (tail s j) ∧ num (tail s j) < 72057594037927936 := by
  have h := num_bd (tail s j) (tail_bd s j)
  have := pow256_le (tail s j).length (by rw [tail_length]; omega)
  omega

theorem top1 (s : ByteArray) (h : s.size = 1) : num (tail s 0) = (s[0].toNat : Int) := by
  rw [tail_cons s 0 (by omega), tail_end s 1 (by omega)]
  simp [num]
theorem top4 (s : ByteArray) (h : s.size = 4) : ∃ r : Int, 0 ≤ r ∧ r < 16777216 ∧ num (tail s 0) = (s[3].toNat : Int) * 16777216 + r := by
  rw [tail_cons s 0 (by omega), tail_cons s 1 (by omega), tail_cons s 2 (by omega), tail_cons s 3 (by omega), tail_end s 4 (by omega)]
  have h0 := UInt8.toNat_lt s[0]
  have h1 := UInt8.toNat_lt s[1]
  have h2 := UInt8.toNat_lt s[2]
  refine ⟨((s[2].toNat : Int) * 256 + s[1].toNat) * 256 + s[0].toNat, by omega, by omega, ?_⟩
  simp only [num]
  omega

def numV (s : ByteArray) : Int := if isSz s.size then sx s.size (num (tail s 0)) else 0
def numE (s : ByteArray) : Int := if isSz s.size then 0 else 1

end Go.Proofs.YtgjingleolhkbaaGreatDoor.J.W

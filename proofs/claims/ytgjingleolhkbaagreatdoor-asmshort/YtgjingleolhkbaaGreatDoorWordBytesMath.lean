/- Plain facts on numbers as bytes: no program in sight. -/
import Derived.Test.YtgjingleolhkbaaGreatDoorWordMath
import Derived.Laws.BytesArg
namespace Go.Proofs.YtgjingleolhkbaaGreatDoor.J.W
open Go.RowKit

/-- The number, with its sign, that the lowest bytes of u are. -/
def sx (size u : Int) : Int := if size = 1 then (u + 128) % 256 - 128 else if size = 4 then wrap32 u else wrap64 u

/-- The byte at a place. -/
def byteAt (n : Int) (i : Nat) : Int := n / 256 ^ i % 256
def bytesOf (n : Int) (s : Nat) : List Int := (List.range s).map (byteAt n)

def isSz (size : Int) : Bool := size == 1 || size == 4 || size == 8
def bytesE (n size : Int) : Int := if isSz size then (if sx size n = n then 0 else 7) else 1
def bytesV (n size : Int) : List Int := if isSz size then (if sx size n = n then bytesOf n size.toNat else []) else []

theorem byteAt_bd (n : Int) (i : Nat) : 0 ≤ byteAt n i ∧ byteAt n i ≤ 255 := by unfold byteAt; omega

theorem bytesOf_length (n : Int) (s : Nat) : (bytesOf n s).length = s := by simp [bytesOf]

theorem bytesOf_succ (n : Int) (k : Nat) : bytesOf n (k + 1) = bytesOf n k ++ [byteAt n k] := by
  simp [bytesOf, List.range_succ]

/-- The row of bytes behind k rounds of so many: the first k stand, the rest are 0. -/
def rowK (n : Int) (s k : Nat) : List Int := bytesOf n k ++ List.replicate (s - k) 0

theorem rowK_length (n : Int) (s k : Nat) (h : k ≤ s) : (rowK n s k).length = s := by simp [rowK, bytesOf]; omega

theorem rowK_zero (n : Int) (s : Nat) : rowK n s 0 = List.replicate s 0 := by simp [rowK, bytesOf]

theorem rowK_full (n : Int) (s : Nat) : rowK n s s = bytesOf n s := by simp [rowK]

theorem rowK_set (n : Int) (s k : Nat) (h : k < s) : (rowK n s k).set k (byteAt n k) = rowK n s (k + 1) := by
  unfold rowK
  rw [List.set_append_right _ _ (by simp [bytesOf]), bytesOf_succ]
  have e : s - k = (s - (k + 1)) + 1 := by omega
  simp [bytesOf_length, e, List.replicate_succ]

theorem pow256 (k : Nat) : (2 : Int) ^ (8 * k) = 256 ^ k := by
  rw [Int.pow_mul]; rfl

theorem shr_byte (n : Int) (k : Nat) : IntKind.u8.wrap (n / 2 ^ (8 * k)) = byteAt n k := by
  rw [IntKind.wrap_u8', pow256]; rfl

theorem rowK_store (n : Int) (s k : Nat) (h : k < s) : ((rowK n s k).map (Value.int .u8)).set k (.int .u8 (n / 2 ^ (8 * k) % 256)) = (rowK n s (k + 1)).map (Value.int .u8) := by
  rw [← rowK_set n s k h, List.map_set, pow256]; rfl

theorem byteU (n : Int) (k : Nat) (hk : k < 8) : (n % 18446744073709551616) / 256 ^ k % 256 = byteAt n k := by
  unfold byteAt
  rcases (show k = 0 ∨ k = 1 ∨ k = 2 ∨ k = 3 ∨ k = 4 ∨ k = 5 ∨ k = 6 ∨ k = 7 by omega) with rfl | rfl | rfl | rfl | rfl | rfl | rfl | rfl <;> omega

theorem pow256_succ (x : Int) (k : Nat) : x / 256 ^ k / 256 = x / 256 ^ (k + 1) := by
  have : (0 : Int) ≤ 256 ^ k := Int.pow_nonneg (by decide)
  rw [Int.ediv_ediv_of_nonneg this, Int.pow_succ]

theorem sx1 (u : Int) : wrap64 (IntKind.u64.wrap (u * 72057594037927936)) / 72057594037927936 = (u + 128) % 256 - 128 := by
  rw [IntKind.wrap_u64]; unfold wrap64; omega
theorem sx4 (u : Int) : wrap64 (IntKind.u64.wrap (u * 4294967296)) / 4294967296 = wrap32 u := by
  rw [IntKind.wrap_u64]; unfold wrap64 wrap32; omega
theorem sx8 (u : Int) : wrap64 (IntKind.u64.wrap u) = wrap64 u := by
  rw [IntKind.wrap_u64]; unfold wrap64; omega
theorem sx_u (size n : Int) (h : isSz size = true) : sx size (IntKind.u64.wrap n) = sx size n := by
  simp [isSz] at h
  rw [IntKind.wrap_u64]; unfold sx wrap64 wrap32
  rcases h with (rfl | rfl) | rfl <;> simp <;> omega

end Go.Proofs.YtgjingleolhkbaaGreatDoor.J.W

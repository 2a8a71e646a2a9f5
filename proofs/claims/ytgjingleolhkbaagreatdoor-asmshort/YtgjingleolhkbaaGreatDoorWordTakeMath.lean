/- Plain facts on reading a number in groups of seven bits: no program in sight. -/
import Derived.Test.YtgjingleolhkbaaGreatDoorWordPutMath
import Derived.Laws.BitsAllLaws
import Derived.Laws.BytesArg
namespace Go.Proofs.YtgjingleolhkbaaGreatDoor.J.W
set_option maxRecDepth 100000
open Go.RowKit

def addv (x c : Int) (g : Nat) : Int := IntKind.u64.wrap (x + IntKind.u64.wrap (c % 128 * 2 ^ (7 * g)))
theorem add_fold (x c : Int) (g : Nat) : IntKind.u64.wrap (x + IntKind.u64.wrap (c % 128 * 2 ^ (7 * g))) = addv x c g := rfl

theorem pow128 (g : Nat) : (2 : Int) ^ (7 * g) = 128 ^ g := by rw [Int.pow_mul]; rfl

theorem pow128_le (g : Nat) (h : g ≤ 9) : (128 : Int) ^ g ≤ 9223372036854775808 ∧ 1 ≤ (128 : Int) ^ g := by
  rcases (show g = 0 ∨ g = 1 ∨ g = 2 ∨ g = 3 ∨ g = 4 ∨ g = 5 ∨ g = 6 ∨ g = 7 ∨ g = 8 ∨ g = 9 by omega) with rfl | rfl | rfl | rfl | rfl | rfl | rfl | rfl | rfl | rfl <;> decide

theorem pow128_lt (g : Nat) (h : g ≤ 8) : (128 : Int) * 128 ^ g ≤ 9223372036854775808 := by
  rw [Int.mul_comm, ← Int.pow_succ]
  exact (pow128_le (g + 1) (by omega)).1

/-- A group fits at its place. -/
theorem group_fits (c : Int) (g : Nat) (hg : g ≤ 9) (hc0 : 0 ≤ c) (hc : g ≤ 8 ∨ c ≤ 1) : 0 ≤ c % 128 * 128 ^ g ∧ c % 128 * 128 ^ g ≤ 18446744073709551616 - 128 ^ g := by
  have h9 := pow128_le g hg
  refine ⟨Int.mul_nonneg (by omega) (by omega), ?_⟩
  rcases hc with h8 | h1
  · have h8' := pow128_lt g h8
    have : c % 128 * 128 ^ g ≤ 127 * 128 ^ g := Int.mul_le_mul_of_nonneg_right (by omega) (by omega)
    omega
  · have : c % 128 * 128 ^ g ≤ 1 * 128 ^ g := Int.mul_le_mul_of_nonneg_right (by omega) (by omega)
    rcases (show c = 0 ∨ c = 1 by omega) with rfl | rfl
    · simp; omega
    · simp
      by_cases hg8 : g ≤ 8
      · have := pow128_lt g hg8; omega
      · obtain rfl : g = 9 := by omega
        omega

theorem addv_eq (x c : Int) (g : Nat) (hx0 : 0 ≤ x) (hx : x < 128 ^ g) (hg : g ≤ 9) (hc0 : 0 ≤ c) (hc : g ≤ 8 ∨ c ≤ 1) : addv x c g = x + c % 128 * 128 ^ g := by
  have h := group_fits c g hg hc0 hc
  unfold addv
  rw [pow128, IntKind.wrap_u64, IntKind.wrap_u64]
  generalize c % 128 * 128 ^ g = y at *
  omega

theorem orv_eq (x c : Int) (g : Nat) (hx0 : 0 ≤ x) (hx : x < 128 ^ g) (hg : g ≤ 9) (hc0 : 0 ≤ c) (hc : g ≤ 8 ∨ c ≤ 1) : orv x c g = x + c % 128 * 128 ^ g := by
  have h := group_fits c g hg hc0 hc
  have h9 := pow128_le g hg
  unfold orv
  rw [pow128, IntKind.wrap_u64]
  have e : c % 128 * 128 ^ g % 18446744073709551616 = c % 128 * 128 ^ g := by
    generalize c % 128 * 128 ^ g = y at *
    omega
  rw [e, u64_or _ _ hx0 (by omega) h.1 (by omega)]
  obtain ⟨X, rfl⟩ := Int.eq_ofNat_of_zero_le hx0
  obtain ⟨C, hC⟩ := Int.eq_ofNat_of_zero_le (show 0 ≤ c % 128 by omega)
  rw [hC]
  have hX : X < 2 ^ (7 * g) := by
    have : ((X : Nat) : Int) < ((2 ^ (7 * g) : Nat) : Int) := by
      rw [Int.natCast_pow]; rw [← pow128] at hx; exact hx
    omega
  have e2 : ((C : Int) * 128 ^ g).toNat = 2 ^ (7 * g) * C := by
    have : ((C : Int) * 128 ^ g) = ((2 ^ (7 * g) * C : Nat) : Int) := by
      rw [← pow128, Int.natCast_mul, Int.natCast_pow, Int.mul_comm]; rfl
    rw [this]; exact Int.toNat_natCast _
  rw [e2, Int.toNat_natCast, Nat.or_comm, ← Nat.two_pow_add_eq_or_of_lt hX C]
  rw [Int.natCast_add, Int.natCast_mul, Int.natCast_pow, ← pow128, Int.add_comm, Int.mul_comm (C : Int)]
  rfl

/-- The number whose groups stand at a list's head, behind g groups that make x: and how many groups there are. -/
def takeG : Nat → Int → List Int → Option (Int × Nat)
  | _, _, [] => none
  | g, x, c :: r => if (g = 9 ∧ 1 < c) ∨ (0 < g ∧ c = 0) then none else if c < 128 then some (x + c % 128 * 128 ^ g, g + 1) else takeG (g + 1) (x + c % 128 * 128 ^ g) r

/-- A string's bytes from a place on. -/
def tail (s : ByteArray) (j : Nat) : List Int := (s.data.toList.drop j).map fun b => (b.toNat : Int)

theorem tail_cons (s : ByteArray) (j : Nat) (h : j < s.size) : tail s j = (s[j].toNat : Int) :: tail s (j + 1) := by
  unfold tail
  rw [List.drop_eq_getElem_cons (by simpa using h)]
  rfl

theorem tail_end (s : ByteArray) (j : Nat) (h : s.size ≤ j) : tail s j = [] := by
  unfold tail
  rw [List.drop_eq_nil_of_le (by simpa using h)]; rfl

/-- Take at a place within the string. -/
def takeR (s : ByteArray) (a : Nat) : Int × Int × Int := match takeG 0 0 (tail s a) with | some (v, n) => (v, (a : Int) + n, 0) | none => (0, 0, 9)
/-- Take. -/
def take (s : ByteArray) (a : Int) : Int × Int × Int := if a < 0 ∨ (s.size : Int) < a then (0, 0, 1) else takeR s a.toNat

theorem takeR_none (s : ByteArray) (a : Nat) (h : takeG 0 0 (tail s a) = none) : takeR s a = (0, 0, 9) := by simp [takeR, h]
theorem takeR_some (s : ByteArray) (a : Nat) (v : Int) (n : Nat) (h : takeG 0 0 (tail s a) = some (v, n)) : takeR s a = (v, (a : Int) + n, 0) := by simp [takeR, h]

theorem takeG_no (g : Nat) (x c : Int) (r : List Int) (h : (g = 9 ∧ 1 < c) ∨ (0 < g ∧ c = 0)) : takeG g x (c :: r) = none := by
  rw [takeG, if_pos h]
theorem takeG_last (g : Nat) (x c : Int) (r : List Int) (h : ¬ ((g = 9 ∧ 1 < c) ∨ (0 < g ∧ c = 0))) (hc : c < 128) : takeG g x (c :: r) = some (x + c % 128 * 128 ^ g, g + 1) := by
  rw [takeG, if_neg h, if_pos hc]
theorem takeG_more (g : Nat) (x c : Int) (r : List Int) (h : ¬ ((g = 9 ∧ 1 < c) ∨ (0 < g ∧ c = 0))) (hc : 128 ≤ c) : takeG g x (c :: r) = takeG (g + 1) (x + c % 128 * 128 ^ g) r := by
  rw [takeG, if_neg h, if_neg (by omega)]

/-- The bound goes on. -/
theorem next_lt (x c : Int) (g : Nat) (hx : x < 128 ^ g) : x + c % 128 * 128 ^ g < 128 ^ (g + 1) := by
  have : c % 128 * 128 ^ g ≤ 127 * 128 ^ g := Int.mul_le_mul_of_nonneg_right (by omega) (Int.pow_nonneg (by decide))
  rw [Int.pow_succ]
  omega

end Go.Proofs.YtgjingleolhkbaaGreatDoor.J.W

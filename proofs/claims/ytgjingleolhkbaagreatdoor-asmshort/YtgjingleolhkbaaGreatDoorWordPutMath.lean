/- Plain facts on numbers in groups of seven bits: no program in sight. -/
import Derived.Test.YtgjingleolhkbaaGreatDoorWordMath
namespace Go.Proofs.YtgjingleolhkbaaGreatDoor.J.W
set_option maxRecDepth 100000
open Go.RowKit

def grps : Nat → Int → List Int
  | 0, u => [u]
  | f + 1, u => if u < 128 then [u] else (u % 128 + 128) :: grps f (u / 128)
/-- A number in groups of seven bits, the lowest first, as few as can be. -/
def put (u : Int) : List Int := grps 9 u

/-- Several numbers, one behind the other. -/
def putAll : List Int → List Int
  | [] => []
  | u :: l => put u ++ putAll l

theorem putAll_append (a b : List Int) : putAll (a ++ b) = putAll a ++ putAll b := by
  induction a with
  | nil => rfl
  | cons u l ih => simp [putAll, ih]

theorem putAll_snoc (l : List Int) (u : Int) : putAll (l ++ [u]) = putAll l ++ put u := by
  rw [putAll_append]; simp [putAll]

theorem grps_length : ∀ (f : Nat) (u : Int), 1 ≤ (grps f u).length ∧ (grps f u).length ≤ f + 1
  | 0, _ => by simp [grps]
  | f + 1, u => by
    unfold grps
    split
    · simp
    · have := grps_length f (u / 128); simp; omega

theorem put_length (u : Int) : 1 ≤ (put u).length ∧ (put u).length ≤ 10 := grps_length 9 u

theorem putAll_length (l : List Int) : l.length ≤ (putAll l).length ∧ (putAll l).length ≤ 10 * l.length := by
  induction l with
  | nil => simp [putAll]
  | cons u l ih => have := put_length u; simp [putAll]; omega

theorem grps_step (f : Nat) (u : Int) (h : 128 ≤ u) : grps (f + 1) u = (u % 128 + 128) :: grps f (u / 128) := by
  conv => lhs; unfold grps
  rw [if_neg (by omega)]

theorem grps_last (f : Nat) (u : Int) (h : u < 128) : grps f u = [u] := by
  cases f with
  | zero => rfl
  | succ f => conv => lhs; unfold grps
              rw [if_pos h]

theorem and127_u (x : Int) : bits .and .u64 x 127 = x % 128 := by
  show IntKind.u64.wrap ((BitVec.ofInt 64 x &&& BitVec.ofInt 64 127).toNat : Int) = _
  have e127 : (BitVec.ofInt 64 127).toNat = 127 := by decide
  rw [BitVec.toNat_and, ofInt64, e127]
  have h : (x % 18446744073709551616).toNat &&& 127 = (x % 18446744073709551616).toNat % 128 := Nat.and_two_pow_sub_one_eq_mod _ 7
  rw [h, IntKind.wrap_u64]
  omega

theorem and127_b (x : Int) : bits .and .u8 x 127 = x % 128 := by
  show IntKind.u8.wrap ((BitVec.ofInt 8 x &&& BitVec.ofInt 8 127).toNat : Int) = _
  have e127 : (BitVec.ofInt 8 127).toNat = 127 := by decide
  have ex : (BitVec.ofInt 8 x).toNat = (x % 256).toNat := by rw [BitVec.toNat_ofInt]; rfl
  rw [BitVec.toNat_and, ex, e127]
  have h : (x % 256).toNat &&& 127 = (x % 256).toNat % 128 := Nat.and_two_pow_sub_one_eq_mod _ 7
  rw [h, IntKind.wrap_u8']
  omega

/-- A group more: what stands, or it is shifted to its place. -/
def orv (x c : Int) (g : Nat) : Int := bits .or .u64 x (IntKind.u64.wrap (c % 128 * 2 ^ (7 * g)))
theorem or_fold (x c : Int) (g : Nat) : bits .or .u64 x (IntKind.u64.wrap (c % 128 * 2 ^ (7 * g))) = orv x c g := rfl

/-- What is left of a number behind k groups. -/
theorem fuel_step (f : Nat) (x : Int) (h0 : 128 ≤ x) (h : x < 2 * 128 ^ f) : ∃ g, f = g + 1 ∧ x / 128 < 2 * 128 ^ g := by
  cases f with
  | zero => simp at h; omega
  | succ g =>
    refine ⟨g, rfl, ?_⟩
    rw [Int.pow_succ] at h
    omega

theorem fuel_top (u : Int) (h : u ≤ 18446744073709551615) : u < 2 * 128 ^ 9 := by
  have : (128 : Int) ^ 9 = 9223372036854775808 := by decide
  omega

/-- Each group is a byte. -/
theorem grps_bd : ∀ (f : Nat) (u : Int), 0 ≤ u → u < 2 * 128 ^ f → ∀ n ∈ grps f u, 0 ≤ n ∧ n ≤ 255
  | 0, u, h0, h1 => by
    intro n hn
    simp [grps] at hn h1
    omega
  | f + 1, u, h0, h1 => by
    intro n hn
    by_cases h : u < 128
    · rw [grps_last _ _ h] at hn
      simp at hn
      omega
    · rw [grps_step f u (by omega)] at hn
      obtain ⟨g, hg, hl⟩ := fuel_step (f + 1) u (by omega) h1
      obtain rfl : f = g := by omega
      rcases List.mem_cons.1 hn with rfl | hn
      · omega
      · exact grps_bd f (u / 128) (by omega) hl n hn

theorem put_bd (u : Int) (h0 : 0 ≤ u) (h1 : u ≤ 18446744073709551615) : ∀ n ∈ put u, 0 ≤ n ∧ n ≤ 255 := grps_bd 9 u h0 (fuel_top u h1)

end Go.Proofs.YtgjingleolhkbaaGreatDoor.J.W

/- What is written is read as it was: no program in sight. -/
import Derived.Test.YtaoklmphcgigeaaWordNumMath
namespace Go.Proofs.Ytaoklmphcgigeaa.W
set_option maxRecDepth 100000
open Go.RowKit

theorem tail_nums (xs : List Int) (h : ∀ n ∈ xs, 0 ≤ n ∧ n ≤ 255) (j : Nat) : tail (strOfNums xs) j = xs.drop j := by
  unfold tail
  rw [strOfNums_data, ← List.map_drop, List.map_map]
  conv => rhs; rw [← List.map_id (xs.drop j)]
  apply List.map_congr_left
  intro n hn
  have := h n (List.mem_of_mem_drop hn)
  simp only [Function.comp, id]
  rw [UInt8.toNat_ofNat']
  omega

theorem bytesOf_bd (n : Int) (s : Nat) : ∀ x ∈ bytesOf n s, 0 ≤ x ∧ x ≤ 255 := by
  intro x hx
  simp only [bytesOf, List.mem_map] at hx
  obtain ⟨i, _, rfl⟩ := hx
  exact byteAt_bd n i

theorem byteAt_succ (n : Int) (i : Nat) : byteAt n (i + 1) = byteAt (n / 256) i := by
  unfold byteAt
  have : (0 : Int) ≤ 256 := by decide
  rw [Int.pow_succ, Int.mul_comm, ← Int.ediv_ediv_of_nonneg this]

theorem bytesOf_cons (n : Int) (s : Nat) : bytesOf n (s + 1) = n % 256 :: bytesOf (n / 256) s := by
  simp only [bytesOf, List.range_succ_eq_map, List.map_cons, List.map_map]
  congr 1
  · simp [byteAt]
  · apply List.map_congr_left
    intro i _
    exact byteAt_succ n i

theorem num_bytesOf : ∀ (s : Nat) (n : Int), num (bytesOf n s) = n % 256 ^ s
  | 0, n => by simp [bytesOf, num]
  | s + 1, n => by
    rw [bytesOf_cons, num, num_bytesOf s, Int.pow_succ, Int.mul_comm (256 ^ s) 256]
    have h : n % (256 * 256 ^ s) = n % 256 + 256 * (n / 256 % 256 ^ s) := by
      have hP : (0 : Int) < 256 ^ s := Int.pow_pos (by decide)
      have h1 := Int.mul_ediv_add_emod (n / 256) (256 ^ s)
      have h2 := Int.emod_nonneg (n / 256) (Int.ne_of_gt hP)
      have h3 := Int.emod_lt_of_pos (n / 256) hP
      generalize n / 256 % 256 ^ s = r at *
      generalize n / 256 / 256 ^ s = q at *
      have h4 : n = (n % 256 + 256 * r) + 256 * 256 ^ s * q := by
        rw [Int.mul_assoc]; omega
      conv => lhs; rw [h4]
      rw [Int.add_mul_emod_self_left]
      exact Int.emod_eq_of_lt (by omega) (by omega)
    rw [h]
    omega

/-- Number turns Bytes back. -/
theorem num_back (n : Int) (h : (Lit.int .i64 n).wf = true) : bytesE n 8 = 0 ∧ numE (strOfNums (bytesV n 8)) = 0 ∧ numV (strOfNums (bytesV n 8)) = n := by
  simp [Lit.wf, IntKind.min, IntKind.max, IntKind.signed, IntKind.bits] at h
  have e : sx 8 n = n := by simp [sx]; unfold wrap64; omega
  have s8 : isSz 8 = true := by decide
  have hv : bytesV n 8 = bytesOf n 8 := by rw [bytesV, if_pos s8, if_pos e]; rfl
  have hsz : (strOfNums (bytesOf n 8)).size = 8 := by rw [strOfNums_size, bytesOf_length]
  have hE : bytesE n 8 = 0 := by rw [bytesE, if_pos s8, if_pos e]
  have hs8 : isSz ((8 : Nat) : Int) = true := by decide
  rw [hv, hE, numE, numV, hsz, if_pos hs8, if_pos hs8, tail_nums _ (bytesOf_bd n 8), List.drop_zero, num_bytesOf]
  refine ⟨rfl, rfl, ?_⟩
  have p : (256 : Int) ^ 8 = 18446744073709551616 := by decide
  rw [p]
  show sx 8 (n % 18446744073709551616) = n
  simp [sx]
  unfold wrap64
  omega

theorem takeG_grps : ∀ (f g : Nat) (u x : Int) (r : List Int), g + f = 9 → 0 ≤ u → u < 2 * 128 ^ f → (0 < g → 0 < u) → takeG g x (grps f u ++ r) = some (x + u * 128 ^ g, g + (grps f u).length)
  | 0, g, u, x, r, hg, h0, h1, h2 => by
    simp at h1
    rw [grps_last 0 u (by omega)]
    have hp := h2 (by omega)
    rw [List.singleton_append, takeG_last _ _ _ _ (by omega) (by omega), show u % 128 = u by omega]
    rfl
  | f + 1, g, u, x, r, hg, h0, h1, h2 => by
    by_cases h : u < 128
    · rw [grps_last (f + 1) u h, List.singleton_append, takeG_last _ _ _ _ (by omega) h, show u % 128 = u by omega]
      rfl
    · rw [grps_step f u (by omega), List.cons_append, takeG_more _ _ _ _ (by omega) (by omega)]
      obtain ⟨g', hg', hl⟩ := fuel_step (f + 1) u (by omega) h1
      obtain rfl : f = g' := by omega
      rw [takeG_grps f (g + 1) (u / 128) _ r (by omega) (by omega) hl (by omega)]
      have e1 : (u % 128 + 128) % 128 = u % 128 := by omega
      have e2 : u * 128 ^ g = (u % 128) * 128 ^ g + (u / 128) * 128 ^ (g + 1) := by
        rw [Int.pow_succ, ← Int.mul_assoc, Int.mul_comm (u / 128) (128 ^ g), Int.mul_assoc (128 ^ g) (u / 128) 128, Int.mul_comm (u % 128), ← Int.mul_add]
        rw [Int.mul_comm u]
        congr 1
        omega
      rw [e1, e2]
      simp
      omega

theorem takeG_put (u : Int) (r : List Int) (h0 : 0 ≤ u) (h1 : u ≤ 18446744073709551615) : takeG 0 0 (put u ++ r) = some (u, (put u).length) := by
  rw [put, takeG_grps 9 0 u 0 r rfl h0 (fuel_top u h1) (by omega)]
  simp

/-- Take turns Put back, whatever stands ahead of it or behind. -/
theorem take_put (a : List Int) (u : Int) (r : List Int) (h0 : 0 ≤ u) (h1 : u ≤ 18446744073709551615) (hb : ∀ n ∈ a ++ (put u ++ r), 0 ≤ n ∧ n ≤ 255) :
    take (strOfNums (a ++ (put u ++ r))) (a.length : Int) = (u, ((a.length + (put u).length : Nat) : Int), 0) := by
  have hl : (strOfNums (a ++ (put u ++ r))).size = a.length + ((put u).length + r.length) := by rw [strOfNums_size]; simp
  rw [take, if_neg (by rw [hl]; omega), Int.toNat_natCast]
  have ht : tail (strOfNums (a ++ (put u ++ r))) a.length = put u ++ r := by
    rw [tail_nums _ hb]; simp
  rw [takeR_some _ _ u (put u).length (by rw [ht]; exact takeG_put u r h0 h1)]
  rw [Int.natCast_add]

end Go.Proofs.Ytaoklmphcgigeaa.W

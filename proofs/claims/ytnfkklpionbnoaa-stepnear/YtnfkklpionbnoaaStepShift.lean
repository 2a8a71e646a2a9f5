/- Where code lies makes no difference; a short jump does what the long one does. -/
import Derived.Test.YtnfkklpionbnoaaStepFacts
namespace Go.Proofs.Ytnfkklpionbnoaa.S
open Go.RowKit

/-- A thread whose PC is another. -/
def C.at_ (c : C) (p : Int) : C := ⟨c.r0, c.r1, c.r2, c.r3, c.r4, c.r5, c.r6, c.r7, p, c.st, c.tr⟩
theorem at_rd (c : C) (p : Int) (k : Nat) : (c.at_ p).rd k = c.rd k := rfl
theorem at_at (c : C) (p q : Int) : (c.at_ p).at_ q = c.at_ q := rfl
theorem at_self (c : C) : c.at_ c.pc = c := rfl
theorem put_at (c : C) (p : Int) (k : Nat) (v : Int) : (c.at_ p).put k v = (c.put k v).at_ p := by
  unfold C.put
  split <;> rfl
theorem moved_at (c : C) (p op : Int) (a b : Nat) (n : Int) : (moved (c.at_ p) op a b n) = (moved c op a b n).at_ p := by
  unfold moved
  split
  · exact put_at _ _ _ _
  split
  · exact put_at _ _ _ _
  split
  · exact put_at _ _ _ _
  split
  · exact put_at _ _ _ _
  split <;> rfl
theorem wrap_diff {p m s : Int} (hm : -2147483648 ≤ m ∧ m ≤ 2147483647) : wrap64 (wrap64 (p + m + s) - wrap64 (p + s)) = m := by
  unfold wrap64; omega
theorem wrap_diff2 {p m s n : Int} (hm : -2147483648 ≤ m ∧ m ≤ 2147483647) : wrap64 (wrap64 (wrap64 (p + m + s) + n) - wrap64 (wrap64 (p + s) + n)) = m := by
  unfold wrap64; omega
theorem wrap_diff0 {p m : Int} (hm : -2147483648 ≤ m ∧ m ≤ 2147483647) : wrap64 (p + m - p) = m := by
  unfold wrap64; omega

theorem turned_shift (c : C) (op : Int) (a b : Nat) (n size m : Int) (hm : -2147483648 ≤ m ∧ m ≤ 2147483647) :
    ∃ (x : C) (p1 p2 : Int), turned c op a b n (wrap64 (c.pc + size)) = x.at_ p1 ∧ turned (c.at_ (c.pc + m)) op a b n (wrap64 (c.pc + m + size)) = x.at_ p2 ∧ (x.st = 0 → wrap64 (p2 - p1) = m) := by
  by_cases h33 : op = 33
  · subst h33
    exact ⟨{ c with st := 2, tr := n }, c.pc, c.pc + m, rfl, rfl, fun h => absurd (show (2 : Int) = 0 from h) (by decide)⟩
  by_cases hc : 3 ≤ op ∧ op ≤ 16
  · rw [turned_comp hc, turned_comp hc]
    by_cases he : W.binE op (wrap64 (c.rd b)) = 0
    · rw [computed_yes he, computed_yes (c := c.at_ (c.pc + m)) he]
      refine ⟨c.put a (W.bin op (wrap64 (c.rd a)) (wrap64 (c.rd b))), wrap64 (c.pc + size), wrap64 (c.pc + m + size), rfl, ?_, fun _ => wrap_diff hm⟩
      rw [at_rd, at_rd, put_at]
      rfl
    · rw [computed_no he, computed_no (c := c.at_ (c.pc + m)) he]
      exact ⟨{ c with st := 2, tr := 1 }, c.pc, c.pc + m, rfl, rfl, fun h => absurd (show (2 : Int) = 0 from h) (by decide)⟩
  · cases hj : jumps c op a with
    | true =>
      rw [turned_jump h33 hc hj, turned_jump h33 hc (show jumps (c.at_ (c.pc + m)) op a = true from hj), moved_at]
      exact ⟨moved c op a b n, _, _, rfl, rfl, fun _ => wrap_diff2 hm⟩
    | false =>
      rw [turned_stay h33 hc hj, turned_stay h33 hc (show jumps (c.at_ (c.pc + m)) op a = false from hj), moved_at]
      exact ⟨moved c op a b n, _, _, rfl, rfl, fun _ => wrap_diff hm⟩

theorem asked_shift (c : C) (op : Int) (a b : Nat) (n size m : Int) (hm : -2147483648 ≤ m ∧ m ≤ 2147483647) :
    ∃ k ad v1 v2 r, asked c op a b n (wrap64 (c.pc + size)) = ⟨k, ad, v1, r⟩ ∧ asked (c.at_ (c.pc + m)) op a b n (wrap64 (c.pc + m + size)) = ⟨k, ad, v2, r⟩ ∧ (op = 23 → wrap64 (v2 - v1) = m) ∧ (¬ op = 23 → v1 = v2) := by
  by_cases h : op = 23
  · subst h
    exact ⟨_, _, _, _, _, rfl, rfl, fun _ => wrap_diff hm, fun h => absurd rfl h⟩
  · have e : asked (c.at_ (c.pc + m)) op a b n (wrap64 (c.pc + m + size)) = asked c op a b n (wrap64 (c.pc + size)) := by
      unfold asked
      simp only [at_rd, if_neg h]
    rw [e]
    exact ⟨_, _, _, _, _, rfl, rfl, fun h' => absurd h' h, fun _ => rfl⟩

theorem start_shift (c : C) (op a b n size m : Int) (hm : -2147483648 ≤ m ∧ m ≤ 2147483647) :
    ∃ (x : C) (p1 p2 k ad v1 v2 r : Int), startC c op a b n size = x.at_ p1 ∧ startC (c.at_ (c.pc + m)) op a b n size = x.at_ p2 ∧ startQ c op a b n size = ⟨k, ad, v1, r⟩ ∧ startQ (c.at_ (c.pc + m)) op a b n size = ⟨k, ad, v2, r⟩ ∧
      (x.st = 0 → wrap64 (p2 - p1) = m) ∧ (op = 23 → k = 2 → wrap64 (v2 - v1) = m) ∧ ((¬ op = 23 ∨ ¬ k = 2) → v1 = v2) ∧ (op = 23 → k = 2 ∨ k = 0) := by
  cases hd : does c op a b with
  | false =>
    have hd' : does (c.at_ (c.pc + m)) op a b = false := hd
    unfold startC startQ
    rw [if_neg (by rw [hd]; decide), if_neg (by rw [hd']; decide), if_neg (by rw [hd]; decide), if_neg (by rw [hd']; decide)]
    exact ⟨c, c.pc, c.pc + m, 0, 0, 0, 0, 0, rfl, rfl, rfl, rfl, fun _ => wrap_diff0 hm, fun _ h => absurd h (by decide), fun _ => rfl, fun _ => .inr rfl⟩
  | true =>
    have hd' : does (c.at_ (c.pc + m)) op a b = true := hd
    unfold startC startQ
    rw [if_pos hd, if_pos hd', if_pos hd, if_pos hd']
    obtain ⟨x, p1, p2, e1, e2, e3⟩ := turned_shift c op a.toNat b.toNat n size m hm
    obtain ⟨k, ad, v1, v2, r, g1, g2, g3, g4⟩ := asked_shift c op a.toNat b.toNat n size m hm
    refine ⟨x, p1, p2, k, ad, v1, v2, r, e1, e2, g1, g2, e3, fun h _ => g3 h, fun h => ?_, fun h => ?_⟩
    · by_cases h23 : op = 23
      · subst h23
        rcases h with h | h
        · exact absurd rfl h
        · exact absurd (congrArg Q.k g1).symm h
      · exact g4 h23
    · subst h
      exact .inl (congrArg Q.k g1).symm

/-- A short jump, and the long one. -/
theorem near_C (c : C) (op op' : Int) (a : Int) (n size : Int) (h : (op = 20 ∧ op' = 25) ∨ (op = 21 ∧ op' = 26) ∨ (op = 22 ∧ op' = 27)) :
    startC c op a 0 n size = startC c op' a 0 n size ∧ startQ c op a 0 n size = startQ c op' a 0 n size := by
  have hd : does c op a 0 = does c op' a 0 := by
    unfold does known
    congr 1
    rw [Bool.eq_iff_iff]
    simp
    omega
  unfold startC startQ
  rw [hd]
  split
  · rw [asked_no (by omega), asked_no (by omega)]
    refine ⟨?_, rfl⟩
    have hj : jumps c op a.toNat = jumps c op' a.toNat := by
      rcases h with ⟨rfl, rfl⟩ | ⟨rfl, rfl⟩ | ⟨rfl, rfl⟩
      · rfl
      · rw [jumps_z (by omega), jumps_z (by omega)]
      · rw [jumps_nz (by omega), jumps_nz (by omega)]
    cases hj' : jumps c op' a.toNat with
    | true => rw [turned_jump (by omega) (by omega) (hj.trans hj'), turned_jump (by omega) (by omega) hj', moved_no (by omega), moved_no (by omega)]
    | false => rw [turned_stay (by omega) (by omega) (hj.trans hj'), turned_stay (by omega) (by omega) hj', moved_no (by omega), moved_no (by omega)]
  · exact ⟨rfl, rfl⟩
end Go.Proofs.Ytnfkklpionbnoaa.S

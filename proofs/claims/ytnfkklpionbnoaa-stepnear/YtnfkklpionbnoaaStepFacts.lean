/- What an instruction turns, and what it leaves. -/
import Derived.Test.YtnfkklpionbnoaaStepMath
namespace Go.Proofs.Ytnfkklpionbnoaa.S
open Go.RowKit

theorem put_pc (c : C) (k : Nat) (v : Int) : (c.put k v).pc = c.pc ∧ (c.put k v).st = c.st ∧ (c.put k v).tr = c.tr := by
  unfold C.put
  split <;> exact ⟨rfl, rfl, rfl⟩
theorem moved_pc (c : C) (op : Int) (a b : Nat) (n : Int) : (moved c op a b n).st = if op = 32 then 1 else c.st := by
  unfold moved
  split
  · rw [(put_pc _ _ _).2.1, if_neg (by omega)]
  split
  · rw [(put_pc _ _ _).2.1, if_neg (by omega)]
  split
  · rw [(put_pc _ _ _).2.1, if_neg (by omega)]
  split
  · rw [(put_pc _ _ _).2.1, if_neg (by omega)]
  split
  · rfl
  · rfl
theorem binE_no {op y : Int} (h : 3 ≤ op ∧ op ≤ 16) (he : ¬ W.binE op y = 0) : op = 6 ∨ op = 7 := by
  rcases (show op = 3 ∨ op = 4 ∨ op = 5 ∨ op = 6 ∨ op = 7 ∨ op = 8 ∨ op = 9 ∨ op = 10 ∨ op = 11 ∨ op = 12 ∨ op = 13 ∨ op = 14 ∨ op = 15 ∨ op = 16 by omega) with rfl | rfl | rfl | rfl | rfl | rfl | rfl | rfl | rfl | rfl | rfl | rfl | rfl | rfl
  all_goals first | omega | exact absurd (by simp [W.binE]) he

/-- An instruction that is no jump and no TRAP. -/
theorem plain (c : C) (op : Int) (a b : Nat) (n next : Int) (hs : c.st = 0) (hj : op < 20 ∨ 27 < op) (h33 : ¬ op = 33) :
    ((turned c op a b n next).st = 2 → (op = 6 ∨ op = 7) ∧ (turned c op a b n next).pc = c.pc ∧ asked c op a b n next = ⟨0, 0, 0, 0⟩) ∧
    (¬ (turned c op a b n next).st = 2 → (turned c op a b n next).pc = next ∧ ((turned c op a b n next).st = 1 ↔ op = 32)) := by
  by_cases hc : 3 ≤ op ∧ op ≤ 16
  · rw [turned_comp hc]
    by_cases he : W.binE op (wrap64 (c.rd b)) = 0
    · rw [computed_yes he]
      simp only [(put_pc _ _ _).2.1, hs]
      exact ⟨fun h => absurd h (by decide), fun _ => ⟨trivial, fun h => absurd h (by decide), fun h => by omega⟩⟩
    · rw [computed_no he]
      exact ⟨fun _ => ⟨binE_no hc he, rfl, asked_no (by omega)⟩, fun h => absurd rfl h⟩
  · rw [turned_stay h33 hc (jumps_no (by omega) (by omega) (by omega))]
    simp only [moved_pc, hs]
    by_cases h32 : op = 32
    · rw [if_pos h32]
      exact ⟨fun h => absurd h (by decide), fun _ => ⟨trivial, fun _ => h32, fun _ => rfl⟩⟩
    · rw [if_neg h32]
      exact ⟨fun h => absurd h (by decide), fun _ => ⟨trivial, fun h => absurd h (by decide), fun h => absurd h h32⟩⟩

theorem put_rd (c : C) (j : Nat) (v : Int) (k : Nat) (h : k ≠ j) : (c.put j v).rd k = c.rd k := by
  unfold C.put
  split <;> (unfold C.rd; split <;> first | rfl | omega)
theorem moved_rd (c : C) (op : Int) (a b : Nat) (n : Int) (k : Nat) (h : k ≠ a) (h7 : k = 7 → ¬ op = 23 ∧ ¬ op = 24) : (moved c op a b n).rd k = c.rd k := by
  unfold moved
  split
  · exact put_rd _ _ _ _ h
  split
  · exact put_rd _ _ _ _ h
  split
  · exact put_rd _ _ _ _ (by intro e; have := h7 e; omega)
  split
  · exact put_rd _ _ _ _ (by intro e; have := h7 e; omega)
  split <;> rfl
theorem rd_with (c : C) (p s t : Int) (k : Nat) : ({ c with pc := p, st := s, tr := t } : C).rd k = c.rd k := rfl
/-- An instruction turns at most one register beside the stack's, its first one. -/
theorem turned_rd (c : C) (op : Int) (a b : Nat) (n next : Int) (k : Nat) (h : k ≠ a) (h7 : k = 7 → ¬ op = 23 ∧ ¬ op = 24) : (turned c op a b n next).rd k = c.rd k := by
  unfold turned
  split
  · rfl
  split
  · unfold computed
    split
    · exact put_rd c a _ k h
    · rfl
  · exact moved_rd c op a b n k h h7
theorem startC_rd (c : C) (op a b n size : Int) (k : Nat) (h : (k : Int) ≠ a) (h7 : k = 7 → ¬ op = 23 ∧ ¬ op = 24) : (startC c op a b n size).rd k = c.rd k := by
  unfold startC
  split
  · rename_i hd
    have hk : known op a b = true := by
      unfold does at hd
      exact (Bool.and_eq_true_iff.1 hd).2
    have := of_decide_eq_true hk
    exact turned_rd c op a.toNat b.toNat n _ k (by omega) h7
  · rfl
theorem startC_not (c : C) (op a b n size : Int) (h : ¬ c.st = 0) : startC c op a b n size = c ∧ startQ c op a b n size = ⟨0, 0, 0, 0⟩ := by
  have hd : does c op a b = false := by unfold does; rw [decide_eq_false h]; rfl
  unfold startC startQ
  rw [if_neg (by rw [hd]; decide), if_neg (by rw [hd]; decide)]
  exact ⟨rfl, rfl⟩
theorem start_yes (c : C) (op : Int) (a b : Nat) (n size : Int) (hs : c.st = 0) (h1 : 1 ≤ op) (h2 : op ≤ 33) (ha : a < 8) (hb : b < 8) : startC c op a b n size = turned c op a b n (wrap64 (c.pc + size)) ∧ startQ c op a b n size = asked c op a b n (wrap64 (c.pc + size)) := by
  have hd : does c op a b = true := by
    unfold does
    rw [decide_eq_true hs, show known op a b = true from decide_eq_true (by omega)]; rfl
  unfold startC startQ
  rw [if_pos hd, if_pos hd]
  exact ⟨rfl, rfl⟩

end Go.Proofs.Ytnfkklpionbnoaa.S

/- The instruction of a mnemonic. -/
import Derived.Test.YtgjingleolhkbaaGreatDoorAsTab
import Derived.Deep.MidRow
namespace Go.Proofs.YtgjingleolhkbaaGreatDoor
open Go.RowKit
set_option linter.unusedVariables false
set_option linter.unusedSimpArgs false

def X.rowsL : List Value := X.rows.flatMap fun r => [.string (X.str r.1), .string (X.str r.2)]
theorem cases34 {P : Nat → Prop} (k : Nat) (h : k < 34) (h0 : P 0) (h1 : P 1) (h2 : P 2) (h3 : P 3) (h4 : P 4) (h5 : P 5) (h6 : P 6) (h7 : P 7) (h8 : P 8) (h9 : P 9) (h10 : P 10) (h11 : P 11) (h12 : P 12) (h13 : P 13) (h14 : P 14) (h15 : P 15) (h16 : P 16) (h17 : P 17) (h18 : P 18) (h19 : P 19) (h20 : P 20) (h21 : P 21) (h22 : P 22) (h23 : P 23) (h24 : P 24) (h25 : P 25) (h26 : P 26) (h27 : P 27) (h28 : P 28) (h29 : P 29) (h30 : P 30) (h31 : P 31) (h32 : P 32) (h33 : P 33) : P k := by
  rcases (show k = 0 ∨ k = 1 ∨ k = 2 ∨ k = 3 ∨ k = 4 ∨ k = 5 ∨ k = 6 ∨ k = 7 ∨ k = 8 ∨ k = 9 ∨ k = 10 ∨ k = 11 ∨ k = 12 ∨ k = 13 ∨ k = 14 ∨ k = 15 ∨ k = 16 ∨ k = 17 ∨ k = 18 ∨ k = 19 ∨ k = 20 ∨ k = 21 ∨ k = 22 ∨ k = 23 ∨ k = 24 ∨ k = 25 ∨ k = 26 ∨ k = 27 ∨ k = 28 ∨ k = 29 ∨ k = 30 ∨ k = 31 ∨ k = 32 ∨ k = 33 by omega) with rfl | rfl | rfl | rfl | rfl | rfl | rfl | rfl | rfl | rfl | rfl | rfl | rfl | rfl | rfl | rfl | rfl | rfl | rfl | rfl | rfl | rfl | rfl | rfl | rfl | rfl | rfl | rfl | rfl | rfl | rfl | rfl | rfl | rfl <;> assumption
set_option maxRecDepth 100000 in
theorem index_rows (k : Nat) (hk : k < 34) (w : World) : (Instr.index 143 (.agg X.rowsL.toArray) (.int .i64 k)).run Tryz.prog w = .ok (.agg #[.string (X.str (X.row k).1), .string (X.str (X.row k).2)]) w := by
  refine cases34 (P := fun k => (Instr.index 143 (.agg X.rowsL.toArray) (.int .i64 k)).run Tryz.prog w = .ok (.agg #[.string (X.str (X.row k).1), .string (X.str (X.row k).2)]) w) k hk ?_ ?_ ?_ ?_ ?_ ?_ ?_ ?_ ?_ ?_ ?_ ?_ ?_ ?_ ?_ ?_ ?_ ?_ ?_ ?_ ?_ ?_ ?_ ?_ ?_ ?_ ?_ ?_ ?_ ?_ ?_ ?_ ?_ ?_
  all_goals rfl
theorem rowsL_length : X.rowsL.length = 68 := rfl
theorem rowsL_at (k : Nat) (hk : k < 34) : X.rowsL[k * 2]? = some (.string (X.str (X.row k).1)) ∧ X.rowsL[k * 2 + 1]? = some (.string (X.str (X.row k).2)) := by
  refine cases34 (P := fun k => X.rowsL[k * 2]? = some (.string (X.str (X.row k).1)) ∧ X.rowsL[k * 2 + 1]? = some (.string (X.str (X.row k).2))) k hk ?_ ?_ ?_ ?_ ?_ ?_ ?_ ?_ ?_ ?_ ?_ ?_ ?_ ?_ ?_ ?_ ?_ ?_ ?_ ?_ ?_ ?_ ?_ ?_ ?_ ?_ ?_ ?_ ?_ ?_ ?_ ?_ ?_ ?_
  all_goals exact ⟨rfl, rfl⟩
theorem rows_range {w : World} (ht : Tab w) : w.rangeAt 0 0 X.rowsL := by
  intro j v hv
  have hj : j < 68 := by have := (List.getElem?_eq_some_iff.1 hv).1; rw [rowsL_length] at this; exact this
  obtain ⟨h1, h2⟩ := rowsL_at (j / 2) (by omega)
  obtain ⟨h3, h4⟩ := ht.rw (j / 2) (by omega)
  rw [Nat.zero_add]
  by_cases e : j % 2 = 0
  · rw [show j = j / 2 * 2 by omega] at hv ⊢
    rw [h1] at hv
    cases hv
    exact h3
  · rw [show j = j / 2 * 2 + 1 by omega] at hv ⊢
    rw [h2] at hv
    cases hv
    exact h4
theorem opOf_yes {m : X.By} {k : Nat} (hk : k < 34) (h : (X.row k).1 = m) (hno : ∀ j, j < k → (X.row j).1 ≠ m) : X.opOf m = some k := by
  unfold X.opOf
  rw [List.findIdx?_eq_some_iff_getElem]
  have hg : ∀ j, (hj : j < 34) → X.rows[j]'(by rw [X.rows_length]; exact hj) = X.row j := fun j hj => by simp [X.row, List.getD, X.rows_length, hj]
  refine ⟨by rw [X.rows_length]; exact hk, by rw [hg k hk]; simpa using h, fun j hj => ?_⟩
  rw [hg j (by omega)]
  simpa using hno j hj
theorem opOf_no {m : X.By} (hno : ∀ j, j < 34 → (X.row j).1 ≠ m) : X.opOf m = none := by
  unfold X.opOf
  rw [List.findIdx?_eq_none_iff]
  intro x hx
  obtain ⟨j, hj, rfl⟩ := List.mem_iff_getElem.1 hx
  have hj' : j < 34 := by rw [X.rows_length] at hj; exact hj
  have := hno j hj'
  simp only [X.row, List.getD, List.getElem?_eq_getElem hj, Option.getD_some] at this
  simpa using this
/-- What 'opOf' answers. -/
def OpOut (w : World) (r : Option Nat) (e : Ending) (w' : World) : Prop := (match r with | none => e = .returned (.tuple #[.int .i64 0, .bool false]) | some k => e = .returned (.tuple #[.int .i64 (k : Int), .bool true])) ∧ Below w.heap.size w w'

set_option maxRecDepth 100000 in
set_option maxHeartbeats 8000000 in
theorem opOf_any (s : ByteArray) (w : World) (ht : Tab w) :
    Calls Tryz.prog 115 #[.string s] w (OpOut w (X.opOf s.data.toList)) := by
  have HG : Hid _ := rows_range ht
  have hz := ht.hz
  have z0 : 0 < w.heap.size := by omega
  clear ht
  go_enter Tryz.func115, Tryz.ntmps115
  have hA := index_rows
  go_wp2_with (refine wpList_load_mid (by rfl) 143 (.global 0) (by rfl) 0 0 (by rfl) X.rowsL _ HG.out Tryz.underlying143 (by rfl) (by rw [rowsL_length]; kernel_rfl) ?_; simp only [Act.put, List.setIfInBounds_toArray, List.set_cons_zero, List.set_cons_succ]; generalize Value.agg X.rowsL.toArray = A at hA ⊢)
  go_loopg [7] 34 (fun r i wq => ∃ (k : Nat), i = .int .i64 k ∧ k ≤ 34 ∧ 34 - k ≤ r ∧ Hid (∀ j, j < k → (X.row j).1 ≠ s.data.toList) ∧ Hid (Below w.heap.size w wq))
  case atStart => exact ⟨0, rfl, Nat.zero_le _, by omega, (fun j hj => by omega : ∀ j, j < 0 → (X.row j).1 ≠ s.data.toList), Below.refl _ _⟩
  case round =>
    obtain ⟨k, rfl, hk, hr, HA, HB⟩ := hrel
    by_cases hlt : k < 34
    · have hix := hA k hlt
      by_cases he : (X.row k).1 = s.data.toList
      · have he' : ((X.str (X.row k).1).toList == s.toList) = true := toList_eq' (by rw [str_list]; exact he)
        have HR : Hid (X.opOf s.data.toList = some k) := opOf_yes hlt he HA.out
        clear he hA
        generalize X.str (X.row k).1 = b1 at *
        generalize X.str (X.row k).2 = b2 at *
        go_wp2_with fail
        go_ret2
        unfold OpOut; rw [HR.out]; exact ⟨rfl, HB.out.alloc HB.out.size _⟩
      · have he' : ((X.str (X.row k).1).toList == s.toList) = false := toList_ne' (by rw [str_list]; exact he)
        have HN : Hid (∀ j, j < k + 1 → (X.row j).1 ≠ s.data.toList) := fun j hj => by
          by_cases e : j = k
          · subst e; exact he
          · exact HA.out j (by omega)
        clear he hA
        generalize X.str (X.row k).1 = b1 at *
        generalize X.str (X.row k).2 = b2 at *
        go_wp2_with fail
        go_roundg (34 - (k + 1))
        case measure => omega
        case rel => exact ⟨k + 1, by go_num, by omega, Nat.le_refl _, HN.out, HB.out.alloc HB.out.size _⟩
    · obtain rfl : k = 34 := by omega
      have HR : Hid (X.opOf s.data.toList = none) := opOf_no HA.out
      clear hA
      go_wp2_with fail
      go_ret2
      unfold OpOut; rw [HR.out]; exact ⟨rfl, HB.out⟩

end Go.Proofs.YtgjingleolhkbaaGreatDoor

/- The table of words; whether a text is a name. -/
import Derived.Test.YtfnakckiidblkaaDoorLexSmall
namespace Go.Proofs.YtfnakckiidblkaaDoor
open Go.RowKit
set_option linter.unusedVariables false

/-- The table as it lies. -/
def X.wordsV : Array Value := #[.string { data := #[108, 111, 99, 107] }, .string { data := #[116, 105, 99, 107, 101, 116] }, .string { data := #[113, 117, 101, 117, 101] }, .string { data := #[101, 120, 116, 101, 114, 110] }, .string { data := #[105, 110, 116] }, .string { data := #[98, 121] }, .string { data := #[114, 97, 110, 107] }, .string { data := #[116, 104, 114, 101, 97, 100] }, .string { data := #[118, 97, 114] }, .string { data := #[105, 102] }, .string { data := #[101, 108, 115, 101] }, .string { data := #[119, 104, 105, 108, 101] }, .string { data := #[119, 105, 116, 104] }, .string { data := #[112, 114, 105, 110, 116] }, .string { data := #[114, 101, 116, 117, 114, 110] }, .string { data := #[103, 101, 116] }, .string { data := #[112, 117, 116] }]

structure Tab (w : World) : Prop where
  wd : ∀ o : Nat, w.cell? ⟨0, o, none⟩ = X.wordsV[o]?
  es : ∃ ev, w.cell? ⟨2, 0, none⟩ = some ev ∧ (ev = .nilIface ∨ ∃ te pe, ev = .iface te pe)
  er : ∃ ev, w.cell? ⟨3, 0, none⟩ = some ev ∧ (ev = .nilIface ∨ ∃ te pe, ev = .iface te pe)
  ml : ∃ m, w.cell? ⟨1, 0, none⟩ = some (.int .i64 m)
  hz : 4 ≤ w.heap.size

theorem Tab.below {w w' : World} (h : Tab w) (hb : Below w.heap.size w w') : Tab w' := by
  have hz := h.hz
  have k : ∀ b o, b < 4 → w'.cell? ⟨b, o, none⟩ = w.cell? ⟨b, o, none⟩ := fun b o hb' => hb.cell (p := ⟨b, o, none⟩) (show b < w.heap.size by omega)
  obtain ⟨e1, h1, h2⟩ := h.es
  obtain ⟨e2, h3, h4⟩ := h.er
  obtain ⟨m, h5⟩ := h.ml
  exact ⟨fun o => (k 0 o (by omega)).trans (h.wd o), ⟨e1, (k 2 0 (by omega)).trans h1, h2⟩, ⟨e2, (k 3 0 (by omega)).trans h3, h4⟩, ⟨m, (k 1 0 (by omega)).trans h5⟩, Nat.le_trans hz hb.size⟩
theorem Tab.alloc {w : World} (h : Tab w) (o : Obj) : Tab (w.alloc o) := h.below ((Below.refl _ _).alloc (Nat.le_refl _) _)

theorem cases17 {P : Nat → Prop} (k : Nat) (h : k < 17) (h0 : P 0) (h1 : P 1) (h2 : P 2) (h3 : P 3) (h4 : P 4) (h5 : P 5) (h6 : P 6) (h7 : P 7) (h8 : P 8) (h9 : P 9) (h10 : P 10) (h11 : P 11) (h12 : P 12) (h13 : P 13) (h14 : P 14) (h15 : P 15) (h16 : P 16) : P k := by
  rcases (show k = 0 ∨ k = 1 ∨ k = 2 ∨ k = 3 ∨ k = 4 ∨ k = 5 ∨ k = 6 ∨ k = 7 ∨ k = 8 ∨ k = 9 ∨ k = 10 ∨ k = 11 ∨ k = 12 ∨ k = 13 ∨ k = 14 ∨ k = 15 ∨ k = 16 by omega) with rfl | rfl | rfl | rfl | rfl | rfl | rfl | rfl | rfl | rfl | rfl | rfl | rfl | rfl | rfl | rfl | rfl <;> assumption
theorem wordsV_at (k : Nat) (h : k < 17) : ∃ b : ByteArray, X.wordsV[k]? = some (.string b) ∧ X.words[k]? = some b.data.toList := by
  refine cases17 (P := fun k => ∃ b : ByteArray, X.wordsV[k]? = some (.string b) ∧ X.words[k]? = some b.data.toList) k h ?_ ?_ ?_ ?_ ?_ ?_ ?_ ?_ ?_ ?_ ?_ ?_ ?_ ?_ ?_ ?_ ?_ <;> exact ⟨_, rfl, rfl⟩
theorem toList_ne' {a b : ByteArray} (h : ¬ a.data.toList = b.data.toList) : (a.toList == b.toList) = false := by
  rw [ByteArray.toList_eq, ByteArray.toList_eq]
  exact beq_eq_false_iff_ne.2 h
theorem toList_eq' {a b : ByteArray} (h : a.data.toList = b.data.toList) : (a.toList == b.toList) = true := by
  rw [ByteArray.toList_eq, ByteArray.toList_eq]
  exact beq_iff_eq.2 h
theorem word_yes {l : X.By} {k : Nat} (h : X.words[k]? = some l) : X.isWord l = true := by
  rw [X.isWord, List.contains_iff_mem]
  exact List.mem_of_getElem? h
theorem word_no {l : X.By} (h : ∀ (k : Nat) b, k < 17 → X.words[k]? = some b → b ≠ l) : X.isWord l = false := by
  rw [Bool.eq_false_iff]
  intro hc
  rw [X.isWord, List.contains_iff_mem] at hc
  obtain ⟨k, hk⟩ := List.mem_iff_getElem?.1 hc
  exact h k l (by have := (List.getElem?_eq_some_iff.1 hk).1; exact this) hk rfl

set_option maxRecDepth 100000 in
theorem index_words (k : Nat) (b : ByteArray) (h : X.wordsV[k]? = some (.string b)) (w : World) : (Instr.index 44 (.agg X.wordsV) (.int .i64 k)).run Tryd.prog w = .ok (.string b) w := by
  have hk : k < 17 := (Array.getElem?_eq_some_iff.1 h).1
  revert b
  refine cases17 (P := fun k => ∀ b : ByteArray, X.wordsV[k]? = some (.string b) → (Instr.index 44 (.agg X.wordsV) (.int .i64 k)).run Tryd.prog w = .ok (.string b) w) k hk ?_ ?_ ?_ ?_ ?_ ?_ ?_ ?_ ?_ ?_ ?_ ?_ ?_ ?_ ?_ ?_ ?_
  all_goals
    intro b hb
    injection hb with hb
    injection hb with hb
    subst hb
    rfl

set_option maxRecDepth 100000 in
set_option maxHeartbeats 8000000 in
theorem isWord_any (s : ByteArray) (w : World) (ht : Tab w) :
    Calls Tryd.prog 20 #[.string s] w fun e w' => e = .returned (.bool (X.isWord s.data.toList)) ∧ w' = w := by
  have h0 := ht.wd
  have c0 : w.cell? ⟨0, 0, none⟩ = some (.string { data := #[108, 111, 99, 107] }) := h0 0
  have c1 : w.cell? ⟨0, 1, none⟩ = some (.string { data := #[116, 105, 99, 107, 101, 116] }) := h0 1
  have c2 : w.cell? ⟨0, 2, none⟩ = some (.string { data := #[113, 117, 101, 117, 101] }) := h0 2
  have c3 : w.cell? ⟨0, 3, none⟩ = some (.string { data := #[101, 120, 116, 101, 114, 110] }) := h0 3
  have c4 : w.cell? ⟨0, 4, none⟩ = some (.string { data := #[105, 110, 116] }) := h0 4
  have c5 : w.cell? ⟨0, 5, none⟩ = some (.string { data := #[98, 121] }) := h0 5
  have c6 : w.cell? ⟨0, 6, none⟩ = some (.string { data := #[114, 97, 110, 107] }) := h0 6
  have c7 : w.cell? ⟨0, 7, none⟩ = some (.string { data := #[116, 104, 114, 101, 97, 100] }) := h0 7
  have c8 : w.cell? ⟨0, 8, none⟩ = some (.string { data := #[118, 97, 114] }) := h0 8
  have c9 : w.cell? ⟨0, 9, none⟩ = some (.string { data := #[105, 102] }) := h0 9
  have c10 : w.cell? ⟨0, 10, none⟩ = some (.string { data := #[101, 108, 115, 101] }) := h0 10
  have c11 : w.cell? ⟨0, 11, none⟩ = some (.string { data := #[119, 104, 105, 108, 101] }) := h0 11
  have c12 : w.cell? ⟨0, 12, none⟩ = some (.string { data := #[119, 105, 116, 104] }) := h0 12
  have c13 : w.cell? ⟨0, 13, none⟩ = some (.string { data := #[112, 114, 105, 110, 116] }) := h0 13
  have c14 : w.cell? ⟨0, 14, none⟩ = some (.string { data := #[114, 101, 116, 117, 114, 110] }) := h0 14
  have c15 : w.cell? ⟨0, 15, none⟩ = some (.string { data := #[103, 101, 116] }) := h0 15
  have c16 : w.cell? ⟨0, 16, none⟩ = some (.string { data := #[112, 117, 116] }) := h0 16
  have hz := ht.hz
  have z0 : 0 < w.heap.size := by omega
  clear ht h0
  go_enter Tryd.func20, Tryd.ntmps20
  go_wp2
  clear c0 c1 c2 c3 c4 c5 c6 c7 c8 c9 c10 c11 c12 c13 c14 c15 c16
  have hA := index_words
  conv at hA => enter [k, b, h, w, 1]; unfold X.wordsV
  generalize Value.agg #[.string { data := #[108, 111, 99, 107] }, .string { data := #[116, 105, 99, 107, 101, 116] }, .string { data := #[113, 117, 101, 117, 101] }, .string { data := #[101, 120, 116, 101, 114, 110] }, .string { data := #[105, 110, 116] }, .string { data := #[98, 121] }, .string { data := #[114, 97, 110, 107] }, .string { data := #[116, 104, 114, 101, 97, 100] }, .string { data := #[118, 97, 114] }, .string { data := #[105, 102] }, .string { data := #[101, 108, 115, 101] }, .string { data := #[119, 104, 105, 108, 101] }, .string { data := #[119, 105, 116, 104] }, .string { data := #[112, 114, 105, 110, 116] }, .string { data := #[114, 101, 116, 117, 114, 110] }, .string { data := #[103, 101, 116] }, .string { data := #[112, 117, 116] }] = A at hA ⊢
  go_loop [6] (fun i => ∃ (k : Nat), i = .int .i64 k ∧ k ≤ 17 ∧ Hid (∀ (j : Nat) b, j < k → X.words[j]? = some b → b ≠ s.data.toList)) (fun i => 17 - (intOf i).toNat)
  case atStart => exact ⟨0, rfl, Nat.zero_le _, (fun j b hj => by omega : ∀ (j : Nat) b, j < 0 → X.words[j]? = some b → b ≠ s.data.toList)⟩
  case round =>
    obtain ⟨k, rfl, hk, HA⟩ := hrel
    by_cases hlt : k < 17
    · obtain ⟨b, hb1, hb2⟩ := wordsV_at k hlt
      have HB2 : Hid _ := hb2
      have hix := hA k b hb1
      clear hb2 hb1 hA
      by_cases he : b.data.toList = s.data.toList
      · have he' := toList_eq' he
        have HE : Hid _ := he
        clear he
        go_wp2
        go_ret
        exact ⟨ret_b (word_yes (k := k) (by rw [HB2.out, HE.out])).symm, rfl⟩
      · have he' := toList_ne' he
        have HE : Hid _ := he
        clear he
        go_wp2
        go_round
        case rel =>
          refine ⟨k + 1, by go_num, by omega, fun j b' hj hb' => ?_⟩
          by_cases e : j = k
          · subst e; rw [HB2.out] at hb'; cases hb'; exact HE.out
          · exact HA.out j b' (by omega) hb'
        case measure => simp [intOf]; omega
    · go_wp2
      go_ret
      obtain rfl : k = 17 := by omega
      exact ⟨ret_b (word_no HA.out).symm, rfl⟩

end Go.Proofs.YtfnakckiidblkaaDoor

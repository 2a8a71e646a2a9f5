/- The document's sign. -/
import Derived.Test.YtfnakckiidblkaaDoorLexRefNum
namespace Go.Proofs.YtfnakckiidblkaaDoor
open Go.RowKit
set_option linter.unusedVariables false
set_option linter.unusedSimpArgs false

def X.signs : List X.By := [[38, 38], [124, 124], [61, 61], [33, 61], [60, 61], [62, 61], [60, 60], [62, 62], [43], [45], [42], [47], [37], [38], [124], [94], [60], [62], [33], [61], [40], [41], [123], [125], [91], [93], [59], [44]]
def X.sign (l : X.By) : X.By := (X.signs.find? fun t => t.isPrefixOf l).getD []
def X.signsV : Array Value := #[.string { data := #[38, 38] }, .string { data := #[124, 124] }, .string { data := #[61, 61] }, .string { data := #[33, 61] }, .string { data := #[60, 61] }, .string { data := #[62, 61] }, .string { data := #[60, 60] }, .string { data := #[62, 62] }, .string { data := #[43] }, .string { data := #[45] }, .string { data := #[42] }, .string { data := #[47] }, .string { data := #[37] }, .string { data := #[38] }, .string { data := #[124] }, .string { data := #[94] }, .string { data := #[60] }, .string { data := #[62] }, .string { data := #[33] }, .string { data := #[61] }, .string { data := #[40] }, .string { data := #[41] }, .string { data := #[123] }, .string { data := #[125] }, .string { data := #[91] }, .string { data := #[93] }, .string { data := #[59] }, .string { data := #[44] }]
theorem signsV_at (k : Nat) (h : k < 28) : ∃ b : ByteArray, X.signsV[k]? = some (.string b) ∧ X.signs[k]? = some b.data.toList := by
  rcases (show k = 0 ∨ k = 1 ∨ k = 2 ∨ k = 3 ∨ k = 4 ∨ k = 5 ∨ k = 6 ∨ k = 7 ∨ k = 8 ∨ k = 9 ∨ k = 10 ∨ k = 11 ∨ k = 12 ∨ k = 13 ∨ k = 14 ∨ k = 15 ∨ k = 16 ∨ k = 17 ∨ k = 18 ∨ k = 19 ∨ k = 20 ∨ k = 21 ∨ k = 22 ∨ k = 23 ∨ k = 24 ∨ k = 25 ∨ k = 26 ∨ k = 27 by omega) with rfl | rfl | rfl | rfl | rfl | rfl | rfl | rfl | rfl | rfl | rfl | rfl | rfl | rfl | rfl | rfl | rfl | rfl | rfl | rfl | rfl | rfl | rfl | rfl | rfl | rfl | rfl | rfl <;> exact ⟨_, rfl, rfl⟩
theorem find_at {l : X.By} {ss : List X.By} {k : Nat} {b : X.By} (hk : ss[k]? = some b) (hb : b.isPrefixOf l = true) (hno : ∀ (j : Nat) c, j < k → ss[j]? = some c → c.isPrefixOf l = false) : ss.find? (fun t => t.isPrefixOf l) = some b := by
  induction ss generalizing k with
  | nil => simp at hk
  | cons a ss ih =>
    cases k with
    | zero => simp at hk; subst hk; simp [List.find?_cons, hb]
    | succ k =>
      have h0 := hno 0 a (by omega) rfl
      rw [List.find?_cons, h0]
      exact ih (by simpa using hk) (fun j c hj hc => hno (j + 1) c (by omega) (by simpa using hc))
theorem find_no {l : X.By} {ss : List X.By} (hno : ∀ (j : Nat) c, ss[j]? = some c → c.isPrefixOf l = false) : ss.find? (fun t => t.isPrefixOf l) = none := by
  rw [List.find?_eq_none]
  intro b hb
  obtain ⟨j, hj⟩ := List.mem_iff_getElem?.1 hb
  rw [hno j b hj]
  simp
theorem pre_iff {b l : X.By} : b.isPrefixOf l = true ↔ l.take b.length = b := by
  rw [List.isPrefixOf_iff_prefix, List.prefix_iff_eq_take]
  exact eq_comm

set_option maxRecDepth 100000 in
set_option maxHeartbeats 8000000 in
theorem rsign_any (s : ByteArray) (hs : s.size ≤ maxLen) (w : World) :
    Calls Tryd.prog 31 #[.string s] w fun e w' => e = .returned (.string (X.str (X.sign s.data.toList))) ∧ Below w.heap.size w w' := by
  have hmx : maxLen = 9223372036854775807 := rfl
  go_enter Tryd.func31, Tryd.ntmps31
  go_wp2
  have hA : ∀ (k : Nat) (b : ByteArray), X.signsV[k]? = some (.string b) → (w.alloc (.cells X.signsV 9)).cell? ⟨w.heap.size, k, none⟩ = some (.string b) := fun k b h => row_cell h
  have HB : Hid (Below w.heap.size w (w.alloc (.cells X.signsV 9))) := (Below.refl _ _).alloc (Nat.le_refl _) _
  unfold X.signsV at HB
  conv at hA => enter [k, b, h, 1]; unfold X.signsV
  generalize w.alloc (.cells #[.string { data := #[38, 38] }, .string { data := #[124, 124] }, .string { data := #[61, 61] }, .string { data := #[33, 61] }, .string { data := #[60, 61] }, .string { data := #[62, 61] }, .string { data := #[60, 60] }, .string { data := #[62, 62] }, .string { data := #[43] }, .string { data := #[45] }, .string { data := #[42] }, .string { data := #[47] }, .string { data := #[37] }, .string { data := #[38] }, .string { data := #[124] }, .string { data := #[94] }, .string { data := #[60] }, .string { data := #[62] }, .string { data := #[33] }, .string { data := #[61] }, .string { data := #[40] }, .string { data := #[41] }, .string { data := #[123] }, .string { data := #[125] }, .string { data := #[91] }, .string { data := #[93] }, .string { data := #[59] }, .string { data := #[44] }] 9) = W0 at hA HB ⊢
  have HA : Hid _ := hA
  clear hA
  go_loopg [4] 28 (fun r i wq => ∃ (k : Nat), i = .int .i64 k ∧ k ≤ 28 ∧ 28 - k ≤ r ∧ Hid (∀ (j : Nat) c, j < k → X.signs[j]? = some c → c.isPrefixOf s.data.toList = false) ∧ Hid (∀ (k : Nat) (b : ByteArray), X.signsV[k]? = some (.string b) → wq.cell? ⟨w.heap.size, k, none⟩ = some (.string b)) ∧ Hid (Below w.heap.size w wq))
  case atStart => exact ⟨0, rfl, Nat.zero_le _, by omega, (fun j c hj => by omega : ∀ (j : Nat) c, j < 0 → X.signs[j]? = some c → c.isPrefixOf s.data.toList = false), HA.out, HB.out⟩
  case round =>
    clear HA HB
    obtain ⟨k, rfl, hk, hr, HNO, HA, HB⟩ := hrel
    by_cases hlt : k < 28
    · obtain ⟨b, hb1, hb2⟩ := signsV_at k hlt
      have HB2 : Hid _ := hb2
      have hix := HA.out k b hb1
      have hbl : b.data.toList.length = b.size := by simp
      have hsl : s.data.toList.length = s.size := by simp
      clear hb2 hb1
      have hin : 0 ≤ (k : Int) := by omega
      have hii : (k : Int) < 28 := by omega
      by_cases hsz : b.size ≤ s.size
      · have hge : decide ((b.size : Int) ≤ s.size) = true := by simp; omega
        by_cases he : s.data.toList.take b.size = b.data.toList
        · have he' : ((s.extract 0 b.size).toList == b.toList) = true := toList_eq' (by rw [extract_eq, str_list]; simpa using he)
          have HR : Hid (X.sign s.data.toList = b.data.toList) := by
            show _ = _
            unfold X.sign
            rw [find_at HB2.out (pre_iff.2 (by rw [hbl]; exact he)) HNO.out]
            rfl
          clear he
          go_wp2_with fail
          go_quiet (fail)
          have hix2 : (wr.drewN nq).cell? ⟨w.heap.size, k, none⟩ = some (.string b) := hix
          go_wp2
          go_ret
          exact ⟨by rw [HR.out, str_eq]; rfl, below_drew' HB.out _⟩
        · have he' : ((s.extract 0 b.size).toList == b.toList) = false := toList_ne' (by rw [extract_eq, str_list]; simpa using he)
          have HNO2 : Hid (b.data.toList.isPrefixOf s.data.toList = false) := by
            show _ = _
            rw [Bool.eq_false_iff]
            exact fun h => he (by have := pre_iff.1 h; rwa [hbl] at this)
          clear he
          go_wp2_with fail
          go_quiet (fail)
          go_wp2
          go_roundg (28 - (k + 1))
          case measure => omega
          case rel =>
            refine ⟨k + 1, by go_num, by omega, Nat.le_refl _, fun j c hj hc => ?_, HA.out, below_drew' HB.out _⟩
            by_cases e : j = k
            · subst e; rw [HB2.out] at hc; cases hc; exact HNO2.out
            · exact HNO.out j c (by omega) hc
      · have hge : decide ((b.size : Int) ≤ s.size) = false := by simp; omega
        have HNO2 : Hid (b.data.toList.isPrefixOf s.data.toList = false) := by
          show _ = _
          rw [Bool.eq_false_iff]
          intro h
          have := congrArg List.length (pre_iff.1 h)
          rw [List.length_take, hbl, hsl] at this
          omega
        go_wp2_with fail
        go_quiet (fail)
        go_wp2
        go_roundg (28 - (k + 1))
        case measure => omega
        case rel =>
          refine ⟨k + 1, by go_num, by omega, Nat.le_refl _, fun j c hj hc => ?_, HA.out, below_drew' HB.out _⟩
          by_cases e : j = k
          · subst e; rw [HB2.out] at hc; cases hc; exact HNO2.out
          · exact HNO.out j c (by omega) hc
    · obtain rfl : k = 28 := by omega
      have HR : Hid (X.sign s.data.toList = []) := by
        show _ = _
        unfold X.sign
        rw [find_no (fun j c hc => HNO.out j c (by have := (List.getElem?_eq_some_iff.1 hc).1; exact this) hc)]
        rfl
      go_wp2_with fail
      go_ret
      exact ⟨by rw [HR.out]; rfl, HB.out⟩

end Go.Proofs.YtfnakckiidblkaaDoor

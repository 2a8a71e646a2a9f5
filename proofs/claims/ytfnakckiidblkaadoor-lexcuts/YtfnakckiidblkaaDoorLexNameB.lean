/- lex.Name; the document's Word and Name. -/
import Derived.Test.YtfnakckiidblkaaDoorLexName
namespace Go.Proofs.YtfnakckiidblkaaDoor
open Go.RowKit
set_option linter.unusedVariables false

theorem all_span (p : UInt8 → Bool) (l : X.By) : (X.span p l = l.length) ↔ l.all p = true := by
  induction l with
  | nil => simp [X.span]
  | cons c l ih =>
    cases h : p c
    · simp [X.span, h]
    · have : X.span p (c :: l) = X.span p l + 1 := by simp [X.span, h]
      rw [this, List.all_cons, h, Bool.true_and, ← ih, List.length_cons]
      omega
theorem empty_ne {s : ByteArray} (h : s.size ≠ 0) : (s.toList == ByteArray.toList { data := #[] }) = false := by
  refine toList_ne' fun e => h ?_
  have := congrArg List.length e
  simpa using this
theorem first_list {s : ByteArray} (h : 0 < s.size) : X.first s.data.toList = s[0].toNat := by
  have := first_drop s 0 h
  simpa using this

set_option maxRecDepth 100000 in
set_option maxHeartbeats 8000000 in
theorem name_any (s : ByteArray) (hs : s.size ≤ maxLen) (w : World) (ht : Tab w) :
    Calls Tryd.prog 13 #[.string s] w fun e w' => e = .returned (.bool (X.name s.data.toList)) ∧ w' = w := by
  have hL : s.data.toList.length = s.size := by simp
  by_cases h0 : s.size = 0
  · have hnil : s.data.toList = [] := List.eq_nil_of_length_eq_zero (by omega)
    have he : s.toList = [] := by rw [ByteArray.toList_eq]; exact hnil
    have hN : X.name s.data.toList = false := by rw [hnil]; decide
    rw [hN]
    clear hN hnil
    go_enter Tryd.func13, Tryd.ntmps13
    go_wp2
    go_ret
    exact ⟨rfl, rfl⟩
  have he : ¬ s.toList = [] := by rw [ByteArray.toList_eq]; intro e; rw [e] at hL; simp at hL; omega
  have h1 : 0 < s.size := by omega
  have hne : s.data.toList ≠ [] := fun e => by rw [e] at hL; simp at hL; omega
  have HF := first_list h1
  have HT : Hid _ := ht
  by_cases h2 : s.size ≤ 12
  rotate_left
  · have hN : X.name s.data.toList = false := by simp [X.name]; omega
    rw [hN]
    clear hN ht
    go_enter Tryd.func13, Tryd.ntmps13
    go_wp2
    go_ret
    exact ⟨rfl, rfl⟩
  cases h3 : X.lt s[0].toNat
  · have hN : X.name s.data.toList = false := by simp [X.name, HF, h3]
    rw [hN]
    clear hN ht
    go_enter Tryd.func13, Tryd.ntmps13
    go_wp2_with (first | (go_at_call 17; refine (isLetter_any s[0].toNat _).mono ?_; rw [h3]; rintro e w' ⟨rfl, rfl⟩))
    go_ret
    exact ⟨rfl, rfl⟩
  have hN : X.name s.data.toList = (s.data.toList.all X.pin && !X.isWord s.data.toList) := by simp [X.name, HF, h3, hne, h2]
  rw [hN]
  have HA := all_span X.pin s.data.toList
  generalize hsp : X.span X.pin s.data.toList = sp at HA
  have hsl : sp ≤ s.size := by rw [← hsp, ← hL]; exact X.span_le _ _
  rw [hL] at HA
  cases h4 : s.data.toList.all X.pin
  · have hd : ((sp : Int) == (s.size : Int)) = false := by
      rw [h4] at HA
      simp at HA ⊢
      omega
    clear HA hN hne ht
    go_enter Tryd.func13, Tryd.ntmps13
    go_wp2_with (first | (go_at_call 17; refine (isLetter_any s[0].toNat _).mono ?_; rw [h3]; rintro e w' ⟨rfl, rfl⟩) | (go_at_call 18; refine (spanN_any s hs _).mono ?_; rw [hsp]; rintro e w' ⟨rfl, rfl⟩))
    go_ret
    exact ⟨rfl, rfl⟩
  · have hd : ((sp : Int) == (s.size : Int)) = true := by
      rw [h4] at HA
      simp at HA ⊢
      omega
    clear HA hN hne ht
    go_enter Tryd.func13, Tryd.ntmps13
    go_wp2_with (first | (go_at_call 17; refine (isLetter_any s[0].toNat _).mono ?_; rw [h3]; rintro e w' ⟨rfl, rfl⟩) | (go_at_call 18; refine (spanN_any s hs _).mono ?_; rw [hsp]; rintro e w' ⟨rfl, rfl⟩) | (go_at_call 20; refine (isWord_any s _ HT.out).mono ?_; rintro e w' ⟨rfl, rfl⟩))
    go_ret
    exact ⟨ret_b (by simp; exact fun _ => he), rfl⟩

theorem row_cell {w : World} {a : Array Value} {t : TypeId} {k : Nat} {u : Value} (h : a[k]? = some u) : (w.alloc (.cells a t)).cell? ⟨w.heap.size, k, none⟩ = some u := by
  rw [World.cell?_alloc_at _ _ _ _ rfl]
  exact h

set_option maxRecDepth 100000 in
set_option maxHeartbeats 8000000 in
theorem rword_any (s : ByteArray) (w : World) :
    Calls Tryd.prog 22 #[.string s] w fun e w' => e = .returned (.bool (X.isWord s.data.toList)) ∧ Below w.heap.size w w' := by
  go_enter Tryd.func22, Tryd.ntmps22
  go_wp2
  have hA : ∀ (k : Nat) (b : ByteArray), X.wordsV[k]? = some (.string b) → (w.alloc (.cells X.wordsV 9)).cell? ⟨w.heap.size, k, none⟩ = some (.string b) := fun k b h => row_cell h
  have HB : Hid (Below w.heap.size w (w.alloc (.cells X.wordsV 9))) := (Below.refl _ _).alloc (Nat.le_refl _) _
  unfold X.wordsV at HB
  conv at hA => enter [k, b, h, 1]; unfold X.wordsV
  generalize w.alloc (.cells #[.string { data := #[108, 111, 99, 107] }, .string { data := #[116, 105, 99, 107, 101, 116] }, .string { data := #[113, 117, 101, 117, 101] }, .string { data := #[101, 120, 116, 101, 114, 110] }, .string { data := #[105, 110, 116] }, .string { data := #[98, 121] }, .string { data := #[114, 97, 110, 107] }, .string { data := #[116, 104, 114, 101, 97, 100] }, .string { data := #[118, 97, 114] }, .string { data := #[105, 102] }, .string { data := #[101, 108, 115, 101] }, .string { data := #[119, 104, 105, 108, 101] }, .string { data := #[119, 105, 116, 104] }, .string { data := #[112, 114, 105, 110, 116] }, .string { data := #[114, 101, 116, 117, 114, 110] }, .string { data := #[103, 101, 116] }, .string { data := #[112, 117, 116] }] 9) = W at hA HB ⊢
  go_loop [4] (fun i => ∃ (k : Nat), i = .int .i64 k ∧ k ≤ 17 ∧ Hid (∀ (j : Nat) b, j < k → X.words[j]? = some b → b ≠ s.data.toList)) (fun i => 17 - (intOf i).toNat)
  case atStart => exact ⟨0, rfl, Nat.zero_le _, (fun j b hj => by omega : ∀ (j : Nat) b, j < 0 → X.words[j]? = some b → b ≠ s.data.toList)⟩
  case round =>
    obtain ⟨k, rfl, hk, HA⟩ := hrel
    by_cases hlt : k < 17
    · obtain ⟨b, hb1, hb2⟩ := wordsV_at k hlt
      have HB2 : Hid _ := hb2
      have hix := hA k b hb1
      clear hb2 hb1 hA
      by_cases he : b.data.toList = s.data.toList
      · have he' := toList_eq' he
        have HE : Hid _ := he
        clear he
        go_wp2
        go_ret
        exact ⟨ret_b (word_yes (k := k) (by rw [HB2.out, HE.out])).symm, HB.out⟩
      · have he' := toList_ne' he
        have HE : Hid _ := he
        clear he
        go_wp2
        go_round
        case rel =>
          refine ⟨k + 1, by go_num, by omega, fun j b' hj hb' => ?_⟩
          by_cases e : j = k
          · subst e; rw [HB2.out] at hb'; cases hb'; exact HE.out
          · exact HA.out j b' (by omega) hb'
        case measure => simp [intOf]; omega
    · go_wp2
      go_ret
      obtain rfl : k = 17 := by omega
      exact ⟨ret_b (word_no HA.out).symm, HB.out⟩

set_option maxRecDepth 100000 in
set_option maxHeartbeats 8000000 in
theorem rname_any (s : ByteArray) (hs : s.size ≤ maxLen) (w : World) :
    Calls Tryd.prog 14 #[.string s] w fun e w' => e = .returned (.bool (X.name s.data.toList)) ∧ Below w.heap.size w w' := by
  have hL : s.data.toList.length = s.size := by simp
  unfold maxLen at hs
  by_cases h0 : s.size = 0
  · have hnil : s.data.toList = [] := List.eq_nil_of_length_eq_zero (by omega)
    have hN : X.name s.data.toList = false := by rw [hnil]; decide
    have h1 : s.size < 1 := by omega
    rw [hN]
    clear hN hnil h0
    go_enter Tryd.func14, Tryd.ntmps14
    go_wp2
    go_ret
    exact ⟨rfl, Below.refl _ _⟩
  have h1 : 0 < s.size := by omega
  have hne : s.data.toList ≠ [] := fun e => by rw [e] at hL; simp at hL; omega
  have HF := first_list h1
  by_cases h2 : s.size ≤ 12
  rotate_left
  · have hN : X.name s.data.toList = false := by simp [X.name]; omega
    rw [hN]
    clear hN
    go_enter Tryd.func14, Tryd.ntmps14
    go_wp2
    go_ret
    exact ⟨rfl, Below.refl _ _⟩
  cases h3 : X.lt s[0].toNat
  · have hN : X.name s.data.toList = false := by simp [X.name, HF, h3]
    rw [hN]
    clear hN
    go_enter Tryd.func14, Tryd.ntmps14
    go_wp2_with (first | (go_at_call 21; refine (rletter_any s[0].toNat _).mono ?_; rw [h3]; rintro e w' ⟨rfl, rfl⟩))
    go_ret
    exact ⟨rfl, Below.refl _ _⟩
  have hN : X.name s.data.toList = (s.data.toList.all X.pin && !X.isWord s.data.toList) := by simp [X.name, HF, h3, hne, h2]
  rw [hN]
  clear hN
  cases h5 : X.isWord s.data.toList
  rotate_left
  · go_enter Tryd.func14, Tryd.ntmps14
    go_wp2_with (first | (go_at_call 21; refine (rletter_any s[0].toNat _).mono ?_; rw [h3]; rintro e w' ⟨rfl, rfl⟩) | (go_at_call 22; refine (rword_any s _).mono ?_; rw [h5]; rintro e w' ⟨rfl, HB⟩))
    go_ret
    exact ⟨ret_b (by simp), HB⟩
  go_enter Tryd.func14, Tryd.ntmps14
  go_wp2_with (first | (go_at_call 21; refine (rletter_any s[0].toNat _).mono ?_; rw [h3]; rintro e w' ⟨rfl, rfl⟩) | (go_at_call 22; refine (rword_any s _).mono ?_; rw [h5]; rintro e w' ⟨rfl, HB⟩))
  have HBL : Hid _ := HB
  clear HB
  go_loop [3] (fun i => ∃ (k : Nat), i = .int .i64 k ∧ k ≤ s.size ∧ Hid (∀ j (c : UInt8), j < k → s.data.toList[j]? = some c → X.pin c = true)) (fun i => s.size - (intOf i).toNat)
  case atStart => exact ⟨0, rfl, Nat.zero_le _, (fun j c hj => by omega : ∀ j (c : UInt8), j < 0 → s.data.toList[j]? = some c → X.pin c = true)⟩
  case round =>
    obtain ⟨k, rfl, hk, HA⟩ := hrel
    by_cases hlt : k < s.size
    · have HG : Hid (s.data.toList[k]? = some s[k]) := get_list s k hlt
      cases hc : X.lt s[k].toNat
      · cases hd : X.dg s[k].toNat
        · go_wp2_with (first | (go_at_call 21; refine (rletter_any s[k].toNat _).mono ?_; rw [hc]; rintro e w' ⟨rfl, rfl⟩) | (go_at_call 23; refine (rdigit_any s[k].toNat _).mono ?_; rw [hd]; rintro e w' ⟨rfl, rfl⟩))
          go_ret
          have hno : s.data.toList.all X.pin = false := by
            rw [List.all_eq_false]
            exact ⟨s[k], List.mem_of_getElem? HG.out, by simp [X.pin, X.inn, hc, hd]⟩
          exact ⟨ret_b (by rw [hno]; rfl), HBL.out⟩
        · go_wp2_with (first | (go_at_call 21; refine (rletter_any s[k].toNat _).mono ?_; rw [hc]; rintro e w' ⟨rfl, rfl⟩) | (go_at_call 23; refine (rdigit_any s[k].toNat _).mono ?_; rw [hd]; rintro e w' ⟨rfl, rfl⟩))
          go_round
          case rel => 
            refine ⟨k + 1, by go_num, by omega, fun j c hj hg => ?_⟩
            by_cases e : j = k
            · subst e; rw [HG.out] at hg; cases hg; simp [X.pin, X.inn, hd]
            · exact HA.out j c (by omega) hg
          case measure => simp [intOf]; omega
      · go_wp2_with (first | (go_at_call 21; refine (rletter_any s[k].toNat _).mono ?_; rw [hc]; rintro e w' ⟨rfl, rfl⟩))
        go_round
        case rel => 
          refine ⟨k + 1, by go_num, by omega, fun j c hj hg => ?_⟩
          by_cases e : j = k
          · subst e; rw [HG.out] at hg; cases hg; simp [X.pin, X.inn, hc]
          · exact HA.out j c (by omega) hg
        case measure => simp [intOf]; omega
    · go_wp2
      go_ret
      obtain rfl : k = s.size := by omega
      have hyes : s.data.toList.all X.pin = true := by
        rw [List.all_eq_true]
        intro c hc
        obtain ⟨j, hj⟩ := List.mem_iff_getElem?.1 hc
        exact HA.out j c (by have := (List.getElem?_eq_some_iff.1 hj).1; simpa using this) hj
      exact ⟨ret_b (by rw [← hyes]; simp), HBL.out⟩

end Go.Proofs.YtfnakckiidblkaaDoor

/- The walk of LexJoined. -/
import Derived.Test.YtfnakckiidblkaaDoorLexLive
import Derived.Test.YtfnakckiidblkaaDoorLexApartB
namespace Go.Proofs.YtfnakckiidblkaaDoor
open Go.RowKit Go.Maps Go.Lib
set_option linter.unusedVariables false
set_option linter.unusedSimpArgs false

theorem app_list' (a b : ByteArray) : (a ++ b).data.toList = a.data.toList ++ b.data.toList := by
  rw [ByteArray.data_append, Array.toList_append]

set_option maxRecDepth 100000 in
theorem eqSelf (k n a : Int) (s : ByteArray) (w : World) : (Op.equalIn 10000 30 (.agg #[.int .i64 k, .string s, .int .i64 n, .int .i64 a]) (.agg #[.int .i64 k, .string s, .int .i64 n, .int .i64 a])).run Tryd.prog w = .ok true w := by
  go_simp
theorem getD_take {L : List X.Tok} {k m : Nat} (h : k < m) : (L.take m).getD k noTok = L.getD k noTok := by simp [List.getD, List.getElem?_take, h]
theorem joined_left {A B C : List X.Tok} {p d k : Nat} (hC : A.take p ++ B.map (X.shift d) = C) (hA : A.length = p + 1) (hk : k < p) : C.getD k noTok = A.getD k noTok := by
  subst hC
  rw [← getD_take (L := A) hk]
  simp [List.getD, List.getElem?_append_left (show k < (A.take p).length by rw [List.length_take]; omega)]
theorem joined_right {A B C : List X.Tok} {p d j : Nat} (hC : A.take p ++ B.map (X.shift d) = C) (hA : A.length = p + 1) (hj : j < B.length) : C.getD (p + j) noTok = X.shift d (B.getD j noTok) := by
  subst hC
  have h1 : (A.take p).length = p := by rw [List.length_take]; omega
  simp only [List.getD]
  rw [List.getElem?_append_right (by omega), h1, show p + j - p = j by omega, List.getElem?_map, List.getElem?_eq_getElem hj]
  rfl

set_option maxRecDepth 100000 in
set_option maxHeartbeats 8000000 in
theorem joined_any (s t : ByteArray) (hs : s.size ≤ maxLen) (ht' : t.size ≤ maxLen) (w : World) (ht : Tab w) :
    Calls Tryd.prog 7 #[.string s, .string t] w fun e w' => e = .returned (.bool true) ∧ Below w.heap.size w w' := by
  have hL : s.data.toList.length = s.size := by simp
  have hN : t.data.toList.length = t.size := by simp
  have hmx : maxLen = 9223372036854775807 := rfl
  have HT : Hid _ := ht
  have hlive := live_any w ht
  clear ht
  by_cases h1 : 9500 < s.size
  · go_enter Tryd.func7, Tryd.ntmps7
    go_wp2_with (first | (go_at_call 12; refine hlive.mono ?_; rintro e w2 ⟨rfl, hb2⟩))
    go_ret
    exact ⟨ret_b rfl, hb2⟩
  have h1' : decide ((9500 : Int) < s.size) = false := by simp; omega
  by_cases h2 : 9500 < t.size
  · go_enter Tryd.func7, Tryd.ntmps7
    go_wp2_with (first | (go_at_call 12; refine hlive.mono ?_; rintro e w2 ⟨rfl, hb2⟩))
    go_ret
    exact ⟨ret_b rfl, hb2⟩
  have h2' : decide ((9500 : Int) < t.size) = false := by simp; omega
  have c1 := fun w h => lex_any s hs w h
  have c2 := fun w h => lex_any t ht' w h
  obtain ⟨A, z1, hr1⟩ : ∃ L z, X.lex s.data.toList = (L, z) := ⟨_, _, rfl⟩
  obtain ⟨B, z2, hr2⟩ : ∃ L z, X.lex t.data.toList = (L, z) := ⟨_, _, rfl⟩
  rw [hr1] at c1
  rw [hr2] at c2
  go_enter Tryd.func7, Tryd.ntmps7
  go_wp2_with fail
  refine (c1 _ HT.out).mono ?_
  rintro e w1 ⟨a1, n1, k1, rfl, ho, hn1, hb⟩
  have HV1 : Hid _ := TV.of_own ho hn1
  have HT1 : Hid (Tab w1) := HT.out.below hb
  have HB1 : Hid (Below w.heap.size w w1) := hb
  clear ho hb
  go_wp2_with fail
  refine (c2 _ HT1.out).mono ?_
  rintro e w2 ⟨a2, n2, k2, rfl, ho, hn2, hb2⟩
  have HV2 : Hid _ := TV.of_own ho hn2
  have HV1' : Hid _ := HV1.out.below hb2
  have HT2 : Hid (Tab w2) := HT1.out.below hb2
  have HB2 : Hid (Below w.heap.size w w2) := HB1.out.trans (hb2.mono HB1.out.size)
  have hlive2 := live_any w2 HT2.out
  have hend : ∀ w3, Below w2.heap.size w2 w3 → Below w.heap.size w w3 := fun w3 h => HB2.out.trans (h.mono HB2.out.size)
  clear ho hb2 hlive
  simp only at hn1 hn2
  by_cases hz1 : z1 = 0
  rotate_left
  · have hz : ((z1 : Int) != 0) = true := by simp; omega
    have hzz : ¬ (z1 : Int) = 0 := by omega
    go_wp2_with (first | (go_at_call 12; refine hlive2.mono ?_; rintro e w3 ⟨rfl, hb3⟩))
    go_ret
    exact ⟨ret_b rfl, hend _ hb3⟩
  subst hz1
  by_cases hz2 : z2 = 0
  rotate_left
  · have hz : ((z2 : Int) != 0) = true := by simp; omega
    have hzz : ¬ (z2 : Int) = 0 := by omega
    go_wp2_with (first | (go_at_call 12; refine hlive2.mono ?_; rintro e w3 ⟨rfl, hb3⟩))
    go_ret
    exact ⟨ret_b rfl, hend _ hb3⟩
  subst hz2
  by_cases h3 : 1900 < n1
  · go_wp2_with (first | (go_at_call 12; refine hlive2.mono ?_; rintro e w3 ⟨rfl, hb3⟩))
    go_ret
    exact ⟨ret_b rfl, hend _ hb3⟩
  have h3' : decide ((1900 : Int) < n1) = false := by simp; omega
  by_cases h4 : 1900 < n2
  · go_wp2_with (first | (go_at_call 12; refine hlive2.mono ?_; rintro e w3 ⟨rfl, hb3⟩))
    go_ret
    exact ⟨ret_b rfl, hend _ hb3⟩
  have h4' : decide ((1900 : Int) < n2) = false := by simp; omega
  have hn10 : 0 < n1 := by have := (X.std_of hr1).ne; omega
  have hn20 : 0 < n2 := by have := (X.std_of hr2).ne; omega
  have hn1e : ((n1 : Int) == 0) = false := by simp; omega
  have HS2 : Hid _ := X.std_of hr2
  have HJ : Hid _ := X.lex_joined hr1 hr2 (by omega) (by omega) (by omega) (by omega)
  obtain ⟨T, hT⟩ : ∃ T, s ++ { data := #[10] } ++ t = T := ⟨_, rfl⟩
  have hTL : T.data.toList = s.data.toList ++ 10 :: t.data.toList := by
    rw [← hT, app_list', app_list']
    simp
  have hTs : T.size = s.size + t.size + 1 := by
    rw [← len_list, hTL]
    simp
    omega
  have c3 := fun w h => lex_any T (by omega) w h
  rw [hTL, HJ.out] at c3
  obtain ⟨C, hC⟩ : ∃ C, A.take (A.length - 1) ++ B.map (X.shift (s.data.toList.length + 1)) = C := ⟨_, rfl⟩
  rw [hC] at c3
  have HCl : Hid (C.length = n1 - 1 + n2) := by
    show _ = _
    rw [← hC, List.length_append, List.length_take, List.length_map, hn1, hn2]
    omega
  go_wp2_with fail
  clear hT
  refine (c3 _ HT2.out).mono ?_
  rintro e w3 ⟨a3, n3, k3, rfl, ho, hn3, hb3⟩
  have HV3 : Hid _ := TV.of_own ho hn3
  have HV1 : Hid _ := HV1'.out.below hb3
  have HV2 : Hid _ := HV2.out.below hb3
  have HT3 : Hid (Tab w3) := HT2.out.below hb3
  have HB3 : Hid (Below w.heap.size w w3) := hend _ hb3
  obtain ⟨p, rfl⟩ : ∃ p, n1 = p + 1 := ⟨n1 - 1, by omega⟩
  have hn3' : C.length = n3 := hn3
  have hn3'' : C.length = p + 1 - 1 + n2 := HCl.out
  obtain rfl : n3 = p + n2 := by omega
  rw [hn1, Nat.add_sub_cancel] at hC
  have HC : Hid _ := hC
  have HNA : Hid (A.length = p + 1 ∧ B.length = n2) := ⟨hn1, hn2⟩
  clear ho hb3 hlive2 hend hn3 c1 c2 c3 hr1 hr2 hn1 hn2 HV1' hC HCl HJ hn3' hn3''
  have hcnt2 : (((p : Int) + n2) != ((p : Int) + n2)) = false := by simp
  go_wp2_with fail
  go_loopg [11] (p + n2) (fun r iv wq => ∃ (k : Nat), iv = .int .i64 k ∧ k ≤ p + n2 ∧ p + n2 - k ≤ r ∧ Hid (Below w3.heap.size w3 wq))
  case atStart => exact ⟨0, rfl, Nat.zero_le _, by omega, Below.refl _ _⟩
  case round =>
    obtain ⟨k, rfl, hk, hr, HB⟩ := hrel
    have HBr : Hid (Below w.heap.size w wr) := HB3.out.trans (HB.out.mono HB3.out.size)
    have HTr : Hid (Tab wr) := HT.out.below HBr.out
    by_cases hlt : k < p + n2
    · obtain ⟨b3, off3, hA3, r0, r1, r2, r3⟩ := HV3.out.at hlt
      have r0 := cell_thru HB.out r0
      have r1 := cell_thru HB.out r1
      have r2 := cell_thru HB.out r2
      have r3 := cell_thru HB.out r3
      have hin : 0 ≤ (k : Int) := by omega
      have hii : (k : Int) < (p : Int) + n2 := by omega
      subst hA3
      have hbl3 : b3 < wr.heap.size := World.block_lt_of_cell? wr ⟨b3, _, none⟩ r0
      by_cases hkp : k < p
      · obtain ⟨b1, off1, hA1, q0, q1, q2, q3⟩ := HV1.out.at (i := k) (by omega)
        have q0 := cell_thru HB.out q0
        have q1 := cell_thru HB.out q1
        have q2 := cell_thru HB.out q2
        have q3 := cell_thru HB.out q3
        subst hA1
        have hbl1 : b1 < wr.heap.size := World.block_lt_of_cell? wr ⟨b1, _, none⟩ q0
        rw [joined_left HC.out HNA.out.1 hkp] at r0 r1 r2 r3
        generalize A.getD k noTok = x at *
        have hEq := eqSelf x.kind x.n x.at' (X.str x.text)
        have hkp' : (k : Int) < p := by omega
        go_wp2_with fail
        go_quiet (fail)
        go_wp2
        go_roundg (p + n2 - (k + 1))
        case measure => omega
        case rel => exact ⟨k + 1, by go_num, by omega, Nat.le_refl _, below_drew' (HB.out.alloc HB.out.size _) _⟩
      · obtain ⟨j, rfl⟩ : ∃ j, k = p + j := ⟨k - p, by omega⟩
        have hj2 : j < n2 := by omega
        obtain ⟨b2, off2, hA2, q0, q1, q2, q3⟩ := HV2.out.at (i := j) (by omega)
        have q0 := cell_thru HB.out q0
        have q1 := cell_thru HB.out q1
        have q2 := cell_thru HB.out q2
        have q3 := cell_thru HB.out q3
        subst hA2
        have hbl2 : b2 < wr.heap.size := World.block_lt_of_cell? wr ⟨b2, _, none⟩ q0
        rw [joined_right HC.out HNA.out.1 (by rw [HNA.out.2]; exact hj2)] at r0 r1 r2 r3
        have hat := (HS2.out.each j (by rw [HNA.out.2]; exact hj2)).2.1
        rw [hN] at hat
        generalize B.getD j noTok = x at *
        simp only [X.shift, hL] at r0 r1 r2 r3
        have hr3 : ((x.at' + (s.size + 1) : Nat) : Int) = (x.at' : Int) + s.size + 1 := by omega
        rw [hr3] at r3
        have hEq := eqSelf x.kind x.n ((x.at' : Int) + s.size + 1) (X.str x.text)
        have hkp' : ¬ ((p : Int) + j) < p := by omega
        have hj3 : (j : Int) < n2 := by omega
        have hj4 : 0 ≤ (j : Int) := by omega
        have hidx : ((p : Int) + j - ((p : Int) + 1) + 1) = (j : Int) := by omega
        go_wp2_with fail
        go_quiet (fail)
        go_wp2
        go_roundg (p + n2 - ((p + j) + 1))
        case measure => omega
        case rel => exact ⟨(p + j) + 1, by go_num, by omega, Nat.le_refl _, below_drew' (HB.out.alloc HB.out.size _) _⟩
    · obtain rfl : k = p + n2 := by omega
      have hii : ¬ ((p : Int) + n2) < (p : Int) + n2 := by omega
      go_wp2_with (first | (go_at_call 12; refine (live_any _ HTr.out).mono ?_; rintro e w4 ⟨rfl, hb4⟩))
      go_ret
      exact ⟨ret_b rfl, HBr.out.trans (hb4.mono HBr.out.size)⟩

end Go.Proofs.YtfnakckiidblkaaDoor

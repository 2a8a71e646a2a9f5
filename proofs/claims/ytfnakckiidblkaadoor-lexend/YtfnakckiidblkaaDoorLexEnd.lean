/- The walk of LexEnd. -/
import Derived.Test.YtfnakckiidblkaaDoorLexLive
import Derived.Test.YtfnakckiidblkaaDoorLexApartB
import Derived.Deep.RegionHeld3
namespace Go.Proofs.YtfnakckiidblkaaDoor
open Go.RowKit Go.Maps Go.Lib
set_option linter.unusedVariables false
set_option linter.unusedSimpArgs false

theorem TV.cut {w : World} {a : Option Addr} {n c : Nat} {ts : List X.Tok} (h : TV w a n c ts) {m : Nat} (hm : m ≤ n) : TV w a m c (ts.take m) := by
  refine ⟨by rw [List.length_take, h.count]; omega, ⟨by have := h.room; omega, h.room.2⟩, ?_⟩
  rcases h.cells with h0 | ⟨b, off, e, hc⟩
  · exact .inl (by omega)
  · refine .inr ⟨b, off, e, fun i hi j u hj hu => hc i (by omega) j u hj ?_⟩
    rw [show ts.getD i noTok = (ts.take m).getD i noTok by simp [List.getD, List.getElem?_take, hi]]
    exact hu

theorem app_list (a b : ByteArray) : (a ++ b).data.toList = a.data.toList ++ b.data.toList := by
  rw [ByteArray.data_append, Array.toList_append]

set_option maxRecDepth 100000 in
set_option maxHeartbeats 4000000 in
theorem end_any (s nt : ByteArray) (hs : s.size ≤ maxLen) (hnt : nt.size ≤ maxLen) (w : World) (ht : Tab w) :
    Calls Tryd.prog 8 #[.string s, .string nt] w fun e w' => e = .returned (.bool true) ∧ Below w.heap.size w w' := by
  have hL : s.data.toList.length = s.size := by simp
  have hN : nt.data.toList.length = nt.size := by simp
  have hmx : maxLen = 9223372036854775807 := rfl
  have HT : Hid _ := ht
  have hlive := live_any w ht
  clear ht
  by_cases h1 : 19000 < s.size
  · go_enter Tryd.func8, Tryd.ntmps8
    go_wp2_with (first | (go_at_call 12; refine hlive.mono ?_; rintro e w2 ⟨rfl, hb2⟩))
    go_ret
    exact ⟨ret_b rfl, hb2⟩
  have h1' : decide ((19000 : Int) < s.size) = false := by simp; omega
  by_cases h2 : 500 < nt.size
  · go_enter Tryd.func8, Tryd.ntmps8
    go_wp2_with (first | (go_at_call 12; refine hlive.mono ?_; rintro e w2 ⟨rfl, hb2⟩))
    go_ret
    exact ⟨ret_b rfl, hb2⟩
  have h2' : decide ((500 : Int) < nt.size) = false := by simp; omega
  have c1 := fun w h => lex_any s hs w h
  go_enter Tryd.func8, Tryd.ntmps8
  go_wp2_with fail
  go_loop [5] (fun i => ∃ (k : Nat), i = .int .i64 k ∧ k ≤ nt.size ∧ Hid (∀ j (c : UInt8), j < k → nt.data.toList[j]? = some c → c.toNat ≠ 10)) (fun i => nt.size - (RowKit.intOf i).toNat)
  case atStart => exact ⟨0, rfl, Nat.zero_le _, (fun j c hj => by omega : ∀ j (c : UInt8), j < 0 → nt.data.toList[j]? = some c → c.toNat ≠ 10)⟩
  case round =>
    obtain ⟨k, rfl, hk, HA⟩ := hrel
    by_cases hlt : k < nt.size
    · have HG : Hid (nt.data.toList[k]? = some nt[k]) := get_list nt k hlt
      obtain ⟨d, hd⟩ : ∃ d : Nat, nt[k].toNat = d := ⟨_, rfl⟩
      by_cases h10 : d = 10
      · have he : ((d : Int) == 10) = true := by simp; omega
        clear h10
        go_wp2_with (first | (go_at_call 12; refine hlive.mono ?_; rintro e w2 ⟨rfl, hb2⟩))
        go_ret
        exact ⟨ret_b rfl, hb2⟩
      · have he : ((d : Int) == 10) = false := by simp; omega
        go_wp2_with fail
        go_round
        case rel =>
          refine ⟨k + 1, by go_num, by omega, fun j c hj hg => ?_⟩
          by_cases e : j = k
          · subst e; rw [HG.out] at hg; cases hg; rw [hd]; exact h10
          · exact HA.out j c (by omega) hg
        case measure => simp [RowKit.intOf]; omega
    · obtain rfl : k = nt.size := by omega
      have HNO : Hid (∀ c ∈ nt.data.toList, c.toNat ≠ 10) := by
        intro c hc
        obtain ⟨j, hj⟩ := List.mem_iff_getElem?.1 hc
        exact HA.out j c (by have := (List.getElem?_eq_some_iff.1 hj).1; simpa using this) hj
      have HE : Hid _ := X.lex_end' (s := s.data.toList) (nt := nt.data.toList) (by omega) (by omega) HNO.out
      clear HA HNO
      have hii : ¬ (nt.size : Int) < nt.size := by omega
      obtain ⟨T, hT⟩ : ∃ T, s ++ { data := #[10, 32, 9, 47, 47] } ++ nt = T := ⟨_, rfl⟩
      have hTL : T.data.toList = s.data.toList ++ 10 :: 32 :: 9 :: 47 :: 47 :: nt.data.toList := by
        rw [← hT, app_list, app_list]
        simp
      have hTs : T.size = s.size + nt.size + 5 := by
        rw [← len_list, hTL]
        simp
        omega
      have c2 := fun w h => lex_any T (by omega) w h
      rw [← hTL] at HE
      go_wp2_with fail
      clear hT
      rcases HE.out with ⟨z, hz, e1, e2⟩ | ⟨ts, e1, e2⟩
      · rw [e1] at c1
        rw [e2] at c2
        have hz1 : ((z : Int) != 0) = true := by simp; omega
        have hz2 : ¬ (z : Int) = 0 := by omega
        have hz3 : ((z : Int) != z) = false := by simp
        refine (c1 _ HT.out).mono ?_
        rintro e w1 ⟨a, n, c, rfl, ho, hn, hb⟩
        obtain rfl : n = 0 := hn.symm
        have HT1 : Hid (Tab w1) := HT.out.below hb
        clear ho hn
        go_wp2_with fail
        refine (c2 _ HT1.out).mono ?_
        rintro e w2 ⟨a2, n2, c2', rfl, ho, hn, hb2⟩
        obtain rfl : n2 = 0 := hn.symm
        have HT2 : Hid (Tab w2) := HT1.out.below hb2
        clear ho hn
        go_wp2_with (first | (go_at_call 12; refine (live_any _ HT2.out).mono ?_; rintro e w3 ⟨rfl, hb3⟩))
        go_ret
        have hb12 := hb.trans (hb2.mono hb.size)
        exact ⟨ret_b rfl, hb12.trans (hb3.mono hb12.size)⟩
      · rw [e1] at c1
        rw [e2] at c2
        obtain ⟨m, hm⟩ : ∃ m, ts.length = m := ⟨_, rfl⟩
        refine (c1 _ HT.out).mono ?_
        rintro e w1 ⟨a, n, c, rfl, ho, hn, hb⟩
        have HV1 : Hid _ := TV.of_own ho hn
        obtain rfl : n = m + 1 := by rw [← hn]; simp [hm]
        have HT1 : Hid (Tab w1) := HT.out.below hb
        have HB1 : Hid _ := hb
        clear ho hn hb
        go_wp2_with fail
        refine (c2 _ HT1.out).mono ?_
        rintro e w2 ⟨a2, n2, c2', rfl, ho, hn, hb2⟩
        have HV2 : Hid _ := TV.of_own ho hn
        obtain rfl : n2 = m + 1 := by rw [← hn]; simp [hm]
        have HT2 : Hid (Tab w2) := HT1.out.below hb2
        have HB2 : Hid (Below w.heap.size w w2) := HB1.out.trans (hb2.mono HB1.out.size)
        obtain ⟨b, off, hA, q0, q1, q2, q3⟩ := HV2.out.at (i := m) (by omega)
        rw [show (ts ++ [(⟨0, [], 0, T.data.toList.length⟩ : X.Tok)]).getD m noTok = ⟨0, [], 0, T.data.toList.length⟩ by simp [List.getD, ← hm]] at q3
        simp only [len_list] at q3
        have HC1 : Hid (TV w2 a m c ts) := by
          have := (HV1.out.below hb2).cut (m := m) (by omega)
          rwa [List.take_left' hm] at this
        have HC2 : Hid (TV w2 a2 m c2' ts) := by
          have := HV2.out.cut (m := m) (by omega)
          rwa [List.take_left' hm] at this
        have hmr : m + 1 ≤ 9223372036854775807 := by have := HV2.out.room; omega
        obtain ⟨b', off', hA', -⟩ := HV1.out.at (i := m) (by omega)
        subst hA
        subst hA'
        clear ho hn hb2 q0 q1 q2
        have hsub : ((m + 1 : Nat) : Int) - 1 = (m : Int) := by omega
        have hm0 : ¬ (m : Int) < 0 := by omega
        have hrc : m ≤ c := by have := HC1.out.room; omega
        have hrc2 : m ≤ c2' := by have := HC2.out.room; omega
        go_wp2_with fail
        go_region_with (first
          | (go_at_call 11; refine (same_any (HC1.out.below (by first | exact Below.refl _ _ | exact (Below.refl _ _).drew | exact below_drew' (Below.refl _ _) _)) (HC2.out.below (by first | exact Below.refl _ _ | exact (Below.refl _ _).drew | exact below_drew' (Below.refl _ _) _))).mono ?_; rw [decide_eq_true rfl]; rintro e w3 ⟨rfl, hb3⟩)
          | (go_at_call 12; refine (live_any _ (HT2.out.below ((Below.drew (Below.refl w2.heap.size w2)).trans hb3))).mono ?_; rintro e w4 ⟨rfl, hb4⟩))
        all_goals
          go_wp2
          go_ret
          have hx3 := (Below.drew (Below.refl w2.heap.size w2)).trans hb3
          have hx2 := HB2.out.trans (hx3.mono HB2.out.size)
          exact ⟨ret_b rfl, hx2.trans (hb4.mono hx2.size)⟩

end Go.Proofs.YtfnakckiidblkaaDoor

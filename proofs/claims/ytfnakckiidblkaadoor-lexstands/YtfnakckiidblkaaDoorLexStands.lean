/- The walk of LexStands. -/
import Derived.Test.YtfnakckiidblkaaDoorLexLive
import Derived.Test.YtfnakckiidblkaaDoorLexStandMath
namespace Go.Proofs.YtfnakckiidblkaaDoor
open Go.RowKit Go.Maps Go.Lib
set_option linter.unusedVariables false
set_option linter.unusedSimpArgs false

set_option maxRecDepth 100000 in
set_option maxHeartbeats 4000000 in
theorem stands_any (s : ByteArray) (hs : s.size ≤ maxLen) (w : World) (ht : Tab w) :
    Calls Tryd.prog 5 #[.string s] w fun e w' => e = .returned (.bool true) ∧ Below w.heap.size w w' := by
  have c1 := lex_any s hs w ht
  have hL : s.data.toList.length = s.size := by simp
  have hmx : maxLen = 9223372036854775807 := rfl
  have HT : Hid _ := ht
  clear ht
  obtain ⟨L, z, hr⟩ : ∃ L z, X.lex s.data.toList = (L, z) := ⟨_, _, rfl⟩
  rw [hr] at c1
  by_cases hz : z = 0
  rotate_left
  · have hno := X.lex_no hr hz
    subst hno
    have hz1 : ((z : Int) != 0) = true := by simp; omega
    have hz2 : ¬ (z : Int) = 0 := by omega
    clear hr
    go_enter Tryd.func5, Tryd.ntmps5
    go_wp2_with fail
    refine c1.mono ?_
    rintro e w1 ⟨a, n, c, rfl, ho, hn, hb⟩
    obtain rfl : n = 0 := hn.symm
    go_wp2_with (first | (go_at_call 12; refine (live_any _ (HT.out.below hb)).mono ?_; rintro e w2 ⟨rfl, hb2⟩))
    go_ret
    exact ⟨ret_b rfl, hb.trans (hb2.mono hb.size)⟩
  subst hz
  have HS : Hid _ := X.std_of hr
  clear hr
  go_enter Tryd.func5, Tryd.ntmps5
  go_wp2_with fail
  refine c1.mono ?_
  rintro e w1 ⟨a, n, c, rfl, ho, hn, hb⟩
  have HV : Hid _ := TV.of_own ho hn
  have HN : Hid (L.length = n) := hn
  have hn0 : 0 < n := by have := HS.out.ne; have := HN.out; omega
  have hnm : n ≤ 9223372036854775807 := by have := HV.out.room; omega
  have HB1 : Hid (Below w.heap.size w w1) := hb
  clear ho hn hb c1
  go_wp2_with fail
  go_loopg [5, 6] n (fun r ev iv wq => ∃ (k : Nat), iv = .int .i64 k ∧ ev = .int .i64 (X.ends L k) ∧ k ≤ n ∧ n - k ≤ r ∧ Hid (Below w1.heap.size w1 wq))
  case atStart => exact ⟨0, rfl, rfl, Nat.zero_le _, by omega, Below.refl _ _⟩
  case round =>
    obtain ⟨k, rfl, rfl, hk, hr, HB⟩ := hrel
    have HB2 : Hid (Below w.heap.size w wr) := HB1.out.trans (HB.out.mono HB1.out.size)
    have HTr : Hid (Tab wr) := HT.out.below HB2.out
    by_cases hlt : k < n
    · obtain ⟨b, off, hA, q0, q1, q2, q3⟩ := HV.out.at hlt
      have q0 := cell_thru HB.out q0
      have q1 := cell_thru HB.out q1
      have q2 := cell_thru HB.out q2
      have q3 := cell_thru HB.out q3
      obtain ⟨e1, e2, e3, e4⟩ := HS.out.each k (by rw [HN.out]; exact hlt)
      have HE : Hid (X.ends L (k + 1) = (L.getD k noTok).at' + (L.getD k noTok).text.length) := by show _ = _; unfold X.ends; rw [if_neg (by omega)]; rfl
      rw [hL] at e2
      rw [HN.out] at e4
      obtain ⟨⟨xk, xt, xn, xa⟩, hx⟩ : ∃ x, L.getD k noTok = x := ⟨_, rfl⟩
      rw [hx] at q0 q1 q2 q3 e1 e2 e3 e4 HE
      simp only at q0 q1 q2 q3 e1 e2 e3 e4 HE
      generalize X.ends L k = en at *
      have hsz : (X.str xt).size = xt.length := str_size xt
      have hex : ((s.extract xa (xa + xt.length)).toList == (X.str xt).toList) = true := toList_eq' (by rw [extract_eq, str_list, str_list, List.drop_take, show xa + xt.length - xa = xt.length by omega]; exact e3)
      have hd1 : decide (xa < en) = false := by simp; omega
      have hd2 : decide ((s.size : Int) < xa + xt.length) = false := by simp; omega
      have hd3 : decide (s.size < xa + xt.length) = false := by simp; omega
      have hii : (k : Int) < n := by omega
      have hin : 0 ≤ (k : Int) := by omega
      subst hA
      clear hx e3
      generalize xt.length = m at *
      generalize X.str xt = tx at *
      have hboth : ((xk : Int) == 0) = true ∧ ((k : Int) == n - 1) = true ∨ ((xk : Int) == 0) = false ∧ ((k : Int) == n - 1) = false := by
        by_cases h0 : xk = 0
        · left; have := e4.1 h0; constructor <;> simp <;> omega
        · right; have : ¬ k = n - 1 := fun e => h0 (e4.2 e); constructor <;> simp <;> omega
      clear e4
      rcases hboth with ⟨b1, b2⟩ | ⟨b1, b2⟩
      all_goals
        go_wp2_with fail
        go_quiet (fail)
        go_wp2
        go_roundg (n - (k + 1))
        case measure => omega
        case rel => exact ⟨k + 1, by go_num, by rw [HE.out]; go_num, by omega, Nat.le_refl _, below_drew' (HB.out.alloc HB.out.size _) _⟩
    · obtain rfl : k = n := by omega
      obtain ⟨b, off, hA, q0, q1, q2, q3⟩ := HV.out.at (i := k - 1) (by omega)
      have hl := HS.out.last
      rw [HN.out] at hl
      rw [hl, hL] at q3
      have q3' := cell_thru HB.out q3
      subst hA
      have hii : ¬ (k : Int) < k := by omega
      have hkk : ((k : Int) - 1) = ((k - 1 : Nat) : Int) := by omega
      have hin1 : 0 ≤ ((k - 1 : Nat) : Int) := by omega
      have hin2 : ((k - 1 : Nat) : Int) < k := by omega
      clear q0 q1 q2 q3 hl
      go_wp2_with (first | (go_at_call 12; refine (live_any _ HTr.out).mono ?_; rintro e w2 ⟨rfl, hb2⟩))
      go_ret
      exact ⟨ret_b rfl, HB2.out.trans (hb2.mono HB2.out.size)⟩

end Go.Proofs.YtfnakckiidblkaaDoor

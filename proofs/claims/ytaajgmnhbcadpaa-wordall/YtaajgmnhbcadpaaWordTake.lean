/- What word.Take comes to. -/
import Derived.Test.YtaajgmnhbcadpaaWordOwn
import Derived.Test.YtaajgmnhbcadpaaWordTakeMath
import Derived.Deep.QuietTactic
import Derived.BigQuiet
namespace Go.Proofs.Ytaajgmnhbcadpaa
open Go.RowKit

theorem ret3 {k l m : IntKind} {a b c a' b' c' : Int} (h : (a, b, c) = (a', b', c')) : Ending.returned (.tuple #[.int k a, .int l b, .int m c]) = .returned (.tuple #[.int k a', .int l b', .int m c']) := by
  simp only [Prod.mk.injEq] at h
  rw [h.1, h.2.1, h.2.2]

set_option maxRecDepth 100000 in
set_option maxHeartbeats 1000000 in
theorem take_in (s : ByteArray) (a : Nat) (ha : a ≤ s.size) (hs : s.size ≤ maxLen) (w : World) :
    Calls Try.prog 16 #[.string s, .int .i64 a] w fun e w' => e = .returned (.tuple #[.int .u64 (W.takeR s a).1, .int .i64 (W.takeR s a).2.1, .int .i64 (W.takeR s a).2.2]) ∧ Below w.heap.size w w' := by
  unfold maxLen at hs
  have hneg : decide ((a : Int) < 0) = false := by simp
  have hle : decide (s.size < a) = false := by simp; omega
  go_enter Try.func16, Try.ntmps16
  go_wp2
  go_loopw [7, 8] (fun u i wr => ∃ (j g : Nat) (x : Int), Hid (j = a + g) ∧ j ≤ s.size ∧ g ≤ 9 ∧ i = .int .i64 j ∧ u = .int .u64 x ∧ Hid (0 ≤ x ∧ x < 128 ^ g ∧ W.takeG 0 0 (W.tail s a) = W.takeG g x (W.tail s j)) ∧ Below w.heap.size w wr) (fun _ i _ => s.size - (intOf i).toNat)
  case atStart => exact ⟨a, 0, 0, rfl, ha, by omega, rfl, rfl, ⟨by omega, by decide, rfl⟩, Below.refl _ _⟩
  case round =>
    obtain ⟨j, g, x, HJ, hjs, hg9, rfl, rfl, HX, hb⟩ := hrel
    by_cases hlt : j < s.size
    · have HT : Hid (W.tail s j = (s[j].toNat : Int) :: W.tail s (j + 1)) := W.tail_cons s j hlt
      obtain ⟨c, hcb⟩ : ∃ c : Nat, s[j].toNat = c := ⟨_, rfl⟩
      have hc256 : c < 256 := by rw [← hcb]; exact UInt8.toNat_lt _
      have HT' : Hid (W.tail s j = (c : Int) :: W.tail s (j + 1)) := by rw [← hcb]; exact HT
      have hkl : (j : Int) < s.size := by omega
      have hk0 : 0 ≤ (j : Int) := by omega
      have hw : IntKind.i64.wrap ((j : Int) - a) = (g : Int) := by have := HJ.out; rw [IntKind.wrap_i64]; omega
      have hand := W.and127_b
      have hor := W.or_fold
      clear HT
      rcases (show (g = 9 ∧ 1 < c) ∨ (g = 9 ∧ c = 0) ∨ (g = 9 ∧ c ≤ 1 ∧ 0 < c) ∨ (0 < g ∧ g < 9 ∧ c = 0) ∨ (g < 1 ∧ c < 128) ∨ (0 < g ∧ g < 9 ∧ 0 < c ∧ c < 128) ∨ (g < 1 ∧ 128 ≤ c) ∨ (0 < g ∧ g < 9 ∧ 128 ≤ c) by omega) with ⟨h0, h1⟩ | ⟨h0, rfl⟩ | ⟨h0, h1, h2⟩ | ⟨h0, h1, rfl⟩ | ⟨h0, h1⟩ | ⟨h0, h1, h2, h3⟩ | ⟨h0, h1⟩ | ⟨h0, h1, h2⟩
      · have e9 : ((g : Int) == 9) = true := by simp; omega
        have p0 : decide (0 < g) = true := by simp; omega
        have hz : 9 ≤ g := by omega
        clear h0
        go_wp2
        go_quiet (fail)
        clear hcb hw
        go_wp2
        go_ret3
        have hf := W.takeR_none s a (by rw [HX.out.2.2, HT'.out]; exact W.takeG_no _ _ _ _ (by omega))
        exact ⟨ret3 (by rw [hf]), below_drewN hb nq⟩
      · have e9 : ((g : Int) == 9) = true := by simp; omega
        have p0 : decide (0 < g) = true := by simp; omega
        have hz : 9 ≤ g := by omega
        clear h0
        go_wp2
        go_quiet (fail)
        clear hcb hw
        go_wp2
        go_ret3
        have hf := W.takeR_none s a (by rw [HX.out.2.2, HT'.out]; exact W.takeG_no _ _ _ _ (by omega))
        exact ⟨ret3 (by rw [hf]), below_drewN hb nq⟩
      · have e9 : ((g : Int) == 9) = true := by simp; omega
        have p0 : decide (0 < g) = true := by simp; omega
        have c0 : ((c : Int) == 0) = false := by simp; omega
        have hz : 9 ≤ g := by omega
        clear h0
        go_wp2
        go_quiet (fail)
        clear hcb hw
        go_wp2
        go_ret3
        have hf := W.takeR_some s a _ _ (by rw [HX.out.2.2, HT'.out]; exact W.takeG_last _ _ _ _ (by omega) (by omega))
        exact ⟨ret3 (by rw [hf, W.orv_eq x c g HX.out.1 HX.out.2.1 hg9 (by omega) (by omega)]; have := HJ.out; simp; omega), below_drewN hb nq⟩
      · have e9 : ((g : Int) == 9) = false := by simp; omega
        have p0 : decide (0 < g) = true := by simp; omega
        go_wp2
        go_quiet (fail)
        clear hcb hw
        go_wp2
        go_ret3
        have hf := W.takeR_none s a (by rw [HX.out.2.2, HT'.out]; exact W.takeG_no _ _ _ _ (by omega))
        exact ⟨ret3 (by rw [hf]), below_drewN hb nq⟩
      · have e9 : ((g : Int) == 9) = false := by simp; omega
        have p0 : decide (0 < g) = false := by simp; omega
        go_wp2
        go_quiet (fail)
        clear hcb hw
        go_wp2
        go_ret3
        have hf := W.takeR_some s a _ _ (by rw [HX.out.2.2, HT'.out]; exact W.takeG_last _ _ _ _ (by omega) (by omega))
        exact ⟨ret3 (by rw [hf, W.orv_eq x c g HX.out.1 HX.out.2.1 hg9 (by omega) (by omega)]; have := HJ.out; simp; omega), below_drewN hb nq⟩
      · have e9 : ((g : Int) == 9) = false := by simp; omega
        have p0 : decide (0 < g) = true := by simp; omega
        have c0 : ((c : Int) == 0) = false := by simp; omega
        go_wp2
        go_quiet (fail)
        clear hcb hw
        go_wp2
        go_ret3
        have hf := W.takeR_some s a _ _ (by rw [HX.out.2.2, HT'.out]; exact W.takeG_last _ _ _ _ (by omega) (by omega))
        exact ⟨ret3 (by rw [hf, W.orv_eq x c g HX.out.1 HX.out.2.1 hg9 (by omega) (by omega)]; have := HJ.out; simp; omega), below_drewN hb nq⟩
      · have e9 : ((g : Int) == 9) = false := by simp; omega
        have p0 : decide (0 < g) = false := by simp; omega
        go_wp2
        go_quiet (fail)
        clear hcb hw
        go_wp2
        go_roundw
        case rel =>
          refine ⟨j + 1, g + 1, W.orv x c g, by have := HJ.out; show j + 1 = a + (g + 1); omega, by omega, by omega, by go_num, rfl, ?_, below_drewN hb nq⟩
          rw [W.orv_eq x c g HX.out.1 HX.out.2.1 hg9 (by omega) (by omega)]
          refine ⟨by have := W.group_fits c g hg9 (by omega) (by omega); have := HX.out.1; omega, W.next_lt x c g HX.out.2.1, ?_⟩
          rw [HX.out.2.2, HT'.out, W.takeG_more _ _ _ _ (by omega) (by omega)]
        case measure => simp [intOf]; omega
      · have e9 : ((g : Int) == 9) = false := by simp; omega
        have p0 : decide (0 < g) = true := by simp; omega
        have c0 : ((c : Int) == 0) = false := by simp; omega
        go_wp2
        go_quiet (fail)
        clear hcb hw
        go_wp2
        go_roundw
        case rel =>
          refine ⟨j + 1, g + 1, W.orv x c g, by have := HJ.out; show j + 1 = a + (g + 1); omega, by omega, by omega, by go_num, rfl, ?_, below_drewN hb nq⟩
          rw [W.orv_eq x c g HX.out.1 HX.out.2.1 hg9 (by omega) (by omega)]
          refine ⟨by have := W.group_fits c g hg9 (by omega) (by omega); have := HX.out.1; omega, W.next_lt x c g HX.out.2.1, ?_⟩
          rw [HX.out.2.2, HT'.out, W.takeG_more _ _ _ _ (by omega) (by omega)]
        case measure => simp [intOf]; omega
    · go_wp2
      go_ret3
      have hf := W.takeR_none s a (by rw [HX.out.2.2, W.tail_end s j (by omega)]; rfl)
      exact ⟨ret3 (by rw [hf]), hb⟩

set_option maxHeartbeats 400000 in
theorem take_out (s : ByteArray) (a : Int) (h : a < 0 ∨ (s.size : Int) < a) (w : World) :
    Calls Try.prog 16 #[.string s, .int .i64 a] w fun e w' => e = .returned (.tuple #[.int .u64 0, .int .i64 0, .int .i64 1]) ∧ Below w.heap.size w w' := by
  rcases h with h | h
  · go_enter Try.func16, Try.ntmps16
    go_wp2
    go_ret3
    exact ⟨rfl, Below.refl _ _⟩
  · have h0 : ¬ a < 0 := by omega
    go_enter Try.func16, Try.ntmps16
    go_wp2
    go_ret3
    exact ⟨rfl, Below.refl _ _⟩

theorem take_any (s : ByteArray) (a : Int) (hs : s.size ≤ maxLen) (w : World) :
    Calls Try.prog 16 #[.string s, .int .i64 a] w fun e w' => e = .returned (.tuple #[.int .u64 (W.take s a).1, .int .i64 (W.take s a).2.1, .int .i64 (W.take s a).2.2]) ∧ Below w.heap.size w w' := by
  by_cases h : a < 0 ∨ (s.size : Int) < a
  · refine (take_out s a h w).mono ?_
    rintro e w' ⟨rfl, hb⟩
    exact ⟨ret3 (by rw [W.take, if_pos h]), hb⟩
  · obtain ⟨n, rfl⟩ := Int.eq_ofNat_of_zero_le (show 0 ≤ a by omega)
    refine (take_in s n (by omega) hs w).mono ?_
    rintro e w' ⟨rfl, hb⟩
    exact ⟨ret3 (by rw [W.take, if_neg h, Int.toNat_natCast]), hb⟩

end Go.Proofs.Ytaajgmnhbcadpaa

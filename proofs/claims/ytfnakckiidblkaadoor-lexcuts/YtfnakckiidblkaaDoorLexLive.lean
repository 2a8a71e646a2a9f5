/- The answers that the law's own examples ask for. -/
import Derived.Test.YtfnakckiidblkaaDoorLexMain
import Derived.Test.YtfnakckiidblkaaDoorLexSame
namespace Go.Proofs.YtfnakckiidblkaaDoor
open Go.RowKit Go.Maps Go.Lib
set_option linter.unusedVariables false
set_option linter.unusedSimpArgs false

theorem lex_ex1 : X.lex [97, 60, 61, 49, 47, 47, 120] = ([⟨2, [97], 0, 0⟩, ⟨4, [60, 61], 0, 1⟩, ⟨1, [49], 1, 3⟩, ⟨0, [], 0, 7⟩], 0) := by decide +kernel
theorem lex_ex2 : X.lex [49, 120] = ([], 2) := by decide +kernel

theorem len1 : (ByteArray.mk #[97, 60, 61, 49, 47, 47, 120]).size ≤ maxLen := by unfold maxLen; simp [ByteArray.size]
theorem len2 : (ByteArray.mk #[49, 120]).size ≤ maxLen := by unfold maxLen; simp [ByteArray.size]
theorem len3 : (ByteArray.mk #[97, 95, 49]).size ≤ maxLen := by unfold maxLen; simp [ByteArray.size]
theorem len4 : (ByteArray.mk #[105, 110, 116]).size ≤ maxLen := by unfold maxLen; simp [ByteArray.size]
theorem lx1 (w : World) (ht : Tab w) : Calls Tryd.prog 9 #[.string { data := #[97, 60, 61, 49, 47, 47, 120] }] w (LexOut w ([⟨2, [97], 0, 0⟩, ⟨4, [60, 61], 0, 1⟩, ⟨1, [49], 1, 3⟩, ⟨0, [], 0, 7⟩], 0)) := by
  have h := lex_any { data := #[97, 60, 61, 49, 47, 47, 120] } len1 w ht
  rw [show (ByteArray.data { data := #[97, 60, 61, 49, 47, 47, 120] }).toList = [97, 60, 61, 49, 47, 47, 120] from rfl, lex_ex1] at h
  exact h
theorem lx2 (w : World) (ht : Tab w) : Calls Tryd.prog 9 #[.string { data := #[49, 120] }] w (LexOut w ([], 2)) := by
  have h := lex_any { data := #[49, 120] } len2 w ht
  rw [show (ByteArray.data { data := #[49, 120] }).toList = [49, 120] from rfl, lex_ex2] at h
  exact h
theorem nm1 (w : World) (ht : Tab w) : Calls Tryd.prog 13 #[.string { data := #[97, 95, 49] }] w fun e w' => e = .returned (.bool true) ∧ w' = w := by
  have h := name_any { data := #[97, 95, 49] } len3 w ht
  rw [show X.name (ByteArray.data { data := #[97, 95, 49] }).toList = true by decide +kernel] at h
  exact h
theorem nm2 (w : World) (ht : Tab w) : Calls Tryd.prog 13 #[.string { data := #[105, 110, 116] }] w fun e w' => e = .returned (.bool false) ∧ w' = w := by
  have h := name_any { data := #[105, 110, 116] } len4 w ht
  rw [show X.name (ByteArray.data { data := #[105, 110, 116] }).toList = false by decide +kernel] at h
  exact h

set_option maxRecDepth 100000 in
set_option maxHeartbeats 1000000 in
theorem live_any (w : World) (ht : Tab w) :
    Calls Tryd.prog 12 #[] w fun e w' => e = .returned (.bool true) ∧ Below w.heap.size w w' := by
  have c1 := lx1
  have c2 := lx2
  have n1 := nm1
  have n2 := nm2
  have HT : Hid _ := ht
  clear ht
  go_enter Tryd.func12, Tryd.ntmps12
  go_wp2_with fail
  refine (c1 _ HT.out).mono ?_
  rintro e w1 ⟨a1, m1, k1, rfl, ho1, hn1, hb1⟩
  have HT1 : Hid (Tab w1) := HT.out.below hb1
  have HB1 : Hid _ := hb1
  have HV1 : Hid _ := TV.of_own ho1 hn1
  simp only at hn1
  clear ho1 hb1
  go_wp2_with fail
  refine (c2 _ HT1.out).mono ?_
  rintro e w2 ⟨a2, m2, k2, rfl, ho2, hn2, hb2⟩
  have HT2 : Hid (Tab w2) := HT1.out.below hb2
  have HB2 : Hid _ := hb2
  clear ho2 hb2
  go_wp2_with fail
  refine (n1 _ HT2.out).mono ?_
  rintro e w' ⟨rfl, rfl⟩
  go_wp2_with fail
  refine (n2 _ HT2.out).mono ?_
  rintro e w' ⟨rfl, rfl⟩
  have HV2 : Hid (TV (w'.alloc (.cells #[.int .i64 2, .string { data := #[97] }, .int .i64 0, .int .i64 0, .int .i64 4, .string { data := #[60, 61] }, .int .i64 0, .int .i64 1, .int .i64 1, .string { data := #[49] }, .int .i64 1, .int .i64 3, .int .i64 0, .string { data := #[] }, .int .i64 0, .int .i64 7] 30)) (some ⟨w'.heap.size, 0, none⟩) 4 4 [⟨2, [97], 0, 0⟩, ⟨4, [60, 61], 0, 1⟩, ⟨1, [49], 1, 3⟩, ⟨0, [], 0, 7⟩]) := by
    refine ⟨rfl, ⟨Nat.le_refl _, by unfold maxLen; omega⟩, .inr ⟨_, 0, rfl, fun i hi j u hj hu => row_cell ?_⟩⟩
    rcases (show i = 0 ∨ i = 1 ∨ i = 2 ∨ i = 3 by omega) with rfl | rfl | rfl | rfl <;> rcases (show j = 0 ∨ j = 1 ∨ j = 2 ∨ j = 3 by omega) with rfl | rfl | rfl | rfl <;> exact hu
  go_wp2_with fail
  refine (same_any (HV1.out.below (HB2.out.trans ((bl1 _ _).mono HB2.out.size))) HV2.out).mono ?_
  rw [decide_eq_true rfl]
  rintro e w4 ⟨rfl, HB4⟩
  go_wp2
  go_ret
  refine ⟨rfl, ?_⟩
  have h2 := HB1.out.trans (HB2.out.mono HB1.out.size)
  have h3 := h2.trans ((bl1 w' (.cells #[.int .i64 2, .string { data := #[97] }, .int .i64 0, .int .i64 0, .int .i64 4, .string { data := #[60, 61] }, .int .i64 0, .int .i64 1, .int .i64 1, .string { data := #[49] }, .int .i64 1, .int .i64 3, .int .i64 0, .string { data := #[] }, .int .i64 0, .int .i64 7] 30)).mono h2.size)
  exact h3.trans (HB4.mono h3.size)

end Go.Proofs.YtfnakckiidblkaaDoor

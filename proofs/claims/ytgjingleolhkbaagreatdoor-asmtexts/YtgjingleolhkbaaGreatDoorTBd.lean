import Derived.Test.YtgjingleolhkbaaGreatDoorTBa
import Derived.Test.YtgjingleolhkbaaGreatDoorTBc
import Derived.Test.YtgjingleolhkbaaGreatDoorTAz
namespace Go.Proofs.YtgjingleolhkbaaGreatDoor.J
set_option maxRecDepth 100000
open Go.RowKit
set_option linter.unusedVariables false

set_option maxRecDepth 100000 in
set_option maxHeartbeats 16000000 in
theorem rtrap (op a b n : Int) (HF : Hid (I.form op = 10)) (h1 : 0 ≤ a) (h2 : a ≤ 7) (h3 : 0 ≤ b) (h4 : b ≤ 7) (h5 : (a != 0) = false) (h6 : (b != 0) = false) (h : n < 0 ∨ (0 ≤ n ∧ 127 < n)) (w : World) :
  Calls Tryz.prog 59 #[insV op a b n] w fun e w' => e = .returned (.tuple #[.string (strOfNums []), .int .i64 7]) ∧ Below w.heap.size w w' := by
 have pA : I.hasA 10 = false := by decide
 have pB : I.hasB 10 = false := by decide
 have pN : I.numB 10 = 1 := by decide
 rcases h with h7 | ⟨h7, h8⟩
 all_goals
  go_enter Tryz.func59, Tryz.ntmps59
  go_wp2_with (first | (go_at_call 66; refine (form_any _ _).mono ?_; rintro e w' ⟨rfl, rfl⟩; rw [HF.out]) | (go_at_call 65; refine (parts_any _ ?_ ?_ _).mono ?_; omega; omega; rintro e w' ⟨rfl, rfl⟩; rw [pA, pB, pN]))
  go_ret2
  exact ⟨rfl, bl1 _ _⟩

end Go.Proofs.YtgjingleolhkbaaGreatDoor.J

namespace Go.Proofs.YtgjingleolhkbaaGreatDoor.J
set_option maxRecDepth 100000
open Go.RowKit
set_option linter.unusedVariables false

theorem I.nat_no {op f : Int} (h : I.form op = f) (hf : ¬ f = 10) : I.nat op = false := by
 unfold I.nat
 rw [beq_eq_false_iff_ne]
 rintro rfl
 exact hf (h.symm.trans (by decide))
theorem I.nat_yes {op : Int} (h : I.form op = 10) : I.nat op = true := by
 by_cases e : op = 33
 ·subst e; rfl
 ·exfalso
  unfold I.form at h
  repeat (split at h; omega)
  omega
theorem W.bytesE_sz {n m : Int} (h : W.isSz m = true) : W.bytesE n m = 0 ∨ W.bytesE n m = 7 := by
 unfold W.bytesE; rw [if_pos h]; split <;> omega

theorem renc_1 (op a b n : Int) (hn : (Lit.int .i64 n).wf = true) (o1 : 1 ≤ op) (o2 : op ≤ 33) (hf : I.form op = 1) (w : World) :
  Calls Tryz.prog 59 #[insV op a b n] w fun e w' => e = .returned (.tuple #[.string (strOfNums (I.encV op a b n)), .int .i64 (I.encE op a b n)]) ∧ Below w.heap.size w w' := by
 have hr : I.regs op = 1 := by unfold I.regs; rw [hf]; rfl
 have hm : I.num op = 8 := by unfold I.num; rw [hf]; rfl
 have ht : I.nat op = false := I.nat_no hf (by decide)
 have hfit : I.fits op a b n = decide (0 ≤ a ∧ a ≤ 7 ∧ 0 ≤ b ∧ b ≤ 7 ∧ b = 0) := by
  unfold I.fits
  rw [decide_eq_true (show 1 ≤ op ∧ op ≤ 33 from ⟨o1, o2⟩), hr, hm, Bool.true_and, Bool.eq_iff_iff, decide_eq_true_iff]
  unfold I.bears I.bad I.isr
  simp
  omega
 by_cases H : 0 ≤ a ∧ a ≤ 7 ∧ 0 ≤ b ∧ b ≤ 7 ∧ b = 0
 ·obtain ⟨c1, c2, c3, c4, c6⟩ := H
  have e1 : I.fits op a b n = true := by rw [hfit]; exact decide_eq_true ⟨c1, c2, c3, c4, c6⟩
  unfold I.encV I.encE
  rw [if_pos e1, if_pos e1, hr, hm, ht]
  have e2 : I.numOk 8 false n = (W.bytesE n 8 == 0) := by unfold I.numOk; rw [if_neg (by decide)]; simp
  rw [e2]
  refine (rok_1 op a b n hn o1 o2 hf (by omega) (by omega) (by omega) (by omega) (by simpa using c6) w).mono ?_
  rintro e w' ⟨rfl, hb⟩
  rcases W.bytesE_sz (n := n) (m := 8) (by decide) with h0 | h0
  ·exact ⟨retSE (by rw [if_pos h0, if_pos (by rw [h0]; rfl)]; congr 1) (by rw [if_pos (by rw [h0]; rfl), h0]), hb⟩
  ·exact ⟨retSE (by rw [if_neg (by rw [h0]; decide), if_neg (by rw [h0]; decide)]) (by rw [if_neg (by rw [h0]; decide), h0]), hb⟩
 ·have e1 : I.fits op a b n = false := by rw [hfit]; exact decide_eq_false H
  unfold I.encV I.encE
  rw [if_neg (by rw [e1]; decide), if_neg (by rw [e1]; decide)]
  exact rbad_1 op a b n hf (by first | omega | (simp only [bne_iff_ne, ne_eq]; omega) | (simp only [bne_iff_ne, ne_eq, bne_eq_false_iff_eq]; omega)) w

theorem renc_2 (op a b n : Int) (hn : (Lit.int .i64 n).wf = true) (o1 : 1 ≤ op) (o2 : op ≤ 33) (hf : I.form op = 2) (w : World) :
  Calls Tryz.prog 59 #[insV op a b n] w fun e w' => e = .returned (.tuple #[.string (strOfNums (I.encV op a b n)), .int .i64 (I.encE op a b n)]) ∧ Below w.heap.size w w' := by
 have hr : I.regs op = 2 := by unfold I.regs; rw [hf]; rfl
 have hm : I.num op = 0 := by unfold I.num; rw [hf]; rfl
 have ht : I.nat op = false := I.nat_no hf (by decide)
 have hfit : I.fits op a b n = decide (0 ≤ a ∧ a ≤ 7 ∧ 0 ≤ b ∧ b ≤ 7 ∧ n = 0) := by
  unfold I.fits
  rw [decide_eq_true (show 1 ≤ op ∧ op ≤ 33 from ⟨o1, o2⟩), hr, hm, Bool.true_and, Bool.eq_iff_iff, decide_eq_true_iff]
  unfold I.bears I.bad I.isr
  simp
  omega
 by_cases H : 0 ≤ a ∧ a ≤ 7 ∧ 0 ≤ b ∧ b ≤ 7 ∧ n = 0
 ·obtain ⟨c1, c2, c3, c4, c7⟩ := H
  have e1 : I.fits op a b n = true := by rw [hfit]; exact decide_eq_true ⟨c1, c2, c3, c4, c7⟩
  unfold I.encV I.encE
  rw [if_pos e1, if_pos e1, hr, hm, ht]
  have e2 : I.numOk 0 false n = true := rfl
  rw [if_pos e2, if_pos e2]
  refine (rok_2 op a b n o1 o2 hf (by omega) (by omega) (by omega) (by omega) (by simpa using c7) w).mono ?_
  rintro e w' ⟨rfl, hb⟩
  exact ⟨retSE (by first | rfl | (congr 1; done) | (congr 1; simp [I.regB, I.numW])) rfl, hb⟩
 ·have e1 : I.fits op a b n = false := by rw [hfit]; exact decide_eq_false H
  unfold I.encV I.encE
  rw [if_neg (by rw [e1]; decide), if_neg (by rw [e1]; decide)]
  exact rbad_2 op a b n hf (by first | omega | (simp only [bne_iff_ne, ne_eq]; omega) | (simp only [bne_iff_ne, ne_eq, bne_eq_false_iff_eq]; omega)) w

theorem renc_3 (op a b n : Int) (hn : (Lit.int .i64 n).wf = true) (o1 : 1 ≤ op) (o2 : op ≤ 33) (hf : I.form op = 3) (w : World) :
  Calls Tryz.prog 59 #[insV op a b n] w fun e w' => e = .returned (.tuple #[.string (strOfNums (I.encV op a b n)), .int .i64 (I.encE op a b n)]) ∧ Below w.heap.size w w' := by
 have hr : I.regs op = 2 := by unfold I.regs; rw [hf]; rfl
 have hm : I.num op = 4 := by unfold I.num; rw [hf]; rfl
 have ht : I.nat op = false := I.nat_no hf (by decide)
 have hfit : I.fits op a b n = decide (0 ≤ a ∧ a ≤ 7 ∧ 0 ≤ b ∧ b ≤ 7) := by
  unfold I.fits
  rw [decide_eq_true (show 1 ≤ op ∧ op ≤ 33 from ⟨o1, o2⟩), hr, hm, Bool.true_and, Bool.eq_iff_iff, decide_eq_true_iff]
  unfold I.bears I.bad I.isr
  simp
  omega
 by_cases H : 0 ≤ a ∧ a ≤ 7 ∧ 0 ≤ b ∧ b ≤ 7
 ·obtain ⟨c1, c2, c3, c4⟩ := H
  have e1 : I.fits op a b n = true := by rw [hfit]; exact decide_eq_true ⟨c1, c2, c3, c4⟩
  unfold I.encV I.encE
  rw [if_pos e1, if_pos e1, hr, hm, ht]
  have e2 : I.numOk 4 false n = (W.bytesE n 4 == 0) := by unfold I.numOk; rw [if_neg (by decide)]; simp
  rw [e2]
  refine (rok_3 op a b n hn o1 o2 hf (by omega) (by omega) (by omega) (by omega) w).mono ?_
  rintro e w' ⟨rfl, hb⟩
  rcases W.bytesE_sz (n := n) (m := 4) (by decide) with h0 | h0
  ·exact ⟨retSE (by rw [if_pos h0, if_pos (by rw [h0]; rfl)]; congr 1) (by rw [if_pos (by rw [h0]; rfl), h0]), hb⟩
  ·exact ⟨retSE (by rw [if_neg (by rw [h0]; decide), if_neg (by rw [h0]; decide)]) (by rw [if_neg (by rw [h0]; decide), h0]), hb⟩
 ·have e1 : I.fits op a b n = false := by rw [hfit]; exact decide_eq_false H
  unfold I.encV I.encE
  rw [if_neg (by rw [e1]; decide), if_neg (by rw [e1]; decide)]
  exact rbad_3 op a b n hf (by first | omega | (simp only [bne_iff_ne, ne_eq]; omega) | (simp only [bne_iff_ne, ne_eq, bne_eq_false_iff_eq]; omega)) w

theorem renc_4 (op a b n : Int) (hn : (Lit.int .i64 n).wf = true) (o1 : 1 ≤ op) (o2 : op ≤ 33) (hf : I.form op = 4) (w : World) :
  Calls Tryz.prog 59 #[insV op a b n] w fun e w' => e = .returned (.tuple #[.string (strOfNums (I.encV op a b n)), .int .i64 (I.encE op a b n)]) ∧ Below w.heap.size w w' := by
 have hr : I.regs op = 1 := by unfold I.regs; rw [hf]; rfl
 have hm : I.num op = 4 := by unfold I.num; rw [hf]; rfl
 have ht : I.nat op = false := I.nat_no hf (by decide)
 have hfit : I.fits op a b n = decide (0 ≤ a ∧ a ≤ 7 ∧ 0 ≤ b ∧ b ≤ 7 ∧ b = 0) := by
  unfold I.fits
  rw [decide_eq_true (show 1 ≤ op ∧ op ≤ 33 from ⟨o1, o2⟩), hr, hm, Bool.true_and, Bool.eq_iff_iff, decide_eq_true_iff]
  unfold I.bears I.bad I.isr
  simp
  omega
 by_cases H : 0 ≤ a ∧ a ≤ 7 ∧ 0 ≤ b ∧ b ≤ 7 ∧ b = 0
 ·obtain ⟨c1, c2, c3, c4, c6⟩ := H
  have e1 : I.fits op a b n = true := by rw [hfit]; exact decide_eq_true ⟨c1, c2, c3, c4, c6⟩
  unfold I.encV I.encE
  rw [if_pos e1, if_pos e1, hr, hm, ht]
  have e2 : I.numOk 4 false n = (W.bytesE n 4 == 0) := by unfold I.numOk; rw [if_neg (by decide)]; simp
  rw [e2]
  refine (rok_4 op a b n hn o1 o2 hf (by omega) (by omega) (by omega) (by omega) (by simpa using c6) w).mono ?_
  rintro e w' ⟨rfl, hb⟩
  rcases W.bytesE_sz (n := n) (m := 4) (by decide) with h0 | h0
  ·exact ⟨retSE (by rw [if_pos h0, if_pos (by rw [h0]; rfl)]; congr 1) (by rw [if_pos (by rw [h0]; rfl), h0]), hb⟩
  ·exact ⟨retSE (by rw [if_neg (by rw [h0]; decide), if_neg (by rw [h0]; decide)]) (by rw [if_neg (by rw [h0]; decide), h0]), hb⟩
 ·have e1 : I.fits op a b n = false := by rw [hfit]; exact decide_eq_false H
  unfold I.encV I.encE
  rw [if_neg (by rw [e1]; decide), if_neg (by rw [e1]; decide)]
  exact rbad_4 op a b n hf (by first | omega | (simp only [bne_iff_ne, ne_eq]; omega) | (simp only [bne_iff_ne, ne_eq, bne_eq_false_iff_eq]; omega)) w

theorem renc_5 (op a b n : Int) (hn : (Lit.int .i64 n).wf = true) (o1 : 1 ≤ op) (o2 : op ≤ 33) (hf : I.form op = 5) (w : World) :
  Calls Tryz.prog 59 #[insV op a b n] w fun e w' => e = .returned (.tuple #[.string (strOfNums (I.encV op a b n)), .int .i64 (I.encE op a b n)]) ∧ Below w.heap.size w w' := by
 have hr : I.regs op = 0 := by unfold I.regs; rw [hf]; rfl
 have hm : I.num op = 4 := by unfold I.num; rw [hf]; rfl
 have ht : I.nat op = false := I.nat_no hf (by decide)
 have hfit : I.fits op a b n = decide (0 ≤ a ∧ a ≤ 7 ∧ 0 ≤ b ∧ b ≤ 7 ∧ a = 0 ∧ b = 0) := by
  unfold I.fits
  rw [decide_eq_true (show 1 ≤ op ∧ op ≤ 33 from ⟨o1, o2⟩), hr, hm, Bool.true_and, Bool.eq_iff_iff, decide_eq_true_iff]
  unfold I.bears I.bad I.isr
  simp
  omega
 by_cases H : 0 ≤ a ∧ a ≤ 7 ∧ 0 ≤ b ∧ b ≤ 7 ∧ a = 0 ∧ b = 0
 ·obtain ⟨c1, c2, c3, c4, c5, c6⟩ := H
  have e1 : I.fits op a b n = true := by rw [hfit]; exact decide_eq_true ⟨c1, c2, c3, c4, c5, c6⟩
  unfold I.encV I.encE
  rw [if_pos e1, if_pos e1, hr, hm, ht]
  have e2 : I.numOk 4 false n = (W.bytesE n 4 == 0) := by unfold I.numOk; rw [if_neg (by decide)]; simp
  rw [e2]
  refine (rok_5 op a b n hn o1 o2 hf (by omega) (by omega) (by omega) (by omega) (by simpa using c5) (by simpa using c6) w).mono ?_
  rintro e w' ⟨rfl, hb⟩
  rcases W.bytesE_sz (n := n) (m := 4) (by decide) with h0 | h0
  ·exact ⟨retSE (by rw [if_pos h0, if_pos (by rw [h0]; rfl)]; congr 1) (by rw [if_pos (by rw [h0]; rfl), h0]), hb⟩
  ·exact ⟨retSE (by rw [if_neg (by rw [h0]; decide), if_neg (by rw [h0]; decide)]) (by rw [if_neg (by rw [h0]; decide), h0]), hb⟩
 ·have e1 : I.fits op a b n = false := by rw [hfit]; exact decide_eq_false H
  unfold I.encV I.encE
  rw [if_neg (by rw [e1]; decide), if_neg (by rw [e1]; decide)]
  exact rbad_5 op a b n hf (by first | omega | (simp only [bne_iff_ne, ne_eq]; omega) | (simp only [bne_iff_ne, ne_eq, bne_eq_false_iff_eq]; omega)) w

theorem renc_6 (op a b n : Int) (hn : (Lit.int .i64 n).wf = true) (o1 : 1 ≤ op) (o2 : op ≤ 33) (hf : I.form op = 6) (w : World) :
  Calls Tryz.prog 59 #[insV op a b n] w fun e w' => e = .returned (.tuple #[.string (strOfNums (I.encV op a b n)), .int .i64 (I.encE op a b n)]) ∧ Below w.heap.size w w' := by
 have hr : I.regs op = 0 := by unfold I.regs; rw [hf]; rfl
 have hm : I.num op = 0 := by unfold I.num; rw [hf]; rfl
 have ht : I.nat op = false := I.nat_no hf (by decide)
 have hfit : I.fits op a b n = decide (0 ≤ a ∧ a ≤ 7 ∧ 0 ≤ b ∧ b ≤ 7 ∧ a = 0 ∧ b = 0 ∧ n = 0) := by
  unfold I.fits
  rw [decide_eq_true (show 1 ≤ op ∧ op ≤ 33 from ⟨o1, o2⟩), hr, hm, Bool.true_and, Bool.eq_iff_iff, decide_eq_true_iff]
  unfold I.bears I.bad I.isr
  simp
  omega
 by_cases H : 0 ≤ a ∧ a ≤ 7 ∧ 0 ≤ b ∧ b ≤ 7 ∧ a = 0 ∧ b = 0 ∧ n = 0
 ·obtain ⟨c1, c2, c3, c4, c5, c6, c7⟩ := H
  have e1 : I.fits op a b n = true := by rw [hfit]; exact decide_eq_true ⟨c1, c2, c3, c4, c5, c6, c7⟩
  unfold I.encV I.encE
  rw [if_pos e1, if_pos e1, hr, hm, ht]
  have e2 : I.numOk 0 false n = true := rfl
  rw [if_pos e2, if_pos e2]
  refine (rok_6 op a b n o1 o2 hf (by omega) (by omega) (by omega) (by omega) (by simpa using c5) (by simpa using c6) (by simpa using c7) w).mono ?_
  rintro e w' ⟨rfl, hb⟩
  exact ⟨retSE (by first | rfl | (congr 1; done) | (congr 1; simp [I.regB, I.numW])) rfl, hb⟩
 ·have e1 : I.fits op a b n = false := by rw [hfit]; exact decide_eq_false H
  unfold I.encV I.encE
  rw [if_neg (by rw [e1]; decide), if_neg (by rw [e1]; decide)]
  exact rbad_6 op a b n hf (by first | omega | (simp only [bne_iff_ne, ne_eq]; omega) | (simp only [bne_iff_ne, ne_eq, bne_eq_false_iff_eq]; omega)) w

theorem renc_7 (op a b n : Int) (hn : (Lit.int .i64 n).wf = true) (o1 : 1 ≤ op) (o2 : op ≤ 33) (hf : I.form op = 7) (w : World) :
  Calls Tryz.prog 59 #[insV op a b n] w fun e w' => e = .returned (.tuple #[.string (strOfNums (I.encV op a b n)), .int .i64 (I.encE op a b n)]) ∧ Below w.heap.size w w' := by
 have hr : I.regs op = 0 := by unfold I.regs; rw [hf]; rfl
 have hm : I.num op = 1 := by unfold I.num; rw [hf]; rfl
 have ht : I.nat op = false := I.nat_no hf (by decide)
 have hfit : I.fits op a b n = decide (0 ≤ a ∧ a ≤ 7 ∧ 0 ≤ b ∧ b ≤ 7 ∧ a = 0 ∧ b = 0) := by
  unfold I.fits
  rw [decide_eq_true (show 1 ≤ op ∧ op ≤ 33 from ⟨o1, o2⟩), hr, hm, Bool.true_and, Bool.eq_iff_iff, decide_eq_true_iff]
  unfold I.bears I.bad I.isr
  simp
  omega
 by_cases H : 0 ≤ a ∧ a ≤ 7 ∧ 0 ≤ b ∧ b ≤ 7 ∧ a = 0 ∧ b = 0
 ·obtain ⟨c1, c2, c3, c4, c5, c6⟩ := H
  have e1 : I.fits op a b n = true := by rw [hfit]; exact decide_eq_true ⟨c1, c2, c3, c4, c5, c6⟩
  unfold I.encV I.encE
  rw [if_pos e1, if_pos e1, hr, hm, ht]
  have e2 : I.numOk 1 false n = (W.bytesE n 1 == 0) := by unfold I.numOk; rw [if_neg (by decide)]; simp
  rw [e2]
  refine (rok_7 op a b n hn o1 o2 hf (by omega) (by omega) (by omega) (by omega) (by simpa using c5) (by simpa using c6) w).mono ?_
  rintro e w' ⟨rfl, hb⟩
  rcases W.bytesE_sz (n := n) (m := 1) (by decide) with h0 | h0
  ·exact ⟨retSE (by rw [if_pos h0, if_pos (by rw [h0]; rfl)]; congr 1) (by rw [if_pos (by rw [h0]; rfl), h0]), hb⟩
  ·exact ⟨retSE (by rw [if_neg (by rw [h0]; decide), if_neg (by rw [h0]; decide)]) (by rw [if_neg (by rw [h0]; decide), h0]), hb⟩
 ·have e1 : I.fits op a b n = false := by rw [hfit]; exact decide_eq_false H
  unfold I.encV I.encE
  rw [if_neg (by rw [e1]; decide), if_neg (by rw [e1]; decide)]
  exact rbad_7 op a b n hf (by first | omega | (simp only [bne_iff_ne, ne_eq]; omega) | (simp only [bne_iff_ne, ne_eq, bne_eq_false_iff_eq]; omega)) w

theorem renc_8 (op a b n : Int) (hn : (Lit.int .i64 n).wf = true) (o1 : 1 ≤ op) (o2 : op ≤ 33) (hf : I.form op = 8) (w : World) :
  Calls Tryz.prog 59 #[insV op a b n] w fun e w' => e = .returned (.tuple #[.string (strOfNums (I.encV op a b n)), .int .i64 (I.encE op a b n)]) ∧ Below w.heap.size w w' := by
 have hr : I.regs op = 1 := by unfold I.regs; rw [hf]; rfl
 have hm : I.num op = 1 := by unfold I.num; rw [hf]; rfl
 have ht : I.nat op = false := I.nat_no hf (by decide)
 have hfit : I.fits op a b n = decide (0 ≤ a ∧ a ≤ 7 ∧ 0 ≤ b ∧ b ≤ 7 ∧ b = 0) := by
  unfold I.fits
  rw [decide_eq_true (show 1 ≤ op ∧ op ≤ 33 from ⟨o1, o2⟩), hr, hm, Bool.true_and, Bool.eq_iff_iff, decide_eq_true_iff]
  unfold I.bears I.bad I.isr
  simp
  omega
 by_cases H : 0 ≤ a ∧ a ≤ 7 ∧ 0 ≤ b ∧ b ≤ 7 ∧ b = 0
 ·obtain ⟨c1, c2, c3, c4, c6⟩ := H
  have e1 : I.fits op a b n = true := by rw [hfit]; exact decide_eq_true ⟨c1, c2, c3, c4, c6⟩
  unfold I.encV I.encE
  rw [if_pos e1, if_pos e1, hr, hm, ht]
  have e2 : I.numOk 1 false n = (W.bytesE n 1 == 0) := by unfold I.numOk; rw [if_neg (by decide)]; simp
  rw [e2]
  refine (rok_8 op a b n hn o1 o2 hf (by omega) (by omega) (by omega) (by omega) (by simpa using c6) w).mono ?_
  rintro e w' ⟨rfl, hb⟩
  rcases W.bytesE_sz (n := n) (m := 1) (by decide) with h0 | h0
  ·exact ⟨retSE (by rw [if_pos h0, if_pos (by rw [h0]; rfl)]; congr 1) (by rw [if_pos (by rw [h0]; rfl), h0]), hb⟩
  ·exact ⟨retSE (by rw [if_neg (by rw [h0]; decide), if_neg (by rw [h0]; decide)]) (by rw [if_neg (by rw [h0]; decide), h0]), hb⟩
 ·have e1 : I.fits op a b n = false := by rw [hfit]; exact decide_eq_false H
  unfold I.encV I.encE
  rw [if_neg (by rw [e1]; decide), if_neg (by rw [e1]; decide)]
  exact rbad_8 op a b n hf (by first | omega | (simp only [bne_iff_ne, ne_eq]; omega) | (simp only [bne_iff_ne, ne_eq, bne_eq_false_iff_eq]; omega)) w

theorem renc_9 (op a b n : Int) (hn : (Lit.int .i64 n).wf = true) (o1 : 1 ≤ op) (o2 : op ≤ 33) (hf : I.form op = 9) (w : World) :
  Calls Tryz.prog 59 #[insV op a b n] w fun e w' => e = .returned (.tuple #[.string (strOfNums (I.encV op a b n)), .int .i64 (I.encE op a b n)]) ∧ Below w.heap.size w w' := by
 have hr : I.regs op = 1 := by unfold I.regs; rw [hf]; rfl
 have hm : I.num op = 0 := by unfold I.num; rw [hf]; rfl
 have ht : I.nat op = false := I.nat_no hf (by decide)
 have hfit : I.fits op a b n = decide (0 ≤ a ∧ a ≤ 7 ∧ 0 ≤ b ∧ b ≤ 7 ∧ b = 0 ∧ n = 0) := by
  unfold I.fits
  rw [decide_eq_true (show 1 ≤ op ∧ op ≤ 33 from ⟨o1, o2⟩), hr, hm, Bool.true_and, Bool.eq_iff_iff, decide_eq_true_iff]
  unfold I.bears I.bad I.isr
  simp
  omega
 by_cases H : 0 ≤ a ∧ a ≤ 7 ∧ 0 ≤ b ∧ b ≤ 7 ∧ b = 0 ∧ n = 0
 ·obtain ⟨c1, c2, c3, c4, c6, c7⟩ := H
  have e1 : I.fits op a b n = true := by rw [hfit]; exact decide_eq_true ⟨c1, c2, c3, c4, c6, c7⟩
  unfold I.encV I.encE
  rw [if_pos e1, if_pos e1, hr, hm, ht]
  have e2 : I.numOk 0 false n = true := rfl
  rw [if_pos e2, if_pos e2]
  refine (rok_9 op a b n o1 o2 hf (by omega) (by omega) (by omega) (by omega) (by simpa using c6) (by simpa using c7) w).mono ?_
  rintro e w' ⟨rfl, hb⟩
  exact ⟨retSE (by first | rfl | (congr 1; done) | (congr 1; simp [I.regB, I.numW])) rfl, hb⟩
 ·have e1 : I.fits op a b n = false := by rw [hfit]; exact decide_eq_false H
  unfold I.encV I.encE
  rw [if_neg (by rw [e1]; decide), if_neg (by rw [e1]; decide)]
  exact rbad_9 op a b n hf (by first | omega | (simp only [bne_iff_ne, ne_eq]; omega) | (simp only [bne_iff_ne, ne_eq, bne_eq_false_iff_eq]; omega)) w

theorem renc_10 (op a b n : Int) (hn : (Lit.int .i64 n).wf = true) (o1 : 1 ≤ op) (o2 : op ≤ 33) (hf : I.form op = 10) (w : World) :
  Calls Tryz.prog 59 #[insV op a b n] w fun e w' => e = .returned (.tuple #[.string (strOfNums (I.encV op a b n)), .int .i64 (I.encE op a b n)]) ∧ Below w.heap.size w w' := by
 have hr : I.regs op = 0 := by unfold I.regs; rw [hf]; rfl
 have hm : I.num op = 1 := by unfold I.num; rw [hf]; rfl
 have ht : I.nat op = true := I.nat_yes hf
 have hfit : I.fits op a b n = decide (0 ≤ a ∧ a ≤ 7 ∧ 0 ≤ b ∧ b ≤ 7 ∧ a = 0 ∧ b = 0) := by
  unfold I.fits
  rw [decide_eq_true (show 1 ≤ op ∧ op ≤ 33 from ⟨o1, o2⟩), hr, hm, Bool.true_and, Bool.eq_iff_iff, decide_eq_true_iff]
  unfold I.bears I.bad I.isr
  simp
  omega
 by_cases H : 0 ≤ a ∧ a ≤ 7 ∧ 0 ≤ b ∧ b ≤ 7 ∧ a = 0 ∧ b = 0
 ·obtain ⟨c1, c2, c3, c4, c5, c6⟩ := H
  have e1 : I.fits op a b n = true := by rw [hfit]; exact decide_eq_true ⟨c1, c2, c3, c4, c5, c6⟩
  unfold I.encV I.encE
  rw [if_pos e1, if_pos e1, hr, hm, ht]
  by_cases hr0 : 0 ≤ n ∧ n ≤ 127
  ·have h0 : W.bytesE n 1 = 0 := by
    unfold W.bytesE
    rw [if_pos (by decide), if_pos]
    unfold W.sx
    rw [if_pos rfl]
    omega
   have e2 : I.numOk 1 true n = true := by unfold I.numOk; rw [if_neg (by decide), h0, decide_eq_true hr0.1]; rfl
   rw [if_pos e2, if_pos e2]
   refine (rok_10 op a b n hn o1 o2 hf (by omega) (by omega) (by omega) (by omega) (by simpa using c5) (by simpa using c6) hr0.1 hr0.2 w).mono ?_
   rintro e w' ⟨rfl, hb⟩
   exact ⟨retSE (by rw [if_pos h0]; congr 1) (by rw [h0]), hb⟩
  ·have e2 : I.numOk 1 true n = false := by
    unfold I.numOk
    rw [if_neg (by decide)]
    by_cases h : 0 ≤ n
    ·have h0 : W.bytesE n 1 = 7 := by
      unfold W.bytesE
      rw [if_pos (by decide), if_neg]
      unfold W.sx
      rw [if_pos rfl]
      omega
     rw [h0]; rfl
    ·rw [decide_eq_false h]; simp
   rw [if_neg (by rw [e2]; decide), if_neg (by rw [e2]; decide)]
   exact rtrap op a b n hf (by omega) (by omega) (by omega) (by omega) (by simpa using c5) (by simpa using c6) (by omega) w
 ·have e1 : I.fits op a b n = false := by rw [hfit]; exact decide_eq_false H
  unfold I.encV I.encE
  rw [if_neg (by rw [e1]; decide), if_neg (by rw [e1]; decide)]
  exact rbad_10 op a b n hf (by first | omega | (simp only [bne_iff_ne, ne_eq]; omega) | (simp only [bne_iff_ne, ne_eq, bne_eq_false_iff_eq]; omega)) w

theorem rencode_any (op a b n : Int) (hn : (Lit.int .i64 n).wf = true) (w : World) :
  Calls Tryz.prog 59 #[insV op a b n] w fun e w' => e = .returned (.tuple #[.string (strOfNums (I.encV op a b n)), .int .i64 (I.encE op a b n)]) ∧ Below w.heap.size w w' := by
 by_cases h : 1 ≤ op ∧ op ≤ 33
 ·have h0 := I.form_some h.1 h.2
  have h1 := I.form_range op
  rcases (show I.form op = 1 ∨ I.form op = 2 ∨ I.form op = 3 ∨ I.form op = 4 ∨ I.form op = 5 ∨ I.form op = 6 ∨ I.form op = 7 ∨ I.form op = 8 ∨ I.form op = 9 ∨ I.form op = 10 by omega) with e | e | e | e | e | e | e | e | e | e
  ·exact renc_1 op a b n hn h.1 h.2 e w
  ·exact renc_2 op a b n hn h.1 h.2 e w
  ·exact renc_3 op a b n hn h.1 h.2 e w
  ·exact renc_4 op a b n hn h.1 h.2 e w
  ·exact renc_5 op a b n hn h.1 h.2 e w
  ·exact renc_6 op a b n hn h.1 h.2 e w
  ·exact renc_7 op a b n hn h.1 h.2 e w
  ·exact renc_8 op a b n hn h.1 h.2 e w
  ·exact renc_9 op a b n hn h.1 h.2 e w
  ·exact renc_10 op a b n hn h.1 h.2 e w
 ·have e1 : I.fits op a b n = false := by unfold I.fits; rw [decide_eq_false h]; rfl
  unfold I.encV I.encE
  rw [if_neg (by rw [e1]; decide), if_neg (by rw [e1]; decide)]
  exact rbad_0 op a b n (I.form_none (by omega)) w

end Go.Proofs.YtgjingleolhkbaaGreatDoor.J

namespace Go.Proofs.YtgjingleolhkbaaGreatDoor
open Go.RowKit Go.Maps Go.Lib
set_option linter.unusedVariables false
set_option linter.unusedSimpArgs false
namespace Z
theorem code_case {ts : List X.It} {t : X.It} (hok : X.itOk t = true) (hk : t.kind = 2) :
  (jumpD t = true ∧ jump t = true ∧ (t.op = 20 ∨ t.op = 21 ∨ t.op = 22) ∧ isOpen ts t = false ∧ t.name ≠ []) ∨ (jumpD t = false ∧ jump t = false ∧ t.op = 23 ∧ t.name ≠ [] ∧ t.n = 0) ∨ (jumpD t = false ∧ jump t = false ∧ t.op = 19 ∧ isOpen ts t = true) ∨ (jumpD t = false ∧ jump t = false ∧ t.op ≠ 23 ∧ t.op ≠ 19 ∧ t.name = [] ∧ isOpen ts t = false) := by
 obtain ⟨hins, -⟩ := X.itOk_ins hok hk
 obtain ⟨o0, o1, hrow, hnm, -, ha, hb, hn, ra, rb, hno⟩ := X.insOk_split hins
 obtain ⟨f1, f2, f3, f4, f5, f6, f7⟩ := rowF (k := t.op.toNat) (by omega) hrow
 have hname : t.name ≠ [] ↔ 19 ≤ t.op.toNat ∧ t.op.toNat ≤ 23 := by
  rw [← f5, hnm]
  simp
 have hj := jump_ok hok
 by_cases h1 : t.op = 20 ∨ t.op = 21 ∨ t.op = 22
 ·have hjt := (jump_iff t).2 h1
  refine .inl ⟨hj.trans hjt, hjt, h1, ?_, hname.2 (by omega)⟩
  unfold isOpen
  rw [decide_eq_false (by omega), decide_eq_false (by omega)]
  rfl
 ·have hjt : jump t = false := by
   cases h : jump t with
   | false => rfl
   | true => exact absurd ((jump_iff t).1 h) h1
  by_cases h2 : t.op = 23
  ·refine .inr (.inl ⟨hj.trans hjt, hjt, h2, hname.2 (by omega), ?_⟩)
   rcases hn with e | e
   ·exact e
   ·have := (f7 (by omega)).2.2
    rw [this] at e
    cases e
  ·by_cases h3 : t.op = 19
   ·refine .inr (.inr (.inl ⟨hj.trans hjt, hjt, h3, ?_⟩))
    unfold isOpen
    rw [decide_eq_true h3]
    rfl
   ·refine .inr (.inr (.inr ⟨hj.trans hjt, hjt, h2, h3, ?_, ?_⟩))
    ·cases hh : t.name with
     | nil => rfl
     | cons x y => have := hname.1 (by rw [hh]; simp); omega
    ·unfold isOpen
     rw [decide_eq_false h3, decide_eq_false h2]
     rfl
def relsAt (ts : List X.It) (os : List Int) (k : Nat) : List O.Rel := if isOpen ts (ts.getD k X.noIt) = true then [relOf (ts.getD k X.noIt) (beg os (k + 1) - 4)] else []
end Z
def CodeOut (w : World) (ts : List X.It) (os : List Int) (k : Nat) (e : Ending) (w' : World) : Prop :=
 ∃ ar cr, e = .returned (.tuple #[.string (strOfNums (Z.codeV ts os k)), .slice ar (Z.relsAt ts os k).length cr]) ∧ w'.ownsRow w.heap.size 51 4 (.slice ar (Z.relsAt ts os k).length cr) (Z.relsAt ts os k).length ((Z.relsAt ts os k).flatMap O.relC) ∧ Below w.heap.size w w'
theorem CodeOut.zero {w w' : World} {ts : List X.It} {os : List Int} {k : Nat} {v : ByteArray} (hv : strOfNums (Z.codeV ts os k) = v) (hr : Z.relsAt ts os k = []) (hb : Below w.heap.size w w') : CodeOut w ts os k (.returned (.tuple #[.string v, .slice none 0 0])) w' := by
 unfold CodeOut
 rw [hv, hr]
 exact ⟨_, _, rfl, World.ownsRow_nil _ _ _ _, hb⟩
theorem CodeOut.one {w w' : World} {ts : List X.It} {os : List Int} {k g cap : Nat} {v : ByteArray} {r : O.Rel} (hv : strOfNums (Z.codeV ts os k) = v) (hr : Z.relsAt ts os k = [r]) (ho : w'.ownsRow w.heap.size 51 4 (.slice (some ⟨g, 0, none⟩) 1 cap) 1 (O.relC r)) (hb : Below w.heap.size w w') : CodeOut w ts os k (.returned (.tuple #[.string v, .slice (some ⟨g, 0, none⟩) 1 cap])) w' := by
 unfold CodeOut
 rw [hv, hr]
 exact ⟨_, _, rfl, by simpa using ho, hb⟩
theorem relC_one {r : O.Rel} : ∀ u ∈ O.relC r, u.oneCell' = true := by
 intro u hu
 simp [O.relC] at hu
 rcases hu with rfl | rfl | rfl | rfl <;> rfl
theorem infoR : (Tryz.prog.info? 51).map (fun i => (i.zero, i.size, i.bytes)) = some (some (.agg #[.int .i64 0, .int .i64 0, .string { data := #[] }, .int .i64 0]), 4, 40) := by kernel_rfl
set_option maxRecDepth 100000 in
set_option maxHeartbeats 20000000 in
theorem rcode_any {w : World} {a : Option Addr} {l c : Nat} {ts : List X.It} (h : ItsV w a l c ts) (hok : ∀ t ∈ ts, X.itOk t = true) (hl : l ≤ 20000) {k : Nat} (hk : k < l) (hkd : (ts.getD k X.noIt).kind = 2) {B ca : Nat} {aa : Option Addr} {os : List Int} {bb : Bool} (hra : w.ownsRow B 3 1 (.slice aa l ca) l ((Z.ats os).map iV)) (hol : os.length = l) (hos : os.getD k 0 = Z.opL (ts.getD k X.noIt) bb) :
  Calls Tryz.prog 32 #[.slice a l c, .int .i64 k, .slice aa l ca, .bool bb] w (CodeOut w ts os k) := by
 obtain ⟨it, hit, ht0, ht1, ht2⟩ := info_parts infoR
 have HV : Hid _ := h
 have HC : Hid (ts.length = l) := h.count
 have hrm := h.room
 unfold maxLen at hrm
 obtain ⟨b, off, t, aw, lw, cw, rfl, hg, hmem, c0, c1, c2, c3, c4, c5, c6, hiv⟩ := h.at hk
 have hokt := hok t hmem
 have hfit := (h.fit t hmem).2.1
 rw [hg] at hkd hos
 obtain ⟨ga, rfl, -, hgal, -, -⟩ := row_some hra (by omega)
 have hcz := fun q (hq : q < l) => row_int hra hq
 obtain ⟨zs, hzs⟩ : ∃ zs, Z.ats os = zs := ⟨_, rfl⟩
 rw [hzs] at hcz
 obtain ⟨q, hq⟩ : ∃ q, Z.labN ts t.name = q := ⟨_, rfl⟩
 have hql : q < l := by rw [← hq, ← HC.out]; exact Z.labN_lt _ (by rw [HC.out]; omega)
 obtain ⟨zk, hzk⟩ : ∃ z, zs.getD k 0 = z := ⟨_, rfl⟩
 obtain ⟨zq, hzq⟩ : ∃ z, zs.getD q 0 = z := ⟨_, rfl⟩
 have ck := hcz k hk
 have cq := hcz q hql
 rw [hzk] at ck
 rw [hzq] at cq
 have hnear := near_ats (ops := os) (by rw [hol]; exact hl)
 have hr1 := hnear k
 have hr2 := hnear q
 rw [hzs, hzk] at hr1
 rw [hzs, hzq] at hr2
 obtain ⟨z, hz⟩ : ∃ z, Z.szD t bb = z := ⟨_, rfl⟩
 have hzo : Z.sz (os.getD k 0) = z := by rw [hos, ← hz]; exact (Z.szD_ok hokt bb).symm
 have hrz := sz_range (os.getD k 0)
 rw [hzo] at hrz
 have HBE : Hid (Z.beg os (k + 1) = zk + z) := by
  show _ = _
  rw [Z.beg_succ os (by rw [hol]; exact hk), hzo, ← hzk, ← hzs, Z.ats_at os (by rw [hol]; exact hk)]
 have HFAR : Hid (Z.far os (Z.ats os) k (Z.labN ts t.name) = zq - (zk + z)) := by
  show _ = _
  unfold Z.far
  rw [hzs, hq, hzq, hzk, hzo]
 have HCV : Hid (Z.codeV ts os k = J.I.encV (Z.opL t bb) t.a t.b (Z.codeN ts os k)) := by
  show _ = _
  unfold Z.codeV
  rw [hg, hos]
 have HCN : Hid (Z.codeN ts os k = if Z.isOpen ts t = true then 0 else if t.name ≠ [] then zq - (zk + z) else t.n) := by
  show _ = _
  unfold Z.codeN
  rw [hg, HFAR.out]
 have HRA : Hid (Z.relsAt ts os k = if Z.isOpen ts t = true then [Z.relOf t (zk + z - 4)] else []) := by
  show _ = _
  unfold Z.relsAt
  rw [hg, HBE.out]
 have HCASE : Hid _ := Z.code_case (ts := ts) hokt hkd
 have hfit' : -9223372036854775808 ≤ t.n ∧ t.n ≤ 9223372036854775807 := hfit
 have hw1 : IntKind.i64.wrap (zk + z) = zk + z := by rw [IntKind.wrap_i64]; omega
 have hw2 : IntKind.i64.wrap (zq - (zk + z)) = zq - (zk + z) := by rw [IntKind.wrap_i64]; omega
 have hw3 : IntKind.i64.wrap (zk + z - 4) = zk + z - 4 := by rw [IntKind.wrap_i64]; omega
 have hki : (k : Int) < l := by omega
 have hk0 : 0 ≤ (k : Int) := by omega
 have hqi : (q : Int) < l := by omega
 have hq0 : 0 ≤ (q : Int) := by omega
 have HSZ : Hid (∀ W, Calls Tryz.prog 58 #[itV t (.slice aw lw cw), .bool bb] W fun e w' => e = .returned (.int .i64 z) ∧ Below W.heap.size W w') := fun W => by rw [← hz]; exact dsize_any t aw lw cw bb W
 have HLB : Hid (∀ y, Below w.heap.size w y → Calls Tryz.prog 33 #[.slice (some ⟨b, off, none⟩) l c, .string (X.str t.name)] y fun e w' => e = .returned (.tuple #[.int .i64 q, .bool (Z.lab ts t.name).isSome]) ∧ Below y.heap.size y w') := fun y hy => by rw [← hq]; exact rlabel_any (HV.out.below hy) t.name
 have HJM : Hid (∀ W, Calls Tryz.prog 57 #[itV t (.slice aw lw cw)] W fun e w' => e = .returned (.bool (Z.jumpD t)) ∧ Below W.heap.size W w') := fun W => rjump_any t aw lw cw W
 have HENC : Hid (∀ W o n, -9223372036854775808 ≤ n ∧ n ≤ 9223372036854775807 → Calls Tryz.prog 59 #[J.insV o t.a t.b n] W fun e w' => e = .returned (.tuple #[.string (strOfNums (J.I.encV o t.a t.b n)), .int .i64 (J.I.encE o t.a t.b n)]) ∧ Below W.heap.size W w') := fun W o n hn => J.rencode_any o t.a t.b n ((Z.wf_i n).2 hn) W
 obtain ⟨X1, hX1⟩ : ∃ X1, w.alloc (.cells #[.int .i64 t.op, .int .i64 t.a, .int .i64 t.b, .int .i64 t.n] 42) = X1 := ⟨_, rfl⟩
 obtain ⟨bx, hbx⟩ : ∃ bx, w.heap.size = bx := ⟨_, rfl⟩
 have hgx : ga ≠ bx := by omega
 have hgx2 : bx ≠ ga := by omega
 clear hgal
 have HX1 : Hid (Below w.heap.size w X1) := by subst hX1; exact bl1 _ _
 have HBX : Hid (w.heap.size ≤ bx ∧ bx < X1.heap.size) := by subst hX1 hbx; exact ⟨Nat.le_refl _, by simp⟩
 have HALL : Hid (∀ y, Below X1.heap.size X1 y → (y.cell? ⟨b, off + k * 7, none⟩ = some (.int .i64 t.kind) ∧ y.cell? ⟨b, off + k * 7 + 1, none⟩ = some (.string (X.str t.name)) ∧ y.cell? ⟨b, off + k * 7 + 2, none⟩ = some (.int .i64 t.op) ∧ y.cell? ⟨b, off + k * 7 + 3, none⟩ = some (.int .i64 t.a) ∧ y.cell? ⟨b, off + k * 7 + 4, none⟩ = some (.int .i64 t.b) ∧ y.cell? ⟨b, off + k * 7 + 5, none⟩ = some (.int .i64 t.n) ∧ y.cell? ⟨b, off + k * 7 + 6, none⟩ = some (.slice aw lw cw)) ∧ (y.cell? ⟨ga, k, none⟩ = some (.int .i64 zk) ∧ y.cell? ⟨ga, q, none⟩ = some (.int .i64 zq)) ∧ (y.cell? ⟨bx, 0, none⟩ = some (.int .i64 t.op) ∧ y.cell? ⟨bx, 1, none⟩ = some (.int .i64 t.a) ∧ y.cell? ⟨bx, 2, none⟩ = some (.int .i64 t.b) ∧ y.cell? ⟨bx, 3, none⟩ = some (.int .i64 t.n)) ∧ (∀ j, y.frozen? ⟨bx, j, none⟩ = false) ∧ Below w.heap.size w y) := fun y hy => by
  have hB : Below w.heap.size w y := HX1.out.trans (hy.mono HX1.out.size)
  refine ⟨⟨cell_thru hB c0, cell_thru hB c1, cell_thru hB c2, cell_thru hB c3, cell_thru hB c4, cell_thru hB c5, cell_thru hB c6⟩, ⟨cell_thru hB ck, cell_thru hB cq⟩, ?_, ?_, hB⟩
  ·subst hX1 hbx
   exact ⟨cell_thru hy (cellA rfl rfl), cell_thru hy (cellA rfl rfl), cell_thru hy (cellA rfl rfl), cell_thru hy (cellA rfl rfl)⟩
  ·intro j
   refine (hy.frozen (p := ⟨bx, j, none⟩) HBX.out.2).trans ?_
   subst hX1 hbx
   simp
 clear hg hmem hok h hra hcz hnear hzs hq hzk hzq hz hzo hiv hos hokt hkd hfit
 go_enter Tryz.func32, Tryz.ntmps32
 go_upto_region 2 with fail
 try rw [hX1]
 try rw [hbx]
 obtain ⟨⟨d0, d1, d2, d3, d4, d5, d6⟩, ⟨dk, dq⟩, -, -, -⟩ := HALL.out X1 (Below.refl _ _)
 clear c0 c1 c2 c3 c4 c5 c6 ck cq hX1 hbx
 go_region_held3 (fun w' : World => w'.cell? ⟨b, off + k * 7, none⟩ = some (.int .i64 t.kind) ∧ w'.cell? ⟨b, off + k * 7 + 1, none⟩ = some (.string (X.str t.name)) ∧ w'.cell? ⟨b, off + k * 7 + 2, none⟩ = some (.int .i64 t.op) ∧ w'.cell? ⟨b, off + k * 7 + 3, none⟩ = some (.int .i64 t.a) ∧ w'.cell? ⟨b, off + k * 7 + 4, none⟩ = some (.int .i64 t.b) ∧ w'.cell? ⟨b, off + k * 7 + 5, none⟩ = some (.int .i64 t.n) ∧ w'.cell? ⟨b, off + k * 7 + 6, none⟩ = some (.slice aw lw cw) ∧ w'.cell? ⟨ga, k, none⟩ = some (.int .i64 zk)) (first | (exact (fun h => ⟨h.1.1, h.1.2.1, h.1.2.2.1, h.1.2.2.2.1, h.1.2.2.2.2.1, h.1.2.2.2.2.2.1, h.1.2.2.2.2.2.2, h.2.1.1⟩) (HALL.out _ hB1)) | go_keep) ((go_at_call 58; refine (HSZ.out _).mono ?_; rintro e y1 ⟨rfl, hb1⟩; have hB1 := (bl_drewN (Below.refl X1.heap.size X1) _).trans hb1))
 have HB1 : Hid (Below X1.heap.size X1 y1) := hB1
 clear hB1 hb1 d0 d1 d2 d3 d4 d5 d6 dk dq
 obtain ⟨⟨d0, d1, d2, d3, d4, d5, d6⟩, -, -, -, -⟩ := HALL.out y1 HB1.out
 have hlb := HLB.out y1 (HALL.out y1 HB1.out).2.2.2.2
 obtain ⟨isq, hisq⟩ : ∃ x, (Z.lab ts t.name).isSome = x := ⟨_, rfl⟩
 rw [hisq] at hlb
 have HISQ : Hid ((Z.lab ts t.name).isSome = isq) := hisq
 clear hisq
 go_wp2_with fail
 refine hlb.mono ?_
 rintro e y2 ⟨rfl, hy2⟩
 have HB2 : Hid (Below X1.heap.size X1 y2) := HB1.out.trans (hy2.mono HB1.out.size)
 clear hy2 hlb d0 d1 d2 d3 d4 d5 d6
 obtain ⟨⟨d0, d1, d2, d3, d4, d5, d6⟩, -, -, -, -⟩ := HALL.out y2 HB2.out
 have hjm := HJM.out y2
 obtain ⟨jd, hjd⟩ : ∃ x, Z.jumpD t = x := ⟨_, rfl⟩
 rw [hjd] at hjm HCASE
 clear hjd
 go_wp2_with fail
 refine hjm.mono ?_
 rintro e y3 ⟨rfl, hy3⟩
 have HB3 : Hid (Below X1.heap.size X1 y3) := HB2.out.trans (hy3.mono HB2.out.size)
 clear hy3 hjm d0 d1 d2 d3 d4 d5 d6
 obtain ⟨⟨d0, d1, d2, d3, d4, d5, d6⟩, ⟨dk, dq⟩, ⟨m0, m1, m2, m3⟩, fz, hlow⟩ := HALL.out y3 HB3.out
 have f0 := fz 0
 have f3 := fz 3
 have HLOW : Hid (Below w.heap.size w y3) := hlow
 clear fz hlow
 rcases HCASE.out with ⟨rfl, hj, hop, ho, hn⟩ | ⟨rfl, hj, h23, hn, hn0⟩ | ⟨rfl, hj, h19, ho⟩ | ⟨rfl, hj, h23, h19, hn, ho⟩
 ·-- a jump
  have HCN2 : Hid (Z.codeN ts os k = zq - (zk + z)) := by show _ = _; rw [HCN.out, ho, if_neg (by decide), if_pos hn]
  have HRN : Hid (Z.relsAt ts os k = []) := by show _ = _; rw [HRA.out, ho]; rfl
  have h20 : 20 ≤ t.op ∧ t.op ≤ 22 := by omega
  cases bb
  ·have HOP : Hid (Z.opL t false = t.op + 5) := by
    show _ = _
    unfold Z.opL
    rw [hj]
    rcases hop with e | e | e <;> rw [e] <;> rfl
   have hw5 : IntKind.i64.wrap (t.op + 5) = t.op + 5 := by rw [IntKind.wrap_i64]; omega
   have HLW : Hid (Below w.heap.size w ((y3.setCell ⟨bx, 0, none⟩ (.int .i64 (t.op + 5))).setCell ⟨bx, 3, none⟩ (.int .i64 (zq - (zk + z))))) := (HLOW.out.setCell HBX.out.1 _).setCell HBX.out.1 _
   have dq2 : (y3.setCell ⟨bx, 0, none⟩ (.int .i64 (t.op + 5))).cell? ⟨ga, q, none⟩ = some (.int .i64 zq) := (World.cell?_setCell_far _ ⟨bx, 0, none⟩ ⟨ga, q, none⟩ _ hgx2).trans dq
   clear hop ho hn hj
   go_wp2_with fail
   refine (HENC.out _ (t.op + 5) (zq - (zk + z)) (by omega)).mono ?_
   rintro e yE ⟨rfl, hyE⟩
   have HYE : Hid _ := hyE
   clear hyE
   go_wp2_with fail
   go_ret2
   exact CodeOut.zero (by rw [HCV.out, HCN2.out, HOP.out]) HRN.out (HLW.out.trans (HYE.out.mono HLW.out.size))
  ·have HOP : Hid (Z.opL t true = t.op) := by
    show _ = _
    unfold Z.opL
    simp
   have HLW : Hid (Below w.heap.size w (y3.setCell ⟨bx, 3, none⟩ (.int .i64 (zq - (zk + z))))) := HLOW.out.setCell HBX.out.1 _
   clear hop ho hn hj
   go_wp2_with fail
   refine (HENC.out _ t.op (zq - (zk + z)) (by omega)).mono ?_
   rintro e yE ⟨rfl, hyE⟩
   have HYE : Hid _ := hyE
   clear hyE
   go_wp2_with fail
   go_ret2
   exact CodeOut.zero (by rw [HCV.out, HCN2.out, HOP.out]) HRN.out (HLW.out.trans (HYE.out.mono HLW.out.size))
 ·-- a call
  have HOP : Hid (Z.opL t bb = t.op) := by show _ = _; unfold Z.opL; rw [hj]; rfl
  have e23 : (t.op == 23) = true := by simpa using h23
  cases isq
  ·have ho : Z.isOpen ts t = true := by
    unfold Z.isOpen
    have := HISQ.out
    cases hh : Z.lab ts t.name with
    | none => rw [decide_eq_true h23]; simp
    | some x => rw [hh] at this; cases this
   have HCN2 : Hid (Z.codeN ts os k = t.n) := by show _ = _; rw [HCN.out, ho, if_pos rfl, hn0]
   have HRN : Hid (Z.relsAt ts os k = [⟨zk + z - 4, 1, X.str t.name, 0⟩]) := by
    show _ = _
    rw [HRA.out, ho, if_pos rfl]
    unfold Z.relOf
    rw [if_neg (by omega)]
   clear ho hj hn hn0 h23
   go_wp2_with (first | (at_builtin; refine wpList_append_lies _ rfl _ _ 28 rfl w.heap.size 51 it _ 4 40 Tryz.underlying28 hit ht0 ht1 ht2 rfl (by decide) (.slice none 0 0) 0 [] rfl (World.ownsRow_nil _ _ _ _) ⟨y3.heap.size, 0, none⟩ 1 1 (O.relC ⟨zk + z - 4, 1, X.str t.name, 0⟩) rfl rfl (fun j u hu => by rw [Addr.add_lit, Nat.zero_add]; exact cellA rfl (by simpa [O.relC] using hu)) relC_one (by decide) (by unfold maxLen; omega) (by omega) (Nat.le_trans HLOW.out.size (bl1 _ _).size) _ rfl ?_; intro g cap Y6 ho6 hg6 hat6 hlt6; have hB6 : Below y3.heap.size y3 Y6 := (bl1 _ _).grown hg6 (bl1 _ _).size (by intro g e; simp [Value.ownBlock] at e); have HO6 : Hid (Y6.ownsRow w.heap.size 51 4 (.slice (some ⟨g, 0, none⟩) 1 cap) 1 (O.relC ⟨zk + z - 4, 1, X.str t.name, 0⟩)) := (by show World.ownsRow _ _ _ _ _ _ _; simpa using ho6); have HB6 : Hid (Below X1.heap.size X1 Y6) := HB3.out.trans (hB6.mono HB3.out.size); obtain ⟨-, -, ⟨n0, n1, n2, n3⟩, -, hlow6⟩ := HALL.out Y6 HB6.out; have HLOW6 : Hid (Below w.heap.size w Y6) := hlow6; clear ho6 hg6 hat6 hlt6 hB6 hlow6 m0 m1 m2 m3) | fail)
   go_wp2_with fail
   refine (HENC.out _ t.op t.n (by omega)).mono ?_
   rintro e yE ⟨rfl, hyE⟩
   have HYE : Hid _ := hyE
   clear hyE
   go_wp2_with fail
   go_ret2
   exact CodeOut.one (by rw [HCV.out, HCN2.out, HOP.out]) HRN.out (own_thru HO6.out HYE.out) (HLOW6.out.trans (HYE.out.mono HLOW6.out.size))
  ·have ho : Z.isOpen ts t = false := by
    unfold Z.isOpen
    have := HISQ.out
    cases hh : Z.lab ts t.name with
    | none => rw [hh] at this; cases this
    | some x => rw [decide_eq_false (by omega)]; simp
   have HCN2 : Hid (Z.codeN ts os k = zq - (zk + z)) := by show _ = _; rw [HCN.out, ho, if_neg (by decide), if_pos hn]
   have HRN : Hid (Z.relsAt ts os k = []) := by show _ = _; rw [HRA.out, ho]; rfl
   have HLW : Hid (Below w.heap.size w (y3.setCell ⟨bx, 3, none⟩ (.int .i64 (zq - (zk + z))))) := HLOW.out.setCell HBX.out.1 _
   clear ho hj hn hn0 h23
   go_wp2_with fail
   refine (HENC.out _ t.op (zq - (zk + z)) (by omega)).mono ?_
   rintro e yE ⟨rfl, hyE⟩
   have HYE : Hid _ := hyE
   clear hyE
   go_wp2_with fail
   go_ret2
   exact CodeOut.zero (by rw [HCV.out, HCN2.out, HOP.out]) HRN.out (HLW.out.trans (HYE.out.mono HLW.out.size))
 ·-- an address
  have HOP : Hid (Z.opL t bb = t.op) := by show _ = _; unfold Z.opL; rw [hj]; rfl
  have e19 : (t.op == 19) = true := by simpa using h19
  have e23 : (t.op == 23) = false := by simp; omega
  have HCN2 : Hid (Z.codeN ts os k = 0) := by show _ = _; rw [HCN.out, ho, if_pos rfl]
  have HRN : Hid (Z.relsAt ts os k = [⟨zk + z - 4, 2, X.str t.name, t.n⟩]) := by
   show _ = _
   rw [HRA.out, ho, if_pos rfl]
   unfold Z.relOf
   rw [if_pos h19]
  clear ho hj h19
  go_upto_region 14 with fail
  refine wp_region_held_drew (S := (fun w' : World => w'.cell? ⟨b, off + k * 7 + 1, none⟩ = some (.string (X.str t.name)) ∧ w'.cell? ⟨bx, 3, none⟩ = some (.int .i64 t.n))) (by kernel_rfl) ⟨by rw [World.cell?_drew]; exact d1, by rw [World.cell?_drew]; exact m3⟩ (fun hHeld => ?_)
  refine tj 0 ?_
  simp only [Act.put, zA, zB, zC]
  refine tj 1 ?_
  simp only [Act.put, zA, zB, zC]
  refine tj 2 ?_
  simp only [Act.put, zA, zB, zC]
  refine tj 3 ?_
  simp only [Act.put, zA, zB, zC]
  refine tj 4 ?_
  simp only [Act.put, zA, zB, zC]
  refine tj 5 ?_
  simp only [Act.put, zA, zB, zC]
  refine tj 6 ?_
  simp only [Act.put, zA, zB, zC]
  refine tj 7 ?_
  simp only [Act.put, zA, zB, zC]
  refine tj 8 ?_
  simp only [Act.put, zA, zB, zC]
  refine tj 9 ?_
  simp only [Act.put, zA, zB, zC]
  refine tj 10 ?_
  simp only [Act.put, zA, zB, zC]
  refine tr [11] ?_
  refine AllReadyH.cons (tA rfl) (fun K hK => ?_) AllReadyH.nil
  go_simp
  refine hK.out _ _ ⟨cell_thru (bl1 _ _) hHeld.1, cell_thru (bl1 _ _) hHeld.2⟩ (fun hHeld => ?_)
  clear hK K
  try simp only [Act.put, zA, zB, zC]
  refine tr [12] ?_
  refine AllReadyH.cons (tA rfl) (fun K hK => ?_) AllReadyH.nil
  refine step_append_lies _ (by rfl) _ _ 28 (by rfl) w.heap.size 51 it _ 4 40 Tryz.underlying28 hit ht0 ht1 ht2 (by rfl) (by decide) (.slice none 0 0) 0 [] (by rfl) (World.ownsRow_nil _ _ _ _) ⟨y3.heap.size, 0, none⟩ 1 1 (O.relC ⟨zk + z - 4, 2, X.str t.name, t.n⟩) (by rfl) (by rfl) (fun j u hu => by rw [Addr.add_lit, Nat.zero_add]; exact cellA rfl (by simpa [O.relC] using hu)) relC_one (by decide) (by unfold maxLen; omega) (by omega) (Nat.le_trans HLOW.out.size (Nat.le_trans (by simp) (bl1 _ _).size)) _ rfl ?_
  intro g cap Y6 ho6 hg6 hat6 hlt6
  have hB6 : Below y3.heap.size y3 Y6 := ((Below.refl _ _).drew.alloc (by simp) _).grown hg6 (Nat.le_trans (by simp) (bl1 _ _).size) (by intro g e; simp [Value.ownBlock] at e)
  have HO6 : Hid (Y6.ownsRow w.heap.size 51 4 (.slice (some ⟨g, 0, none⟩) 1 cap) 1 (O.relC ⟨zk + z - 4, 2, X.str t.name, t.n⟩)) := (by show World.ownsRow _ _ _ _ _ _ _; simpa using ho6)
  have HB6 : Hid (Below X1.heap.size X1 Y6) := HB3.out.trans (hB6.mono HB3.out.size)
  have HGB : Hid (g ≠ bx) := by
   rcases hat6 with e | e
   ·simp [Value.ownBlock] at e
   ·have h1 := HBX.out.2
    have h2 := HB3.out.size
    show g ≠ bx
    simp at e
    omega
  obtain ⟨⟨-, n7, -⟩, -, ⟨n0, n1, n2, n3⟩, fz6, hlow6⟩ := HALL.out Y6 HB6.out
  have g3 := fz6 3
  have HLOW6 : Hid (Below w.heap.size w Y6) := hlow6
  refine hK.out _ _ ⟨n7, n3⟩ (fun hHeld => ?_)
  clear hK K ho6 hg6 hat6 hlt6 hB6 hlow6 fz6
  try simp only [Act.put, zA, zB, zC]
  refine tj 13 ?_
  simp only [Act.put, zA, zB, zC]
  refine wpAnyH_done (by kernel_rfl) ?_ _
  clear hHeld
  have HLW : Hid (Below w.heap.size w (Y6.setCell ⟨bx, 3, none⟩ (.int .i64 0))) := HLOW6.out.setCell HBX.out.1 _
  have HO7 : Hid ((Y6.setCell ⟨bx, 3, none⟩ (.int .i64 0)).ownsRow w.heap.size 51 4 (.slice (some ⟨g, 0, none⟩) 1 cap) 1 (O.relC ⟨zk + z - 4, 2, X.str t.name, t.n⟩)) := HO6.out.kept (gb_set Y6 ⟨bx, 3, none⟩ _) (.inr fun e => HGB.out (Option.some.inj (show some g = some bx from e)))
  go_wp2_with fail
  refine (HENC.out _ t.op 0 (by omega)).mono ?_
  rintro e yE ⟨rfl, hyE⟩
  have HYE : Hid _ := hyE
  clear hyE
  go_wp2_with fail
  go_ret2
  exact CodeOut.one (by rw [HCV.out, HCN2.out, HOP.out]) HRN.out (own_thru HO7.out HYE.out) (HLW.out.trans (HYE.out.mono HLW.out.size))
 ·have HOP : Hid (Z.opL t bb = t.op) := by show _ = _; unfold Z.opL; rw [hj]; rfl
  have e19 : (t.op == 19) = false := by simpa using h19
  have e23 : (t.op == 23) = false := by simpa using h23
  have HCN2 : Hid (Z.codeN ts os k = t.n) := by show _ = _; rw [HCN.out, ho, if_neg (by decide), if_neg (fun e => e hn)]
  have HRN : Hid (Z.relsAt ts os k = []) := by show _ = _; rw [HRA.out, ho]; rfl
  clear ho hj h19 h23 hn
  go_wp2_with fail
  refine (HENC.out _ t.op t.n (by omega)).mono ?_
  rintro e yE ⟨rfl, hyE⟩
  have HYE : Hid _ := hyE
  clear hyE
  go_wp2_with fail
  go_ret2
  exact CodeOut.zero (by rw [HCV.out, HCN2.out, HOP.out]) HRN.out (HLOW.out.trans (HYE.out.mono HLOW.out.size))

end Go.Proofs.YtgjingleolhkbaaGreatDoor

/- The document's Encode, whatever the instruction. (Written by gen_rall.py.) -/
import Derived.Test.YtffokdldgdjkhaaDoorInsRefOk
import Derived.Test.YtffokdldgdjkhaaDoorInsRefTrap
namespace Go.Proofs.YtffokdldgdjkhaaDoor
set_option maxRecDepth 100000
open Go.RowKit
set_option linter.unusedVariables false

theorem I.nat_no {op f : Int} (h : I.form op = f) (hf : ¬ f = 10) : I.nat op = false := by
  unfold I.nat
  rw [beq_eq_false_iff_ne]
  rintro rfl
  exact hf (h.symm.trans (by decide))
theorem I.nat_yes {op : Int} (h : I.form op = 10) : I.nat op = true := by
  by_cases e : op = 33
  · subst e; rfl
  · exfalso
    unfold I.form at h
    repeat (split at h; omega)
    omega
theorem W.bytesE_sz {n m : Int} (h : W.isSz m = true) : W.bytesE n m = 0 ∨ W.bytesE n m = 7 := by
  unfold W.bytesE; rw [if_pos h]; split <;> omega

theorem renc_1 (op a b n : Int) (hn : (Lit.int .i64 n).wf = true) (o1 : 1 ≤ op) (o2 : op ≤ 33) (hf : I.form op = 1) (w : World) :
    Calls Tryd.prog 54 #[insV op a b n] w fun e w' => e = .returned (.tuple #[.string (strOfNums (I.encV op a b n)), .int .i64 (I.encE op a b n)]) ∧ Below w.heap.size w w' := by
  have hr : I.regs op = 1 := by unfold I.regs; rw [hf]; rfl
  have hm : I.num op = 8 := by unfold I.num; rw [hf]; rfl
  have ht : I.nat op = false := I.nat_no hf (by decide)
  have hfit : I.fits op a b n = decide (0 ≤ a ∧ a ≤ 7 ∧ 0 ≤ b ∧ b ≤ 7 ∧ b = 0) := by
    unfold I.fits
    rw [decide_eq_true (show 1 ≤ op ∧ op ≤ 33 from ⟨o1, o2⟩), hr, hm, Bool.true_and, Bool.eq_iff_iff, decide_eq_true_iff]
    unfold I.bears I.bad I.isr
    simp
    omega
  by_cases H : 0 ≤ a ∧ a ≤ 7 ∧ 0 ≤ b ∧ b ≤ 7 ∧ b = 0
  · obtain ⟨c1, c2, c3, c4, c6⟩ := H
    have e1 : I.fits op a b n = true := by rw [hfit]; exact decide_eq_true ⟨c1, c2, c3, c4, c6⟩
    unfold I.encV I.encE
    rw [if_pos e1, if_pos e1, hr, hm, ht]
    have e2 : I.numOk 8 false n = (W.bytesE n 8 == 0) := by unfold I.numOk; rw [if_neg (by decide)]; simp
    rw [e2]
    refine (rok_1 op a b n hn o1 o2 hf (by omega) (by omega) (by omega) (by omega) (by simpa using c6) w).mono ?_
    rintro e w' ⟨rfl, hb⟩
    rcases W.bytesE_sz (n := n) (m := 8) (by decide) with h0 | h0
    · exact ⟨retSE (by rw [if_pos h0, if_pos (by rw [h0]; rfl)]; congr 1) (by rw [if_pos (by rw [h0]; rfl), h0]), hb⟩
    · exact ⟨retSE (by rw [if_neg (by rw [h0]; decide), if_neg (by rw [h0]; decide)]) (by rw [if_neg (by rw [h0]; decide), h0]), hb⟩
  · have e1 : I.fits op a b n = false := by rw [hfit]; exact decide_eq_false H
    unfold I.encV I.encE
    rw [if_neg (by rw [e1]; decide), if_neg (by rw [e1]; decide)]
    exact rbad_1 op a b n hf (by first | omega | (simp only [bne_iff_ne, ne_eq]; omega) | (simp only [bne_iff_ne, ne_eq, bne_eq_false_iff_eq]; omega)) w

theorem renc_2 (op a b n : Int) (hn : (Lit.int .i64 n).wf = true) (o1 : 1 ≤ op) (o2 : op ≤ 33) (hf : I.form op = 2) (w : World) :
    Calls Tryd.prog 54 #[insV op a b n] w fun e w' => e = .returned (.tuple #[.string (strOfNums (I.encV op a b n)), .int .i64 (I.encE op a b n)]) ∧ Below w.heap.size w w' := by
  have hr : I.regs op = 2 := by unfold I.regs; rw [hf]; rfl
  have hm : I.num op = 0 := by unfold I.num; rw [hf]; rfl
  have ht : I.nat op = false := I.nat_no hf (by decide)
  have hfit : I.fits op a b n = decide (0 ≤ a ∧ a ≤ 7 ∧ 0 ≤ b ∧ b ≤ 7 ∧ n = 0) := by
    unfold I.fits
    rw [decide_eq_true (show 1 ≤ op ∧ op ≤ 33 from ⟨o1, o2⟩), hr, hm, Bool.true_and, Bool.eq_iff_iff, decide_eq_true_iff]
    unfold I.bears I.bad I.isr
    simp
    omega
  by_cases H : 0 ≤ a ∧ a ≤ 7 ∧ 0 ≤ b ∧ b ≤ 7 ∧ n = 0
  · obtain ⟨c1, c2, c3, c4, c7⟩ := H
    have e1 : I.fits op a b n = true := by rw [hfit]; exact decide_eq_true ⟨c1, c2, c3, c4, c7⟩
    unfold I.encV I.encE
    rw [if_pos e1, if_pos e1, hr, hm, ht]
    have e2 : I.numOk 0 false n = true := rfl
    rw [if_pos e2, if_pos e2]
    refine (rok_2 op a b n o1 o2 hf (by omega) (by omega) (by omega) (by omega) (by simpa using c7) w).mono ?_
    rintro e w' ⟨rfl, hb⟩
    exact ⟨retSE (by first | rfl | (congr 1; done) | (congr 1; simp [I.regB, I.numW])) rfl, hb⟩
  · have e1 : I.fits op a b n = false := by rw [hfit]; exact decide_eq_false H
    unfold I.encV I.encE
    rw [if_neg (by rw [e1]; decide), if_neg (by rw [e1]; decide)]
    exact rbad_2 op a b n hf (by first | omega | (simp only [bne_iff_ne, ne_eq]; omega) | (simp only [bne_iff_ne, ne_eq, bne_eq_false_iff_eq]; omega)) w

theorem renc_3 (op a b n : Int) (hn : (Lit.int .i64 n).wf = true) (o1 : 1 ≤ op) (o2 : op ≤ 33) (hf : I.form op = 3) (w : World) :
    Calls Tryd.prog 54 #[insV op a b n] w fun e w' => e = .returned (.tuple #[.string (strOfNums (I.encV op a b n)), .int .i64 (I.encE op a b n)]) ∧ Below w.heap.size w w' := by
  have hr : I.regs op = 2 := by unfold I.regs; rw [hf]; rfl
  have hm : I.num op = 4 := by unfold I.num; rw [hf]; rfl
  have ht : I.nat op = false := I.nat_no hf (by decide)
  have hfit : I.fits op a b n = decide (0 ≤ a ∧ a ≤ 7 ∧ 0 ≤ b ∧ b ≤ 7) := by
    unfold I.fits
    rw [decide_eq_true (show 1 ≤ op ∧ op ≤ 33 from ⟨o1, o2⟩), hr, hm, Bool.true_and, Bool.eq_iff_iff, decide_eq_true_iff]
    unfold I.bears I.bad I.isr
    simp
    omega
  by_cases H : 0 ≤ a ∧ a ≤ 7 ∧ 0 ≤ b ∧ b ≤ 7
  · obtain ⟨c1, c2, c3, c4⟩ := H
    have e1 : I.fits op a b n = true := by rw [hfit]; exact decide_eq_true ⟨c1, c2, c3, c4⟩
    unfold I.encV I.encE
    rw [if_pos e1, if_pos e1, hr, hm, ht]
    have e2 : I.numOk 4 false n = (W.bytesE n 4 == 0) := by unfold I.numOk; rw [if_neg (by decide)]; simp
    rw [e2]
    refine (rok_3 op a b n hn o1 o2 hf (by omega) (by omega) (by omega) (by omega) w).mono ?_
    rintro e w' ⟨rfl, hb⟩
    rcases W.bytesE_sz (n := n) (m := 4) (by decide) with h0 | h0
    · exact ⟨retSE (by rw [if_pos h0, if_pos (by rw [h0]; rfl)]; congr 1) (by rw [if_pos (by rw [h0]; rfl), h0]), hb⟩
    · exact ⟨retSE (by rw [if_neg (by rw [h0]; decide), if_neg (by rw [h0]; decide)]) (by rw [if_neg (by rw [h0]; decide), h0]), hb⟩
  · have e1 : I.fits op a b n = false := by rw [hfit]; exact decide_eq_false H
    unfold I.encV I.encE
    rw [if_neg (by rw [e1]; decide), if_neg (by rw [e1]; decide)]
    exact rbad_3 op a b n hf (by first | omega | (simp only [bne_iff_ne, ne_eq]; omega) | (simp only [bne_iff_ne, ne_eq, bne_eq_false_iff_eq]; omega)) w

theorem renc_4 (op a b n : Int) (hn : (Lit.int .i64 n).wf = true) (o1 : 1 ≤ op) (o2 : op ≤ 33) (hf : I.form op = 4) (w : World) :
    Calls Tryd.prog 54 #[insV op a b n] w fun e w' => e = .returned (.tuple #[.string (strOfNums (I.encV op a b n)), .int .i64 (I.encE op a b n)]) ∧ Below w.heap.size w w' := by
  have hr : I.regs op = 1 := by unfold I.regs; rw [hf]; rfl
  have hm : I.num op = 4 := by unfold I.num; rw [hf]; rfl
  have ht : I.nat op = false := I.nat_no hf (by decide)
  have hfit : I.fits op a b n = decide (0 ≤ a ∧ a ≤ 7 ∧ 0 ≤ b ∧ b ≤ 7 ∧ b = 0) := by
    unfold I.fits
    rw [decide_eq_true (show 1 ≤ op ∧ op ≤ 33 from ⟨o1, o2⟩), hr, hm, Bool.true_and, Bool.eq_iff_iff, decide_eq_true_iff]
    unfold I.bears I.bad I.isr
    simp
    omega
  by_cases H : 0 ≤ a ∧ a ≤ 7 ∧ 0 ≤ b ∧ b ≤ 7 ∧ b = 0
  · obtain ⟨c1, c2, c3, c4, c6⟩ := H
    have e1 : I.fits op a b n = true := by rw [hfit]; exact decide_eq_true ⟨c1, c2, c3, c4, c6⟩
    unfold I.encV I.encE
    rw [if_pos e1, if_pos e1, hr, hm, ht]
    have e2 : I.numOk 4 false n = (W.bytesE n 4 == 0) := by unfold I.numOk; rw [if_neg (by decide)]; simp
    rw [e2]
    refine (rok_4 op a b n hn o1 o2 hf (by omega) (by omega) (by omega) (by omega) (by simpa using c6) w).mono ?_
    rintro e w' ⟨rfl, hb⟩
    rcases W.bytesE_sz (n := n) (m := 4) (by decide) with h0 | h0
    · exact ⟨retSE (by rw [if_pos h0, if_pos (by rw [h0]; rfl)]; congr 1) (by rw [if_pos (by rw [h0]; rfl), h0]), hb⟩
    · exact ⟨retSE (by rw [if_neg (by rw [h0]; decide), if_neg (by rw [h0]; decide)]) (by rw [if_neg (by rw [h0]; decide), h0]), hb⟩
  · have e1 : I.fits op a b n = false := by rw [hfit]; exact decide_eq_false H
    unfold I.encV I.encE
    rw [if_neg (by rw [e1]; decide), if_neg (by rw [e1]; decide)]
    exact rbad_4 op a b n hf (by first | omega | (simp only [bne_iff_ne, ne_eq]; omega) | (simp only [bne_iff_ne, ne_eq, bne_eq_false_iff_eq]; omega)) w

theorem renc_5 (op a b n : Int) (hn : (Lit.int .i64 n).wf = true) (o1 : 1 ≤ op) (o2 : op ≤ 33) (hf : I.form op = 5) (w : World) :
    Calls Tryd.prog 54 #[insV op a b n] w fun e w' => e = .returned (.tuple #[.string (strOfNums (I.encV op a b n)), .int .i64 (I.encE op a b n)]) ∧ Below w.heap.size w w' := by
  have hr : I.regs op = 0 := by unfold I.regs; rw [hf]; rfl
  have hm : I.num op = 4 := by unfold I.num; rw [hf]; rfl
  have ht : I.nat op = false := I.nat_no hf (by decide)
  have hfit : I.fits op a b n = decide (0 ≤ a ∧ a ≤ 7 ∧ 0 ≤ b ∧ b ≤ 7 ∧ a = 0 ∧ b = 0) := by
    unfold I.fits
    rw [decide_eq_true (show 1 ≤ op ∧ op ≤ 33 from ⟨o1, o2⟩), hr, hm, Bool.true_and, Bool.eq_iff_iff, decide_eq_true_iff]
    unfold I.bears I.bad I.isr
    simp
    omega
  by_cases H : 0 ≤ a ∧ a ≤ 7 ∧ 0 ≤ b ∧ b ≤ 7 ∧ a = 0 ∧ b = 0
  · obtain ⟨c1, c2, c3, c4, c5, c6⟩ := H
    have e1 : I.fits op a b n = true := by rw [hfit]; exact decide_eq_true ⟨c1, c2, c3, c4, c5, c6⟩
    unfold I.encV I.encE
    rw [if_pos e1, if_pos e1, hr, hm, ht]
    have e2 : I.numOk 4 false n = (W.bytesE n 4 == 0) := by unfold I.numOk; rw [if_neg (by decide)]; simp
    rw [e2]
    refine (rok_5 op a b n hn o1 o2 hf (by omega) (by omega) (by omega) (by omega) (by simpa using c5) (by simpa using c6) w).mono ?_
    rintro e w' ⟨rfl, hb⟩
    rcases W.bytesE_sz (n := n) (m := 4) (by decide) with h0 | h0
    · exact ⟨retSE (by rw [if_pos h0, if_pos (by rw [h0]; rfl)]; congr 1) (by rw [if_pos (by rw [h0]; rfl), h0]), hb⟩
    · exact ⟨retSE (by rw [if_neg (by rw [h0]; decide), if_neg (by rw [h0]; decide)]) (by rw [if_neg (by rw [h0]; decide), h0]), hb⟩
  · have e1 : I.fits op a b n = false := by rw [hfit]; exact decide_eq_false H
    unfold I.encV I.encE
    rw [if_neg (by rw [e1]; decide), if_neg (by rw [e1]; decide)]
    exact rbad_5 op a b n hf (by first | omega | (simp only [bne_iff_ne, ne_eq]; omega) | (simp only [bne_iff_ne, ne_eq, bne_eq_false_iff_eq]; omega)) w

theorem renc_6 (op a b n : Int) (hn : (Lit.int .i64 n).wf = true) (o1 : 1 ≤ op) (o2 : op ≤ 33) (hf : I.form op = 6) (w : World) :
    Calls Tryd.prog 54 #[insV op a b n] w fun e w' => e = .returned (.tuple #[.string (strOfNums (I.encV op a b n)), .int .i64 (I.encE op a b n)]) ∧ Below w.heap.size w w' := by
  have hr : I.regs op = 0 := by unfold I.regs; rw [hf]; rfl
  have hm : I.num op = 0 := by unfold I.num; rw [hf]; rfl
  have ht : I.nat op = false := I.nat_no hf (by decide)
  have hfit : I.fits op a b n = decide (0 ≤ a ∧ a ≤ 7 ∧ 0 ≤ b ∧ b ≤ 7 ∧ a = 0 ∧ b = 0 ∧ n = 0) := by
    unfold I.fits
    rw [decide_eq_true (show 1 ≤ op ∧ op ≤ 33 from ⟨o1, o2⟩), hr, hm, Bool.true_and, Bool.eq_iff_iff, decide_eq_true_iff]
    unfold I.bears I.bad I.isr
    simp
    omega
  by_cases H : 0 ≤ a ∧ a ≤ 7 ∧ 0 ≤ b ∧ b ≤ 7 ∧ a = 0 ∧ b = 0 ∧ n = 0
  · obtain ⟨c1, c2, c3, c4, c5, c6, c7⟩ := H
    have e1 : I.fits op a b n = true := by rw [hfit]; exact decide_eq_true ⟨c1, c2, c3, c4, c5, c6, c7⟩
    unfold I.encV I.encE
    rw [if_pos e1, if_pos e1, hr, hm, ht]
    have e2 : I.numOk 0 false n = true := rfl
    rw [if_pos e2, if_pos e2]
    refine (rok_6 op a b n o1 o2 hf (by omega) (by omega) (by omega) (by omega) (by simpa using c5) (by simpa using c6) (by simpa using c7) w).mono ?_
    rintro e w' ⟨rfl, hb⟩
    exact ⟨retSE (by first | rfl | (congr 1; done) | (congr 1; simp [I.regB, I.numW])) rfl, hb⟩
  · have e1 : I.fits op a b n = false := by rw [hfit]; exact decide_eq_false H
    unfold I.encV I.encE
    rw [if_neg (by rw [e1]; decide), if_neg (by rw [e1]; decide)]
    exact rbad_6 op a b n hf (by first | omega | (simp only [bne_iff_ne, ne_eq]; omega) | (simp only [bne_iff_ne, ne_eq, bne_eq_false_iff_eq]; omega)) w

theorem renc_7 (op a b n : Int) (hn : (Lit.int .i64 n).wf = true) (o1 : 1 ≤ op) (o2 : op ≤ 33) (hf : I.form op = 7) (w : World) :
    Calls Tryd.prog 54 #[insV op a b n] w fun e w' => e = .returned (.tuple #[.string (strOfNums (I.encV op a b n)), .int .i64 (I.encE op a b n)]) ∧ Below w.heap.size w w' := by
  have hr : I.regs op = 0 := by unfold I.regs; rw [hf]; rfl
  have hm : I.num op = 1 := by unfold I.num; rw [hf]; rfl
  have ht : I.nat op = false := I.nat_no hf (by decide)
  have hfit : I.fits op a b n = decide (0 ≤ a ∧ a ≤ 7 ∧ 0 ≤ b ∧ b ≤ 7 ∧ a = 0 ∧ b = 0) := by
    unfold I.fits
    rw [decide_eq_true (show 1 ≤ op ∧ op ≤ 33 from ⟨o1, o2⟩), hr, hm, Bool.true_and, Bool.eq_iff_iff, decide_eq_true_iff]
    unfold I.bears I.bad I.isr
    simp
    omega
  by_cases H : 0 ≤ a ∧ a ≤ 7 ∧ 0 ≤ b ∧ b ≤ 7 ∧ a = 0 ∧ b = 0
  · obtain ⟨c1, c2, c3, c4, c5, c6⟩ := H
    have e1 : I.fits op a b n = true := by rw [hfit]; exact decide_eq_true ⟨c1, c2, c3, c4, c5, c6⟩
    unfold I.encV I.encE
    rw [if_pos e1, if_pos e1, hr, hm, ht]
    have e2 : I.numOk 1 false n = (W.bytesE n 1 == 0) := by unfold I.numOk; rw [if_neg (by decide)]; simp
    rw [e2]
    refine (rok_7 op a b n hn o1 o2 hf (by omega) (by omega) (by omega) (by omega) (by simpa using c5) (by simpa using c6) w).mono ?_
    rintro e w' ⟨rfl, hb⟩
    rcases W.bytesE_sz (n := n) (m := 1) (by decide) with h0 | h0
    · exact ⟨retSE (by rw [if_pos h0, if_pos (by rw [h0]; rfl)]; congr 1) (by rw [if_pos (by rw [h0]; rfl), h0]), hb⟩
    · exact ⟨retSE (by rw [if_neg (by rw [h0]; decide), if_neg (by rw [h0]; decide)]) (by rw [if_neg (by rw [h0]; decide), h0]), hb⟩
  · have e1 : I.fits op a b n = false := by rw [hfit]; exact decide_eq_false H
    unfold I.encV I.encE
    rw [if_neg (by rw [e1]; decide), if_neg (by rw [e1]; decide)]
    exact rbad_7 op a b n hf (by first | omega | (simp only [bne_iff_ne, ne_eq]; omega) | (simp only [bne_iff_ne, ne_eq, bne_eq_false_iff_eq]; omega)) w

theorem renc_8 (op a b n : Int) (hn : (Lit.int .i64 n).wf = true) (o1 : 1 ≤ op) (o2 : op ≤ 33) (hf : I.form op = 8) (w : World) :
    Calls Tryd.prog 54 #[insV op a b n] w fun e w' => e = .returned (.tuple #[.string (strOfNums (I.encV op a b n)), .int .i64 (I.encE op a b n)]) ∧ Below w.heap.size w w' := by
  have hr : I.regs op = 1 := by unfold I.regs; rw [hf]; rfl
  have hm : I.num op = 1 := by unfold I.num; rw [hf]; rfl
  have ht : I.nat op = false := I.nat_no hf (by decide)
  have hfit : I.fits op a b n = decide (0 ≤ a ∧ a ≤ 7 ∧ 0 ≤ b ∧ b ≤ 7 ∧ b = 0) := by
    unfold I.fits
    rw [decide_eq_true (show 1 ≤ op ∧ op ≤ 33 from ⟨o1, o2⟩), hr, hm, Bool.true_and, Bool.eq_iff_iff, decide_eq_true_iff]
    unfold I.bears I.bad I.isr
    simp
    omega
  by_cases H : 0 ≤ a ∧ a ≤ 7 ∧ 0 ≤ b ∧ b ≤ 7 ∧ b = 0
  · obtain ⟨c1, c2, c3, c4, c6⟩ := H
    have e1 : I.fits op a b n = true := by rw [hfit]; exact decide_eq_true ⟨c1, c2, c3, c4, c6⟩
    unfold I.encV I.encE
    rw [if_pos e1, if_pos e1, hr, hm, ht]
    have e2 : I.numOk 1 false n = (W.bytesE n 1 == 0) := by unfold I.numOk; rw [if_neg (by decide)]; simp
    rw [e2]
    refine (rok_8 op a b n hn o1 o2 hf (by omega) (by omega) (by omega) (by omega) (by simpa using c6) w).mono ?_
    rintro e w' ⟨rfl, hb⟩
    rcases W.bytesE_sz (n := n) (m := 1) (by decide) with h0 | h0
    · exact ⟨retSE (by rw [if_pos h0, if_pos (by rw [h0]; rfl)]; congr 1) (by rw [if_pos (by rw [h0]; rfl), h0]), hb⟩
    · exact ⟨retSE (by rw [if_neg (by rw [h0]; decide), if_neg (by rw [h0]; decide)]) (by rw [if_neg (by rw [h0]; decide), h0]), hb⟩
  · have e1 : I.fits op a b n = false := by rw [hfit]; exact decide_eq_false H
    unfold I.encV I.encE
    rw [if_neg (by rw [e1]; decide), if_neg (by rw [e1]; decide)]
    exact rbad_8 op a b n hf (by first | omega | (simp only [bne_iff_ne, ne_eq]; omega) | (simp only [bne_iff_ne, ne_eq, bne_eq_false_iff_eq]; omega)) w

theorem renc_9 (op a b n : Int) (hn : (Lit.int .i64 n).wf = true) (o1 : 1 ≤ op) (o2 : op ≤ 33) (hf : I.form op = 9) (w : World) :
    Calls Tryd.prog 54 #[insV op a b n] w fun e w' => e = .returned (.tuple #[.string (strOfNums (I.encV op a b n)), .int .i64 (I.encE op a b n)]) ∧ Below w.heap.size w w' := by
  have hr : I.regs op = 1 := by unfold I.regs; rw [hf]; rfl
  have hm : I.num op = 0 := by unfold I.num; rw [hf]; rfl
  have ht : I.nat op = false := I.nat_no hf (by decide)
  have hfit : I.fits op a b n = decide (0 ≤ a ∧ a ≤ 7 ∧ 0 ≤ b ∧ b ≤ 7 ∧ b = 0 ∧ n = 0) := by
    unfold I.fits
    rw [decide_eq_true (show 1 ≤ op ∧ op ≤ 33 from ⟨o1, o2⟩), hr, hm, Bool.true_and, Bool.eq_iff_iff, decide_eq_true_iff]
    unfold I.bears I.bad I.isr
    simp
    omega
  by_cases H : 0 ≤ a ∧ a ≤ 7 ∧ 0 ≤ b ∧ b ≤ 7 ∧ b = 0 ∧ n = 0
  · obtain ⟨c1, c2, c3, c4, c6, c7⟩ := H
    have e1 : I.fits op a b n = true := by rw [hfit]; exact decide_eq_true ⟨c1, c2, c3, c4, c6, c7⟩
    unfold I.encV I.encE
    rw [if_pos e1, if_pos e1, hr, hm, ht]
    have e2 : I.numOk 0 false n = true := rfl
    rw [if_pos e2, if_pos e2]
    refine (rok_9 op a b n o1 o2 hf (by omega) (by omega) (by omega) (by omega) (by simpa using c6) (by simpa using c7) w).mono ?_
    rintro e w' ⟨rfl, hb⟩
    exact ⟨retSE (by first | rfl | (congr 1; done) | (congr 1; simp [I.regB, I.numW])) rfl, hb⟩
  · have e1 : I.fits op a b n = false := by rw [hfit]; exact decide_eq_false H
    unfold I.encV I.encE
    rw [if_neg (by rw [e1]; decide), if_neg (by rw [e1]; decide)]
    exact rbad_9 op a b n hf (by first | omega | (simp only [bne_iff_ne, ne_eq]; omega) | (simp only [bne_iff_ne, ne_eq, bne_eq_false_iff_eq]; omega)) w

theorem renc_10 (op a b n : Int) (hn : (Lit.int .i64 n).wf = true) (o1 : 1 ≤ op) (o2 : op ≤ 33) (hf : I.form op = 10) (w : World) :
    Calls Tryd.prog 54 #[insV op a b n] w fun e w' => e = .returned (.tuple #[.string (strOfNums (I.encV op a b n)), .int .i64 (I.encE op a b n)]) ∧ Below w.heap.size w w' := by
  have hr : I.regs op = 0 := by unfold I.regs; rw [hf]; rfl
  have hm : I.num op = 1 := by unfold I.num; rw [hf]; rfl
  have ht : I.nat op = true := I.nat_yes hf
  have hfit : I.fits op a b n = decide (0 ≤ a ∧ a ≤ 7 ∧ 0 ≤ b ∧ b ≤ 7 ∧ a = 0 ∧ b = 0) := by
    unfold I.fits
    rw [decide_eq_true (show 1 ≤ op ∧ op ≤ 33 from ⟨o1, o2⟩), hr, hm, Bool.true_and, Bool.eq_iff_iff, decide_eq_true_iff]
    unfold I.bears I.bad I.isr
    simp
    omega
  by_cases H : 0 ≤ a ∧ a ≤ 7 ∧ 0 ≤ b ∧ b ≤ 7 ∧ a = 0 ∧ b = 0
  · obtain ⟨c1, c2, c3, c4, c5, c6⟩ := H
    have e1 : I.fits op a b n = true := by rw [hfit]; exact decide_eq_true ⟨c1, c2, c3, c4, c5, c6⟩
    unfold I.encV I.encE
    rw [if_pos e1, if_pos e1, hr, hm, ht]
    by_cases hr0 : 0 ≤ n ∧ n ≤ 127
    · have h0 : W.bytesE n 1 = 0 := by
        unfold W.bytesE
        rw [if_pos (by decide), if_pos]
        unfold W.sx
        rw [if_pos rfl]
        omega
      have e2 : I.numOk 1 true n = true := by unfold I.numOk; rw [if_neg (by decide), h0, decide_eq_true hr0.1]; rfl
      rw [if_pos e2, if_pos e2]
      refine (rok_10 op a b n hn o1 o2 hf (by omega) (by omega) (by omega) (by omega) (by simpa using c5) (by simpa using c6) hr0.1 hr0.2 w).mono ?_
      rintro e w' ⟨rfl, hb⟩
      exact ⟨retSE (by rw [if_pos h0]; congr 1) (by rw [h0]), hb⟩
    · have e2 : I.numOk 1 true n = false := by
        unfold I.numOk
        rw [if_neg (by decide)]
        by_cases h : 0 ≤ n
        · have h0 : W.bytesE n 1 = 7 := by
            unfold W.bytesE
            rw [if_pos (by decide), if_neg]
            unfold W.sx
            rw [if_pos rfl]
            omega
          rw [h0]; rfl
        · rw [decide_eq_false h]; simp
      rw [if_neg (by rw [e2]; decide), if_neg (by rw [e2]; decide)]
      exact rtrap op a b n hf (by omega) (by omega) (by omega) (by omega) (by simpa using c5) (by simpa using c6) (by omega) w
  · have e1 : I.fits op a b n = false := by rw [hfit]; exact decide_eq_false H
    unfold I.encV I.encE
    rw [if_neg (by rw [e1]; decide), if_neg (by rw [e1]; decide)]
    exact rbad_10 op a b n hf (by first | omega | (simp only [bne_iff_ne, ne_eq]; omega) | (simp only [bne_iff_ne, ne_eq, bne_eq_false_iff_eq]; omega)) w

theorem rencode_any (op a b n : Int) (hn : (Lit.int .i64 n).wf = true) (w : World) :
    Calls Tryd.prog 54 #[insV op a b n] w fun e w' => e = .returned (.tuple #[.string (strOfNums (I.encV op a b n)), .int .i64 (I.encE op a b n)]) ∧ Below w.heap.size w w' := by
  by_cases h : 1 ≤ op ∧ op ≤ 33
  · have h0 := I.form_some h.1 h.2
    have h1 := I.form_range op
    rcases (show I.form op = 1 ∨ I.form op = 2 ∨ I.form op = 3 ∨ I.form op = 4 ∨ I.form op = 5 ∨ I.form op = 6 ∨ I.form op = 7 ∨ I.form op = 8 ∨ I.form op = 9 ∨ I.form op = 10 by omega) with e | e | e | e | e | e | e | e | e | e
    · exact renc_1 op a b n hn h.1 h.2 e w
    · exact renc_2 op a b n hn h.1 h.2 e w
    · exact renc_3 op a b n hn h.1 h.2 e w
    · exact renc_4 op a b n hn h.1 h.2 e w
    · exact renc_5 op a b n hn h.1 h.2 e w
    · exact renc_6 op a b n hn h.1 h.2 e w
    · exact renc_7 op a b n hn h.1 h.2 e w
    · exact renc_8 op a b n hn h.1 h.2 e w
    · exact renc_9 op a b n hn h.1 h.2 e w
    · exact renc_10 op a b n hn h.1 h.2 e w
  · have e1 : I.fits op a b n = false := by unfold I.fits; rw [decide_eq_false h]; rfl
    unfold I.encV I.encE
    rw [if_neg (by rw [e1]; decide), if_neg (by rw [e1]; decide)]
    exact rbad_0 op a b n (I.form_none (by omega)) w

end Go.Proofs.YtffokdldgdjkhaaDoor

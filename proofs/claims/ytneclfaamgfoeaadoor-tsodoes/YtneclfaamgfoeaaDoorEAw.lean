/- The document's Encode: TRAP with a number out of range. (Written by gen_rall.py.) -/
import Derived.Test.YtneclfaamgfoeaaDoorEAt
import Derived.Test.YtneclfaamgfoeaaDoorEAv
import Derived.Test.YtneclfaamgfoeaaDoorEAr
import Derived.Laws.StructEq
namespace Go.Proofs.YtneclfaamgfoeaaDoor
set_option maxRecDepth 100000
open Go.RowKit
set_option linter.unusedVariables false

set_option maxRecDepth 100000 in
set_option maxHeartbeats 16000000 in
theorem rtrap (op a b n : Int) (HF : Hid (I.form op = 10)) (h1 : 0 ≤ a) (h2 : a ≤ 7) (h3 : 0 ≤ b) (h4 : b ≤ 7) (h5 : (a != 0) = false) (h6 : (b != 0) = false) (h : n < 0 ∨ (0 ≤ n ∧ 127 < n)) (w : World) :
    Calls Tryd.prog 55 #[insV op a b n] w fun e w' => e = .returned (.tuple #[.string (strOfNums []), .int .i64 7]) ∧ Below w.heap.size w w' := by
  have pA : I.hasA 10 = false := by decide
  have pB : I.hasB 10 = false := by decide
  have pN : I.numB 10 = 1 := by decide
  rcases h with h7 | ⟨h7, h8⟩
  all_goals
    go_enter Tryd.func55, Tryd.ntmps55
    go_wp2_with (first | (go_at_call 64; refine (form_any _ _).mono ?_; rintro e w' ⟨rfl, rfl⟩; rw [HF.out]) | (go_at_call 63; refine (parts_any _ ?_ ?_ _).mono ?_; omega; omega; rintro e w' ⟨rfl, rfl⟩; rw [pA, pB, pN]))
    go_ret2
    exact ⟨rfl, bl1 _ _⟩

end Go.Proofs.YtneclfaamgfoeaaDoor

/- The document's Encode, whatever the instruction. (Written by gen_rall.py.) -/
namespace Go.Proofs.YtneclfaamgfoeaaDoor
set_option maxRecDepth 100000
open Go.RowKit
set_option linter.unusedVariables false

theorem I.nat_no {op f : Int} (h : I.form op = f) (hf : ¬ f = 10) : I.nat op = false := by
  unfold I.nat
  rw [beq_eq_false_iff_ne]
  rintro rfl
  exact hf (h.symm.trans (by decide))
theorem I.nat_yes {op : Int} (h : I.form op = 10) : I.nat op = true := by
  by_cases e : op = 33
  · subst e; rfl
  · exfalso
    unfold I.form at h
    repeat (split at h; omega)
    omega
theorem W.bytesE_sz {n m : Int} (h : W.isSz m = true) : W.bytesE n m = 0 ∨ W.bytesE n m = 7 := by
  unfold W.bytesE; rw [if_pos h]; split <;> omega

theorem renc_1 (op a b n : Int) (hn : (Lit.int .i64 n).wf = true) (o1 : 1 ≤ op) (o2 : op ≤ 33) (hf : I.form op = 1) (w : World) :
    Calls Tryd.prog 55 #[insV op a b n] w fun e w' => e = .returned (.tuple #[.string (strOfNums (I.encV op a b n)), .int .i64 (I.encE op a b n)]) ∧ Below w.heap.size w w' := by
  have hr : I.regs op = 1 := by unfold I.regs; rw [hf]; rfl
  have hm : I.num op = 8 := by unfold I.num; rw [hf]; rfl
  have ht : I.nat op = false := I.nat_no hf (by decide)
  have hfit : I.fits op a b n = decide (0 ≤ a ∧ a ≤ 7 ∧ 0 ≤ b ∧ b ≤ 7 ∧ b = 0) := by
    unfold I.fits
    rw [decide_eq_true (show 1 ≤ op ∧ op ≤ 33 from ⟨o1, o2⟩), hr, hm, Bool.true_and, Bool.eq_iff_iff, decide_eq_true_iff]
    unfold I.bears I.bad I.isr
    simp
    omega
  by_cases H : 0 ≤ a ∧ a ≤ 7 ∧ 0 ≤ b ∧ b ≤ 7 ∧ b = 0
  · obtain ⟨c1, c2, c3, c4, c6⟩ := H
    have e1 : I.fits op a b n = true := by rw [hfit]; exact decide_eq_true ⟨c1, c2, c3, c4, c6⟩
    unfold I.encV I.encE
    rw [if_pos e1, if_pos e1, hr, hm, ht]
    have e2 : I.numOk 8 false n = (W.bytesE n 8 == 0) := by unfold I.numOk; rw [if_neg (by decide)]; simp
    rw [e2]
    refine (rok_1 op a b n hn o1 o2 hf (by omega) (by omega) (by omega) (by omega) (by simpa using c6) w).mono ?_
    rintro e w' ⟨rfl, hb⟩
    rcases W.bytesE_sz (n := n) (m := 8) (by decide) with h0 | h0
    · exact ⟨retSE (by rw [if_pos h0, if_pos (by rw [h0]; rfl)]; congr 1) (by rw [if_pos (by rw [h0]; rfl), h0]), hb⟩
    · exact ⟨retSE (by rw [if_neg (by rw [h0]; decide), if_neg (by rw [h0]; decide)]) (by rw [if_neg (by rw [h0]; decide), h0]), hb⟩
  · have e1 : I.fits op a b n = false := by rw [hfit]; exact decide_eq_false H
    unfold I.encV I.encE
    rw [if_neg (by rw [e1]; decide), if_neg (by rw [e1]; decide)]
    exact rbad_1 op a b n hf (by first | omega | (simp only [bne_iff_ne, ne_eq]; omega) | (simp only [bne_iff_ne, ne_eq, bne_eq_false_iff_eq]; omega)) w

theorem renc_2 (op a b n : Int) (hn : (Lit.int .i64 n).wf = true) (o1 : 1 ≤ op) (o2 : op ≤ 33) (hf : I.form op = 2) (w : World) :
    Calls Tryd.prog 55 #[insV op a b n] w fun e w' => e = .returned (.tuple #[.string (strOfNums (I.encV op a b n)), .int .i64 (I.encE op a b n)]) ∧ Below w.heap.size w w' := by
  have hr : I.regs op = 2 := by unfold I.regs; rw [hf]; rfl
  have hm : I.num op = 0 := by unfold I.num; rw [hf]; rfl
  have ht : I.nat op = false := I.nat_no hf (by decide)
  have hfit : I.fits op a b n = decide (0 ≤ a ∧ a ≤ 7 ∧ 0 ≤ b ∧ b ≤ 7 ∧ n = 0) := by
    unfold I.fits
    rw [decide_eq_true (show 1 ≤ op ∧ op ≤ 33 from ⟨o1, o2⟩), hr, hm, Bool.true_and, Bool.eq_iff_iff, decide_eq_true_iff]
    unfold I.bears I.bad I.isr
    simp
    omega
  by_cases H : 0 ≤ a ∧ a ≤ 7 ∧ 0 ≤ b ∧ b ≤ 7 ∧ n = 0
  · obtain ⟨c1, c2, c3, c4, c7⟩ := H
    have e1 : I.fits op a b n = true := by rw [hfit]; exact decide_eq_true ⟨c1, c2, c3, c4, c7⟩
    unfold I.encV I.encE
    rw [if_pos e1, if_pos e1, hr, hm, ht]
    have e2 : I.numOk 0 false n = true := rfl
    rw [if_pos e2, if_pos e2]
    refine (rok_2 op a b n o1 o2 hf (by omega) (by omega) (by omega) (by omega) (by simpa using c7) w).mono ?_
    rintro e w' ⟨rfl, hb⟩
    exact ⟨retSE (by first | rfl | (congr 1; done) | (congr 1; simp [I.regB, I.numW])) rfl, hb⟩
  · have e1 : I.fits op a b n = false := by rw [hfit]; exact decide_eq_false H
    unfold I.encV I.encE
    rw [if_neg (by rw [e1]; decide), if_neg (by rw [e1]; decide)]
    exact rbad_2 op a b n hf (by first | omega | (simp only [bne_iff_ne, ne_eq]; omega) | (simp only [bne_iff_ne, ne_eq, bne_eq_false_iff_eq]; omega)) w

theorem renc_3 (op a b n : Int) (hn : (Lit.int .i64 n).wf = true) (o1 : 1 ≤ op) (o2 : op ≤ 33) (hf : I.form op = 3) (w : World) :
    Calls Tryd.prog 55 #[insV op a b n] w fun e w' => e = .returned (.tuple #[.string (strOfNums (I.encV op a b n)), .int .i64 (I.encE op a b n)]) ∧ Below w.heap.size w w' := by
  have hr : I.regs op = 2 := by unfold I.regs; rw [hf]; rfl
  have hm : I.num op = 4 := by unfold I.num; rw [hf]; rfl
  have ht : I.nat op = false := I.nat_no hf (by decide)
  have hfit : I.fits op a b n = decide (0 ≤ a ∧ a ≤ 7 ∧ 0 ≤ b ∧ b ≤ 7) := by
    unfold I.fits
    rw [decide_eq_true (show 1 ≤ op ∧ op ≤ 33 from ⟨o1, o2⟩), hr, hm, Bool.true_and, Bool.eq_iff_iff, decide_eq_true_iff]
    unfold I.bears I.bad I.isr
    simp
    omega
  by_cases H : 0 ≤ a ∧ a ≤ 7 ∧ 0 ≤ b ∧ b ≤ 7
  · obtain ⟨c1, c2, c3, c4⟩ := H
    have e1 : I.fits op a b n = true := by rw [hfit]; exact decide_eq_true ⟨c1, c2, c3, c4⟩
    unfold I.encV I.encE
    rw [if_pos e1, if_pos e1, hr, hm, ht]
    have e2 : I.numOk 4 false n = (W.bytesE n 4 == 0) := by unfold I.numOk; rw [if_neg (by decide)]; simp
    rw [e2]
    refine (rok_3 op a b n hn o1 o2 hf (by omega) (by omega) (by omega) (by omega) w).mono ?_
    rintro e w' ⟨rfl, hb⟩
    rcases W.bytesE_sz (n := n) (m := 4) (by decide) with h0 | h0
    · exact ⟨retSE (by rw [if_pos h0, if_pos (by rw [h0]; rfl)]; congr 1) (by rw [if_pos (by rw [h0]; rfl), h0]), hb⟩
    · exact ⟨retSE (by rw [if_neg (by rw [h0]; decide), if_neg (by rw [h0]; decide)]) (by rw [if_neg (by rw [h0]; decide), h0]), hb⟩
  · have e1 : I.fits op a b n = false := by rw [hfit]; exact decide_eq_false H
    unfold I.encV I.encE
    rw [if_neg (by rw [e1]; decide), if_neg (by rw [e1]; decide)]
    exact rbad_3 op a b n hf (by first | omega | (simp only [bne_iff_ne, ne_eq]; omega) | (simp only [bne_iff_ne, ne_eq, bne_eq_false_iff_eq]; omega)) w

theorem renc_4 (op a b n : Int) (hn : (Lit.int .i64 n).wf = true) (o1 : 1 ≤ op) (o2 : op ≤ 33) (hf : I.form op = 4) (w : World) :
    Calls Tryd.prog 55 #[insV op a b n] w fun e w' => e = .returned (.tuple #[.string (strOfNums (I.encV op a b n)), .int .i64 (I.encE op a b n)]) ∧ Below w.heap.size w w' := by
  have hr : I.regs op = 1 := by unfold I.regs; rw [hf]; rfl
  have hm : I.num op = 4 := by unfold I.num; rw [hf]; rfl
  have ht : I.nat op = false := I.nat_no hf (by decide)
  have hfit : I.fits op a b n = decide (0 ≤ a ∧ a ≤ 7 ∧ 0 ≤ b ∧ b ≤ 7 ∧ b = 0) := by
    unfold I.fits
    rw [decide_eq_true (show 1 ≤ op ∧ op ≤ 33 from ⟨o1, o2⟩), hr, hm, Bool.true_and, Bool.eq_iff_iff, decide_eq_true_iff]
    unfold I.bears I.bad I.isr
    simp
    omega
  by_cases H : 0 ≤ a ∧ a ≤ 7 ∧ 0 ≤ b ∧ b ≤ 7 ∧ b = 0
  · obtain ⟨c1, c2, c3, c4, c6⟩ := H
    have e1 : I.fits op a b n = true := by rw [hfit]; exact decide_eq_true ⟨c1, c2, c3, c4, c6⟩
    unfold I.encV I.encE
    rw [if_pos e1, if_pos e1, hr, hm, ht]
    have e2 : I.numOk 4 false n = (W.bytesE n 4 == 0) := by unfold I.numOk; rw [if_neg (by decide)]; simp
    rw [e2]
    refine (rok_4 op a b n hn o1 o2 hf (by omega) (by omega) (by omega) (by omega) (by simpa using c6) w).mono ?_
    rintro e w' ⟨rfl, hb⟩
    rcases W.bytesE_sz (n := n) (m := 4) (by decide) with h0 | h0
    · exact ⟨retSE (by rw [if_pos h0, if_pos (by rw [h0]; rfl)]; congr 1) (by rw [if_pos (by rw [h0]; rfl), h0]), hb⟩
    · exact ⟨retSE (by rw [if_neg (by rw [h0]; decide), if_neg (by rw [h0]; decide)]) (by rw [if_neg (by rw [h0]; decide), h0]), hb⟩
  · have e1 : I.fits op a b n = false := by rw [hfit]; exact decide_eq_false H
    unfold I.encV I.encE
    rw [if_neg (by rw [e1]; decide), if_neg (by rw [e1]; decide)]
    exact rbad_4 op a b n hf (by first | omega | (simp only [bne_iff_ne, ne_eq]; omega) | (simp only [bne_iff_ne, ne_eq, bne_eq_false_iff_eq]; omega)) w

theorem renc_5 (op a b n : Int) (hn : (Lit.int .i64 n).wf = true) (o1 : 1 ≤ op) (o2 : op ≤ 33) (hf : I.form op = 5) (w : World) :
    Calls Tryd.prog 55 #[insV op a b n] w fun e w' => e = .returned (.tuple #[.string (strOfNums (I.encV op a b n)), .int .i64 (I.encE op a b n)]) ∧ Below w.heap.size w w' := by
  have hr : I.regs op = 0 := by unfold I.regs; rw [hf]; rfl
  have hm : I.num op = 4 := by unfold I.num; rw [hf]; rfl
  have ht : I.nat op = false := I.nat_no hf (by decide)
  have hfit : I.fits op a b n = decide (0 ≤ a ∧ a ≤ 7 ∧ 0 ≤ b ∧ b ≤ 7 ∧ a = 0 ∧ b = 0) := by
    unfold I.fits
    rw [decide_eq_true (show 1 ≤ op ∧ op ≤ 33 from ⟨o1, o2⟩), hr, hm, Bool.true_and, Bool.eq_iff_iff, decide_eq_true_iff]
    unfold I.bears I.bad I.isr
    simp
    omega
  by_cases H : 0 ≤ a ∧ a ≤ 7 ∧ 0 ≤ b ∧ b ≤ 7 ∧ a = 0 ∧ b = 0
  · obtain ⟨c1, c2, c3, c4, c5, c6⟩ := H
    have e1 : I.fits op a b n = true := by rw [hfit]; exact decide_eq_true ⟨c1, c2, c3, c4, c5, c6⟩
    unfold I.encV I.encE
    rw [if_pos e1, if_pos e1, hr, hm, ht]
    have e2 : I.numOk 4 false n = (W.bytesE n 4 == 0) := by unfold I.numOk; rw [if_neg (by decide)]; simp
    rw [e2]
    refine (rok_5 op a b n hn o1 o2 hf (by omega) (by omega) (by omega) (by omega) (by simpa using c5) (by simpa using c6) w).mono ?_
    rintro e w' ⟨rfl, hb⟩
    rcases W.bytesE_sz (n := n) (m := 4) (by decide) with h0 | h0
    · exact ⟨retSE (by rw [if_pos h0, if_pos (by rw [h0]; rfl)]; congr 1) (by rw [if_pos (by rw [h0]; rfl), h0]), hb⟩
    · exact ⟨retSE (by rw [if_neg (by rw [h0]; decide), if_neg (by rw [h0]; decide)]) (by rw [if_neg (by rw [h0]; decide), h0]), hb⟩
  · have e1 : I.fits op a b n = false := by rw [hfit]; exact decide_eq_false H
    unfold I.encV I.encE
    rw [if_neg (by rw [e1]; decide), if_neg (by rw [e1]; decide)]
    exact rbad_5 op a b n hf (by first | omega | (simp only [bne_iff_ne, ne_eq]; omega) | (simp only [bne_iff_ne, ne_eq, bne_eq_false_iff_eq]; omega)) w

theorem renc_6 (op a b n : Int) (hn : (Lit.int .i64 n).wf = true) (o1 : 1 ≤ op) (o2 : op ≤ 33) (hf : I.form op = 6) (w : World) :
    Calls Tryd.prog 55 #[insV op a b n] w fun e w' => e = .returned (.tuple #[.string (strOfNums (I.encV op a b n)), .int .i64 (I.encE op a b n)]) ∧ Below w.heap.size w w' := by
  have hr : I.regs op = 0 := by unfold I.regs; rw [hf]; rfl
  have hm : I.num op = 0 := by unfold I.num; rw [hf]; rfl
  have ht : I.nat op = false := I.nat_no hf (by decide)
  have hfit : I.fits op a b n = decide (0 ≤ a ∧ a ≤ 7 ∧ 0 ≤ b ∧ b ≤ 7 ∧ a = 0 ∧ b = 0 ∧ n = 0) := by
    unfold I.fits
    rw [decide_eq_true (show 1 ≤ op ∧ op ≤ 33 from ⟨o1, o2⟩), hr, hm, Bool.true_and, Bool.eq_iff_iff, decide_eq_true_iff]
    unfold I.bears I.bad I.isr
    simp
    omega
  by_cases H : 0 ≤ a ∧ a ≤ 7 ∧ 0 ≤ b ∧ b ≤ 7 ∧ a = 0 ∧ b = 0 ∧ n = 0
  · obtain ⟨c1, c2, c3, c4, c5, c6, c7⟩ := H
    have e1 : I.fits op a b n = true := by rw [hfit]; exact decide_eq_true ⟨c1, c2, c3, c4, c5, c6, c7⟩
    unfold I.encV I.encE
    rw [if_pos e1, if_pos e1, hr, hm, ht]
    have e2 : I.numOk 0 false n = true := rfl
    rw [if_pos e2, if_pos e2]
    refine (rok_6 op a b n o1 o2 hf (by omega) (by omega) (by omega) (by omega) (by simpa using c5) (by simpa using c6) (by simpa using c7) w).mono ?_
    rintro e w' ⟨rfl, hb⟩
    exact ⟨retSE (by first | rfl | (congr 1; done) | (congr 1; simp [I.regB, I.numW])) rfl, hb⟩
  · have e1 : I.fits op a b n = false := by rw [hfit]; exact decide_eq_false H
    unfold I.encV I.encE
    rw [if_neg (by rw [e1]; decide), if_neg (by rw [e1]; decide)]
    exact rbad_6 op a b n hf (by first | omega | (simp only [bne_iff_ne, ne_eq]; omega) | (simp only [bne_iff_ne, ne_eq, bne_eq_false_iff_eq]; omega)) w

theorem renc_7 (op a b n : Int) (hn : (Lit.int .i64 n).wf = true) (o1 : 1 ≤ op) (o2 : op ≤ 33) (hf : I.form op = 7) (w : World) :
    Calls Tryd.prog 55 #[insV op a b n] w fun e w' => e = .returned (.tuple #[.string (strOfNums (I.encV op a b n)), .int .i64 (I.encE op a b n)]) ∧ Below w.heap.size w w' := by
  have hr : I.regs op = 0 := by unfold I.regs; rw [hf]; rfl
  have hm : I.num op = 1 := by unfold I.num; rw [hf]; rfl
  have ht : I.nat op = false := I.nat_no hf (by decide)
  have hfit : I.fits op a b n = decide (0 ≤ a ∧ a ≤ 7 ∧ 0 ≤ b ∧ b ≤ 7 ∧ a = 0 ∧ b = 0) := by
    unfold I.fits
    rw [decide_eq_true (show 1 ≤ op ∧ op ≤ 33 from ⟨o1, o2⟩), hr, hm, Bool.true_and, Bool.eq_iff_iff, decide_eq_true_iff]
    unfold I.bears I.bad I.isr
    simp
    omega
  by_cases H : 0 ≤ a ∧ a ≤ 7 ∧ 0 ≤ b ∧ b ≤ 7 ∧ a = 0 ∧ b = 0
  · obtain ⟨c1, c2, c3, c4, c5, c6⟩ := H
    have e1 : I.fits op a b n = true := by rw [hfit]; exact decide_eq_true ⟨c1, c2, c3, c4, c5, c6⟩
    unfold I.encV I.encE
    rw [if_pos e1, if_pos e1, hr, hm, ht]
    have e2 : I.numOk 1 false n = (W.bytesE n 1 == 0) := by unfold I.numOk; rw [if_neg (by decide)]; simp
    rw [e2]
    refine (rok_7 op a b n hn o1 o2 hf (by omega) (by omega) (by omega) (by omega) (by simpa using c5) (by simpa using c6) w).mono ?_
    rintro e w' ⟨rfl, hb⟩
    rcases W.bytesE_sz (n := n) (m := 1) (by decide) with h0 | h0
    · exact ⟨retSE (by rw [if_pos h0, if_pos (by rw [h0]; rfl)]; congr 1) (by rw [if_pos (by rw [h0]; rfl), h0]), hb⟩
    · exact ⟨retSE (by rw [if_neg (by rw [h0]; decide), if_neg (by rw [h0]; decide)]) (by rw [if_neg (by rw [h0]; decide), h0]), hb⟩
  · have e1 : I.fits op a b n = false := by rw [hfit]; exact decide_eq_false H
    unfold I.encV I.encE
    rw [if_neg (by rw [e1]; decide), if_neg (by rw [e1]; decide)]
    exact rbad_7 op a b n hf (by first | omega | (simp only [bne_iff_ne, ne_eq]; omega) | (simp only [bne_iff_ne, ne_eq, bne_eq_false_iff_eq]; omega)) w

theorem renc_8 (op a b n : Int) (hn : (Lit.int .i64 n).wf = true) (o1 : 1 ≤ op) (o2 : op ≤ 33) (hf : I.form op = 8) (w : World) :
    Calls Tryd.prog 55 #[insV op a b n] w fun e w' => e = .returned (.tuple #[.string (strOfNums (I.encV op a b n)), .int .i64 (I.encE op a b n)]) ∧ Below w.heap.size w w' := by
  have hr : I.regs op = 1 := by unfold I.regs; rw [hf]; rfl
  have hm : I.num op = 1 := by unfold I.num; rw [hf]; rfl
  have ht : I.nat op = false := I.nat_no hf (by decide)
  have hfit : I.fits op a b n = decide (0 ≤ a ∧ a ≤ 7 ∧ 0 ≤ b ∧ b ≤ 7 ∧ b = 0) := by
    unfold I.fits
    rw [decide_eq_true (show 1 ≤ op ∧ op ≤ 33 from ⟨o1, o2⟩), hr, hm, Bool.true_and, Bool.eq_iff_iff, decide_eq_true_iff]
    unfold I.bears I.bad I.isr
    simp
    omega
  by_cases H : 0 ≤ a ∧ a ≤ 7 ∧ 0 ≤ b ∧ b ≤ 7 ∧ b = 0
  · obtain ⟨c1, c2, c3, c4, c6⟩ := H
    have e1 : I.fits op a b n = true := by rw [hfit]; exact decide_eq_true ⟨c1, c2, c3, c4, c6⟩
    unfold I.encV I.encE
    rw [if_pos e1, if_pos e1, hr, hm, ht]
    have e2 : I.numOk 1 false n = (W.bytesE n 1 == 0) := by unfold I.numOk; rw [if_neg (by decide)]; simp
    rw [e2]
    refine (rok_8 op a b n hn o1 o2 hf (by omega) (by omega) (by omega) (by omega) (by simpa using c6) w).mono ?_
    rintro e w' ⟨rfl, hb⟩
    rcases W.bytesE_sz (n := n) (m := 1) (by decide) with h0 | h0
    · exact ⟨retSE (by rw [if_pos h0, if_pos (by rw [h0]; rfl)]; congr 1) (by rw [if_pos (by rw [h0]; rfl), h0]), hb⟩
    · exact ⟨retSE (by rw [if_neg (by rw [h0]; decide), if_neg (by rw [h0]; decide)]) (by rw [if_neg (by rw [h0]; decide), h0]), hb⟩
  · have e1 : I.fits op a b n = false := by rw [hfit]; exact decide_eq_false H
    unfold I.encV I.encE
    rw [if_neg (by rw [e1]; decide), if_neg (by rw [e1]; decide)]
    exact rbad_8 op a b n hf (by first | omega | (simp only [bne_iff_ne, ne_eq]; omega) | (simp only [bne_iff_ne, ne_eq, bne_eq_false_iff_eq]; omega)) w

theorem renc_9 (op a b n : Int) (hn : (Lit.int .i64 n).wf = true) (o1 : 1 ≤ op) (o2 : op ≤ 33) (hf : I.form op = 9) (w : World) :
    Calls Tryd.prog 55 #[insV op a b n] w fun e w' => e = .returned (.tuple #[.string (strOfNums (I.encV op a b n)), .int .i64 (I.encE op a b n)]) ∧ Below w.heap.size w w' := by
  have hr : I.regs op = 1 := by unfold I.regs; rw [hf]; rfl
  have hm : I.num op = 0 := by unfold I.num; rw [hf]; rfl
  have ht : I.nat op = false := I.nat_no hf (by decide)
  have hfit : I.fits op a b n = decide (0 ≤ a ∧ a ≤ 7 ∧ 0 ≤ b ∧ b ≤ 7 ∧ b = 0 ∧ n = 0) := by
    unfold I.fits
    rw [decide_eq_true (show 1 ≤ op ∧ op ≤ 33 from ⟨o1, o2⟩), hr, hm, Bool.true_and, Bool.eq_iff_iff, decide_eq_true_iff]
    unfold I.bears I.bad I.isr
    simp
    omega
  by_cases H : 0 ≤ a ∧ a ≤ 7 ∧ 0 ≤ b ∧ b ≤ 7 ∧ b = 0 ∧ n = 0
  · obtain ⟨c1, c2, c3, c4, c6, c7⟩ := H
    have e1 : I.fits op a b n = true := by rw [hfit]; exact decide_eq_true ⟨c1, c2, c3, c4, c6, c7⟩
    unfold I.encV I.encE
    rw [if_pos e1, if_pos e1, hr, hm, ht]
    have e2 : I.numOk 0 false n = true := rfl
    rw [if_pos e2, if_pos e2]
    refine (rok_9 op a b n o1 o2 hf (by omega) (by omega) (by omega) (by omega) (by simpa using c6) (by simpa using c7) w).mono ?_
    rintro e w' ⟨rfl, hb⟩
    exact ⟨retSE (by first | rfl | (congr 1; done) | (congr 1; simp [I.regB, I.numW])) rfl, hb⟩
  · have e1 : I.fits op a b n = false := by rw [hfit]; exact decide_eq_false H
    unfold I.encV I.encE
    rw [if_neg (by rw [e1]; decide), if_neg (by rw [e1]; decide)]
    exact rbad_9 op a b n hf (by first | omega | (simp only [bne_iff_ne, ne_eq]; omega) | (simp only [bne_iff_ne, ne_eq, bne_eq_false_iff_eq]; omega)) w

theorem renc_10 (op a b n : Int) (hn : (Lit.int .i64 n).wf = true) (o1 : 1 ≤ op) (o2 : op ≤ 33) (hf : I.form op = 10) (w : World) :
    Calls Tryd.prog 55 #[insV op a b n] w fun e w' => e = .returned (.tuple #[.string (strOfNums (I.encV op a b n)), .int .i64 (I.encE op a b n)]) ∧ Below w.heap.size w w' := by
  have hr : I.regs op = 0 := by unfold I.regs; rw [hf]; rfl
  have hm : I.num op = 1 := by unfold I.num; rw [hf]; rfl
  have ht : I.nat op = true := I.nat_yes hf
  have hfit : I.fits op a b n = decide (0 ≤ a ∧ a ≤ 7 ∧ 0 ≤ b ∧ b ≤ 7 ∧ a = 0 ∧ b = 0) := by
    unfold I.fits
    rw [decide_eq_true (show 1 ≤ op ∧ op ≤ 33 from ⟨o1, o2⟩), hr, hm, Bool.true_and, Bool.eq_iff_iff, decide_eq_true_iff]
    unfold I.bears I.bad I.isr
    simp
    omega
  by_cases H : 0 ≤ a ∧ a ≤ 7 ∧ 0 ≤ b ∧ b ≤ 7 ∧ a = 0 ∧ b = 0
  · obtain ⟨c1, c2, c3, c4, c5, c6⟩ := H
    have e1 : I.fits op a b n = true := by rw [hfit]; exact decide_eq_true ⟨c1, c2, c3, c4, c5, c6⟩
    unfold I.encV I.encE
    rw [if_pos e1, if_pos e1, hr, hm, ht]
    by_cases hr0 : 0 ≤ n ∧ n ≤ 127
    · have h0 : W.bytesE n 1 = 0 := by
        unfold W.bytesE
        rw [if_pos (by decide), if_pos]
        unfold W.sx
        rw [if_pos rfl]
        omega
      have e2 : I.numOk 1 true n = true := by unfold I.numOk; rw [if_neg (by decide), h0, decide_eq_true hr0.1]; rfl
      rw [if_pos e2, if_pos e2]
      refine (rok_10 op a b n hn o1 o2 hf (by omega) (by omega) (by omega) (by omega) (by simpa using c5) (by simpa using c6) hr0.1 hr0.2 w).mono ?_
      rintro e w' ⟨rfl, hb⟩
      exact ⟨retSE (by rw [if_pos h0]; congr 1) (by rw [h0]), hb⟩
    · have e2 : I.numOk 1 true n = false := by
        unfold I.numOk
        rw [if_neg (by decide)]
        by_cases h : 0 ≤ n
        · have h0 : W.bytesE n 1 = 7 := by
            unfold W.bytesE
            rw [if_pos (by decide), if_neg]
            unfold W.sx
            rw [if_pos rfl]
            omega
          rw [h0]; rfl
        · rw [decide_eq_false h]; simp
      rw [if_neg (by rw [e2]; decide), if_neg (by rw [e2]; decide)]
      exact rtrap op a b n hf (by omega) (by omega) (by omega) (by omega) (by simpa using c5) (by simpa using c6) (by omega) w
  · have e1 : I.fits op a b n = false := by rw [hfit]; exact decide_eq_false H
    unfold I.encV I.encE
    rw [if_neg (by rw [e1]; decide), if_neg (by rw [e1]; decide)]
    exact rbad_10 op a b n hf (by first | omega | (simp only [bne_iff_ne, ne_eq]; omega) | (simp only [bne_iff_ne, ne_eq, bne_eq_false_iff_eq]; omega)) w

theorem rencode_any (op a b n : Int) (hn : (Lit.int .i64 n).wf = true) (w : World) :
    Calls Tryd.prog 55 #[insV op a b n] w fun e w' => e = .returned (.tuple #[.string (strOfNums (I.encV op a b n)), .int .i64 (I.encE op a b n)]) ∧ Below w.heap.size w w' := by
  by_cases h : 1 ≤ op ∧ op ≤ 33
  · have h0 := I.form_some h.1 h.2
    have h1 := I.form_range op
    rcases (show I.form op = 1 ∨ I.form op = 2 ∨ I.form op = 3 ∨ I.form op = 4 ∨ I.form op = 5 ∨ I.form op = 6 ∨ I.form op = 7 ∨ I.form op = 8 ∨ I.form op = 9 ∨ I.form op = 10 by omega) with e | e | e | e | e | e | e | e | e | e
    · exact renc_1 op a b n hn h.1 h.2 e w
    · exact renc_2 op a b n hn h.1 h.2 e w
    · exact renc_3 op a b n hn h.1 h.2 e w
    · exact renc_4 op a b n hn h.1 h.2 e w
    · exact renc_5 op a b n hn h.1 h.2 e w
    · exact renc_6 op a b n hn h.1 h.2 e w
    · exact renc_7 op a b n hn h.1 h.2 e w
    · exact renc_8 op a b n hn h.1 h.2 e w
    · exact renc_9 op a b n hn h.1 h.2 e w
    · exact renc_10 op a b n hn h.1 h.2 e w
  · have e1 : I.fits op a b n = false := by unfold I.fits; rw [decide_eq_false h]; rfl
    unfold I.encV I.encE
    rw [if_neg (by rw [e1]; decide), if_neg (by rw [e1]; decide)]
    exact rbad_0 op a b n (I.form_none (by omega)) w

end Go.Proofs.YtneclfaamgfoeaaDoor

/- Two lists of events, held against each other; few; the code of instructions. -/
namespace Go.Proofs.YtneclfaamgfoeaaDoor
open Go.RowKit Go.Maps
set_option linter.unusedVariables false
set_option linter.unusedSimpArgs false

theorem eqEv (a b c : Int) (w : World) : (Op.equalIn 10000 81 (.agg #[.int .i64 a, .int .i64 b, .int .i64 c]) (.agg #[.int .i64 a, .int .i64 b, .int .i64 c])).run Tryd.prog w = .ok true w := by
  go_simp

set_option maxRecDepth 100000 in
set_option maxHeartbeats 8000000 in
theorem sameE_any {B B' : Nat} {w : World} {u v : Value} {es : List T.Ev} (h1 : w.ownsRow B 81 3 u es.length (es.flatMap eC)) (h2 : w.ownsRow B' 81 3 v es.length (es.flatMap eC)) :
    Calls Tryd.prog 21 #[u, v] w fun e w' => e = .returned (.bool true) ∧ Below w.heap.size w w' := by
  obtain ⟨a, c, rfl, -, hat⟩ := row_at (m := 3) (f := eC) (0, 0, 0) (fun _ => rfl) h1 rfl
  obtain ⟨a', c', rfl, -, hat'⟩ := row_at (m := 3) (f := eC) (0, 0, 0) (fun _ => rfl) h2 rfl
  obtain ⟨hnc, hcm⟩ : es.length ≤ c ∧ c ≤ maxLen := by obtain ⟨x, y, e, h1, h2⟩ := own_sl h1; cases e; exact ⟨h1, h2⟩
  obtain ⟨hnc', hcm'⟩ : es.length ≤ c' ∧ c' ≤ maxLen := by obtain ⟨x, y, e, h1, h2⟩ := own_sl h2; cases e; exact ⟨h1, h2⟩
  unfold maxLen at hcm hcm'
  have HA : Hid _ := hat
  have HA' : Hid _ := hat'
  obtain ⟨n, hn⟩ : ∃ n, es.length = n := ⟨_, rfl⟩
  rw [hn] at hnc hnc' HA HA'
  rw [hn]
  have heq : ∀ (x y z : Int) (w : World), (Op.equalIn 10000 81 (.agg #[.int .i64 x, .int .i64 y, .int .i64 z]) (.agg #[.int .i64 x, .int .i64 y, .int .i64 z])).run Tryd.prog w = .ok true w := eqEv
  clear h1 h2 hat hat' hn
  go_enter Tryd.func21, Tryd.ntmps21
  go_wp2_with fail
  go_loopg [5] n (fun r iv wq => ∃ (k : Nat), iv = .int .i64 k ∧ k ≤ n ∧ n - k ≤ r ∧ Hid (Below w.heap.size w wq))
  case atStart => exact ⟨0, rfl, Nat.zero_le _, by omega, Below.refl _ _⟩
  case round =>
    obtain ⟨k, rfl, hk, hr, HB⟩ := hrel
    by_cases hlt : k < n
    · rcases HA.out with h0 | ⟨g, o, hg, hc⟩
      · omega
      rcases HA'.out with h0 | ⟨g', o', hg', hc'⟩
      · omega
      obtain ⟨⟨x, y, z⟩, hx⟩ : ∃ x, es.getD k (0, 0, 0) = x := ⟨_, rfl⟩
      have f := hc k hlt
      have f' := hc' k hlt
      rw [hx] at f f'
      have d0 := cell_up HB.out (f 0 _ (by decide) rfl)
      have d1 := cell_up HB.out (f 1 _ (by decide) rfl)
      have d2 := cell_up HB.out (f 2 _ (by decide) rfl)
      have d0' := cell_up HB.out (f' 0 _ (by decide) rfl)
      have d1' := cell_up HB.out (f' 1 _ (by decide) rfl)
      have d2' := cell_up HB.out (f' 2 _ (by decide) rfl)
      simp only [Nat.add_zero] at d0 d1 d2 d0' d1' d2'
      cases hg
      cases hg'
      have hii : (k : Int) < n := by omega
      have hin : 0 ≤ (k : Int) := by omega
      clear hc hc' f f' hx
      go_wp2_with fail
      go_region
      have HB2 : Hid (Below w.heap.size w wr.drew) := HB.out.drew
      go_wp2
      go_roundg (n - (k + 1))
      · exact ⟨k + 1, rfl, by omega, Nat.le_refl _, HB2⟩
      · omega
    · obtain rfl : k = n := by omega
      go_wp2
      go_ret
      exact ⟨rfl, HB.out⟩

set_option maxRecDepth 100000 in
set_option maxHeartbeats 8000000 in
theorem few_any {w : World} {a : Option Addr} {l c : Nat} {zs : List Int} (h : IntsV w a l c zs) (m : Nat) (hm : m ≤ 1000) :
    Calls Tryd.prog 13 #[.slice a l c, .int .i64 m] w fun e w' => (∃ l', e = .returned (.slice a l' c) ∧ IntsV w a l' c (zs.take m) ∧ l' ≤ m) ∧ w' = w := by
  have hro := h.room
  unfold maxLen at hro
  have HV : Hid (IntsV w a l c zs) := h
  by_cases hlt : m < l
  · have HE : Hid (IntsV w a m c (zs.take m)) := by
      refine ⟨by rw [List.length_take, h.count]; omega, fun n hn => h.fits n (List.mem_of_mem_take hn), fun e => by have := (h.nilOf e).1; omega, ⟨by omega, h.room.2⟩, ?_⟩
      rcases h.cells with h0 | ⟨b, off, ha, hc⟩
      · omega
      · refine .inr ⟨b, off, ha, fun i hi => ?_⟩
        rw [hc i (by omega)]
        simp [List.getD, List.getElem?_take, hi]
    have hi : (m : Int) < l := by omega
    have hmc : (m : Int) ≤ c := by omega
    clear h HV
    go_enter Tryd.func13, Tryd.ntmps13
    go_wp2
    go_ret
    exact ⟨⟨m, rfl, HE.out, Nat.le_refl _⟩, rfl⟩
  · have HE : Hid (IntsV w a l c (zs.take m)) := by
      rw [List.take_of_length_le (by rw [h.count]; omega)]
      exact h
    have hi : (l : Int) ≤ m := by omega
    have hlm : l ≤ m := by omega
    clear h HV
    go_enter Tryd.func13, Tryd.ntmps13
    go_wp2
    go_ret
    exact ⟨⟨l, rfl, HE.out, hlm⟩, rfl⟩

/-- Instructions. -/
abbrev Q4 := Int × Int × Int × Int
def qC (q : Q4) : List Value := [.int .i64 q.1, .int .i64 q.2.1, .int .i64 q.2.2.1, .int .i64 q.2.2.2]
def encQ (q : Q4) : ByteArray := strOfNums (I.encV q.1 q.2.1 q.2.2.1 q.2.2.2)
def codeQ (qs : List Q4) : ByteArray := qs.foldl (fun s q => s ++ encQ q) { data := #[] }

set_option maxRecDepth 100000 in
set_option maxHeartbeats 8000000 in
theorem code_any {B : Nat} {w : World} {u : Value} {qs : List Q4} (h : w.ownsRow B 101 4 u qs.length (qs.flatMap qC)) (hf : ∀ q ∈ qs, (Lit.int .i64 q.2.2.2).wf = true) (hz : ∀ k, (codeQ (qs.take k)).size ≤ 100000) :
    Calls Tryd.prog 44 #[u] w fun e w' => e = .returned (.string (codeQ qs)) ∧ Below w.heap.size w w' := by
  obtain ⟨a, c, rfl, -, hat⟩ := row_at (m := 4) (f := qC) (0, 0, 0, 0) (fun _ => rfl) h rfl
  obtain ⟨hnc, hcm⟩ : qs.length ≤ c ∧ c ≤ maxLen := by obtain ⟨x, y, e, h1, h2⟩ := own_sl h; cases e; exact ⟨h1, h2⟩
  unfold maxLen at hcm
  have HA : Hid _ := hat
  have HF : Hid _ := hf
  have HZ : Hid _ := hz
  obtain ⟨n, hn⟩ : ∃ n, qs.length = n := ⟨_, rfl⟩
  have HN : Hid (qs.length = n) := hn
  rw [hn] at hnc HA
  rw [hn]
  have HC0 : Hid (codeQ (qs.take 0) = { data := #[] }) := rfl
  clear h hat hn hf hz
  go_enter Tryd.func44, Tryd.ntmps44
  go_wp2_with fail
  go_loopg [3, 4] n (fun r sv iv wq => ∃ (k : Nat) (s : ByteArray), iv = .int .i64 k ∧ sv = .string s ∧ k ≤ n ∧ n - k ≤ r ∧ Hid (codeQ (qs.take k) = s) ∧ Hid (Below w.heap.size w wq))
  case atStart => exact ⟨0, _, rfl, rfl, Nat.zero_le _, by omega, HC0, Below.refl _ _⟩
  case round =>
    obtain ⟨k, s, rfl, rfl, hk, hr, HS, HB⟩ := hrel
    by_cases hlt : k < n
    · rcases HA.out with h0 | ⟨g, o, hg, hc⟩
      · omega
      have hkl : k < qs.length := by rw [HN.out]; exact hlt
      obtain ⟨⟨op, x, y, z⟩, hx⟩ : ∃ x, qs.getD k (0, 0, 0, 0) = x := ⟨_, rfl⟩
      have f := hc k hlt
      rw [hx] at f
      have d0 := cell_up HB.out (f 0 _ (by decide) rfl)
      have d1 := cell_up HB.out (f 1 _ (by decide) rfl)
      have d2 := cell_up HB.out (f 2 _ (by decide) rfl)
      have d3 := cell_up HB.out (f 3 _ (by decide) rfl)
      simp only [Nat.add_zero] at d0 d1 d2 d3
      have hfz := HF.out (op, x, y, z) (by rw [← hx]; simp [List.getD, hkl])
      obtain ⟨t, ht⟩ : ∃ t, encQ (op, x, y, z) = t := ⟨_, rfl⟩
      have HS1 : Hid (codeQ (qs.take (k + 1)) = s ++ t) := by
        show _ = _
        have e1 : qs[k] = (op, x, y, z) := by rw [← hx]; simp [List.getD, hkl]
        rw [List.take_succ_eq_append_getElem hkl, ← ht, ← HS.out, e1]
        unfold codeQ
        rw [List.foldl_append]
        rfl
      have hsz := HZ.out (k + 1)
      rw [HS1.out, ByteArray.size_append] at hsz
      have hcat : ¬ (9223372036854775807 < s.size + t.size) := by omega
      have h0 := rencode_any op x y z hfz wr
      obtain ⟨ee, hee⟩ : ∃ ee, I.encE op x y z = ee := ⟨_, rfl⟩
      rw [show strOfNums (I.encV op x y z) = t from ht, hee] at h0
      have HE : Hid (Calls Tryd.prog 55 #[.agg #[.int .i64 op, .int .i64 x, .int .i64 y, .int .i64 z]] wr fun e w' => e = .returned (.tuple #[.string t, .int .i64 ee]) ∧ Below wr.heap.size wr w') := h0
      cases hg
      have hii : (k : Int) < n := by omega
      have hin : 0 ≤ (k : Int) := by omega
      clear hc f hx h0 hee hfz ht hsz
      go_wp2_with fail
      refine HE.out.mono ?_
      rintro e y2 ⟨rfl, hb2⟩
      have HB2 : Hid (Below w.heap.size w y2) := HB.out.trans (hb2.mono HB.out.size)
      clear hb2
      go_wp2
      go_roundg (n - (k + 1))
      · exact ⟨k + 1, _, rfl, rfl, by omega, Nat.le_refl _, HS1, HB2⟩
      · omega
    · obtain rfl : k = n := by omega
      have HE : Hid (codeQ qs = s) := by
        have h1 := HS.out
        rw [← HN.out, List.take_length] at h1
        exact h1
      go_wp2
      go_ret
      exact ⟨by rw [HE.out]; rfl, HB.out⟩

end Go.Proofs.YtneclfaamgfoeaaDoor

/- Rows and boxes of a call's own. -/
namespace Go.Proofs.YtneclfaamgfoeaaDoor
open Go.RowKit Go.Lib
set_option linter.unusedVariables false

def Cells (x : World) (b : Nat) (vs : List Value) : Prop := ∀ j u, vs[j]? = some u → x.cell? ⟨b, j, none⟩ = some u
structure Row where
  ty : TypeId
  k : Nat
  v : Value
  n : Nat
  cs : List Value
/-- What a call has made since this world: rows, boxes, each apart from the others. -/
structure BS (w x : World) (rs : List Row) (bs : List (Nat × List Value)) : Prop where
  low : Below w.heap.size w x
  own : ∀ (k : Nat) (r : Row), rs[k]? = some r → x.ownsRow w.heap.size r.ty r.k r.v r.n r.cs
  dis : ∀ (k l : Nat) (r q : Row), rs[k]? = some r → rs[l]? = some q → k ≠ l → ∀ b, r.v.ownBlock = some b → q.v.ownBlock ≠ some b
  box : ∀ (m : Nat) (p : Nat × List Value), bs[m]? = some p → Cells x p.1 p.2 ∧ (∀ o, x.frozen? ⟨p.1, o, none⟩ = false) ∧ p.1 < x.heap.size ∧ w.heap.size ≤ p.1
  far : ∀ (m k : Nat) (p : Nat × List Value) (r : Row), bs[m]? = some p → rs[k]? = some r → r.v.ownBlock ≠ some p.1
  nd : ∀ (m l : Nat) (p q : Nat × List Value), bs[m]? = some p → bs[l]? = some q → m ≠ l → p.1 ≠ q.1

theorem BS.start (w : World) : BS w w [] [] := ⟨Below.refl _ _, by simp, by simp, by simp, by simp, by simp⟩
theorem row_below {w x : World} {B : Nat} {ty : TypeId} {k : Nat} {u : Value} {n : Nat} {cs : List Value} (hu : w.ownsRow B ty k u n cs) (hb : Below w.heap.size w x) : x.ownsRow B ty k u n cs :=
  hu.kept (gb_of_below hb (some w.heap.size)) (.inr fun e => by have := (hu.lt _ e).2; omega)
theorem BS.below {w x y : World} {rs : List Row} {bs : List (Nat × List Value)} (h : BS w x rs bs) (hb : Below x.heap.size x y) : BS w y rs bs :=
  { low := h.low.trans (hb.mono h.low.size), own := fun k r hk => row_below (h.own k r hk) hb, dis := h.dis, far := h.far, nd := h.nd,
    box := fun m p hp => by
      obtain ⟨h1, h2, h3, h5⟩ := h.box m p hp
      exact ⟨fun j u hu => cell_up hb (h1 j u hu), fun o => (hb.frozen (p := ⟨p.1, o, none⟩) h3).trans (h2 o), Nat.lt_of_lt_of_le h3 hb.size, h5⟩ }
theorem BS.alloc {w x : World} {rs : List Row} {bs : List (Nat × List Value)} (h : BS w x rs bs) (a : Array Value) (t : TypeId) : BS w (x.alloc (.cells a t)) rs ((x.heap.size, a.toList) :: bs) := by
  have k := h.below (bl_one x (.cells a t))
  refine { low := k.low, own := k.own, dis := k.dis, box := fun m p hp => ?_, far := fun m n p r hp hr => ?_, nd := fun m l p q hp hq hml => ?_ }
  · cases m with
    | zero =>
      simp at hp
      subst hp
      exact ⟨fun j u hu => cell_last _ _ _ _ _ rfl (by simpa using hu), fun o => World.frozen?_alloc_at _ _ _ _ rfl, by simp, h.low.size⟩
    | succ m => exact k.box m p (by simpa using hp)
  · cases m with
    | zero =>
      simp at hp
      subst hp
      intro e
      have := ((h.own n r hr).lt _ e).2
      simp at this
    | succ m => exact h.far m n p r (by simpa using hp) hr
  · cases m with
    | zero =>
      cases l with
      | zero => exact absurd rfl hml
      | succ l =>
        simp at hp
        subst hp
        have := (h.box l q (by simpa using hq)).2.2.1
        show x.heap.size ≠ q.1
        omega
    | succ m =>
      cases l with
      | zero =>
        simp at hq
        subst hq
        have := (h.box m p (by simpa using hp)).2.2.1
        show p.1 ≠ x.heap.size
        omega
      | succ l => exact h.nd m l p q (by simpa using hp) (by simpa using hq) (by omega)
theorem BS.drop {w x : World} {rs : List Row} {p : Nat × List Value} {bs : List (Nat × List Value)} (h : BS w x rs (p :: bs)) : BS w x rs bs :=
  { low := h.low, own := h.own, dis := h.dis, box := fun m q hq => h.box (m + 1) q (by simpa using hq), far := fun m k q r hq hr => h.far (m + 1) k q r (by simpa using hq) hr, nd := fun m l q r hq hr hml => h.nd (m + 1) (l + 1) q r (by simpa using hq) (by simpa using hr) (by omega) }
theorem BS.put {w x : World} {rs : List Row} {bs : List (Nat × List Value)} (h : BS w x rs bs) (m z : Nat) (vs : List Value) (hm : bs[m]? = some (z, vs)) (k : Nat) (hk : k < vs.length) (u : Value) : BS w (x.setCell ⟨z, k, none⟩ u) rs (bs.set m (z, vs.set k u)) := by
  obtain ⟨h1, h2, h3, h5⟩ := h.box m (z, vs) hm
  simp only at h1 h2 h3 h5
  have hml : m < bs.length := (List.getElem?_eq_some_iff.1 hm).1
  have at' : ∀ l q, (bs.set m (z, vs.set k u))[l]? = some q → (l = m ∧ q = (z, vs.set k u)) ∨ (l ≠ m ∧ bs[l]? = some q) := fun l q hq => by
    by_cases e : m = l
    · subst e
      rw [List.getElem?_set_self hml] at hq
      exact .inl ⟨rfl, by simpa using hq.symm⟩
    · rw [List.getElem?_set_ne e] at hq
      exact .inr ⟨fun e' => e e'.symm, hq⟩
  have gz := gb_set x ⟨z, k, none⟩ u
  refine { low := h.low.setCell h5 u, own := fun n r hr => (h.own n r hr).kept gz (.inr (h.far m n (z, vs) r hm hr)), dis := h.dis, box := fun l q hq => ?_, far := fun l n q r hq hr => ?_, nd := fun l n p q hp hq hln => ?_ }
  · rcases at' l q hq with ⟨rfl, rfl⟩ | ⟨hne, hq'⟩
    · refine ⟨fun j v hv => ?_, fun o => by rw [World.frozen?_setCell]; exact h2 o, by rw [World.size_setCell]; exact h3, h5⟩
      by_cases e : k = j
      · subst e
        rw [List.getElem?_set_self hk] at hv
        cases hv
        refine World.cell?_setCell_same' _ _ _ ?_
        rw [h1 k vs[k] (by simp [hk])]
        rfl
      · rw [List.getElem?_set_ne e] at hv
        rw [World.cell?_setCell_other _ _ _ _ (fun e' => e (by have := congrArg Addr.off e'; simpa using this))]
        exact h1 j v hv
    · obtain ⟨g1, g2, g3, g5⟩ := h.box l q hq'
      have hzq := h.nd m l (z, vs) q hm hq' (fun e => hne e.symm)
      exact ⟨fun j v hv => (World.cell?_setCell_far _ _ _ _ hzq).trans (g1 j v hv), fun o => by rw [World.frozen?_setCell]; exact g2 o, by rw [World.size_setCell]; exact g3, g5⟩
  · rcases at' l q hq with ⟨rfl, rfl⟩ | ⟨hne, hq'⟩
    · exact h.far l n (z, vs) r hm hr
    · exact h.far l n q r hq' hr
  · rcases at' l p hp with ⟨rfl, rfl⟩ | ⟨hne, hp'⟩
    · rcases at' n q hq with ⟨rfl, rfl⟩ | ⟨hne', hq'⟩
      · exact absurd rfl hln
      · exact h.nd l n (z, vs) q hm hq' hln
    · rcases at' n q hq with ⟨rfl, rfl⟩ | ⟨hne', hq'⟩
      · exact h.nd l n p (z, vs) hp' hm hln
      · exact h.nd l n p q hp' hq' hln
/-- A row grows: what it is now owns a block that was its own, or one that is new. -/
theorem BS.push {w x y : World} {rs : List Row} {bs : List (Nat × List Value)} (h : BS w x rs bs) {k : Nat} {r : Row} (hk : rs[k]? = some r) {v' : Value} {n : Nat} {cs : List Value} (ho : y.ownsRow w.heap.size r.ty r.k v' n cs) (hg : x.grownBy y r.v.ownBlock) (hat : ∀ g, v'.ownBlock = some g → r.v.ownBlock = some g ∨ x.heap.size ≤ g) :
    BS w y (rs.set k ⟨r.ty, r.k, v', n, cs⟩) bs := by
  have hor := h.own k r hk
  have hrb : ∀ b, r.v.ownBlock = some b → w.heap.size ≤ b := fun b e => (hor.lt b e).1
  have hkl : k < rs.length := (List.getElem?_eq_some_iff.1 hk).1
  have row : ∀ l q, (rs.set k ⟨r.ty, r.k, v', n, cs⟩)[l]? = some q → (l = k ∧ q = ⟨r.ty, r.k, v', n, cs⟩) ∨ (l ≠ k ∧ rs[l]? = some q) := fun l q hq => by
    by_cases e : k = l
    · subst e
      rw [List.getElem?_set_self hkl] at hq
      exact .inl ⟨rfl, by simpa using hq.symm⟩
    · rw [List.getElem?_set_ne e] at hq
      exact .inr ⟨fun e' => e e'.symm, hq⟩
  refine { low := h.low.grown hg h.low.size hrb, own := fun l q hq => ?_, dis := fun l m q p hq hp hlm b hb => ?_, nd := h.nd, box := fun m p hp => ?_, far := fun m l p q hp hq => ?_ }
  · rcases row l q hq with ⟨rfl, rfl⟩ | ⟨hne, hq'⟩
    · exact ho
    · refine (h.own l q hq').kept hg ?_
      cases e : q.v.ownBlock with
      | none => exact .inl rfl
      | some b => exact .inr fun e' => h.dis l k q r hq' hk hne b e e'.symm
  · rcases row l q hq with ⟨rfl, rfl⟩ | ⟨hne, hq'⟩
    · rcases row m p hp with ⟨rfl, rfl⟩ | ⟨hne', hp'⟩
      · exact absurd rfl hlm
      · intro e
        rcases hat b hb with h1 | h1
        · exact h.dis m l p r hp' hk hne' b e h1
        · have := ((h.own m p hp').lt _ e).2
          omega
    · rcases row m p hp with ⟨rfl, rfl⟩ | ⟨hne', hp'⟩
      · intro e
        rcases hat b e with h1 | h1
        · exact h.dis l m q r hq' hk hne b hb h1
        · have := ((h.own l q hq').lt _ hb).2
          omega
      · exact h.dis l m q p hq' hp' hlm b hb
  · obtain ⟨h1, h2, h3, h5⟩ := h.box m p hp
    have hne := h.far m k p r hp hk
    exact ⟨fun j u hu => hg.cell (h1 j u hu) (fun e => hne e.symm), fun o => (hg.frozen_far ⟨p.1, o, none⟩ h3 (fun e => hne e.symm)).trans (h2 o), Nat.lt_of_lt_of_le h3 hg.size, h5⟩
  · rcases row l q hq with ⟨rfl, rfl⟩ | ⟨hne, hq'⟩
    · intro e
      rcases hat _ e with h1 | h1
      · exact h.far m l p r hp hk h1
      · have := (h.box m p hp).2.2.1
        omega
    · exact h.far m l p q hp hq'
/-- A row more, as nil. -/
theorem BS.nil {w x : World} {rs : List Row} {bs : List (Nat × List Value)} (h : BS w x rs bs) (ty : TypeId) (k : Nat) : BS w x (⟨ty, k, .slice none 0 0, 0, []⟩ :: rs) bs := by
  refine { low := h.low, own := fun l r hr => ?_, dis := fun l m r q hr hq hlm b hb => ?_, box := h.box, far := fun m l p r hp hr => ?_, nd := h.nd }
  · cases l with
    | zero => simp at hr; subst hr; exact World.ownsRow_nil _ _ _ _
    | succ l => exact h.own l r (by simpa using hr)
  · cases l with
    | zero => simp at hr; subst hr; simp [Value.ownBlock] at hb
    | succ l =>
      cases m with
      | zero => simp at hq; subst hq; simp [Value.ownBlock]
      | succ m => exact h.dis l m r q (by simpa using hr) (by simpa using hq) (by omega) b hb
  · cases l with
    | zero => simp at hr; subst hr; simp [Value.ownBlock]
    | succ l => exact h.far m l p r hp (by simpa using hr)
end Go.Proofs.YtneclfaamgfoeaaDoor

/- What the laws' live answers: true. (Written by gen_live.py.) -/
namespace Go.Proofs.YtneclfaamgfoeaaDoor
open Go.RowKit Go.Maps
set_option linter.unusedVariables false
set_option linter.unusedSimpArgs false

def qs1 (ow ot : Int) : List Q4 := [(19, 1, 0, ow), (1, 2, 0, 1), (18, 1, 2, 0), (19, 1, 0, ot), (17, 3, 1, 0), (31, 3, 0, 0), (32, 0, 0, 0)]
def qsX : Nat → List Q4
  | 0 => []
  | 1 => qs1 1048576 1048584
  | _ => qs1 1048576 1048584 ++ qs1 1048584 1048576
def symX : Nat → List Sym
  | 0 => []
  | 1 => [⟨{ data := #[116] }, 3, 0⟩]
  | _ => [⟨{ data := #[116] }, 3, 0⟩, ⟨{ data := #[116] }, 3, ((codeQ (qsX 1)).size : Int)⟩]
def sC (s : Sym) : List Value := [.string s.name, .int .i64 s.kind, .int .i64 s.pos]
def imX : ImgD := ⟨codeQ (qsX 2), [0, 0], symX 2⟩
theorem infoS : (Tryd.prog.info? 64).map (fun i => (i.zero, i.size, i.bytes)) = some (some (.agg #[.string { data := #[] }, .int .i64 0, .int .i64 0]), 3, 32) := by kernel_rfl
theorem infoQ : (Tryd.prog.info? 101).map (fun i => (i.zero, i.size, i.bytes)) = some (some (.agg #[.int .i64 0, .int .i64 0, .int .i64 0, .int .i64 0]), 4, 32) := by kernel_rfl
theorem codeX_size : ∀ n, n ≤ 14 → (codeQ ((qsX 2).take n)).size ≤ 100000 := by decide +kernel
theorem codeX_1 : (codeQ (qsX 1)).size = 37 := by decide +kernel

theorem imX_may : imX.may = true := by decide +kernel
theorem imX_run1 : (T.runs imX.mach [0, 0, 0, 2, 2, 2, 0, 0, 0, 2, 2, 2]).es = [(0, 1, 0), (1, 1, 0)] := by decide +kernel
theorem imX_run2 : (T.runs imX.mach [0, 0, 0, 1, 2, 2, 2, 2, 2, 2]).es = [(1, 1, 1)] := by decide +kernel

end Go.Proofs.YtneclfaamgfoeaaDoor

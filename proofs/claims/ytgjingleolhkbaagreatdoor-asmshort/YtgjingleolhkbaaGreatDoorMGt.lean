/- The document's Encode: TRAP with a number out of range. (Written by gen_rall.py.) -/
import Derived.Test.YtgjingleolhkbaaGreatDoorInsRefBad
import Derived.Test.YtgjingleolhkbaaGreatDoorInsRefOk
import Derived.Test.YtgjingleolhkbaaGreatDoorInsNumber
import Derived.Deep.QuietTactic
import Derived.BigQuiet
import Derived.Test.YtgjingleolhkbaaGreatDoorInsMath
import Derived.Test.YtgjingleolhkbaaGreatDoorWordNumMath
import Derived.Test.YtgjingleolhkbaaGreatDoorInsPsize
import Derived.Deep.RegionHeld3
import Derived.Deep.DrawnRows
import Derived.Test.YtgjingleolhkbaaGreatDoorInsEncAll
import Derived.Test.YtgjingleolhkbaaGreatDoorInsForm
import Derived.Laws.StructEq
import Derived.Deep.LoopGhost
import Derived.Deep.AppendLies
namespace Go.Proofs.YtgjingleolhkbaaGreatDoor.J
set_option maxRecDepth 100000
open Go.RowKit
set_option linter.unusedVariables false

set_option maxRecDepth 100000 in
set_option maxHeartbeats 16000000 in
theorem rtrap (op a b n : Int) (HF : Hid (I.form op = 10)) (h1 : 0 ≤ a) (h2 : a ≤ 7) (h3 : 0 ≤ b) (h4 : b ≤ 7) (h5 : (a != 0) = false) (h6 : (b != 0) = false) (h : n < 0 ∨ (0 ≤ n ∧ 127 < n)) (w : World) :
    Calls Tryz.prog 59 #[insV op a b n] w fun e w' => e = .returned (.tuple #[.string (strOfNums []), .int .i64 7]) ∧ Below w.heap.size w w' := by
  have pA : I.hasA 10 = false := by decide
  have pB : I.hasB 10 = false := by decide
  have pN : I.numB 10 = 1 := by decide
  rcases h with h7 | ⟨h7, h8⟩
  all_goals
    go_enter Tryz.func59, Tryz.ntmps59
    go_wp2_with (first | (go_at_call 66; refine (form_any _ _).mono ?_; rintro e w' ⟨rfl, rfl⟩; rw [HF.out]) | (go_at_call 65; refine (parts_any _ ?_ ?_ _).mono ?_; omega; omega; rintro e w' ⟨rfl, rfl⟩; rw [pA, pB, pN]))
    go_ret2
    exact ⟨rfl, bl1 _ _⟩

end Go.Proofs.YtgjingleolhkbaaGreatDoor.J

/- The document's Encode, whatever the instruction. (Written by gen_rall.py.) -/
namespace Go.Proofs.YtgjingleolhkbaaGreatDoor.J
set_option maxRecDepth 100000
open Go.RowKit
set_option linter.unusedVariables false

theorem I.nat_no {op f : Int} (h : I.form op = f) (hf : ¬ f = 10) : I.nat op = false := by
  unfold I.nat
  rw [beq_eq_false_iff_ne]
  rintro rfl
  exact hf (h.symm.trans (by decide))
theorem I.nat_yes {op : Int} (h : I.form op = 10) : I.nat op = true := by
  by_cases e : op = 33
  · subst e; rfl
  · exfalso
    unfold I.form at h
    repeat (split at h; omega)
    omega
theorem W.bytesE_sz {n m : Int} (h : W.isSz m = true) : W.bytesE n m = 0 ∨ W.bytesE n m = 7 := by
  unfold W.bytesE; rw [if_pos h]; split <;> omega

theorem renc_1 (op a b n : Int) (hn : (Lit.int .i64 n).wf = true) (o1 : 1 ≤ op) (o2 : op ≤ 33) (hf : I.form op = 1) (w : World) :
    Calls Tryz.prog 59 #[insV op a b n] w fun e w' => e = .returned (.tuple #[.string (strOfNums (I.encV op a b n)), .int .i64 (I.encE op a b n)]) ∧ Below w.heap.size w w' := by
  have hr : I.regs op = 1 := by unfold I.regs; rw [hf]; rfl
  have hm : I.num op = 8 := by unfold I.num; rw [hf]; rfl
  have ht : I.nat op = false := I.nat_no hf (by decide)
  have hfit : I.fits op a b n = decide (0 ≤ a ∧ a ≤ 7 ∧ 0 ≤ b ∧ b ≤ 7 ∧ b = 0) := by
    unfold I.fits
    rw [decide_eq_true (show 1 ≤ op ∧ op ≤ 33 from ⟨o1, o2⟩), hr, hm, Bool.true_and, Bool.eq_iff_iff, decide_eq_true_iff]
    unfold I.bears I.bad I.isr
    simp
    omega
  by_cases H : 0 ≤ a ∧ a ≤ 7 ∧ 0 ≤ b ∧ b ≤ 7 ∧ b = 0
  · obtain ⟨c1, c2, c3, c4, c6⟩ := H
    have e1 : I.fits op a b n = true := by rw [hfit]; exact decide_eq_true ⟨c1, c2, c3, c4, c6⟩
    unfold I.encV I.encE
    rw [if_pos e1, if_pos e1, hr, hm, ht]
    have e2 : I.numOk 8 false n = (W.bytesE n 8 == 0) := by unfold I.numOk; rw [if_neg (by decide)]; simp
    rw [e2]
    refine (rok_1 op a b n hn o1 o2 hf (by omega) (by omega) (by omega) (by omega) (by simpa using c6) w).mono ?_
    rintro e w' ⟨rfl, hb⟩
    rcases W.bytesE_sz (n := n) (m := 8) (by decide) with h0 | h0
    · exact ⟨retSE (by rw [if_pos h0, if_pos (by rw [h0]; rfl)]; congr 1) (by rw [if_pos (by rw [h0]; rfl), h0]), hb⟩
    · exact ⟨retSE (by rw [if_neg (by rw [h0]; decide), if_neg (by rw [h0]; decide)]) (by rw [if_neg (by rw [h0]; decide), h0]), hb⟩
  · have e1 : I.fits op a b n = false := by rw [hfit]; exact decide_eq_false H
    unfold I.encV I.encE
    rw [if_neg (by rw [e1]; decide), if_neg (by rw [e1]; decide)]
    exact rbad_1 op a b n hf (by first | omega | (simp only [bne_iff_ne, ne_eq]; omega) | (simp only [bne_iff_ne, ne_eq, bne_eq_false_iff_eq]; omega)) w

theorem renc_2 (op a b n : Int) (hn : (Lit.int .i64 n).wf = true) (o1 : 1 ≤ op) (o2 : op ≤ 33) (hf : I.form op = 2) (w : World) :
    Calls Tryz.prog 59 #[insV op a b n] w fun e w' => e = .returned (.tuple #[.string (strOfNums (I.encV op a b n)), .int .i64 (I.encE op a b n)]) ∧ Below w.heap.size w w' := by
  have hr : I.regs op = 2 := by unfold I.regs; rw [hf]; rfl
  have hm : I.num op = 0 := by unfold I.num; rw [hf]; rfl
  have ht : I.nat op = false := I.nat_no hf (by decide)
  have hfit : I.fits op a b n = decide (0 ≤ a ∧ a ≤ 7 ∧ 0 ≤ b ∧ b ≤ 7 ∧ n = 0) := by
    unfold I.fits
    rw [decide_eq_true (show 1 ≤ op ∧ op ≤ 33 from ⟨o1, o2⟩), hr, hm, Bool.true_and, Bool.eq_iff_iff, decide_eq_true_iff]
    unfold I.bears I.bad I.isr
    simp
    omega
  by_cases H : 0 ≤ a ∧ a ≤ 7 ∧ 0 ≤ b ∧ b ≤ 7 ∧ n = 0
  · obtain ⟨c1, c2, c3, c4, c7⟩ := H
    have e1 : I.fits op a b n = true := by rw [hfit]; exact decide_eq_true ⟨c1, c2, c3, c4, c7⟩
    unfold I.encV I.encE
    rw [if_pos e1, if_pos e1, hr, hm, ht]
    have e2 : I.numOk 0 false n = true := rfl
    rw [if_pos e2, if_pos e2]
    refine (rok_2 op a b n o1 o2 hf (by omega) (by omega) (by omega) (by omega) (by simpa using c7) w).mono ?_
    rintro e w' ⟨rfl, hb⟩
    exact ⟨retSE (by first | rfl | (congr 1; done) | (congr 1; simp [I.regB, I.numW])) rfl, hb⟩
  · have e1 : I.fits op a b n = false := by rw [hfit]; exact decide_eq_false H
    unfold I.encV I.encE
    rw [if_neg (by rw [e1]; decide), if_neg (by rw [e1]; decide)]
    exact rbad_2 op a b n hf (by first | omega | (simp only [bne_iff_ne, ne_eq]; omega) | (simp only [bne_iff_ne, ne_eq, bne_eq_false_iff_eq]; omega)) w

theorem renc_3 (op a b n : Int) (hn : (Lit.int .i64 n).wf = true) (o1 : 1 ≤ op) (o2 : op ≤ 33) (hf : I.form op = 3) (w : World) :
    Calls Tryz.prog 59 #[insV op a b n] w fun e w' => e = .returned (.tuple #[.string (strOfNums (I.encV op a b n)), .int .i64 (I.encE op a b n)]) ∧ Below w.heap.size w w' := by
  have hr : I.regs op = 2 := by unfold I.regs; rw [hf]; rfl
  have hm : I.num op = 4 := by unfold I.num; rw [hf]; rfl
  have ht : I.nat op = false := I.nat_no hf (by decide)
  have hfit : I.fits op a b n = decide (0 ≤ a ∧ a ≤ 7 ∧ 0 ≤ b ∧ b ≤ 7) := by
    unfold I.fits
    rw [decide_eq_true (show 1 ≤ op ∧ op ≤ 33 from ⟨o1, o2⟩), hr, hm, Bool.true_and, Bool.eq_iff_iff, decide_eq_true_iff]
    unfold I.bears I.bad I.isr
    simp
    omega
  by_cases H : 0 ≤ a ∧ a ≤ 7 ∧ 0 ≤ b ∧ b ≤ 7
  · obtain ⟨c1, c2, c3, c4⟩ := H
    have e1 : I.fits op a b n = true := by rw [hfit]; exact decide_eq_true ⟨c1, c2, c3, c4⟩
    unfold I.encV I.encE
    rw [if_pos e1, if_pos e1, hr, hm, ht]
    have e2 : I.numOk 4 false n = (W.bytesE n 4 == 0) := by unfold I.numOk; rw [if_neg (by decide)]; simp
    rw [e2]
    refine (rok_3 op a b n hn o1 o2 hf (by omega) (by omega) (by omega) (by omega) w).mono ?_
    rintro e w' ⟨rfl, hb⟩
    rcases W.bytesE_sz (n := n) (m := 4) (by decide) with h0 | h0
    · exact ⟨retSE (by rw [if_pos h0, if_pos (by rw [h0]; rfl)]; congr 1) (by rw [if_pos (by rw [h0]; rfl), h0]), hb⟩
    · exact ⟨retSE (by rw [if_neg (by rw [h0]; decide), if_neg (by rw [h0]; decide)]) (by rw [if_neg (by rw [h0]; decide), h0]), hb⟩
  · have e1 : I.fits op a b n = false := by rw [hfit]; exact decide_eq_false H
    unfold I.encV I.encE
    rw [if_neg (by rw [e1]; decide), if_neg (by rw [e1]; decide)]
    exact rbad_3 op a b n hf (by first | omega | (simp only [bne_iff_ne, ne_eq]; omega) | (simp only [bne_iff_ne, ne_eq, bne_eq_false_iff_eq]; omega)) w

theorem renc_4 (op a b n : Int) (hn : (Lit.int .i64 n).wf = true) (o1 : 1 ≤ op) (o2 : op ≤ 33) (hf : I.form op = 4) (w : World) :
    Calls Tryz.prog 59 #[insV op a b n] w fun e w' => e = .returned (.tuple #[.string (strOfNums (I.encV op a b n)), .int .i64 (I.encE op a b n)]) ∧ Below w.heap.size w w' := by
  have hr : I.regs op = 1 := by unfold I.regs; rw [hf]; rfl
  have hm : I.num op = 4 := by unfold I.num; rw [hf]; rfl
  have ht : I.nat op = false := I.nat_no hf (by decide)
  have hfit : I.fits op a b n = decide (0 ≤ a ∧ a ≤ 7 ∧ 0 ≤ b ∧ b ≤ 7 ∧ b = 0) := by
    unfold I.fits
    rw [decide_eq_true (show 1 ≤ op ∧ op ≤ 33 from ⟨o1, o2⟩), hr, hm, Bool.true_and, Bool.eq_iff_iff, decide_eq_true_iff]
    unfold I.bears I.bad I.isr
    simp
    omega
  by_cases H : 0 ≤ a ∧ a ≤ 7 ∧ 0 ≤ b ∧ b ≤ 7 ∧ b = 0
  · obtain ⟨c1, c2, c3, c4, c6⟩ := H
    have e1 : I.fits op a b n = true := by rw [hfit]; exact decide_eq_true ⟨c1, c2, c3, c4, c6⟩
    unfold I.encV I.encE
    rw [if_pos e1, if_pos e1, hr, hm, ht]
    have e2 : I.numOk 4 false n = (W.bytesE n 4 == 0) := by unfold I.numOk; rw [if_neg (by decide)]; simp
    rw [e2]
    refine (rok_4 op a b n hn o1 o2 hf (by omega) (by omega) (by omega) (by omega) (by simpa using c6) w).mono ?_
    rintro e w' ⟨rfl, hb⟩
    rcases W.bytesE_sz (n := n) (m := 4) (by decide) with h0 | h0
    · exact ⟨retSE (by rw [if_pos h0, if_pos (by rw [h0]; rfl)]; congr 1) (by rw [if_pos (by rw [h0]; rfl), h0]), hb⟩
    · exact ⟨retSE (by rw [if_neg (by rw [h0]; decide), if_neg (by rw [h0]; decide)]) (by rw [if_neg (by rw [h0]; decide), h0]), hb⟩
  · have e1 : I.fits op a b n = false := by rw [hfit]; exact decide_eq_false H
    unfold I.encV I.encE
    rw [if_neg (by rw [e1]; decide), if_neg (by rw [e1]; decide)]
    exact rbad_4 op a b n hf (by first | omega | (simp only [bne_iff_ne, ne_eq]; omega) | (simp only [bne_iff_ne, ne_eq, bne_eq_false_iff_eq]; omega)) w

theorem renc_5 (op a b n : Int) (hn : (Lit.int .i64 n).wf = true) (o1 : 1 ≤ op) (o2 : op ≤ 33) (hf : I.form op = 5) (w : World) :
    Calls Tryz.prog 59 #[insV op a b n] w fun e w' => e = .returned (.tuple #[.string (strOfNums (I.encV op a b n)), .int .i64 (I.encE op a b n)]) ∧ Below w.heap.size w w' := by
  have hr : I.regs op = 0 := by unfold I.regs; rw [hf]; rfl
  have hm : I.num op = 4 := by unfold I.num; rw [hf]; rfl
  have ht : I.nat op = false := I.nat_no hf (by decide)
  have hfit : I.fits op a b n = decide (0 ≤ a ∧ a ≤ 7 ∧ 0 ≤ b ∧ b ≤ 7 ∧ a = 0 ∧ b = 0) := by
    unfold I.fits
    rw [decide_eq_true (show 1 ≤ op ∧ op ≤ 33 from ⟨o1, o2⟩), hr, hm, Bool.true_and, Bool.eq_iff_iff, decide_eq_true_iff]
    unfold I.bears I.bad I.isr
    simp
    omega
  by_cases H : 0 ≤ a ∧ a ≤ 7 ∧ 0 ≤ b ∧ b ≤ 7 ∧ a = 0 ∧ b = 0
  · obtain ⟨c1, c2, c3, c4, c5, c6⟩ := H
    have e1 : I.fits op a b n = true := by rw [hfit]; exact decide_eq_true ⟨c1, c2, c3, c4, c5, c6⟩
    unfold I.encV I.encE
    rw [if_pos e1, if_pos e1, hr, hm, ht]
    have e2 : I.numOk 4 false n = (W.bytesE n 4 == 0) := by unfold I.numOk; rw [if_neg (by decide)]; simp
    rw [e2]
    refine (rok_5 op a b n hn o1 o2 hf (by omega) (by omega) (by omega) (by omega) (by simpa using c5) (by simpa using c6) w).mono ?_
    rintro e w' ⟨rfl, hb⟩
    rcases W.bytesE_sz (n := n) (m := 4) (by decide) with h0 | h0
    · exact ⟨retSE (by rw [if_pos h0, if_pos (by rw [h0]; rfl)]; congr 1) (by rw [if_pos (by rw [h0]; rfl), h0]), hb⟩
    · exact ⟨retSE (by rw [if_neg (by rw [h0]; decide), if_neg (by rw [h0]; decide)]) (by rw [if_neg (by rw [h0]; decide), h0]), hb⟩
  · have e1 : I.fits op a b n = false := by rw [hfit]; exact decide_eq_false H
    unfold I.encV I.encE
    rw [if_neg (by rw [e1]; decide), if_neg (by rw [e1]; decide)]
    exact rbad_5 op a b n hf (by first | omega | (simp only [bne_iff_ne, ne_eq]; omega) | (simp only [bne_iff_ne, ne_eq, bne_eq_false_iff_eq]; omega)) w

theorem renc_6 (op a b n : Int) (hn : (Lit.int .i64 n).wf = true) (o1 : 1 ≤ op) (o2 : op ≤ 33) (hf : I.form op = 6) (w : World) :
    Calls Tryz.prog 59 #[insV op a b n] w fun e w' => e = .returned (.tuple #[.string (strOfNums (I.encV op a b n)), .int .i64 (I.encE op a b n)]) ∧ Below w.heap.size w w' := by
  have hr : I.regs op = 0 := by unfold I.regs; rw [hf]; rfl
  have hm : I.num op = 0 := by unfold I.num; rw [hf]; rfl
  have ht : I.nat op = false := I.nat_no hf (by decide)
  have hfit : I.fits op a b n = decide (0 ≤ a ∧ a ≤ 7 ∧ 0 ≤ b ∧ b ≤ 7 ∧ a = 0 ∧ b = 0 ∧ n = 0) := by
    unfold I.fits
    rw [decide_eq_true (show 1 ≤ op ∧ op ≤ 33 from ⟨o1, o2⟩), hr, hm, Bool.true_and, Bool.eq_iff_iff, decide_eq_true_iff]
    unfold I.bears I.bad I.isr
    simp
    omega
  by_cases H : 0 ≤ a ∧ a ≤ 7 ∧ 0 ≤ b ∧ b ≤ 7 ∧ a = 0 ∧ b = 0 ∧ n = 0
  · obtain ⟨c1, c2, c3, c4, c5, c6, c7⟩ := H
    have e1 : I.fits op a b n = true := by rw [hfit]; exact decide_eq_true ⟨c1, c2, c3, c4, c5, c6, c7⟩
    unfold I.encV I.encE
    rw [if_pos e1, if_pos e1, hr, hm, ht]
    have e2 : I.numOk 0 false n = true := rfl
    rw [if_pos e2, if_pos e2]
    refine (rok_6 op a b n o1 o2 hf (by omega) (by omega) (by omega) (by omega) (by simpa using c5) (by simpa using c6) (by simpa using c7) w).mono ?_
    rintro e w' ⟨rfl, hb⟩
    exact ⟨retSE (by first | rfl | (congr 1; done) | (congr 1; simp [I.regB, I.numW])) rfl, hb⟩
  · have e1 : I.fits op a b n = false := by rw [hfit]; exact decide_eq_false H
    unfold I.encV I.encE
    rw [if_neg (by rw [e1]; decide), if_neg (by rw [e1]; decide)]
    exact rbad_6 op a b n hf (by first | omega | (simp only [bne_iff_ne, ne_eq]; omega) | (simp only [bne_iff_ne, ne_eq, bne_eq_false_iff_eq]; omega)) w

theorem renc_7 (op a b n : Int) (hn : (Lit.int .i64 n).wf = true) (o1 : 1 ≤ op) (o2 : op ≤ 33) (hf : I.form op = 7) (w : World) :
    Calls Tryz.prog 59 #[insV op a b n] w fun e w' => e = .returned (.tuple #[.string (strOfNums (I.encV op a b n)), .int .i64 (I.encE op a b n)]) ∧ Below w.heap.size w w' := by
  have hr : I.regs op = 0 := by unfold I.regs; rw [hf]; rfl
  have hm : I.num op = 1 := by unfold I.num; rw [hf]; rfl
  have ht : I.nat op = false := I.nat_no hf (by decide)
  have hfit : I.fits op a b n = decide (0 ≤ a ∧ a ≤ 7 ∧ 0 ≤ b ∧ b ≤ 7 ∧ a = 0 ∧ b = 0) := by
    unfold I.fits
    rw [decide_eq_true (show 1 ≤ op ∧ op ≤ 33 from ⟨o1, o2⟩), hr, hm, Bool.true_and, Bool.eq_iff_iff, decide_eq_true_iff]
    unfold I.bears I.bad I.isr
    simp
    omega
  by_cases H : 0 ≤ a ∧ a ≤ 7 ∧ 0 ≤ b ∧ b ≤ 7 ∧ a = 0 ∧ b = 0
  · obtain ⟨c1, c2, c3, c4, c5, c6⟩ := H
    have e1 : I.fits op a b n = true := by rw [hfit]; exact decide_eq_true ⟨c1, c2, c3, c4, c5, c6⟩
    unfold I.encV I.encE
    rw [if_pos e1, if_pos e1, hr, hm, ht]
    have e2 : I.numOk 1 false n = (W.bytesE n 1 == 0) := by unfold I.numOk; rw [if_neg (by decide)]; simp
    rw [e2]
    refine (rok_7 op a b n hn o1 o2 hf (by omega) (by omega) (by omega) (by omega) (by simpa using c5) (by simpa using c6) w).mono ?_
    rintro e w' ⟨rfl, hb⟩
    rcases W.bytesE_sz (n := n) (m := 1) (by decide) with h0 | h0
    · exact ⟨retSE (by rw [if_pos h0, if_pos (by rw [h0]; rfl)]; congr 1) (by rw [if_pos (by rw [h0]; rfl), h0]), hb⟩
    · exact ⟨retSE (by rw [if_neg (by rw [h0]; decide), if_neg (by rw [h0]; decide)]) (by rw [if_neg (by rw [h0]; decide), h0]), hb⟩
  · have e1 : I.fits op a b n = false := by rw [hfit]; exact decide_eq_false H
    unfold I.encV I.encE
    rw [if_neg (by rw [e1]; decide), if_neg (by rw [e1]; decide)]
    exact rbad_7 op a b n hf (by first | omega | (simp only [bne_iff_ne, ne_eq]; omega) | (simp only [bne_iff_ne, ne_eq, bne_eq_false_iff_eq]; omega)) w

theorem renc_8 (op a b n : Int) (hn : (Lit.int .i64 n).wf = true) (o1 : 1 ≤ op) (o2 : op ≤ 33) (hf : I.form op = 8) (w : World) :
    Calls Tryz.prog 59 #[insV op a b n] w fun e w' => e = .returned (.tuple #[.string (strOfNums (I.encV op a b n)), .int .i64 (I.encE op a b n)]) ∧ Below w.heap.size w w' := by
  have hr : I.regs op = 1 := by unfold I.regs; rw [hf]; rfl
  have hm : I.num op = 1 := by unfold I.num; rw [hf]; rfl
  have ht : I.nat op = false := I.nat_no hf (by decide)
  have hfit : I.fits op a b n = decide (0 ≤ a ∧ a ≤ 7 ∧ 0 ≤ b ∧ b ≤ 7 ∧ b = 0) := by
    unfold I.fits
    rw [decide_eq_true (show 1 ≤ op ∧ op ≤ 33 from ⟨o1, o2⟩), hr, hm, Bool.true_and, Bool.eq_iff_iff, decide_eq_true_iff]
    unfold I.bears I.bad I.isr
    simp
    omega
  by_cases H : 0 ≤ a ∧ a ≤ 7 ∧ 0 ≤ b ∧ b ≤ 7 ∧ b = 0
  · obtain ⟨c1, c2, c3, c4, c6⟩ := H
    have e1 : I.fits op a b n = true := by rw [hfit]; exact decide_eq_true ⟨c1, c2, c3, c4, c6⟩
    unfold I.encV I.encE
    rw [if_pos e1, if_pos e1, hr, hm, ht]
    have e2 : I.numOk 1 false n = (W.bytesE n 1 == 0) := by unfold I.numOk; rw [if_neg (by decide)]; simp
    rw [e2]
    refine (rok_8 op a b n hn o1 o2 hf (by omega) (by omega) (by omega) (by omega) (by simpa using c6) w).mono ?_
    rintro e w' ⟨rfl, hb⟩
    rcases W.bytesE_sz (n := n) (m := 1) (by decide) with h0 | h0
    · exact ⟨retSE (by rw [if_pos h0, if_pos (by rw [h0]; rfl)]; congr 1) (by rw [if_pos (by rw [h0]; rfl), h0]), hb⟩
    · exact ⟨retSE (by rw [if_neg (by rw [h0]; decide), if_neg (by rw [h0]; decide)]) (by rw [if_neg (by rw [h0]; decide), h0]), hb⟩
  · have e1 : I.fits op a b n = false := by rw [hfit]; exact decide_eq_false H
    unfold I.encV I.encE
    rw [if_neg (by rw [e1]; decide), if_neg (by rw [e1]; decide)]
    exact rbad_8 op a b n hf (by first | omega | (simp only [bne_iff_ne, ne_eq]; omega) | (simp only [bne_iff_ne, ne_eq, bne_eq_false_iff_eq]; omega)) w

theorem renc_9 (op a b n : Int) (hn : (Lit.int .i64 n).wf = true) (o1 : 1 ≤ op) (o2 : op ≤ 33) (hf : I.form op = 9) (w : World) :
    Calls Tryz.prog 59 #[insV op a b n] w fun e w' => e = .returned (.tuple #[.string (strOfNums (I.encV op a b n)), .int .i64 (I.encE op a b n)]) ∧ Below w.heap.size w w' := by
  have hr : I.regs op = 1 := by unfold I.regs; rw [hf]; rfl
  have hm : I.num op = 0 := by unfold I.num; rw [hf]; rfl
  have ht : I.nat op = false := I.nat_no hf (by decide)
  have hfit : I.fits op a b n = decide (0 ≤ a ∧ a ≤ 7 ∧ 0 ≤ b ∧ b ≤ 7 ∧ b = 0 ∧ n = 0) := by
    unfold I.fits
    rw [decide_eq_true (show 1 ≤ op ∧ op ≤ 33 from ⟨o1, o2⟩), hr, hm, Bool.true_and, Bool.eq_iff_iff, decide_eq_true_iff]
    unfold I.bears I.bad I.isr
    simp
    omega
  by_cases H : 0 ≤ a ∧ a ≤ 7 ∧ 0 ≤ b ∧ b ≤ 7 ∧ b = 0 ∧ n = 0
  · obtain ⟨c1, c2, c3, c4, c6, c7⟩ := H
    have e1 : I.fits op a b n = true := by rw [hfit]; exact decide_eq_true ⟨c1, c2, c3, c4, c6, c7⟩
    unfold I.encV I.encE
    rw [if_pos e1, if_pos e1, hr, hm, ht]
    have e2 : I.numOk 0 false n = true := rfl
    rw [if_pos e2, if_pos e2]
    refine (rok_9 op a b n o1 o2 hf (by omega) (by omega) (by omega) (by omega) (by simpa using c6) (by simpa using c7) w).mono ?_
    rintro e w' ⟨rfl, hb⟩
    exact ⟨retSE (by first | rfl | (congr 1; done) | (congr 1; simp [I.regB, I.numW])) rfl, hb⟩
  · have e1 : I.fits op a b n = false := by rw [hfit]; exact decide_eq_false H
    unfold I.encV I.encE
    rw [if_neg (by rw [e1]; decide), if_neg (by rw [e1]; decide)]
    exact rbad_9 op a b n hf (by first | omega | (simp only [bne_iff_ne, ne_eq]; omega) | (simp only [bne_iff_ne, ne_eq, bne_eq_false_iff_eq]; omega)) w

theorem renc_10 (op a b n : Int) (hn : (Lit.int .i64 n).wf = true) (o1 : 1 ≤ op) (o2 : op ≤ 33) (hf : I.form op = 10) (w : World) :
    Calls Tryz.prog 59 #[insV op a b n] w fun e w' => e = .returned (.tuple #[.string (strOfNums (I.encV op a b n)), .int .i64 (I.encE op a b n)]) ∧ Below w.heap.size w w' := by
  have hr : I.regs op = 0 := by unfold I.regs; rw [hf]; rfl
  have hm : I.num op = 1 := by unfold I.num; rw [hf]; rfl
  have ht : I.nat op = true := I.nat_yes hf
  have hfit : I.fits op a b n = decide (0 ≤ a ∧ a ≤ 7 ∧ 0 ≤ b ∧ b ≤ 7 ∧ a = 0 ∧ b = 0) := by
    unfold I.fits
    rw [decide_eq_true (show 1 ≤ op ∧ op ≤ 33 from ⟨o1, o2⟩), hr, hm, Bool.true_and, Bool.eq_iff_iff, decide_eq_true_iff]
    unfold I.bears I.bad I.isr
    simp
    omega
  by_cases H : 0 ≤ a ∧ a ≤ 7 ∧ 0 ≤ b ∧ b ≤ 7 ∧ a = 0 ∧ b = 0
  · obtain ⟨c1, c2, c3, c4, c5, c6⟩ := H
    have e1 : I.fits op a b n = true := by rw [hfit]; exact decide_eq_true ⟨c1, c2, c3, c4, c5, c6⟩
    unfold I.encV I.encE
    rw [if_pos e1, if_pos e1, hr, hm, ht]
    by_cases hr0 : 0 ≤ n ∧ n ≤ 127
    · have h0 : W.bytesE n 1 = 0 := by
        unfold W.bytesE
        rw [if_pos (by decide), if_pos]
        unfold W.sx
        rw [if_pos rfl]
        omega
      have e2 : I.numOk 1 true n = true := by unfold I.numOk; rw [if_neg (by decide), h0, decide_eq_true hr0.1]; rfl
      rw [if_pos e2, if_pos e2]
      refine (rok_10 op a b n hn o1 o2 hf (by omega) (by omega) (by omega) (by omega) (by simpa using c5) (by simpa using c6) hr0.1 hr0.2 w).mono ?_
      rintro e w' ⟨rfl, hb⟩
      exact ⟨retSE (by rw [if_pos h0]; congr 1) (by rw [h0]), hb⟩
    · have e2 : I.numOk 1 true n = false := by
        unfold I.numOk
        rw [if_neg (by decide)]
        by_cases h : 0 ≤ n
        · have h0 : W.bytesE n 1 = 7 := by
            unfold W.bytesE
            rw [if_pos (by decide), if_neg]
            unfold W.sx
            rw [if_pos rfl]
            omega
          rw [h0]; rfl
        · rw [decide_eq_false h]; simp
      rw [if_neg (by rw [e2]; decide), if_neg (by rw [e2]; decide)]
      exact rtrap op a b n hf (by omega) (by omega) (by omega) (by omega) (by simpa using c5) (by simpa using c6) (by omega) w
  · have e1 : I.fits op a b n = false := by rw [hfit]; exact decide_eq_false H
    unfold I.encV I.encE
    rw [if_neg (by rw [e1]; decide), if_neg (by rw [e1]; decide)]
    exact rbad_10 op a b n hf (by first | omega | (simp only [bne_iff_ne, ne_eq]; omega) | (simp only [bne_iff_ne, ne_eq, bne_eq_false_iff_eq]; omega)) w

theorem rencode_any (op a b n : Int) (hn : (Lit.int .i64 n).wf = true) (w : World) :
    Calls Tryz.prog 59 #[insV op a b n] w fun e w' => e = .returned (.tuple #[.string (strOfNums (I.encV op a b n)), .int .i64 (I.encE op a b n)]) ∧ Below w.heap.size w w' := by
  by_cases h : 1 ≤ op ∧ op ≤ 33
  · have h0 := I.form_some h.1 h.2
    have h1 := I.form_range op
    rcases (show I.form op = 1 ∨ I.form op = 2 ∨ I.form op = 3 ∨ I.form op = 4 ∨ I.form op = 5 ∨ I.form op = 6 ∨ I.form op = 7 ∨ I.form op = 8 ∨ I.form op = 9 ∨ I.form op = 10 by omega) with e | e | e | e | e | e | e | e | e | e
    · exact renc_1 op a b n hn h.1 h.2 e w
    · exact renc_2 op a b n hn h.1 h.2 e w
    · exact renc_3 op a b n hn h.1 h.2 e w
    · exact renc_4 op a b n hn h.1 h.2 e w
    · exact renc_5 op a b n hn h.1 h.2 e w
    · exact renc_6 op a b n hn h.1 h.2 e w
    · exact renc_7 op a b n hn h.1 h.2 e w
    · exact renc_8 op a b n hn h.1 h.2 e w
    · exact renc_9 op a b n hn h.1 h.2 e w
    · exact renc_10 op a b n hn h.1 h.2 e w
  · have e1 : I.fits op a b n = false := by unfold I.fits; rw [decide_eq_false h]; rfl
    unfold I.encV I.encE
    rw [if_neg (by rw [e1]; decide), if_neg (by rw [e1]; decide)]
    exact rbad_0 op a b n (I.form_none (by omega)) w

end Go.Proofs.YtgjingleolhkbaaGreatDoor.J

/- The registers' byte, read. -/
namespace Go.Proofs.YtgjingleolhkbaaGreatDoor.J
set_option maxRecDepth 100000
open Go.RowKit
set_option linter.unusedVariables false

theorem retIIB {k l : IntKind} {a b c d : Int} {x y : Bool} (h : a = c) (h' : b = d) (h2 : x = y) : Ending.returned (.tuple #[.int k a, .int l b, .bool x]) = .returned (.tuple #[.int k c, .int l d, .bool y]) := by rw [h, h', h2]

theorem bl_drewNI {B : Nat} {x y : World} (h : Below B x y) (m : Nat) : Below B x (y.drewN m) := ⟨h.os, h.tape, h.output, h.size, h.block⟩

end Go.Proofs.YtgjingleolhkbaaGreatDoor.J

/- The instruction with whose form bytes begin: no walk. -/
namespace Go.Proofs.YtgjingleolhkbaaGreatDoor.J.I
set_option maxRecDepth 100000
open Go.RowKit

/-- The first byte, as a number. -/
def hd (s : ByteArray) : Int := (W.tail s 0).headD 0
theorem hd_eq (s : ByteArray) (h : 0 < s.size) : hd s = (s[0].toNat : Int) := by
  unfold hd; rw [W.tail_cons s 0 h]; rfl
/-- What the registers' byte says, and the number's bytes. -/
def rA (r : Int) (s : ByteArray) : Int := if r = 0 then 0 else if r = 1 then hd s else hd s / 16
def rB (r : Int) (s : ByteArray) : Int := if r = 2 then hd s % 16 else 0
def rdN (m : Int) (s : ByteArray) : Int := if m = 0 then 0 else W.numV s
def rdOk (m : Int) (t : Bool) (s : ByteArray) : Bool := if m = 0 then true else W.numE s == 0 && (decide (0 ≤ W.numV s) || !t)

end Go.Proofs.YtgjingleolhkbaaGreatDoor.J.I

/- ins.read. -/
namespace Go.Proofs.YtgjingleolhkbaaGreatDoor.J
set_option maxRecDepth 100000
open Go.RowKit
set_option linter.unusedVariables false
attribute [local go_sem ↓] Go.wp_at_zero Go.wp_at_succ

theorem bl5d (w : World) (a b c d e : Obj) : Below w.heap.size w (((((w.alloc a).alloc b).alloc c).alloc d).alloc e).drew.drew :=
  (((bl3 w a b c).alloc (by simp; omega) d).alloc (by simp; omega) e).drew.drew
theorem sz5d (w : World) (a b c d e : Obj) : w.heap.size ≤ ((((((w.alloc a).alloc b).alloc c).alloc d).alloc e).drew.drew).heap.size := by
  show w.heap.size ≤ (((((w.alloc a).alloc b).alloc c).alloc d).alloc e).heap.size
  simp; omega
theorem fz5d (w : World) (a b c d e : Array Value) (t u v x y : TypeId) (o : Nat) : ((((((w.alloc (.cells a t)).alloc (.cells b u)).alloc (.cells c v)).alloc (.cells d x)).alloc (.cells e y)).drew.drew).frozen? ⟨w.heap.size, o, none⟩ = false := by
  show (((((w.alloc (.cells a t)).alloc (.cells b u)).alloc (.cells c v)).alloc (.cells d x)).alloc (.cells e y)).frozen? ⟨w.heap.size, o, none⟩ = false
  rw [frozen?_alloc_cells, frozen?_alloc_cells, frozen?_alloc_cells, frozen?_alloc_cells]
  exact World.frozen?_alloc_at a t _ _ rfl

/-- Such bounds cut a string. -/
def SlOk (s : ByteArray) (i j : Int) : Prop := 0 ≤ i ∧ i ≤ j ∧ j ≤ (s.size : Int)
theorem run_slice_ok (s : ByteArray) (i j : Int) (w' : World) (h : SlOk s i j) : (Instr.slice 9 (.string s) (some (.int .i64 i)) (some (.int .i64 j)) none).run Tryz.prog w' = .ok (.string (s.extract i.toNat j.toNat)) w' := by
  rw [run_slice_string_if w' 9 s .i64 .i64 i j Tryz.underlying9, if_pos ⟨by have := h.1; have := h.2.1; omega, h.2.2⟩, if_pos ⟨h.1, h.2.1⟩]
attribute [local go_sem high] run_slice_ok

/-- What read answers. -/
abbrev rdNo : Value := .tuple #[insW 0 0 0 0, .int .i64 0, .bool false]
def rdRes (op z a b n : Int) (y : Bool) : Value := if (I.isr a && I.isr b) = true then (if y = true then .tuple #[insW op a b n, .int .i64 z, .bool true] else rdNo) else rdNo


theorem ne_empty {s : ByteArray} (hs : 0 < s.size) : s.toList.isEmpty = false := by
  rw [ByteArray.toList_eq]
  cases hl : s.data.toList with
  | nil => have := congrArg List.length hl; simp at this; simp [this] at hs
  | cons _ _ => rfl

/-- The instruction with whose form bytes begin. -/
def I.kAt (op : Int) : Nat := (I.psize op - I.num op).toNat
def I.dA (s : ByteArray) : Int := I.rA (I.regs (I.hd s)) (s.extract 1 (I.kAt (I.hd s)))
def I.dB (s : ByteArray) : Int := I.rB (I.regs (I.hd s)) (s.extract 1 (I.kAt (I.hd s)))
def I.dS (s : ByteArray) : ByteArray := s.extract (I.kAt (I.hd s)) (I.psize (I.hd s)).toNat
def I.dN (s : ByteArray) : Int := I.rdN (I.num (I.hd s)) (I.dS s)
def I.dOk (s : ByteArray) : Bool := decide (0 < s.size ∧ 1 ≤ I.hd s ∧ I.hd s ≤ 33 ∧ I.psize (I.hd s) ≤ (s.size : Int)) && ((I.isr (I.dA s) && I.isr (I.dB s)) && I.rdOk (I.num (I.hd s)) (I.nat (I.hd s)) (I.dS s))
def rdV (s : ByteArray) : Value := if I.dOk s = true then .tuple #[insW (I.hd s) (I.dA s) (I.dB s) (I.dN s), .int .i64 (I.psize (I.hd s)), .bool true] else rdNo

end Go.Proofs.YtgjingleolhkbaaGreatDoor.J

/- ins.Decode. -/
namespace Go.Proofs.YtgjingleolhkbaaGreatDoor.J
set_option maxRecDepth 100000
open Go.RowKit
set_option linter.unusedVariables false
attribute [local go_sem ↓] Go.wp_at_zero Go.wp_at_succ

abbrev decV (i : Value) (n e : Int) : Value := .tuple #[i, .int .i64 n, .int .i64 e]
/-- What Decode answers. -/
def I.cut (s : ByteArray) (at' : Int) : ByteArray := s.extract at'.toNat s.size
def I.decR (s : ByteArray) (at' : Int) : Value :=
  if at' < 0 ∨ (s.size : Int) < at' then decV (insW 0 0 0 0) 0 1
  else if I.dOk (I.cut s at') = true then decV (insW (I.hd (I.cut s at')) (I.dA (I.cut s at')) (I.dB (I.cut s at')) (I.dN (I.cut s at'))) (at' + I.psize (I.hd (I.cut s at'))) 0
  else decV (insW 0 0 0 0) 0 9

end Go.Proofs.YtgjingleolhkbaaGreatDoor.J

/- A number out of bytes fits. -/
namespace Go.Proofs.YtgjingleolhkbaaGreatDoor.J.W
set_option maxRecDepth 100000
open Go.RowKit

theorem numV_wf (s : ByteArray) : (Lit.int .i64 (numV s)).wf = true := by
  have h : -9223372036854775808 ≤ numV s ∧ numV s ≤ 9223372036854775807 := by
    unfold numV
    split
    · unfold sx
      split
      · omega
      · split
        · unfold wrap32; omega
        · unfold wrap64; omega
    · omega
  simp [Lit.wf, IntKind.min, IntKind.max, IntKind.signed, IntKind.bits]
  omega

end Go.Proofs.YtgjingleolhkbaaGreatDoor.J.W

/- The document's Decode, where the bytes reach, form by form. (Written by gen_rdec.py.) -/
namespace Go.Proofs.YtgjingleolhkbaaGreatDoor.J
set_option maxRecDepth 100000
open Go.RowKit
set_option linter.unusedVariables false
attribute [local go_sem ↓] Go.wp_at_zero Go.wp_at_succ

set_option maxRecDepth 100000 in
set_option maxHeartbeats 16000000 in
theorem rdec_1 (s : ByteArray) (k : Nat) (hk : k + 10 ≤ s.size) (hm : s.size ≤ 9223372036854775000) (op : Int) (ho : (s[k].toNat : Int) = op) (hf : I.form op = 1) (w : World) :
    Calls Tryz.prog 43 #[.string s, .int .i64 k] w fun e w' => e = .returned (if I.encE op (s[k + 1].toNat : Int) 0 (W.numV (s.extract (k + 2) (k + 10))) = 0 then decV (insW op (s[k + 1].toNat : Int) 0 (W.numV (s.extract (k + 2) (k + 10)))) ((k : Int) + 10) 0 else decV (insW 0 0 0 0) 0 9) ∧ Below w.heap.size w w' := by
  have pA : I.hasA 1 = true := by decide
  have pB : I.hasB 1 = false := by decide
  have pN : I.numB 1 = 8 := by decide
  have HF : Hid (I.form op = 1) := hf
  have hsz : I.size op = 10 := by unfold I.size; rw [hf]; rfl
  have HZ : Hid (I.size op = 10) := hsz
  have ho2 : (s[k].toNat : Int) ≤ 255 := by have := s[k].toNat_lt; omega
  have hy : (s[k + 1].toNat : Int) ≤ 255 := by have := s[k + 1].toNat_lt; omega
  have hy0 : (0 : Int) ≤ (s[k + 1].toNat : Int) := by omega
  have hk1 : k + 1 < s.size := by omega
  have hi1 : ((k : Int) + 1) < (s.size : Int) := by omega
  obtain ⟨nn, hnn⟩ : ∃ nn, W.numV (s.extract (k + 2) (k + 10)) = nn := ⟨_, rfl⟩
  have HNN : Hid (W.numV (s.extract (k + 2) (k + 10)) = nn) := hnn
  have wnn : (Lit.int .i64 nn).wf = true := by rw [← hnn]; exact W.numV_wf _
  rw [hnn]
  clear hnn
  have h0 : (0 : Int) ≤ (k : Int) := by omega
  have h1 : (k : Int) ≤ (s.size : Int) := by omega
  have h2 : ¬ (k : Int) = (s.size : Int) := by omega
  have h3 : ¬ (s.size : Int) < (k : Int) + 10 := by omega
  have hkk : k < s.size := by omega
  clear hf hsz
  obtain ⟨ee, hee⟩ : ∃ ee, I.encE op (s[k + 1].toNat : Int) 0 nn = ee := ⟨_, rfl⟩
  have HEE : Hid (I.encE op (s[k + 1].toNat : Int) 0 nn = ee) := hee
  rw [hee]
  clear hee
  obtain ⟨R, hR⟩ : ∃ R, (if ee = 0 then decV (insW op (s[k + 1].toNat : Int) 0 nn) ((k : Int) + 10) 0 else decV (insW 0 0 0 0) 0 9) = R := ⟨_, rfl⟩
  have HR : Hid ((if ee = 0 then decV (insW op (s[k + 1].toNat : Int) 0 nn) ((k : Int) + 10) 0 else decV (insW 0 0 0 0) 0 9) = R) := hR
  rw [hR]
  clear hR
  go_enter Tryz.func43, Tryz.ntmps43
  go_wp2_with (first | (go_at_call 64; refine (rsize_any _ _).mono ?_; rintro e w' ⟨rfl, rfl⟩; rw [HZ.out]) | (go_at_call 66; refine (form_any _ _).mono ?_; rintro e w' ⟨rfl, rfl⟩; rw [HF.out]) | (go_at_call 65; refine (parts_any _ ?_ ?_ _).mono ?_; omega; omega; rintro e w' ⟨rfl, rfl⟩; rw [pA, pB, pN]) | (go_at_call 67; refine (rnumber_any _ _).mono ?_; rintro e w' ⟨rfl, rfl⟩))
  rw [HNN.out]
  refine (rencode_any op (s[k + 1].toNat : Int) 0 nn wnn _).mono ?_
  rintro e w1 ⟨rfl, hb1⟩
  rw [HEE.out]
  obtain ⟨hc1, hf1⟩ := bcell hb1
  have hz1 := hb1.size
  simp at hz1
  have kr : ∀ o, w1.cell? ⟨w.heap.size, o, none⟩ = (#[.int .i64 0, .int .i64 0, .int .i64 0, .int .i64 0] : Array Value)[o]? := fun o => by
    rw [hc1 _ _ (by simp; omega)]; simp (disch := (first | ((try simp only [World.size_alloc]) <;> omega) | fail)) only [World.cell?_alloc_at, World.cell?_alloc_past]
  have ki : ∀ o, w1.cell? ⟨w.heap.size + 1, o, none⟩ = (#[.int .i64 op, .int .i64 (s[k + 1].toNat : Int), .int .i64 0, .int .i64 nn] : Array Value)[o]? := fun o => by
    rw [hc1 _ _ (by simp)]; simp (disch := (first | ((try simp only [World.size_alloc]) <;> omega) | fail)) only [World.cell?_alloc_at]
  have kz : ∀ o, w1.frozen? ⟨w.heap.size, o, none⟩ = false := fun o => by
    rw [hf1 _ _ (by simp; omega), frozen?_alloc_cells]
    exact World.frozen?_alloc_at _ _ _ _ rfl
  have zi : w.heap.size < w1.heap.size := by omega
  have zj : w.heap.size + 1 < w1.heap.size := by omega
  have q1 : Below w.heap.size w w1 := (bl2 _ _ _).trans (hb1.mono (by simp; omega))
  clear hc1 hf1 hb1
  by_cases h : ee = 0
  · subst h
    go_wp2
    refine bodyPost_ret (v := decV (insW op (s[k + 1].toNat : Int) 0 nn) ((k : Int) + 10) 0) (by simp [results, Tryz.results43, go_sem, kr]) rfl ⟨by rw [← HR.out]; simp, ?_⟩
    repeat (refine Below.setCell ?_ (by simp) _)
    exact q1
  · go_wp2
    refine bodyPost_ret (v := decV (insW 0 0 0 0) 0 9) (by simp [results, Tryz.results43, go_sem, kr]) rfl ⟨by rw [← HR.out, if_neg h], ?_⟩
    repeat (refine Below.setCell ?_ (by simp) _)
    exact q1

set_option maxRecDepth 100000 in
set_option maxHeartbeats 16000000 in
theorem rdec_2 (s : ByteArray) (k : Nat) (hk : k + 2 ≤ s.size) (hm : s.size ≤ 9223372036854775000) (op : Int) (ho : (s[k].toNat : Int) = op) (hf : I.form op = 2) (w : World) :
    Calls Tryz.prog 43 #[.string s, .int .i64 k] w fun e w' => e = .returned (if I.encE op ((s[k + 1].toNat : Int) / 16) ((s[k + 1].toNat : Int) % 16) 0 = 0 then decV (insW op ((s[k + 1].toNat : Int) / 16) ((s[k + 1].toNat : Int) % 16) 0) ((k : Int) + 2) 0 else decV (insW 0 0 0 0) 0 9) ∧ Below w.heap.size w w' := by
  have pA : I.hasA 2 = true := by decide
  have pB : I.hasB 2 = true := by decide
  have pN : I.numB 2 = 0 := by decide
  have HF : Hid (I.form op = 2) := hf
  have hsz : I.size op = 2 := by unfold I.size; rw [hf]; rfl
  have HZ : Hid (I.size op = 2) := hsz
  have ho2 : (s[k].toNat : Int) ≤ 255 := by have := s[k].toNat_lt; omega
  have hy : (s[k + 1].toNat : Int) ≤ 255 := by have := s[k + 1].toNat_lt; omega
  have hy0 : (0 : Int) ≤ (s[k + 1].toNat : Int) := by omega
  have hk1 : k + 1 < s.size := by omega
  have hi1 : ((k : Int) + 1) < (s.size : Int) := by omega
  have wnn : (Lit.int .i64 0).wf = true := by decide
  have h0 : (0 : Int) ≤ (k : Int) := by omega
  have h1 : (k : Int) ≤ (s.size : Int) := by omega
  have h2 : ¬ (k : Int) = (s.size : Int) := by omega
  have h3 : ¬ (s.size : Int) < (k : Int) + 2 := by omega
  have hkk : k < s.size := by omega
  clear hf hsz
  obtain ⟨ee, hee⟩ : ∃ ee, I.encE op ((s[k + 1].toNat : Int) / 16) ((s[k + 1].toNat : Int) % 16) 0 = ee := ⟨_, rfl⟩
  have HEE : Hid (I.encE op ((s[k + 1].toNat : Int) / 16) ((s[k + 1].toNat : Int) % 16) 0 = ee) := hee
  rw [hee]
  clear hee
  obtain ⟨R, hR⟩ : ∃ R, (if ee = 0 then decV (insW op ((s[k + 1].toNat : Int) / 16) ((s[k + 1].toNat : Int) % 16) 0) ((k : Int) + 2) 0 else decV (insW 0 0 0 0) 0 9) = R := ⟨_, rfl⟩
  have HR : Hid ((if ee = 0 then decV (insW op ((s[k + 1].toNat : Int) / 16) ((s[k + 1].toNat : Int) % 16) 0) ((k : Int) + 2) 0 else decV (insW 0 0 0 0) 0 9) = R) := hR
  rw [hR]
  clear hR
  go_enter Tryz.func43, Tryz.ntmps43
  go_wp2_with (first | (go_at_call 64; refine (rsize_any _ _).mono ?_; rintro e w' ⟨rfl, rfl⟩; rw [HZ.out]) | (go_at_call 66; refine (form_any _ _).mono ?_; rintro e w' ⟨rfl, rfl⟩; rw [HF.out]) | (go_at_call 65; refine (parts_any _ ?_ ?_ _).mono ?_; omega; omega; rintro e w' ⟨rfl, rfl⟩; rw [pA, pB, pN]) | (go_at_call 67; refine (rnumber_any _ _).mono ?_; rintro e w' ⟨rfl, rfl⟩))
  refine (rencode_any op ((s[k + 1].toNat : Int) / 16) ((s[k + 1].toNat : Int) % 16) 0 wnn _).mono ?_
  rintro e w1 ⟨rfl, hb1⟩
  rw [HEE.out]
  obtain ⟨hc1, hf1⟩ := bcell hb1
  have hz1 := hb1.size
  simp at hz1
  have kr : ∀ o, w1.cell? ⟨w.heap.size, o, none⟩ = (#[.int .i64 0, .int .i64 0, .int .i64 0, .int .i64 0] : Array Value)[o]? := fun o => by
    rw [hc1 _ _ (by simp; omega)]; simp (disch := (first | ((try simp only [World.size_alloc]) <;> omega) | fail)) only [World.cell?_alloc_at, World.cell?_alloc_past]
  have ki : ∀ o, w1.cell? ⟨w.heap.size + 1, o, none⟩ = (#[.int .i64 op, .int .i64 ((s[k + 1].toNat : Int) / 16), .int .i64 ((s[k + 1].toNat : Int) % 16), .int .i64 0] : Array Value)[o]? := fun o => by
    rw [hc1 _ _ (by simp)]; simp (disch := (first | ((try simp only [World.size_alloc]) <;> omega) | fail)) only [World.cell?_alloc_at]
  have kz : ∀ o, w1.frozen? ⟨w.heap.size, o, none⟩ = false := fun o => by
    rw [hf1 _ _ (by simp; omega), frozen?_alloc_cells]
    exact World.frozen?_alloc_at _ _ _ _ rfl
  have zi : w.heap.size < w1.heap.size := by omega
  have zj : w.heap.size + 1 < w1.heap.size := by omega
  have q1 : Below w.heap.size w w1 := (bl2 _ _ _).trans (hb1.mono (by simp; omega))
  clear hc1 hf1 hb1
  by_cases h : ee = 0
  · subst h
    go_wp2
    refine bodyPost_ret (v := decV (insW op ((s[k + 1].toNat : Int) / 16) ((s[k + 1].toNat : Int) % 16) 0) ((k : Int) + 2) 0) (by simp [results, Tryz.results43, go_sem, kr]) rfl ⟨by rw [← HR.out]; simp, ?_⟩
    repeat (refine Below.setCell ?_ (by simp) _)
    exact q1
  · go_wp2
    refine bodyPost_ret (v := decV (insW 0 0 0 0) 0 9) (by simp [results, Tryz.results43, go_sem, kr]) rfl ⟨by rw [← HR.out, if_neg h], ?_⟩
    repeat (refine Below.setCell ?_ (by simp) _)
    exact q1

set_option maxRecDepth 100000 in
set_option maxHeartbeats 16000000 in
theorem rdec_3 (s : ByteArray) (k : Nat) (hk : k + 6 ≤ s.size) (hm : s.size ≤ 9223372036854775000) (op : Int) (ho : (s[k].toNat : Int) = op) (hf : I.form op = 3) (w : World) :
    Calls Tryz.prog 43 #[.string s, .int .i64 k] w fun e w' => e = .returned (if I.encE op ((s[k + 1].toNat : Int) / 16) ((s[k + 1].toNat : Int) % 16) (W.numV (s.extract (k + 2) (k + 6))) = 0 then decV (insW op ((s[k + 1].toNat : Int) / 16) ((s[k + 1].toNat : Int) % 16) (W.numV (s.extract (k + 2) (k + 6)))) ((k : Int) + 6) 0 else decV (insW 0 0 0 0) 0 9) ∧ Below w.heap.size w w' := by
  have pA : I.hasA 3 = true := by decide
  have pB : I.hasB 3 = true := by decide
  have pN : I.numB 3 = 4 := by decide
  have HF : Hid (I.form op = 3) := hf
  have hsz : I.size op = 6 := by unfold I.size; rw [hf]; rfl
  have HZ : Hid (I.size op = 6) := hsz
  have ho2 : (s[k].toNat : Int) ≤ 255 := by have := s[k].toNat_lt; omega
  have hy : (s[k + 1].toNat : Int) ≤ 255 := by have := s[k + 1].toNat_lt; omega
  have hy0 : (0 : Int) ≤ (s[k + 1].toNat : Int) := by omega
  have hk1 : k + 1 < s.size := by omega
  have hi1 : ((k : Int) + 1) < (s.size : Int) := by omega
  obtain ⟨nn, hnn⟩ : ∃ nn, W.numV (s.extract (k + 2) (k + 6)) = nn := ⟨_, rfl⟩
  have HNN : Hid (W.numV (s.extract (k + 2) (k + 6)) = nn) := hnn
  have wnn : (Lit.int .i64 nn).wf = true := by rw [← hnn]; exact W.numV_wf _
  rw [hnn]
  clear hnn
  have h0 : (0 : Int) ≤ (k : Int) := by omega
  have h1 : (k : Int) ≤ (s.size : Int) := by omega
  have h2 : ¬ (k : Int) = (s.size : Int) := by omega
  have h3 : ¬ (s.size : Int) < (k : Int) + 6 := by omega
  have hkk : k < s.size := by omega
  clear hf hsz
  obtain ⟨ee, hee⟩ : ∃ ee, I.encE op ((s[k + 1].toNat : Int) / 16) ((s[k + 1].toNat : Int) % 16) nn = ee := ⟨_, rfl⟩
  have HEE : Hid (I.encE op ((s[k + 1].toNat : Int) / 16) ((s[k + 1].toNat : Int) % 16) nn = ee) := hee
  rw [hee]
  clear hee
  obtain ⟨R, hR⟩ : ∃ R, (if ee = 0 then decV (insW op ((s[k + 1].toNat : Int) / 16) ((s[k + 1].toNat : Int) % 16) nn) ((k : Int) + 6) 0 else decV (insW 0 0 0 0) 0 9) = R := ⟨_, rfl⟩
  have HR : Hid ((if ee = 0 then decV (insW op ((s[k + 1].toNat : Int) / 16) ((s[k + 1].toNat : Int) % 16) nn) ((k : Int) + 6) 0 else decV (insW 0 0 0 0) 0 9) = R) := hR
  rw [hR]
  clear hR
  go_enter Tryz.func43, Tryz.ntmps43
  go_wp2_with (first | (go_at_call 64; refine (rsize_any _ _).mono ?_; rintro e w' ⟨rfl, rfl⟩; rw [HZ.out]) | (go_at_call 66; refine (form_any _ _).mono ?_; rintro e w' ⟨rfl, rfl⟩; rw [HF.out]) | (go_at_call 65; refine (parts_any _ ?_ ?_ _).mono ?_; omega; omega; rintro e w' ⟨rfl, rfl⟩; rw [pA, pB, pN]) | (go_at_call 67; refine (rnumber_any _ _).mono ?_; rintro e w' ⟨rfl, rfl⟩))
  rw [HNN.out]
  refine (rencode_any op ((s[k + 1].toNat : Int) / 16) ((s[k + 1].toNat : Int) % 16) nn wnn _).mono ?_
  rintro e w1 ⟨rfl, hb1⟩
  rw [HEE.out]
  obtain ⟨hc1, hf1⟩ := bcell hb1
  have hz1 := hb1.size
  simp at hz1
  have kr : ∀ o, w1.cell? ⟨w.heap.size, o, none⟩ = (#[.int .i64 0, .int .i64 0, .int .i64 0, .int .i64 0] : Array Value)[o]? := fun o => by
    rw [hc1 _ _ (by simp; omega)]; simp (disch := (first | ((try simp only [World.size_alloc]) <;> omega) | fail)) only [World.cell?_alloc_at, World.cell?_alloc_past]
  have ki : ∀ o, w1.cell? ⟨w.heap.size + 1, o, none⟩ = (#[.int .i64 op, .int .i64 ((s[k + 1].toNat : Int) / 16), .int .i64 ((s[k + 1].toNat : Int) % 16), .int .i64 nn] : Array Value)[o]? := fun o => by
    rw [hc1 _ _ (by simp)]; simp (disch := (first | ((try simp only [World.size_alloc]) <;> omega) | fail)) only [World.cell?_alloc_at]
  have kz : ∀ o, w1.frozen? ⟨w.heap.size, o, none⟩ = false := fun o => by
    rw [hf1 _ _ (by simp; omega), frozen?_alloc_cells]
    exact World.frozen?_alloc_at _ _ _ _ rfl
  have zi : w.heap.size < w1.heap.size := by omega
  have zj : w.heap.size + 1 < w1.heap.size := by omega
  have q1 : Below w.heap.size w w1 := (bl2 _ _ _).trans (hb1.mono (by simp; omega))
  clear hc1 hf1 hb1
  by_cases h : ee = 0
  · subst h
    go_wp2
    refine bodyPost_ret (v := decV (insW op ((s[k + 1].toNat : Int) / 16) ((s[k + 1].toNat : Int) % 16) nn) ((k : Int) + 6) 0) (by simp [results, Tryz.results43, go_sem, kr]) rfl ⟨by rw [← HR.out]; simp, ?_⟩
    repeat (refine Below.setCell ?_ (by simp) _)
    exact q1
  · go_wp2
    refine bodyPost_ret (v := decV (insW 0 0 0 0) 0 9) (by simp [results, Tryz.results43, go_sem, kr]) rfl ⟨by rw [← HR.out, if_neg h], ?_⟩
    repeat (refine Below.setCell ?_ (by simp) _)
    exact q1

set_option maxRecDepth 100000 in
set_option maxHeartbeats 16000000 in
theorem rdec_4 (s : ByteArray) (k : Nat) (hk : k + 6 ≤ s.size) (hm : s.size ≤ 9223372036854775000) (op : Int) (ho : (s[k].toNat : Int) = op) (hf : I.form op = 4) (w : World) :
    Calls Tryz.prog 43 #[.string s, .int .i64 k] w fun e w' => e = .returned (if I.encE op (s[k + 1].toNat : Int) 0 (W.numV (s.extract (k + 2) (k + 6))) = 0 then decV (insW op (s[k + 1].toNat : Int) 0 (W.numV (s.extract (k + 2) (k + 6)))) ((k : Int) + 6) 0 else decV (insW 0 0 0 0) 0 9) ∧ Below w.heap.size w w' := by
  have pA : I.hasA 4 = true := by decide
  have pB : I.hasB 4 = false := by decide
  have pN : I.numB 4 = 4 := by decide
  have HF : Hid (I.form op = 4) := hf
  have hsz : I.size op = 6 := by unfold I.size; rw [hf]; rfl
  have HZ : Hid (I.size op = 6) := hsz
  have ho2 : (s[k].toNat : Int) ≤ 255 := by have := s[k].toNat_lt; omega
  have hy : (s[k + 1].toNat : Int) ≤ 255 := by have := s[k + 1].toNat_lt; omega
  have hy0 : (0 : Int) ≤ (s[k + 1].toNat : Int) := by omega
  have hk1 : k + 1 < s.size := by omega
  have hi1 : ((k : Int) + 1) < (s.size : Int) := by omega
  obtain ⟨nn, hnn⟩ : ∃ nn, W.numV (s.extract (k + 2) (k + 6)) = nn := ⟨_, rfl⟩
  have HNN : Hid (W.numV (s.extract (k + 2) (k + 6)) = nn) := hnn
  have wnn : (Lit.int .i64 nn).wf = true := by rw [← hnn]; exact W.numV_wf _
  rw [hnn]
  clear hnn
  have h0 : (0 : Int) ≤ (k : Int) := by omega
  have h1 : (k : Int) ≤ (s.size : Int) := by omega
  have h2 : ¬ (k : Int) = (s.size : Int) := by omega
  have h3 : ¬ (s.size : Int) < (k : Int) + 6 := by omega
  have hkk : k < s.size := by omega
  clear hf hsz
  obtain ⟨ee, hee⟩ : ∃ ee, I.encE op (s[k + 1].toNat : Int) 0 nn = ee := ⟨_, rfl⟩
  have HEE : Hid (I.encE op (s[k + 1].toNat : Int) 0 nn = ee) := hee
  rw [hee]
  clear hee
  obtain ⟨R, hR⟩ : ∃ R, (if ee = 0 then decV (insW op (s[k + 1].toNat : Int) 0 nn) ((k : Int) + 6) 0 else decV (insW 0 0 0 0) 0 9) = R := ⟨_, rfl⟩
  have HR : Hid ((if ee = 0 then decV (insW op (s[k + 1].toNat : Int) 0 nn) ((k : Int) + 6) 0 else decV (insW 0 0 0 0) 0 9) = R) := hR
  rw [hR]
  clear hR
  go_enter Tryz.func43, Tryz.ntmps43
  go_wp2_with (first | (go_at_call 64; refine (rsize_any _ _).mono ?_; rintro e w' ⟨rfl, rfl⟩; rw [HZ.out]) | (go_at_call 66; refine (form_any _ _).mono ?_; rintro e w' ⟨rfl, rfl⟩; rw [HF.out]) | (go_at_call 65; refine (parts_any _ ?_ ?_ _).mono ?_; omega; omega; rintro e w' ⟨rfl, rfl⟩; rw [pA, pB, pN]) | (go_at_call 67; refine (rnumber_any _ _).mono ?_; rintro e w' ⟨rfl, rfl⟩))
  rw [HNN.out]
  refine (rencode_any op (s[k + 1].toNat : Int) 0 nn wnn _).mono ?_
  rintro e w1 ⟨rfl, hb1⟩
  rw [HEE.out]
  obtain ⟨hc1, hf1⟩ := bcell hb1
  have hz1 := hb1.size
  simp at hz1
  have kr : ∀ o, w1.cell? ⟨w.heap.size, o, none⟩ = (#[.int .i64 0, .int .i64 0, .int .i64 0, .int .i64 0] : Array Value)[o]? := fun o => by
    rw [hc1 _ _ (by simp; omega)]; simp (disch := (first | ((try simp only [World.size_alloc]) <;> omega) | fail)) only [World.cell?_alloc_at, World.cell?_alloc_past]
  have ki : ∀ o, w1.cell? ⟨w.heap.size + 1, o, none⟩ = (#[.int .i64 op, .int .i64 (s[k + 1].toNat : Int), .int .i64 0, .int .i64 nn] : Array Value)[o]? := fun o => by
    rw [hc1 _ _ (by simp)]; simp (disch := (first | ((try simp only [World.size_alloc]) <;> omega) | fail)) only [World.cell?_alloc_at]
  have kz : ∀ o, w1.frozen? ⟨w.heap.size, o, none⟩ = false := fun o => by
    rw [hf1 _ _ (by simp; omega), frozen?_alloc_cells]
    exact World.frozen?_alloc_at _ _ _ _ rfl
  have zi : w.heap.size < w1.heap.size := by omega
  have zj : w.heap.size + 1 < w1.heap.size := by omega
  have q1 : Below w.heap.size w w1 := (bl2 _ _ _).trans (hb1.mono (by simp; omega))
  clear hc1 hf1 hb1
  by_cases h : ee = 0
  · subst h
    go_wp2
    refine bodyPost_ret (v := decV (insW op (s[k + 1].toNat : Int) 0 nn) ((k : Int) + 6) 0) (by simp [results, Tryz.results43, go_sem, kr]) rfl ⟨by rw [← HR.out]; simp, ?_⟩
    repeat (refine Below.setCell ?_ (by simp) _)
    exact q1
  · go_wp2
    refine bodyPost_ret (v := decV (insW 0 0 0 0) 0 9) (by simp [results, Tryz.results43, go_sem, kr]) rfl ⟨by rw [← HR.out, if_neg h], ?_⟩
    repeat (refine Below.setCell ?_ (by simp) _)
    exact q1

set_option maxRecDepth 100000 in
set_option maxHeartbeats 16000000 in
theorem rdec_5 (s : ByteArray) (k : Nat) (hk : k + 5 ≤ s.size) (hm : s.size ≤ 9223372036854775000) (op : Int) (ho : (s[k].toNat : Int) = op) (hf : I.form op = 5) (w : World) :
    Calls Tryz.prog 43 #[.string s, .int .i64 k] w fun e w' => e = .returned (if I.encE op 0 0 (W.numV (s.extract (k + 1) (k + 5))) = 0 then decV (insW op 0 0 (W.numV (s.extract (k + 1) (k + 5)))) ((k : Int) + 5) 0 else decV (insW 0 0 0 0) 0 9) ∧ Below w.heap.size w w' := by
  have pA : I.hasA 5 = false := by decide
  have pB : I.hasB 5 = false := by decide
  have pN : I.numB 5 = 4 := by decide
  have HF : Hid (I.form op = 5) := hf
  have hsz : I.size op = 5 := by unfold I.size; rw [hf]; rfl
  have HZ : Hid (I.size op = 5) := hsz
  have ho2 : (s[k].toNat : Int) ≤ 255 := by have := s[k].toNat_lt; omega
  obtain ⟨nn, hnn⟩ : ∃ nn, W.numV (s.extract (k + 1) (k + 5)) = nn := ⟨_, rfl⟩
  have HNN : Hid (W.numV (s.extract (k + 1) (k + 5)) = nn) := hnn
  have wnn : (Lit.int .i64 nn).wf = true := by rw [← hnn]; exact W.numV_wf _
  rw [hnn]
  clear hnn
  have h0 : (0 : Int) ≤ (k : Int) := by omega
  have h1 : (k : Int) ≤ (s.size : Int) := by omega
  have h2 : ¬ (k : Int) = (s.size : Int) := by omega
  have h3 : ¬ (s.size : Int) < (k : Int) + 5 := by omega
  have hkk : k < s.size := by omega
  clear hf hsz
  obtain ⟨ee, hee⟩ : ∃ ee, I.encE op 0 0 nn = ee := ⟨_, rfl⟩
  have HEE : Hid (I.encE op 0 0 nn = ee) := hee
  rw [hee]
  clear hee
  obtain ⟨R, hR⟩ : ∃ R, (if ee = 0 then decV (insW op 0 0 nn) ((k : Int) + 5) 0 else decV (insW 0 0 0 0) 0 9) = R := ⟨_, rfl⟩
  have HR : Hid ((if ee = 0 then decV (insW op 0 0 nn) ((k : Int) + 5) 0 else decV (insW 0 0 0 0) 0 9) = R) := hR
  rw [hR]
  clear hR
  go_enter Tryz.func43, Tryz.ntmps43
  go_wp2_with (first | (go_at_call 64; refine (rsize_any _ _).mono ?_; rintro e w' ⟨rfl, rfl⟩; rw [HZ.out]) | (go_at_call 66; refine (form_any _ _).mono ?_; rintro e w' ⟨rfl, rfl⟩; rw [HF.out]) | (go_at_call 65; refine (parts_any _ ?_ ?_ _).mono ?_; omega; omega; rintro e w' ⟨rfl, rfl⟩; rw [pA, pB, pN]) | (go_at_call 67; refine (rnumber_any _ _).mono ?_; rintro e w' ⟨rfl, rfl⟩))
  rw [HNN.out]
  refine (rencode_any op 0 0 nn wnn _).mono ?_
  rintro e w1 ⟨rfl, hb1⟩
  rw [HEE.out]
  obtain ⟨hc1, hf1⟩ := bcell hb1
  have hz1 := hb1.size
  simp at hz1
  have kr : ∀ o, w1.cell? ⟨w.heap.size, o, none⟩ = (#[.int .i64 0, .int .i64 0, .int .i64 0, .int .i64 0] : Array Value)[o]? := fun o => by
    rw [hc1 _ _ (by simp; omega)]; simp (disch := (first | ((try simp only [World.size_alloc]) <;> omega) | fail)) only [World.cell?_alloc_at, World.cell?_alloc_past]
  have ki : ∀ o, w1.cell? ⟨w.heap.size + 1, o, none⟩ = (#[.int .i64 op, .int .i64 0, .int .i64 0, .int .i64 nn] : Array Value)[o]? := fun o => by
    rw [hc1 _ _ (by simp)]; simp (disch := (first | ((try simp only [World.size_alloc]) <;> omega) | fail)) only [World.cell?_alloc_at]
  have kz : ∀ o, w1.frozen? ⟨w.heap.size, o, none⟩ = false := fun o => by
    rw [hf1 _ _ (by simp; omega), frozen?_alloc_cells]
    exact World.frozen?_alloc_at _ _ _ _ rfl
  have zi : w.heap.size < w1.heap.size := by omega
  have zj : w.heap.size + 1 < w1.heap.size := by omega
  have q1 : Below w.heap.size w w1 := (bl2 _ _ _).trans (hb1.mono (by simp; omega))
  clear hc1 hf1 hb1
  by_cases h : ee = 0
  · subst h
    go_wp2
    refine bodyPost_ret (v := decV (insW op 0 0 nn) ((k : Int) + 5) 0) (by simp [results, Tryz.results43, go_sem, kr]) rfl ⟨by rw [← HR.out]; simp, ?_⟩
    repeat (refine Below.setCell ?_ (by simp) _)
    exact q1
  · go_wp2
    refine bodyPost_ret (v := decV (insW 0 0 0 0) 0 9) (by simp [results, Tryz.results43, go_sem, kr]) rfl ⟨by rw [← HR.out, if_neg h], ?_⟩
    repeat (refine Below.setCell ?_ (by simp) _)
    exact q1

end Go.Proofs.YtgjingleolhkbaaGreatDoor.J

/- The document's Decode, where the bytes reach, form by form. (Written by gen_rdec.py.) -/
namespace Go.Proofs.YtgjingleolhkbaaGreatDoor.J
set_option maxRecDepth 100000
open Go.RowKit
set_option linter.unusedVariables false
attribute [local go_sem ↓] Go.wp_at_zero Go.wp_at_succ

set_option maxRecDepth 100000 in
set_option maxHeartbeats 16000000 in
theorem rdec_6 (s : ByteArray) (k : Nat) (hk : k + 1 ≤ s.size) (hm : s.size ≤ 9223372036854775000) (op : Int) (ho : (s[k].toNat : Int) = op) (hf : I.form op = 6) (w : World) :
    Calls Tryz.prog 43 #[.string s, .int .i64 k] w fun e w' => e = .returned (if I.encE op 0 0 0 = 0 then decV (insW op 0 0 0) ((k : Int) + 1) 0 else decV (insW 0 0 0 0) 0 9) ∧ Below w.heap.size w w' := by
  have pA : I.hasA 6 = false := by decide
  have pB : I.hasB 6 = false := by decide
  have pN : I.numB 6 = 0 := by decide
  have HF : Hid (I.form op = 6) := hf
  have hsz : I.size op = 1 := by unfold I.size; rw [hf]; rfl
  have HZ : Hid (I.size op = 1) := hsz
  have ho2 : (s[k].toNat : Int) ≤ 255 := by have := s[k].toNat_lt; omega
  have wnn : (Lit.int .i64 0).wf = true := by decide
  have h0 : (0 : Int) ≤ (k : Int) := by omega
  have h1 : (k : Int) ≤ (s.size : Int) := by omega
  have h2 : ¬ (k : Int) = (s.size : Int) := by omega
  have h3 : ¬ (s.size : Int) < (k : Int) + 1 := by omega
  have hkk : k < s.size := by omega
  clear hf hsz
  obtain ⟨ee, hee⟩ : ∃ ee, I.encE op 0 0 0 = ee := ⟨_, rfl⟩
  have HEE : Hid (I.encE op 0 0 0 = ee) := hee
  rw [hee]
  clear hee
  obtain ⟨R, hR⟩ : ∃ R, (if ee = 0 then decV (insW op 0 0 0) ((k : Int) + 1) 0 else decV (insW 0 0 0 0) 0 9) = R := ⟨_, rfl⟩
  have HR : Hid ((if ee = 0 then decV (insW op 0 0 0) ((k : Int) + 1) 0 else decV (insW 0 0 0 0) 0 9) = R) := hR
  rw [hR]
  clear hR
  go_enter Tryz.func43, Tryz.ntmps43
  go_wp2_with (first | (go_at_call 64; refine (rsize_any _ _).mono ?_; rintro e w' ⟨rfl, rfl⟩; rw [HZ.out]) | (go_at_call 66; refine (form_any _ _).mono ?_; rintro e w' ⟨rfl, rfl⟩; rw [HF.out]) | (go_at_call 65; refine (parts_any _ ?_ ?_ _).mono ?_; omega; omega; rintro e w' ⟨rfl, rfl⟩; rw [pA, pB, pN]) | (go_at_call 67; refine (rnumber_any _ _).mono ?_; rintro e w' ⟨rfl, rfl⟩))
  refine (rencode_any op 0 0 0 wnn _).mono ?_
  rintro e w1 ⟨rfl, hb1⟩
  rw [HEE.out]
  obtain ⟨hc1, hf1⟩ := bcell hb1
  have hz1 := hb1.size
  simp at hz1
  have kr : ∀ o, w1.cell? ⟨w.heap.size, o, none⟩ = (#[.int .i64 0, .int .i64 0, .int .i64 0, .int .i64 0] : Array Value)[o]? := fun o => by
    rw [hc1 _ _ (by simp; omega)]; simp (disch := (first | ((try simp only [World.size_alloc]) <;> omega) | fail)) only [World.cell?_alloc_at, World.cell?_alloc_past]
  have ki : ∀ o, w1.cell? ⟨w.heap.size + 1, o, none⟩ = (#[.int .i64 op, .int .i64 0, .int .i64 0, .int .i64 0] : Array Value)[o]? := fun o => by
    rw [hc1 _ _ (by simp)]; simp (disch := (first | ((try simp only [World.size_alloc]) <;> omega) | fail)) only [World.cell?_alloc_at]
  have kz : ∀ o, w1.frozen? ⟨w.heap.size, o, none⟩ = false := fun o => by
    rw [hf1 _ _ (by simp; omega), frozen?_alloc_cells]
    exact World.frozen?_alloc_at _ _ _ _ rfl
  have zi : w.heap.size < w1.heap.size := by omega
  have zj : w.heap.size + 1 < w1.heap.size := by omega
  have q1 : Below w.heap.size w w1 := (bl2 _ _ _).trans (hb1.mono (by simp; omega))
  clear hc1 hf1 hb1
  by_cases h : ee = 0
  · subst h
    go_wp2
    refine bodyPost_ret (v := decV (insW op 0 0 0) ((k : Int) + 1) 0) (by simp [results, Tryz.results43, go_sem, kr]) rfl ⟨by rw [← HR.out]; simp, ?_⟩
    repeat (refine Below.setCell ?_ (by simp) _)
    exact q1
  · go_wp2
    refine bodyPost_ret (v := decV (insW 0 0 0 0) 0 9) (by simp [results, Tryz.results43, go_sem, kr]) rfl ⟨by rw [← HR.out, if_neg h], ?_⟩
    repeat (refine Below.setCell ?_ (by simp) _)
    exact q1

set_option maxRecDepth 100000 in
set_option maxHeartbeats 16000000 in
theorem rdec_7 (s : ByteArray) (k : Nat) (hk : k + 2 ≤ s.size) (hm : s.size ≤ 9223372036854775000) (op : Int) (ho : (s[k].toNat : Int) = op) (hf : I.form op = 7) (w : World) :
    Calls Tryz.prog 43 #[.string s, .int .i64 k] w fun e w' => e = .returned (if I.encE op 0 0 (W.numV (s.extract (k + 1) (k + 2))) = 0 then decV (insW op 0 0 (W.numV (s.extract (k + 1) (k + 2)))) ((k : Int) + 2) 0 else decV (insW 0 0 0 0) 0 9) ∧ Below w.heap.size w w' := by
  have pA : I.hasA 7 = false := by decide
  have pB : I.hasB 7 = false := by decide
  have pN : I.numB 7 = 1 := by decide
  have HF : Hid (I.form op = 7) := hf
  have hsz : I.size op = 2 := by unfold I.size; rw [hf]; rfl
  have HZ : Hid (I.size op = 2) := hsz
  have ho2 : (s[k].toNat : Int) ≤ 255 := by have := s[k].toNat_lt; omega
  obtain ⟨nn, hnn⟩ : ∃ nn, W.numV (s.extract (k + 1) (k + 2)) = nn := ⟨_, rfl⟩
  have HNN : Hid (W.numV (s.extract (k + 1) (k + 2)) = nn) := hnn
  have wnn : (Lit.int .i64 nn).wf = true := by rw [← hnn]; exact W.numV_wf _
  rw [hnn]
  clear hnn
  have h0 : (0 : Int) ≤ (k : Int) := by omega
  have h1 : (k : Int) ≤ (s.size : Int) := by omega
  have h2 : ¬ (k : Int) = (s.size : Int) := by omega
  have h3 : ¬ (s.size : Int) < (k : Int) + 2 := by omega
  have hkk : k < s.size := by omega
  clear hf hsz
  obtain ⟨ee, hee⟩ : ∃ ee, I.encE op 0 0 nn = ee := ⟨_, rfl⟩
  have HEE : Hid (I.encE op 0 0 nn = ee) := hee
  rw [hee]
  clear hee
  obtain ⟨R, hR⟩ : ∃ R, (if ee = 0 then decV (insW op 0 0 nn) ((k : Int) + 2) 0 else decV (insW 0 0 0 0) 0 9) = R := ⟨_, rfl⟩
  have HR : Hid ((if ee = 0 then decV (insW op 0 0 nn) ((k : Int) + 2) 0 else decV (insW 0 0 0 0) 0 9) = R) := hR
  rw [hR]
  clear hR
  go_enter Tryz.func43, Tryz.ntmps43
  go_wp2_with (first | (go_at_call 64; refine (rsize_any _ _).mono ?_; rintro e w' ⟨rfl, rfl⟩; rw [HZ.out]) | (go_at_call 66; refine (form_any _ _).mono ?_; rintro e w' ⟨rfl, rfl⟩; rw [HF.out]) | (go_at_call 65; refine (parts_any _ ?_ ?_ _).mono ?_; omega; omega; rintro e w' ⟨rfl, rfl⟩; rw [pA, pB, pN]) | (go_at_call 67; refine (rnumber_any _ _).mono ?_; rintro e w' ⟨rfl, rfl⟩))
  rw [HNN.out]
  refine (rencode_any op 0 0 nn wnn _).mono ?_
  rintro e w1 ⟨rfl, hb1⟩
  rw [HEE.out]
  obtain ⟨hc1, hf1⟩ := bcell hb1
  have hz1 := hb1.size
  simp at hz1
  have kr : ∀ o, w1.cell? ⟨w.heap.size, o, none⟩ = (#[.int .i64 0, .int .i64 0, .int .i64 0, .int .i64 0] : Array Value)[o]? := fun o => by
    rw [hc1 _ _ (by simp; omega)]; simp (disch := (first | ((try simp only [World.size_alloc]) <;> omega) | fail)) only [World.cell?_alloc_at, World.cell?_alloc_past]
  have ki : ∀ o, w1.cell? ⟨w.heap.size + 1, o, none⟩ = (#[.int .i64 op, .int .i64 0, .int .i64 0, .int .i64 nn] : Array Value)[o]? := fun o => by
    rw [hc1 _ _ (by simp)]; simp (disch := (first | ((try simp only [World.size_alloc]) <;> omega) | fail)) only [World.cell?_alloc_at]
  have kz : ∀ o, w1.frozen? ⟨w.heap.size, o, none⟩ = false := fun o => by
    rw [hf1 _ _ (by simp; omega), frozen?_alloc_cells]
    exact World.frozen?_alloc_at _ _ _ _ rfl
  have zi : w.heap.size < w1.heap.size := by omega
  have zj : w.heap.size + 1 < w1.heap.size := by omega
  have q1 : Below w.heap.size w w1 := (bl2 _ _ _).trans (hb1.mono (by simp; omega))
  clear hc1 hf1 hb1
  by_cases h : ee = 0
  · subst h
    go_wp2
    refine bodyPost_ret (v := decV (insW op 0 0 nn) ((k : Int) + 2) 0) (by simp [results, Tryz.results43, go_sem, kr]) rfl ⟨by rw [← HR.out]; simp, ?_⟩
    repeat (refine Below.setCell ?_ (by simp) _)
    exact q1
  · go_wp2
    refine bodyPost_ret (v := decV (insW 0 0 0 0) 0 9) (by simp [results, Tryz.results43, go_sem, kr]) rfl ⟨by rw [← HR.out, if_neg h], ?_⟩
    repeat (refine Below.setCell ?_ (by simp) _)
    exact q1

set_option maxRecDepth 100000 in
set_option maxHeartbeats 16000000 in
theorem rdec_8 (s : ByteArray) (k : Nat) (hk : k + 3 ≤ s.size) (hm : s.size ≤ 9223372036854775000) (op : Int) (ho : (s[k].toNat : Int) = op) (hf : I.form op = 8) (w : World) :
    Calls Tryz.prog 43 #[.string s, .int .i64 k] w fun e w' => e = .returned (if I.encE op (s[k + 1].toNat : Int) 0 (W.numV (s.extract (k + 2) (k + 3))) = 0 then decV (insW op (s[k + 1].toNat : Int) 0 (W.numV (s.extract (k + 2) (k + 3)))) ((k : Int) + 3) 0 else decV (insW 0 0 0 0) 0 9) ∧ Below w.heap.size w w' := by
  have pA : I.hasA 8 = true := by decide
  have pB : I.hasB 8 = false := by decide
  have pN : I.numB 8 = 1 := by decide
  have HF : Hid (I.form op = 8) := hf
  have hsz : I.size op = 3 := by unfold I.size; rw [hf]; rfl
  have HZ : Hid (I.size op = 3) := hsz
  have ho2 : (s[k].toNat : Int) ≤ 255 := by have := s[k].toNat_lt; omega
  have hy : (s[k + 1].toNat : Int) ≤ 255 := by have := s[k + 1].toNat_lt; omega
  have hy0 : (0 : Int) ≤ (s[k + 1].toNat : Int) := by omega
  have hk1 : k + 1 < s.size := by omega
  have hi1 : ((k : Int) + 1) < (s.size : Int) := by omega
  obtain ⟨nn, hnn⟩ : ∃ nn, W.numV (s.extract (k + 2) (k + 3)) = nn := ⟨_, rfl⟩
  have HNN : Hid (W.numV (s.extract (k + 2) (k + 3)) = nn) := hnn
  have wnn : (Lit.int .i64 nn).wf = true := by rw [← hnn]; exact W.numV_wf _
  rw [hnn]
  clear hnn
  have h0 : (0 : Int) ≤ (k : Int) := by omega
  have h1 : (k : Int) ≤ (s.size : Int) := by omega
  have h2 : ¬ (k : Int) = (s.size : Int) := by omega
  have h3 : ¬ (s.size : Int) < (k : Int) + 3 := by omega
  have hkk : k < s.size := by omega
  clear hf hsz
  obtain ⟨ee, hee⟩ : ∃ ee, I.encE op (s[k + 1].toNat : Int) 0 nn = ee := ⟨_, rfl⟩
  have HEE : Hid (I.encE op (s[k + 1].toNat : Int) 0 nn = ee) := hee
  rw [hee]
  clear hee
  obtain ⟨R, hR⟩ : ∃ R, (if ee = 0 then decV (insW op (s[k + 1].toNat : Int) 0 nn) ((k : Int) + 3) 0 else decV (insW 0 0 0 0) 0 9) = R := ⟨_, rfl⟩
  have HR : Hid ((if ee = 0 then decV (insW op (s[k + 1].toNat : Int) 0 nn) ((k : Int) + 3) 0 else decV (insW 0 0 0 0) 0 9) = R) := hR
  rw [hR]
  clear hR
  go_enter Tryz.func43, Tryz.ntmps43
  go_wp2_with (first | (go_at_call 64; refine (rsize_any _ _).mono ?_; rintro e w' ⟨rfl, rfl⟩; rw [HZ.out]) | (go_at_call 66; refine (form_any _ _).mono ?_; rintro e w' ⟨rfl, rfl⟩; rw [HF.out]) | (go_at_call 65; refine (parts_any _ ?_ ?_ _).mono ?_; omega; omega; rintro e w' ⟨rfl, rfl⟩; rw [pA, pB, pN]) | (go_at_call 67; refine (rnumber_any _ _).mono ?_; rintro e w' ⟨rfl, rfl⟩))
  rw [HNN.out]
  refine (rencode_any op (s[k + 1].toNat : Int) 0 nn wnn _).mono ?_
  rintro e w1 ⟨rfl, hb1⟩
  rw [HEE.out]
  obtain ⟨hc1, hf1⟩ := bcell hb1
  have hz1 := hb1.size
  simp at hz1
  have kr : ∀ o, w1.cell? ⟨w.heap.size, o, none⟩ = (#[.int .i64 0, .int .i64 0, .int .i64 0, .int .i64 0] : Array Value)[o]? := fun o => by
    rw [hc1 _ _ (by simp; omega)]; simp (disch := (first | ((try simp only [World.size_alloc]) <;> omega) | fail)) only [World.cell?_alloc_at, World.cell?_alloc_past]
  have ki : ∀ o, w1.cell? ⟨w.heap.size + 1, o, none⟩ = (#[.int .i64 op, .int .i64 (s[k + 1].toNat : Int), .int .i64 0, .int .i64 nn] : Array Value)[o]? := fun o => by
    rw [hc1 _ _ (by simp)]; simp (disch := (first | ((try simp only [World.size_alloc]) <;> omega) | fail)) only [World.cell?_alloc_at]
  have kz : ∀ o, w1.frozen? ⟨w.heap.size, o, none⟩ = false := fun o => by
    rw [hf1 _ _ (by simp; omega), frozen?_alloc_cells]
    exact World.frozen?_alloc_at _ _ _ _ rfl
  have zi : w.heap.size < w1.heap.size := by omega
  have zj : w.heap.size + 1 < w1.heap.size := by omega
  have q1 : Below w.heap.size w w1 := (bl2 _ _ _).trans (hb1.mono (by simp; omega))
  clear hc1 hf1 hb1
  by_cases h : ee = 0
  · subst h
    go_wp2
    refine bodyPost_ret (v := decV (insW op (s[k + 1].toNat : Int) 0 nn) ((k : Int) + 3) 0) (by simp [results, Tryz.results43, go_sem, kr]) rfl ⟨by rw [← HR.out]; simp, ?_⟩
    repeat (refine Below.setCell ?_ (by simp) _)
    exact q1
  · go_wp2
    refine bodyPost_ret (v := decV (insW 0 0 0 0) 0 9) (by simp [results, Tryz.results43, go_sem, kr]) rfl ⟨by rw [← HR.out, if_neg h], ?_⟩
    repeat (refine Below.setCell ?_ (by simp) _)
    exact q1

set_option maxRecDepth 100000 in
set_option maxHeartbeats 16000000 in
theorem rdec_9 (s : ByteArray) (k : Nat) (hk : k + 2 ≤ s.size) (hm : s.size ≤ 9223372036854775000) (op : Int) (ho : (s[k].toNat : Int) = op) (hf : I.form op = 9) (w : World) :
    Calls Tryz.prog 43 #[.string s, .int .i64 k] w fun e w' => e = .returned (if I.encE op (s[k + 1].toNat : Int) 0 0 = 0 then decV (insW op (s[k + 1].toNat : Int) 0 0) ((k : Int) + 2) 0 else decV (insW 0 0 0 0) 0 9) ∧ Below w.heap.size w w' := by
  have pA : I.hasA 9 = true := by decide
  have pB : I.hasB 9 = false := by decide
  have pN : I.numB 9 = 0 := by decide
  have HF : Hid (I.form op = 9) := hf
  have hsz : I.size op = 2 := by unfold I.size; rw [hf]; rfl
  have HZ : Hid (I.size op = 2) := hsz
  have ho2 : (s[k].toNat : Int) ≤ 255 := by have := s[k].toNat_lt; omega
  have hy : (s[k + 1].toNat : Int) ≤ 255 := by have := s[k + 1].toNat_lt; omega
  have hy0 : (0 : Int) ≤ (s[k + 1].toNat : Int) := by omega
  have hk1 : k + 1 < s.size := by omega
  have hi1 : ((k : Int) + 1) < (s.size : Int) := by omega
  have wnn : (Lit.int .i64 0).wf = true := by decide
  have h0 : (0 : Int) ≤ (k : Int) := by omega
  have h1 : (k : Int) ≤ (s.size : Int) := by omega
  have h2 : ¬ (k : Int) = (s.size : Int) := by omega
  have h3 : ¬ (s.size : Int) < (k : Int) + 2 := by omega
  have hkk : k < s.size := by omega
  clear hf hsz
  obtain ⟨ee, hee⟩ : ∃ ee, I.encE op (s[k + 1].toNat : Int) 0 0 = ee := ⟨_, rfl⟩
  have HEE : Hid (I.encE op (s[k + 1].toNat : Int) 0 0 = ee) := hee
  rw [hee]
  clear hee
  obtain ⟨R, hR⟩ : ∃ R, (if ee = 0 then decV (insW op (s[k + 1].toNat : Int) 0 0) ((k : Int) + 2) 0 else decV (insW 0 0 0 0) 0 9) = R := ⟨_, rfl⟩
  have HR : Hid ((if ee = 0 then decV (insW op (s[k + 1].toNat : Int) 0 0) ((k : Int) + 2) 0 else decV (insW 0 0 0 0) 0 9) = R) := hR
  rw [hR]
  clear hR
  go_enter Tryz.func43, Tryz.ntmps43
  go_wp2_with (first | (go_at_call 64; refine (rsize_any _ _).mono ?_; rintro e w' ⟨rfl, rfl⟩; rw [HZ.out]) | (go_at_call 66; refine (form_any _ _).mono ?_; rintro e w' ⟨rfl, rfl⟩; rw [HF.out]) | (go_at_call 65; refine (parts_any _ ?_ ?_ _).mono ?_; omega; omega; rintro e w' ⟨rfl, rfl⟩; rw [pA, pB, pN]) | (go_at_call 67; refine (rnumber_any _ _).mono ?_; rintro e w' ⟨rfl, rfl⟩))
  refine (rencode_any op (s[k + 1].toNat : Int) 0 0 wnn _).mono ?_
  rintro e w1 ⟨rfl, hb1⟩
  rw [HEE.out]
  obtain ⟨hc1, hf1⟩ := bcell hb1
  have hz1 := hb1.size
  simp at hz1
  have kr : ∀ o, w1.cell? ⟨w.heap.size, o, none⟩ = (#[.int .i64 0, .int .i64 0, .int .i64 0, .int .i64 0] : Array Value)[o]? := fun o => by
    rw [hc1 _ _ (by simp; omega)]; simp (disch := (first | ((try simp only [World.size_alloc]) <;> omega) | fail)) only [World.cell?_alloc_at, World.cell?_alloc_past]
  have ki : ∀ o, w1.cell? ⟨w.heap.size + 1, o, none⟩ = (#[.int .i64 op, .int .i64 (s[k + 1].toNat : Int), .int .i64 0, .int .i64 0] : Array Value)[o]? := fun o => by
    rw [hc1 _ _ (by simp)]; simp (disch := (first | ((try simp only [World.size_alloc]) <;> omega) | fail)) only [World.cell?_alloc_at]
  have kz : ∀ o, w1.frozen? ⟨w.heap.size, o, none⟩ = false := fun o => by
    rw [hf1 _ _ (by simp; omega), frozen?_alloc_cells]
    exact World.frozen?_alloc_at _ _ _ _ rfl
  have zi : w.heap.size < w1.heap.size := by omega
  have zj : w.heap.size + 1 < w1.heap.size := by omega
  have q1 : Below w.heap.size w w1 := (bl2 _ _ _).trans (hb1.mono (by simp; omega))
  clear hc1 hf1 hb1
  by_cases h : ee = 0
  · subst h
    go_wp2
    refine bodyPost_ret (v := decV (insW op (s[k + 1].toNat : Int) 0 0) ((k : Int) + 2) 0) (by simp [results, Tryz.results43, go_sem, kr]) rfl ⟨by rw [← HR.out]; simp, ?_⟩
    repeat (refine Below.setCell ?_ (by simp) _)
    exact q1
  · go_wp2
    refine bodyPost_ret (v := decV (insW 0 0 0 0) 0 9) (by simp [results, Tryz.results43, go_sem, kr]) rfl ⟨by rw [← HR.out, if_neg h], ?_⟩
    repeat (refine Below.setCell ?_ (by simp) _)
    exact q1

set_option maxRecDepth 100000 in
set_option maxHeartbeats 16000000 in
theorem rdec_10 (s : ByteArray) (k : Nat) (hk : k + 2 ≤ s.size) (hm : s.size ≤ 9223372036854775000) (op : Int) (ho : (s[k].toNat : Int) = op) (hf : I.form op = 10) (w : World) :
    Calls Tryz.prog 43 #[.string s, .int .i64 k] w fun e w' => e = .returned (if I.encE op 0 0 (W.numV (s.extract (k + 1) (k + 2))) = 0 then decV (insW op 0 0 (W.numV (s.extract (k + 1) (k + 2)))) ((k : Int) + 2) 0 else decV (insW 0 0 0 0) 0 9) ∧ Below w.heap.size w w' := by
  have pA : I.hasA 10 = false := by decide
  have pB : I.hasB 10 = false := by decide
  have pN : I.numB 10 = 1 := by decide
  have HF : Hid (I.form op = 10) := hf
  have hsz : I.size op = 2 := by unfold I.size; rw [hf]; rfl
  have HZ : Hid (I.size op = 2) := hsz
  have ho2 : (s[k].toNat : Int) ≤ 255 := by have := s[k].toNat_lt; omega
  obtain ⟨nn, hnn⟩ : ∃ nn, W.numV (s.extract (k + 1) (k + 2)) = nn := ⟨_, rfl⟩
  have HNN : Hid (W.numV (s.extract (k + 1) (k + 2)) = nn) := hnn
  have wnn : (Lit.int .i64 nn).wf = true := by rw [← hnn]; exact W.numV_wf _
  rw [hnn]
  clear hnn
  have h0 : (0 : Int) ≤ (k : Int) := by omega
  have h1 : (k : Int) ≤ (s.size : Int) := by omega
  have h2 : ¬ (k : Int) = (s.size : Int) := by omega
  have h3 : ¬ (s.size : Int) < (k : Int) + 2 := by omega
  have hkk : k < s.size := by omega
  clear hf hsz
  obtain ⟨ee, hee⟩ : ∃ ee, I.encE op 0 0 nn = ee := ⟨_, rfl⟩
  have HEE : Hid (I.encE op 0 0 nn = ee) := hee
  rw [hee]
  clear hee
  obtain ⟨R, hR⟩ : ∃ R, (if ee = 0 then decV (insW op 0 0 nn) ((k : Int) + 2) 0 else decV (insW 0 0 0 0) 0 9) = R := ⟨_, rfl⟩
  have HR : Hid ((if ee = 0 then decV (insW op 0 0 nn) ((k : Int) + 2) 0 else decV (insW 0 0 0 0) 0 9) = R) := hR
  rw [hR]
  clear hR
  go_enter Tryz.func43, Tryz.ntmps43
  go_wp2_with (first | (go_at_call 64; refine (rsize_any _ _).mono ?_; rintro e w' ⟨rfl, rfl⟩; rw [HZ.out]) | (go_at_call 66; refine (form_any _ _).mono ?_; rintro e w' ⟨rfl, rfl⟩; rw [HF.out]) | (go_at_call 65; refine (parts_any _ ?_ ?_ _).mono ?_; omega; omega; rintro e w' ⟨rfl, rfl⟩; rw [pA, pB, pN]) | (go_at_call 67; refine (rnumber_any _ _).mono ?_; rintro e w' ⟨rfl, rfl⟩))
  rw [HNN.out]
  refine (rencode_any op 0 0 nn wnn _).mono ?_
  rintro e w1 ⟨rfl, hb1⟩
  rw [HEE.out]
  obtain ⟨hc1, hf1⟩ := bcell hb1
  have hz1 := hb1.size
  simp at hz1
  have kr : ∀ o, w1.cell? ⟨w.heap.size, o, none⟩ = (#[.int .i64 0, .int .i64 0, .int .i64 0, .int .i64 0] : Array Value)[o]? := fun o => by
    rw [hc1 _ _ (by simp; omega)]; simp (disch := (first | ((try simp only [World.size_alloc]) <;> omega) | fail)) only [World.cell?_alloc_at, World.cell?_alloc_past]
  have ki : ∀ o, w1.cell? ⟨w.heap.size + 1, o, none⟩ = (#[.int .i64 op, .int .i64 0, .int .i64 0, .int .i64 nn] : Array Value)[o]? := fun o => by
    rw [hc1 _ _ (by simp)]; simp (disch := (first | ((try simp only [World.size_alloc]) <;> omega) | fail)) only [World.cell?_alloc_at]
  have kz : ∀ o, w1.frozen? ⟨w.heap.size, o, none⟩ = false := fun o => by
    rw [hf1 _ _ (by simp; omega), frozen?_alloc_cells]
    exact World.frozen?_alloc_at _ _ _ _ rfl
  have zi : w.heap.size < w1.heap.size := by omega
  have zj : w.heap.size + 1 < w1.heap.size := by omega
  have q1 : Below w.heap.size w w1 := (bl2 _ _ _).trans (hb1.mono (by simp; omega))
  clear hc1 hf1 hb1
  by_cases h : ee = 0
  · subst h
    go_wp2
    refine bodyPost_ret (v := decV (insW op 0 0 nn) ((k : Int) + 2) 0) (by simp [results, Tryz.results43, go_sem, kr]) rfl ⟨by rw [← HR.out]; simp, ?_⟩
    repeat (refine Below.setCell ?_ (by simp) _)
    exact q1
  · go_wp2
    refine bodyPost_ret (v := decV (insW 0 0 0 0) 0 9) (by simp [results, Tryz.results43, go_sem, kr]) rfl ⟨by rw [← HR.out, if_neg h], ?_⟩
    repeat (refine Below.setCell ?_ (by simp) _)
    exact q1

end Go.Proofs.YtgjingleolhkbaaGreatDoor.J

/- What is written is read as it was: no program in sight. -/
namespace Go.Proofs.YtgjingleolhkbaaGreatDoor.J.W
set_option maxRecDepth 100000
open Go.RowKit

theorem tail_nums (xs : List Int) (h : ∀ n ∈ xs, 0 ≤ n ∧ n ≤ 255) (j : Nat) : tail (strOfNums xs) j = xs.drop j := by
  unfold tail
  rw [strOfNums_data, ← List.map_drop, List.map_map]
  conv => rhs; rw [← List.map_id (xs.drop j)]
  apply List.map_congr_left
  intro n hn
  have := h n (List.mem_of_mem_drop hn)
  simp only [Function.comp, id]
  rw [UInt8.toNat_ofNat']
  omega

theorem bytesOf_bd (n : Int) (s : Nat) : ∀ x ∈ bytesOf n s, 0 ≤ x ∧ x ≤ 255 := by
  intro x hx
  simp only [bytesOf, List.mem_map] at hx
  obtain ⟨i, _, rfl⟩ := hx
  exact byteAt_bd n i

theorem byteAt_succ (n : Int) (i : Nat) : byteAt n (i + 1) = byteAt (n / 256) i := by
  unfold byteAt
  have : (0 : Int) ≤ 256 := by decide
  rw [Int.pow_succ, Int.mul_comm, ← Int.ediv_ediv_of_nonneg this]

theorem bytesOf_cons (n : Int) (s : Nat) : bytesOf n (s + 1) = n % 256 :: bytesOf (n / 256) s := by
  simp only [bytesOf, List.range_succ_eq_map, List.map_cons, List.map_map]
  congr 1
  · simp [byteAt]
  · apply List.map_congr_left
    intro i _
    exact byteAt_succ n i

theorem num_bytesOf : ∀ (s : Nat) (n : Int), num (bytesOf n s) = n % 256 ^ s
  | 0, n => by simp [bytesOf, num]
  | s + 1, n => by
    rw [bytesOf_cons, num, num_bytesOf s, Int.pow_succ, Int.mul_comm (256 ^ s) 256]
    have h : n % (256 * 256 ^ s) = n % 256 + 256 * (n / 256 % 256 ^ s) := by
      have hP : (0 : Int) < 256 ^ s := Int.pow_pos (by decide)
      have h1 := Int.mul_ediv_add_emod (n / 256) (256 ^ s)
      have h2 := Int.emod_nonneg (n / 256) (Int.ne_of_gt hP)
      have h3 := Int.emod_lt_of_pos (n / 256) hP
      generalize n / 256 % 256 ^ s = r at *
      generalize n / 256 / 256 ^ s = q at *
      have h4 : n = (n % 256 + 256 * r) + 256 * 256 ^ s * q := by
        rw [Int.mul_assoc]; omega
      conv => lhs; rw [h4]
      rw [Int.add_mul_emod_self_left]
      exact Int.emod_eq_of_lt (by omega) (by omega)
    rw [h]
    omega

/-- Number turns Bytes back. -/
theorem num_back (n : Int) (h : (Lit.int .i64 n).wf = true) : bytesE n 8 = 0 ∧ numE (strOfNums (bytesV n 8)) = 0 ∧ numV (strOfNums (bytesV n 8)) = n := by
  simp [Lit.wf, IntKind.min, IntKind.max, IntKind.signed, IntKind.bits] at h
  have e : sx 8 n = n := by simp [sx]; unfold wrap64; omega
  have s8 : isSz 8 = true := by decide
  have hv : bytesV n 8 = bytesOf n 8 := by rw [bytesV, if_pos s8, if_pos e]; rfl
  have hsz : (strOfNums (bytesOf n 8)).size = 8 := by rw [strOfNums_size, bytesOf_length]
  have hE : bytesE n 8 = 0 := by rw [bytesE, if_pos s8, if_pos e]
  have hs8 : isSz ((8 : Nat) : Int) = true := by decide
  rw [hv, hE, numE, numV, hsz, if_pos hs8, if_pos hs8, tail_nums _ (bytesOf_bd n 8), List.drop_zero, num_bytesOf]
  refine ⟨rfl, rfl, ?_⟩
  have p : (256 : Int) ^ 8 = 18446744073709551616 := by decide
  rw [p]
  show sx 8 (n % 18446744073709551616) = n
  simp [sx]
  unfold wrap64
  omega

theorem takeG_grps : ∀ (f g : Nat) (u x : Int) (r : List Int), g + f = 9 → 0 ≤ u → u < 2 * 128 ^ f → (0 < g → 0 < u) → takeG g x (grps f u ++ r) = some (x + u * 128 ^ g, g + (grps f u).length)
  | 0, g, u, x, r, hg, h0, h1, h2 => by
    simp at h1
    rw [grps_last 0 u (by omega)]
    have hp := h2 (by omega)
    rw [List.singleton_append, takeG_last _ _ _ _ (by omega) (by omega), show u % 128 = u by omega]
    rfl
  | f + 1, g, u, x, r, hg, h0, h1, h2 => by
    by_cases h : u < 128
    · rw [grps_last (f + 1) u h, List.singleton_append, takeG_last _ _ _ _ (by omega) h, show u % 128 = u by omega]
      rfl
    · rw [grps_step f u (by omega), List.cons_append, takeG_more _ _ _ _ (by omega) (by omega)]
      obtain ⟨g', hg', hl⟩ := fuel_step (f + 1) u (by omega) h1
      obtain rfl : f = g' := by omega
      rw [takeG_grps f (g + 1) (u / 128) _ r (by omega) (by omega) hl (by omega)]
      have e1 : (u % 128 + 128) % 128 = u % 128 := by omega
      have e2 : u * 128 ^ g = (u % 128) * 128 ^ g + (u / 128) * 128 ^ (g + 1) := by
        rw [Int.pow_succ, ← Int.mul_assoc, Int.mul_comm (u / 128) (128 ^ g), Int.mul_assoc (128 ^ g) (u / 128) 128, Int.mul_comm (u % 128), ← Int.mul_add]
        rw [Int.mul_comm u]
        congr 1
        omega
      rw [e1, e2]
      simp
      omega

theorem takeG_put (u : Int) (r : List Int) (h0 : 0 ≤ u) (h1 : u ≤ 18446744073709551615) : takeG 0 0 (put u ++ r) = some (u, (put u).length) := by
  rw [put, takeG_grps 9 0 u 0 r rfl h0 (fuel_top u h1) (by omega)]
  simp

/-- Take turns Put back, whatever stands ahead of it or behind. -/
theorem take_put (a : List Int) (u : Int) (r : List Int) (h0 : 0 ≤ u) (h1 : u ≤ 18446744073709551615) (hb : ∀ n ∈ a ++ (put u ++ r), 0 ≤ n ∧ n ≤ 255) :
    take (strOfNums (a ++ (put u ++ r))) (a.length : Int) = (u, ((a.length + (put u).length : Nat) : Int), 0) := by
  have hl : (strOfNums (a ++ (put u ++ r))).size = a.length + ((put u).length + r.length) := by rw [strOfNums_size]; simp
  rw [take, if_neg (by rw [hl]; omega), Int.toNat_natCast]
  have ht : tail (strOfNums (a ++ (put u ++ r))) a.length = put u ++ r := by
    rw [tail_nums _ hb]; simp
  rw [takeR_some _ _ u (put u).length (by rw [ht]; exact takeG_put u r h0 h1)]
  rw [Int.natCast_add]

end Go.Proofs.YtgjingleolhkbaaGreatDoor.J.W

/- What is written is read as it was, and what is read is written as it stood: no walk. -/
namespace Go.Proofs.YtgjingleolhkbaaGreatDoor.J
set_option maxRecDepth 100000
open Go.RowKit

/-- The bytes, as numbers. -/
abbrev byts (s : ByteArray) : List Int := W.tail s 0
theorem byts_len (s : ByteArray) : (byts s).length = s.size := by rw [W.tail_length]; rfl
theorem byts_extract (s : ByteArray) (i j : Nat) : byts (s.extract i j) = ((byts s).drop i).take (j - i) := by
  simp [W.tail, List.map_drop, List.map_take]
theorem byts_str (l : List Int) (h : ∀ n ∈ l, 0 ≤ n ∧ n ≤ 255) : byts (strOfNums l) = l := W.tail_nums l h 0
theorem byts_bd (s : ByteArray) : ∀ n ∈ byts s, 0 ≤ n ∧ n ≤ 255 := by
  intro n hn
  have := W.tail_bd s 0 n hn
  omega
/-- Bytes that are the same numbers are the same. -/
theorem byts_inj {s t : ByteArray} (h : byts s = byts t) : s = t := by
  apply ByteArray.ext
  apply Array.ext'
  simp only [W.tail, List.drop_zero] at h
  have hi : Function.Injective (fun b : UInt8 => ((b.toNat : Nat) : Int)) := by
    intro a b hab
    have hab' : ((a.toNat : Nat) : Int) = (b.toNat : Nat) := hab
    have : a.toNat = b.toNat := by omega
    exact UInt8.toNat.inj this
  exact List.map_inj_right (fun a b hab => hi hab) |>.1 h

namespace W
theorem sx_num {m n : Int} (hm : m = 1 ∨ m = 4 ∨ m = 8) (h : sx m n = n) : sx m (num (bytesOf n m.toNat)) = n := by
  rw [num_bytesOf]
  rcases hm with rfl | rfl | rfl
  · simp [sx] at *; omega
  · simp [sx, wrap32] at *; omega
  · simp [sx, wrap64] at *; omega
theorem sx_sx {m u : Int} (hm : m = 1 ∨ m = 4 ∨ m = 8) : sx m (sx m u) = sx m u := by
  rcases hm with rfl | rfl | rfl
  · simp [sx]
  · simp [sx, wrap32]
  · simp [sx, wrap64]
theorem num_lt (l : List Int) (h : ∀ n ∈ l, 0 ≤ n ∧ n ≤ 255) : 0 ≤ num l ∧ num l < 256 ^ l.length := num_bd l (fun n hn => by have := h n hn; omega)
theorem ibytesOf_num : ∀ (l : List Int), (∀ n ∈ l, 0 ≤ n ∧ n ≤ 255) → bytesOf (num l) l.length = l
  | [], _ => by simp [bytesOf]
  | c :: r, h => by
    have hc := h c List.mem_cons_self
    rw [List.length_cons, bytesOf_cons, num]
    rw [show (num r * 256 + c) % 256 = c by omega, show (num r * 256 + c) / 256 = num r by omega, ibytesOf_num r (fun n hn => h n (List.mem_cons_of_mem _ hn))]
theorem bytesOf_mod : ∀ (s : Nat) (n k : Int), bytesOf (n + 256 ^ s * k) s = bytesOf n s
  | 0, n, k => by simp [bytesOf]
  | s + 1, n, k => by
    rw [bytesOf_cons, bytesOf_cons]
    have e : (256 : Int) ^ (s + 1) * k = 256 * (256 ^ s * k) := by rw [Int.pow_succ]; rw [Int.mul_comm (256 ^ s) 256, Int.mul_assoc]
    rw [e, show (n + 256 * (256 ^ s * k)) % 256 = n % 256 by omega, show (n + 256 * (256 ^ s * k)) / 256 = n / 256 + 256 ^ s * k by omega, bytesOf_mod s]
theorem bytesOf_sx {m u : Int} (hm : m = 1 ∨ m = 4 ∨ m = 8) : bytesOf (sx m u) m.toNat = bytesOf u m.toNat := by
  have key : ∃ k, sx m u = u + 256 ^ m.toNat * k := by
    rcases hm with rfl | rfl | rfl
    · exact ⟨-((u + 128) / 256), by simp [sx]; omega⟩
    · exact ⟨-((u + 2147483648) / 4294967296), by simp [sx, wrap32]; omega⟩
    · exact ⟨-((u + 9223372036854775808) / 18446744073709551616), by simp [sx, wrap64]; omega⟩
  obtain ⟨k, hk⟩ := key
  rw [hk, bytesOf_mod]
theorem isSz_of {m : Int} (hm : m = 1 ∨ m = 4 ∨ m = 8) : isSz m = true := by rcases hm with rfl | rfl | rfl <;> decide
theorem numV_at {s : ByteArray} {m : Int} (hm : m = 1 ∨ m = 4 ∨ m = 8) (h : (s.size : Int) = m) : numV s = sx m (num (tail s 0)) ∧ numE s = 0 := by
  unfold numV numE
  rw [h, if_pos (isSz_of hm), if_pos (isSz_of hm)]
  exact ⟨rfl, rfl⟩
end W

namespace I
theorem num_cases {op : Int} (h : ¬ num op = 0) : num op = 1 ∨ num op = 4 ∨ num op = 8 := by
  have := num_range op; omega
theorem kAt_eq (op : Int) : kAt op = if regs op = 0 then 1 else 2 := by
  unfold kAt psize
  split <;> omega
theorem psize_nat (op : Int) : (psize op).toNat = kAt op + (num op).toNat := by
  rw [kAt_eq]; unfold psize
  have := num_range op
  split <;> omega
/-- The bytes of a form that bears all. -/
theorem enc_len {op a b n : Int} (h : I.encE op a b n = 0) : ((I.encV op a b n).length : Int) = psize op := by
  unfold I.encE at h
  split at h
  · rename_i hf
    split at h
    · rename_i hn
      unfold I.encV
      rw [if_pos hf, if_pos hn]
      have hr := regs_range op
      have lr : ((regB (regs op) a b).length : Int) = if regs op = 0 then 0 else 1 := by
        unfold regB
        rcases hr with e | e | e <;> simp [e]
      have ln : ((numW (num op) n).length : Int) = num op := by
        unfold numW
        split
        · rename_i e; simp [e]
        · rename_i e
          have hm := num_cases e
          unfold numOk at hn
          rw [if_neg e] at hn
          have hE : W.bytesE n (num op) = 0 := by simpa using (Bool.and_eq_true_iff.1 hn).1
          unfold W.bytesE at hE
          rw [if_pos (W.isSz_of hm)] at hE
          split at hE
          · rename_i hs
            unfold W.bytesV
            rw [if_pos (W.isSz_of hm), if_pos hs, W.bytesOf_length]
            omega
          · omega
      simp only [List.length_append, List.length_cons, List.length_nil]
      unfold psize
      split at lr <;> rename_i e
      · rw [if_pos e]; omega
      · rw [if_neg e]; omega
    · omega
  · omega
theorem enc_bd {op a b n : Int} : ∀ x ∈ I.encV op a b n, 0 ≤ x ∧ x ≤ 255 := by
  intro x hx
  unfold I.encV at hx
  split at hx
  · rename_i hf
    split at hx
    · have hf' := Bool.and_eq_true_iff.1 hf
      have ho := of_decide_eq_true hf'.1
      have hr := I.bears_regs hf'.2
      simp only [List.mem_append, List.mem_singleton] at hx
      rcases hx with (rfl | hx) | hx
      · omega
      · unfold regB at hx
        split at hx
        · simp at hx
        · split at hx <;> (simp at hx; omega)
      · unfold numW at hx
        split at hx
        · simp at hx
        · unfold W.bytesV at hx
          split at hx
          · split at hx
            · exact W.bytesOf_bd _ _ x hx
            · simp at hx
          · simp at hx
    · simp at hx
  · simp at hx
theorem enc_parts {op a b n : Int} (h : I.encE op a b n = 0) :
    (1 ≤ op ∧ op ≤ 33) ∧ I.bears (regs op) (num op) a b n = true ∧ numOk (num op) (nat op) n = true ∧ I.encV op a b n = [op] ++ regB (regs op) a b ++ numW (num op) n := by
  unfold I.encE at h
  split at h
  · rename_i hf
    split at h
    · rename_i hn
      have hf' := Bool.and_eq_true_iff.1 hf
      refine ⟨of_decide_eq_true hf'.1, hf'.2, hn, ?_⟩
      unfold I.encV
      rw [if_pos hf, if_pos hn]
    · omega
  · omega
theorem bears_zero {r m a b n : Int} (h : I.bears r m a b n = true) : (r < 1 → a = 0) ∧ (r < 2 → b = 0) ∧ (m = 0 → n = 0) := by
  unfold I.bears I.bad at h
  have h1 := (Bool.and_eq_true_iff.1 h).1
  simp at h1
  refine ⟨fun hr => ?_, fun hr => ?_, fun hm => ?_⟩
  · have := h1.1.1; omega
  · have := h1.1.2; omega
  · rcases h1.2 with e | e
    · exact e
    · exact absurd hm e

/-- What is written is read as it was, whatever stands behind it. -/
theorem dec_enc {op a b n : Int} (h : I.encE op a b n = 0) (s : ByteArray) (r : List Int) (hs : byts s = I.encV op a b n ++ r) :
    I.dOk s = true ∧ hd s = op ∧ I.dA s = a ∧ I.dB s = b ∧ I.dN s = n := by
  have hlen := enc_len h
  obtain ⟨ho, hbe, hno, hv⟩ := enc_parts h
  have hz := bears_zero hbe
  have hrg := I.bears_regs hbe
  rw [hv] at hs
  have hop : hd s = op := by unfold hd; show (byts s).headD 0 = op; rw [hs]; rfl
  have hsz : ((byts s).length : Int) = psize op + r.length := by rw [hs, ← hv, List.length_append]; omega
  rw [byts_len] at hsz
  have hrr := regs_range op
  have hk := kAt_eq op
  -- the registers' byte
  have hA : I.dA s = a := by
    unfold I.dA
    rw [hop]
    unfold rA
    rcases hrr with e | e | e
    · rw [if_pos e]; exact (hz.1 (by omega)).symm
    · rw [if_neg (by omega), if_pos e]
      unfold hd
      show (byts (s.extract 1 (kAt op))).headD 0 = a
      rw [byts_extract, hk, if_neg (by omega), hs]
      simp [regB, e]
    · rw [if_neg (by omega), if_neg (by omega)]
      unfold hd
      show (byts (s.extract 1 (kAt op))).headD 0 / 16 = a
      rw [byts_extract, hk, if_neg (by omega), hs]
      simp [regB, e]
      omega
  have hB : I.dB s = b := by
    unfold I.dB
    rw [hop]
    unfold rB
    rcases hrr with e | e | e
    · rw [if_neg (by omega)]; exact (hz.2.1 (by omega)).symm
    · rw [if_neg (by omega)]; exact (hz.2.1 (by omega)).symm
    · rw [if_pos e]
      unfold hd
      show (byts (s.extract 1 (kAt op))).headD 0 % 16 = b
      rw [byts_extract, hk, if_neg (by omega), hs]
      simp [regB, e]
      omega
  -- the number's bytes
  have hN : I.dN s = n ∧ rdOk (num op) (nat op) (I.dS s) = true := by
    unfold I.dN
    rw [hop]
    unfold rdN rdOk
    by_cases e : num op = 0
    · rw [if_pos e, if_pos e]; exact ⟨(hz.2.2 e).symm, rfl⟩
    · have hm := num_cases e
      unfold numOk at hno
      rw [if_neg e] at hno
      obtain ⟨hno1, hno2⟩ := Bool.and_eq_true_iff.1 hno
      have hE : W.bytesE n (num op) = 0 := by simpa using hno1
      have hsx : W.sx (num op) n = n := by
        unfold W.bytesE at hE
        rw [if_pos (W.isSz_of hm)] at hE
        split at hE
        · assumption
        · omega
      have hw : numW (num op) n = W.bytesOf n (num op).toNat := by
        unfold numW W.bytesV
        rw [if_neg e, if_pos (W.isSz_of hm), if_pos hsx]
      have hd1 : byts (I.dS s) = W.bytesOf n (num op).toNat := by
        unfold I.dS
        rw [hop, byts_extract, psize_nat, hs, hw, hk]
        have l1 : (regB (regs op) a b).length = if regs op = 0 then 0 else 1 := by
          unfold regB
          rcases hrr with e | e | e <;> simp [e]
        have l2 := W.bytesOf_length n (num op).toNat
        rw [show (if regs op = 0 then 1 else 2) = ([op] ++ regB (regs op) a b).length by simp [l1]; split <;> rfl, List.append_assoc, List.drop_left, Nat.add_sub_cancel_left]
        generalize W.bytesOf n (num op).toNat = l at *
        rw [← l2, List.take_left]
      have hs1 : ((I.dS s).size : Int) = num op := by
        rw [← byts_len, hd1, W.bytesOf_length]; omega
      have hv1 := W.numV_at hm hs1
      have hn1 : W.numV (I.dS s) = n := by
        rw [hv1.1]
        show W.sx (num op) (W.num (byts (I.dS s))) = n
        rw [hd1]
        exact W.sx_num hm hsx
      rw [if_neg e, if_neg e, hn1, hv1.2]
      exact ⟨rfl, by simpa using hno2⟩
  refine ⟨?_, hop, hA, hB, hN.1⟩
  unfold I.dOk
  rw [hA, hB, hop, hN.2, isr_yes hrg.1, isr_yes hrg.2, decide_eq_true]
  · rfl
  · refine ⟨?_, ho.1, ho.2, ?_⟩
    · have : 1 ≤ psize op := by unfold psize; have := num_range op; split <;> omega
      omega
    · omega

/-- What is read is written as it stood. -/
theorem enc_dec {s : ByteArray} (h : I.dOk s = true) :
    I.encE (hd s) (I.dA s) (I.dB s) (I.dN s) = 0 ∧ I.encV (hd s) (I.dA s) (I.dB s) (I.dN s) = (byts s).take (psize (hd s)).toNat ∧ 1 ≤ psize (hd s) ∧ psize (hd s) ≤ (s.size : Int) := by
  unfold I.dOk at h
  obtain ⟨h1, h2⟩ := Bool.and_eq_true_iff.1 h
  obtain ⟨h2, h3⟩ := Bool.and_eq_true_iff.1 h2
  obtain ⟨ha, hb⟩ := Bool.and_eq_true_iff.1 h2
  obtain ⟨g0, g1, g2, g3⟩ := of_decide_eq_true h1
  have hrr := regs_range (hd s)
  have hk := kAt_eq (hd s)
  have hp1 : 1 ≤ psize (hd s) := by unfold psize; have := num_range (hd s); split <;> omega
  have hpn := psize_nat (hd s)
  have hln := byts_len s
  -- the bytes, one by one
  have hL : byts s = hd s :: (byts s).drop 1 := by
    cases e : byts s with
    | nil => rw [e] at hln; simp at hln; omega
    | cons x r =>
      have : hd s = x := by unfold hd; show (byts s).headD 0 = x; rw [e]; rfl
      rw [this]; rfl
  have hreg : regB (regs (hd s)) (I.dA s) (I.dB s) = ((byts s).drop 1).take (kAt (hd s) - 1) := by
    unfold I.dA I.dB regB rA rB
    rcases hrr with e | e | e
    · rw [if_pos e, hk, if_pos e]; simp
    all_goals
      have hx : hd (s.extract 1 (kAt (hd s))) = (((byts s).drop 1).take 1).headD 0 := by
        show (byts (s.extract 1 (kAt (hd s)))).headD 0 = _
        rw [byts_extract, hk, if_neg (by omega)]
      have hlen2 : 2 ≤ (byts s).length := by
        unfold psize at g3
        have := num_range (hd s)
        rw [if_neg (by omega)] at g3
        omega
      obtain ⟨x, hx1⟩ : ∃ x, ((byts s).drop 1).take 1 = [x] := by
        cases e2 : (byts s).drop 1 with
        | nil => have := congrArg List.length e2; simp at this; omega
        | cons x r => exact ⟨x, by simp⟩
      rw [hx, hx1]
      have hk2 : kAt (hd s) - 1 = 1 := by rw [hk, if_neg (by omega)]
      rw [hk2, hx1]
      simp [e]
      try omega
  have hz : (regs (hd s) < 1 → I.dA s = 0) ∧ (regs (hd s) < 2 → I.dB s = 0) ∧ (num (hd s) = 0 → I.dN s = 0) := by
    refine ⟨fun e => ?_, fun e => ?_, fun e => ?_⟩
    · unfold I.dA rA; rw [if_pos (by omega)]
    · unfold I.dB rB; rw [if_neg (by omega)]
    · unfold I.dN rdN; rw [if_pos e]
  have hbe : I.bears (regs (hd s)) (num (hd s)) (I.dA s) (I.dB s) (I.dN s) = true := by
    unfold I.bears I.bad
    rw [ha, hb]
    simp
    refine ⟨⟨?_, ?_⟩, ?_⟩
    · by_cases c : regs (hd s) < 1
      · exact .inl (hz.1 c)
      · exact .inr (by omega)
    · by_cases c : regs (hd s) < 2
      · exact .inl (hz.2.1 c)
      · exact .inr (by omega)
    · by_cases c : num (hd s) = 0
      · exact .inl (hz.2.2 c)
      · exact .inr c
  have hnum : numOk (num (hd s)) (nat (hd s)) (I.dN s) = true ∧ numW (num (hd s)) (I.dN s) = ((byts s).drop (kAt (hd s))).take (num (hd s)).toNat := by
    unfold numOk numW
    by_cases e : num (hd s) = 0
    · rw [if_pos e, if_pos e, e]; simp
    · have hm := num_cases e
      have hd1 : byts (I.dS s) = ((byts s).drop (kAt (hd s))).take (num (hd s)).toNat := by
        unfold I.dS
        rw [byts_extract, hpn, Nat.add_sub_cancel_left]
      have hl : (byts (I.dS s)).length = (num (hd s)).toNat := by
        rw [hd1, List.length_take, List.length_drop, hln]
        omega
      have hs1 : ((I.dS s).size : Int) = num (hd s) := by rw [← byts_len, hl]; omega
      have hv1 := W.numV_at hm hs1
      have hN : I.dN s = W.sx (num (hd s)) (W.num (byts (I.dS s))) := by unfold I.dN rdN; rw [if_neg e]; exact hv1.1
      have hsx : W.sx (num (hd s)) (I.dN s) = I.dN s := by rw [hN, W.sx_sx hm]
      unfold rdOk at h3
      rw [if_neg e] at h3
      have h4 := (Bool.and_eq_true_iff.1 h3).2
      have hN' : W.numV (I.dS s) = I.dN s := by unfold I.dN rdN; rw [if_neg e]
      rw [hN'] at h4
      rw [if_neg e, if_neg e]
      refine ⟨?_, ?_⟩
      · unfold W.bytesE
        rw [if_pos (W.isSz_of hm), if_pos hsx, h4]; rfl
      · unfold W.bytesV
        rw [if_pos (W.isSz_of hm), if_pos hsx, hN, W.bytesOf_sx hm, ← hd1, ← hl]
        exact W.ibytesOf_num _ (byts_bd _)
  have hf : I.fits (hd s) (I.dA s) (I.dB s) (I.dN s) = true := by unfold I.fits; rw [hbe, decide_eq_true ⟨g1, g2⟩]; rfl
  refine ⟨?_, ?_, hp1, g3⟩
  · unfold I.encE; rw [if_pos hf, if_pos hnum.1]
  · unfold I.encV
    rw [if_pos hf, if_pos hnum.1, hreg, hnum.2, hpn]
    conv => rhs; rw [hL]
    have hk1 : kAt (hd s) = (kAt (hd s) - 1) + 1 := by rw [hk]; split <;> rfl
    rw [show kAt (hd s) + (num (hd s)).toNat = ((kAt (hd s) - 1) + (num (hd s)).toNat) + 1 by omega, List.take_succ_cons, List.take_add, List.drop_drop, show 1 + (kAt (hd s) - 1) = kAt (hd s) by omega]
    simp

end I
end Go.Proofs.YtgjingleolhkbaaGreatDoor.J

/- Two instructions, held against each other. -/
namespace Go.Proofs.YtgjingleolhkbaaGreatDoor.J
set_option maxRecDepth 100000
open Go.RowKit

/-- Are two instructions the same? -/
def I.same (op a b n op' a' b' n' : Int) : Bool := decide (op = op' ∧ a = a' ∧ b = b' ∧ n = n')
theorem I.same_self (op a b n : Int) : I.same op a b n op a b n = true := by simp [I.same]

theorem eqIns (op a b n op' a' b' n' : Int) (w : World) : (Op.equalIn 10000 42 (.agg #[.int .i64 op, .int .i64 a, .int .i64 b, .int .i64 n]) (.agg #[.int .i64 op', .int .i64 a', .int .i64 b', .int .i64 n'])).run Tryz.prog w = .ok (I.same op a b n op' a' b' n') w := by
  unfold I.same
  by_cases h1 : op = op'
  · subst h1
    by_cases h2 : a = a'
    · subst h2
      by_cases h3 : b = b'
      · subst h3
        by_cases h4 : n = n'
        · subst h4
          go_simp
        · go_simp
      · go_simp
    · go_simp
  · go_simp

end Go.Proofs.YtgjingleolhkbaaGreatDoor.J

/- ins.All. -/
namespace Go.Proofs.YtgjingleolhkbaaGreatDoor.J
set_option maxRecDepth 100000
open Go.RowKit
set_option linter.unusedVariables false
attribute [local go_sem ↓] Go.wp_at_zero Go.wp_at_succ

theorem infoIns : (Tryz.prog.info? 42).map (fun i => (i.zero, i.size, i.bytes)) = some (some (.agg #[.int .i64 0, .int .i64 0, .int .i64 0, .int .i64 0]), 4, 32) := by kernel_rfl

/-- An instruction. -/
structure I.Q where
  op : Int
  a : Int
  b : Int
  n : Int
abbrev I.Q.v (q : I.Q) : Value := .agg #[.int .i64 q.op, .int .i64 q.a, .int .i64 q.b, .int .i64 q.n]
def I.Q.cs (q : I.Q) : List Value := [.int .i64 q.op, .int .i64 q.a, .int .i64 q.b, .int .i64 q.n]
def I.rows (l : List I.Q) : List Value := l.flatMap I.Q.cs
theorem I.rows_len (l : List I.Q) : (I.rows l).length = l.length * 4 := by
  induction l with
  | nil => rfl
  | cons q r ih => simp only [I.rows, List.flatMap_cons, List.length_append, List.length_cons] at *; rw [ih]; simp [I.Q.cs]; omega
theorem I.rows_snoc (l : List I.Q) (q : I.Q) : I.rows (l ++ [q]) = I.rows l ++ q.cs := by simp [I.rows]
theorem cs_one (q : I.Q) : ∀ u ∈ q.cs, u.oneCell' = true := by
  intro u hu
  simp [I.Q.cs] at hu
  rcases hu with rfl | rfl | rfl | rfl <;> rfl

/-- The instruction with whose form bytes begin, and what stands behind it. -/
def I.dQ (s : ByteArray) : I.Q := ⟨I.hd s, I.dA s, I.dB s, I.dN s⟩
def I.rest (s : ByteArray) : ByteArray := s.extract (I.psize (I.hd s)).toNat s.size
theorem I.rest_size (s : ByteArray) (h : I.dOk s = true) : (I.rest s).size + (I.psize (I.hd s)).toNat = s.size ∧ 1 ≤ (I.psize (I.hd s)).toNat := by
  have := (I.enc_dec h).2.2
  unfold I.rest
  simp
  omega
/-- All instructions of bytes; none: they are none's. -/
def I.allF : Nat → ByteArray → Option (List I.Q)
  | 0, s => if s.size = 0 then some [] else none
  | f + 1, s => if s.size = 0 then some [] else if I.dOk s = true then (I.allF f (I.rest s)).map (I.dQ s :: ·) else none
def I.allI (s : ByteArray) : Option (List I.Q) := I.allF s.size s
theorem I.allF_fuel : ∀ (f g : Nat) (s : ByteArray), s.size ≤ f → s.size ≤ g → I.allF f s = I.allF g s
  | 0, 0, s, _, _ => rfl
  | 0, g + 1, s, h, _ => by
    have : s.size = 0 := by omega
    simp [I.allF, this]
  | f + 1, 0, s, _, h => by
    have : s.size = 0 := by omega
    simp [I.allF, this]
  | f + 1, g + 1, s, h1, h2 => by
    simp only [I.allF]
    split
    · rfl
    · split
      · rename_i hd
        have := I.rest_size s hd
        rw [I.allF_fuel f g (I.rest s) (by omega) (by omega)]
      · rfl
theorem I.allI_zero {s : ByteArray} (h : s.size = 0) : I.allI s = some [] := by unfold I.allI; rw [h]; simp [I.allF, h]
theorem I.allI_no {s : ByteArray} (h : 0 < s.size) (hd : I.dOk s = false) : I.allI s = none := by
  unfold I.allI
  obtain ⟨k, hk⟩ : ∃ k, s.size = k + 1 := ⟨s.size - 1, by omega⟩
  rw [hk]
  simp only [I.allF]
  rw [if_neg (by omega), if_neg (by rw [hd]; decide)]
theorem I.allI_yes {s : ByteArray} (h : 0 < s.size) (hd : I.dOk s = true) : I.allI s = (I.allI (I.rest s)).map (I.dQ s :: ·) := by
  unfold I.allI
  have hr := I.rest_size s hd
  obtain ⟨k, hk⟩ : ∃ k, s.size = k + 1 := ⟨s.size - 1, by omega⟩
  rw [hk]
  simp only [I.allF]
  rw [if_neg (by omega), if_pos hd, I.allF_fuel k (I.rest s).size (I.rest s) (by omega) (Nat.le_refl _)]
theorem I.dOk_pos {s : ByteArray} (h : I.dOk s = true) : 0 < s.size := by
  have := (I.enc_dec h).2.2; omega

/-- What All answers: a list of its own, or nothing and 9. -/
def I.allPost (s : ByteArray) (B : Nat) (e : Ending) (w' : World) : Prop :=
  match I.allI s with
  | some l => ∃ v, e = .returned (.tuple #[v, .int .i64 0]) ∧ w'.ownsRow B 42 4 v l.length (I.rows l)
  | none => e = .returned (.tuple #[.slice none 0 0, .int .i64 9])

theorem ins_cells (w : World) (q : I.Q) (o : Nat) (ho : o = w.heap.size) : ∀ j u, q.cs[j]? = some u → (w.alloc (.cells #[.int .i64 q.op, .int .i64 q.a, .int .i64 q.b, .int .i64 q.n] 42)).cell? ((⟨o, 0, none⟩ : Addr).add j) = some u := by
  subst ho
  intro j u hu
  rw [Addr.add_lit]
  simp
  exact hu

end Go.Proofs.YtgjingleolhkbaaGreatDoor.J

/- All instructions of bytes that were put together: no walk. -/
namespace Go.Proofs.YtgjingleolhkbaaGreatDoor.J
set_option maxRecDepth 100000
open Go.RowKit

theorem byts_append (s t : ByteArray) : byts (s ++ t) = byts s ++ byts t := by simp [W.tail]
theorem byts_rest (s : ByteArray) : byts (I.rest s) = (byts s).drop (I.psize (I.hd s)).toNat := by
  unfold I.rest
  rw [byts_extract, List.take_of_length_le]
  rw [List.length_drop, byts_len]
  exact Nat.le_refl _
/-- An instruction's form, and whatever stands behind it. -/
theorem I.allI_enc {op a b n : Int} (h : I.encE op a b n = 0) (s t : ByteArray) (hs : byts s = I.encV op a b n ++ byts t) : I.allI s = (I.allI t).map (⟨op, a, b, n⟩ :: ·) := by
  obtain ⟨d1, d2, d3, d4, d5⟩ := I.dec_enc h s _ hs
  rw [I.allI_yes (I.dOk_pos d1) d1]
  have e1 : I.dQ s = ⟨op, a, b, n⟩ := by unfold I.dQ; rw [d2, d3, d4, d5]
  have e2 : I.rest s = t := by
    apply byts_inj
    rw [byts_rest, hs, d2]
    have hl := I.enc_len h
    rw [List.drop_append_of_le_length (by omega), List.drop_eq_nil_of_le (by omega), List.nil_append]
  rw [e1, e2]
theorem arr_thru {W w3 : World} (hb : Below W.heap.size W w3) {b : Nat} {cs : Array Value} (h : ∀ o, W.cell? ⟨b, o, none⟩ = cs[o]?) (h0 : 0 < cs.size := by simp) : ∀ o, w3.cell? ⟨b, o, none⟩ = cs[o]? := fun o => by
  have h1 : W.cell? ⟨b, 0, none⟩ = some cs[0] := (h 0).trans (Array.getElem?_eq_getElem h0)
  exact (hb.cell (p := ⟨b, o, none⟩) (World.block_lt_of_cell? W ⟨b, 0, none⟩ h1)).trans (h o)
theorem I.allI_nil : I.allI (strOfNums []) = some [] := I.allI_zero rfl
/-- What was read is written as it stood, one instruction behind the other. -/
def I.Q.E (q : I.Q) : Int := I.encE q.op q.a q.b q.n
def I.Q.V (q : I.Q) : List Int := I.encV q.op q.a q.b q.n
theorem I.allF_some : ∀ (f : Nat) (s : ByteArray) (l : List I.Q), I.allF f s = some l → (∀ q ∈ l, q.E = 0) ∧ byts s = l.flatMap I.Q.V
  | 0, s, l, h => by
    simp only [I.allF] at h
    split at h
    · rename_i h0
      obtain rfl := Option.some.inj h
      refine ⟨by simp, ?_⟩
      have := byts_len s
      simp only [List.flatMap_nil]
      exact List.eq_nil_of_length_eq_zero (this.trans h0)
    · cases h
  | f + 1, s, l, h => by
    simp only [I.allF] at h
    split at h
    · rename_i h0
      obtain rfl := Option.some.inj h
      refine ⟨by simp, ?_⟩
      have := byts_len s
      simp only [List.flatMap_nil]
      exact List.eq_nil_of_length_eq_zero (this.trans h0)
    · split at h
      · rename_i hd
        obtain ⟨r, hr, rfl⟩ := Option.map_eq_some_iff.1 h
        obtain ⟨h1, h2⟩ := I.allF_some f (I.rest s) r hr
        obtain ⟨e1, e2, -, -⟩ := I.enc_dec hd
        refine ⟨?_, ?_⟩
        · intro q hq
          rcases List.mem_cons.1 hq with rfl | hq
          · exact e1
          · exact h1 q hq
        · rw [List.flatMap_cons, ← h2, byts_rest]
          show _ = I.encV (I.hd s) (I.dA s) (I.dB s) (I.dN s) ++ _
          rw [e2, List.take_append_drop]
      · cases h
theorem I.allI_some {s : ByteArray} {l : List I.Q} (h : I.allI s = some l) : (∀ q ∈ l, q.E = 0) ∧ byts s = l.flatMap I.Q.V := I.allF_some _ s l h
theorem I.enc_ne {q : I.Q} (h : q.E = 0) : 1 ≤ q.V.length := by
  have := I.enc_len h
  have h2 : 1 ≤ I.psize q.op := by unfold I.psize; have := I.num_range q.op; split <;> omega
  unfold I.Q.V
  omega
theorem I.flat_len (l : List I.Q) (h : ∀ q ∈ l, q.E = 0) : l.length ≤ (l.flatMap I.Q.V).length := by
  induction l with
  | nil => simp
  | cons q r ih =>
    have := I.enc_ne (h q List.mem_cons_self)
    have := ih (fun x hx => h x (List.mem_cons_of_mem _ hx))
    simp only [List.flatMap_cons, List.length_append, List.length_cons]
    omega
theorem I.rows_at (l : List I.Q) (k : Nat) (hk : k < l.length) (j : Nat) (hj : j < 4) : (I.rows l)[k * 4 + j]? = (l[k]).cs[j]? := by
  induction l generalizing k with
  | nil => simp at hk
  | cons q r ih =>
    simp only [I.rows, List.flatMap_cons]
    cases k with
    | zero => rw [List.getElem?_append_left (by simp [I.Q.cs]; omega)]; simp
    | succ k =>
      rw [List.getElem?_append_right (by simp [I.Q.cs]; omega)]
      have e : (k + 1) * 4 + j - q.cs.length = k * 4 + j := by simp [I.Q.cs]; omega
      rw [e]
      simpa [I.rows] using ih k (by simpa using hk)
theorem I.rows_cut (l : List I.Q) (k : Nat) (hk : k < l.length) : l.flatMap I.Q.V = (l.take k).flatMap I.Q.V ++ (l[k]).V ++ (l.drop (k + 1)).flatMap I.Q.V := by
  conv => lhs; rw [← List.take_append_drop k l]
  rw [List.flatMap_append, List.drop_eq_getElem_cons hk, List.flatMap_cons, List.append_assoc]
theorem I.take_snoc (l : List I.Q) (k : Nat) (hk : k < l.length) : (l.take (k + 1)).flatMap I.Q.V = (l.take k).flatMap I.Q.V ++ (l[k]).V := by
  rw [List.take_succ_eq_append_getElem hk, List.flatMap_append]
  simp
theorem I.cut_zero (s : ByteArray) : I.cut s 0 = s := by
  unfold I.cut
  apply byts_inj
  rw [byts_extract]
  simp
  rw [List.take_of_length_le (by rw [byts_len]; exact Nat.le_refl _)]
/-- Decode turns Encode back. -/
theorem I.dec_back {op a b n : Int} (h : I.encE op a b n = 0) : I.decR (strOfNums (I.encV op a b n)) 0 = decV (insW op a b n) ((strOfNums (I.encV op a b n)).size : Int) 0 := by
  have hb := byts_str _ (I.enc_bd (op := op) (a := a) (b := b) (n := n))
  obtain ⟨d1, d2, d3, d4, d5⟩ := I.dec_enc h (strOfNums (I.encV op a b n)) [] (by rw [hb]; simp)
  unfold I.decR
  rw [if_neg (by omega), I.cut_zero, if_pos d1, d2, d3, d4, d5, ← I.enc_len h, strOfNums_size]
  simp
theorem enc_size {op a b n : Int} : (strOfNums (I.encV op a b n)).size ≤ 10 := by
  rw [strOfNums_size]
  unfold I.encV
  split
  · split
    · have := I.regB_len (I.regs op) a b
      have := I.numW_len (I.num op) n
      simp; omega
    · simp
  · simp
end Go.Proofs.YtgjingleolhkbaaGreatDoor.J

/- The document's Decode and All, whatever the bytes. -/
namespace Go.Proofs.YtgjingleolhkbaaGreatDoor.J
set_option maxRecDepth 100000
open Go.RowKit
set_option linter.unusedVariables false
attribute [local go_sem ↓] Go.wp_at_zero Go.wp_at_succ

set_option maxRecDepth 100000 in
set_option maxHeartbeats 8000000 in
theorem rdec_arg (s : ByteArray) (a : Int) (h : a < 0 ∨ (s.size : Int) < a) (w : World) :
    Calls Tryz.prog 43 #[.string s, .int .i64 a] w fun e w' => e = .returned (decV (insW 0 0 0 0) 0 1) ∧ Below w.heap.size w w' := by
  rcases (show a < 0 ∨ (0 ≤ a ∧ (s.size : Int) < a) by omega) with h | ⟨h, h'⟩
  all_goals
    go_enter Tryz.func43, Tryz.ntmps43
    go_wp2
    exact bodyPost_ret (v := decV (insW 0 0 0 0) 0 1) (by simp [results, Tryz.results43, go_sem]) rfl ⟨rfl, bl1 _ _⟩

set_option maxRecDepth 100000 in
set_option maxHeartbeats 8000000 in
theorem rdec_end (s : ByteArray) (k : Nat) (h : k = s.size) (w : World) :
    Calls Tryz.prog 43 #[.string s, .int .i64 k] w fun e w' => e = .returned (decV (insW 0 0 0 0) 0 9) ∧ Below w.heap.size w w' := by
  have h1 : (k : Int) = (s.size : Int) := by omega
  clear h
  go_enter Tryz.func43, Tryz.ntmps43
  go_wp2
  exact bodyPost_ret (v := decV (insW 0 0 0 0) 0 9) (by simp [results, Tryz.results43, go_sem]) rfl ⟨rfl, bl1 _ _⟩

set_option maxRecDepth 100000 in
set_option maxHeartbeats 8000000 in
theorem rdec_short (s : ByteArray) (k : Nat) (hk : k < s.size) (hm : s.size ≤ 9223372036854775000) (op z : Int) (ho : (s[k].toNat : Int) = op) (hz : I.size op = z) (h : z = 0 ∨ (¬ z = 0 ∧ 0 ≤ z ∧ z ≤ 10 ∧ (s.size : Int) < k + z)) (w : World) :
    Calls Tryz.prog 43 #[.string s, .int .i64 k] w fun e w' => e = .returned (decV (insW 0 0 0 0) 0 9) ∧ Below w.heap.size w w' := by
  have HZ : Hid (I.size op = z) := hz
  have ho2 : (s[k].toNat : Int) ≤ 255 := by have := s[k].toNat_lt; omega
  have h0 : (0 : Int) ≤ (k : Int) := by omega
  have h1 : (k : Int) ≤ (s.size : Int) := by omega
  have h2 : ¬ (k : Int) = (s.size : Int) := by omega
  clear hz
  rcases h with h | ⟨h, h3, h4, h5⟩
  · subst h
    go_enter Tryz.func43, Tryz.ntmps43
    go_wp2_with (go_at_call 64; refine (rsize_any _ _).mono ?_; rintro e w' ⟨rfl, rfl⟩; rw [HZ.out])
    refine bodyPost_ret (v := decV (insW 0 0 0 0) 0 9) (by simp [results, Tryz.results43, go_sem]) rfl ⟨rfl, ?_⟩
    exact bl2 _ _ _
  · go_enter Tryz.func43, Tryz.ntmps43
    go_wp2_with (go_at_call 64; refine (rsize_any _ _).mono ?_; rintro e w' ⟨rfl, rfl⟩; rw [HZ.out])
    refine bodyPost_ret (v := decV (insW 0 0 0 0) 0 9) (by simp [results, Tryz.results43, go_sem]) rfl ⟨rfl, ?_⟩
    exact bl2 _ _ _

/-- What the two ways of telling come to: the instruction is one, just if it has a form. -/
theorem I.dOk_enc {c : ByteArray} (h0 : 0 < c.size) (h1 : 1 ≤ I.hd c ∧ I.hd c ≤ 33) (h2 : I.psize (I.hd c) ≤ (c.size : Int)) : I.dOk c = true ↔ I.encE (I.hd c) (I.dA c) (I.dB c) (I.dN c) = 0 := by
  constructor
  · intro h; exact (I.enc_dec h).1
  · intro h
    obtain ⟨ho, hb, hn, hv⟩ := I.enc_parts h
    have hr := I.bears_regs hb
    unfold I.dOk
    rw [decide_eq_true ⟨h0, h1.1, h1.2, h2⟩, I.isr_yes hr.1, I.isr_yes hr.2]
    unfold I.numOk at hn
    unfold I.rdOk
    by_cases e : I.num (I.hd c) = 0
    · rw [if_pos e]; rfl
    · rw [if_neg e] at hn
      rw [if_neg e]
      have hN : W.numV (I.dS c) = I.dN c := by unfold I.dN I.rdN; rw [if_neg e]
      have hs : ((I.dS c).size : Int) = I.num (I.hd c) := by
        have hm := I.num_cases e
        have hp := I.psize_nat (I.hd c)
        rw [← byts_len]
        unfold I.dS
        rw [byts_extract, List.length_take, List.length_drop, byts_len, hp]
        omega
      rw [hN, (W.numV_at (I.num_cases e) hs).2]
      have := (Bool.and_eq_true_iff.1 hn).2
      simpa using this

theorem cut_hd (s : ByteArray) (k : Nat) (hk : k < s.size) : I.hd (I.cut s k) = (s[k].toNat : Int) := by
  unfold I.hd I.cut
  show (byts (s.extract (k : Int).toNat s.size)).headD 0 = _
  rw [byts_extract]
  have : (k : Int).toNat = k := by omega
  rw [this]
  have h1 : (byts s).drop k = (s[k].toNat : Int) :: (byts s).drop (k + 1) := by
    have := W.tail_cons s k hk
    simpa [W.tail, List.map_drop] using this
  rw [h1]
  obtain ⟨n, hn⟩ : ∃ n, s.size - k = n + 1 := ⟨s.size - k - 1, by omega⟩
  rw [hn]
  rfl
theorem cut_size (s : ByteArray) (k : Nat) (hk : k ≤ s.size) : (I.cut s k).size = s.size - k := by
  unfold I.cut
  simp
theorem cut_cut (s : ByteArray) (k i j : Nat) (hj : k + j ≤ s.size) : (I.cut s k).extract i j = s.extract (k + i) (k + j) := by
  apply byts_inj
  rw [byts_extract, byts_extract]
  unfold I.cut
  rw [byts_extract]
  have : (k : Int).toNat = k := by omega
  rw [this, List.drop_take, List.take_take, List.drop_drop]
  congr 1
  omega
theorem ext_hd (s : ByteArray) (k j : Nat) (hk : k < s.size) (hj : k < j) : I.hd (s.extract k j) = (s[k].toNat : Int) := by
  unfold I.hd
  show (byts (s.extract k j)).headD 0 = _
  rw [byts_extract]
  have h1 : (byts s).drop k = (s[k].toNat : Int) :: (byts s).drop (k + 1) := by
    have := W.tail_cons s k hk
    simpa [W.tail, List.map_drop] using this
  rw [h1]
  obtain ⟨n, hn⟩ : ∃ n, j - k = n + 1 := ⟨j - k - 1, by omega⟩
  rw [hn]
  rfl

theorem rdec_fin {s : ByteArray} {k : Nat} {op a b n z : Int} (hk : k < s.size) (hm : s.size ≤ 9223372036854775000) (h1 : 1 ≤ op ∧ op ≤ 33) (hz : I.psize op = z) (hs : (k : Int) + z ≤ (s.size : Int))
    (ho : I.hd (I.cut s k) = op) (ha : I.dA (I.cut s k) = a) (hb : I.dB (I.cut s k) = b) (hn : I.dN (I.cut s k) = n) :
    (if I.encE op a b n = 0 then decV (insW op a b n) ((k : Int) + z) 0 else decV (insW 0 0 0 0) 0 9) = I.decR s k := by
  have hcs := cut_size s k (by omega)
  have hd := I.dOk_enc (c := I.cut s k) (by omega) (by rw [ho]; exact h1) (by rw [ho, hz]; omega)
  unfold I.decR
  rw [ho, ha, hb, hn] at hd
  rw [if_neg (show ¬ ((k : Int) < 0 ∨ (s.size : Int) < (k : Int)) by omega), ho, ha, hb, hn, hz]
  by_cases h : I.encE op a b n = 0
  · rw [if_pos h, if_pos (hd.2 h)]
  · rw [if_neg h, if_neg (fun x => h (hd.1 x))]

theorem rdecj_1 (s : ByteArray) (k : Nat) (hk : k + 10 ≤ s.size) (hm : s.size ≤ 9223372036854775000) (op : Int) (h1 : 1 ≤ op ∧ op ≤ 33) (ho : (s[k].toNat : Int) = op) (hf : I.form op = 1) (w : World) :
    Calls Tryz.prog 43 #[.string s, .int .i64 k] w fun e w' => e = .returned (I.decR s k) ∧ Below w.heap.size w w' := by
  have hr : I.regs op = 1 := by unfold I.regs; rw [hf]; rfl
  have hn : I.num op = 8 := by unfold I.num; rw [hf]; rfl
  have hp : I.psize op = 10 := by unfold I.psize; rw [hr, hn]; rfl
  have hka : I.kAt op = 2 := by unfold I.kAt; rw [hp, hn]; rfl
  have hd : I.hd (I.cut s k) = op := (cut_hd s k (by omega)).trans ho
  refine (rdec_1 s k hk hm op ho hf w).mono ?_
  rintro e w' ⟨rfl, hb⟩
  refine ⟨?_, hb⟩
  congr 1
  refine rdec_fin (by omega) hm h1 hp (by omega) hd ?_ ?_ ?_
  · unfold I.dA I.rA
    rw [hd, hr]
    rw [if_neg (by decide), if_pos rfl, hka, cut_cut s k 1 2 (by omega), ext_hd s (k + 1) (k + 2) (by omega) (by omega)]
  · unfold I.dB I.rB
    rw [hd, hr]
    rfl
  · unfold I.dN I.rdN
    rw [hd, hn]
    rw [if_neg (by decide)]
    unfold I.dS
    rw [hd, hka, hp, show ((10 : Int)).toNat = 10 from rfl, cut_cut s k 2 10 (by omega)]

theorem rdecj_2 (s : ByteArray) (k : Nat) (hk : k + 2 ≤ s.size) (hm : s.size ≤ 9223372036854775000) (op : Int) (h1 : 1 ≤ op ∧ op ≤ 33) (ho : (s[k].toNat : Int) = op) (hf : I.form op = 2) (w : World) :
    Calls Tryz.prog 43 #[.string s, .int .i64 k] w fun e w' => e = .returned (I.decR s k) ∧ Below w.heap.size w w' := by
  have hr : I.regs op = 2 := by unfold I.regs; rw [hf]; rfl
  have hn : I.num op = 0 := by unfold I.num; rw [hf]; rfl
  have hp : I.psize op = 2 := by unfold I.psize; rw [hr, hn]; rfl
  have hka : I.kAt op = 2 := by unfold I.kAt; rw [hp, hn]; rfl
  have hd : I.hd (I.cut s k) = op := (cut_hd s k (by omega)).trans ho
  refine (rdec_2 s k hk hm op ho hf w).mono ?_
  rintro e w' ⟨rfl, hb⟩
  refine ⟨?_, hb⟩
  congr 1
  refine rdec_fin (by omega) hm h1 hp (by omega) hd ?_ ?_ ?_
  · unfold I.dA I.rA
    rw [hd, hr]
    rw [if_neg (by decide), if_neg (by decide), hka, cut_cut s k 1 2 (by omega), ext_hd s (k + 1) (k + 2) (by omega) (by omega)]
  · unfold I.dB I.rB
    rw [hd, hr]
    rw [if_pos rfl, hka, cut_cut s k 1 2 (by omega), ext_hd s (k + 1) (k + 2) (by omega) (by omega)]
  · unfold I.dN I.rdN
    rw [hd, hn]
    rfl

theorem rdecj_3 (s : ByteArray) (k : Nat) (hk : k + 6 ≤ s.size) (hm : s.size ≤ 9223372036854775000) (op : Int) (h1 : 1 ≤ op ∧ op ≤ 33) (ho : (s[k].toNat : Int) = op) (hf : I.form op = 3) (w : World) :
    Calls Tryz.prog 43 #[.string s, .int .i64 k] w fun e w' => e = .returned (I.decR s k) ∧ Below w.heap.size w w' := by
  have hr : I.regs op = 2 := by unfold I.regs; rw [hf]; rfl
  have hn : I.num op = 4 := by unfold I.num; rw [hf]; rfl
  have hp : I.psize op = 6 := by unfold I.psize; rw [hr, hn]; rfl
  have hka : I.kAt op = 2 := by unfold I.kAt; rw [hp, hn]; rfl
  have hd : I.hd (I.cut s k) = op := (cut_hd s k (by omega)).trans ho
  refine (rdec_3 s k hk hm op ho hf w).mono ?_
  rintro e w' ⟨rfl, hb⟩
  refine ⟨?_, hb⟩
  congr 1
  refine rdec_fin (by omega) hm h1 hp (by omega) hd ?_ ?_ ?_
  · unfold I.dA I.rA
    rw [hd, hr]
    rw [if_neg (by decide), if_neg (by decide), hka, cut_cut s k 1 2 (by omega), ext_hd s (k + 1) (k + 2) (by omega) (by omega)]
  · unfold I.dB I.rB
    rw [hd, hr]
    rw [if_pos rfl, hka, cut_cut s k 1 2 (by omega), ext_hd s (k + 1) (k + 2) (by omega) (by omega)]
  · unfold I.dN I.rdN
    rw [hd, hn]
    rw [if_neg (by decide)]
    unfold I.dS
    rw [hd, hka, hp, show ((6 : Int)).toNat = 6 from rfl, cut_cut s k 2 6 (by omega)]

theorem rdecj_4 (s : ByteArray) (k : Nat) (hk : k + 6 ≤ s.size) (hm : s.size ≤ 9223372036854775000) (op : Int) (h1 : 1 ≤ op ∧ op ≤ 33) (ho : (s[k].toNat : Int) = op) (hf : I.form op = 4) (w : World) :
    Calls Tryz.prog 43 #[.string s, .int .i64 k] w fun e w' => e = .returned (I.decR s k) ∧ Below w.heap.size w w' := by
  have hr : I.regs op = 1 := by unfold I.regs; rw [hf]; rfl
  have hn : I.num op = 4 := by unfold I.num; rw [hf]; rfl
  have hp : I.psize op = 6 := by unfold I.psize; rw [hr, hn]; rfl
  have hka : I.kAt op = 2 := by unfold I.kAt; rw [hp, hn]; rfl
  have hd : I.hd (I.cut s k) = op := (cut_hd s k (by omega)).trans ho
  refine (rdec_4 s k hk hm op ho hf w).mono ?_
  rintro e w' ⟨rfl, hb⟩
  refine ⟨?_, hb⟩
  congr 1
  refine rdec_fin (by omega) hm h1 hp (by omega) hd ?_ ?_ ?_
  · unfold I.dA I.rA
    rw [hd, hr]
    rw [if_neg (by decide), if_pos rfl, hka, cut_cut s k 1 2 (by omega), ext_hd s (k + 1) (k + 2) (by omega) (by omega)]
  · unfold I.dB I.rB
    rw [hd, hr]
    rfl
  · unfold I.dN I.rdN
    rw [hd, hn]
    rw [if_neg (by decide)]
    unfold I.dS
    rw [hd, hka, hp, show ((6 : Int)).toNat = 6 from rfl, cut_cut s k 2 6 (by omega)]

theorem rdecj_5 (s : ByteArray) (k : Nat) (hk : k + 5 ≤ s.size) (hm : s.size ≤ 9223372036854775000) (op : Int) (h1 : 1 ≤ op ∧ op ≤ 33) (ho : (s[k].toNat : Int) = op) (hf : I.form op = 5) (w : World) :
    Calls Tryz.prog 43 #[.string s, .int .i64 k] w fun e w' => e = .returned (I.decR s k) ∧ Below w.heap.size w w' := by
  have hr : I.regs op = 0 := by unfold I.regs; rw [hf]; rfl
  have hn : I.num op = 4 := by unfold I.num; rw [hf]; rfl
  have hp : I.psize op = 5 := by unfold I.psize; rw [hr, hn]; rfl
  have hka : I.kAt op = 1 := by unfold I.kAt; rw [hp, hn]; rfl
  have hd : I.hd (I.cut s k) = op := (cut_hd s k (by omega)).trans ho
  refine (rdec_5 s k hk hm op ho hf w).mono ?_
  rintro e w' ⟨rfl, hb⟩
  refine ⟨?_, hb⟩
  congr 1
  refine rdec_fin (by omega) hm h1 hp (by omega) hd ?_ ?_ ?_
  · unfold I.dA I.rA
    rw [hd, hr]
    rfl
  · unfold I.dB I.rB
    rw [hd, hr]
    rfl
  · unfold I.dN I.rdN
    rw [hd, hn]
    rw [if_neg (by decide)]
    unfold I.dS
    rw [hd, hka, hp, show ((5 : Int)).toNat = 5 from rfl, cut_cut s k 1 5 (by omega)]

theorem rdecj_6 (s : ByteArray) (k : Nat) (hk : k + 1 ≤ s.size) (hm : s.size ≤ 9223372036854775000) (op : Int) (h1 : 1 ≤ op ∧ op ≤ 33) (ho : (s[k].toNat : Int) = op) (hf : I.form op = 6) (w : World) :
    Calls Tryz.prog 43 #[.string s, .int .i64 k] w fun e w' => e = .returned (I.decR s k) ∧ Below w.heap.size w w' := by
  have hr : I.regs op = 0 := by unfold I.regs; rw [hf]; rfl
  have hn : I.num op = 0 := by unfold I.num; rw [hf]; rfl
  have hp : I.psize op = 1 := by unfold I.psize; rw [hr, hn]; rfl
  have hka : I.kAt op = 1 := by unfold I.kAt; rw [hp, hn]; rfl
  have hd : I.hd (I.cut s k) = op := (cut_hd s k (by omega)).trans ho
  refine (rdec_6 s k hk hm op ho hf w).mono ?_
  rintro e w' ⟨rfl, hb⟩
  refine ⟨?_, hb⟩
  congr 1
  refine rdec_fin (by omega) hm h1 hp (by omega) hd ?_ ?_ ?_
  · unfold I.dA I.rA
    rw [hd, hr]
    rfl
  · unfold I.dB I.rB
    rw [hd, hr]
    rfl
  · unfold I.dN I.rdN
    rw [hd, hn]
    rfl

theorem rdecj_7 (s : ByteArray) (k : Nat) (hk : k + 2 ≤ s.size) (hm : s.size ≤ 9223372036854775000) (op : Int) (h1 : 1 ≤ op ∧ op ≤ 33) (ho : (s[k].toNat : Int) = op) (hf : I.form op = 7) (w : World) :
    Calls Tryz.prog 43 #[.string s, .int .i64 k] w fun e w' => e = .returned (I.decR s k) ∧ Below w.heap.size w w' := by
  have hr : I.regs op = 0 := by unfold I.regs; rw [hf]; rfl
  have hn : I.num op = 1 := by unfold I.num; rw [hf]; rfl
  have hp : I.psize op = 2 := by unfold I.psize; rw [hr, hn]; rfl
  have hka : I.kAt op = 1 := by unfold I.kAt; rw [hp, hn]; rfl
  have hd : I.hd (I.cut s k) = op := (cut_hd s k (by omega)).trans ho
  refine (rdec_7 s k hk hm op ho hf w).mono ?_
  rintro e w' ⟨rfl, hb⟩
  refine ⟨?_, hb⟩
  congr 1
  refine rdec_fin (by omega) hm h1 hp (by omega) hd ?_ ?_ ?_
  · unfold I.dA I.rA
    rw [hd, hr]
    rfl
  · unfold I.dB I.rB
    rw [hd, hr]
    rfl
  · unfold I.dN I.rdN
    rw [hd, hn]
    rw [if_neg (by decide)]
    unfold I.dS
    rw [hd, hka, hp, show ((2 : Int)).toNat = 2 from rfl, cut_cut s k 1 2 (by omega)]

theorem rdecj_8 (s : ByteArray) (k : Nat) (hk : k + 3 ≤ s.size) (hm : s.size ≤ 9223372036854775000) (op : Int) (h1 : 1 ≤ op ∧ op ≤ 33) (ho : (s[k].toNat : Int) = op) (hf : I.form op = 8) (w : World) :
    Calls Tryz.prog 43 #[.string s, .int .i64 k] w fun e w' => e = .returned (I.decR s k) ∧ Below w.heap.size w w' := by
  have hr : I.regs op = 1 := by unfold I.regs; rw [hf]; rfl
  have hn : I.num op = 1 := by unfold I.num; rw [hf]; rfl
  have hp : I.psize op = 3 := by unfold I.psize; rw [hr, hn]; rfl
  have hka : I.kAt op = 2 := by unfold I.kAt; rw [hp, hn]; rfl
  have hd : I.hd (I.cut s k) = op := (cut_hd s k (by omega)).trans ho
  refine (rdec_8 s k hk hm op ho hf w).mono ?_
  rintro e w' ⟨rfl, hb⟩
  refine ⟨?_, hb⟩
  congr 1
  refine rdec_fin (by omega) hm h1 hp (by omega) hd ?_ ?_ ?_
  · unfold I.dA I.rA
    rw [hd, hr]
    rw [if_neg (by decide), if_pos rfl, hka, cut_cut s k 1 2 (by omega), ext_hd s (k + 1) (k + 2) (by omega) (by omega)]
  · unfold I.dB I.rB
    rw [hd, hr]
    rfl
  · unfold I.dN I.rdN
    rw [hd, hn]
    rw [if_neg (by decide)]
    unfold I.dS
    rw [hd, hka, hp, show ((3 : Int)).toNat = 3 from rfl, cut_cut s k 2 3 (by omega)]

theorem rdecj_9 (s : ByteArray) (k : Nat) (hk : k + 2 ≤ s.size) (hm : s.size ≤ 9223372036854775000) (op : Int) (h1 : 1 ≤ op ∧ op ≤ 33) (ho : (s[k].toNat : Int) = op) (hf : I.form op = 9) (w : World) :
    Calls Tryz.prog 43 #[.string s, .int .i64 k] w fun e w' => e = .returned (I.decR s k) ∧ Below w.heap.size w w' := by
  have hr : I.regs op = 1 := by unfold I.regs; rw [hf]; rfl
  have hn : I.num op = 0 := by unfold I.num; rw [hf]; rfl
  have hp : I.psize op = 2 := by unfold I.psize; rw [hr, hn]; rfl
  have hka : I.kAt op = 2 := by unfold I.kAt; rw [hp, hn]; rfl
  have hd : I.hd (I.cut s k) = op := (cut_hd s k (by omega)).trans ho
  refine (rdec_9 s k hk hm op ho hf w).mono ?_
  rintro e w' ⟨rfl, hb⟩
  refine ⟨?_, hb⟩
  congr 1
  refine rdec_fin (by omega) hm h1 hp (by omega) hd ?_ ?_ ?_
  · unfold I.dA I.rA
    rw [hd, hr]
    rw [if_neg (by decide), if_pos rfl, hka, cut_cut s k 1 2 (by omega), ext_hd s (k + 1) (k + 2) (by omega) (by omega)]
  · unfold I.dB I.rB
    rw [hd, hr]
    rfl
  · unfold I.dN I.rdN
    rw [hd, hn]
    rfl

theorem rdecj_10 (s : ByteArray) (k : Nat) (hk : k + 2 ≤ s.size) (hm : s.size ≤ 9223372036854775000) (op : Int) (h1 : 1 ≤ op ∧ op ≤ 33) (ho : (s[k].toNat : Int) = op) (hf : I.form op = 10) (w : World) :
    Calls Tryz.prog 43 #[.string s, .int .i64 k] w fun e w' => e = .returned (I.decR s k) ∧ Below w.heap.size w w' := by
  have hr : I.regs op = 0 := by unfold I.regs; rw [hf]; rfl
  have hn : I.num op = 1 := by unfold I.num; rw [hf]; rfl
  have hp : I.psize op = 2 := by unfold I.psize; rw [hr, hn]; rfl
  have hka : I.kAt op = 1 := by unfold I.kAt; rw [hp, hn]; rfl
  have hd : I.hd (I.cut s k) = op := (cut_hd s k (by omega)).trans ho
  refine (rdec_10 s k hk hm op ho hf w).mono ?_
  rintro e w' ⟨rfl, hb⟩
  refine ⟨?_, hb⟩
  congr 1
  refine rdec_fin (by omega) hm h1 hp (by omega) hd ?_ ?_ ?_
  · unfold I.dA I.rA
    rw [hd, hr]
    rfl
  · unfold I.dB I.rB
    rw [hd, hr]
    rfl
  · unfold I.dN I.rdN
    rw [hd, hn]
    rw [if_neg (by decide)]
    unfold I.dS
    rw [hd, hka, hp, show ((2 : Int)).toNat = 2 from rfl, cut_cut s k 1 2 (by omega)]

theorem rdecode_any (s : ByteArray) (a : Int) (hm : s.size ≤ 9223372036854775000) (w : World) :
    Calls Tryz.prog 43 #[.string s, .int .i64 a] w fun e w' => e = .returned (I.decR s a) ∧ Below w.heap.size w w' := by
  by_cases h : a < 0 ∨ (s.size : Int) < a
  · unfold I.decR
    rw [if_pos h]
    exact rdec_arg s a h w
  · obtain ⟨k, rfl⟩ : ∃ k : Nat, a = k := ⟨a.toNat, by omega⟩
    by_cases he : k = s.size
    · have hc := cut_size s k (by omega)
      have hd : I.dOk (I.cut s k) = false := by
        unfold I.dOk
        rw [decide_eq_false (by rintro ⟨h1, -⟩; omega)]
        rfl
      unfold I.decR
      rw [if_neg h, if_neg (by rw [hd]; decide)]
      exact rdec_end s k he w
    · have hk : k < s.size := by omega
      have ho : I.hd (I.cut s k) = (s[k].toNat : Int) := cut_hd s k hk
      have hc := cut_size s k (by omega)
      generalize hop : (s[k].toNat : Int) = op at *
      have hno : (1 ≤ op ∧ op ≤ 33 → (s.size : Int) < (k : Int) + I.psize op) → Calls Tryz.prog 43 #[.string s, .int .i64 k] w fun e w' => e = .returned (I.decR s k) ∧ Below w.heap.size w w' := by
        intro hsh
        have hd : I.dOk (I.cut s k) = false := by
          unfold I.dOk
          rw [ho, decide_eq_false (by rintro ⟨h1, h2, h3, h4⟩; have := hsh ⟨h2, h3⟩; omega)]
          rfl
        unfold I.decR
        rw [if_neg h, if_neg (by rw [hd]; decide)]
        refine rdec_short s k hk hm op (I.size op) hop rfl ?_ w
        by_cases h2 : 1 ≤ op ∧ op ≤ 33
        · have := I.size_pos h2.1 h2.2
          have h3 := hsh h2
          rw [I.psize_size op h2] at h3
          exact .inr ⟨by omega, by omega, by omega, h3⟩
        · exact .inl (I.size_none (by omega))
      by_cases h2 : 1 ≤ op ∧ op ≤ 33
      · by_cases h3 : (s.size : Int) < (k : Int) + I.psize op
        · exact hno (fun _ => h3)
        · have h4 := I.form_some h2.1 h2.2
          have h5 := I.form_range op
          have hps := I.psize_size op h2
          have hsz : I.size op = if I.form op = 0 then 0 else if I.hasA (I.form op) = true then 1 + (I.numB (I.form op) + 1) else 1 + I.numB (I.form op) := rfl
          rcases (show I.form op = 1 ∨ I.form op = 2 ∨ I.form op = 3 ∨ I.form op = 4 ∨ I.form op = 5 ∨ I.form op = 6 ∨ I.form op = 7 ∨ I.form op = 8 ∨ I.form op = 9 ∨ I.form op = 10 by omega) with e | e | e | e | e | e | e | e | e | e
          · have hz : I.size op = 10 := by rw [hsz, e]; rfl
            exact rdecj_1 s k (by omega) hm op h2 hop e w
          · have hz : I.size op = 2 := by rw [hsz, e]; rfl
            exact rdecj_2 s k (by omega) hm op h2 hop e w
          · have hz : I.size op = 6 := by rw [hsz, e]; rfl
            exact rdecj_3 s k (by omega) hm op h2 hop e w
          · have hz : I.size op = 6 := by rw [hsz, e]; rfl
            exact rdecj_4 s k (by omega) hm op h2 hop e w
          · have hz : I.size op = 5 := by rw [hsz, e]; rfl
            exact rdecj_5 s k (by omega) hm op h2 hop e w
          · have hz : I.size op = 1 := by rw [hsz, e]; rfl
            exact rdecj_6 s k (by omega) hm op h2 hop e w
          · have hz : I.size op = 2 := by rw [hsz, e]; rfl
            exact rdecj_7 s k (by omega) hm op h2 hop e w
          · have hz : I.size op = 3 := by rw [hsz, e]; rfl
            exact rdecj_8 s k (by omega) hm op h2 hop e w
          · have hz : I.size op = 2 := by rw [hsz, e]; rfl
            exact rdecj_9 s k (by omega) hm op h2 hop e w
          · have hz : I.size op = 2 := by rw [hsz, e]; rfl
            exact rdecj_10 s k (by omega) hm op h2 hop e w
      · exact hno (fun x => absurd x h2)

end Go.Proofs.YtgjingleolhkbaaGreatDoor.J

/- The document's All, whatever the bytes. -/
namespace Go.Proofs.YtgjingleolhkbaaGreatDoor.J
set_option maxRecDepth 100000
open Go.RowKit
set_option linter.unusedVariables false
attribute [local go_sem ↓] Go.wp_at_zero Go.wp_at_succ

theorem cut_rest (s : ByteArray) (k : Nat) (h : I.dOk (I.cut s k) = true) : I.rest (I.cut s k) = I.cut s ((k + (I.psize (I.hd (I.cut s k))).toNat : Nat) : Int) ∧ k < s.size ∧ k + (I.psize (I.hd (I.cut s k))).toNat ≤ s.size ∧ 1 ≤ (I.psize (I.hd (I.cut s k))).toNat := by
  have hr := I.rest_size _ h
  have hp := I.dOk_pos h
  have hk : k < s.size := by
    unfold I.cut at hp
    simp at hp
    omega
  have hc := cut_size s k (by omega)
  refine ⟨?_, hk, by omega, hr.2⟩
  unfold I.rest
  rw [hc, cut_cut s k _ (s.size - k) (by omega)]
  unfold I.cut
  congr 1
  · omega

set_option maxRecDepth 100000 in
set_option maxHeartbeats 8000000 in
theorem rall_any (s : ByteArray) (hm : s.size ≤ 4398046511104) (w : World) :
    Calls Tryz.prog 21 #[.string s] w fun e w' => I.allPost s w.heap.size e w' ∧ Below w.heap.size w w' := by
  obtain ⟨i0, hi, hz0, hz1, hz2⟩ := info_parts infoIns
  go_enter Tryz.func21, Tryz.ntmps21
  go_wp2
  go_loopg [4, 5] s.size (fun r lv av wr => ∃ (k : Nat) (done : List I.Q), av = .int .i64 k ∧ k ≤ s.size ∧ s.size - k ≤ r ∧ done.length ≤ k ∧ wr.ownsRow w.heap.size 42 4 lv done.length (I.rows done) ∧ Below w.heap.size w wr ∧ Hid (I.allI s = (I.allI (I.cut s k)).map (done ++ ·)))
  case atStart => exact ⟨0, [], rfl, Nat.zero_le _, by omega, by simp, World.ownsRow_nil _ _ _ _, Below.refl _ _, by show _ = _; rw [show ((0 : Nat) : Int) = 0 from rfl, I.cut_zero]; simp⟩
  case round =>
    obtain ⟨k, done, rfl, hk, hr, hdn, ho, hb, HA⟩ := hrel
    by_cases h0 : k = s.size
    · have hlt : ¬ (k : Int) < (s.size : Int) := by omega
      have HK : Hid (k = s.size) := h0
      clear h0
      go_wp2
      go_ret2
      refine ⟨?_, hb⟩
      unfold I.allPost
      rw [HA.out, I.allI_zero (by rw [cut_size s k hk, HK.out]; omega)]
      simp only [Option.map_some, List.append_nil]
      exact ⟨_, rfl, ho⟩
    · have hlt : (k : Int) < (s.size : Int) := by omega
      have HR : Hid (∀ w, Calls Tryz.prog 43 #[.string s, .int .i64 k] w fun e w' => e = .returned (I.decR s k) ∧ Below w.heap.size w w') := fun w => rdecode_any s k (by omega) w
      unfold I.decR at HR
      rw [if_neg (show ¬ ((k : Int) < 0 ∨ (s.size : Int) < (k : Int)) by omega)] at HR
      have hcs := cut_size s k hk
      cases hx : I.dOk (I.cut s k) with
      | false =>
        rw [hx, if_neg (by decide)] at HR
        have HX : Hid (I.dOk (I.cut s k) = false) := hx
        have HCS : Hid ((I.cut s k).size = s.size - k) := hcs
        clear hx hcs
        go_wp2_with (go_at_call 43; refine (HR.out _).mono ?_; rintro e w1 ⟨rfl, hb1⟩)
        go_ret2
        refine ⟨?_, (hb.trans (hb1.mono hb.size)).alloc (by have := hb.size; have := hb1.size; omega) _⟩
        unfold I.allPost
        rw [HA.out, I.allI_no (by rw [HCS.out]; omega) HX.out]
        rfl
      | true =>
        rw [hx, if_pos rfl] at HR
        obtain ⟨hrest, -, hp1, hp2⟩ := cut_rest s k hx
        have HQ : Hid (I.dQ (I.cut s k) = ⟨I.hd (I.cut s k), I.dA (I.cut s k), I.dB (I.cut s k), I.dN (I.cut s k)⟩) := rfl
        have HT : Hid (I.rest (I.cut s k) = I.cut s ((k + (I.psize (I.hd (I.cut s k))).toNat : Nat) : Int)) := hrest
        generalize hq : I.dQ (I.cut s k) = q at *
        have hqe := HQ.out
        have q1 : I.hd (I.cut s k) = q.op := by rw [hqe]
        have q2 : I.dA (I.cut s k) = q.a := by rw [hqe]
        have q3 : I.dB (I.cut s k) = q.b := by rw [hqe]
        have q4 : I.dN (I.cut s k) = q.n := by rw [hqe]
        rw [q1, q2, q3, q4] at HR
        rw [q1] at HT hp1 hp2
        have HX : Hid (I.dOk (I.cut s k) = true) := hx
        have HQQ : Hid (I.dQ (I.cut s k) = q) := hq
        clear q1 q2 q3 q4 hqe HQ hq hx hrest hcs
        obtain ⟨z, hz⟩ : ∃ z : Nat, I.psize q.op = z := ⟨(I.psize q.op).toNat, by omega⟩
        rw [hz] at HR HT hp1 hp2
        rw [show ((z : Int)).toNat = z by omega] at HT hp1 hp2
        clear hz
        go_wp2_with fail
        refine (HR.out _).mono ?_
        rintro e w1 ⟨rfl, hb1⟩
        have ho1 := own_kept ho hb1
        have hs1 := hb1.size
        have hs0 := hb.size
        have hbb : Below w.heap.size w w1 := hb.trans (hb1.mono hs0)
        clear ho hb hb1
        go_wp2_with (first | (at_builtin; refine wpList_append_own _ rfl _ _ 47 rfl w.heap.size 42 i0 _ 4 32 Tryz.underlying47 hi hz0 hz1 hz2 rfl (by decide) _ _ _ rfl ((ho1.alloc _).alloc _) ⟨w1.heap.size + 1, 0, none⟩ 1 1 q.cs rfl rfl (ins_cells _ q _ (by simp)) (cs_one q) (by unfold maxLen; omega) (by omega) (by simp; omega) ?_) | go_in)
        intro v2 w2 ho2 hg2 _
        have hb2 : Below w.heap.size w w2 := below_own ((hbb.alloc (by omega) _).alloc (by simp; omega) _) ((ho1.alloc _).alloc _) hg2 (by simp; omega)
        rw [← I.rows_snoc] at ho2
        have ho3 : w2.ownsRow w.heap.size 42 4 v2 (done ++ [q]).length (I.rows (done ++ [q])) := by simpa using ho2
        clear ho2 hg2 ho1 hbb
        go_wp2
        go_roundg (s.size - (k + z))
        case measure => omega
        case rel =>
          refine ⟨k + z, done ++ [q], by first | rfl | (congr 1; omega), hp1, Nat.le_refl _, by simp; omega, ho3, hb2, ?_⟩
          show I.allI s = _
          rw [HA.out, I.allI_yes (I.dOk_pos HX.out) HX.out, HQQ.out, Option.map_map, HT.out]
          congr 1
          funext l
          simp

end Go.Proofs.YtgjingleolhkbaaGreatDoor.J

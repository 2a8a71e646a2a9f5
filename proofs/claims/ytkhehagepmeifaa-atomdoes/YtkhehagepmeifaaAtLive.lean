/- What live comes to; lists of one lock, of one queue. -/
import Derived.Test.YtkhehagepmeifaaAtDo
import Derived.Test.YtkhehagepmeifaaAtSame
namespace Go.Proofs.Ytkhehagepmeifaa
open Go.RowKit Go.Maps Go.Lib
set_option linter.unusedVariables false
set_option linter.unusedSimpArgs false

theorem do_ats {w : World} {a : Option Addr} {l c : Nat} {os : List At} (h : AtsV w a l c os) (hl : l ≤ 1048576) (hi : ∀ x ∈ os, x.items.length * 8 ≤ 140737488355328) {th d : Int} {nm : ByteArray} {arg : Int} (ha : (Lit.int .i64 arg).wf = true) {os' : List At} {n1 n2 : Int} (hdo : doA os th d nm arg = (os', n1, n2)) :
    Calls Try.prog 11 #[.slice a l c, .int .i64 th, .int .i64 d, .string nm, .int .i64 arg] w fun e w' => e = .returned (.tuple #[.slice (some ⟨w.heap.size + 1, 0, none⟩) l l, .int .i64 n1, .int .i64 n2]) ∧ AtsV w' (some ⟨w.heap.size + 1, 0, none⟩) l l os' ∧ Below w.heap.size w w' := by
  refine (do_any h hl hi th d nm arg ha).mono ?_
  rintro e y ⟨rfl, hr, hb⟩
  have hf := doA_fit (th := th) (d := d) (nm := nm) (arg := arg) h.fits ha
  rw [hdo] at hr hf ⊢
  exact ⟨rfl, hr.ats hf, hb⟩

theorem fit_lit (nm : ByteArray) (hn : nm.size ≤ maxLen) {cp : Int} (hc : (Lit.int .i64 cp).wf = true) {ow : Int} (ho : (Lit.int .i64 ow).wf = true) : AtFit ⟨nm, cp, ow, []⟩ := ⟨hn, hc, ho, by simp⟩
theorem ats_one (w : World) (nm : ByteArray) (cp ow : Int) (hf : AtFit ⟨nm, cp, ow, []⟩) : AtsV (w.alloc (.cells #[.string nm, .int .i64 cp, .int .i64 ow, .slice none 0 0] 35)) (some ⟨w.heap.size, 0, none⟩) 1 1 [⟨nm, cp, ow, []⟩] := by
  refine ⟨rfl, by simpa using hf, fun e => (by cases e), ⟨Nat.le_refl _, by decide⟩, .inr ⟨w.heap.size, 0, rfl, fun i hi => ?_⟩⟩
  obtain rfl : i = 0 := by omega
  exact ⟨cell_last rfl rfl, cell_last rfl rfl, cell_last rfl rfl, none, 0, 0, cell_last rfl rfl, ⟨rfl, by simp [noAt], fun _ => ⟨rfl, rfl⟩, ⟨Nat.le_refl _, by decide⟩, .inl rfl⟩⟩
theorem ats_two (w : World) (nm nm' : ByteArray) (cp ow cp' ow' : Int) (hf : AtFit ⟨nm, cp, ow, []⟩) (hf' : AtFit ⟨nm', cp', ow', []⟩) : AtsV (w.alloc (.cells #[.string nm, .int .i64 cp, .int .i64 ow, .slice none 0 0, .string nm', .int .i64 cp', .int .i64 ow', .slice none 0 0] 35)) (some ⟨w.heap.size, 0, none⟩) 2 2 [⟨nm, cp, ow, []⟩, ⟨nm', cp', ow', []⟩] := by
  refine ⟨rfl, ?_, fun e => (by cases e), ⟨Nat.le_refl _, by decide⟩, .inr ⟨w.heap.size, 0, rfl, fun i hi => ?_⟩⟩
  · intro x hx
    simp at hx
    rcases hx with rfl | rfl
    · exact hf
    · exact hf'
  · obtain rfl | rfl : i = 0 ∨ i = 1 := by omega
    all_goals exact ⟨cell_last rfl rfl, cell_last rfl rfl, cell_last rfl rfl, none, 0, 0, cell_last rfl rfl, ⟨rfl, by simp [noAt], fun _ => ⟨rfl, rfl⟩, ⟨Nat.le_refl _, by decide⟩, .inl rfl⟩⟩

/-- A lock alone, a queue alone. -/
def nmL : ByteArray := { data := #[108] }
def nmQ : ByteArray := { data := #[113] }
def lkA (o : Int) : List At := [⟨nmL, 0, o, []⟩]
def quA (n : Int) (zs : List Int) : List At := [⟨nmQ, n, 0, zs⟩]
theorem may_lk {o : Int} (h : 0 ≤ o) (h' : o ≤ 4) : mayAll (lkA o) = true := by
  simp [mayAll, lkA, atOk, freeName, oneOk, kindOk, nmL, ByteArray.size, h, h']
theorem may_qu {n : Int} {zs : List Int} (h : 1 ≤ n) (h' : n ≤ 8) (hl : (zs.length : Int) ≤ n) (hz : ∀ z ∈ zs, 0 ≤ z) : mayAll (quA n zs) = true := by
  have h0 : ¬ n = 0 := by omega
  simp [mayAll, quA, atOk, freeName, oneOk, kindOk, nmQ, ByteArray.size, h, h', h0, hl]
  exact hz
theorem not_bad {os : List At} {th d : Int} (hm : mayAll os = true) (t0 : 0 ≤ th) (t3 : th ≤ 3) (d1 : 1 ≤ d) (d5 : d ≤ 5) : ¬ badA os th d = true := by
  unfold badA
  rw [hm]
  simp only [Bool.not_true, Bool.false_or, Bool.or_eq_true, decide_eq_true_eq]
  omega
theorem do_lk {o th d : Int} (h : 0 ≤ o) (h' : o ≤ 4) (t0 : 0 ≤ th) (t3 : th ≤ 3) (d1 : 1 ≤ d) (d2 : d ≤ 2) : doA (lkA o) th d nmL 0 = ([(stepA ⟨nmL, 0, o, []⟩ (th + 1) d 0).1], (stepA ⟨nmL, 0, o, []⟩ (th + 1) d 0).2) := by
  unfold doA
  rw [if_neg (not_bad (may_lk h h') t0 t3 d1 (by omega)), if_neg (by omega)]
  have hw : whereA (lkA o) nmL = 0 := by simp [whereA, lkA]
  rw [hw, if_neg (by simp [lkA]), if_neg (by simp [lkA, d2])]
  rfl
theorem do_qu {n : Int} {zs : List Int} {th d arg : Int} (h : 1 ≤ n) (h' : n ≤ 8) (hl : (zs.length : Int) ≤ n) (hz : ∀ z ∈ zs, 0 ≤ z) (t0 : 0 ≤ th) (t3 : th ≤ 3) (d1 : 3 ≤ d) (d2 : d ≤ 4) : doA (quA n zs) th d nmQ arg = ([(stepA ⟨nmQ, n, 0, zs⟩ (th + 1) d arg).1], (stepA ⟨nmQ, n, 0, zs⟩ (th + 1) d arg).2) := by
  unfold doA
  rw [if_neg (not_bad (may_qu h h' hl hz) t0 t3 (by omega) (by omega)), if_neg (by omega)]
  have hw : whereA (quA n zs) nmQ = 0 := by simp [whereA, quA]
  rw [hw, if_neg (by simp [quA]), if_neg (by simp [quA, show ¬ d ≤ 2 by omega, show ¬ n = 0 by omega])]
  rfl
theorem acq_lk {th : Int} (t0 : 0 ≤ th) (t3 : th ≤ 3) : doA (lkA 0) th 1 nmL 0 = (lkA (th + 1), 0, 0) := by
  rw [do_lk (by decide) (by decide) t0 t3 (by decide) (by decide)]; rfl
theorem wait_lk {o th : Int} (o1 : 1 ≤ o) (o4 : o ≤ 4) (t0 : 0 ≤ th) (t3 : th ≤ 3) : doA (lkA o) th 1 nmL 0 = (lkA o, 0, 1) := by
  rw [do_lk (by omega) o4 t0 t3 (by decide) (by decide)]
  simp only [stepA, if_true, ne_eq, show ¬ o = 0 by omega, not_false_eq_true]; rfl
theorem free_lk {th : Int} (t0 : 0 ≤ th) (t3 : th ≤ 3) : doA (lkA (th + 1)) th 2 nmL 0 = (lkA 0, 0, 0) := by
  rw [do_lk (by omega) (by omega) t0 t3 (by decide) (by decide)]
  simp only [stepA, show ¬ ((2 : Int) = 1) by decide, if_false, if_true, ne_eq, not_true_eq_false]; rfl
theorem held_lk {o th : Int} (o0 : 0 ≤ o) (o4 : o ≤ 4) (t0 : 0 ≤ th) (t3 : th ≤ 3) (hne : ¬ o = th + 1) : doA (lkA o) th 2 nmL 0 = (lkA o, 0, 2) := by
  rw [do_lk o0 o4 t0 t3 (by decide) (by decide)]
  simp only [stepA, show ¬ ((2 : Int) = 1) by decide, if_false, if_true, ne_eq, hne, not_false_eq_true]; rfl
theorem put_no {n : Int} {zs : List Int} {th arg : Int} (h : 1 ≤ n) (h' : n ≤ 8) (hl : (zs.length : Int) ≤ n) (hz : ∀ z ∈ zs, 0 ≤ z) (t0 : 0 ≤ th) (t3 : th ≤ 3) (hf : arg < 0 ∨ (zs.length : Int) = n) : doA (quA n zs) th 3 nmQ arg = (quA n zs, 0, 0) := by
  rw [do_qu h h' hl hz t0 t3 (by decide) (by decide)]
  simp only [stepA, show ¬ ((3 : Int) = 1) by decide, show ¬ ((3 : Int) = 2) by decide, if_false, if_true, if_pos hf]; rfl
theorem put_yes {n : Int} {zs : List Int} {th arg : Int} (h : 1 ≤ n) (h' : n ≤ 8) (hl : (zs.length : Int) ≤ n) (hz : ∀ z ∈ zs, 0 ≤ z) (t0 : 0 ≤ th) (t3 : th ≤ 3) (hf : ¬ (arg < 0 ∨ (zs.length : Int) = n)) : doA (quA n zs) th 3 nmQ arg = (quA n (zs ++ [arg]), 1, 0) := by
  rw [do_qu h h' hl hz t0 t3 (by decide) (by decide)]
  simp only [stepA, show ¬ ((3 : Int) = 1) by decide, show ¬ ((3 : Int) = 2) by decide, if_false, if_true, if_neg hf]; rfl
theorem get_no {n : Int} {th arg : Int} (h : 1 ≤ n) (h' : n ≤ 8) (t0 : 0 ≤ th) (t3 : th ≤ 3) : doA (quA n []) th 4 nmQ arg = (quA n [], -1, 0) := by
  rw [do_qu h h' (by simp; omega) (by simp) t0 t3 (by decide) (by decide)]; rfl
theorem get_yes {n z : Int} {zs : List Int} {th arg : Int} (h : 1 ≤ n) (h' : n ≤ 8) (hl : ((z :: zs).length : Int) ≤ n) (hz : ∀ y ∈ z :: zs, 0 ≤ y) (t0 : 0 ≤ th) (t3 : th ≤ 3) : doA (quA n (z :: zs)) th 4 nmQ arg = (quA n zs, z, 0) := by
  rw [do_qu h h' hl hz t0 t3 (by decide) (by decide)]; rfl

theorem live1 : doA [⟨nmQ, 1, 0, []⟩, ⟨nmL, 0, 0, []⟩] 0 3 nmQ 5 = ([⟨nmQ, 1, 0, [5]⟩, ⟨nmL, 0, 0, []⟩], 1, 0) := by rfl
theorem live2 : doA [⟨nmQ, 1, 0, [5]⟩, ⟨nmL, 0, 0, []⟩] 1 3 nmQ 6 = ([⟨nmQ, 1, 0, [5]⟩, ⟨nmL, 0, 0, []⟩], 0, 0) := by rfl
theorem live3 : doA [⟨nmQ, 1, 0, [5]⟩, ⟨nmL, 0, 0, []⟩] 1 4 nmQ 0 = ([⟨nmQ, 1, 0, []⟩, ⟨nmL, 0, 0, []⟩], 5, 0) := by rfl
theorem live4 : doA [⟨nmQ, 1, 0, []⟩, ⟨nmL, 0, 0, []⟩] 1 2 nmL 0 = ([⟨nmQ, 1, 0, []⟩, ⟨nmL, 0, 0, []⟩], 0, 2) := by rfl

theorem few_any {a : Option Addr} {l c : Nat} (w : World) : Calls Try.prog 8 #[.slice a l c] w fun e w' => e = .returned (.bool (decide (l ≤ 60))) ∧ w' = w := by
  have he : decide ((l : Int) ≤ 60) = decide (l ≤ 60) := by congr 1; exact propext (by omega)
  generalize decide (l ≤ 60) = R at he ⊢
  go_enter Try.func8, Try.ntmps8
  go_wp2
  go_ret
  exact ⟨rfl, rfl⟩

theorem items0 {os : List At} (h : ∀ x ∈ os, x.items.length ≤ 8) : ∀ x ∈ os, x.items.length * 8 ≤ 140737488355328 := fun x hx => by have := h x hx; omega

set_option maxRecDepth 100000 in
set_option maxHeartbeats 8000000 in
theorem live_any (w : World) : Calls Try.prog 9 #[] w fun e w' => e = .returned (.bool true) ∧ Below w.heap.size w w' := by
  have HQ : Hid _ := ats_two w nmQ nmL 1 0 0 0 (fit_lit _ (by decide) (by decide) (by decide)) (fit_lit _ (by decide) (by decide) (by decide))
  obtain ⟨W1, hW1⟩ : ∃ W1, w.alloc (.cells #[.string { data := #[113] }, .int .i64 1, .int .i64 0, .slice none 0 0, .string { data := #[108] }, .int .i64 0, .int .i64 0, .slice none 0 0] 35) = W1 := ⟨_, rfl⟩
  have b1 : Below w.heap.size w W1 := by subst hW1; exact bl_one _ _
  have HQ1 : Hid (AtsV W1 (some ⟨w.heap.size, 0, none⟩) 2 2 [⟨nmQ, 1, 0, []⟩, ⟨nmL, 0, 0, []⟩]) := by show AtsV _ _ _ _ _; subst hW1; exact HQ.out
  have HB1 : Hid _ := b1
  clear b1 HQ
  go_enter Try.func9, Try.ntmps9
  go_wp2_with fail
  refine (do_ats HQ1.out (by decide) (by simp) (by decide) live1).mono ?_
  rintro e y1 ⟨rfl, h1, g1⟩
  have A1 : Hid _ := h1
  have B1 : Hid _ := HB1.out.trans (g1.mono HB1.out.size)
  have Q1 : Hid _ := HQ1.out.below g1
  clear h1 g1
  go_wp2_with fail
  refine (do_ats A1.out (by decide) (by simp) (by decide) live2).mono ?_
  rintro e y2 ⟨rfl, h2, g2⟩
  have A2 : Hid _ := h2
  have B2 : Hid _ := B1.out.trans (g2.mono B1.out.size)
  have Q2 : Hid _ := Q1.out.below g2
  clear h2 g2
  go_wp2_with fail
  refine (do_ats A2.out (by decide) (by simp) (by decide) live3).mono ?_
  rintro e y3 ⟨rfl, h3, g3⟩
  have A3 : Hid _ := h3
  have B3 : Hid _ := B2.out.trans (g3.mono B2.out.size)
  have Q3 : Hid _ := Q2.out.below g3
  clear h3 g3
  go_wp2_with fail
  refine (do_ats A3.out (by decide) (by simp) (by decide) live4).mono ?_
  rintro e y4 ⟨rfl, h4, g4⟩
  have A4 : Hid _ := A3.out.below g4
  have B4 : Hid _ := B3.out.trans (g4.mono B3.out.size)
  have Q4 : Hid _ := Q3.out.below g4
  clear h4 g4
  go_wp2_with fail
  refine (same_any A4.out Q4.out true (by simp)).mono ?_
  rintro e y5 ⟨rfl, g5⟩
  have B5 : Hid _ := B4.out.trans (g5.mono B4.out.size)
  clear g5
  go_wp2
  go_ret
  exact ⟨rfl, B5.out⟩
end Go.Proofs.Ytkhehagepmeifaa

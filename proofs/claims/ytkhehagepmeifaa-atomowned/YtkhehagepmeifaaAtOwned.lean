/- A lock that is held is let go by its owner alone. -/
import Derived.Test.YtkhehagepmeifaaAtLive
namespace Go.Proofs.Ytkhehagepmeifaa
open Go.RowKit Go.Maps Go.Lib
set_option linter.unusedVariables false

set_option maxRecDepth 100000 in
set_option maxHeartbeats 8000000 in
theorem owned_out (ow ot : Int) (h : ow < 0 ∨ 3 < ow ∨ ot < 0 ∨ 3 < ot) (w : World) :
    Calls Try.prog 6 #[.int .i64 ow, .int .i64 ot] w fun e w' => e = .returned (.bool true) ∧ Below w.heap.size w w' := by
  rcases (show ow < 0 ∨ (¬ ow < 0 ∧ 3 < ow) ∨ (¬ ow < 0 ∧ ¬ 3 < ow ∧ ot < 0) ∨ (¬ ow < 0 ∧ ¬ 3 < ow ∧ ¬ ot < 0 ∧ 3 < ot) by omega) with h1 | ⟨h1, h2⟩ | ⟨h1, h2, h3⟩ | ⟨h1, h2, h3, h4⟩
  all_goals
    clear h
    go_enter Try.func6, Try.ntmps6
    go_wp2_with (go_at_call 9; refine (live_any _).mono ?_; rintro e y ⟨rfl, hb⟩)
    go_ret
    exact ⟨rfl, hb⟩

set_option maxRecDepth 100000 in
set_option maxHeartbeats 8000000 in
theorem owned_in (ow ot : Int) (o0 : 0 ≤ ow) (o3 : ow ≤ 3) (t0 : 0 ≤ ot) (t3 : ot ≤ 3) (w : World) :
    Calls Try.prog 6 #[.int .i64 ow, .int .i64 ot] w fun e w' => e = .returned (.bool true) ∧ Below w.heap.size w w' := by
  have HQ : Hid _ := ats_one w nmL 0 0 (fit_lit _ (by decide) (by decide) (by decide))
  obtain ⟨W1, hW1⟩ : ∃ W1, w.alloc (.cells #[.string { data := #[108] }, .int .i64 0, .int .i64 0, .slice none 0 0] 35) = W1 := ⟨_, rfl⟩
  have b1 : Below w.heap.size w W1 := by subst hW1; exact bl_one _ _
  have HQ1 : Hid (AtsV W1 (some ⟨w.heap.size, 0, none⟩) 1 1 (lkA 0)) := by show AtsV _ _ _ _ _; subst hW1; exact HQ.out
  have HB1 : Hid _ := b1
  have HE1 : Hid _ := acq_lk o0 o3
  have HE2 : Hid _ := wait_lk (o := ow + 1) (by omega) (by omega) t0 t3
  have HE4 : Hid _ := free_lk o0 o3
  have n1 : ¬ ow < 0 := by omega
  have n2 : ¬ 3 < ow := by omega
  have n3 : ¬ ot < 0 := by omega
  have n4 : ¬ 3 < ot := by omega
  have HI : ∀ o, ∀ x ∈ lkA o, x.items.length * 8 ≤ 140737488355328 := fun o x hx => by simp [lkA] at hx; subst hx; simp
  clear b1 HQ
  by_cases he : ot = ow
  · subst he
    go_enter Try.func6, Try.ntmps6
    go_wp2_with fail
    refine (do_ats HQ1.out (by decide) (HI _) (by decide) HE1.out).mono ?_
    rintro e y1 ⟨rfl, h1, g1⟩
    have A1 : Hid _ := h1
    have B1 : Hid _ := HB1.out.trans (g1.mono HB1.out.size)
    have Q1 : Hid _ := HQ1.out.below g1
    clear h1 g1
    go_wp2_with fail
    refine (do_ats A1.out (by decide) (HI _) (by decide) HE2.out).mono ?_
    rintro e y2 ⟨rfl, h2, g2⟩
    have A2 : Hid _ := A1.out.below g2
    have B2 : Hid _ := B1.out.trans (g2.mono B1.out.size)
    have Q2 : Hid _ := Q1.out.below g2
    clear h2 g2
    go_wp2_with fail
    refine (do_ats A2.out (by decide) (HI _) (by decide) HE4.out).mono ?_
    rintro e y3 ⟨rfl, h3, g3⟩
    have A3 : Hid _ := A2.out.below g3
    have R3 : Hid _ := h3
    have B3 : Hid _ := B2.out.trans (g3.mono B2.out.size)
    have Q3 : Hid _ := Q2.out.below g3
    clear h3 g3
    go_wp2_with fail
    refine (do_ats A3.out (by decide) (HI _) (by decide) HE4.out).mono ?_
    rintro e y4 ⟨rfl, h4, g4⟩
    have R4 : Hid _ := R3.out.below g4
    have S4 : Hid _ := h4
    have B4 : Hid _ := B3.out.trans (g4.mono B3.out.size)
    have Q4 : Hid _ := Q3.out.below g4
    clear h4 g4
    go_wp2_with fail
    refine (same_any S4.out Q4.out true (by simp)).mono ?_
    rintro e y5 ⟨rfl, g5⟩
    have B5 : Hid _ := B4.out.trans (g5.mono B4.out.size)
    have R5 : Hid _ := R4.out.below g5
    have Q5 : Hid _ := Q4.out.below g5
    clear g5
    go_wp2_with fail
    refine (same_any R5.out Q5.out true (by simp)).mono ?_
    rintro e y6 ⟨rfl, g6⟩
    have B6 : Hid _ := B5.out.trans (g6.mono B5.out.size)
    clear g6
    go_wp2_with fail
    refine (live_any _).mono ?_
    rintro e y7 ⟨rfl, g7⟩
    have B7 : Hid _ := B6.out.trans (g7.mono B6.out.size)
    clear g7
    go_wp2
    go_ret
    exact ⟨rfl, B7.out⟩
  · have HE3 : Hid _ := held_lk (o := ow + 1) (th := ot) (by omega) (by omega) t0 t3 (by omega)
    have hd : decide (ot = ow) = false := decide_eq_false he
    go_enter Try.func6, Try.ntmps6
    go_wp2_with fail
    refine (do_ats HQ1.out (by decide) (HI _) (by decide) HE1.out).mono ?_
    rintro e y1 ⟨rfl, h1, g1⟩
    have A1 : Hid _ := h1
    have B1 : Hid _ := HB1.out.trans (g1.mono HB1.out.size)
    have Q1 : Hid _ := HQ1.out.below g1
    clear h1 g1
    go_wp2_with fail
    refine (do_ats A1.out (by decide) (HI _) (by decide) HE2.out).mono ?_
    rintro e y2 ⟨rfl, h2, g2⟩
    have A2 : Hid _ := A1.out.below g2
    have B2 : Hid _ := B1.out.trans (g2.mono B1.out.size)
    have Q2 : Hid _ := Q1.out.below g2
    clear h2 g2
    go_wp2_with fail
    refine (do_ats A2.out (by decide) (HI _) (by decide) HE3.out).mono ?_
    rintro e y3 ⟨rfl, h3, g3⟩
    have A3 : Hid _ := A2.out.below g3
    have R3 : Hid _ := h3
    have B3 : Hid _ := B2.out.trans (g3.mono B2.out.size)
    have Q3 : Hid _ := Q2.out.below g3
    clear h3 g3
    go_wp2_with fail
    refine (do_ats A3.out (by decide) (HI _) (by decide) HE4.out).mono ?_
    rintro e y4 ⟨rfl, h4, g4⟩
    have R4 : Hid _ := R3.out.below g4
    have A4 : Hid _ := A3.out.below g4
    have S4 : Hid _ := h4
    have B4 : Hid _ := B3.out.trans (g4.mono B3.out.size)
    have Q4 : Hid _ := Q3.out.below g4
    clear h4 g4
    go_wp2_with fail
    refine (same_any S4.out Q4.out true (by simp)).mono ?_
    rintro e y5 ⟨rfl, g5⟩
    have B5 : Hid _ := B4.out.trans (g5.mono B4.out.size)
    have R5 : Hid _ := R4.out.below g5
    have A5 : Hid _ := A4.out.below g5
    clear g5
    go_wp2_with fail
    refine (same_any R5.out A5.out true (by simp)).mono ?_
    rintro e y6 ⟨rfl, g6⟩
    have B6 : Hid _ := B5.out.trans (g6.mono B5.out.size)
    clear g6
    go_wp2_with fail
    refine (live_any _).mono ?_
    rintro e y7 ⟨rfl, g7⟩
    have B7 : Hid _ := B6.out.trans (g7.mono B6.out.size)
    clear g7
    go_wp2
    go_ret
    exact ⟨rfl, B7.out⟩

theorem owned_any (ow ot : Int) (w : World) :
    Calls Try.prog 6 #[.int .i64 ow, .int .i64 ot] w fun e w' => e = .returned (.bool true) ∧ Below w.heap.size w w' := by
  by_cases h : ow < 0 ∨ 3 < ow ∨ ot < 0 ∨ 3 < ot
  · exact owned_out ow ot h w
  · exact owned_in ow ot (by omega) (by omega) (by omega) (by omega) w
end Go.Proofs.Ytkhehagepmeifaa

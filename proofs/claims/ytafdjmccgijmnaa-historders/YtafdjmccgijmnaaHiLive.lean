/- live: some answers that the document gives. -/
import Derived.Test.YtafdjmccgijmnaaHiOrder
import Derived.Test.YtafdjmccgijmnaaHiLiveM
namespace Go.Proofs.Ytafdjmccgijmnaa
open Go.RowKit A Go.Maps
set_option linter.unusedVariables false
set_option linter.unusedSimpArgs false
set_option maxRecDepth 100000 in
theorem two_any (n : Int) (w : World) : Calls Try.prog 21 #[.int .i64 n] w fun e w' => e = .returned (.slice (some ⟨w.heap.size, 0, none⟩) 2 2) ∧ ActsV w' (some ⟨w.heap.size, 0, none⟩) 2 2 (H.ts2 n) ∧ Below w.heap.size w w' := by
  have HV : Hid (ActsV (w.alloc (.cells #[.int .i64 0, .int .i64 3, .string { data := #[113] }, .int .i64 5, .int .i64 0, .int .i64 3, .int .i64 1, .int .i64 1, .int .i64 4, .string { data := #[113] }, .int .i64 0, .int .i64 1, .int .i64 2, .int .i64 n] 42)) (some ⟨w.heap.size, 0, none⟩) 2 2 (H.ts2 n)) := by
    refine ⟨rfl, ⟨Nat.le_refl _, by decide⟩, .inr ⟨w.heap.size, 0, rfl, fun i hi j u hu => ?_⟩⟩
    refine A.cell_last rfl ?_
    have hj : j < 7 := (List.getElem?_eq_some_iff.1 hu).1
    rcases (show i = 0 ∨ i = 1 by omega) with rfl | rfl
    · rcases (show j = 0 ∨ j = 1 ∨ j = 2 ∨ j = 3 ∨ j = 4 ∨ j = 5 ∨ j = 6 by omega) with rfl | rfl | rfl | rfl | rfl | rfl | rfl <;> exact hu
    · rcases (show j = 0 ∨ j = 1 ∨ j = 2 ∨ j = 3 ∨ j = 4 ∨ j = 5 ∨ j = 6 by omega) with rfl | rfl | rfl | rfl | rfl | rfl | rfl <;> exact hu
  go_enter Try.func21, Try.ntmps21
  go_wp2_with fail
  go_ret
  exact ⟨rfl, HV.out, hbl1 _ _⟩
theorem ts2_args (n : Int) : ∀ x ∈ H.ts2 n, (Lit.int .i64 x.arg).wf = true := by
  intro x hx
  simp [H.ts2] at hx
  rcases hx with rfl | rfl
  · exact (by decide : (Lit.int .i64 5).wf = true)
  · exact (by decide : (Lit.int .i64 0).wf = true)
theorem ord_two {W : World} {B : Nat} {v : Value} {x y : Nat} (h : W.ownsRow B 3 1 v [x, y].length ([x, y].map nV)) : ∃ g c, v = .slice (some ⟨g, 0, none⟩) 2 c ∧ W.cell? ⟨g, 0, none⟩ = some (.int .i64 x) ∧ W.cell? ⟨g, 1, none⟩ = some (.int .i64 y) := by
  obtain ⟨a, c, rfl⟩ := own_form h
  rcases h.2 with ⟨e, -⟩ | ⟨g, cap, cur, e, -⟩
  · cases e
  · simp only [Value.slice.injEq, true_and] at e
    obtain ⟨rfl, rfl⟩ := e
    refine ⟨g, c, rfl, ?_, ?_⟩
    · rw [h.cellAt 0 (by simp)]; rfl
    · rw [h.cellAt 1 (by simp)]; rfl
set_option maxRecDepth 100000 in
set_option maxHeartbeats 8000000 in
theorem live_any (w : World) : Calls Try.prog 9 #[] w fun e w' => e = .returned (.bool true) ∧ Below w.heap.size w w' := by
  obtain ⟨Y0, hY0⟩ : ∃ Y, w.alloc (.cells #[.string { data := #[113] }, .int .i64 1, .int .i64 0, .slice none 0 0] 49) = Y := ⟨_, rfl⟩
  have hb0 : Below w.heap.size w Y0 := by rw [← hY0]; exact hbl1 _ _
  have HB0 : Hid (Below w.heap.size w Y0) := hb0
  have HQ : Hid (AtsV Y0 (some ⟨w.heap.size, 0, none⟩) 1 1 H.os1) := by
    refine ⟨rfl, fun x hx => ?_, fun e => (by cases e), ⟨Nat.le_refl _, by decide⟩, .inr ⟨w.heap.size, 0, rfl, fun i hi => ?_⟩⟩
    · simp [H.os1] at hx
      subst hx
      exact ⟨by decide, by decide, by decide, fun n hn => by cases hn⟩
    · obtain rfl : i = 0 := by omega
      rw [← hY0]
      refine ⟨A.cell_last rfl rfl, A.cell_last rfl rfl, A.cell_last rfl rfl, none, 0, 0, A.cell_last rfl rfl, rfl, fun n hn => (by cases hn), fun _ => ⟨rfl, rfl⟩, ⟨Nat.le_refl _, Nat.zero_le _⟩, .inl rfl⟩
  have HT : Hid (∀ n W, Calls Try.prog 21 #[.int .i64 n] W fun e w' => e = .returned (.slice (some ⟨W.heap.size, 0, none⟩) 2 2) ∧ ActsV w' (some ⟨W.heap.size, 0, none⟩) 2 2 (H.ts2 n) ∧ Below W.heap.size W w') := fun n W => two_any n W
  clear hb0
  go_enter Try.func9, Try.ntmps9
  go_wp2_with fail
  refine (HT.out 5 _).mono ?_
  rintro e y1 ⟨rfl, hA1, hb1⟩
  have HB1 : Hid (Below Y0.heap.size Y0 y1) := hb1
  have ho1 := Order_any (HQ.out.below hb1) hA1 (by omega) (ts2_args 5)
  clear hA1 hb1
  go_wp2_with fail
  refine ho1.mono ?_
  rintro e y2 ⟨r1, v1, ord1, rfl, hrow1, hb2, hyes1, hno1⟩
  clear ho1
  have hr1 : r1 = true := by
    cases r1 with
    | true => rfl
    | false => exact absurd H.ok5 ((hno1 rfl).2 H.os1_may (H.ts2_may 5) _)
  subst hr1
  have ho1 := H.only5 (hyes1 rfl).2.2
  subst ho1
  obtain ⟨ga, ca, rfl, a0, a1⟩ := ord_two hrow1
  have HB2 : Hid (Below Y0.heap.size Y0 y2) := HB1.out.trans (hb2.mono HB1.out.size)
  have HC2 : Hid (y2.cell? ⟨ga, 0, none⟩ = some (.int .i64 0) ∧ y2.cell? ⟨ga, 1, none⟩ = some (.int .i64 1)) := ⟨a0, a1⟩
  clear hrow1 hyes1 hno1 hb2 a0 a1
  go_wp2_with fail
  refine (HT.out (-1) _).mono ?_
  rintro e y3 ⟨rfl, hA3, hb3⟩
  have HB3 : Hid (Below Y0.heap.size Y0 y3) := HB2.out.trans (hb3.mono HB2.out.size)
  have HC3 : Hid (y3.cell? ⟨ga, 0, none⟩ = some (.int .i64 0) ∧ y3.cell? ⟨ga, 1, none⟩ = some (.int .i64 1)) := ⟨hcell_thru hb3 HC2.out.1, hcell_thru hb3 HC2.out.2⟩
  have ho3 := Order_any (HQ.out.below HB3.out) hA3 (by omega) (ts2_args (-1))
  clear hA3 hb3
  go_wp2_with fail
  refine ho3.mono ?_
  rintro e y4 ⟨r2, v2, ord2, rfl, hrow2, hb4, hyes2, hno2⟩
  clear ho3
  have hr2 : r2 = true := by
    cases r2 with
    | true => rfl
    | false => exact absurd H.okm ((hno2 rfl).2 H.os1_may (H.ts2_may (-1)) _)
  subst hr2
  have ho2 := H.onlym (hyes2 rfl).2.2
  subst ho2
  obtain ⟨gb, cb, rfl, b0, b1⟩ := ord_two hrow2
  have HB4 : Hid (Below Y0.heap.size Y0 y4) := HB3.out.trans (hb4.mono HB3.out.size)
  have HC4 : Hid ((y4.cell? ⟨ga, 0, none⟩ = some (.int .i64 0) ∧ y4.cell? ⟨ga, 1, none⟩ = some (.int .i64 1)) ∧ y4.cell? ⟨gb, 0, none⟩ = some (.int .i64 1)) := ⟨⟨hcell_thru hb4 HC3.out.1, hcell_thru hb4 HC3.out.2⟩, b0⟩
  clear hrow2 hyes2 hno2 hb4 b0 b1
  go_wp2_with fail
  refine (HT.out 6 _).mono ?_
  rintro e y5 ⟨rfl, hA5, hb5⟩
  have HB5 : Hid (Below Y0.heap.size Y0 y5) := HB4.out.trans (hb5.mono HB4.out.size)
  have HC5 : Hid ((y5.cell? ⟨ga, 0, none⟩ = some (.int .i64 0) ∧ y5.cell? ⟨ga, 1, none⟩ = some (.int .i64 1)) ∧ y5.cell? ⟨gb, 0, none⟩ = some (.int .i64 1)) := ⟨⟨hcell_thru hb5 HC4.out.1.1, hcell_thru hb5 HC4.out.1.2⟩, hcell_thru hb5 HC4.out.2⟩
  have ho5 := Order_any (HQ.out.below HB5.out) hA5 (by omega) (ts2_args 6)
  clear hA5 hb5
  go_wp2_with fail
  refine ho5.mono ?_
  rintro e y6 ⟨r3, v3, ord3, rfl, hrow3, hb6, hyes3, hno3⟩
  clear ho5
  have hr3 : r3 = false := by
    cases r3 with
    | false => rfl
    | true => exact absurd (hyes3 rfl).2.2 (H.bad6 _)
  subst hr3
  have HB6 : Hid (Below Y0.heap.size Y0 y6) := HB5.out.trans (hb6.mono HB5.out.size)
  have a0 := hcell_thru hb6 HC5.out.1.1
  have a1 := hcell_thru hb6 HC5.out.1.2
  have b0 := hcell_thru hb6 HC5.out.2
  clear hrow3 hyes3 hno3 hb6
  go_wp2_with fail
  refine (HT.out 5 _).mono ?_
  rintro e y7 ⟨rfl, hA7, hb7⟩
  have HB7 : Hid (Below Y0.heap.size Y0 y7) := HB6.out.trans (hb7.mono HB6.out.size)
  have hch := check_any hA7
  rw [if_pos (H.ts2_may 5)] at hch
  clear hA7 hb7
  go_wp2_with fail
  refine hch.mono ?_
  rintro e y8 ⟨rfl, hb8⟩
  have HB8 : Hid (Below Y0.heap.size Y0 y8) := HB7.out.trans (hb8.mono HB7.out.size)
  clear hch hb8
  go_wp2_with fail
  go_ret
  exact ⟨rfl, HB0.out.trans (HB8.out.mono HB0.out.size)⟩
end Go.Proofs.Ytafdjmccgijmnaa

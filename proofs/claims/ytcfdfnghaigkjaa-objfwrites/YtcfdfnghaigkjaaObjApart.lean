/- What small and the law ObjfApart come to. -/
import Derived.Test.YtcfdfnghaigkjaaObjLive
namespace Go.Proofs.Ytcfdfnghaigkjaa
open Go.RowKit Go.Maps Go.Lib
set_option linter.unusedVariables false

/-- Objects are handed over in a box of the callee's own. -/
structure Boxed (x : World) (b : Nat) (v : Value) : Prop where
  ex : ∃ u0 u1 u2 u3, v = .agg #[u0, u1, u2, u3] ∧ x.cell? ⟨b, 0, none⟩ = some u0 ∧ x.cell? ⟨b, 1, none⟩ = some u1 ∧ x.cell? ⟨b, 2, none⟩ = some u2 ∧ x.cell? ⟨b, 3, none⟩ = some u3

set_option maxRecDepth 100000 in
theorem small_any {w : World} {v : Value} {o : ObjD} (h : ObjV w v o) : Calls Try.prog 8 #[v] w fun e w' => e = .returned (.bool (decide (o.syms.length ≤ 200))) ∧ Below w.heap.size w w' := by
  obtain ⟨a1, l1, c1, a2, l2, c2, a3, l3, c3, rfl, hcs, h1, h2, h3⟩ := h.form
  have hl := h2.count
  have HD : Hid (decide (o.syms.length ≤ 200) = decide ((l2 : Int) ≤ 200)) := by
    show _ = _
    rw [hl]
    by_cases hh : l2 ≤ 200
    · rw [decide_eq_true hh, decide_eq_true (by omega)]
    · rw [decide_eq_false hh, decide_eq_false (by omega)]
  clear h h1 h2 h3 hl
  go_enter Try.func8, Try.ntmps8
  go_wp2
  go_ret
  exact ⟨by rw [HD.out]; rfl, bl_one _ _⟩

set_option maxRecDepth 100000 in
set_option maxHeartbeats 4000000 in
theorem apart_any {w : World} {v v' : Value} {o p : ObjD} (h : ObjV w v o) (h' : ObjV w v' p) (ho : o.data.length ≤ maxLen ∧ o.syms.length ≤ maxLen ∧ o.rels.length ≤ maxLen) :
    Calls Try.prog 7 #[v, v'] w fun e w' => e = .returned (.bool true) ∧ Below w.heap.size w w' := by
  have HV : Hid _ := h
  have HP : Hid _ := h'
  obtain ⟨a1, l1, c1, a2, l2, c2, a3, l3, c3, rfl, -, -, -, -⟩ := h.form
  obtain ⟨b1, m1, d1, b2, m2, d2, b3, m3, d3, rfl, -, -, -, -⟩ := h'.form
  obtain ⟨code, hcode⟩ : ∃ c, o.code = c := ⟨_, rfl⟩
  obtain ⟨code', hcode'⟩ : ∃ c, p.code = c := ⟨_, rfl⟩
  rw [hcode] at HV ⊢
  rw [hcode'] at HP ⊢
  clear h h' hcode hcode'
  obtain ⟨W1, hW1⟩ : ∃ W1, w.alloc (.cells #[.string code, .slice a1 l1 c1, .slice a2 l2 c2, .slice a3 l3 c3] 26) = W1 := ⟨_, rfl⟩
  have s1 : W1.heap.size = w.heap.size + 1 := by subst hW1; simp
  have b1' : Below w.heap.size w W1 := by subst hW1; exact bl_one _ _
  obtain ⟨W2, hW2⟩ : ∃ W2, W1.alloc (.cells #[.string code', .slice b1 m1 d1, .slice b2 m2 d2, .slice b3 m3 d3] 26) = W2 := ⟨_, rfl⟩
  have b2' : Below W1.heap.size W1 W2 := by subst hW2; exact bl_one _ _
  have s2 : W2.heap.size = w.heap.size + 1 + 1 := by subst hW2; simp; omega
  have HW : Hid (Below w.heap.size w W2) := b1'.trans (b2'.mono (by omega))
  have CV : Hid (Cells W2 w.heap.size [.string code, .slice a1 l1 c1, .slice a2 l2 c2, .slice a3 l3 c3]) := fun j u hu => cell_thru b2' (by subst hW1; exact cell_last rfl (by simpa using hu))
  have CP : Hid (Cells W2 (w.heap.size + 1) [.string code', .slice b1 m1 d1, .slice b2 m2 d2, .slice b3 m3 d3]) := fun j u hu => by subst hW2; exact cell_last s1.symm (by simpa using hu)
  have HT : Hid (∀ {x : World}, Below W2.heap.size W2 x → Below w.heap.size w x) := fun hx => HW.out.trans (hx.mono HW.out.size)
  clear b1' b2'
  have r0 : W2.cell? ⟨w.heap.size, 0, none⟩ = _ := CV.out 0 _ rfl
  have r1 : W2.cell? ⟨w.heap.size, 1, none⟩ = _ := CV.out 1 _ rfl
  have r2 : W2.cell? ⟨w.heap.size, 2, none⟩ = _ := CV.out 2 _ rfl
  have r3 : W2.cell? ⟨w.heap.size, 3, none⟩ = _ := CV.out 3 _ rfl
  go_enter Try.func7, Try.ntmps7
  go_wp2_with fail
  refine (small_any (HV.out.below HW.out)).mono ?_
  rintro e x1 ⟨rfl, hx1⟩
  clear r0 r1 r2 r3
  cases hs1 : decide (o.syms.length ≤ 200) with
  | false =>
    have HX : Hid _ := HT.out hx1
    clear hs1 hx1
    go_wp2_with (go_at_call 9; refine (live_any _).mono ?_; rintro e y ⟨rfl, hb⟩)
    go_ret
    exact ⟨rfl, HX.out.trans (hb.mono HX.out.size)⟩
  | true =>
  have HX1 : Hid _ := hx1
  have r0 := cell_thru hx1 (CP.out 0 _ rfl)
  have r1 := cell_thru hx1 (CP.out 1 _ rfl)
  have r2 := cell_thru hx1 (CP.out 2 _ rfl)
  have r3 := cell_thru hx1 (CP.out 3 _ rfl)
  clear hs1 hx1
  go_wp2_with fail
  refine (small_any (HP.out.below (HT.out HX1.out))).mono ?_
  rintro e x2 ⟨rfl, hx2⟩
  have HX2 : Hid (Below W2.heap.size W2 x2) := HX1.out.trans (hx2.mono HX1.out.size)
  clear hx2 r0 r1 r2 r3 HX1
  cases hs2 : decide (p.syms.length ≤ 200) with
  | false =>
    have HX : Hid _ := HT.out HX2.out
    clear hs2
    go_wp2_with (go_at_call 9; refine (live_any _).mono ?_; rintro e y ⟨rfl, hb⟩)
    go_ret
    exact ⟨rfl, HX.out.trans (hb.mono HX.out.size)⟩
  | true =>
  have r0 := cell_thru HX2.out (CV.out 0 _ rfl)
  have r1 := cell_thru HX2.out (CV.out 1 _ rfl)
  have r2 := cell_thru HX2.out (CV.out 2 _ rfl)
  have r3 := cell_thru HX2.out (CV.out 3 _ rfl)
  clear hs2
  go_wp2_with fail
  refine (write_any (HV.out.below (HT.out HX2.out))).mono ?_
  rintro e x3 ⟨rfl, hx3⟩
  have HX3 : Hid (Below W2.heap.size W2 x3) := HX2.out.trans (hx3.mono HX2.out.size)
  clear hx3 r0 r1 r2 r3 HX2
  have r0 := cell_thru HX3.out (CP.out 0 _ rfl)
  have r1 := cell_thru HX3.out (CP.out 1 _ rfl)
  have r2 := cell_thru HX3.out (CP.out 2 _ rfl)
  have r3 := cell_thru HX3.out (CP.out 3 _ rfl)
  obtain ⟨t1, ht1⟩ : ∃ t, (if o.may then strOfNums (formB o) else ByteArray.empty) = t := ⟨_, rfl⟩
  obtain ⟨t2, ht2⟩ : ∃ t, (if p.may then strOfNums (formB p) else ByteArray.empty) = t := ⟨_, rfl⟩
  rw [ht1]
  cases hm1 : o.may with
  | false =>
    have HM1 : Hid _ := hm1
    clear hm1 ht1 ht2
    simp only [Bool.false_eq_true, if_false]
    go_wp2_with fail
    refine (write_any (HP.out.below (HT.out HX3.out))).mono ?_
    rintro e x4 ⟨rfl, hx4⟩
    have HX : Hid (Below w.heap.size w x4) := HT.out (HX3.out.trans (hx4.mono HX3.out.size))
    clear hx4 r0 r1 r2 r3
    generalize (if p.may = true then (0 : Int) else 1) = z2
    generalize (if p.may = true then strOfNums (formB p) else ByteArray.empty) = t3
    go_wp2_with (go_at_call 9; refine (live_any _).mono ?_; rintro e y ⟨rfl, hb⟩)
    go_ret
    exact ⟨rfl, HX.out.trans (hb.mono HX.out.size)⟩
  | true =>
  have HM1 : Hid _ := hm1
  have HT1 : Hid _ := ht1
  have HT2 : Hid _ := ht2
  clear hm1 ht1 ht2
  go_wp2_with fail
  refine (write_any (HP.out.below (HT.out HX3.out))).mono ?_
  rintro e x4 ⟨rfl, hx4⟩
  have HX4 : Hid (Below W2.heap.size W2 x4) := HX3.out.trans (hx4.mono HX3.out.size)
  clear hx4 r0 r1 r2 r3 HX3
  rw [HT2.out]
  cases hm2 : p.may with
  | false =>
    have HX : Hid (Below w.heap.size w x4) := HT.out HX4.out
    clear hm2
    go_wp2_with (go_at_call 9; refine (live_any _).mono ?_; rintro e y ⟨rfl, hb⟩)
    go_ret
    exact ⟨rfl, HX.out.trans (hb.mono HX.out.size)⟩
  | true =>
  have HM2 : Hid _ := hm2
  clear hm2
  have e1 : t1 = wrB o := by rw [← HT1.out, HM1.out]; rfl
  have e2 : t2 = wrB p := by rw [← HT2.out, HM2.out]; rfl
  have HEQ : Hid (t1 = t2 ↔ o = p) := by
    show _ ↔ _
    rw [e1, e2]
    exact ⟨fun e => wr_inj (HV.out.isin HM1.out) (HP.out.isin HM2.out) HM1.out HM2.out e, fun e => by rw [e]⟩
  clear e1 e2 HT1 HT2
  have r0 := cell_thru HX4.out (CV.out 0 _ rfl)
  have r1 := cell_thru HX4.out (CV.out 1 _ rfl)
  have r2 := cell_thru HX4.out (CV.out 2 _ rfl)
  have r3 := cell_thru HX4.out (CV.out 3 _ rfl)
  have r0' := cell_thru HX4.out (CP.out 0 _ rfl)
  have r1' := cell_thru HX4.out (CP.out 1 _ rfl)
  have r2' := cell_thru HX4.out (CP.out 2 _ rfl)
  have r3' := cell_thru HX4.out (CP.out 3 _ rfl)
  by_cases he : t1 = t2
  · have HE : Hid _ := HEQ.out.1 he
    subst he
    go_wp2_with fail
    refine (same_any (HV.out.below (HT.out HX4.out)) (HP.out.below (HT.out HX4.out)) ho.1 ho.2.1 ho.2.2 true (by simp [HE.out])).mono ?_
    rintro e x5 ⟨rfl, hx5⟩
    have HX : Hid (Below w.heap.size w x5) := HT.out (HX4.out.trans (hx5.mono HX4.out.size))
    clear hx5
    go_wp2_with (go_at_call 9; refine (live_any _).mono ?_; rintro e y ⟨rfl, hb⟩)
    go_ret
    exact ⟨rfl, HX.out.trans (hb.mono HX.out.size)⟩
  · have HE : Hid (¬ o = p) := fun e => he (HEQ.out.2 e)
    have hd := toList_ne he
    go_wp2_with fail
    refine (same_any (HV.out.below (HT.out HX4.out)) (HP.out.below (HT.out HX4.out)) ho.1 ho.2.1 ho.2.2 false (by simp [HE.out])).mono ?_
    rintro e x5 ⟨rfl, hx5⟩
    have HX : Hid (Below w.heap.size w x5) := HT.out (HX4.out.trans (hx5.mono HX4.out.size))
    clear hx5
    go_wp2_with (go_at_call 9; refine (live_any _).mono ?_; rintro e y ⟨rfl, hb⟩)
    go_ret
    exact ⟨rfl, HX.out.trans (hb.mono HX.out.size)⟩

end Go.Proofs.Ytcfdfnghaigkjaa

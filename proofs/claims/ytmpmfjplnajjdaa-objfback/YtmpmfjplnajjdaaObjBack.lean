/- What the law ObjfBack comes to. (Written by gen_back.py.) -/
import Derived.Test.YtmpmfjplnajjdaaObjApart
namespace Go.Proofs.Ytmpmfjplnajjdaa
open Go.RowKit Go.Maps Go.Lib
set_option linter.unusedVariables false

set_option maxRecDepth 100000 in
set_option maxHeartbeats 4000000 in
theorem back_any {w : World} {v : Value} {o : ObjD} {s : ByteArray} (h : ObjV w v o) (hs : s.size ≤ maxLen) (ho : o.data.length ≤ maxLen ∧ o.syms.length ≤ maxLen ∧ o.rels.length ≤ maxLen) :
    Calls Try.prog 5 #[v, .string s] w fun e w' => e = .returned (.bool true) ∧ Below w.heap.size w w' := by
  have HV : Hid _ := h
  obtain ⟨a1, l1, c1, a2, l2, c2, a3, l3, c3, rfl, -, -, -, -⟩ := h.form
  obtain ⟨code, hcode⟩ : ∃ c, o.code = c := ⟨_, rfl⟩
  rw [hcode] at HV ⊢
  clear h hcode
  have hsz : s.size ≤ 9223372036854775807 := by unfold maxLen at hs; omega
  obtain ⟨W2, hW2⟩ : ∃ W2, w.alloc (.cells #[.string code, .slice a1 l1 c1, .slice a2 l2 c2, .slice a3 l3 c3] 26) = W2 := ⟨_, rfl⟩
  have s2 : W2.heap.size = w.heap.size + 1 := by subst hW2; simp
  have HW : Hid (Below w.heap.size w W2) := by subst hW2; exact bl_one _ _
  have CV : Hid (Cells W2 w.heap.size [.string code, .slice a1 l1 c1, .slice a2 l2 c2, .slice a3 l3 c3]) := fun j u hu => by subst hW2; exact cell_last rfl (by simpa using hu)
  have HT : Hid (∀ {x : World}, Below W2.heap.size W2 x → Below w.heap.size w x) := fun hx => HW.out.trans (hx.mono HW.out.size)
  have r0 : W2.cell? ⟨w.heap.size, 0, none⟩ = _ := CV.out 0 _ rfl
  have r1 : W2.cell? ⟨w.heap.size, 1, none⟩ = _ := CV.out 1 _ rfl
  have r2 : W2.cell? ⟨w.heap.size, 2, none⟩ = _ := CV.out 2 _ rfl
  have r3 : W2.cell? ⟨w.heap.size, 3, none⟩ = _ := CV.out 3 _ rfl
  go_enter Try.func5, Try.ntmps5
  go_wp2_with fail
  refine (small_any (HV.out.below HW.out)).mono ?_
  rintro e x1 ⟨rfl, hx1⟩
  clear r0 r1 r2 r3
  cases hs1 : decide (o.syms.length ≤ 200) with
  | false =>
    have HX : Hid _ := HT.out hx1
    clear hs1 hx1
    go_wp2_with (go_at_call 9; refine (live_any _).mono ?_; rintro e y ⟨rfl, hb⟩)
    go_ret
    exact ⟨rfl, HX.out.trans (hb.mono HX.out.size)⟩
  | true =>
  by_cases h5 : s.size ≤ 5000
  rotate_left
  · have HX : Hid _ := HT.out hx1
    have hd : decide ((5000 : Int) < s.size) = true := by simp; omega
    clear hs1 hx1
    go_wp2_with (go_at_call 9; refine (live_any _).mono ?_; rintro e y ⟨rfl, hb⟩)
    go_ret
    exact ⟨rfl, HX.out.trans (hb.mono HX.out.size)⟩
  have hd : decide ((5000 : Int) < s.size) = false := by simp; omega
  have HX1 : Hid _ := hx1
  have r0 := cell_thru HX1.out (CV.out 0 _ rfl)
  have r1 := cell_thru HX1.out (CV.out 1 _ rfl)
  have r2 := cell_thru HX1.out (CV.out 2 _ rfl)
  have r3 := cell_thru HX1.out (CV.out 3 _ rfl)
  clear hs1 hx1
  go_wp2_with fail
  refine (write_any (HV.out.below (HT.out HX1.out))).mono ?_
  rintro e x2 ⟨rfl, hx2⟩
  have HX2 : Hid (Below W2.heap.size W2 x2) := HX1.out.trans (hx2.mono HX1.out.size)
  clear hx2 r0 r1 r2 r3 HX1
  cases hm1 : o.may with
  | false =>
    clear hm1
    simp only [Bool.false_eq_true, if_false]
    go_wp2_with fail
    refine (read_any s hs x2).mono ?_
    rintro e x5 ⟨⟨p, hp, v, rfl, hF⟩ | ⟨hp, rfl⟩, hx5⟩
    rotate_left
    · have HX : Hid (Below w.heap.size w (x5.alloc (.cells #[.string { data := #[] }, .slice none 0 0, .slice none 0 0, .slice none 0 0] 26))) := (HT.out (HX2.out.trans (hx5.mono HX2.out.size))).trans ((bl_one x5 _).mono (HT.out (HX2.out.trans (hx5.mono HX2.out.size))).size)
      clear hx5
      unfold noObjV
      go_wp2_with (go_at_call 9; refine (live_any _).mono ?_; rintro e y ⟨rfl, hb⟩)
      go_ret
      exact ⟨rfl, HX.out.trans (hb.mono HX.out.size)⟩
    obtain ⟨v1, v2, v3, rfl, o1, o2, o3⟩ := hF.form
    obtain ⟨e1, f1, rfl⟩ := own_slice o1
    obtain ⟨e2, f2, rfl⟩ := own_slice o2
    obtain ⟨e3, f3, rfl⟩ := own_slice o3
    have HX5 : Hid (Below w.heap.size w x5) := HT.out (HX2.out.trans (hx5.mono HX2.out.size))
    have HP : Hid _ := hF.toV
    have HWR : Hid _ := wr_rd hp
    have HMP : Hid _ := (obj_sound hp).2.2
    clear hx5 hF o1 o2 o3 hp
    go_wp2_with fail
    refine (write_any (HP.out.below (bl_one _ _))).mono ?_
    rintro e x6 ⟨rfl, hx6⟩
    rw [HMP.out, if_pos rfl, if_pos rfl, show strOfNums (formB p) = s from HWR.out]
    have HX : Hid (Below w.heap.size w x6) := (HX5.out.trans ((bl_one x5 _).mono HX5.out.size)).trans (hx6.mono (by have := HX5.out.size; simp; omega))
    clear hx6
    go_wp2_with (go_at_call 9; refine (live_any _).mono ?_; rintro e y ⟨rfl, hb⟩)
    go_ret
    exact ⟨rfl, HX.out.trans (hb.mono HX.out.size)⟩
  | true =>
    have HM : Hid _ := hm1
    clear hm1
    simp only [if_true]
    obtain ⟨t, ht⟩ : ∃ t, strOfNums (formB o) = t := ⟨_, rfl⟩
    have hin := HV.out.isin HM.out
    have htz : t.size ≤ maxLen := by have := wr_size hin; unfold wrB at this; rw [ht] at this; unfold maxLen; omega
    have HRD : Hid (rdObj t = some o) := by show _ = _; rw [← ht]; exact rd_wr hin HM.out
    rw [ht]
    clear ht hin
    go_wp2_with fail
    refine (read_any t htz x2).mono ?_
    rintro e x3 ⟨⟨p, hp, v, rfl, hF⟩ | ⟨hp, rfl⟩, hx3⟩
    rotate_left
    · rw [HRD.out] at hp; cases hp
    obtain rfl : o = p := by rw [HRD.out] at hp; exact Option.some.inj hp
    obtain ⟨v1, v2, v3, rfl, o1, o2, o3⟩ := hF.form
    obtain ⟨e1, f1, rfl⟩ := own_slice o1
    obtain ⟨e2, f2, rfl⟩ := own_slice o2
    obtain ⟨e3, f3, rfl⟩ := own_slice o3
    have HP : Hid _ := hF.toV
    have HX3 : Hid (Below W2.heap.size W2 x3) := HX2.out.trans (hx3.mono HX2.out.size)
    have hzw : w.heap.size < x3.heap.size := by have := HX3.out.size; omega
    have r0 := cell_thru HX3.out (CV.out 0 _ rfl)
    have r1 := cell_thru HX3.out (CV.out 1 _ rfl)
    have r2 := cell_thru HX3.out (CV.out 2 _ rfl)
    have r3 := cell_thru HX3.out (CV.out 3 _ rfl)
    clear hx3 hF o1 o2 o3 hp HRD HX2
    go_wp2_with fail
    refine (same_any (HP.out.below (bl_one _ _)) ((HV.out.below (HT.out HX3.out)).below (bl_one _ _)) ho.1 ho.2.1 ho.2.2 true (by simp)).mono ?_
    rintro e x4 ⟨rfl, hx4⟩
    have HX4 : Hid (Below W2.heap.size W2 x4) := (HX3.out.trans ((bl_one x3 _).mono HX3.out.size)).trans (hx4.mono (by have := HX3.out.size; simp; omega))
    clear hx4 r0 r1 r2 r3 HX3
    go_wp2_with fail
    refine (read_any s hs x4).mono ?_
    rintro e x5 ⟨⟨p, hp, v, rfl, hF⟩ | ⟨hp, rfl⟩, hx5⟩
    rotate_left
    · have HX : Hid (Below w.heap.size w (x5.alloc (.cells #[.string { data := #[] }, .slice none 0 0, .slice none 0 0, .slice none 0 0] 26))) := (HT.out (HX4.out.trans (hx5.mono HX4.out.size))).trans ((bl_one x5 _).mono (HT.out (HX4.out.trans (hx5.mono HX4.out.size))).size)
      clear hx5
      unfold noObjV
      go_wp2_with (go_at_call 9; refine (live_any _).mono ?_; rintro e y ⟨rfl, hb⟩)
      go_ret
      exact ⟨rfl, HX.out.trans (hb.mono HX.out.size)⟩
    obtain ⟨v1, v2, v3, rfl, o1, o2, o3⟩ := hF.form
    obtain ⟨e1, f1, rfl⟩ := own_slice o1
    obtain ⟨e2, f2, rfl⟩ := own_slice o2
    obtain ⟨e3, f3, rfl⟩ := own_slice o3
    have HX5 : Hid (Below w.heap.size w x5) := HT.out (HX4.out.trans (hx5.mono HX4.out.size))
    have HP : Hid _ := hF.toV
    have HWR : Hid _ := wr_rd hp
    have HMP : Hid _ := (obj_sound hp).2.2
    clear hx5 hF o1 o2 o3 hp
    go_wp2_with fail
    refine (write_any (HP.out.below (bl_one _ _))).mono ?_
    rintro e x6 ⟨rfl, hx6⟩
    rw [HMP.out, if_pos rfl, if_pos rfl, show strOfNums (formB p) = s from HWR.out]
    have HX : Hid (Below w.heap.size w x6) := (HX5.out.trans ((bl_one x5 _).mono HX5.out.size)).trans (hx6.mono (by have := HX5.out.size; simp; omega))
    clear hx6
    go_wp2_with (go_at_call 9; refine (live_any _).mono ?_; rintro e y ⟨rfl, hb⟩)
    go_ret
    exact ⟨rfl, HX.out.trans (hb.mono HX.out.size)⟩

end Go.Proofs.Ytmpmfjplnajjdaa

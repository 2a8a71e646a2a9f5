/- What the document's Write comes to. (Written by gen_dwrite.py.) -/
import Derived.Test.YtcfdfnghaigkjaaObjRefFrontW
import Derived.Test.YtcfdfnghaigkjaaObjRefMay
namespace Go.Proofs.Ytcfdfnghaigkjaa
open Go.RowKit Go.Maps Go.Lib
set_option linter.unusedVariables false

set_option maxRecDepth 100000 in
set_option maxHeartbeats 16000000 in
theorem dwrite_any {w : World} {v : Value} {o : ObjD} (h : ObjV w v o) :
    Calls Try.prog 12 #[v] w fun e w' => e = .returned (.tuple #[.string (if o.may then strOfNums (formB o) else ByteArray.empty), .int .i64 (if o.may then 0 else 1)]) ∧ Below w.heap.size w w' := by
  have HV : Hid _ := h
  obtain ⟨a1, l1, c1, a2, l2, c2, a3, l3, c3, rfl, hcs, h1, h2, h3⟩ := h.form
  obtain ⟨code, hcode⟩ : ∃ code, o.code = code := ⟨_, rfl⟩
  rw [hcode] at HV hcs ⊢
  obtain ⟨rz, hrz⟩ : ∃ t, (if o.may then strOfNums (formB o) else ByteArray.empty) = t := ⟨_, rfl⟩
  obtain ⟨ez, hez⟩ : ∃ z : Int, (if o.may then 0 else 1) = z := ⟨_, rfl⟩
  rw [hrz, hez]
  have HZ0 : Hid (o.may = false → rz = ByteArray.empty ∧ ez = 1) := fun hm => by rw [← hrz, ← hez, hm]; exact ⟨rfl, rfl⟩
  have HZ1 : Hid (o.may = true → rz = strOfNums (formB o) ∧ ez = 0) := fun hm => by rw [← hrz, ← hez, hm]; exact ⟨rfl, rfl⟩
  have HIN : Hid (o.may = true → ObjIn o) := fun hm => h.isin hm
  have HN : Hid (o.data.length = l1 ∧ o.syms.length = l2 ∧ o.rels.length = l3) := ⟨h1.count, h2.count, h3.count⟩
  have HCO : Hid _ := hcode
  obtain ⟨W1, hW1⟩ : ∃ W1, w.alloc (.cells #[.string code, .slice a1 l1 c1, .slice a2 l2 c2, .slice a3 l3 c3] 26) = W1 := ⟨_, rfl⟩
  have HW : Hid (Below w.heap.size w W1) := by subst hW1; exact bl_one _ _
  have CV : Hid (Cells W1 w.heap.size [.string code, .slice a1 l1 c1, .slice a2 l2 c2, .slice a3 l3 c3]) := fun j u hu => by subst hW1; exact cell_last rfl (by simpa using hu)
  have H1 : Hid _ := h1.below HW.out
  have H2 : Hid _ := h2.below HW.out
  have HR0 : Hid _ := h3
  clear h h1 h2 h3 hrz hez hcode hcs
  have r0 : W1.cell? ⟨w.heap.size, 0, none⟩ = _ := CV.out 0 _ rfl
  have r1 : W1.cell? ⟨w.heap.size, 1, none⟩ = _ := CV.out 1 _ rfl
  have r2 : W1.cell? ⟨w.heap.size, 2, none⟩ = _ := CV.out 2 _ rfl
  have r3 : W1.cell? ⟨w.heap.size, 3, none⟩ = _ := CV.out 3 _ rfl
  go_enter Try.func12, Try.ntmps12
  go_wp2_with fail
  refine (rmay_any (HV.out.below HW.out)).mono ?_
  rintro e x1 ⟨rfl, hx1⟩
  have HX1 : Hid _ := hx1
  have HXW : Hid (Below w.heap.size w x1) := HW.out.trans (hx1.mono HW.out.size)
  clear r0 r1 r2 r3 hx1
  cases hm : o.may with
  | false =>
    obtain ⟨e1, e2⟩ := HZ0.out hm
    clear hm
    go_wp2
    go_ret2
    exact ⟨by rw [e1, e2]; rfl, HXW.out⟩
  | true =>
  have HZ : Hid _ := HZ1.out hm
  have hino := HIN.out hm
  obtain ⟨m1, ⟨m2, m3⟩, ⟨m4, m5⟩, ⟨m6, m7⟩⟩ := HIN.out hm
  have hcz : code.size ≤ 65536 := by rw [← HCO.out]; exact m1
  have hl1 : l1 ≤ 4096 := by have := HN.out.1; omega
  have hl2 : l2 ≤ 1000 := by have := HN.out.2.1; omega
  have hl3 : l3 ≤ 8000 := by have := HN.out.2.2; omega
  have M5 : Hid _ := m5
  have M7 : Hid _ := m7
  clear hm m1 m2 m3 m4 m5 m6 m7 HZ0 HZ1 HIN
  have q0 := cell_thru HX1.out (CV.out 0 _ rfl)
  have q1 := cell_thru HX1.out (CV.out 1 _ rfl)
  have q2 := cell_thru HX1.out (CV.out 2 _ rfl)
  have q3 := cell_thru HX1.out (CV.out 3 _ rfl)
  obtain ⟨tf, htf⟩ : ∃ t, strOfNums (frontB code o.data o.syms) = t := ⟨_, rfl⟩
  obtain ⟨tn, htn⟩ : ∃ t, strOfNums (W.put (l3 : Int)) = t := ⟨_, rfl⟩
  have pb := W.put_bd (l3 : Int) (by omega) (by omega)
  have pl := W.put_length (l3 : Int)
  have hform : formB o = frontB code o.data o.syms ++ (W.put o.rels.length ++ o.rels.flatMap relB) := by rw [← HCO.out]; simp only [formB, frontB, List.append_assoc]
  have fbd : ∀ n ∈ frontB code o.data o.syms, 0 ≤ n ∧ n ≤ 255 := fun n hn => form_bd hino n (by rw [hform]; exact List.mem_append_left _ hn)
  have fl : (frontB code o.data o.syms).length ≤ 100000000 := by have q := wr_size hino; rw [← nums_len, nums_wr hino, hform, List.length_append] at q; omega
  have zf : tf.size ≤ 100000000 := by rw [← htf, size_of fbd]; exact fl
  have zn : tn.size ≤ 10 := by rw [← htn, size_of pb]; omega
  have NF : Hid (nums tf = frontB code o.data o.syms) := by show _ = _; rw [← htf]; exact nums_of fbd
  have NN : Hid (nums tn = W.put l3) := by show _ = _; rw [← htn]; exact nums_of pb
  have HTF : Hid _ := htf
  have HTN : Hid _ := htn
  have hcat : ¬ (9223372036854775807 < tf.size + tn.size) := by omega
  clear pb pl fbd fl htf htn hform hino
  go_wp2_with fail
  refine wp_region_held_drew (S := (fun w' : World => (w'.cell? ⟨w.heap.size, 0, none⟩ = some (.string code) ∧ w'.cell? ⟨w.heap.size, 1, none⟩ = some (.slice a1 l1 c1) ∧ w'.cell? ⟨w.heap.size, 2, none⟩ = some (.slice a2 l2 c2) ∧ w'.cell? ⟨w.heap.size, 3, none⟩ = some (.slice a3 l3 c3)))) (by kernel_rfl) ⟨q0, q1, q2, q3⟩ (fun hHeld => ?_)
  refine wpAnyH_take (i := 0) (v := ?_) (get0 _ _) (by kernel_rfl) (by kernel_rfl) (by kernel_rfl) (fun _ _ _ h => h) (Or.inl ⟨by rfl, ?_⟩) (by assumption) ?_
  rotate_left
  · (intro w hSw; (try dsimp only at hSw); go_simp <;> with_reducible rfl)
  simp only [Act.put, List.setIfInBounds_toArray, List.set_cons_zero, List.set_cons_succ]
  refine wpAnyH_take (i := 1) (v := ?_) (get1 (get0 _ _)) (by kernel_rfl) (by kernel_rfl) (by kernel_rfl) (fun _ _ _ h => h) (Or.inl ⟨by rfl, ?_⟩) (by assumption) ?_
  rotate_left
  · (intro w hSw; (try dsimp only at hSw); go_simp <;> with_reducible rfl)
  simp only [Act.put, List.setIfInBounds_toArray, List.set_cons_zero, List.set_cons_succ]
  refine wpAnyH_take (i := 2) (v := ?_) (get1 (get1 (get0 _ _))) (by kernel_rfl) (by kernel_rfl) (by kernel_rfl) (fun _ _ _ h => h) (Or.inl ⟨by rfl, ?_⟩) (by assumption) ?_
  rotate_left
  · (intro w hSw; (try dsimp only at hSw); go_simp <;> with_reducible rfl)
  simp only [Act.put, List.setIfInBounds_toArray, List.set_cons_zero, List.set_cons_succ]
  refine wpAnyH_take (i := 3) (v := ?_) (get1 (get1 (get1 (get0 _ _)))) (by kernel_rfl) (by kernel_rfl) (by kernel_rfl) (fun _ _ _ h => h) (Or.inl ⟨by rfl, ?_⟩) (by assumption) ?_
  rotate_left
  · (intro w hSw; (try dsimp only at hSw); go_simp <;> with_reducible rfl)
  simp only [Act.put, List.setIfInBounds_toArray, List.set_cons_zero, List.set_cons_succ]
  refine wpAnyH_take (i := 4) (v := ?_) (get1 (get1 (get1 (get1 (get0 _ _))))) (by kernel_rfl) (by kernel_rfl) (by kernel_rfl) (fun _ _ _ h => h) (Or.inl ⟨by rfl, ?_⟩) (by assumption) ?_
  rotate_left
  · (intro w hSw; (try dsimp only at hSw); go_simp <;> with_reducible rfl)
  simp only [Act.put, List.setIfInBounds_toArray, List.set_cons_zero, List.set_cons_succ]
  refine wpAnyH_take (i := 5) (v := ?_) (get1 (get1 (get1 (get1 (get1 (get0 _ _)))))) (by kernel_rfl) (by kernel_rfl) (by kernel_rfl) (fun _ _ _ h => h) (Or.inl ⟨by rfl, ?_⟩) (by assumption) ?_
  rotate_left
  · (intro w hSw; (try dsimp only at hSw); go_simp <;> with_reducible rfl)
  simp only [Act.put, List.setIfInBounds_toArray, List.set_cons_zero, List.set_cons_succ]
  refine wpAnyH_take (i := 7) (v := ?_) (get1 (get1 (get1 (get1 (get1 (get1 (get1 (get0 _ _)))))))) (by kernel_rfl) (by kernel_rfl) (by kernel_rfl) (fun _ _ _ h => h) (Or.inl ⟨by rfl, ?_⟩) (by assumption) ?_
  rotate_left
  · (intro w hSw; (try dsimp only at hSw); go_simp <;> with_reducible rfl)
  simp only [Act.put, List.setIfInBounds_toArray, List.set_cons_zero, List.set_cons_succ]
  refine wpAnyH_take (i := 8) (v := ?_) (get1 (get1 (get1 (get1 (get1 (get1 (get1 (get1 (get0 _ _))))))))) (by kernel_rfl) (by kernel_rfl) (by kernel_rfl) (fun _ _ _ h => h) (Or.inl ⟨by rfl, ?_⟩) (by assumption) ?_
  rotate_left
  · (intro w hSw; (try dsimp only at hSw); go_simp <;> with_reducible rfl)
  simp only [Act.put, List.setIfInBounds_toArray, List.set_cons_zero, List.set_cons_succ]
  refine wpAnyH_take (i := 9) (v := ?_) (get1 (get1 (get1 (get1 (get1 (get1 (get1 (get1 (get1 (get0 _ _)))))))))) (by kernel_rfl) (by kernel_rfl) (by kernel_rfl) (fun _ _ _ h => h) (Or.inl ⟨by rfl, ?_⟩) (by assumption) ?_
  rotate_left
  · (intro w hSw; (try dsimp only at hSw); go_simp <;> with_reducible rfl)
  simp only [Act.put, List.setIfInBounds_toArray, List.set_cons_zero, List.set_cons_succ]
  refine wpAnyH_ready (rs := [6]) (by kernel_rfl) (by simp) ?_
  refine AllReadyH.cons (get1 (get1 (get1 (get1 (get1 (get1 (get0 _ _))))))) (fun K hK => ?_) AllReadyH.nil
  go_simp
  have dw : Below x1.heap.size x1 x1.drew := (Below.refl _ _).drew
  refine (dfront_any ((H1.out.below HX1.out).below dw) ((H2.out.below HX1.out).below dw) hcz hl1 hl2 M5.out).mono ?_
  rintro e ya ⟨rfl, hya⟩
  rw [HTF.out]
  have HYA : Hid (Below x1.heap.size x1 ya) := dw.trans (hya.mono dw.size)
  try go_wp2_with fail
  refine hK.out _ _ ⟨cell_thru hya hHeld.1, cell_thru hya hHeld.2.1, cell_thru hya hHeld.2.2.1, cell_thru hya hHeld.2.2.2⟩ (fun hHeld => ?_)
  clear hK K hya dw
  try simp only [Act.put, List.setIfInBounds_toArray, List.set_cons_zero, List.set_cons_succ]
  refine wpAnyH_ready (rs := [10]) (by kernel_rfl) (by simp) ?_
  refine AllReadyH.cons (get1 (get1 (get1 (get1 (get1 (get1 (get1 (get1 (get1 (get1 (get0 _ _))))))))))) (fun K hK => ?_) AllReadyH.nil
  go_simp
  refine (dnumber_any l3 (by omega) (by omega) _).mono ?_
  rintro e yb ⟨rfl, hyb⟩
  rw [HTN.out]
  have HYB : Hid (Below x1.heap.size x1 yb) := HYA.out.trans (hyb.mono HYA.out.size)
  try go_wp2_with fail
  refine hK.out _ _ ⟨cell_thru hyb hHeld.1, cell_thru hyb hHeld.2.1, cell_thru hyb hHeld.2.2.1, cell_thru hyb hHeld.2.2.2⟩ (fun hHeld => ?_)
  clear hK K hyb
  try simp only [Act.put, List.setIfInBounds_toArray, List.set_cons_zero, List.set_cons_succ]
  refine wpAnyH_take (i := 11) (v := ?_) (get1 (get1 (get1 (get1 (get1 (get1 (get1 (get1 (get1 (get1 (get1 (get0 _ _)))))))))))) (by kernel_rfl) (by kernel_rfl) (by kernel_rfl) (fun _ _ _ h => h) (Or.inl ⟨by rfl, ?_⟩) (by assumption) ?_
  rotate_left
  · (intro w hSw; (try dsimp only at hSw); go_simp <;> with_reducible rfl)
  simp only [Act.put, List.setIfInBounds_toArray, List.set_cons_zero, List.set_cons_succ]
  refine wpAnyH_ready (rs := [12]) (by kernel_rfl) (by simp) ?_
  refine AllReadyH.cons (get1 (get1 (get1 (get1 (get1 (get1 (get1 (get1 (get1 (get1 (get1 (get1 (get0 _ _))))))))))))) (fun K hK => ?_) AllReadyH.nil
  obtain ⟨v0, x3, hcv, hrm, hb3⟩ := rm_conv yb (tf ++ tn) (by rw [ByteArray.size_append]; omega)
  go_simp
  refine hK.out _ _ ⟨cell_thru hb3 hHeld.1, cell_thru hb3 hHeld.2.1, cell_thru hb3 hHeld.2.2.1, cell_thru hb3 hHeld.2.2.2⟩ (fun hHeld => ?_)
  clear hK K hcv
  try simp only [Act.put, List.setIfInBounds_toArray, List.set_cons_zero, List.set_cons_succ]
  refine wpAnyH_take (i := 13) (v := ?_) (get1 (get1 (get1 (get1 (get1 (get1 (get1 (get1 (get1 (get1 (get1 (get1 (get1 (get0 _ _)))))))))))))) (by kernel_rfl) (by kernel_rfl) (by kernel_rfl) (fun _ _ _ h => h) (Or.inl ⟨by rfl, ?_⟩) (by assumption) ?_
  rotate_left
  · (intro w hSw; (try dsimp only at hSw); go_simp <;> with_reducible rfl)
  simp only [Act.put, List.setIfInBounds_toArray, List.set_cons_zero, List.set_cons_succ]
  refine wpAnyH_done (by kernel_rfl) ?_ _
  have HX3 : Hid (Below x1.heap.size x1 x3) := HYB.out.trans (hb3.mono HYB.out.size)
  have HBW : Hid (Below w.heap.size w x3) := HXW.out.trans (HX3.out.mono HXW.out.size)
  obtain ⟨ys0, hys0⟩ : ∃ ys, ys = nums (tf ++ tn) := ⟨_, rfl⟩
  rw [← hys0] at hrm
  have HY0 : Hid (ys0 = frontB code o.data o.syms ++ W.put l3) := by show _ = _; rw [hys0, nums_app, NF.out, NN.out]
  have hyl : ys0.length ≤ 100000010 := by rw [hys0, nums_len, ByteArray.size_append]; omega
  have hzx : w.heap.size + 1 ≤ yb.heap.size := by have := World.block_lt_of_cell? x1 ⟨w.heap.size, 0, none⟩ q0; have := HYB.out.size; simp only at *; omega
  have HRM : Hid (RM x3 (w.heap.size + 1) v0 ys0) := by
    obtain ⟨g, cap, e, g1, g2⟩ := hrm.ex
    exact ⟨⟨g, cap, e, Nat.le_trans hzx g1, g2⟩⟩
  have HC3 : Hid ((x3.cell? ⟨w.heap.size, 0, none⟩ = some (.string code) ∧ x3.cell? ⟨w.heap.size, 1, none⟩ = some (.slice a1 l1 c1) ∧ x3.cell? ⟨w.heap.size, 2, none⟩ = some (.slice a2 l2 c2) ∧ x3.cell? ⟨w.heap.size, 3, none⟩ = some (.slice a3 l3 c3))) := hHeld
  clear hHeld hrm hb3 hys0 q0 q1 q2 q3
  go_wp2_with fail
  go_loopg [4, 5] l3 (fun r bv iv wq => ∃ (k : Nat) (ys : List Int), iv = .int .i64 k ∧ k ≤ l3 ∧ l3 - k ≤ r ∧ ys.length ≤ 100000010 + 1100 * k ∧ Hid (ys = ys0 ++ (o.rels.take k).flatMap relB) ∧ Hid (RM wq (w.heap.size + 1) bv ys) ∧ Hid (Below w.heap.size w wq) ∧ Hid ((wq.cell? ⟨w.heap.size, 0, none⟩ = some (.string code) ∧ wq.cell? ⟨w.heap.size, 1, none⟩ = some (.slice a1 l1 c1) ∧ wq.cell? ⟨w.heap.size, 2, none⟩ = some (.slice a2 l2 c2) ∧ wq.cell? ⟨w.heap.size, 3, none⟩ = some (.slice a3 l3 c3))) ∧ w.heap.size < wq.heap.size)
  case atStart => exact ⟨0, ys0, rfl, Nat.zero_le _, by omega, by omega, (by simp : ys0 = ys0 ++ (o.rels.take 0).flatMap relB), HRM.out, HBW.out, HC3.out, World.block_lt_of_cell? x3 ⟨w.heap.size, 0, none⟩ HC3.out.1⟩
  case round =>
    obtain ⟨k, ys, rfl, hk, hr, hyl4, HY, HR, HB, HC, hzw⟩ := hrel
    have t3 := HC.out.2.2.2
    by_cases hlt : k < l3
    · rcases HR0.out.cells with h0 | ⟨b, off, hA, hcl⟩
      · omega
      obtain ⟨k0, k1, k2, k3⟩ := hcl k hlt
      have hbl : b < w.heap.size := World.block_lt_of_cell? w ⟨b, off + k * 4, none⟩ k0
      have q0 := (HB.out.cell (p := ⟨b, off + k * 4, none⟩) hbl).trans k0
      have q1 := (HB.out.cell (p := ⟨b, off + k * 4 + 1, none⟩) hbl).trans k1
      have q2 := (HB.out.cell (p := ⟨b, off + k * 4 + 2, none⟩) hbl).trans k2
      have q3 := (HB.out.cell (p := ⟨b, off + k * 4 + 3, none⟩) hbl).trans k3
      have hin' := M7.out (o.rels.getD k noRel) (by have := HN.out.2.2; simp [List.getD, show k < o.rels.length by omega])
      have HTK : Hid _ := flat_snoc relB o.rels noRel k (by have := HN.out.2.2; omega)
      obtain ⟨⟨ps, kd, nm, ad⟩, hz⟩ : ∃ z, o.rels.getD k noRel = z := ⟨_, rfl⟩
      rw [hz] at q0 q1 q2 q3 hin' HTK
      simp only at q0 q1 q2 q3
      obtain ⟨⟨i4, i5⟩, ⟨i2, i3⟩, i1, i6⟩ := hin'
      simp only at i1 i2 i3 i4 i5 i6
      have u1 := txt_bd (s := nm) (by omega)
      have u2 := W.put_bd ps i4 (by omega)
      have u3 : ∀ n ∈ [kd], 0 ≤ n ∧ n ≤ 255 := by intro n hn; simp at hn; omega
      have u5 := long_len i6
      have w1 := W.put_length (nm.size : Int)
      have w2 := W.put_length ps
      obtain ⟨ta, hta⟩ : ∃ t, strOfNums (txt nm) = t := ⟨_, rfl⟩
      obtain ⟨tk, htk⟩ : ∃ t, strOfNums [kd] = t := ⟨_, rfl⟩
      obtain ⟨tp, htp⟩ : ∃ t, strOfNums (W.put ps) = t := ⟨_, rfl⟩
      obtain ⟨tw, htw⟩ : ∃ t, strOfNums (long ad) = t := ⟨_, rfl⟩
      have za : ta.size ≤ 40 := by rw [← hta, size_of u1]; simp only [txt, List.length_append, nums_len]; omega
      have zk : tk.size = 1 := by rw [← htk, size_of u3]; rfl
      have zp : tp.size ≤ 10 := by rw [← htp, size_of u2]; omega
      have zw : tw.size = 8 := by rw [← htw, size_of u5.2, u5.1]
      have NS : Hid (nums (tp ++ tk ++ ta ++ tw) = relB ⟨ps, kd, nm, ad⟩) := by
        show _ = _
        rw [nums_app, nums_app, nums_app, ← hta, ← htk, ← htp, ← htw, nums_of u1, nums_of u2, nums_of u3, nums_of u5.2]
        simp [relB]
      have HTA : Hid _ := hta
      have HTKD : Hid _ := htk
      have HTP : Hid _ := htp
      have HTW : Hid _ := htw
      have I6 : Hid _ := i6
      have hkd : IntKind.u8.wrap kd = kd := by rw [IntKind.wrap_u8']; omega
      have hkd' : kd % 256 = kd := by omega
      subst hA
      have hii : (k : Int) < l3 := by omega
      have hin : 0 ≤ (k : Int) := by omega
      have hzs : ys.length + (tp ++ tk ++ ta ++ tw).size ≤ 140737488355328 := by simp only [ByteArray.size_append]; omega
      have hcat1 : ¬ (9223372036854775807 < tp.size + 1) := by omega
      have hcat2 : ¬ (9223372036854775807 < tp.size + 1 + ta.size) := by omega
      have hcat3 : ¬ (9223372036854775807 < tp.size + 1 + ta.size + 8) := by omega
      clear hcl k0 k1 k2 k3 hz u1 u2 u3 u5 w1 w2 hta htk htp htw i2 i3 i6
      go_wp2_with fail
      obtain ⟨X0, hX0⟩ : ∃ X, wr.alloc (.cells #[.int .i64 ps, .int .i64 kd, .string nm, .int .i64 ad] 43) = X := ⟨_, rfl⟩
      have hbX : Below wr.heap.size wr X0 := by subst hX0; exact bl_one _ _
      have z0 : X0.cell? ⟨wr.heap.size, 0, none⟩ = some (.int .i64 ps) := by subst hX0; exact cell_last rfl rfl
      have z1 : X0.cell? ⟨wr.heap.size, 1, none⟩ = some (.int .i64 kd) := by subst hX0; exact cell_last rfl rfl
      have z2 : X0.cell? ⟨wr.heap.size, 2, none⟩ = some (.string nm) := by subst hX0; exact cell_last rfl rfl
      have z3 : X0.cell? ⟨wr.heap.size, 3, none⟩ = some (.int .i64 ad) := by subst hX0; exact cell_last rfl rfl
      have HRX : Hid _ := HR.out.below hbX
      have HBX : Hid (Below w.heap.size w X0) := HB.out.trans (hbX.mono HB.out.size)
      have HCX : Hid ((X0.cell? ⟨w.heap.size, 0, none⟩ = some (.string code) ∧ X0.cell? ⟨w.heap.size, 1, none⟩ = some (.slice a1 l1 c1) ∧ X0.cell? ⟨w.heap.size, 2, none⟩ = some (.slice a2 l2 c2) ∧ X0.cell? ⟨w.heap.size, 3, none⟩ = some (.slice (some ⟨b, off, none⟩) l3 c3))) := ⟨cell_thru hbX HC.out.1, cell_thru hbX HC.out.2.1, cell_thru hbX HC.out.2.2.1, cell_thru hbX HC.out.2.2.2⟩
      have hzX : wr.heap.size < X0.heap.size := World.block_lt_of_cell? X0 ⟨wr.heap.size, 0, none⟩ z0
      have HZR : Hid (∀ g, u4.ownBlock = some g → g ≠ wr.heap.size) := fun g e => by have := (HR.out.lt g e).2; omega
      rw [hX0]
      clear hX0 hbX q0 q1 q2 q3 t3 HC HB HR
      generalize wr.heap.size = zb at *
      have HDW : Hid (Below X0.heap.size X0 X0.drew) := (Below.refl _ _).drew
      refine wp_region_held_drew (S := (fun w' : World => (w'.cell? ⟨zb, 0, none⟩ = some (.int .i64 ps) ∧ w'.cell? ⟨zb, 1, none⟩ = some (.int .i64 kd) ∧ w'.cell? ⟨zb, 2, none⟩ = some (.string nm) ∧ w'.cell? ⟨zb, 3, none⟩ = some (.int .i64 ad)))) (by kernel_rfl) ⟨z0, z1, z2, z3⟩ (fun hHeld => ?_)
      refine wpAnyH_take (i := 0) (v := ?_) (get0 _ _) (by kernel_rfl) (by kernel_rfl) (by kernel_rfl) (fun _ _ _ h => h) (Or.inl ⟨by rfl, ?_⟩) (by assumption) ?_
      rotate_left
      · (intro w hSw; (try dsimp only at hSw); go_simp <;> with_reducible rfl)
      simp only [Act.put, List.setIfInBounds_toArray, List.set_cons_zero, List.set_cons_succ]
      refine wpAnyH_take (i := 1) (v := ?_) (get1 (get0 _ _)) (by kernel_rfl) (by kernel_rfl) (by kernel_rfl) (fun _ _ _ h => h) (Or.inl ⟨by rfl, ?_⟩) (by assumption) ?_
      rotate_left
      · (intro w hSw; (try dsimp only at hSw); go_simp <;> with_reducible rfl)
      simp only [Act.put, List.setIfInBounds_toArray, List.set_cons_zero, List.set_cons_succ]
      refine wpAnyH_take (i := 2) (v := ?_) (get1 (get1 (get0 _ _))) (by kernel_rfl) (by kernel_rfl) (by kernel_rfl) (fun _ _ _ h => h) (Or.inl ⟨by rfl, ?_⟩) (by assumption) ?_
      rotate_left
      · (intro w hSw; (try dsimp only at hSw); go_simp <;> with_reducible rfl)
      simp only [Act.put, List.setIfInBounds_toArray, List.set_cons_zero, List.set_cons_succ]
      refine wpAnyH_take (i := 4) (v := ?_) (get1 (get1 (get1 (get1 (get0 _ _))))) (by kernel_rfl) (by kernel_rfl) (by kernel_rfl) (fun _ _ _ h => h) (Or.inl ⟨by rfl, ?_⟩) (by assumption) ?_
      rotate_left
      · (intro w hSw; (try dsimp only at hSw); go_simp <;> with_reducible rfl)
      simp only [Act.put, List.setIfInBounds_toArray, List.set_cons_zero, List.set_cons_succ]
      refine wpAnyH_take (i := 5) (v := ?_) (get1 (get1 (get1 (get1 (get1 (get0 _ _)))))) (by kernel_rfl) (by kernel_rfl) (by kernel_rfl) (fun _ _ _ h => h) (Or.inl ⟨by rfl, ?_⟩) (by assumption) ?_
      rotate_left
      · (intro w hSw; (try dsimp only at hSw); go_simp <;> with_reducible rfl)
      simp only [Act.put, List.setIfInBounds_toArray, List.set_cons_zero, List.set_cons_succ]
      refine wpAnyH_take (i := 6) (v := ?_) (get1 (get1 (get1 (get1 (get1 (get1 (get0 _ _))))))) (by kernel_rfl) (by kernel_rfl) (by kernel_rfl) (fun _ _ _ h => h) (Or.inl ⟨by rfl, ?_⟩) (by assumption) ?_
      rotate_left
      · (intro w hSw; (try dsimp only at hSw); go_simp <;> with_reducible rfl)
      simp only [Act.put, List.setIfInBounds_toArray, List.set_cons_zero, List.set_cons_succ]
      refine wpAnyH_take (i := 10) (v := ?_) (get1 (get1 (get1 (get1 (get1 (get1 (get1 (get1 (get1 (get1 (get0 _ _))))))))))) (by kernel_rfl) (by kernel_rfl) (by kernel_rfl) (fun _ _ _ h => h) (Or.inl ⟨by rfl, ?_⟩) (by assumption) ?_
      rotate_left
      · (intro w hSw; (try dsimp only at hSw); go_simp <;> with_reducible rfl)
      simp only [Act.put, List.setIfInBounds_toArray, List.set_cons_zero, List.set_cons_succ]
      refine wpAnyH_take (i := 11) (v := ?_) (get1 (get1 (get1 (get1 (get1 (get1 (get1 (get1 (get1 (get1 (get1 (get0 _ _)))))))))))) (by kernel_rfl) (by kernel_rfl) (by kernel_rfl) (fun _ _ _ h => h) (Or.inl ⟨by rfl, ?_⟩) (by assumption) ?_
      rotate_left
      · (intro w hSw; (try dsimp only at hSw); go_simp <;> with_reducible rfl)
      simp only [Act.put, List.setIfInBounds_toArray, List.set_cons_zero, List.set_cons_succ]
      refine wpAnyH_take (i := 14) (v := ?_) (get1 (get1 (get1 (get1 (get1 (get1 (get1 (get1 (get1 (get1 (get1 (get1 (get1 (get1 (get0 _ _))))))))))))))) (by kernel_rfl) (by kernel_rfl) (by kernel_rfl) (fun _ _ _ h => h) (Or.inl ⟨by rfl, ?_⟩) (by assumption) ?_
      rotate_left
      · (intro w hSw; (try dsimp only at hSw); go_simp <;> with_reducible rfl)
      simp only [Act.put, List.setIfInBounds_toArray, List.set_cons_zero, List.set_cons_succ]
      refine wpAnyH_take (i := 15) (v := ?_) (get1 (get1 (get1 (get1 (get1 (get1 (get1 (get1 (get1 (get1 (get1 (get1 (get1 (get1 (get1 (get0 _ _)))))))))))))))) (by kernel_rfl) (by kernel_rfl) (by kernel_rfl) (fun _ _ _ h => h) (Or.inl ⟨by rfl, ?_⟩) (by assumption) ?_
      rotate_left
      · (intro w hSw; (try dsimp only at hSw); go_simp <;> with_reducible rfl)
      simp only [Act.put, List.setIfInBounds_toArray, List.set_cons_zero, List.set_cons_succ]
      refine wpAnyH_ready (rs := [3, 7]) (by kernel_rfl) (by simp) ?_
      refine AllReadyH.cons (get1 (get1 (get1 (get0 _ _)))) (fun K hK => ?_) ?_
      · go_simp
        refine (dnumber_any ps i4 (by omega) _).mono ?_
        rintro e yp ⟨rfl, hy⟩
        rw [HTP.out]
        have HDW : Hid (Below X0.heap.size X0 yp) := HDW.out.trans (hy.mono HDW.out.size)
        try go_wp2_with fail
        refine hK.out _ _ ⟨cell_thru hy hHeld.1, cell_thru hy hHeld.2.1, cell_thru hy hHeld.2.2.1, cell_thru hy hHeld.2.2.2⟩ (fun hHeld => ?_)
        clear hK K hy
        try simp only [Act.put, List.setIfInBounds_toArray, List.set_cons_zero, List.set_cons_succ]
        refine wpAnyH_ready (rs := [7, 12]) (by kernel_rfl) (by simp) ?_
        refine AllReadyH.cons (get1 (get1 (get1 (get1 (get1 (get1 (get1 (get0 _ _)))))))) (fun K hK => ?_) ?_
        · go_simp
          have hyb : Below yp.heap.size yp (yp.alloc (.cells #[.int .u8 kd] 5)) := bl_one _ _
          have HDW : Hid (Below X0.heap.size X0 (yp.alloc (.cells #[.int .u8 kd] 5))) := HDW.out.trans (hyb.mono HDW.out.size)
          have hcb : (yp.alloc (.cells #[.int .u8 kd] 5)).cell? ⟨yp.heap.size, 0, none⟩ = some (.int .u8 kd) := cell_last rfl rfl
          refine hK.out _ _ ⟨cell_thru hyb hHeld.1, cell_thru hyb hHeld.2.1, cell_thru hyb hHeld.2.2.1, cell_thru hyb hHeld.2.2.2⟩ (fun hHeld => ?_)
          clear hK K hyb
          try simp only [Act.put, List.setIfInBounds_toArray, List.set_cons_zero, List.set_cons_succ]
          obtain ⟨yb, hyb⟩ : ∃ Y, (yp.alloc (.cells #[.int .u8 kd] 5)) = Y := ⟨_, rfl⟩
          rw [hyb] at HDW hcb hHeld ⊢
          clear hyb
          refine wpAnyH_ready (rs := [8, 12]) (by kernel_rfl) (by simp) ?_
          refine AllReadyH.cons (get1 (get1 (get1 (get1 (get1 (get1 (get1 (get1 (get0 _ _))))))))) (fun K hK => ?_) ?_
          · have hcv := one_conv hcb
            rw [HTKD.out] at hcv
            go_simp
            refine hK.out _ _ hHeld (fun hHeld => ?_)
            clear hK K hcv
            try simp only [Act.put, List.setIfInBounds_toArray, List.set_cons_zero, List.set_cons_succ]
            refine wpAnyH_take (i := 9) (v := ?_) (get1 (get1 (get1 (get1 (get1 (get1 (get1 (get1 (get1 (get0 _ _)))))))))) (by kernel_rfl) (by kernel_rfl) (by kernel_rfl) (fun _ _ _ h => h) (Or.inl ⟨by rfl, ?_⟩) (by assumption) ?_
            rotate_left
            · (intro w hSw; (try dsimp only at hSw); go_simp <;> with_reducible rfl)
            simp only [Act.put, List.setIfInBounds_toArray, List.set_cons_zero, List.set_cons_succ]
            refine wpAnyH_ready (rs := [12]) (by kernel_rfl) (by simp) ?_
            refine AllReadyH.cons (get1 (get1 (get1 (get1 (get1 (get1 (get1 (get1 (get1 (get1 (get1 (get1 (get0 _ _))))))))))))) (fun K hK => ?_) ?_
            · go_simp
              refine (dtext_any nm (by omega) _).mono ?_
              rintro e ya ⟨rfl, hy⟩
              rw [HTA.out]
              have HDW : Hid (Below X0.heap.size X0 ya) := HDW.out.trans (hy.mono HDW.out.size)
              try go_wp2_with fail
              refine hK.out _ _ ⟨cell_thru hy hHeld.1, cell_thru hy hHeld.2.1, cell_thru hy hHeld.2.2.1, cell_thru hy hHeld.2.2.2⟩ (fun hHeld => ?_)
              have hcb := cell_thru hy hcb
              clear hK K hy
              try simp only [Act.put, List.setIfInBounds_toArray, List.set_cons_zero, List.set_cons_succ]
              refine wpAnyH_take (i := 13) (v := ?_) (get1 (get1 (get1 (get1 (get1 (get1 (get1 (get1 (get1 (get1 (get1 (get1 (get1 (get0 _ _)))))))))))))) (by kernel_rfl) (by kernel_rfl) (by kernel_rfl) (fun _ _ _ h => h) (Or.inl ⟨by rfl, ?_⟩) (by assumption) ?_
              rotate_left
              · (intro w hSw; (try dsimp only at hSw); go_simp <;> with_reducible rfl)
              simp only [Act.put, List.setIfInBounds_toArray, List.set_cons_zero, List.set_cons_succ]
              refine wpAnyH_ready (rs := [16]) (by kernel_rfl) (by simp) ?_
              refine AllReadyH.cons (get1 (get1 (get1 (get1 (get1 (get1 (get1 (get1 (get1 (get1 (get1 (get1 (get1 (get1 (get1 (get1 (get0 _ _))))))))))))))))) (fun K hK => ?_) ?_
              · go_simp
                refine (dwide_any ad I6.out _).mono ?_
                rintro e yw ⟨rfl, hy⟩
                rw [HTW.out]
                have HDW : Hid (Below X0.heap.size X0 yw) := HDW.out.trans (hy.mono HDW.out.size)
                try go_wp2_with fail
                refine hK.out _ _ ⟨cell_thru hy hHeld.1, cell_thru hy hHeld.2.1, cell_thru hy hHeld.2.2.1, cell_thru hy hHeld.2.2.2⟩ (fun hHeld => ?_)
                have hcb := cell_thru hy hcb
                clear hK K hy
                try simp only [Act.put, List.setIfInBounds_toArray, List.set_cons_zero, List.set_cons_succ]
                refine wpAnyH_take (i := 17) (v := ?_) (get1 (get1 (get1 (get1 (get1 (get1 (get1 (get1 (get1 (get1 (get1 (get1 (get1 (get1 (get1 (get1 (get1 (get0 _ _)))))))))))))))))) (by kernel_rfl) (by kernel_rfl) (by kernel_rfl) (fun _ _ _ h => h) (Or.inl ⟨by rfl, ?_⟩) (by assumption) ?_
                rotate_left
                · (intro w hSw; (try dsimp only at hSw); go_simp <;> with_reducible rfl)
                simp only [Act.put, List.setIfInBounds_toArray, List.set_cons_zero, List.set_cons_succ]
                refine wpAnyH_ready (rs := [18]) (by kernel_rfl) (by simp) ?_
                refine AllReadyH.cons (get1 (get1 (get1 (get1 (get1 (get1 (get1 (get1 (get1 (get1 (get1 (get1 (get1 (get1 (get1 (get1 (get1 (get1 (get0 _ _))))))))))))))))))) (fun K hK => ?_) AllReadyH.nil
                have HRC : Hid _ := HRX.out.below HDW.out
                have HBC : Hid (Below w.heap.size w yw) := HBX.out.trans (HDW.out.mono HBX.out.size)
                have hzc : w.heap.size + 1 ≤ yw.heap.size := by have := HDW.out.size; omega
                refine step_append_rm (by rfl) _ _ (by rfl) (by rfl) HRC.out hzc (tp ++ tk ++ ta ++ tw) (by rfl) hzs ?_
                intro v' y' hrm' hgr
                have hbn : Below (w.heap.size + 1) yw y' := rm_gr HRC.out hgr hzc
                have HBN : Hid (Below w.heap.size w y') := HBC.out.trans (hbn.mono (Nat.le_succ _))
                have HRN : Hid (RM y' (w.heap.size + 1) v' (ys ++ relB ⟨ps, kd, nm, ad⟩)) := by show RM _ _ _ _; rw [← NS.out]; exact hrm'
                have far : ∀ (bk j : Nat) (u : Value), u4.ownBlock ≠ some bk → yw.cell? ⟨bk, j, none⟩ = some u → y'.cell? ⟨bk, j, none⟩ = some u := fun bk j u hne hc => hgr.cell hc hne
                have nzb : u4.ownBlock ≠ some zb := fun e => HZR.out zb e rfl
                refine hK.out _ _ ⟨far _ _ _ nzb hHeld.1, far _ _ _ nzb hHeld.2.1, far _ _ _ nzb hHeld.2.2.1, far _ _ _ nzb hHeld.2.2.2⟩ (fun hHeld => ?_)
                have HCN : Hid ((y'.cell? ⟨w.heap.size, 0, none⟩ = some (.string code) ∧ y'.cell? ⟨w.heap.size, 1, none⟩ = some (.slice a1 l1 c1) ∧ y'.cell? ⟨w.heap.size, 2, none⟩ = some (.slice a2 l2 c2) ∧ y'.cell? ⟨w.heap.size, 3, none⟩ = some (.slice (some ⟨b, off, none⟩) l3 c3))) := ⟨(hbn.cell (p := ⟨w.heap.size, 0, none⟩) (Nat.lt_succ_self _)).trans (cell_thru HDW.out HCX.out.1), (hbn.cell (p := ⟨w.heap.size, 1, none⟩) (Nat.lt_succ_self _)).trans (cell_thru HDW.out HCX.out.2.1), (hbn.cell (p := ⟨w.heap.size, 2, none⟩) (Nat.lt_succ_self _)).trans (cell_thru HDW.out HCX.out.2.2.1), (hbn.cell (p := ⟨w.heap.size, 3, none⟩) (Nat.lt_succ_self _)).trans (cell_thru HDW.out HCX.out.2.2.2)⟩
                have hzy : w.heap.size < y'.heap.size := World.block_lt_of_cell? y' ⟨w.heap.size, 0, none⟩ HCN.out.1
                clear hK K hrm' hgr hbn far nzb hzc
                try simp only [Act.put, List.setIfInBounds_toArray, List.set_cons_zero, List.set_cons_succ]
                refine wpAnyH_take (i := 19) (v := ?_) (get1 (get1 (get1 (get1 (get1 (get1 (get1 (get1 (get1 (get1 (get1 (get1 (get1 (get1 (get1 (get1 (get1 (get1 (get1 (get0 _ _)))))))))))))))))))) (by kernel_rfl) (by kernel_rfl) (by kernel_rfl) (fun _ _ _ h => h) (Or.inl ⟨by rfl, ?_⟩) (by assumption) ?_
                rotate_left
                · (intro w hSw; (try dsimp only at hSw); go_simp <;> with_reducible rfl)
                simp only [Act.put, List.setIfInBounds_toArray, List.set_cons_zero, List.set_cons_succ]
                refine wpAnyH_done (by kernel_rfl) ?_ _
                clear hHeld
                have HYN : Hid (ys ++ relB ⟨ps, kd, nm, ad⟩ = ys0 ++ (o.rels.take (k + 1)).flatMap relB) := by show _ = _; rw [HTK.out, HY.out, List.append_assoc]
                have hlz : (ys ++ relB ⟨ps, kd, nm, ad⟩).length ≤ 100000010 + 1100 * (k + 1) := by rw [List.length_append]; have := relB_len (r := ⟨ps, kd, nm, ad⟩) (by show nm.size ≤ 1000; omega) I6.out; omega
                go_wp2_with fail
                go_roundg (l3 - (k + 1))
                case measure => omega
                case rel => exact ⟨k + 1, _, by first | rfl | (congr 1; omega), by omega, Nat.le_refl _, hlz, HYN.out, HRN.out, HBN.out, HCN.out, hzy⟩
              exact AllReadyH.nil
            exact AllReadyH.nil
          refine AllReadyH.cons (get1 (get1 (get1 (get1 (get1 (get1 (get1 (get1 (get1 (get1 (get1 (get1 (get0 _ _))))))))))))) (fun K hK => ?_) ?_
          · go_simp
            refine (dtext_any nm (by omega) _).mono ?_
            rintro e ya ⟨rfl, hy⟩
            rw [HTA.out]
            have HDW : Hid (Below X0.heap.size X0 ya) := HDW.out.trans (hy.mono HDW.out.size)
            try go_wp2_with fail
            refine hK.out _ _ ⟨cell_thru hy hHeld.1, cell_thru hy hHeld.2.1, cell_thru hy hHeld.2.2.1, cell_thru hy hHeld.2.2.2⟩ (fun hHeld => ?_)
            have hcb := cell_thru hy hcb
            clear hK K hy
            try simp only [Act.put, List.setIfInBounds_toArray, List.set_cons_zero, List.set_cons_succ]
            refine wpAnyH_ready (rs := [8, 16]) (by kernel_rfl) (by simp) ?_
            refine AllReadyH.cons (get1 (get1 (get1 (get1 (get1 (get1 (get1 (get1 (get0 _ _))))))))) (fun K hK => ?_) ?_
            · have hcv := one_conv hcb
              rw [HTKD.out] at hcv
              go_simp
              refine hK.out _ _ hHeld (fun hHeld => ?_)
              clear hK K hcv
              try simp only [Act.put, List.setIfInBounds_toArray, List.set_cons_zero, List.set_cons_succ]
              refine wpAnyH_take (i := 9) (v := ?_) (get1 (get1 (get1 (get1 (get1 (get1 (get1 (get1 (get1 (get0 _ _)))))))))) (by kernel_rfl) (by kernel_rfl) (by kernel_rfl) (fun _ _ _ h => h) (Or.inl ⟨by rfl, ?_⟩) (by assumption) ?_
              rotate_left
              · (intro w hSw; (try dsimp only at hSw); go_simp <;> with_reducible rfl)
              simp only [Act.put, List.setIfInBounds_toArray, List.set_cons_zero, List.set_cons_succ]
              refine wpAnyH_take (i := 13) (v := ?_) (get1 (get1 (get1 (get1 (get1 (get1 (get1 (get1 (get1 (get1 (get1 (get1 (get1 (get0 _ _)))))))))))))) (by kernel_rfl) (by kernel_rfl) (by kernel_rfl) (fun _ _ _ h => h) (Or.inl ⟨by rfl, ?_⟩) (by assumption) ?_
              rotate_left
              · (intro w hSw; (try dsimp only at hSw); go_simp <;> with_reducible rfl)
              simp only [Act.put, List.setIfInBounds_toArray, List.set_cons_zero, List.set_cons_succ]
              refine wpAnyH_ready (rs := [16]) (by kernel_rfl) (by simp) ?_
              refine AllReadyH.cons (get1 (get1 (get1 (get1 (get1 (get1 (get1 (get1 (get1 (get1 (get1 (get1 (get1 (get1 (get1 (get1 (get0 _ _))))))))))))))))) (fun K hK => ?_) ?_
              · go_simp
                refine (dwide_any ad I6.out _).mono ?_
                rintro e yw ⟨rfl, hy⟩
                rw [HTW.out]
                have HDW : Hid (Below X0.heap.size X0 yw) := HDW.out.trans (hy.mono HDW.out.size)
                try go_wp2_with fail
                refine hK.out _ _ ⟨cell_thru hy hHeld.1, cell_thru hy hHeld.2.1, cell_thru hy hHeld.2.2.1, cell_thru hy hHeld.2.2.2⟩ (fun hHeld => ?_)
                have hcb := cell_thru hy hcb
                clear hK K hy
                try simp only [Act.put, List.setIfInBounds_toArray, List.set_cons_zero, List.set_cons_succ]
                refine wpAnyH_take (i := 17) (v := ?_) (get1 (get1 (get1 (get1 (get1 (get1 (get1 (get1 (get1 (get1 (get1 (get1 (get1 (get1 (get1 (get1 (get1 (get0 _ _)))))))))))))))))) (by kernel_rfl) (by kernel_rfl) (by kernel_rfl) (fun _ _ _ h => h) (Or.inl ⟨by rfl, ?_⟩) (by assumption) ?_
                rotate_left
                · (intro w hSw; (try dsimp only at hSw); go_simp <;> with_reducible rfl)
                simp only [Act.put, List.setIfInBounds_toArray, List.set_cons_zero, List.set_cons_succ]
                refine wpAnyH_ready (rs := [18]) (by kernel_rfl) (by simp) ?_
                refine AllReadyH.cons (get1 (get1 (get1 (get1 (get1 (get1 (get1 (get1 (get1 (get1 (get1 (get1 (get1 (get1 (get1 (get1 (get1 (get1 (get0 _ _))))))))))))))))))) (fun K hK => ?_) AllReadyH.nil
                have HRC : Hid _ := HRX.out.below HDW.out
                have HBC : Hid (Below w.heap.size w yw) := HBX.out.trans (HDW.out.mono HBX.out.size)
                have hzc : w.heap.size + 1 ≤ yw.heap.size := by have := HDW.out.size; omega
                refine step_append_rm (by rfl) _ _ (by rfl) (by rfl) HRC.out hzc (tp ++ tk ++ ta ++ tw) (by rfl) hzs ?_
                intro v' y' hrm' hgr
                have hbn : Below (w.heap.size + 1) yw y' := rm_gr HRC.out hgr hzc
                have HBN : Hid (Below w.heap.size w y') := HBC.out.trans (hbn.mono (Nat.le_succ _))
                have HRN : Hid (RM y' (w.heap.size + 1) v' (ys ++ relB ⟨ps, kd, nm, ad⟩)) := by show RM _ _ _ _; rw [← NS.out]; exact hrm'
                have far : ∀ (bk j : Nat) (u : Value), u4.ownBlock ≠ some bk → yw.cell? ⟨bk, j, none⟩ = some u → y'.cell? ⟨bk, j, none⟩ = some u := fun bk j u hne hc => hgr.cell hc hne
                have nzb : u4.ownBlock ≠ some zb := fun e => HZR.out zb e rfl
                refine hK.out _ _ ⟨far _ _ _ nzb hHeld.1, far _ _ _ nzb hHeld.2.1, far _ _ _ nzb hHeld.2.2.1, far _ _ _ nzb hHeld.2.2.2⟩ (fun hHeld => ?_)
                have HCN : Hid ((y'.cell? ⟨w.heap.size, 0, none⟩ = some (.string code) ∧ y'.cell? ⟨w.heap.size, 1, none⟩ = some (.slice a1 l1 c1) ∧ y'.cell? ⟨w.heap.size, 2, none⟩ = some (.slice a2 l2 c2) ∧ y'.cell? ⟨w.heap.size, 3, none⟩ = some (.slice (some ⟨b, off, none⟩) l3 c3))) := ⟨(hbn.cell (p := ⟨w.heap.size, 0, none⟩) (Nat.lt_succ_self _)).trans (cell_thru HDW.out HCX.out.1), (hbn.cell (p := ⟨w.heap.size, 1, none⟩) (Nat.lt_succ_self _)).trans (cell_thru HDW.out HCX.out.2.1), (hbn.cell (p := ⟨w.heap.size, 2, none⟩) (Nat.lt_succ_self _)).trans (cell_thru HDW.out HCX.out.2.2.1), (hbn.cell (p := ⟨w.heap.size, 3, none⟩) (Nat.lt_succ_self _)).trans (cell_thru HDW.out HCX.out.2.2.2)⟩
                have hzy : w.heap.size < y'.heap.size := World.block_lt_of_cell? y' ⟨w.heap.size, 0, none⟩ HCN.out.1
                clear hK K hrm' hgr hbn far nzb hzc
                try simp only [Act.put, List.setIfInBounds_toArray, List.set_cons_zero, List.set_cons_succ]
                refine wpAnyH_take (i := 19) (v := ?_) (get1 (get1 (get1 (get1 (get1 (get1 (get1 (get1 (get1 (get1 (get1 (get1 (get1 (get1 (get1 (get1 (get1 (get1 (get1 (get0 _ _)))))))))))))))))))) (by kernel_rfl) (by kernel_rfl) (by kernel_rfl) (fun _ _ _ h => h) (Or.inl ⟨by rfl, ?_⟩) (by assumption) ?_
                rotate_left
                · (intro w hSw; (try dsimp only at hSw); go_simp <;> with_reducible rfl)
                simp only [Act.put, List.setIfInBounds_toArray, List.set_cons_zero, List.set_cons_succ]
                refine wpAnyH_done (by kernel_rfl) ?_ _
                clear hHeld
                have HYN : Hid (ys ++ relB ⟨ps, kd, nm, ad⟩ = ys0 ++ (o.rels.take (k + 1)).flatMap relB) := by show _ = _; rw [HTK.out, HY.out, List.append_assoc]
                have hlz : (ys ++ relB ⟨ps, kd, nm, ad⟩).length ≤ 100000010 + 1100 * (k + 1) := by rw [List.length_append]; have := relB_len (r := ⟨ps, kd, nm, ad⟩) (by show nm.size ≤ 1000; omega) I6.out; omega
                go_wp2_with fail
                go_roundg (l3 - (k + 1))
                case measure => omega
                case rel => exact ⟨k + 1, _, by first | rfl | (congr 1; omega), by omega, Nat.le_refl _, hlz, HYN.out, HRN.out, HBN.out, HCN.out, hzy⟩
              exact AllReadyH.nil
            refine AllReadyH.cons (get1 (get1 (get1 (get1 (get1 (get1 (get1 (get1 (get1 (get1 (get1 (get1 (get1 (get1 (get1 (get1 (get0 _ _))))))))))))))))) (fun K hK => ?_) ?_
            · go_simp
              refine (dwide_any ad I6.out _).mono ?_
              rintro e yw ⟨rfl, hy⟩
              rw [HTW.out]
              have HDW : Hid (Below X0.heap.size X0 yw) := HDW.out.trans (hy.mono HDW.out.size)
              try go_wp2_with fail
              refine hK.out _ _ ⟨cell_thru hy hHeld.1, cell_thru hy hHeld.2.1, cell_thru hy hHeld.2.2.1, cell_thru hy hHeld.2.2.2⟩ (fun hHeld => ?_)
              have hcb := cell_thru hy hcb
              clear hK K hy
              try simp only [Act.put, List.setIfInBounds_toArray, List.set_cons_zero, List.set_cons_succ]
              refine wpAnyH_ready (rs := [8]) (by kernel_rfl) (by simp) ?_
              refine AllReadyH.cons (get1 (get1 (get1 (get1 (get1 (get1 (get1 (get1 (get0 _ _))))))))) (fun K hK => ?_) ?_
              · have hcv := one_conv hcb
                rw [HTKD.out] at hcv
                go_simp
                refine hK.out _ _ hHeld (fun hHeld => ?_)
                clear hK K hcv
                try simp only [Act.put, List.setIfInBounds_toArray, List.set_cons_zero, List.set_cons_succ]
                refine wpAnyH_take (i := 9) (v := ?_) (get1 (get1 (get1 (get1 (get1 (get1 (get1 (get1 (get1 (get0 _ _)))))))))) (by kernel_rfl) (by kernel_rfl) (by kernel_rfl) (fun _ _ _ h => h) (Or.inl ⟨by rfl, ?_⟩) (by assumption) ?_
                rotate_left
                · (intro w hSw; (try dsimp only at hSw); go_simp <;> with_reducible rfl)
                simp only [Act.put, List.setIfInBounds_toArray, List.set_cons_zero, List.set_cons_succ]
                refine wpAnyH_take (i := 13) (v := ?_) (get1 (get1 (get1 (get1 (get1 (get1 (get1 (get1 (get1 (get1 (get1 (get1 (get1 (get0 _ _)))))))))))))) (by kernel_rfl) (by kernel_rfl) (by kernel_rfl) (fun _ _ _ h => h) (Or.inl ⟨by rfl, ?_⟩) (by assumption) ?_
                rotate_left
                · (intro w hSw; (try dsimp only at hSw); go_simp <;> with_reducible rfl)
                simp only [Act.put, List.setIfInBounds_toArray, List.set_cons_zero, List.set_cons_succ]
                refine wpAnyH_take (i := 17) (v := ?_) (get1 (get1 (get1 (get1 (get1 (get1 (get1 (get1 (get1 (get1 (get1 (get1 (get1 (get1 (get1 (get1 (get1 (get0 _ _)))))))))))))))))) (by kernel_rfl) (by kernel_rfl) (by kernel_rfl) (fun _ _ _ h => h) (Or.inl ⟨by rfl, ?_⟩) (by assumption) ?_
                rotate_left
                · (intro w hSw; (try dsimp only at hSw); go_simp <;> with_reducible rfl)
                simp only [Act.put, List.setIfInBounds_toArray, List.set_cons_zero, List.set_cons_succ]
                refine wpAnyH_ready (rs := [18]) (by kernel_rfl) (by simp) ?_
                refine AllReadyH.cons (get1 (get1 (get1 (get1 (get1 (get1 (get1 (get1 (get1 (get1 (get1 (get1 (get1 (get1 (get1 (get1 (get1 (get1 (get0 _ _))))))))))))))))))) (fun K hK => ?_) AllReadyH.nil
                have HRC : Hid _ := HRX.out.below HDW.out
                have HBC : Hid (Below w.heap.size w yw) := HBX.out.trans (HDW.out.mono HBX.out.size)
                have hzc : w.heap.size + 1 ≤ yw.heap.size := by have := HDW.out.size; omega
                refine step_append_rm (by rfl) _ _ (by rfl) (by rfl) HRC.out hzc (tp ++ tk ++ ta ++ tw) (by rfl) hzs ?_
                intro v' y' hrm' hgr
                have hbn : Below (w.heap.size + 1) yw y' := rm_gr HRC.out hgr hzc
                have HBN : Hid (Below w.heap.size w y') := HBC.out.trans (hbn.mono (Nat.le_succ _))
                have HRN : Hid (RM y' (w.heap.size + 1) v' (ys ++ relB ⟨ps, kd, nm, ad⟩)) := by show RM _ _ _ _; rw [← NS.out]; exact hrm'
                have far : ∀ (bk j : Nat) (u : Value), u4.ownBlock ≠ some bk → yw.cell? ⟨bk, j, none⟩ = some u → y'.cell? ⟨bk, j, none⟩ = some u := fun bk j u hne hc => hgr.cell hc hne
                have nzb : u4.ownBlock ≠ some zb := fun e => HZR.out zb e rfl
                refine hK.out _ _ ⟨far _ _ _ nzb hHeld.1, far _ _ _ nzb hHeld.2.1, far _ _ _ nzb hHeld.2.2.1, far _ _ _ nzb hHeld.2.2.2⟩ (fun hHeld => ?_)
                have HCN : Hid ((y'.cell? ⟨w.heap.size, 0, none⟩ = some (.string code) ∧ y'.cell? ⟨w.heap.size, 1, none⟩ = some (.slice a1 l1 c1) ∧ y'.cell? ⟨w.heap.size, 2, none⟩ = some (.slice a2 l2 c2) ∧ y'.cell? ⟨w.heap.size, 3, none⟩ = some (.slice (some ⟨b, off, none⟩) l3 c3))) := ⟨(hbn.cell (p := ⟨w.heap.size, 0, none⟩) (Nat.lt_succ_self _)).trans (cell_thru HDW.out HCX.out.1), (hbn.cell (p := ⟨w.heap.size, 1, none⟩) (Nat.lt_succ_self _)).trans (cell_thru HDW.out HCX.out.2.1), (hbn.cell (p := ⟨w.heap.size, 2, none⟩) (Nat.lt_succ_self _)).trans (cell_thru HDW.out HCX.out.2.2.1), (hbn.cell (p := ⟨w.heap.size, 3, none⟩) (Nat.lt_succ_self _)).trans (cell_thru HDW.out HCX.out.2.2.2)⟩
                have hzy : w.heap.size < y'.heap.size := World.block_lt_of_cell? y' ⟨w.heap.size, 0, none⟩ HCN.out.1
                clear hK K hrm' hgr hbn far nzb hzc
                try simp only [Act.put, List.setIfInBounds_toArray, List.set_cons_zero, List.set_cons_succ]
                refine wpAnyH_take (i := 19) (v := ?_) (get1 (get1 (get1 (get1 (get1 (get1 (get1 (get1 (get1 (get1 (get1 (get1 (get1 (get1 (get1 (get1 (get1 (get1 (get1 (get0 _ _)))))))))))))))))))) (by kernel_rfl) (by kernel_rfl) (by kernel_rfl) (fun _ _ _ h => h) (Or.inl ⟨by rfl, ?_⟩) (by assumption) ?_
                rotate_left
                · (intro w hSw; (try dsimp only at hSw); go_simp <;> with_reducible rfl)
                simp only [Act.put, List.setIfInBounds_toArray, List.set_cons_zero, List.set_cons_succ]
                refine wpAnyH_done (by kernel_rfl) ?_ _
                clear hHeld
                have HYN : Hid (ys ++ relB ⟨ps, kd, nm, ad⟩ = ys0 ++ (o.rels.take (k + 1)).flatMap relB) := by show _ = _; rw [HTK.out, HY.out, List.append_assoc]
                have hlz : (ys ++ relB ⟨ps, kd, nm, ad⟩).length ≤ 100000010 + 1100 * (k + 1) := by rw [List.length_append]; have := relB_len (r := ⟨ps, kd, nm, ad⟩) (by show nm.size ≤ 1000; omega) I6.out; omega
                go_wp2_with fail
                go_roundg (l3 - (k + 1))
                case measure => omega
                case rel => exact ⟨k + 1, _, by first | rfl | (congr 1; omega), by omega, Nat.le_refl _, hlz, HYN.out, HRN.out, HBN.out, HCN.out, hzy⟩
              exact AllReadyH.nil
            exact AllReadyH.nil
          exact AllReadyH.nil
        refine AllReadyH.cons (get1 (get1 (get1 (get1 (get1 (get1 (get1 (get1 (get1 (get1 (get1 (get1 (get0 _ _))))))))))))) (fun K hK => ?_) ?_
        · go_simp
          refine (dtext_any nm (by omega) _).mono ?_
          rintro e ya ⟨rfl, hy⟩
          rw [HTA.out]
          have HDW : Hid (Below X0.heap.size X0 ya) := HDW.out.trans (hy.mono HDW.out.size)
          try go_wp2_with fail
          refine hK.out _ _ ⟨cell_thru hy hHeld.1, cell_thru hy hHeld.2.1, cell_thru hy hHeld.2.2.1, cell_thru hy hHeld.2.2.2⟩ (fun hHeld => ?_)
          clear hK K hy
          try simp only [Act.put, List.setIfInBounds_toArray, List.set_cons_zero, List.set_cons_succ]
          refine wpAnyH_ready (rs := [7, 16]) (by kernel_rfl) (by simp) ?_
          refine AllReadyH.cons (get1 (get1 (get1 (get1 (get1 (get1 (get1 (get0 _ _)))))))) (fun K hK => ?_) ?_
          · go_simp
            have hyb : Below ya.heap.size ya (ya.alloc (.cells #[.int .u8 kd] 5)) := bl_one _ _
            have HDW : Hid (Below X0.heap.size X0 (ya.alloc (.cells #[.int .u8 kd] 5))) := HDW.out.trans (hyb.mono HDW.out.size)
            have hcb : (ya.alloc (.cells #[.int .u8 kd] 5)).cell? ⟨ya.heap.size, 0, none⟩ = some (.int .u8 kd) := cell_last rfl rfl
            refine hK.out _ _ ⟨cell_thru hyb hHeld.1, cell_thru hyb hHeld.2.1, cell_thru hyb hHeld.2.2.1, cell_thru hyb hHeld.2.2.2⟩ (fun hHeld => ?_)
            clear hK K hyb
            try simp only [Act.put, List.setIfInBounds_toArray, List.set_cons_zero, List.set_cons_succ]
            obtain ⟨yb, hyb⟩ : ∃ Y, (ya.alloc (.cells #[.int .u8 kd] 5)) = Y := ⟨_, rfl⟩
            rw [hyb] at HDW hcb hHeld ⊢
            clear hyb
            refine wpAnyH_ready (rs := [8, 16]) (by kernel_rfl) (by simp) ?_
            refine AllReadyH.cons (get1 (get1 (get1 (get1 (get1 (get1 (get1 (get1 (get0 _ _))))))))) (fun K hK => ?_) ?_
            · have hcv := one_conv hcb
              rw [HTKD.out] at hcv
              go_simp
              refine hK.out _ _ hHeld (fun hHeld => ?_)
              clear hK K hcv
              try simp only [Act.put, List.setIfInBounds_toArray, List.set_cons_zero, List.set_cons_succ]
              refine wpAnyH_take (i := 9) (v := ?_) (get1 (get1 (get1 (get1 (get1 (get1 (get1 (get1 (get1 (get0 _ _)))))))))) (by kernel_rfl) (by kernel_rfl) (by kernel_rfl) (fun _ _ _ h => h) (Or.inl ⟨by rfl, ?_⟩) (by assumption) ?_
              rotate_left
              · (intro w hSw; (try dsimp only at hSw); go_simp <;> with_reducible rfl)
              simp only [Act.put, List.setIfInBounds_toArray, List.set_cons_zero, List.set_cons_succ]
              refine wpAnyH_take (i := 13) (v := ?_) (get1 (get1 (get1 (get1 (get1 (get1 (get1 (get1 (get1 (get1 (get1 (get1 (get1 (get0 _ _)))))))))))))) (by kernel_rfl) (by kernel_rfl) (by kernel_rfl) (fun _ _ _ h => h) (Or.inl ⟨by rfl, ?_⟩) (by assumption) ?_
              rotate_left
              · (intro w hSw; (try dsimp only at hSw); go_simp <;> with_reducible rfl)
              simp only [Act.put, List.setIfInBounds_toArray, List.set_cons_zero, List.set_cons_succ]
              refine wpAnyH_ready (rs := [16]) (by kernel_rfl) (by simp) ?_
              refine AllReadyH.cons (get1 (get1 (get1 (get1 (get1 (get1 (get1 (get1 (get1 (get1 (get1 (get1 (get1 (get1 (get1 (get1 (get0 _ _))))))))))))))))) (fun K hK => ?_) ?_
              · go_simp
                refine (dwide_any ad I6.out _).mono ?_
                rintro e yw ⟨rfl, hy⟩
                rw [HTW.out]
                have HDW : Hid (Below X0.heap.size X0 yw) := HDW.out.trans (hy.mono HDW.out.size)
                try go_wp2_with fail
                refine hK.out _ _ ⟨cell_thru hy hHeld.1, cell_thru hy hHeld.2.1, cell_thru hy hHeld.2.2.1, cell_thru hy hHeld.2.2.2⟩ (fun hHeld => ?_)
                have hcb := cell_thru hy hcb
                clear hK K hy
                try simp only [Act.put, List.setIfInBounds_toArray, List.set_cons_zero, List.set_cons_succ]
                refine wpAnyH_take (i := 17) (v := ?_) (get1 (get1 (get1 (get1 (get1 (get1 (get1 (get1 (get1 (get1 (get1 (get1 (get1 (get1 (get1 (get1 (get1 (get0 _ _)))))))))))))))))) (by kernel_rfl) (by kernel_rfl) (by kernel_rfl) (fun _ _ _ h => h) (Or.inl ⟨by rfl, ?_⟩) (by assumption) ?_
                rotate_left
                · (intro w hSw; (try dsimp only at hSw); go_simp <;> with_reducible rfl)
                simp only [Act.put, List.setIfInBounds_toArray, List.set_cons_zero, List.set_cons_succ]
                refine wpAnyH_ready (rs := [18]) (by kernel_rfl) (by simp) ?_
                refine AllReadyH.cons (get1 (get1 (get1 (get1 (get1 (get1 (get1 (get1 (get1 (get1 (get1 (get1 (get1 (get1 (get1 (get1 (get1 (get1 (get0 _ _))))))))))))))))))) (fun K hK => ?_) AllReadyH.nil
                have HRC : Hid _ := HRX.out.below HDW.out
                have HBC : Hid (Below w.heap.size w yw) := HBX.out.trans (HDW.out.mono HBX.out.size)
                have hzc : w.heap.size + 1 ≤ yw.heap.size := by have := HDW.out.size; omega
                refine step_append_rm (by rfl) _ _ (by rfl) (by rfl) HRC.out hzc (tp ++ tk ++ ta ++ tw) (by rfl) hzs ?_
                intro v' y' hrm' hgr
                have hbn : Below (w.heap.size + 1) yw y' := rm_gr HRC.out hgr hzc
                have HBN : Hid (Below w.heap.size w y') := HBC.out.trans (hbn.mono (Nat.le_succ _))
                have HRN : Hid (RM y' (w.heap.size + 1) v' (ys ++ relB ⟨ps, kd, nm, ad⟩)) := by show RM _ _ _ _; rw [← NS.out]; exact hrm'
                have far : ∀ (bk j : Nat) (u : Value), u4.ownBlock ≠ some bk → yw.cell? ⟨bk, j, none⟩ = some u → y'.cell? ⟨bk, j, none⟩ = some u := fun bk j u hne hc => hgr.cell hc hne
                have nzb : u4.ownBlock ≠ some zb := fun e => HZR.out zb e rfl
                refine hK.out _ _ ⟨far _ _ _ nzb hHeld.1, far _ _ _ nzb hHeld.2.1, far _ _ _ nzb hHeld.2.2.1, far _ _ _ nzb hHeld.2.2.2⟩ (fun hHeld => ?_)
                have HCN : Hid ((y'.cell? ⟨w.heap.size, 0, none⟩ = some (.string code) ∧ y'.cell? ⟨w.heap.size, 1, none⟩ = some (.slice a1 l1 c1) ∧ y'.cell? ⟨w.heap.size, 2, none⟩ = some (.slice a2 l2 c2) ∧ y'.cell? ⟨w.heap.size, 3, none⟩ = some (.slice (some ⟨b, off, none⟩) l3 c3))) := ⟨(hbn.cell (p := ⟨w.heap.size, 0, none⟩) (Nat.lt_succ_self _)).trans (cell_thru HDW.out HCX.out.1), (hbn.cell (p := ⟨w.heap.size, 1, none⟩) (Nat.lt_succ_self _)).trans (cell_thru HDW.out HCX.out.2.1), (hbn.cell (p := ⟨w.heap.size, 2, none⟩) (Nat.lt_succ_self _)).trans (cell_thru HDW.out HCX.out.2.2.1), (hbn.cell (p := ⟨w.heap.size, 3, none⟩) (Nat.lt_succ_self _)).trans (cell_thru HDW.out HCX.out.2.2.2)⟩
                have hzy : w.heap.size < y'.heap.size := World.block_lt_of_cell? y' ⟨w.heap.size, 0, none⟩ HCN.out.1
                clear hK K hrm' hgr hbn far nzb hzc
                try simp only [Act.put, List.setIfInBounds_toArray, List.set_cons_zero, List.set_cons_succ]
                refine wpAnyH_take (i := 19) (v := ?_) (get1 (get1 (get1 (get1 (get1 (get1 (get1 (get1 (get1 (get1 (get1 (get1 (get1 (get1 (get1 (get1 (get1 (get1 (get1 (get0 _ _)))))))))))))))))))) (by kernel_rfl) (by kernel_rfl) (by kernel_rfl) (fun _ _ _ h => h) (Or.inl ⟨by rfl, ?_⟩) (by assumption) ?_
                rotate_left
                · (intro w hSw; (try dsimp only at hSw); go_simp <;> with_reducible rfl)
                simp only [Act.put, List.setIfInBounds_toArray, List.set_cons_zero, List.set_cons_succ]
                refine wpAnyH_done (by kernel_rfl) ?_ _
                clear hHeld
                have HYN : Hid (ys ++ relB ⟨ps, kd, nm, ad⟩ = ys0 ++ (o.rels.take (k + 1)).flatMap relB) := by show _ = _; rw [HTK.out, HY.out, List.append_assoc]
                have hlz : (ys ++ relB ⟨ps, kd, nm, ad⟩).length ≤ 100000010 + 1100 * (k + 1) := by rw [List.length_append]; have := relB_len (r := ⟨ps, kd, nm, ad⟩) (by show nm.size ≤ 1000; omega) I6.out; omega
                go_wp2_with fail
                go_roundg (l3 - (k + 1))
                case measure => omega
                case rel => exact ⟨k + 1, _, by first | rfl | (congr 1; omega), by omega, Nat.le_refl _, hlz, HYN.out, HRN.out, HBN.out, HCN.out, hzy⟩
              exact AllReadyH.nil
            refine AllReadyH.cons (get1 (get1 (get1 (get1 (get1 (get1 (get1 (get1 (get1 (get1 (get1 (get1 (get1 (get1 (get1 (get1 (get0 _ _))))))))))))))))) (fun K hK => ?_) ?_
            · go_simp
              refine (dwide_any ad I6.out _).mono ?_
              rintro e yw ⟨rfl, hy⟩
              rw [HTW.out]
              have HDW : Hid (Below X0.heap.size X0 yw) := HDW.out.trans (hy.mono HDW.out.size)
              try go_wp2_with fail
              refine hK.out _ _ ⟨cell_thru hy hHeld.1, cell_thru hy hHeld.2.1, cell_thru hy hHeld.2.2.1, cell_thru hy hHeld.2.2.2⟩ (fun hHeld => ?_)
              have hcb := cell_thru hy hcb
              clear hK K hy
              try simp only [Act.put, List.setIfInBounds_toArray, List.set_cons_zero, List.set_cons_succ]
              refine wpAnyH_ready (rs := [8]) (by kernel_rfl) (by simp) ?_
              refine AllReadyH.cons (get1 (get1 (get1 (get1 (get1 (get1 (get1 (get1 (get0 _ _))))))))) (fun K hK => ?_) ?_
              · have hcv := one_conv hcb
                rw [HTKD.out] at hcv
                go_simp
                refine hK.out _ _ hHeld (fun hHeld => ?_)
                clear hK K hcv
                try simp only [Act.put, List.setIfInBounds_toArray, List.set_cons_zero, List.set_cons_succ]
                refine wpAnyH_take (i := 9) (v := ?_) (get1 (get1 (get1 (get1 (get1 (get1 (get1 (get1 (get1 (get0 _ _)))))))))) (by kernel_rfl) (by kernel_rfl) (by kernel_rfl) (fun _ _ _ h => h) (Or.inl ⟨by rfl, ?_⟩) (by assumption) ?_
                rotate_left
                · (intro w hSw; (try dsimp only at hSw); go_simp <;> with_reducible rfl)
                simp only [Act.put, List.setIfInBounds_toArray, List.set_cons_zero, List.set_cons_succ]
                refine wpAnyH_take (i := 13) (v := ?_) (get1 (get1 (get1 (get1 (get1 (get1 (get1 (get1 (get1 (get1 (get1 (get1 (get1 (get0 _ _)))))))))))))) (by kernel_rfl) (by kernel_rfl) (by kernel_rfl) (fun _ _ _ h => h) (Or.inl ⟨by rfl, ?_⟩) (by assumption) ?_
                rotate_left
                · (intro w hSw; (try dsimp only at hSw); go_simp <;> with_reducible rfl)
                simp only [Act.put, List.setIfInBounds_toArray, List.set_cons_zero, List.set_cons_succ]
                refine wpAnyH_take (i := 17) (v := ?_) (get1 (get1 (get1 (get1 (get1 (get1 (get1 (get1 (get1 (get1 (get1 (get1 (get1 (get1 (get1 (get1 (get1 (get0 _ _)))))))))))))))))) (by kernel_rfl) (by kernel_rfl) (by kernel_rfl) (fun _ _ _ h => h) (Or.inl ⟨by rfl, ?_⟩) (by assumption) ?_
                rotate_left
                · (intro w hSw; (try dsimp only at hSw); go_simp <;> with_reducible rfl)
                simp only [Act.put, List.setIfInBounds_toArray, List.set_cons_zero, List.set_cons_succ]
                refine wpAnyH_ready (rs := [18]) (by kernel_rfl) (by simp) ?_
                refine AllReadyH.cons (get1 (get1 (get1 (get1 (get1 (get1 (get1 (get1 (get1 (get1 (get1 (get1 (get1 (get1 (get1 (get1 (get1 (get1 (get0 _ _))))))))))))))))))) (fun K hK => ?_) AllReadyH.nil
                have HRC : Hid _ := HRX.out.below HDW.out
                have HBC : Hid (Below w.heap.size w yw) := HBX.out.trans (HDW.out.mono HBX.out.size)
                have hzc : w.heap.size + 1 ≤ yw.heap.size := by have := HDW.out.size; omega
                refine step_append_rm (by rfl) _ _ (by rfl) (by rfl) HRC.out hzc (tp ++ tk ++ ta ++ tw) (by rfl) hzs ?_
                intro v' y' hrm' hgr
                have hbn : Below (w.heap.size + 1) yw y' := rm_gr HRC.out hgr hzc
                have HBN : Hid (Below w.heap.size w y') := HBC.out.trans (hbn.mono (Nat.le_succ _))
                have HRN : Hid (RM y' (w.heap.size + 1) v' (ys ++ relB ⟨ps, kd, nm, ad⟩)) := by show RM _ _ _ _; rw [← NS.out]; exact hrm'
                have far : ∀ (bk j : Nat) (u : Value), u4.ownBlock ≠ some bk → yw.cell? ⟨bk, j, none⟩ = some u → y'.cell? ⟨bk, j, none⟩ = some u := fun bk j u hne hc => hgr.cell hc hne
                have nzb : u4.ownBlock ≠ some zb := fun e => HZR.out zb e rfl
                refine hK.out _ _ ⟨far _ _ _ nzb hHeld.1, far _ _ _ nzb hHeld.2.1, far _ _ _ nzb hHeld.2.2.1, far _ _ _ nzb hHeld.2.2.2⟩ (fun hHeld => ?_)
                have HCN : Hid ((y'.cell? ⟨w.heap.size, 0, none⟩ = some (.string code) ∧ y'.cell? ⟨w.heap.size, 1, none⟩ = some (.slice a1 l1 c1) ∧ y'.cell? ⟨w.heap.size, 2, none⟩ = some (.slice a2 l2 c2) ∧ y'.cell? ⟨w.heap.size, 3, none⟩ = some (.slice (some ⟨b, off, none⟩) l3 c3))) := ⟨(hbn.cell (p := ⟨w.heap.size, 0, none⟩) (Nat.lt_succ_self _)).trans (cell_thru HDW.out HCX.out.1), (hbn.cell (p := ⟨w.heap.size, 1, none⟩) (Nat.lt_succ_self _)).trans (cell_thru HDW.out HCX.out.2.1), (hbn.cell (p := ⟨w.heap.size, 2, none⟩) (Nat.lt_succ_self _)).trans (cell_thru HDW.out HCX.out.2.2.1), (hbn.cell (p := ⟨w.heap.size, 3, none⟩) (Nat.lt_succ_self _)).trans (cell_thru HDW.out HCX.out.2.2.2)⟩
                have hzy : w.heap.size < y'.heap.size := World.block_lt_of_cell? y' ⟨w.heap.size, 0, none⟩ HCN.out.1
                clear hK K hrm' hgr hbn far nzb hzc
                try simp only [Act.put, List.setIfInBounds_toArray, List.set_cons_zero, List.set_cons_succ]
                refine wpAnyH_take (i := 19) (v := ?_) (get1 (get1 (get1 (get1 (get1 (get1 (get1 (get1 (get1 (get1 (get1 (get1 (get1 (get1 (get1 (get1 (get1 (get1 (get1 (get0 _ _)))))))))))))))))))) (by kernel_rfl) (by kernel_rfl) (by kernel_rfl) (fun _ _ _ h => h) (Or.inl ⟨by rfl, ?_⟩) (by assumption) ?_
                rotate_left
                · (intro w hSw; (try dsimp only at hSw); go_simp <;> with_reducible rfl)
                simp only [Act.put, List.setIfInBounds_toArray, List.set_cons_zero, List.set_cons_succ]
                refine wpAnyH_done (by kernel_rfl) ?_ _
                clear hHeld
                have HYN : Hid (ys ++ relB ⟨ps, kd, nm, ad⟩ = ys0 ++ (o.rels.take (k + 1)).flatMap relB) := by show _ = _; rw [HTK.out, HY.out, List.append_assoc]
                have hlz : (ys ++ relB ⟨ps, kd, nm, ad⟩).length ≤ 100000010 + 1100 * (k + 1) := by rw [List.length_append]; have := relB_len (r := ⟨ps, kd, nm, ad⟩) (by show nm.size ≤ 1000; omega) I6.out; omega
                go_wp2_with fail
                go_roundg (l3 - (k + 1))
                case measure => omega
                case rel => exact ⟨k + 1, _, by first | rfl | (congr 1; omega), by omega, Nat.le_refl _, hlz, HYN.out, HRN.out, HBN.out, HCN.out, hzy⟩
              exact AllReadyH.nil
            exact AllReadyH.nil
          refine AllReadyH.cons (get1 (get1 (get1 (get1 (get1 (get1 (get1 (get1 (get1 (get1 (get1 (get1 (get1 (get1 (get1 (get1 (get0 _ _))))))))))))))))) (fun K hK => ?_) ?_
          · go_simp
            refine (dwide_any ad I6.out _).mono ?_
            rintro e yw ⟨rfl, hy⟩
            rw [HTW.out]
            have HDW : Hid (Below X0.heap.size X0 yw) := HDW.out.trans (hy.mono HDW.out.size)
            try go_wp2_with fail
            refine hK.out _ _ ⟨cell_thru hy hHeld.1, cell_thru hy hHeld.2.1, cell_thru hy hHeld.2.2.1, cell_thru hy hHeld.2.2.2⟩ (fun hHeld => ?_)
            clear hK K hy
            try simp only [Act.put, List.setIfInBounds_toArray, List.set_cons_zero, List.set_cons_succ]
            refine wpAnyH_ready (rs := [7]) (by kernel_rfl) (by simp) ?_
            refine AllReadyH.cons (get1 (get1 (get1 (get1 (get1 (get1 (get1 (get0 _ _)))))))) (fun K hK => ?_) ?_
            · go_simp
              have hyb : Below yw.heap.size yw (yw.alloc (.cells #[.int .u8 kd] 5)) := bl_one _ _
              have HDW : Hid (Below X0.heap.size X0 (yw.alloc (.cells #[.int .u8 kd] 5))) := HDW.out.trans (hyb.mono HDW.out.size)
              have hcb : (yw.alloc (.cells #[.int .u8 kd] 5)).cell? ⟨yw.heap.size, 0, none⟩ = some (.int .u8 kd) := cell_last rfl rfl
              refine hK.out _ _ ⟨cell_thru hyb hHeld.1, cell_thru hyb hHeld.2.1, cell_thru hyb hHeld.2.2.1, cell_thru hyb hHeld.2.2.2⟩ (fun hHeld => ?_)
              clear hK K hyb
              try simp only [Act.put, List.setIfInBounds_toArray, List.set_cons_zero, List.set_cons_succ]
              obtain ⟨yb, hyb⟩ : ∃ Y, (yw.alloc (.cells #[.int .u8 kd] 5)) = Y := ⟨_, rfl⟩
              rw [hyb] at HDW hcb hHeld ⊢
              clear hyb
              refine wpAnyH_ready (rs := [8]) (by kernel_rfl) (by simp) ?_
              refine AllReadyH.cons (get1 (get1 (get1 (get1 (get1 (get1 (get1 (get1 (get0 _ _))))))))) (fun K hK => ?_) ?_
              · have hcv := one_conv hcb
                rw [HTKD.out] at hcv
                go_simp
                refine hK.out _ _ hHeld (fun hHeld => ?_)
                clear hK K hcv
                try simp only [Act.put, List.setIfInBounds_toArray, List.set_cons_zero, List.set_cons_succ]
                refine wpAnyH_take (i := 9) (v := ?_) (get1 (get1 (get1 (get1 (get1 (get1 (get1 (get1 (get1 (get0 _ _)))))))))) (by kernel_rfl) (by kernel_rfl) (by kernel_rfl) (fun _ _ _ h => h) (Or.inl ⟨by rfl, ?_⟩) (by assumption) ?_
                rotate_left
                · (intro w hSw; (try dsimp only at hSw); go_simp <;> with_reducible rfl)
                simp only [Act.put, List.setIfInBounds_toArray, List.set_cons_zero, List.set_cons_succ]
                refine wpAnyH_take (i := 13) (v := ?_) (get1 (get1 (get1 (get1 (get1 (get1 (get1 (get1 (get1 (get1 (get1 (get1 (get1 (get0 _ _)))))))))))))) (by kernel_rfl) (by kernel_rfl) (by kernel_rfl) (fun _ _ _ h => h) (Or.inl ⟨by rfl, ?_⟩) (by assumption) ?_
                rotate_left
                · (intro w hSw; (try dsimp only at hSw); go_simp <;> with_reducible rfl)
                simp only [Act.put, List.setIfInBounds_toArray, List.set_cons_zero, List.set_cons_succ]
                refine wpAnyH_take (i := 17) (v := ?_) (get1 (get1 (get1 (get1 (get1 (get1 (get1 (get1 (get1 (get1 (get1 (get1 (get1 (get1 (get1 (get1 (get1 (get0 _ _)))))))))))))))))) (by kernel_rfl) (by kernel_rfl) (by kernel_rfl) (fun _ _ _ h => h) (Or.inl ⟨by rfl, ?_⟩) (by assumption) ?_
                rotate_left
                · (intro w hSw; (try dsimp only at hSw); go_simp <;> with_reducible rfl)
                simp only [Act.put, List.setIfInBounds_toArray, List.set_cons_zero, List.set_cons_succ]
                refine wpAnyH_ready (rs := [18]) (by kernel_rfl) (by simp) ?_
                refine AllReadyH.cons (get1 (get1 (get1 (get1 (get1 (get1 (get1 (get1 (get1 (get1 (get1 (get1 (get1 (get1 (get1 (get1 (get1 (get1 (get0 _ _))))))))))))))))))) (fun K hK => ?_) AllReadyH.nil
                have HRC : Hid _ := HRX.out.below HDW.out
                have HBC : Hid (Below w.heap.size w yb) := HBX.out.trans (HDW.out.mono HBX.out.size)
                have hzc : w.heap.size + 1 ≤ yb.heap.size := by have := HDW.out.size; omega
                refine step_append_rm (by rfl) _ _ (by rfl) (by rfl) HRC.out hzc (tp ++ tk ++ ta ++ tw) (by rfl) hzs ?_
                intro v' y' hrm' hgr
                have hbn : Below (w.heap.size + 1) yb y' := rm_gr HRC.out hgr hzc
                have HBN : Hid (Below w.heap.size w y') := HBC.out.trans (hbn.mono (Nat.le_succ _))
                have HRN : Hid (RM y' (w.heap.size + 1) v' (ys ++ relB ⟨ps, kd, nm, ad⟩)) := by show RM _ _ _ _; rw [← NS.out]; exact hrm'
                have far : ∀ (bk j : Nat) (u : Value), u4.ownBlock ≠ some bk → yb.cell? ⟨bk, j, none⟩ = some u → y'.cell? ⟨bk, j, none⟩ = some u := fun bk j u hne hc => hgr.cell hc hne
                have nzb : u4.ownBlock ≠ some zb := fun e => HZR.out zb e rfl
                refine hK.out _ _ ⟨far _ _ _ nzb hHeld.1, far _ _ _ nzb hHeld.2.1, far _ _ _ nzb hHeld.2.2.1, far _ _ _ nzb hHeld.2.2.2⟩ (fun hHeld => ?_)
                have HCN : Hid ((y'.cell? ⟨w.heap.size, 0, none⟩ = some (.string code) ∧ y'.cell? ⟨w.heap.size, 1, none⟩ = some (.slice a1 l1 c1) ∧ y'.cell? ⟨w.heap.size, 2, none⟩ = some (.slice a2 l2 c2) ∧ y'.cell? ⟨w.heap.size, 3, none⟩ = some (.slice (some ⟨b, off, none⟩) l3 c3))) := ⟨(hbn.cell (p := ⟨w.heap.size, 0, none⟩) (Nat.lt_succ_self _)).trans (cell_thru HDW.out HCX.out.1), (hbn.cell (p := ⟨w.heap.size, 1, none⟩) (Nat.lt_succ_self _)).trans (cell_thru HDW.out HCX.out.2.1), (hbn.cell (p := ⟨w.heap.size, 2, none⟩) (Nat.lt_succ_self _)).trans (cell_thru HDW.out HCX.out.2.2.1), (hbn.cell (p := ⟨w.heap.size, 3, none⟩) (Nat.lt_succ_self _)).trans (cell_thru HDW.out HCX.out.2.2.2)⟩
                have hzy : w.heap.size < y'.heap.size := World.block_lt_of_cell? y' ⟨w.heap.size, 0, none⟩ HCN.out.1
                clear hK K hrm' hgr hbn far nzb hzc
                try simp only [Act.put, List.setIfInBounds_toArray, List.set_cons_zero, List.set_cons_succ]
                refine wpAnyH_take (i := 19) (v := ?_) (get1 (get1 (get1 (get1 (get1 (get1 (get1 (get1 (get1 (get1 (get1 (get1 (get1 (get1 (get1 (get1 (get1 (get1 (get1 (get0 _ _)))))))))))))))))))) (by kernel_rfl) (by kernel_rfl) (by kernel_rfl) (fun _ _ _ h => h) (Or.inl ⟨by rfl, ?_⟩) (by assumption) ?_
                rotate_left
                · (intro w hSw; (try dsimp only at hSw); go_simp <;> with_reducible rfl)
                simp only [Act.put, List.setIfInBounds_toArray, List.set_cons_zero, List.set_cons_succ]
                refine wpAnyH_done (by kernel_rfl) ?_ _
                clear hHeld
                have HYN : Hid (ys ++ relB ⟨ps, kd, nm, ad⟩ = ys0 ++ (o.rels.take (k + 1)).flatMap relB) := by show _ = _; rw [HTK.out, HY.out, List.append_assoc]
                have hlz : (ys ++ relB ⟨ps, kd, nm, ad⟩).length ≤ 100000010 + 1100 * (k + 1) := by rw [List.length_append]; have := relB_len (r := ⟨ps, kd, nm, ad⟩) (by show nm.size ≤ 1000; omega) I6.out; omega
                go_wp2_with fail
                go_roundg (l3 - (k + 1))
                case measure => omega
                case rel => exact ⟨k + 1, _, by first | rfl | (congr 1; omega), by omega, Nat.le_refl _, hlz, HYN.out, HRN.out, HBN.out, HCN.out, hzy⟩
              exact AllReadyH.nil
            exact AllReadyH.nil
          exact AllReadyH.nil
        exact AllReadyH.nil
      refine AllReadyH.cons (get1 (get1 (get1 (get1 (get1 (get1 (get1 (get0 _ _)))))))) (fun K hK => ?_) ?_
      · go_simp
        have hyb : Below X0.drew.heap.size X0.drew ((X0.alloc (.cells #[.int .u8 kd] 5)).drew) := bl_one X0.drew _
        have HDW : Hid (Below X0.heap.size X0 ((X0.alloc (.cells #[.int .u8 kd] 5)).drew)) := HDW.out.trans (hyb.mono HDW.out.size)
        have hcb : ((X0.alloc (.cells #[.int .u8 kd] 5)).drew).cell? ⟨X0.heap.size, 0, none⟩ = some (.int .u8 kd) := by rw [World.cell?_drew]; exact cell_last rfl rfl
        refine hK.out _ _ ⟨cell_thru hyb hHeld.1, cell_thru hyb hHeld.2.1, cell_thru hyb hHeld.2.2.1, cell_thru hyb hHeld.2.2.2⟩ (fun hHeld => ?_)
        clear hK K hyb
        try simp only [Act.put, List.setIfInBounds_toArray, List.set_cons_zero, List.set_cons_succ]
        obtain ⟨yb, hyb⟩ : ∃ Y, ((X0.alloc (.cells #[.int .u8 kd] 5)).drew) = Y := ⟨_, rfl⟩
        rw [hyb] at HDW hcb hHeld ⊢
        clear hyb
        refine wpAnyH_ready (rs := [3, 8]) (by kernel_rfl) (by simp) ?_
        refine AllReadyH.cons (get1 (get1 (get1 (get0 _ _)))) (fun K hK => ?_) ?_
        · go_simp
          refine (dnumber_any ps i4 (by omega) _).mono ?_
          rintro e yp ⟨rfl, hy⟩
          rw [HTP.out]
          have HDW : Hid (Below X0.heap.size X0 yp) := HDW.out.trans (hy.mono HDW.out.size)
          try go_wp2_with fail
          refine hK.out _ _ ⟨cell_thru hy hHeld.1, cell_thru hy hHeld.2.1, cell_thru hy hHeld.2.2.1, cell_thru hy hHeld.2.2.2⟩ (fun hHeld => ?_)
          have hcb := cell_thru hy hcb
          clear hK K hy
          try simp only [Act.put, List.setIfInBounds_toArray, List.set_cons_zero, List.set_cons_succ]
          refine wpAnyH_ready (rs := [8, 12]) (by kernel_rfl) (by simp) ?_
          refine AllReadyH.cons (get1 (get1 (get1 (get1 (get1 (get1 (get1 (get1 (get0 _ _))))))))) (fun K hK => ?_) ?_
          · have hcv := one_conv hcb
            rw [HTKD.out] at hcv
            go_simp
            refine hK.out _ _ hHeld (fun hHeld => ?_)
            clear hK K hcv
            try simp only [Act.put, List.setIfInBounds_toArray, List.set_cons_zero, List.set_cons_succ]
            refine wpAnyH_take (i := 9) (v := ?_) (get1 (get1 (get1 (get1 (get1 (get1 (get1 (get1 (get1 (get0 _ _)))))))))) (by kernel_rfl) (by kernel_rfl) (by kernel_rfl) (fun _ _ _ h => h) (Or.inl ⟨by rfl, ?_⟩) (by assumption) ?_
            rotate_left
            · (intro w hSw; (try dsimp only at hSw); go_simp <;> with_reducible rfl)
            simp only [Act.put, List.setIfInBounds_toArray, List.set_cons_zero, List.set_cons_succ]
            refine wpAnyH_ready (rs := [12]) (by kernel_rfl) (by simp) ?_
            refine AllReadyH.cons (get1 (get1 (get1 (get1 (get1 (get1 (get1 (get1 (get1 (get1 (get1 (get1 (get0 _ _))))))))))))) (fun K hK => ?_) ?_
            · go_simp
              refine (dtext_any nm (by omega) _).mono ?_
              rintro e ya ⟨rfl, hy⟩
              rw [HTA.out]
              have HDW : Hid (Below X0.heap.size X0 ya) := HDW.out.trans (hy.mono HDW.out.size)
              try go_wp2_with fail
              refine hK.out _ _ ⟨cell_thru hy hHeld.1, cell_thru hy hHeld.2.1, cell_thru hy hHeld.2.2.1, cell_thru hy hHeld.2.2.2⟩ (fun hHeld => ?_)
              have hcb := cell_thru hy hcb
              clear hK K hy
              try simp only [Act.put, List.setIfInBounds_toArray, List.set_cons_zero, List.set_cons_succ]
              refine wpAnyH_take (i := 13) (v := ?_) (get1 (get1 (get1 (get1 (get1 (get1 (get1 (get1 (get1 (get1 (get1 (get1 (get1 (get0 _ _)))))))))))))) (by kernel_rfl) (by kernel_rfl) (by kernel_rfl) (fun _ _ _ h => h) (Or.inl ⟨by rfl, ?_⟩) (by assumption) ?_
              rotate_left
              · (intro w hSw; (try dsimp only at hSw); go_simp <;> with_reducible rfl)
              simp only [Act.put, List.setIfInBounds_toArray, List.set_cons_zero, List.set_cons_succ]
              refine wpAnyH_ready (rs := [16]) (by kernel_rfl) (by simp) ?_
              refine AllReadyH.cons (get1 (get1 (get1 (get1 (get1 (get1 (get1 (get1 (get1 (get1 (get1 (get1 (get1 (get1 (get1 (get1 (get0 _ _))))))))))))))))) (fun K hK => ?_) ?_
              · go_simp
                refine (dwide_any ad I6.out _).mono ?_
                rintro e yw ⟨rfl, hy⟩
                rw [HTW.out]
                have HDW : Hid (Below X0.heap.size X0 yw) := HDW.out.trans (hy.mono HDW.out.size)
                try go_wp2_with fail
                refine hK.out _ _ ⟨cell_thru hy hHeld.1, cell_thru hy hHeld.2.1, cell_thru hy hHeld.2.2.1, cell_thru hy hHeld.2.2.2⟩ (fun hHeld => ?_)
                have hcb := cell_thru hy hcb
                clear hK K hy
                try simp only [Act.put, List.setIfInBounds_toArray, List.set_cons_zero, List.set_cons_succ]
                refine wpAnyH_take (i := 17) (v := ?_) (get1 (get1 (get1 (get1 (get1 (get1 (get1 (get1 (get1 (get1 (get1 (get1 (get1 (get1 (get1 (get1 (get1 (get0 _ _)))))))))))))))))) (by kernel_rfl) (by kernel_rfl) (by kernel_rfl) (fun _ _ _ h => h) (Or.inl ⟨by rfl, ?_⟩) (by assumption) ?_
                rotate_left
                · (intro w hSw; (try dsimp only at hSw); go_simp <;> with_reducible rfl)
                simp only [Act.put, List.setIfInBounds_toArray, List.set_cons_zero, List.set_cons_succ]
                refine wpAnyH_ready (rs := [18]) (by kernel_rfl) (by simp) ?_
                refine AllReadyH.cons (get1 (get1 (get1 (get1 (get1 (get1 (get1 (get1 (get1 (get1 (get1 (get1 (get1 (get1 (get1 (get1 (get1 (get1 (get0 _ _))))))))))))))))))) (fun K hK => ?_) AllReadyH.nil
                have HRC : Hid _ := HRX.out.below HDW.out
                have HBC : Hid (Below w.heap.size w yw) := HBX.out.trans (HDW.out.mono HBX.out.size)
                have hzc : w.heap.size + 1 ≤ yw.heap.size := by have := HDW.out.size; omega
                refine step_append_rm (by rfl) _ _ (by rfl) (by rfl) HRC.out hzc (tp ++ tk ++ ta ++ tw) (by rfl) hzs ?_
                intro v' y' hrm' hgr
                have hbn : Below (w.heap.size + 1) yw y' := rm_gr HRC.out hgr hzc
                have HBN : Hid (Below w.heap.size w y') := HBC.out.trans (hbn.mono (Nat.le_succ _))
                have HRN : Hid (RM y' (w.heap.size + 1) v' (ys ++ relB ⟨ps, kd, nm, ad⟩)) := by show RM _ _ _ _; rw [← NS.out]; exact hrm'
                have far : ∀ (bk j : Nat) (u : Value), u4.ownBlock ≠ some bk → yw.cell? ⟨bk, j, none⟩ = some u → y'.cell? ⟨bk, j, none⟩ = some u := fun bk j u hne hc => hgr.cell hc hne
                have nzb : u4.ownBlock ≠ some zb := fun e => HZR.out zb e rfl
                refine hK.out _ _ ⟨far _ _ _ nzb hHeld.1, far _ _ _ nzb hHeld.2.1, far _ _ _ nzb hHeld.2.2.1, far _ _ _ nzb hHeld.2.2.2⟩ (fun hHeld => ?_)
                have HCN : Hid ((y'.cell? ⟨w.heap.size, 0, none⟩ = some (.string code) ∧ y'.cell? ⟨w.heap.size, 1, none⟩ = some (.slice a1 l1 c1) ∧ y'.cell? ⟨w.heap.size, 2, none⟩ = some (.slice a2 l2 c2) ∧ y'.cell? ⟨w.heap.size, 3, none⟩ = some (.slice (some ⟨b, off, none⟩) l3 c3))) := ⟨(hbn.cell (p := ⟨w.heap.size, 0, none⟩) (Nat.lt_succ_self _)).trans (cell_thru HDW.out HCX.out.1), (hbn.cell (p := ⟨w.heap.size, 1, none⟩) (Nat.lt_succ_self _)).trans (cell_thru HDW.out HCX.out.2.1), (hbn.cell (p := ⟨w.heap.size, 2, none⟩) (Nat.lt_succ_self _)).trans (cell_thru HDW.out HCX.out.2.2.1), (hbn.cell (p := ⟨w.heap.size, 3, none⟩) (Nat.lt_succ_self _)).trans (cell_thru HDW.out HCX.out.2.2.2)⟩
                have hzy : w.heap.size < y'.heap.size := World.block_lt_of_cell? y' ⟨w.heap.size, 0, none⟩ HCN.out.1
                clear hK K hrm' hgr hbn far nzb hzc
                try simp only [Act.put, List.setIfInBounds_toArray, List.set_cons_zero, List.set_cons_succ]
                refine wpAnyH_take (i := 19) (v := ?_) (get1 (get1 (get1 (get1 (get1 (get1 (get1 (get1 (get1 (get1 (get1 (get1 (get1 (get1 (get1 (get1 (get1 (get1 (get1 (get0 _ _)))))))))))))))))))) (by kernel_rfl) (by kernel_rfl) (by kernel_rfl) (fun _ _ _ h => h) (Or.inl ⟨by rfl, ?_⟩) (by assumption) ?_
                rotate_left
                · (intro w hSw; (try dsimp only at hSw); go_simp <;> with_reducible rfl)
                simp only [Act.put, List.setIfInBounds_toArray, List.set_cons_zero, List.set_cons_succ]
                refine wpAnyH_done (by kernel_rfl) ?_ _
                clear hHeld
                have HYN : Hid (ys ++ relB ⟨ps, kd, nm, ad⟩ = ys0 ++ (o.rels.take (k + 1)).flatMap relB) := by show _ = _; rw [HTK.out, HY.out, List.append_assoc]
                have hlz : (ys ++ relB ⟨ps, kd, nm, ad⟩).length ≤ 100000010 + 1100 * (k + 1) := by rw [List.length_append]; have := relB_len (r := ⟨ps, kd, nm, ad⟩) (by show nm.size ≤ 1000; omega) I6.out; omega
                go_wp2_with fail
                go_roundg (l3 - (k + 1))
                case measure => omega
                case rel => exact ⟨k + 1, _, by first | rfl | (congr 1; omega), by omega, Nat.le_refl _, hlz, HYN.out, HRN.out, HBN.out, HCN.out, hzy⟩
              exact AllReadyH.nil
            exact AllReadyH.nil
          refine AllReadyH.cons (get1 (get1 (get1 (get1 (get1 (get1 (get1 (get1 (get1 (get1 (get1 (get1 (get0 _ _))))))))))))) (fun K hK => ?_) ?_
          · go_simp
            refine (dtext_any nm (by omega) _).mono ?_
            rintro e ya ⟨rfl, hy⟩
            rw [HTA.out]
            have HDW : Hid (Below X0.heap.size X0 ya) := HDW.out.trans (hy.mono HDW.out.size)
            try go_wp2_with fail
            refine hK.out _ _ ⟨cell_thru hy hHeld.1, cell_thru hy hHeld.2.1, cell_thru hy hHeld.2.2.1, cell_thru hy hHeld.2.2.2⟩ (fun hHeld => ?_)
            have hcb := cell_thru hy hcb
            clear hK K hy
            try simp only [Act.put, List.setIfInBounds_toArray, List.set_cons_zero, List.set_cons_succ]
            refine wpAnyH_ready (rs := [8, 16]) (by kernel_rfl) (by simp) ?_
            refine AllReadyH.cons (get1 (get1 (get1 (get1 (get1 (get1 (get1 (get1 (get0 _ _))))))))) (fun K hK => ?_) ?_
            · have hcv := one_conv hcb
              rw [HTKD.out] at hcv
              go_simp
              refine hK.out _ _ hHeld (fun hHeld => ?_)
              clear hK K hcv
              try simp only [Act.put, List.setIfInBounds_toArray, List.set_cons_zero, List.set_cons_succ]
              refine wpAnyH_take (i := 9) (v := ?_) (get1 (get1 (get1 (get1 (get1 (get1 (get1 (get1 (get1 (get0 _ _)))))))))) (by kernel_rfl) (by kernel_rfl) (by kernel_rfl) (fun _ _ _ h => h) (Or.inl ⟨by rfl, ?_⟩) (by assumption) ?_
              rotate_left
              · (intro w hSw; (try dsimp only at hSw); go_simp <;> with_reducible rfl)
              simp only [Act.put, List.setIfInBounds_toArray, List.set_cons_zero, List.set_cons_succ]
              refine wpAnyH_take (i := 13) (v := ?_) (get1 (get1 (get1 (get1 (get1 (get1 (get1 (get1 (get1 (get1 (get1 (get1 (get1 (get0 _ _)))))))))))))) (by kernel_rfl) (by kernel_rfl) (by kernel_rfl) (fun _ _ _ h => h) (Or.inl ⟨by rfl, ?_⟩) (by assumption) ?_
              rotate_left
              · (intro w hSw; (try dsimp only at hSw); go_simp <;> with_reducible rfl)
              simp only [Act.put, List.setIfInBounds_toArray, List.set_cons_zero, List.set_cons_succ]
              refine wpAnyH_ready (rs := [16]) (by kernel_rfl) (by simp) ?_
              refine AllReadyH.cons (get1 (get1 (get1 (get1 (get1 (get1 (get1 (get1 (get1 (get1 (get1 (get1 (get1 (get1 (get1 (get1 (get0 _ _))))))))))))))))) (fun K hK => ?_) ?_
              · go_simp
                refine (dwide_any ad I6.out _).mono ?_
                rintro e yw ⟨rfl, hy⟩
                rw [HTW.out]
                have HDW : Hid (Below X0.heap.size X0 yw) := HDW.out.trans (hy.mono HDW.out.size)
                try go_wp2_with fail
                refine hK.out _ _ ⟨cell_thru hy hHeld.1, cell_thru hy hHeld.2.1, cell_thru hy hHeld.2.2.1, cell_thru hy hHeld.2.2.2⟩ (fun hHeld => ?_)
                have hcb := cell_thru hy hcb
                clear hK K hy
                try simp only [Act.put, List.setIfInBounds_toArray, List.set_cons_zero, List.set_cons_succ]
                refine wpAnyH_take (i := 17) (v := ?_) (get1 (get1 (get1 (get1 (get1 (get1 (get1 (get1 (get1 (get1 (get1 (get1 (get1 (get1 (get1 (get1 (get1 (get0 _ _)))))))))))))))))) (by kernel_rfl) (by kernel_rfl) (by kernel_rfl) (fun _ _ _ h => h) (Or.inl ⟨by rfl, ?_⟩) (by assumption) ?_
                rotate_left
                · (intro w hSw; (try dsimp only at hSw); go_simp <;> with_reducible rfl)
                simp only [Act.put, List.setIfInBounds_toArray, List.set_cons_zero, List.set_cons_succ]
                refine wpAnyH_ready (rs := [18]) (by kernel_rfl) (by simp) ?_
                refine AllReadyH.cons (get1 (get1 (get1 (get1 (get1 (get1 (get1 (get1 (get1 (get1 (get1 (get1 (get1 (get1 (get1 (get1 (get1 (get1 (get0 _ _))))))))))))))))))) (fun K hK => ?_) AllReadyH.nil
                have HRC : Hid _ := HRX.out.below HDW.out
                have HBC : Hid (Below w.heap.size w yw) := HBX.out.trans (HDW.out.mono HBX.out.size)
                have hzc : w.heap.size + 1 ≤ yw.heap.size := by have := HDW.out.size; omega
                refine step_append_rm (by rfl) _ _ (by rfl) (by rfl) HRC.out hzc (tp ++ tk ++ ta ++ tw) (by rfl) hzs ?_
                intro v' y' hrm' hgr
                have hbn : Below (w.heap.size + 1) yw y' := rm_gr HRC.out hgr hzc
                have HBN : Hid (Below w.heap.size w y') := HBC.out.trans (hbn.mono (Nat.le_succ _))
                have HRN : Hid (RM y' (w.heap.size + 1) v' (ys ++ relB ⟨ps, kd, nm, ad⟩)) := by show RM _ _ _ _; rw [← NS.out]; exact hrm'
                have far : ∀ (bk j : Nat) (u : Value), u4.ownBlock ≠ some bk → yw.cell? ⟨bk, j, none⟩ = some u → y'.cell? ⟨bk, j, none⟩ = some u := fun bk j u hne hc => hgr.cell hc hne
                have nzb : u4.ownBlock ≠ some zb := fun e => HZR.out zb e rfl
                refine hK.out _ _ ⟨far _ _ _ nzb hHeld.1, far _ _ _ nzb hHeld.2.1, far _ _ _ nzb hHeld.2.2.1, far _ _ _ nzb hHeld.2.2.2⟩ (fun hHeld => ?_)
                have HCN : Hid ((y'.cell? ⟨w.heap.size, 0, none⟩ = some (.string code) ∧ y'.cell? ⟨w.heap.size, 1, none⟩ = some (.slice a1 l1 c1) ∧ y'.cell? ⟨w.heap.size, 2, none⟩ = some (.slice a2 l2 c2) ∧ y'.cell? ⟨w.heap.size, 3, none⟩ = some (.slice (some ⟨b, off, none⟩) l3 c3))) := ⟨(hbn.cell (p := ⟨w.heap.size, 0, none⟩) (Nat.lt_succ_self _)).trans (cell_thru HDW.out HCX.out.1), (hbn.cell (p := ⟨w.heap.size, 1, none⟩) (Nat.lt_succ_self _)).trans (cell_thru HDW.out HCX.out.2.1), (hbn.cell (p := ⟨w.heap.size, 2, none⟩) (Nat.lt_succ_self _)).trans (cell_thru HDW.out HCX.out.2.2.1), (hbn.cell (p := ⟨w.heap.size, 3, none⟩) (Nat.lt_succ_self _)).trans (cell_thru HDW.out HCX.out.2.2.2)⟩
                have hzy : w.heap.size < y'.heap.size := World.block_lt_of_cell? y' ⟨w.heap.size, 0, none⟩ HCN.out.1
                clear hK K hrm' hgr hbn far nzb hzc
                try simp only [Act.put, List.setIfInBounds_toArray, List.set_cons_zero, List.set_cons_succ]
                refine wpAnyH_take (i := 19) (v := ?_) (get1 (get1 (get1 (get1 (get1 (get1 (get1 (get1 (get1 (get1 (get1 (get1 (get1 (get1 (get1 (get1 (get1 (get1 (get1 (get0 _ _)))))))))))))))))))) (by kernel_rfl) (by kernel_rfl) (by kernel_rfl) (fun _ _ _ h => h) (Or.inl ⟨by rfl, ?_⟩) (by assumption) ?_
                rotate_left
                · (intro w hSw; (try dsimp only at hSw); go_simp <;> with_reducible rfl)
                simp only [Act.put, List.setIfInBounds_toArray, List.set_cons_zero, List.set_cons_succ]
                refine wpAnyH_done (by kernel_rfl) ?_ _
                clear hHeld
                have HYN : Hid (ys ++ relB ⟨ps, kd, nm, ad⟩ = ys0 ++ (o.rels.take (k + 1)).flatMap relB) := by show _ = _; rw [HTK.out, HY.out, List.append_assoc]
                have hlz : (ys ++ relB ⟨ps, kd, nm, ad⟩).length ≤ 100000010 + 1100 * (k + 1) := by rw [List.length_append]; have := relB_len (r := ⟨ps, kd, nm, ad⟩) (by show nm.size ≤ 1000; omega) I6.out; omega
                go_wp2_with fail
                go_roundg (l3 - (k + 1))
                case measure => omega
                case rel => exact ⟨k + 1, _, by first | rfl | (congr 1; omega), by omega, Nat.le_refl _, hlz, HYN.out, HRN.out, HBN.out, HCN.out, hzy⟩
              exact AllReadyH.nil
            refine AllReadyH.cons (get1 (get1 (get1 (get1 (get1 (get1 (get1 (get1 (get1 (get1 (get1 (get1 (get1 (get1 (get1 (get1 (get0 _ _))))))))))))))))) (fun K hK => ?_) ?_
            · go_simp
              refine (dwide_any ad I6.out _).mono ?_
              rintro e yw ⟨rfl, hy⟩
              rw [HTW.out]
              have HDW : Hid (Below X0.heap.size X0 yw) := HDW.out.trans (hy.mono HDW.out.size)
              try go_wp2_with fail
              refine hK.out _ _ ⟨cell_thru hy hHeld.1, cell_thru hy hHeld.2.1, cell_thru hy hHeld.2.2.1, cell_thru hy hHeld.2.2.2⟩ (fun hHeld => ?_)
              have hcb := cell_thru hy hcb
              clear hK K hy
              try simp only [Act.put, List.setIfInBounds_toArray, List.set_cons_zero, List.set_cons_succ]
              refine wpAnyH_ready (rs := [8]) (by kernel_rfl) (by simp) ?_
              refine AllReadyH.cons (get1 (get1 (get1 (get1 (get1 (get1 (get1 (get1 (get0 _ _))))))))) (fun K hK => ?_) ?_
              · have hcv := one_conv hcb
                rw [HTKD.out] at hcv
                go_simp
                refine hK.out _ _ hHeld (fun hHeld => ?_)
                clear hK K hcv
                try simp only [Act.put, List.setIfInBounds_toArray, List.set_cons_zero, List.set_cons_succ]
                refine wpAnyH_take (i := 9) (v := ?_) (get1 (get1 (get1 (get1 (get1 (get1 (get1 (get1 (get1 (get0 _ _)))))))))) (by kernel_rfl) (by kernel_rfl) (by kernel_rfl) (fun _ _ _ h => h) (Or.inl ⟨by rfl, ?_⟩) (by assumption) ?_
                rotate_left
                · (intro w hSw; (try dsimp only at hSw); go_simp <;> with_reducible rfl)
                simp only [Act.put, List.setIfInBounds_toArray, List.set_cons_zero, List.set_cons_succ]
                refine wpAnyH_take (i := 13) (v := ?_) (get1 (get1 (get1 (get1 (get1 (get1 (get1 (get1 (get1 (get1 (get1 (get1 (get1 (get0 _ _)))))))))))))) (by kernel_rfl) (by kernel_rfl) (by kernel_rfl) (fun _ _ _ h => h) (Or.inl ⟨by rfl, ?_⟩) (by assumption) ?_
                rotate_left
                · (intro w hSw; (try dsimp only at hSw); go_simp <;> with_reducible rfl)
                simp only [Act.put, List.setIfInBounds_toArray, List.set_cons_zero, List.set_cons_succ]
                refine wpAnyH_take (i := 17) (v := ?_) (get1 (get1 (get1 (get1 (get1 (get1 (get1 (get1 (get1 (get1 (get1 (get1 (get1 (get1 (get1 (get1 (get1 (get0 _ _)))))))))))))))))) (by kernel_rfl) (by kernel_rfl) (by kernel_rfl) (fun _ _ _ h => h) (Or.inl ⟨by rfl, ?_⟩) (by assumption) ?_
                rotate_left
                · (intro w hSw; (try dsimp only at hSw); go_simp <;> with_reducible rfl)
                simp only [Act.put, List.setIfInBounds_toArray, List.set_cons_zero, List.set_cons_succ]
                refine wpAnyH_ready (rs := [18]) (by kernel_rfl) (by simp) ?_
                refine AllReadyH.cons (get1 (get1 (get1 (get1 (get1 (get1 (get1 (get1 (get1 (get1 (get1 (get1 (get1 (get1 (get1 (get1 (get1 (get1 (get0 _ _))))))))))))))))))) (fun K hK => ?_) AllReadyH.nil
                have HRC : Hid _ := HRX.out.below HDW.out
                have HBC : Hid (Below w.heap.size w yw) := HBX.out.trans (HDW.out.mono HBX.out.size)
                have hzc : w.heap.size + 1 ≤ yw.heap.size := by have := HDW.out.size; omega
                refine step_append_rm (by rfl) _ _ (by rfl) (by rfl) HRC.out hzc (tp ++ tk ++ ta ++ tw) (by rfl) hzs ?_
                intro v' y' hrm' hgr
                have hbn : Below (w.heap.size + 1) yw y' := rm_gr HRC.out hgr hzc
                have HBN : Hid (Below w.heap.size w y') := HBC.out.trans (hbn.mono (Nat.le_succ _))
                have HRN : Hid (RM y' (w.heap.size + 1) v' (ys ++ relB ⟨ps, kd, nm, ad⟩)) := by show RM _ _ _ _; rw [← NS.out]; exact hrm'
                have far : ∀ (bk j : Nat) (u : Value), u4.ownBlock ≠ some bk → yw.cell? ⟨bk, j, none⟩ = some u → y'.cell? ⟨bk, j, none⟩ = some u := fun bk j u hne hc => hgr.cell hc hne
                have nzb : u4.ownBlock ≠ some zb := fun e => HZR.out zb e rfl
                refine hK.out _ _ ⟨far _ _ _ nzb hHeld.1, far _ _ _ nzb hHeld.2.1, far _ _ _ nzb hHeld.2.2.1, far _ _ _ nzb hHeld.2.2.2⟩ (fun hHeld => ?_)
                have HCN : Hid ((y'.cell? ⟨w.heap.size, 0, none⟩ = some (.string code) ∧ y'.cell? ⟨w.heap.size, 1, none⟩ = some (.slice a1 l1 c1) ∧ y'.cell? ⟨w.heap.size, 2, none⟩ = some (.slice a2 l2 c2) ∧ y'.cell? ⟨w.heap.size, 3, none⟩ = some (.slice (some ⟨b, off, none⟩) l3 c3))) := ⟨(hbn.cell (p := ⟨w.heap.size, 0, none⟩) (Nat.lt_succ_self _)).trans (cell_thru HDW.out HCX.out.1), (hbn.cell (p := ⟨w.heap.size, 1, none⟩) (Nat.lt_succ_self _)).trans (cell_thru HDW.out HCX.out.2.1), (hbn.cell (p := ⟨w.heap.size, 2, none⟩) (Nat.lt_succ_self _)).trans (cell_thru HDW.out HCX.out.2.2.1), (hbn.cell (p := ⟨w.heap.size, 3, none⟩) (Nat.lt_succ_self _)).trans (cell_thru HDW.out HCX.out.2.2.2)⟩
                have hzy : w.heap.size < y'.heap.size := World.block_lt_of_cell? y' ⟨w.heap.size, 0, none⟩ HCN.out.1
                clear hK K hrm' hgr hbn far nzb hzc
                try simp only [Act.put, List.setIfInBounds_toArray, List.set_cons_zero, List.set_cons_succ]
                refine wpAnyH_take (i := 19) (v := ?_) (get1 (get1 (get1 (get1 (get1 (get1 (get1 (get1 (get1 (get1 (get1 (get1 (get1 (get1 (get1 (get1 (get1 (get1 (get1 (get0 _ _)))))))))))))))))))) (by kernel_rfl) (by kernel_rfl) (by kernel_rfl) (fun _ _ _ h => h) (Or.inl ⟨by rfl, ?_⟩) (by assumption) ?_
                rotate_left
                · (intro w hSw; (try dsimp only at hSw); go_simp <;> with_reducible rfl)
                simp only [Act.put, List.setIfInBounds_toArray, List.set_cons_zero, List.set_cons_succ]
                refine wpAnyH_done (by kernel_rfl) ?_ _
                clear hHeld
                have HYN : Hid (ys ++ relB ⟨ps, kd, nm, ad⟩ = ys0 ++ (o.rels.take (k + 1)).flatMap relB) := by show _ = _; rw [HTK.out, HY.out, List.append_assoc]
                have hlz : (ys ++ relB ⟨ps, kd, nm, ad⟩).length ≤ 100000010 + 1100 * (k + 1) := by rw [List.length_append]; have := relB_len (r := ⟨ps, kd, nm, ad⟩) (by show nm.size ≤ 1000; omega) I6.out; omega
                go_wp2_with fail
                go_roundg (l3 - (k + 1))
                case measure => omega
                case rel => exact ⟨k + 1, _, by first | rfl | (congr 1; omega), by omega, Nat.le_refl _, hlz, HYN.out, HRN.out, HBN.out, HCN.out, hzy⟩
              exact AllReadyH.nil
            exact AllReadyH.nil
          exact AllReadyH.nil
        refine AllReadyH.cons (get1 (get1 (get1 (get1 (get1 (get1 (get1 (get1 (get0 _ _))))))))) (fun K hK => ?_) ?_
        · have hcv := one_conv hcb
          rw [HTKD.out] at hcv
          go_simp
          refine hK.out _ _ hHeld (fun hHeld => ?_)
          clear hK K hcv
          try simp only [Act.put, List.setIfInBounds_toArray, List.set_cons_zero, List.set_cons_succ]
          refine wpAnyH_ready (rs := [3]) (by kernel_rfl) (by simp) ?_
          refine AllReadyH.cons (get1 (get1 (get1 (get0 _ _)))) (fun K hK => ?_) ?_
          · go_simp
            refine (dnumber_any ps i4 (by omega) _).mono ?_
            rintro e yp ⟨rfl, hy⟩
            rw [HTP.out]
            have HDW : Hid (Below X0.heap.size X0 yp) := HDW.out.trans (hy.mono HDW.out.size)
            try go_wp2_with fail
            refine hK.out _ _ ⟨cell_thru hy hHeld.1, cell_thru hy hHeld.2.1, cell_thru hy hHeld.2.2.1, cell_thru hy hHeld.2.2.2⟩ (fun hHeld => ?_)
            have hcb := cell_thru hy hcb
            clear hK K hy
            try simp only [Act.put, List.setIfInBounds_toArray, List.set_cons_zero, List.set_cons_succ]
            refine wpAnyH_take (i := 9) (v := ?_) (get1 (get1 (get1 (get1 (get1 (get1 (get1 (get1 (get1 (get0 _ _)))))))))) (by kernel_rfl) (by kernel_rfl) (by kernel_rfl) (fun _ _ _ h => h) (Or.inl ⟨by rfl, ?_⟩) (by assumption) ?_
            rotate_left
            · (intro w hSw; (try dsimp only at hSw); go_simp <;> with_reducible rfl)
            simp only [Act.put, List.setIfInBounds_toArray, List.set_cons_zero, List.set_cons_succ]
            refine wpAnyH_ready (rs := [12]) (by kernel_rfl) (by simp) ?_
            refine AllReadyH.cons (get1 (get1 (get1 (get1 (get1 (get1 (get1 (get1 (get1 (get1 (get1 (get1 (get0 _ _))))))))))))) (fun K hK => ?_) ?_
            · go_simp
              refine (dtext_any nm (by omega) _).mono ?_
              rintro e ya ⟨rfl, hy⟩
              rw [HTA.out]
              have HDW : Hid (Below X0.heap.size X0 ya) := HDW.out.trans (hy.mono HDW.out.size)
              try go_wp2_with fail
              refine hK.out _ _ ⟨cell_thru hy hHeld.1, cell_thru hy hHeld.2.1, cell_thru hy hHeld.2.2.1, cell_thru hy hHeld.2.2.2⟩ (fun hHeld => ?_)
              have hcb := cell_thru hy hcb
              clear hK K hy
              try simp only [Act.put, List.setIfInBounds_toArray, List.set_cons_zero, List.set_cons_succ]
              refine wpAnyH_take (i := 13) (v := ?_) (get1 (get1 (get1 (get1 (get1 (get1 (get1 (get1 (get1 (get1 (get1 (get1 (get1 (get0 _ _)))))))))))))) (by kernel_rfl) (by kernel_rfl) (by kernel_rfl) (fun _ _ _ h => h) (Or.inl ⟨by rfl, ?_⟩) (by assumption) ?_
              rotate_left
              · (intro w hSw; (try dsimp only at hSw); go_simp <;> with_reducible rfl)
              simp only [Act.put, List.setIfInBounds_toArray, List.set_cons_zero, List.set_cons_succ]
              refine wpAnyH_ready (rs := [16]) (by kernel_rfl) (by simp) ?_
              refine AllReadyH.cons (get1 (get1 (get1 (get1 (get1 (get1 (get1 (get1 (get1 (get1 (get1 (get1 (get1 (get1 (get1 (get1 (get0 _ _))))))))))))))))) (fun K hK => ?_) ?_
              · go_simp
                refine (dwide_any ad I6.out _).mono ?_
                rintro e yw ⟨rfl, hy⟩
                rw [HTW.out]
                have HDW : Hid (Below X0.heap.size X0 yw) := HDW.out.trans (hy.mono HDW.out.size)
                try go_wp2_with fail
                refine hK.out _ _ ⟨cell_thru hy hHeld.1, cell_thru hy hHeld.2.1, cell_thru hy hHeld.2.2.1, cell_thru hy hHeld.2.2.2⟩ (fun hHeld => ?_)
                have hcb := cell_thru hy hcb
                clear hK K hy
                try simp only [Act.put, List.setIfInBounds_toArray, List.set_cons_zero, List.set_cons_succ]
                refine wpAnyH_take (i := 17) (v := ?_) (get1 (get1 (get1 (get1 (get1 (get1 (get1 (get1 (get1 (get1 (get1 (get1 (get1 (get1 (get1 (get1 (get1 (get0 _ _)))))))))))))))))) (by kernel_rfl) (by kernel_rfl) (by kernel_rfl) (fun _ _ _ h => h) (Or.inl ⟨by rfl, ?_⟩) (by assumption) ?_
                rotate_left
                · (intro w hSw; (try dsimp only at hSw); go_simp <;> with_reducible rfl)
                simp only [Act.put, List.setIfInBounds_toArray, List.set_cons_zero, List.set_cons_succ]
                refine wpAnyH_ready (rs := [18]) (by kernel_rfl) (by simp) ?_
                refine AllReadyH.cons (get1 (get1 (get1 (get1 (get1 (get1 (get1 (get1 (get1 (get1 (get1 (get1 (get1 (get1 (get1 (get1 (get1 (get1 (get0 _ _))))))))))))))))))) (fun K hK => ?_) AllReadyH.nil
                have HRC : Hid _ := HRX.out.below HDW.out
                have HBC : Hid (Below w.heap.size w yw) := HBX.out.trans (HDW.out.mono HBX.out.size)
                have hzc : w.heap.size + 1 ≤ yw.heap.size := by have := HDW.out.size; omega
                refine step_append_rm (by rfl) _ _ (by rfl) (by rfl) HRC.out hzc (tp ++ tk ++ ta ++ tw) (by rfl) hzs ?_
                intro v' y' hrm' hgr
                have hbn : Below (w.heap.size + 1) yw y' := rm_gr HRC.out hgr hzc
                have HBN : Hid (Below w.heap.size w y') := HBC.out.trans (hbn.mono (Nat.le_succ _))
                have HRN : Hid (RM y' (w.heap.size + 1) v' (ys ++ relB ⟨ps, kd, nm, ad⟩)) := by show RM _ _ _ _; rw [← NS.out]; exact hrm'
                have far : ∀ (bk j : Nat) (u : Value), u4.ownBlock ≠ some bk → yw.cell? ⟨bk, j, none⟩ = some u → y'.cell? ⟨bk, j, none⟩ = some u := fun bk j u hne hc => hgr.cell hc hne
                have nzb : u4.ownBlock ≠ some zb := fun e => HZR.out zb e rfl
                refine hK.out _ _ ⟨far _ _ _ nzb hHeld.1, far _ _ _ nzb hHeld.2.1, far _ _ _ nzb hHeld.2.2.1, far _ _ _ nzb hHeld.2.2.2⟩ (fun hHeld => ?_)
                have HCN : Hid ((y'.cell? ⟨w.heap.size, 0, none⟩ = some (.string code) ∧ y'.cell? ⟨w.heap.size, 1, none⟩ = some (.slice a1 l1 c1) ∧ y'.cell? ⟨w.heap.size, 2, none⟩ = some (.slice a2 l2 c2) ∧ y'.cell? ⟨w.heap.size, 3, none⟩ = some (.slice (some ⟨b, off, none⟩) l3 c3))) := ⟨(hbn.cell (p := ⟨w.heap.size, 0, none⟩) (Nat.lt_succ_self _)).trans (cell_thru HDW.out HCX.out.1), (hbn.cell (p := ⟨w.heap.size, 1, none⟩) (Nat.lt_succ_self _)).trans (cell_thru HDW.out HCX.out.2.1), (hbn.cell (p := ⟨w.heap.size, 2, none⟩) (Nat.lt_succ_self _)).trans (cell_thru HDW.out HCX.out.2.2.1), (hbn.cell (p := ⟨w.heap.size, 3, none⟩) (Nat.lt_succ_self _)).trans (cell_thru HDW.out HCX.out.2.2.2)⟩
                have hzy : w.heap.size < y'.heap.size := World.block_lt_of_cell? y' ⟨w.heap.size, 0, none⟩ HCN.out.1
                clear hK K hrm' hgr hbn far nzb hzc
                try simp only [Act.put, List.setIfInBounds_toArray, List.set_cons_zero, List.set_cons_succ]
                refine wpAnyH_take (i := 19) (v := ?_) (get1 (get1 (get1 (get1 (get1 (get1 (get1 (get1 (get1 (get1 (get1 (get1 (get1 (get1 (get1 (get1 (get1 (get1 (get1 (get0 _ _)))))))))))))))))))) (by kernel_rfl) (by kernel_rfl) (by kernel_rfl) (fun _ _ _ h => h) (Or.inl ⟨by rfl, ?_⟩) (by assumption) ?_
                rotate_left
                · (intro w hSw; (try dsimp only at hSw); go_simp <;> with_reducible rfl)
                simp only [Act.put, List.setIfInBounds_toArray, List.set_cons_zero, List.set_cons_succ]
                refine wpAnyH_done (by kernel_rfl) ?_ _
                clear hHeld
                have HYN : Hid (ys ++ relB ⟨ps, kd, nm, ad⟩ = ys0 ++ (o.rels.take (k + 1)).flatMap relB) := by show _ = _; rw [HTK.out, HY.out, List.append_assoc]
                have hlz : (ys ++ relB ⟨ps, kd, nm, ad⟩).length ≤ 100000010 + 1100 * (k + 1) := by rw [List.length_append]; have := relB_len (r := ⟨ps, kd, nm, ad⟩) (by show nm.size ≤ 1000; omega) I6.out; omega
                go_wp2_with fail
                go_roundg (l3 - (k + 1))
                case measure => omega
                case rel => exact ⟨k + 1, _, by first | rfl | (congr 1; omega), by omega, Nat.le_refl _, hlz, HYN.out, HRN.out, HBN.out, HCN.out, hzy⟩
              exact AllReadyH.nil
            exact AllReadyH.nil
          exact AllReadyH.nil
        exact AllReadyH.nil
      exact AllReadyH.nil
    · obtain rfl : l3 = k := by omega
      have HYF : Hid (strOfNums ys = rz) := by
        show _ = _
        rw [HZ.out.1, HY.out, List.take_of_length_le (by rw [HN.out.2.2]; exact Nat.le_refl _), HY0.out]
        congr 1
        simp only [frontB, formB, HCO.out, HN.out.2.2, List.append_assoc]
      have HE : Hid _ := HZ.out.2
      have hcv := rm_back HR.out
      rw [HYF.out] at hcv
      go_wp2_with fail
      go_ret2
      exact ⟨by rw [HE.out]; rfl, HB.out⟩

end Go.Proofs.Ytcfdfnghaigkjaa

/- What the law ObjfWrites comes to. (Written by gen_writes.py.) -/
import Derived.Test.YtcfdfnghaigkjaaObjRefWrite
import Derived.Test.YtcfdfnghaigkjaaObjRefCopy
import Derived.Test.YtcfdfnghaigkjaaObjApart
namespace Go.Proofs.Ytcfdfnghaigkjaa
open Go.RowKit Go.Maps Go.Lib
set_option linter.unusedVariables false

set_option maxRecDepth 100000 in
set_option maxHeartbeats 16000000 in
theorem writes_any {w : World} {v : Value} {o : ObjD} (h : ObjV w v o) (hl : o.data.length * 8 ≤ 140737488355328 ∧ o.syms.length * 32 ≤ 140737488355328 ∧ o.rels.length * 40 ≤ 140737488355328) :
    Calls Try.prog 3 #[v] w fun e w' => e = .returned (.bool true) ∧ Below w.heap.size w w' := by
  have HV : Hid _ := h
  have HL : Hid _ := hl
  have HLM : Hid (o.data.length ≤ maxLen ∧ o.syms.length ≤ maxLen ∧ o.rels.length ≤ maxLen) := by show _ ∧ _ ∧ _; unfold maxLen; omega
  obtain ⟨a1, l1, c1, a2, l2, c2, a3, l3, c3, rfl, -, -, -, -⟩ := h.form
  obtain ⟨code, hcode⟩ : ∃ c, o.code = c := ⟨_, rfl⟩
  rw [hcode] at HV ⊢
  have HCO : Hid _ := hcode
  obtain ⟨rz, hrz⟩ : ∃ t, (if o.may then strOfNums (formB o) else ByteArray.empty) = t := ⟨_, rfl⟩
  obtain ⟨ez, hez⟩ : ∃ z : Int, (if o.may then 0 else 1) = z := ⟨_, rfl⟩
  have HRZ : Hid _ := hrz
  have HEZ : Hid _ := hez
  clear h hcode hl hrz hez
  obtain ⟨W2, hW2⟩ : ∃ W2, w.alloc (.cells #[.string code, .slice a1 l1 c1, .slice a2 l2 c2, .slice a3 l3 c3] 26) = W2 := ⟨_, rfl⟩
  have s2 : W2.heap.size = w.heap.size + 1 := by subst hW2; simp
  have HW : Hid (Below w.heap.size w W2) := by subst hW2; exact bl_one _ _
  have CV : Hid (Cells W2 w.heap.size [.string code, .slice a1 l1 c1, .slice a2 l2 c2, .slice a3 l3 c3]) := fun j u hu => by subst hW2; exact cell_last rfl (by simpa using hu)
  have HT : Hid (∀ {x : World}, Below W2.heap.size W2 x → Below w.heap.size w x) := fun hx => HW.out.trans (hx.mono HW.out.size)
  have r0 : W2.cell? ⟨w.heap.size, 0, none⟩ = _ := CV.out 0 _ rfl
  have r1 : W2.cell? ⟨w.heap.size, 1, none⟩ = _ := CV.out 1 _ rfl
  have r2 : W2.cell? ⟨w.heap.size, 2, none⟩ = _ := CV.out 2 _ rfl
  have r3 : W2.cell? ⟨w.heap.size, 3, none⟩ = _ := CV.out 3 _ rfl
  go_enter Try.func3, Try.ntmps3
  go_wp2_with fail
  refine (small_any (HV.out.below HW.out)).mono ?_
  rintro e x1 ⟨rfl, hx1⟩
  clear r0 r1 r2 r3
  cases hs1 : decide (o.syms.length ≤ 200) with
  | false =>
    have HX : Hid _ := HT.out hx1
    clear hs1 hx1
    go_wp2_with fail
    refine (live_any _).mono ?_
    rintro e y ⟨rfl, hb⟩
    go_wp2
    go_ret
    exact ⟨rfl, HX.out.trans (hb.mono HX.out.size)⟩
  | true =>
  have HX1 : Hid _ := hx1
  have r0 := cell_thru hx1 (CV.out 0 _ rfl)
  have r1 := cell_thru hx1 (CV.out 1 _ rfl)
  have r2 := cell_thru hx1 (CV.out 2 _ rfl)
  have r3 := cell_thru hx1 (CV.out 3 _ rfl)
  clear hs1 hx1
  go_wp2_with fail
  refine (copy_any (HV.out.below (HT.out HX1.out)) HL.out).mono ?_
  rintro e x2 ⟨⟨v', rfl, hv'⟩, hx2⟩
  have HP : Hid _ := hv'
  obtain ⟨b1, m1, d1, b2, m2, d2, b3, m3, d3, rfl, -, -, -, -⟩ := hv'.form
  rw [HCO.out] at HP ⊢
  have HX2 : Hid (Below W2.heap.size W2 x2) := HX1.out.trans (hx2.mono HX1.out.size)
  clear hx2 hv' r0 r1 r2 r3 HX1
  go_wp2_with fail
  obtain ⟨X2, hX2⟩ : ∃ X, x2.alloc (.cells #[.string code, .slice b1 m1 d1, .slice b2 m2 d2, .slice b3 m3 d3] 26) = X := ⟨_, rfl⟩
  have hbX : Below x2.heap.size x2 X2 := by subst hX2; exact bl_one _ _
  have HXX : Hid (Below W2.heap.size W2 X2) := HX2.out.trans (hbX.mono HX2.out.size)
  have CP : Hid (Cells X2 x2.heap.size [.string code, .slice b1 m1 d1, .slice b2 m2 d2, .slice b3 m3 d3]) := fun j u hu => by subst hX2; exact cell_last rfl (by simpa using hu)
  have CVX : Hid (Cells X2 w.heap.size [.string code, .slice a1 l1 c1, .slice a2 l2 c2, .slice a3 l3 c3]) := fun j u hu => cell_thru HXX.out (CV.out j u hu)
  have HPX : Hid _ := HP.out.below hbX
  rw [hX2]
  clear hX2 hbX HP HX2
  generalize x2.heap.size = zc at *
  refine (write_any HPX.out).mono ?_
  rintro e x3 ⟨rfl, hx3⟩
  rw [HRZ.out, HEZ.out]
  have HP3 : Hid _ := HPX.out.below hx3
  have HX3 : Hid (Below W2.heap.size W2 x3) := HXX.out.trans (hx3.mono HXX.out.size)
  have CP3 : Hid (Cells x3 zc [.string code, .slice b1 m1 d1, .slice b2 m2 d2, .slice b3 m3 d3]) := fun j u hu => cell_thru hx3 (CP.out j u hu)
  have r0 := cell_thru hx3 (CVX.out 0 _ rfl)
  have r1 := cell_thru hx3 (CVX.out 1 _ rfl)
  have r2 := cell_thru hx3 (CVX.out 2 _ rfl)
  have r3 := cell_thru hx3 (CVX.out 3 _ rfl)
  clear hx3 HPX HXX CP CVX
  go_wp2_with fail
  refine (dwrite_any (HV.out.below (HT.out HX3.out))).mono ?_
  rintro e x4 ⟨rfl, hx4⟩
  rw [HRZ.out, HEZ.out]
  have HP4 : Hid _ := HP3.out.below hx4
  have HX4 : Hid (Below W2.heap.size W2 x4) := HX3.out.trans (hx4.mono HX3.out.size)
  have hS : (x4.cell? ⟨w.heap.size, 0, none⟩ = some (.string code) ∧ x4.cell? ⟨w.heap.size, 1, none⟩ = some (.slice a1 l1 c1) ∧ x4.cell? ⟨w.heap.size, 2, none⟩ = some (.slice a2 l2 c2) ∧ x4.cell? ⟨w.heap.size, 3, none⟩ = some (.slice a3 l3 c3) ∧ x4.cell? ⟨zc, 0, none⟩ = some (.string code) ∧ x4.cell? ⟨zc, 1, none⟩ = some (.slice b1 m1 d1) ∧ x4.cell? ⟨zc, 2, none⟩ = some (.slice b2 m2 d2) ∧ x4.cell? ⟨zc, 3, none⟩ = some (.slice b3 m3 d3)) := ⟨cell_thru hx4 r0, cell_thru hx4 r1, cell_thru hx4 r2, cell_thru hx4 r3, cell_thru hx4 (CP3.out 0 _ rfl), cell_thru hx4 (CP3.out 1 _ rfl), cell_thru hx4 (CP3.out 2 _ rfl), cell_thru hx4 (CP3.out 3 _ rfl)⟩
  clear hx4 HP3 HX3 CP3 r0 r1 r2 r3
  go_wp2_with fail
  have dw : Below x4.heap.size x4 x4.drew := (Below.refl _ _).drew
  have HPD : Hid _ := HP4.out.below dw
  have HVD : Hid _ := (HV.out.below (HT.out HX4.out)).below dw
  have HXD : Hid (Below w.heap.size w x4.drew) := (HT.out HX4.out).drew
  have HS : Hid ((x4.cell? ⟨w.heap.size, 0, none⟩ = some (.string code) ∧ x4.cell? ⟨w.heap.size, 1, none⟩ = some (.slice a1 l1 c1) ∧ x4.cell? ⟨w.heap.size, 2, none⟩ = some (.slice a2 l2 c2) ∧ x4.cell? ⟨w.heap.size, 3, none⟩ = some (.slice a3 l3 c3) ∧ x4.cell? ⟨zc, 0, none⟩ = some (.string code) ∧ x4.cell? ⟨zc, 1, none⟩ = some (.slice b1 m1 d1) ∧ x4.cell? ⟨zc, 2, none⟩ = some (.slice b2 m2 d2) ∧ x4.cell? ⟨zc, 3, none⟩ = some (.slice b3 m3 d3))) := hS
  clear hS dw HP4
  refine wp_region_held_drew (S := (fun w' : World => (w'.cell? ⟨w.heap.size, 0, none⟩ = some (.string code) ∧ w'.cell? ⟨w.heap.size, 1, none⟩ = some (.slice a1 l1 c1) ∧ w'.cell? ⟨w.heap.size, 2, none⟩ = some (.slice a2 l2 c2) ∧ w'.cell? ⟨w.heap.size, 3, none⟩ = some (.slice a3 l3 c3) ∧ w'.cell? ⟨zc, 0, none⟩ = some (.string code) ∧ w'.cell? ⟨zc, 1, none⟩ = some (.slice b1 m1 d1) ∧ w'.cell? ⟨zc, 2, none⟩ = some (.slice b2 m2 d2) ∧ w'.cell? ⟨zc, 3, none⟩ = some (.slice b3 m3 d3)))) (by kernel_rfl) HS.out (fun hHeld => ?_)
  refine wpAnyH_take (i := 0) (v := ?_) (get0 _ _) (by kernel_rfl) (by kernel_rfl) (by kernel_rfl) (fun _ _ _ h => h) (Or.inl ⟨by rfl, ?_⟩) (by assumption) ?_
  rotate_left
  · (intro w hSw; (try dsimp only at hSw); go_simp <;> with_reducible rfl)
  simp only [Act.put, List.setIfInBounds_toArray, List.set_cons_zero, List.set_cons_succ]
  refine wpAnyH_take (i := 1) (v := ?_) (get1 (get0 _ _)) (by kernel_rfl) (by kernel_rfl) (by kernel_rfl) (fun _ _ _ h => h) (Or.inl ⟨by rfl, ?_⟩) (by assumption) ?_
  rotate_left
  · (intro w hSw; (try dsimp only at hSw); go_simp <;> with_reducible rfl)
  simp only [Act.put, List.setIfInBounds_toArray, List.set_cons_zero, List.set_cons_succ]
  refine wpAnyH_take (i := 2) (v := ?_) (get1 (get1 (get0 _ _))) (by kernel_rfl) (by kernel_rfl) (by kernel_rfl) (fun _ _ _ h => h) (Or.inl ⟨by rfl, ?_⟩) (by assumption) ?_
  rotate_left
  · (intro w hSw; (try dsimp only at hSw); go_simp <;> with_reducible rfl)
  simp only [Act.put, List.setIfInBounds_toArray, List.set_cons_zero, List.set_cons_succ]
  refine wpAnyH_take (i := 3) (v := ?_) (get1 (get1 (get1 (get0 _ _)))) (by kernel_rfl) (by kernel_rfl) (by kernel_rfl) (fun _ _ _ h => h) (Or.inl ⟨by rfl, ?_⟩) (by assumption) ?_
  rotate_left
  · (intro w hSw; (try dsimp only at hSw); go_simp <;> with_reducible rfl)
  simp only [Act.put, List.setIfInBounds_toArray, List.set_cons_zero, List.set_cons_succ]
  refine wpAnyH_take (i := 4) (v := ?_) (get1 (get1 (get1 (get1 (get0 _ _))))) (by kernel_rfl) (by kernel_rfl) (by kernel_rfl) (fun _ _ _ h => h) (Or.inl ⟨by rfl, ?_⟩) (by assumption) ?_
  rotate_left
  · (intro w hSw; (try dsimp only at hSw); go_simp <;> with_reducible rfl)
  simp only [Act.put, List.setIfInBounds_toArray, List.set_cons_zero, List.set_cons_succ]
  refine wpAnyH_take (i := 5) (v := ?_) (get1 (get1 (get1 (get1 (get1 (get0 _ _)))))) (by kernel_rfl) (by kernel_rfl) (by kernel_rfl) (fun _ _ _ h => h) (Or.inl ⟨by rfl, ?_⟩) (by assumption) ?_
  rotate_left
  · (intro w hSw; (try dsimp only at hSw); go_simp <;> with_reducible rfl)
  simp only [Act.put, List.setIfInBounds_toArray, List.set_cons_zero, List.set_cons_succ]
  refine wpAnyH_take (i := 6) (v := ?_) (get1 (get1 (get1 (get1 (get1 (get1 (get0 _ _))))))) (by kernel_rfl) (by kernel_rfl) (by kernel_rfl) (fun _ _ _ h => h) (Or.inl ⟨by rfl, ?_⟩) (by assumption) ?_
  rotate_left
  · (intro w hSw; (try dsimp only at hSw); go_simp <;> with_reducible rfl)
  simp only [Act.put, List.setIfInBounds_toArray, List.set_cons_zero, List.set_cons_succ]
  refine wpAnyH_take (i := 7) (v := ?_) (get1 (get1 (get1 (get1 (get1 (get1 (get1 (get0 _ _)))))))) (by kernel_rfl) (by kernel_rfl) (by kernel_rfl) (fun _ _ _ h => h) (Or.inl ⟨by rfl, ?_⟩) (by assumption) ?_
  rotate_left
  · (intro w hSw; (try dsimp only at hSw); go_simp <;> with_reducible rfl)
  simp only [Act.put, List.setIfInBounds_toArray, List.set_cons_zero, List.set_cons_succ]
  refine wpAnyH_take (i := 8) (v := ?_) (get1 (get1 (get1 (get1 (get1 (get1 (get1 (get1 (get0 _ _))))))))) (by kernel_rfl) (by kernel_rfl) (by kernel_rfl) (fun _ _ _ h => h) (Or.inl ⟨by rfl, ?_⟩) (by assumption) ?_
  rotate_left
  · (intro w hSw; (try dsimp only at hSw); go_simp <;> with_reducible rfl)
  simp only [Act.put, List.setIfInBounds_toArray, List.set_cons_zero, List.set_cons_succ]
  refine wpAnyH_take (i := 9) (v := ?_) (get1 (get1 (get1 (get1 (get1 (get1 (get1 (get1 (get1 (get0 _ _)))))))))) (by kernel_rfl) (by kernel_rfl) (by kernel_rfl) (fun _ _ _ h => h) (Or.inl ⟨by rfl, ?_⟩) (by assumption) ?_
  rotate_left
  · (intro w hSw; (try dsimp only at hSw); go_simp <;> with_reducible rfl)
  simp only [Act.put, List.setIfInBounds_toArray, List.set_cons_zero, List.set_cons_succ]
  refine wpAnyH_take (i := 11) (v := ?_) (get1 (get1 (get1 (get1 (get1 (get1 (get1 (get1 (get1 (get1 (get1 (get0 _ _)))))))))))) (by kernel_rfl) (by kernel_rfl) (by kernel_rfl) (fun _ _ _ h => h) (Or.inl ⟨by rfl, ?_⟩) (by assumption) ?_
  rotate_left
  · (intro w hSw; (try dsimp only at hSw); go_simp <;> with_reducible rfl)
  simp only [Act.put, List.setIfInBounds_toArray, List.set_cons_zero, List.set_cons_succ]
  refine wpAnyH_ready (rs := [10]) (by kernel_rfl) (by simp) ?_
  refine AllReadyH.cons (get1 (get1 (get1 (get1 (get1 (get1 (get1 (get1 (get1 (get1 (get0 _ _))))))))))) (fun K hK => ?_) AllReadyH.nil
  go_simp
  refine (check_any HPD.out).mono ?_
  rintro e y1 ⟨rfl, hy⟩
  rw [HEZ.out]
  have HPD : Hid _ := HPD.out.below hy
  have HVD : Hid _ := HVD.out.below hy
  have HXD : Hid (Below w.heap.size w y1) := HXD.out.trans (hy.mono HXD.out.size)
  try go_wp2_with fail
  refine hK.out _ _ ⟨cell_thru hy hHeld.1, cell_thru hy hHeld.2.1, cell_thru hy hHeld.2.2.1, cell_thru hy hHeld.2.2.2.1, cell_thru hy hHeld.2.2.2.2.1, cell_thru hy hHeld.2.2.2.2.2.1, cell_thru hy hHeld.2.2.2.2.2.2.1, cell_thru hy hHeld.2.2.2.2.2.2.2⟩ (fun hHeld => ?_)
  clear hK K hy
  try simp only [Act.put, List.setIfInBounds_toArray, List.set_cons_zero, List.set_cons_succ]
  refine wpAnyH_ready (rs := [12]) (by kernel_rfl) (by simp) ?_
  refine AllReadyH.cons (get1 (get1 (get1 (get1 (get1 (get1 (get1 (get1 (get1 (get1 (get1 (get1 (get0 _ _))))))))))))) (fun K hK => ?_) AllReadyH.nil
  go_simp
  refine (rcheck_any HVD.out).mono ?_
  rintro e y2 ⟨rfl, hy⟩
  rw [HEZ.out]
  have HPD : Hid _ := HPD.out.below hy
  have HVD : Hid _ := HVD.out.below hy
  have HXD : Hid (Below w.heap.size w y2) := HXD.out.trans (hy.mono HXD.out.size)
  try go_wp2_with fail
  refine hK.out _ _ ⟨cell_thru hy hHeld.1, cell_thru hy hHeld.2.1, cell_thru hy hHeld.2.2.1, cell_thru hy hHeld.2.2.2.1, cell_thru hy hHeld.2.2.2.2.1, cell_thru hy hHeld.2.2.2.2.2.1, cell_thru hy hHeld.2.2.2.2.2.2.1, cell_thru hy hHeld.2.2.2.2.2.2.2⟩ (fun hHeld => ?_)
  clear hK K hy
  try simp only [Act.put, List.setIfInBounds_toArray, List.set_cons_zero, List.set_cons_succ]
  refine wpAnyH_take (i := 13) (v := ?_) (get1 (get1 (get1 (get1 (get1 (get1 (get1 (get1 (get1 (get1 (get1 (get1 (get1 (get0 _ _)))))))))))))) (by kernel_rfl) (by kernel_rfl) (by kernel_rfl) (fun _ _ _ h => h) (Or.inl ⟨by rfl, ?_⟩) (by assumption) ?_
  rotate_left
  · (intro w hSw; (try dsimp only at hSw); go_simp <;> with_reducible rfl)
  simp only [Act.put, List.setIfInBounds_toArray, List.set_cons_zero, List.set_cons_succ]
  refine wpAnyH_take (i := 14) (v := ?_) (get1 (get1 (get1 (get1 (get1 (get1 (get1 (get1 (get1 (get1 (get1 (get1 (get1 (get1 (get0 _ _))))))))))))))) (by kernel_rfl) (by kernel_rfl) (by kernel_rfl) (fun _ _ _ h => h) (Or.inl ⟨by rfl, ?_⟩) (by assumption) ?_
  rotate_left
  · (intro w hSw; (try dsimp only at hSw); go_simp <;> with_reducible rfl)
  simp only [Act.put, List.setIfInBounds_toArray, List.set_cons_zero, List.set_cons_succ]
  refine wpAnyH_take (i := 15) (v := ?_) (get1 (get1 (get1 (get1 (get1 (get1 (get1 (get1 (get1 (get1 (get1 (get1 (get1 (get1 (get1 (get0 _ _)))))))))))))))) (by kernel_rfl) (by kernel_rfl) (by kernel_rfl) (fun _ _ _ h => h) (Or.inl ⟨by rfl, ?_⟩) (by assumption) ?_
  rotate_left
  · (intro w hSw; (try dsimp only at hSw); go_simp <;> with_reducible rfl)
  simp only [Act.put, List.setIfInBounds_toArray, List.set_cons_zero, List.set_cons_succ]
  refine wpAnyH_take (i := 16) (v := ?_) (get1 (get1 (get1 (get1 (get1 (get1 (get1 (get1 (get1 (get1 (get1 (get1 (get1 (get1 (get1 (get1 (get0 _ _))))))))))))))))) (by kernel_rfl) (by kernel_rfl) (by kernel_rfl) (fun _ _ _ h => h) (Or.inl ⟨by rfl, ?_⟩) (by assumption) ?_
  rotate_left
  · (intro w hSw; (try dsimp only at hSw); go_simp <;> with_reducible rfl)
  simp only [Act.put, List.setIfInBounds_toArray, List.set_cons_zero, List.set_cons_succ]
  refine wpAnyH_take (i := 17) (v := ?_) (get1 (get1 (get1 (get1 (get1 (get1 (get1 (get1 (get1 (get1 (get1 (get1 (get1 (get1 (get1 (get1 (get1 (get0 _ _)))))))))))))))))) (by kernel_rfl) (by kernel_rfl) (by kernel_rfl) (fun _ _ _ h => h) (Or.inl ⟨by rfl, ?_⟩) (by assumption) ?_
  rotate_left
  · (intro w hSw; (try dsimp only at hSw); go_simp <;> with_reducible rfl)
  simp only [Act.put, List.setIfInBounds_toArray, List.set_cons_zero, List.set_cons_succ]
  refine wpAnyH_ready (rs := [18]) (by kernel_rfl) (by simp) ?_
  refine AllReadyH.cons (get1 (get1 (get1 (get1 (get1 (get1 (get1 (get1 (get1 (get1 (get1 (get1 (get1 (get1 (get1 (get1 (get1 (get1 (get0 _ _))))))))))))))))))) (fun K hK => ?_) AllReadyH.nil
  go_simp
  refine (same_any HPD.out HVD.out HLM.out.1 HLM.out.2.1 HLM.out.2.2 true (by simp)).mono ?_
  rintro e y3 ⟨rfl, hy⟩
  have HPD : Hid _ := HPD.out.below hy
  have HVD : Hid _ := HVD.out.below hy
  have HXD : Hid (Below w.heap.size w y3) := HXD.out.trans (hy.mono HXD.out.size)
  try go_wp2_with fail
  refine hK.out _ _ ⟨cell_thru hy hHeld.1, cell_thru hy hHeld.2.1, cell_thru hy hHeld.2.2.1, cell_thru hy hHeld.2.2.2.1, cell_thru hy hHeld.2.2.2.2.1, cell_thru hy hHeld.2.2.2.2.2.1, cell_thru hy hHeld.2.2.2.2.2.2.1, cell_thru hy hHeld.2.2.2.2.2.2.2⟩ (fun hHeld => ?_)
  clear hK K hy
  try simp only [Act.put, List.setIfInBounds_toArray, List.set_cons_zero, List.set_cons_succ]
  refine wpAnyH_take (i := 19) (v := ?_) (get1 (get1 (get1 (get1 (get1 (get1 (get1 (get1 (get1 (get1 (get1 (get1 (get1 (get1 (get1 (get1 (get1 (get1 (get1 (get0 _ _)))))))))))))))))))) (by kernel_rfl) (by kernel_rfl) (by kernel_rfl) (fun _ _ _ h => h) (Or.inl ⟨by rfl, ?_⟩) (by assumption) ?_
  rotate_left
  · (intro w hSw; (try dsimp only at hSw); go_simp <;> with_reducible rfl)
  simp only [Act.put, List.setIfInBounds_toArray, List.set_cons_zero, List.set_cons_succ]
  refine wpAnyH_take (i := 20) (v := ?_) (get1 (get1 (get1 (get1 (get1 (get1 (get1 (get1 (get1 (get1 (get1 (get1 (get1 (get1 (get1 (get1 (get1 (get1 (get1 (get1 (get0 _ _))))))))))))))))))))) (by kernel_rfl) (by kernel_rfl) (by kernel_rfl) (fun _ _ _ h => h) (Or.inl ⟨by rfl, ?_⟩) (by assumption) ?_
  rotate_left
  · (intro w hSw; (try dsimp only at hSw); go_simp <;> with_reducible rfl)
  simp only [Act.put, List.setIfInBounds_toArray, List.set_cons_zero, List.set_cons_succ]
  refine wpAnyH_ready (rs := [21]) (by kernel_rfl) (by simp) ?_
  refine AllReadyH.cons (get1 (get1 (get1 (get1 (get1 (get1 (get1 (get1 (get1 (get1 (get1 (get1 (get1 (get1 (get1 (get1 (get1 (get1 (get1 (get1 (get1 (get0 _ _)))))))))))))))))))))) (fun K hK => ?_) AllReadyH.nil
  go_simp
  refine (live_any _).mono ?_
  rintro e y4 ⟨rfl, hy⟩
  have HPD : Hid _ := HPD.out.below hy
  have HVD : Hid _ := HVD.out.below hy
  have HXD : Hid (Below w.heap.size w y4) := HXD.out.trans (hy.mono HXD.out.size)
  try go_wp2_with fail
  refine hK.out _ _ ⟨cell_thru hy hHeld.1, cell_thru hy hHeld.2.1, cell_thru hy hHeld.2.2.1, cell_thru hy hHeld.2.2.2.1, cell_thru hy hHeld.2.2.2.2.1, cell_thru hy hHeld.2.2.2.2.2.1, cell_thru hy hHeld.2.2.2.2.2.2.1, cell_thru hy hHeld.2.2.2.2.2.2.2⟩ (fun hHeld => ?_)
  clear hK K hy
  try simp only [Act.put, List.setIfInBounds_toArray, List.set_cons_zero, List.set_cons_succ]
  refine wpAnyH_take (i := 22) (v := ?_) (get1 (get1 (get1 (get1 (get1 (get1 (get1 (get1 (get1 (get1 (get1 (get1 (get1 (get1 (get1 (get1 (get1 (get1 (get1 (get1 (get1 (get1 (get0 _ _))))))))))))))))))))))) (by kernel_rfl) (by kernel_rfl) (by kernel_rfl) (fun _ _ _ h => h) (Or.inl ⟨by rfl, ?_⟩) (by assumption) ?_
  rotate_left
  · (intro w hSw; (try dsimp only at hSw); go_simp <;> with_reducible rfl)
  simp only [Act.put, List.setIfInBounds_toArray, List.set_cons_zero, List.set_cons_succ]
  refine wpAnyH_take (i := 23) (v := ?_) (get1 (get1 (get1 (get1 (get1 (get1 (get1 (get1 (get1 (get1 (get1 (get1 (get1 (get1 (get1 (get1 (get1 (get1 (get1 (get1 (get1 (get1 (get1 (get0 _ _)))))))))))))))))))))))) (by kernel_rfl) (by kernel_rfl) (by kernel_rfl) (fun _ _ _ h => h) (Or.inl ⟨by rfl, ?_⟩) (by assumption) ?_
  rotate_left
  · (intro w hSw; (try dsimp only at hSw); go_simp <;> with_reducible rfl)
  simp only [Act.put, List.setIfInBounds_toArray, List.set_cons_zero, List.set_cons_succ]
  refine wpAnyH_done (by kernel_rfl) ?_ _
  clear hHeld
  go_wp2
  go_ret
  exact ⟨rfl, HXD.out⟩

end Go.Proofs.Ytcfdfnghaigkjaa

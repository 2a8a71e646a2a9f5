/- What the law ImageWrites comes to. (Written by gen_imwrites.py.) -/
import Derived.Test.YtmplnkfjaeegdaaDoorPRefK
import Derived.Test.YtmplnkfjaeegdaaDoorPImC
namespace Go.Proofs.YtmplnkfjaeegdaaDoor
set_option maxRecDepth 100000
open Go.RowKit Go.Maps Go.Lib
set_option linter.unusedVariables false
set_option linter.unusedSimpArgs false

structure StrsV (w : World) (a : Option Addr) (len : Nat) (zs : List ByteArray) : Prop where
  count : zs.length = len
  cells : len = 0 ∨ ∃ b off, a = some ⟨b, off, none⟩ ∧ ∀ i, i < len → w.cell? ⟨b, off + i, none⟩ = some (.string (zs.getD i ByteArray.empty))
theorem StrsV.below {w w1 : World} {a : Option Addr} {len : Nat} {zs : List ByteArray} (h : StrsV w a len zs) (hb : Below w.heap.size w w1) : StrsV w1 a len zs := by
  refine ⟨h.count, ?_⟩
  rcases h.cells with h0 | ⟨b, off, ha, hc⟩
  · exact .inl h0
  · exact .inr ⟨b, off, ha, fun i hi => cell_thru hb (hc i hi)⟩
theorem strs_own {w : World} {B : Nat} {e : TypeId} {a : Option Addr} {n c : Nat} {zs : List ByteArray} (hn : zs.length = n) (h : w.ownsRow B e 1 (.slice a n c) n (zs.flatMap strC)) : StrsV w a n zs := by
  obtain ⟨a', c', e, n1, k1⟩ := row_at (m := 1) (f := strC) ByteArray.empty (fun _ => rfl) h hn
  simp at e
  obtain ⟨rfl, rfl⟩ := e
  refine ⟨hn, ?_⟩
  rcases k1 with h0 | ⟨b, off, ha, hk⟩
  · exact .inl h0
  · exact .inr ⟨b, off, ha, fun i hi => by have := hk i hi 0 _ (by decide) rfl; simpa using this⟩

set_option maxHeartbeats 16000000 in
theorem iwrites_any {w : World} {v : Value} {m : ImgD} (h : ImgV w v m) (hl : m.data.length * 8 ≤ 140737488355328) (ht : Tab w) :
    Calls Tryd.prog 3 #[v] w fun e w' => e = .returned (.bool true) ∧ Below w.heap.size w w' := by
  have HV : Hid _ := h
  have HL : Hid _ := hl
  have HTB : Hid _ := ht
  obtain ⟨a1, l1, c1, a2, l2, c2, rfl, -⟩ := h.form
  obtain ⟨code, hcode⟩ : ∃ c, m.code = c := ⟨_, rfl⟩
  rw [hcode] at HV ⊢
  have HCO : Hid _ := hcode
  obtain ⟨rz, hrz⟩ : ∃ t, (if m.may = true then strOfNums (formI m) else ByteArray.empty) = t := ⟨_, rfl⟩
  obtain ⟨ez, hez⟩ : ∃ z : Int, (if m.may = true then 0 else 1) = z := ⟨_, rfl⟩
  obtain ⟨kz, hkz⟩ : ∃ z : Int, (if m.may = true then 0 else 9) = z := ⟨_, rfl⟩
  have HRZ : Hid _ := hrz
  have HEZ : Hid _ := hez
  have HKZ : Hid _ := hkz
  clear h hcode hl hrz hez hkz ht
  obtain ⟨W2, hW2⟩ : ∃ W2, w.alloc (.cells #[.string code, .slice a1 l1 c1, .slice a2 l2 c2] 25) = W2 := ⟨_, rfl⟩
  have HW : Hid (Below w.heap.size w W2) := by subst hW2; exact bl_one _ _
  have CV : Hid (Cells W2 w.heap.size [.string code, .slice a1 l1 c1, .slice a2 l2 c2]) := fun j u hu => by subst hW2; exact cell_last rfl (by simpa using hu)
  have HT : Hid (∀ {x : World}, Below W2.heap.size W2 x → Below w.heap.size w x) := fun hx => HW.out.trans (hx.mono HW.out.size)
  have r0 : W2.cell? ⟨w.heap.size, 0, none⟩ = _ := CV.out 0 _ rfl
  have r1 : W2.cell? ⟨w.heap.size, 1, none⟩ = _ := CV.out 1 _ rfl
  have r2 : W2.cell? ⟨w.heap.size, 2, none⟩ = _ := CV.out 2 _ rfl
  go_enter Tryd.func3, Tryd.ntmps3
  go_wp2_with fail
  refine (small_any (HV.out.below HW.out)).mono ?_
  rintro e x1 ⟨rfl, hx1⟩
  clear r0 r1 r2
  cases hs1 : decide (m.syms.length ≤ 200 ∧ m.code.size ≤ 4000) with
  | false =>
    have HX : Hid _ := HT.out hx1
    clear hs1 hx1
    go_wp2_with fail
    refine (live_any _ (Tab.below HTB.out HX.out)).mono ?_
    rintro e y ⟨rfl, hb⟩
    go_wp2
    go_ret
    exact ⟨rfl, HX.out.trans (hb.mono HX.out.size)⟩
  | true =>
  have HSL : Hid (m.syms.length ≤ 200) := (of_decide_eq_true hs1).1
  have HX1 : Hid _ := hx1
  have r0 := cell_thru hx1 (CV.out 0 _ rfl)
  have r1 := cell_thru hx1 (CV.out 1 _ rfl)
  have r2 := cell_thru hx1 (CV.out 2 _ rfl)
  clear hs1 hx1
  go_wp2_with fail
  refine (copyI_any (HV.out.below (HT.out HX1.out)) ⟨HL.out, by have := HSL.out; omega⟩).mono ?_
  rintro e x2 ⟨⟨v', rfl, hv'⟩, hx2⟩
  have HP : Hid _ := hv'
  obtain ⟨b1, m1, d1, b2, m2, d2, rfl, -⟩ := hv'.form
  rw [HCO.out] at HP ⊢
  have HX2 : Hid (Below W2.heap.size W2 x2) := HX1.out.trans (hx2.mono HX1.out.size)
  clear hx2 hv' r0 r1 r2 HX1
  go_wp2_with fail
  obtain ⟨X2, hX2⟩ : ∃ X, x2.alloc (.cells #[.string code, .slice b1 m1 d1, .slice b2 m2 d2] 25) = X := ⟨_, rfl⟩
  have hbX : Below x2.heap.size x2 X2 := by subst hX2; exact bl_one _ _
  have HXX : Hid (Below W2.heap.size W2 X2) := HX2.out.trans (hbX.mono HX2.out.size)
  have CP : Hid (Cells X2 x2.heap.size [.string code, .slice b1 m1 d1, .slice b2 m2 d2]) := fun j u hu => by subst hX2; exact cell_last rfl (by simpa using hu)
  have CVX : Hid (Cells X2 w.heap.size [.string code, .slice a1 l1 c1, .slice a2 l2 c2]) := fun j u hu => cell_thru HXX.out (CV.out j u hu)
  have HPX : Hid _ := HP.out.below hbX
  rw [hX2]
  clear hX2 hbX HP HX2
  generalize x2.heap.size = zc at *
  refine (iwrite_any HPX.out (Tab.below HTB.out (HT.out HXX.out))).mono ?_
  rintro e x3 ⟨rfl, hx3⟩
  rw [HRZ.out, HEZ.out]
  have HP3 : Hid _ := HPX.out.below hx3
  have HX3 : Hid (Below W2.heap.size W2 x3) := HXX.out.trans (hx3.mono HXX.out.size)
  have CP3 : Hid (Cells x3 zc [.string code, .slice b1 m1 d1, .slice b2 m2 d2]) := fun j u hu => cell_thru hx3 (CP.out j u hu)
  have CV3 : Hid (Cells x3 w.heap.size [.string code, .slice a1 l1 c1, .slice a2 l2 c2]) := fun j u hu => cell_thru hx3 (CVX.out j u hu)
  have r0 := CV3.out 0 _ rfl
  have r1 := CV3.out 1 _ rfl
  have r2 := CV3.out 2 _ rfl
  clear hx3 HPX HXX CP CVX
  go_wp2_with fail
  refine (rwriteI_any (HV.out.below (HT.out HX3.out))).mono ?_
  rintro e x4 ⟨rfl, hx4⟩
  rw [show (if m.may = true then strOfNums (formI m) else ({ data := #[] } : ByteArray)) = rz from HRZ.out, HEZ.out]
  have HP4 : Hid _ := HP3.out.below hx4
  have HX4 : Hid (Below W2.heap.size W2 x4) := HX3.out.trans (hx4.mono HX3.out.size)
  have CP4 : Hid (Cells x4 zc [.string code, .slice b1 m1 d1, .slice b2 m2 d2]) := fun j u hu => cell_thru hx4 (CP3.out j u hu)
  have CV4 : Hid (Cells x4 w.heap.size [.string code, .slice a1 l1 c1, .slice a2 l2 c2]) := fun j u hu => cell_thru hx4 (CV3.out j u hu)
  clear hx4 HP3 HX3 CP3 CV3 r0 r1 r2
  have r0 := CP4.out 0 _ rfl
  have r1 := CP4.out 1 _ rfl
  have r2 := CP4.out 2 _ rfl
  go_wp2_with fail
  refine (threads_any HP4.out (by have := HSL.out; omega)).mono ?_
  rintro e x5 ⟨⟨tv, rfl, ho5⟩, hx5⟩
  obtain ⟨ta, tc, rfl⟩ := own_formI ho5
  have HS5 : Hid _ := strs_own rfl ho5
  have HP5 : Hid _ := HP4.out.below hx5
  have HX5 : Hid (Below W2.heap.size W2 x5) := HX4.out.trans (hx5.mono HX4.out.size)
  have CP5 : Hid (Cells x5 zc [.string code, .slice b1 m1 d1, .slice b2 m2 d2]) := fun j u hu => cell_thru hx5 (CP4.out j u hu)
  have CV5 : Hid (Cells x5 w.heap.size [.string code, .slice a1 l1 c1, .slice a2 l2 c2]) := fun j u hu => cell_thru hx5 (CV4.out j u hu)
  clear hx5 ho5 HP4 HX4 CP4 CV4 r0 r1 r2
  have r0 := CV5.out 0 _ rfl
  have r1 := CV5.out 1 _ rfl
  have r2 := CV5.out 2 _ rfl
  go_wp2_with fail
  refine (rthreads_any (HV.out.below (HT.out HX5.out)) (by have := HSL.out; omega)).mono ?_
  rintro e x6 ⟨⟨uv, rfl, ho6⟩, hx6⟩
  obtain ⟨ua, uc, rfl⟩ := own_formI ho6
  have HU6 : Hid _ := strs_own rfl ho6
  have HS6 : Hid _ := HS5.out.below hx6
  have HP6 : Hid _ := HP5.out.below hx6
  have HX6 : Hid (Below W2.heap.size W2 x6) := HX5.out.trans (hx6.mono HX5.out.size)
  have CP6 : Hid (Cells x6 zc [.string code, .slice b1 m1 d1, .slice b2 m2 d2]) := fun j u hu => cell_thru hx6 (CP5.out j u hu)
  have CV6 : Hid (Cells x6 w.heap.size [.string code, .slice a1 l1 c1, .slice a2 l2 c2]) := fun j u hu => cell_thru hx6 (CV5.out j u hu)
  have htl := thrs_len m.syms
  obtain ⟨TS, hTS⟩ : ∃ TS, thrs m.syms = TS := ⟨_, rfl⟩
  rw [hTS] at HS6 HU6 htl ⊢
  obtain ⟨tn, htn⟩ : ∃ tn, TS.length = tn := ⟨_, rfl⟩
  rw [htn] at HS6 HU6 htl ⊢
  have htm : tn ≤ 200 := Nat.le_trans htl HSL.out
  clear hx6 ho6 HP5 HX5 CP5 CV5 r0 r1 r2 HS5 htl hTS htn
  have hS : (x6.cell? ⟨w.heap.size, 0, none⟩ = some (.string code) ∧ x6.cell? ⟨w.heap.size, 1, none⟩ = some (.slice a1 l1 c1) ∧ x6.cell? ⟨w.heap.size, 2, none⟩ = some (.slice a2 l2 c2) ∧ x6.cell? ⟨zc, 0, none⟩ = some (.string code) ∧ x6.cell? ⟨zc, 1, none⟩ = some (.slice b1 m1 d1) ∧ x6.cell? ⟨zc, 2, none⟩ = some (.slice b2 m2 d2)) := ⟨CV6.out 0 _ rfl, CV6.out 1 _ rfl, CV6.out 2 _ rfl, CP6.out 0 _ rfl, CP6.out 1 _ rfl, CP6.out 2 _ rfl⟩
  go_wp2_with fail
  have dw : Below x6.heap.size x6 x6.drew := (Below.refl _ _).drew
  have HPD : Hid _ := HP6.out.below dw
  have HVD : Hid _ := (HV.out.below (HT.out HX6.out)).below dw
  have HSD : Hid _ := HS6.out.below dw
  have HUD : Hid _ := HU6.out.below dw
  have HXD : Hid (Below w.heap.size w x6.drew) := (HT.out HX6.out).drew
  have HS : Hid (x6.cell? ⟨w.heap.size, 0, none⟩ = some (.string code) ∧ x6.cell? ⟨w.heap.size, 1, none⟩ = some (.slice a1 l1 c1) ∧ x6.cell? ⟨w.heap.size, 2, none⟩ = some (.slice a2 l2 c2) ∧ x6.cell? ⟨zc, 0, none⟩ = some (.string code) ∧ x6.cell? ⟨zc, 1, none⟩ = some (.slice b1 m1 d1) ∧ x6.cell? ⟨zc, 2, none⟩ = some (.slice b2 m2 d2)) := hS
  clear hS dw HP6 HS6 HU6 CP6 CV6
  refine wp_region_held_drew (S := (fun w' : World => (w'.cell? ⟨w.heap.size, 0, none⟩ = some (.string code) ∧ w'.cell? ⟨w.heap.size, 1, none⟩ = some (.slice a1 l1 c1) ∧ w'.cell? ⟨w.heap.size, 2, none⟩ = some (.slice a2 l2 c2) ∧ w'.cell? ⟨zc, 0, none⟩ = some (.string code) ∧ w'.cell? ⟨zc, 1, none⟩ = some (.slice b1 m1 d1) ∧ w'.cell? ⟨zc, 2, none⟩ = some (.slice b2 m2 d2)))) (by kernel_rfl) HS.out (fun hHeld => ?_)
  refine wpAnyH_take (i := 0) (v := ?_) (get0 _ _) (by kernel_rfl) (by kernel_rfl) (by kernel_rfl) (fun _ _ _ h => h) (Or.inl ⟨by rfl, ?_⟩) (by assumption) ?_
  rotate_left
  · (intro w hSw; (try dsimp only at hSw); go_simp <;> with_reducible rfl)
  simp only [Act.put, List.setIfInBounds_toArray, List.set_cons_zero, List.set_cons_succ]
  refine wpAnyH_take (i := 1) (v := ?_) (get1 (get0 _ _)) (by kernel_rfl) (by kernel_rfl) (by kernel_rfl) (fun _ _ _ h => h) (Or.inl ⟨by rfl, ?_⟩) (by assumption) ?_
  rotate_left
  · (intro w hSw; (try dsimp only at hSw); go_simp <;> with_reducible rfl)
  simp only [Act.put, List.setIfInBounds_toArray, List.set_cons_zero, List.set_cons_succ]
  refine wpAnyH_take (i := 2) (v := ?_) (get1 (get1 (get0 _ _))) (by kernel_rfl) (by kernel_rfl) (by kernel_rfl) (fun _ _ _ h => h) (Or.inl ⟨by rfl, ?_⟩) (by assumption) ?_
  rotate_left
  · (intro w hSw; (try dsimp only at hSw); go_simp <;> with_reducible rfl)
  simp only [Act.put, List.setIfInBounds_toArray, List.set_cons_zero, List.set_cons_succ]
  refine wpAnyH_take (i := 3) (v := ?_) (get1 (get1 (get1 (get0 _ _)))) (by kernel_rfl) (by kernel_rfl) (by kernel_rfl) (fun _ _ _ h => h) (Or.inl ⟨by rfl, ?_⟩) (by assumption) ?_
  rotate_left
  · (intro w hSw; (try dsimp only at hSw); go_simp <;> with_reducible rfl)
  simp only [Act.put, List.setIfInBounds_toArray, List.set_cons_zero, List.set_cons_succ]
  refine wpAnyH_take (i := 4) (v := ?_) (get1 (get1 (get1 (get1 (get0 _ _))))) (by kernel_rfl) (by kernel_rfl) (by kernel_rfl) (fun _ _ _ h => h) (Or.inl ⟨by rfl, ?_⟩) (by assumption) ?_
  rotate_left
  · (intro w hSw; (try dsimp only at hSw); go_simp <;> with_reducible rfl)
  simp only [Act.put, List.setIfInBounds_toArray, List.set_cons_zero, List.set_cons_succ]
  refine wpAnyH_take (i := 5) (v := ?_) (get1 (get1 (get1 (get1 (get1 (get0 _ _)))))) (by kernel_rfl) (by kernel_rfl) (by kernel_rfl) (fun _ _ _ h => h) (Or.inl ⟨by rfl, ?_⟩) (by assumption) ?_
  rotate_left
  · (intro w hSw; (try dsimp only at hSw); go_simp <;> with_reducible rfl)
  simp only [Act.put, List.setIfInBounds_toArray, List.set_cons_zero, List.set_cons_succ]
  refine wpAnyH_take (i := 6) (v := ?_) (get1 (get1 (get1 (get1 (get1 (get1 (get0 _ _))))))) (by kernel_rfl) (by kernel_rfl) (by kernel_rfl) (fun _ _ _ h => h) (Or.inl ⟨by rfl, ?_⟩) (by assumption) ?_
  rotate_left
  · (intro w hSw; (try dsimp only at hSw); go_simp <;> with_reducible rfl)
  simp only [Act.put, List.setIfInBounds_toArray, List.set_cons_zero, List.set_cons_succ]
  refine wpAnyH_take (i := 7) (v := ?_) (get1 (get1 (get1 (get1 (get1 (get1 (get1 (get0 _ _)))))))) (by kernel_rfl) (by kernel_rfl) (by kernel_rfl) (fun _ _ _ h => h) (Or.inl ⟨by rfl, ?_⟩) (by assumption) ?_
  rotate_left
  · (intro w hSw; (try dsimp only at hSw); go_simp <;> with_reducible rfl)
  simp only [Act.put, List.setIfInBounds_toArray, List.set_cons_zero, List.set_cons_succ]
  refine wpAnyH_take (i := 8) (v := ?_) (get1 (get1 (get1 (get1 (get1 (get1 (get1 (get1 (get0 _ _))))))))) (by kernel_rfl) (by kernel_rfl) (by kernel_rfl) (fun _ _ _ h => h) (Or.inl ⟨by rfl, ?_⟩) (by assumption) ?_
  rotate_left
  · (intro w hSw; (try dsimp only at hSw); go_simp <;> with_reducible rfl)
  simp only [Act.put, List.setIfInBounds_toArray, List.set_cons_zero, List.set_cons_succ]
  refine wpAnyH_take (i := 9) (v := ?_) (get1 (get1 (get1 (get1 (get1 (get1 (get1 (get1 (get1 (get0 _ _)))))))))) (by kernel_rfl) (by kernel_rfl) (by kernel_rfl) (fun _ _ _ h => h) (Or.inl ⟨by rfl, ?_⟩) (by assumption) ?_
  rotate_left
  · (intro w hSw; (try dsimp only at hSw); go_simp <;> with_reducible rfl)
  simp only [Act.put, List.setIfInBounds_toArray, List.set_cons_zero, List.set_cons_succ]
  refine wpAnyH_take (i := 10) (v := ?_) (get1 (get1 (get1 (get1 (get1 (get1 (get1 (get1 (get1 (get1 (get0 _ _))))))))))) (by kernel_rfl) (by kernel_rfl) (by kernel_rfl) (fun _ _ _ h => h) (Or.inl ⟨by rfl, ?_⟩) (by assumption) ?_
  rotate_left
  · (intro w hSw; (try dsimp only at hSw); go_simp <;> with_reducible rfl)
  simp only [Act.put, List.setIfInBounds_toArray, List.set_cons_zero, List.set_cons_succ]
  refine wpAnyH_take (i := 11) (v := ?_) (get1 (get1 (get1 (get1 (get1 (get1 (get1 (get1 (get1 (get1 (get1 (get0 _ _)))))))))))) (by kernel_rfl) (by kernel_rfl) (by kernel_rfl) (fun _ _ _ h => h) (Or.inl ⟨by rfl, ?_⟩) (by assumption) ?_
  rotate_left
  · (intro w hSw; (try dsimp only at hSw); go_simp <;> with_reducible rfl)
  simp only [Act.put, List.setIfInBounds_toArray, List.set_cons_zero, List.set_cons_succ]
  refine wpAnyH_take (i := 12) (v := ?_) (get1 (get1 (get1 (get1 (get1 (get1 (get1 (get1 (get1 (get1 (get1 (get1 (get0 _ _))))))))))))) (by kernel_rfl) (by kernel_rfl) (by kernel_rfl) (fun _ _ _ h => h) (Or.inl ⟨by rfl, ?_⟩) (by assumption) ?_
  rotate_left
  · (intro w hSw; (try dsimp only at hSw); go_simp <;> with_reducible rfl)
  simp only [Act.put, List.setIfInBounds_toArray, List.set_cons_zero, List.set_cons_succ]
  refine wpAnyH_take (i := 13) (v := ?_) (get1 (get1 (get1 (get1 (get1 (get1 (get1 (get1 (get1 (get1 (get1 (get1 (get1 (get0 _ _)))))))))))))) (by kernel_rfl) (by kernel_rfl) (by kernel_rfl) (fun _ _ _ h => h) (Or.inl ⟨by rfl, ?_⟩) (by assumption) ?_
  rotate_left
  · (intro w hSw; (try dsimp only at hSw); go_simp <;> with_reducible rfl)
  simp only [Act.put, List.setIfInBounds_toArray, List.set_cons_zero, List.set_cons_succ]
  refine wpAnyH_take (i := 14) (v := ?_) (get1 (get1 (get1 (get1 (get1 (get1 (get1 (get1 (get1 (get1 (get1 (get1 (get1 (get1 (get0 _ _))))))))))))))) (by kernel_rfl) (by kernel_rfl) (by kernel_rfl) (fun _ _ _ h => h) (Or.inl ⟨by rfl, ?_⟩) (by assumption) ?_
  rotate_left
  · (intro w hSw; (try dsimp only at hSw); go_simp <;> with_reducible rfl)
  simp only [Act.put, List.setIfInBounds_toArray, List.set_cons_zero, List.set_cons_succ]
  refine wpAnyH_take (i := 15) (v := ?_) (get1 (get1 (get1 (get1 (get1 (get1 (get1 (get1 (get1 (get1 (get1 (get1 (get1 (get1 (get1 (get0 _ _)))))))))))))))) (by kernel_rfl) (by kernel_rfl) (by kernel_rfl) (fun _ _ _ h => h) (Or.inl ⟨by rfl, ?_⟩) (by assumption) ?_
  rotate_left
  · (intro w hSw; (try dsimp only at hSw); go_simp <;> with_reducible rfl)
  simp only [Act.put, List.setIfInBounds_toArray, List.set_cons_zero, List.set_cons_succ]
  refine wpAnyH_take (i := 16) (v := ?_) (get1 (get1 (get1 (get1 (get1 (get1 (get1 (get1 (get1 (get1 (get1 (get1 (get1 (get1 (get1 (get1 (get0 _ _))))))))))))))))) (by kernel_rfl) (by kernel_rfl) (by kernel_rfl) (fun _ _ _ h => h) (Or.inl ⟨by rfl, ?_⟩) (by assumption) ?_
  rotate_left
  · (intro w hSw; (try dsimp only at hSw); go_simp <;> with_reducible rfl)
  simp only [Act.put, List.setIfInBounds_toArray, List.set_cons_zero, List.set_cons_succ]
  refine wpAnyH_take (i := 18) (v := ?_) (get1 (get1 (get1 (get1 (get1 (get1 (get1 (get1 (get1 (get1 (get1 (get1 (get1 (get1 (get1 (get1 (get1 (get1 (get0 _ _))))))))))))))))))) (by kernel_rfl) (by kernel_rfl) (by kernel_rfl) (fun _ _ _ h => h) (Or.inl ⟨by rfl, ?_⟩) (by assumption) ?_
  rotate_left
  · (intro w hSw; (try dsimp only at hSw); go_simp <;> with_reducible rfl)
  simp only [Act.put, List.setIfInBounds_toArray, List.set_cons_zero, List.set_cons_succ]
  refine wpAnyH_ready (rs := [17]) (by kernel_rfl) (by simp) ?_
  refine AllReadyH.cons (get1 (get1 (get1 (get1 (get1 (get1 (get1 (get1 (get1 (get1 (get1 (get1 (get1 (get1 (get1 (get1 (get1 (get0 _ _)))))))))))))))))) (fun K hK => ?_) AllReadyH.nil
  go_simp
  refine (icheck_any HPD.out (Tab.below HTB.out HXD.out)).mono ?_
  rintro e y1 ⟨rfl, hy⟩
  rw [HKZ.out]
  have HPD : Hid _ := HPD.out.below hy
  have HVD : Hid _ := HVD.out.below hy
  have HSD : Hid _ := HSD.out.below hy
  have HUD : Hid _ := HUD.out.below hy
  have HXD : Hid (Below w.heap.size w y1) := HXD.out.trans (hy.mono HXD.out.size)
  try go_wp2_with fail
  refine hK.out _ _ ⟨cell_thru hy hHeld.1, cell_thru hy hHeld.2.1, cell_thru hy hHeld.2.2.1, cell_thru hy hHeld.2.2.2.1, cell_thru hy hHeld.2.2.2.2.1, cell_thru hy hHeld.2.2.2.2.2⟩ (fun hHeld => ?_)
  clear hK K hy
  try simp only [Act.put, List.setIfInBounds_toArray, List.set_cons_zero, List.set_cons_succ]
  refine wpAnyH_ready (rs := [19]) (by kernel_rfl) (by simp) ?_
  refine AllReadyH.cons (get1 (get1 (get1 (get1 (get1 (get1 (get1 (get1 (get1 (get1 (get1 (get1 (get1 (get1 (get1 (get1 (get1 (get1 (get1 (get0 _ _)))))))))))))))))))) (fun K hK => ?_) AllReadyH.nil
  go_simp
  refine (rcheckI_any HVD.out).mono ?_
  rintro e y2 ⟨rfl, hy⟩
  rw [HKZ.out]
  have HPD : Hid _ := HPD.out.below hy
  have HVD : Hid _ := HVD.out.below hy
  have HSD : Hid _ := HSD.out.below hy
  have HUD : Hid _ := HUD.out.below hy
  have HXD : Hid (Below w.heap.size w y2) := HXD.out.trans (hy.mono HXD.out.size)
  try go_wp2_with fail
  refine hK.out _ _ ⟨cell_thru hy hHeld.1, cell_thru hy hHeld.2.1, cell_thru hy hHeld.2.2.1, cell_thru hy hHeld.2.2.2.1, cell_thru hy hHeld.2.2.2.2.1, cell_thru hy hHeld.2.2.2.2.2⟩ (fun hHeld => ?_)
  clear hK K hy
  try simp only [Act.put, List.setIfInBounds_toArray, List.set_cons_zero, List.set_cons_succ]
  refine wpAnyH_take (i := 20) (v := ?_) (get1 (get1 (get1 (get1 (get1 (get1 (get1 (get1 (get1 (get1 (get1 (get1 (get1 (get1 (get1 (get1 (get1 (get1 (get1 (get1 (get0 _ _))))))))))))))))))))) (by kernel_rfl) (by kernel_rfl) (by kernel_rfl) (fun _ _ _ h => h) (Or.inl ⟨by rfl, ?_⟩) (by assumption) ?_
  rotate_left
  · (intro w hSw; (try dsimp only at hSw); go_simp <;> with_reducible rfl)
  simp only [Act.put, List.setIfInBounds_toArray, List.set_cons_zero, List.set_cons_succ]
  refine wpAnyH_take (i := 21) (v := ?_) (get1 (get1 (get1 (get1 (get1 (get1 (get1 (get1 (get1 (get1 (get1 (get1 (get1 (get1 (get1 (get1 (get1 (get1 (get1 (get1 (get1 (get0 _ _)))))))))))))))))))))) (by kernel_rfl) (by kernel_rfl) (by kernel_rfl) (fun _ _ _ h => h) (Or.inl ⟨by rfl, ?_⟩) (by assumption) ?_
  rotate_left
  · (intro w hSw; (try dsimp only at hSw); go_simp <;> with_reducible rfl)
  simp only [Act.put, List.setIfInBounds_toArray, List.set_cons_zero, List.set_cons_succ]
  refine wpAnyH_done (by kernel_rfl) ?_ _
  have CVY : Hid (Cells y2 w.heap.size [.string code, .slice a1 l1 c1, .slice a2 l2 c2]) := fun j u hu => by
    match j, hu with
    | 0, hu => cases hu; exact hHeld.1
    | 1, hu => cases hu; exact hHeld.2.1
    | 2, hu => cases hu; exact hHeld.2.2.1
    | j + 3, hu => simp at hu
  have CPY : Hid (Cells y2 zc [.string code, .slice b1 m1 d1, .slice b2 m2 d2]) := fun j u hu => by
    match j, hu with
    | 0, hu => cases hu; exact hHeld.2.2.2.1
    | 1, hu => cases hu; exact hHeld.2.2.2.2.1
    | 2, hu => cases hu; exact hHeld.2.2.2.2.2
    | j + 3, hu => simp at hu
  clear hHeld HS
  go_wp2_with fail
  go_loopg [10] tn (fun r iv wq => ∃ (k : Nat), iv = .int .i64 k ∧ k ≤ tn ∧ tn - k ≤ r ∧ Hid (Below y2.heap.size y2 wq))
  case atStart => exact ⟨0, rfl, Nat.zero_le _, by omega, Below.refl _ _⟩
  case round =>
    obtain ⟨k, rfl, hk, hr, HBL⟩ := hrel
    by_cases hlt : k < tn
    · rcases HSD.out.cells with h0 | ⟨b, off, hA, hcl⟩
      · omega
      rcases HUD.out.cells with h0 | ⟨b', off', hA', hcl'⟩
      · omega
      have q0 := cell_thru HBL.out (hcl k hlt)
      have q1 := cell_thru HBL.out (hcl' k hlt)
      obtain ⟨nm, hnm⟩ : ∃ nm, TS.getD k ByteArray.empty = nm := ⟨_, rfl⟩
      rw [hnm] at q0 q1
      cases hA
      cases hA'
      have hii : (k : Int) < tn := by omega
      have hin : 0 ≤ (k : Int) := by omega
      clear hcl hcl' hnm
      go_wp2_with fail
      go_quiet (fail)
      have HBQ : Hid (Below y2.heap.size y2 (wr.drewN nq)) := bl_drewN HBL.out nq
      go_wp2_with fail
      go_roundg (tn - (k + 1))
      case measure => omega
      case rel => exact ⟨k + 1, by first | rfl | (congr 1; omega), by omega, Nat.le_refl _, HBQ.out⟩
    · obtain rfl : k = tn := by omega
      have hii : ¬ (k : Int) < k := by omega
      have HB : Hid (Below w.heap.size w wr) := HXD.out.trans (HBL.out.mono HXD.out.size)
      have r0 := cell_thru HBL.out (CVY.out 0 _ rfl)
      have r1 := cell_thru HBL.out (CVY.out 1 _ rfl)
      have r2 := cell_thru HBL.out (CVY.out 2 _ rfl)
      have u0 := cell_thru HBL.out (CPY.out 0 _ rfl)
      have u1 := cell_thru HBL.out (CPY.out 1 _ rfl)
      have u2 := cell_thru HBL.out (CPY.out 2 _ rfl)
      have HPE : Hid _ := HPD.out.below HBL.out
      have HVE : Hid _ := HVD.out.below HBL.out
      go_wp2_with fail
      refine (isame_any HPE.out HVE.out (by have := HL.out; unfold maxLen; omega) (by have := HSL.out; unfold maxLen; omega) true (by simp)).mono ?_
      rintro e z1 ⟨rfl, g1⟩
      have HB2 : Hid (Below w.heap.size w z1) := HB.out.trans (g1.mono HB.out.size)
      clear g1 r0 r1 r2 u0 u1 u2
      go_wp2_with fail
      refine (live_any _ (Tab.below HTB.out HB2.out)).mono ?_
      rintro e z2 ⟨rfl, g2⟩
      have HB3 : Hid (Below w.heap.size w z2) := HB2.out.trans (g2.mono HB2.out.size)
      clear g2
      go_wp2
      go_ret
      exact ⟨rfl, HB3.out⟩
end Go.Proofs.YtmplnkfjaeegdaaDoor

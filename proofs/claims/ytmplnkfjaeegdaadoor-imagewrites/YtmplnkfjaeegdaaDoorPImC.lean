/- What live, small and halt come to. (Written by gen_live.py.) -/
import Derived.Test.YtmplnkfjaeegdaaDoorPImB
namespace Go.Proofs.YtmplnkfjaeegdaaDoor
set_option maxRecDepth 100000
open Go.RowKit Go.Maps Go.Lib
set_option linter.unusedVariables false
set_option linter.unusedSimpArgs false

def haltI (k : Int) : ImgD := ⟨{ data := #[32] }, [], [⟨{ data := #[116] }, 3, k⟩]⟩
theorem may_halt0 : (haltI 0).may = true := by kernel_rfl
theorem may_halt1 : (haltI 1).may = false := by kernel_rfl
theorem form_halt : strOfNums (formI (haltI 0)) = { data := #[73, 77, 71, 49, 1, 32, 0, 1, 1, 116, 3, 0] } := by kernel_rfl
theorem thr_halt : thrs (haltI 0).syms = [{ data := #[116] }] := by kernel_rfl
theorem ImgV.drewI {w : World} {v : Value} {m : ImgD} (h : ImgV w v m) : ImgV w.drew v m := h.below (Below.refl _ _).drew

theorem halt_any (k : Int) (hk : (Lit.int .i64 k).wf = true) (w : World) : Calls Tryd.prog 22 #[.int .i64 k] w fun e w' => e = .returned (.agg #[.string { data := #[32] }, .slice none 0 0, .slice (some ⟨w.heap.size + 1, 0, none⟩) 1 1]) ∧ ImgV w' (.agg #[.string { data := #[32] }, .slice none 0 0, .slice (some ⟨w.heap.size + 1, 0, none⟩) 1 1]) (haltI k) ∧ Below w.heap.size w w' := by
  have HK : Hid _ := hk
  clear hk
  obtain ⟨W1, hW1⟩ : ∃ W1, (w.alloc (.cells #[.string { data := #[] }, .slice none 0 0, .slice none 0 0] 25)).alloc (.cells #[.string { data := #[116] }, .int .i64 3, .int .i64 k] 66) = W1 := ⟨_, rfl⟩
  have b1 : Below w.heap.size w W1 := by subst hW1; exact (bl_one _ _).alloc (by simp) _
  have HB1 : Hid _ := b1
  have v0 : W1.cell? ⟨w.heap.size, 0, none⟩ = some (.string { data := #[] }) := by subst hW1; rw [World.cell?_alloc_past _ _ _ (by simp)]; simp
  have v1 : W1.cell? ⟨w.heap.size, 1, none⟩ = some (.slice none 0 0) := by subst hW1; rw [World.cell?_alloc_past _ _ _ (by simp)]; simp
  have v2 : W1.cell? ⟨w.heap.size, 2, none⟩ = some (.slice none 0 0) := by subst hW1; rw [World.cell?_alloc_past _ _ _ (by simp)]; simp
  have u0 : W1.cell? ⟨w.heap.size + 1, 0, none⟩ = some (.string { data := #[116] }) := by subst hW1; exact cell_last (by simp) rfl
  have u1 : W1.cell? ⟨w.heap.size + 1, 1, none⟩ = some (.int .i64 3) := by subst hW1; exact cell_last (by simp) rfl
  have u2 : W1.cell? ⟨w.heap.size + 1, 2, none⟩ = some (.int .i64 k) := by subst hW1; exact cell_last (by simp) rfl
  have z0 : ∀ j, W1.frozen? ⟨w.heap.size, j, none⟩ = false := fun j => by
    subst hW1
    rw [(bl_one (w.alloc (.cells #[.string { data := #[] }, .slice none 0 0, .slice none 0 0] 25)) _).frozen (p := ⟨w.heap.size, j, none⟩) (by simp)]
    exact World.frozen?_alloc_at _ _ _ _ (by simp)
  have f0 := z0 0
  have f1 := z0 1
  have f2 := z0 2
  have HB2 : Hid (Below w.heap.size w (((W1.setCell ⟨w.heap.size, 0, none⟩ (.string { data := #[32] })).setCell ⟨w.heap.size, 1, none⟩ (.slice none 0 0)).setCell ⟨w.heap.size, 2, none⟩ (.slice (some ⟨w.heap.size + 1, 0, none⟩) 1 1))) := ((b1.setCell (Nat.le_refl _) _).setCell (Nat.le_refl _) _).setCell (Nat.le_refl _) _
  have far : ∀ (X : World) (j : Nat) (v u : Value) (o : Nat), X.cell? ⟨w.heap.size + 1, o, none⟩ = some u → (X.setCell ⟨w.heap.size, j, none⟩ v).cell? ⟨w.heap.size + 1, o, none⟩ = some u := fun X j v u o h => (World.cell?_setCell_far _ _ _ _ (show w.heap.size ≠ w.heap.size + 1 by omega)).trans h
  have HIV : Hid (ImgV (((W1.setCell ⟨w.heap.size, 0, none⟩ (.string { data := #[32] })).setCell ⟨w.heap.size, 1, none⟩ (.slice none 0 0)).setCell ⟨w.heap.size, 2, none⟩ (.slice (some ⟨w.heap.size + 1, 0, none⟩) 1 1)) (.agg #[.string { data := #[32] }, .slice none 0 0, .slice (some ⟨w.heap.size + 1, 0, none⟩) 1 1]) (haltI k)) := by
    refine ⟨⟨none, 0, 0, some ⟨w.heap.size + 1, 0, none⟩, 1, 1, rfl, (by decide : (1 : Nat) ≤ maxLen), ⟨rfl, by simp [haltI], fun _ => ⟨rfl, rfl⟩, .inl rfl⟩, ⟨rfl, ?_, fun e => (by cases e), .inr ⟨w.heap.size + 1, 0, rfl, fun i hi => ?_⟩⟩⟩⟩
    · intro s hs
      simp [haltI] at hs
      subst hs
      exact ⟨(by decide : (1 : Nat) ≤ maxLen), (by decide : (Lit.int .i64 3).wf = true), HK.out⟩
    · obtain rfl : i = 0 := by omega
      exact ⟨far _ _ _ _ _ (far _ _ _ _ _ (far _ _ _ _ _ u0)), far _ _ _ _ _ (far _ _ _ _ _ (far _ _ _ _ _ u1)), far _ _ _ _ _ (far _ _ _ _ _ (far _ _ _ _ _ u2))⟩
  clear b1 z0 far
  go_enter Tryd.func22, Tryd.ntmps22
  go_wp2_with fail
  refine bodyPost_ret (v := .agg #[.string { data := #[32] }, .slice none 0 0, .slice (some ⟨w.heap.size + 1, 0, none⟩) 1 1]) (by simp [results, Tryd.results22, go_sem, v0, v1, v2]) rfl ?_
  exact ⟨rfl, HIV.out, HB2.out⟩

theorem small_any {w : World} {v : Value} {m : ImgD} (h : ImgV w v m) : Calls Tryd.prog 7 #[v] w fun e w' => e = .returned (.bool (decide (m.syms.length ≤ 200 ∧ m.code.size ≤ 4000))) ∧ Below w.heap.size w w' := by
  obtain ⟨a1, l1, c1, a2, l2, c2, rfl, hs, h1, h2⟩ := h.form
  have hc := h2.count
  rw [hc]
  obtain ⟨code, hcode⟩ : ∃ code, m.code = code := ⟨_, rfl⟩
  rw [hcode]
  have hb : Below w.heap.size w (w.alloc (.cells #[.string code, .slice a1 l1 c1, .slice a2 l2 c2] 25)) := bl_one _ _
  clear h h1 h2 hs hc hcode
  rcases (show ¬ l2 ≤ 200 ∨ (l2 ≤ 200 ∧ ¬ code.size ≤ 4000) ∨ (l2 ≤ 200 ∧ code.size ≤ 4000) by omega) with g | ⟨g, g'⟩ | ⟨g, g'⟩
  · have HE : Hid (decide (l2 ≤ 200 ∧ code.size ≤ 4000) = false) := decide_eq_false (fun h => g h.1)
    generalize decide (l2 ≤ 200 ∧ code.size ≤ 4000) = R at HE ⊢
    have k1 : ¬ (l2 : Int) ≤ 200 := by omega
    go_enter Tryd.func7, Tryd.ntmps7
    go_wp2
    go_ret
    exact ⟨by rw [HE.out]; rfl, hb⟩
  · have HE : Hid (decide (l2 ≤ 200 ∧ code.size ≤ 4000) = false) := decide_eq_false (fun h => g' h.2)
    generalize decide (l2 ≤ 200 ∧ code.size ≤ 4000) = R at HE ⊢
    have k1 : (l2 : Int) ≤ 200 := by omega
    have k2 : ¬ (code.size : Int) ≤ 4000 := by omega
    go_enter Tryd.func7, Tryd.ntmps7
    go_wp2
    go_ret
    exact ⟨by rw [HE.out]; rfl, hb⟩
  · have HE : Hid (decide (l2 ≤ 200 ∧ code.size ≤ 4000) = true) := decide_eq_true ⟨g, g'⟩
    generalize decide (l2 ≤ 200 ∧ code.size ≤ 4000) = R at HE ⊢
    have k1 : (l2 : Int) ≤ 200 := by omega
    have k2 : (code.size : Int) ≤ 4000 := by omega
    go_enter Tryd.func7, Tryd.ntmps7
    go_wp2
    go_ret
    exact ⟨by rw [HE.out]; rfl, hb⟩

set_option maxHeartbeats 8000000 in
theorem live_any (w : World) (ht : Tab w) : Calls Tryd.prog 8 #[] w fun e w' => e = .returned (.bool true) ∧ Below w.heap.size w w' := by
  have HT : Hid _ := ht
  clear ht
  go_enter Tryd.func8, Tryd.ntmps8
  go_wp2_with fail
  refine (halt_any 0 (by decide) _).mono ?_
  rintro e y0 ⟨rfl, hv0, g0⟩
  have HV0 : Hid _ := hv0
  have B0 : Hid (Below w.heap.size w y0) := g0
  have HIN : Hid _ := hv0.isin may_halt0
  clear hv0 g0
  go_wp2_with fail
  refine (iwrite_any HV0.out (Tab.below HT.out B0.out)).mono ?_
  rintro e y1 ⟨rfl, g1⟩
  rw [may_halt0, if_pos rfl, if_pos rfl, form_halt]
  have B1 : Hid (Below w.heap.size w y1) := B0.out.trans (g1.mono B0.out.size)
  clear g1
  go_wp2_with fail
  refine (iread_img _ (by decide) _ (Tab.below HT.out B1.out)).mono ?_
  rintro e y2 ⟨hcase, g2⟩
  have B2 : Hid (Below w.heap.size w y2) := B1.out.trans (g2.mono B1.out.size)
  have hrd : rdImg { data := #[73, 77, 71, 49, 1, 32, 0, 1, 1, 116, 3, 0] } = some (haltI 0) := by rw [← form_halt]; exact rd_wrI HIN.out may_halt0
  obtain ⟨a1, l1, c1, a2, l2, c2, rfl, hRV⟩ : ∃ a1 l1 c1 a2 l2 c2, e = .returned (.tuple #[.agg #[.string { data := #[32] }, .slice a1 l1 c1, .slice a2 l2 c2], .int .i64 0]) ∧ ImgV y2 (.agg #[.string { data := #[32] }, .slice a1 l1 c1, .slice a2 l2 c2]) (haltI 0) := by
    rcases hcase with ⟨m, hm, a1, l1, c1, a2, l2, c2, he, hv⟩ | ⟨hm, -⟩
    · rw [hrd] at hm
      injection hm with hm
      subst hm
      exact ⟨a1, l1, c1, a2, l2, c2, he, hv⟩
    · rw [hrd] at hm; cases hm
  have HRV0 : Hid _ := hRV
  clear hcase g2 hrd hRV
  obtain ⟨Y3, hY3⟩ : ∃ Y3, y2.alloc (.cells #[.string { data := #[32] }, .slice a1 l1 c1, .slice a2 l2 c2] 25) = Y3 := ⟨_, rfl⟩
  have b3 : Below y2.heap.size y2 Y3 := by subst hY3; exact bl_one _ _
  have v0 : Y3.cell? ⟨y2.heap.size, 0, none⟩ = some (.string { data := #[32] }) := by subst hY3; exact cell_last rfl rfl
  have v1 : Y3.cell? ⟨y2.heap.size, 1, none⟩ = some (.slice a1 l1 c1) := by subst hY3; exact cell_last rfl rfl
  have v2 : Y3.cell? ⟨y2.heap.size, 2, none⟩ = some (.slice a2 l2 c2) := by subst hY3; exact cell_last rfl rfl
  have HRV3 : Hid _ := HRV0.out.below b3
  have B3 : Hid (Below w.heap.size w Y3) := B2.out.trans (b3.mono B2.out.size)
  clear b3
  go_wp2_with fail
  refine (halt_any 0 (by decide) _).mono ?_
  rintro e z1 ⟨rfl, hv1, g1⟩
  have HVZ : Hid _ := hv1
  have BZ : Hid (Below w.heap.size w z1) := B3.out.trans (g1.mono B3.out.size)
  have HRVZ : Hid _ := HRV3.out.below g1
  have p0 := cell_thru g1 v0
  have p1 := cell_thru g1 v1
  have p2 := cell_thru g1 v2
  clear hv1 g1 v0 v1 v2
  go_wp2_with fail
  refine (threads_any HVZ.out (by decide)).mono ?_
  rintro e z2 ⟨⟨tv, rfl, ho⟩, g2⟩
  have B4 : Hid (Below w.heap.size w z2) := BZ.out.trans (g2.mono BZ.out.size)
  have HRV : Hid _ := HRVZ.out.below g2
  have q0 := cell_thru g2.drew p0
  have q1 := cell_thru g2.drew p1
  have q2 := cell_thru g2.drew p2
  rw [thr_halt] at ho
  obtain ⟨tb, tc, htv, hcl⟩ : ∃ tb tc, tv = .slice (some ⟨tb, 0, none⟩) 1 tc ∧ z2.cell? ⟨tb, 0, none⟩ = some (.string { data := #[116] }) := by
    rcases ho.2 with ⟨-, h0⟩ | ⟨g, cap, cur, rfl, -⟩
    · simp at h0
    · exact ⟨g, cap, rfl, by
        have := World.ownsRow.cellAt ho 0 (by decide)
        rw [this]; rfl⟩
  subst htv
  obtain ⟨toff, htoff⟩ : ∃ toff : Nat, toff = 0 := ⟨0, rfl⟩
  have q3 : z2.drew.cell? ⟨tb, 0, none⟩ = some (.string { data := #[116] }) := hcl
  clear ho g2 p0 p1 p2 hcl htoff toff
  go_wp2_with fail
  refine wp_region_held_drew (S := (fun w' : World => w'.cell? ⟨y2.heap.size, 0, none⟩ = some (.string { data := #[32] }) ∧ w'.cell? ⟨y2.heap.size, 1, none⟩ = some (.slice a1 l1 c1) ∧ w'.cell? ⟨y2.heap.size, 2, none⟩ = some (.slice a2 l2 c2) ∧ w'.cell? ⟨tb, 0, none⟩ = some (.string { data := #[116] }))) (by kernel_rfl) ⟨q0, q1, q2, q3⟩ (fun hHeld => ?_)
  refine wpAnyH_take (i := 0) (v := ?_) (get0 _ _) (by kernel_rfl) (by kernel_rfl) (by kernel_rfl) (fun _ _ _ h => h) (Or.inl ⟨by rfl, ?_⟩) (by assumption) ?_
  rotate_left
  · (intro w hSw; (try dsimp only at hSw); go_simp <;> with_reducible rfl)
  simp only [Act.put, List.setIfInBounds_toArray, List.set_cons_zero, List.set_cons_succ]
  refine wpAnyH_take (i := 1) (v := ?_) (get1 (get0 _ _)) (by kernel_rfl) (by kernel_rfl) (by kernel_rfl) (fun _ _ _ h => h) (Or.inl ⟨by rfl, ?_⟩) (by assumption) ?_
  rotate_left
  · (intro w hSw; (try dsimp only at hSw); go_simp <;> with_reducible rfl)
  simp only [Act.put, List.setIfInBounds_toArray, List.set_cons_zero, List.set_cons_succ]
  refine wpAnyH_take (i := 2) (v := ?_) (get1 (get1 (get0 _ _))) (by kernel_rfl) (by kernel_rfl) (by kernel_rfl) (fun _ _ _ h => h) (Or.inl ⟨by rfl, ?_⟩) (by assumption) ?_
  rotate_left
  · (intro w hSw; (try dsimp only at hSw); go_simp <;> with_reducible rfl)
  simp only [Act.put, List.setIfInBounds_toArray, List.set_cons_zero, List.set_cons_succ]
  refine wpAnyH_take (i := 3) (v := ?_) (get1 (get1 (get1 (get0 _ _)))) (by kernel_rfl) (by kernel_rfl) (by kernel_rfl) (fun _ _ _ h => h) (Or.inl ⟨by rfl, ?_⟩) (by assumption) ?_
  rotate_left
  · (intro w hSw; (try dsimp only at hSw); go_simp <;> with_reducible rfl)
  simp only [Act.put, List.setIfInBounds_toArray, List.set_cons_zero, List.set_cons_succ]
  refine wpAnyH_take (i := 4) (v := ?_) (get1 (get1 (get1 (get1 (get0 _ _))))) (by kernel_rfl) (by kernel_rfl) (by kernel_rfl) (fun _ _ _ h => h) (Or.inl ⟨by rfl, ?_⟩) (by assumption) ?_
  rotate_left
  · (intro w hSw; (try dsimp only at hSw); go_simp <;> with_reducible rfl)
  simp only [Act.put, List.setIfInBounds_toArray, List.set_cons_zero, List.set_cons_succ]
  refine wpAnyH_take (i := 5) (v := ?_) (get1 (get1 (get1 (get1 (get1 (get0 _ _)))))) (by kernel_rfl) (by kernel_rfl) (by kernel_rfl) (fun _ _ _ h => h) (Or.inl ⟨by rfl, ?_⟩) (by assumption) ?_
  rotate_left
  · (intro w hSw; (try dsimp only at hSw); go_simp <;> with_reducible rfl)
  simp only [Act.put, List.setIfInBounds_toArray, List.set_cons_zero, List.set_cons_succ]
  refine wpAnyH_take (i := 6) (v := ?_) (get1 (get1 (get1 (get1 (get1 (get1 (get0 _ _))))))) (by kernel_rfl) (by kernel_rfl) (by kernel_rfl) (fun _ _ _ h => h) (Or.inl ⟨by rfl, ?_⟩) (by assumption) ?_
  rotate_left
  · (intro w hSw; (try dsimp only at hSw); go_simp <;> with_reducible rfl)
  simp only [Act.put, List.setIfInBounds_toArray, List.set_cons_zero, List.set_cons_succ]
  refine wpAnyH_take (i := 7) (v := ?_) (get1 (get1 (get1 (get1 (get1 (get1 (get1 (get0 _ _)))))))) (by kernel_rfl) (by kernel_rfl) (by kernel_rfl) (fun _ _ _ h => h) (Or.inl ⟨by rfl, ?_⟩) (by assumption) ?_
  rotate_left
  · (intro w hSw; (try dsimp only at hSw); go_simp <;> with_reducible rfl)
  simp only [Act.put, List.setIfInBounds_toArray, List.set_cons_zero, List.set_cons_succ]
  refine wpAnyH_take (i := 8) (v := ?_) (get1 (get1 (get1 (get1 (get1 (get1 (get1 (get1 (get0 _ _))))))))) (by kernel_rfl) (by kernel_rfl) (by kernel_rfl) (fun _ _ _ h => h) (Or.inl ⟨by rfl, ?_⟩) (by assumption) ?_
  rotate_left
  · (intro w hSw; (try dsimp only at hSw); go_simp <;> with_reducible rfl)
  simp only [Act.put, List.setIfInBounds_toArray, List.set_cons_zero, List.set_cons_succ]
  refine wpAnyH_take (i := 9) (v := ?_) (get1 (get1 (get1 (get1 (get1 (get1 (get1 (get1 (get1 (get0 _ _)))))))))) (by kernel_rfl) (by kernel_rfl) (by kernel_rfl) (fun _ _ _ h => h) (Or.inl ⟨by rfl, ?_⟩) (by assumption) ?_
  rotate_left
  · (intro w hSw; (try dsimp only at hSw); go_simp <;> with_reducible rfl)
  simp only [Act.put, List.setIfInBounds_toArray, List.set_cons_zero, List.set_cons_succ]
  refine wpAnyH_take (i := 10) (v := ?_) (get1 (get1 (get1 (get1 (get1 (get1 (get1 (get1 (get1 (get1 (get0 _ _))))))))))) (by kernel_rfl) (by kernel_rfl) (by kernel_rfl) (fun _ _ _ h => h) (Or.inl ⟨by rfl, ?_⟩) (by assumption) ?_
  rotate_left
  · (intro w hSw; (try dsimp only at hSw); go_simp <;> with_reducible rfl)
  simp only [Act.put, List.setIfInBounds_toArray, List.set_cons_zero, List.set_cons_succ]
  refine wpAnyH_take (i := 11) (v := ?_) (get1 (get1 (get1 (get1 (get1 (get1 (get1 (get1 (get1 (get1 (get1 (get0 _ _)))))))))))) (by kernel_rfl) (by kernel_rfl) (by kernel_rfl) (fun _ _ _ h => h) (Or.inl ⟨by rfl, ?_⟩) (by assumption) ?_
  rotate_left
  · (intro w hSw; (try dsimp only at hSw); go_simp <;> with_reducible rfl)
  simp only [Act.put, List.setIfInBounds_toArray, List.set_cons_zero, List.set_cons_succ]
  refine wpAnyH_ready (rs := [12]) (by kernel_rfl) (by simp) ?_
  refine AllReadyH.cons (get1 (get1 (get1 (get1 (get1 (get1 (get1 (get1 (get1 (get1 (get1 (get1 (get0 _ _))))))))))))) (fun K hK => ?_) AllReadyH.nil
  go_simp
  refine (halt_any 0 (by decide) _).mono ?_
  rintro e x1 ⟨rfl, hv1, g1⟩
  have sy : x1.cell? ⟨y2.heap.size, 0, none⟩ = some (.string { data := #[32] }) ∧ x1.cell? ⟨y2.heap.size, 1, none⟩ = some (.slice a1 l1 c1) ∧ x1.cell? ⟨y2.heap.size, 2, none⟩ = some (.slice a2 l2 c2) ∧ x1.cell? ⟨tb, 0, none⟩ = some (.string { data := #[116] }) := ⟨cell_thru g1 hHeld.1, cell_thru g1 hHeld.2.1, cell_thru g1 hHeld.2.2.1, cell_thru g1 hHeld.2.2.2⟩
  have HI1 : Hid _ := hv1
  have HR1 : Hid _ := HRV.out.drewI.below g1
  have C1 : Hid (Below w.heap.size w x1) := B4.out.drew.trans (g1.mono B4.out.size)
  clear hHeld hv1 g1
  try go_wp2_with fail
  refine hK.out _ _ sy (fun hHeld => ?_)
  clear hK K
  try simp only [Act.put, List.setIfInBounds_toArray, List.set_cons_zero, List.set_cons_succ]
  refine wpAnyH_ready (rs := [13]) (by kernel_rfl) (by simp) ?_
  refine AllReadyH.cons (get1 (get1 (get1 (get1 (get1 (get1 (get1 (get1 (get1 (get1 (get1 (get1 (get1 (get0 _ _)))))))))))))) (fun K hK => ?_) AllReadyH.nil
  go_simp
  refine (isame_any HR1.out HI1.out (by decide) (by decide) true (by simp)).mono ?_
  rintro e x2 ⟨rfl, g2⟩
  have sy : x2.cell? ⟨y2.heap.size, 0, none⟩ = some (.string { data := #[32] }) ∧ x2.cell? ⟨y2.heap.size, 1, none⟩ = some (.slice a1 l1 c1) ∧ x2.cell? ⟨y2.heap.size, 2, none⟩ = some (.slice a2 l2 c2) ∧ x2.cell? ⟨tb, 0, none⟩ = some (.string { data := #[116] }) := ⟨cell_thru g2 hHeld.1, cell_thru g2 hHeld.2.1, cell_thru g2 hHeld.2.2.1, cell_thru g2 hHeld.2.2.2⟩
  have C2 : Hid (Below w.heap.size w x2) := C1.out.trans (g2.mono C1.out.size)
  clear hHeld g2
  try go_wp2_with fail
  refine hK.out _ _ sy (fun hHeld => ?_)
  clear hK K
  try simp only [Act.put, List.setIfInBounds_toArray, List.set_cons_zero, List.set_cons_succ]
  refine wpAnyH_take (i := 14) (v := ?_) (get1 (get1 (get1 (get1 (get1 (get1 (get1 (get1 (get1 (get1 (get1 (get1 (get1 (get1 (get0 _ _))))))))))))))) (by kernel_rfl) (by kernel_rfl) (by kernel_rfl) (fun _ _ _ h => h) (Or.inl ⟨by rfl, ?_⟩) (by assumption) ?_
  rotate_left
  · (intro w hSw; (try dsimp only at hSw); go_simp <;> with_reducible rfl)
  simp only [Act.put, List.setIfInBounds_toArray, List.set_cons_zero, List.set_cons_succ]
  refine wpAnyH_take (i := 15) (v := ?_) (get1 (get1 (get1 (get1 (get1 (get1 (get1 (get1 (get1 (get1 (get1 (get1 (get1 (get1 (get1 (get0 _ _)))))))))))))))) (by kernel_rfl) (by kernel_rfl) (by kernel_rfl) (fun _ _ _ h => h) (Or.inl ⟨by rfl, ?_⟩) (by assumption) ?_
  rotate_left
  · (intro w hSw; (try dsimp only at hSw); go_simp <;> with_reducible rfl)
  simp only [Act.put, List.setIfInBounds_toArray, List.set_cons_zero, List.set_cons_succ]
  refine wpAnyH_ready (rs := [16]) (by kernel_rfl) (by simp) ?_
  refine AllReadyH.cons (get1 (get1 (get1 (get1 (get1 (get1 (get1 (get1 (get1 (get1 (get1 (get1 (get1 (get1 (get1 (get1 (get0 _ _))))))))))))))))) (fun K hK => ?_) AllReadyH.nil
  go_simp
  refine (halt_any 1 (by decide) _).mono ?_
  rintro e x3 ⟨rfl, hv3, g3⟩
  have sy : x3.cell? ⟨y2.heap.size, 0, none⟩ = some (.string { data := #[32] }) ∧ x3.cell? ⟨y2.heap.size, 1, none⟩ = some (.slice a1 l1 c1) ∧ x3.cell? ⟨y2.heap.size, 2, none⟩ = some (.slice a2 l2 c2) ∧ x3.cell? ⟨tb, 0, none⟩ = some (.string { data := #[116] }) := ⟨cell_thru g3 hHeld.1, cell_thru g3 hHeld.2.1, cell_thru g3 hHeld.2.2.1, cell_thru g3 hHeld.2.2.2⟩
  have HI3 : Hid _ := hv3
  have C3 : Hid (Below w.heap.size w x3) := C2.out.trans (g3.mono C2.out.size)
  clear hHeld hv3 g3
  try go_wp2_with fail
  refine hK.out _ _ sy (fun hHeld => ?_)
  clear hK K
  try simp only [Act.put, List.setIfInBounds_toArray, List.set_cons_zero, List.set_cons_succ]
  refine wpAnyH_ready (rs := [17]) (by kernel_rfl) (by simp) ?_
  refine AllReadyH.cons (get1 (get1 (get1 (get1 (get1 (get1 (get1 (get1 (get1 (get1 (get1 (get1 (get1 (get1 (get1 (get1 (get1 (get0 _ _)))))))))))))))))) (fun K hK => ?_) AllReadyH.nil
  go_simp
  refine (icheck_any HI3.out (Tab.below HT.out C3.out)).mono ?_
  rintro e x4 ⟨rfl, g4⟩
  rw [may_halt1, if_neg (by decide)]
  have sy : x4.cell? ⟨y2.heap.size, 0, none⟩ = some (.string { data := #[32] }) ∧ x4.cell? ⟨y2.heap.size, 1, none⟩ = some (.slice a1 l1 c1) ∧ x4.cell? ⟨y2.heap.size, 2, none⟩ = some (.slice a2 l2 c2) ∧ x4.cell? ⟨tb, 0, none⟩ = some (.string { data := #[116] }) := ⟨cell_thru g4 hHeld.1, cell_thru g4 hHeld.2.1, cell_thru g4 hHeld.2.2.1, cell_thru g4 hHeld.2.2.2⟩
  have C4 : Hid (Below w.heap.size w x4) := C3.out.trans (g4.mono C3.out.size)
  clear hHeld g4
  try go_wp2_with fail
  refine hK.out _ _ sy (fun hHeld => ?_)
  clear hK K
  try simp only [Act.put, List.setIfInBounds_toArray, List.set_cons_zero, List.set_cons_succ]
  refine wpAnyH_take (i := 18) (v := ?_) (get1 (get1 (get1 (get1 (get1 (get1 (get1 (get1 (get1 (get1 (get1 (get1 (get1 (get1 (get1 (get1 (get1 (get1 (get0 _ _))))))))))))))))))) (by kernel_rfl) (by kernel_rfl) (by kernel_rfl) (fun _ _ _ h => h) (Or.inl ⟨by rfl, ?_⟩) (by assumption) ?_
  rotate_left
  · (intro w hSw; (try dsimp only at hSw); go_simp <;> with_reducible rfl)
  simp only [Act.put, List.setIfInBounds_toArray, List.set_cons_zero, List.set_cons_succ]
  refine wpAnyH_take (i := 19) (v := ?_) (get1 (get1 (get1 (get1 (get1 (get1 (get1 (get1 (get1 (get1 (get1 (get1 (get1 (get1 (get1 (get1 (get1 (get1 (get1 (get0 _ _)))))))))))))))))))) (by kernel_rfl) (by kernel_rfl) (by kernel_rfl) (fun _ _ _ h => h) (Or.inl ⟨by rfl, ?_⟩) (by assumption) ?_
  rotate_left
  · (intro w hSw; (try dsimp only at hSw); go_simp <;> with_reducible rfl)
  simp only [Act.put, List.setIfInBounds_toArray, List.set_cons_zero, List.set_cons_succ]
  refine wpAnyH_take (i := 20) (v := ?_) (get1 (get1 (get1 (get1 (get1 (get1 (get1 (get1 (get1 (get1 (get1 (get1 (get1 (get1 (get1 (get1 (get1 (get1 (get1 (get1 (get0 _ _))))))))))))))))))))) (by kernel_rfl) (by kernel_rfl) (by kernel_rfl) (fun _ _ _ h => h) (Or.inl ⟨by rfl, ?_⟩) (by assumption) ?_
  rotate_left
  · (intro w hSw; (try dsimp only at hSw); go_simp <;> with_reducible rfl)
  simp only [Act.put, List.setIfInBounds_toArray, List.set_cons_zero, List.set_cons_succ]
  refine wpAnyH_take (i := 21) (v := ?_) (get1 (get1 (get1 (get1 (get1 (get1 (get1 (get1 (get1 (get1 (get1 (get1 (get1 (get1 (get1 (get1 (get1 (get1 (get1 (get1 (get1 (get0 _ _)))))))))))))))))))))) (by kernel_rfl) (by kernel_rfl) (by kernel_rfl) (fun _ _ _ h => h) (Or.inl ⟨by rfl, ?_⟩) (by assumption) ?_
  rotate_left
  · (intro w hSw; (try dsimp only at hSw); go_simp <;> with_reducible rfl)
  simp only [Act.put, List.setIfInBounds_toArray, List.set_cons_zero, List.set_cons_succ]
  refine wpAnyH_take (i := 22) (v := ?_) (get1 (get1 (get1 (get1 (get1 (get1 (get1 (get1 (get1 (get1 (get1 (get1 (get1 (get1 (get1 (get1 (get1 (get1 (get1 (get1 (get1 (get1 (get0 _ _))))))))))))))))))))))) (by kernel_rfl) (by kernel_rfl) (by kernel_rfl) (fun _ _ _ h => h) (Or.inl ⟨by rfl, ?_⟩) (by assumption) ?_
  rotate_left
  · (intro w hSw; (try dsimp only at hSw); go_simp <;> with_reducible rfl)
  simp only [Act.put, List.setIfInBounds_toArray, List.set_cons_zero, List.set_cons_succ]
  refine wpAnyH_take (i := 23) (v := ?_) (get1 (get1 (get1 (get1 (get1 (get1 (get1 (get1 (get1 (get1 (get1 (get1 (get1 (get1 (get1 (get1 (get1 (get1 (get1 (get1 (get1 (get1 (get1 (get0 _ _)))))))))))))))))))))))) (by kernel_rfl) (by kernel_rfl) (by kernel_rfl) (fun _ _ _ h => h) (Or.inl ⟨by rfl, ?_⟩) (by assumption) ?_
  rotate_left
  · (intro w hSw; (try dsimp only at hSw); go_simp <;> with_reducible rfl)
  simp only [Act.put, List.setIfInBounds_toArray, List.set_cons_zero, List.set_cons_succ]
  refine wpAnyH_take (i := 24) (v := ?_) (get1 (get1 (get1 (get1 (get1 (get1 (get1 (get1 (get1 (get1 (get1 (get1 (get1 (get1 (get1 (get1 (get1 (get1 (get1 (get1 (get1 (get1 (get1 (get1 (get0 _ _))))))))))))))))))))))))) (by kernel_rfl) (by kernel_rfl) (by kernel_rfl) (fun _ _ _ h => h) (Or.inl ⟨by rfl, ?_⟩) (by assumption) ?_
  rotate_left
  · (intro w hSw; (try dsimp only at hSw); go_simp <;> with_reducible rfl)
  simp only [Act.put, List.setIfInBounds_toArray, List.set_cons_zero, List.set_cons_succ]
  refine wpAnyH_take (i := 25) (v := ?_) (get1 (get1 (get1 (get1 (get1 (get1 (get1 (get1 (get1 (get1 (get1 (get1 (get1 (get1 (get1 (get1 (get1 (get1 (get1 (get1 (get1 (get1 (get1 (get1 (get1 (get0 _ _)))))))))))))))))))))))))) (by kernel_rfl) (by kernel_rfl) (by kernel_rfl) (fun _ _ _ h => h) (Or.inl ⟨by rfl, ?_⟩) (by assumption) ?_
  rotate_left
  · (intro w hSw; (try dsimp only at hSw); go_simp <;> with_reducible rfl)
  simp only [Act.put, List.setIfInBounds_toArray, List.set_cons_zero, List.set_cons_succ]
  refine wpAnyH_take (i := 26) (v := ?_) (get1 (get1 (get1 (get1 (get1 (get1 (get1 (get1 (get1 (get1 (get1 (get1 (get1 (get1 (get1 (get1 (get1 (get1 (get1 (get1 (get1 (get1 (get1 (get1 (get1 (get1 (get0 _ _))))))))))))))))))))))))))) (by kernel_rfl) (by kernel_rfl) (by kernel_rfl) (fun _ _ _ h => h) (Or.inl ⟨by rfl, ?_⟩) (by assumption) ?_
  rotate_left
  · (intro w hSw; (try dsimp only at hSw); go_simp <;> with_reducible rfl)
  simp only [Act.put, List.setIfInBounds_toArray, List.set_cons_zero, List.set_cons_succ]
  refine wpAnyH_take (i := 27) (v := ?_) (get1 (get1 (get1 (get1 (get1 (get1 (get1 (get1 (get1 (get1 (get1 (get1 (get1 (get1 (get1 (get1 (get1 (get1 (get1 (get1 (get1 (get1 (get1 (get1 (get1 (get1 (get1 (get0 _ _)))))))))))))))))))))))))))) (by kernel_rfl) (by kernel_rfl) (by kernel_rfl) (fun _ _ _ h => h) (Or.inl ⟨by rfl, ?_⟩) (by assumption) ?_
  rotate_left
  · (intro w hSw; (try dsimp only at hSw); go_simp <;> with_reducible rfl)
  simp only [Act.put, List.setIfInBounds_toArray, List.set_cons_zero, List.set_cons_succ]
  refine wpAnyH_take (i := 28) (v := ?_) (get1 (get1 (get1 (get1 (get1 (get1 (get1 (get1 (get1 (get1 (get1 (get1 (get1 (get1 (get1 (get1 (get1 (get1 (get1 (get1 (get1 (get1 (get1 (get1 (get1 (get1 (get1 (get1 (get0 _ _))))))))))))))))))))))))))))) (by kernel_rfl) (by kernel_rfl) (by kernel_rfl) (fun _ _ _ h => h) (Or.inl ⟨by rfl, ?_⟩) (by assumption) ?_
  rotate_left
  · (intro w hSw; (try dsimp only at hSw); go_simp <;> with_reducible rfl)
  simp only [Act.put, List.setIfInBounds_toArray, List.set_cons_zero, List.set_cons_succ]
  refine wpAnyH_take (i := 29) (v := ?_) (get1 (get1 (get1 (get1 (get1 (get1 (get1 (get1 (get1 (get1 (get1 (get1 (get1 (get1 (get1 (get1 (get1 (get1 (get1 (get1 (get1 (get1 (get1 (get1 (get1 (get1 (get1 (get1 (get1 (get0 _ _)))))))))))))))))))))))))))))) (by kernel_rfl) (by kernel_rfl) (by kernel_rfl) (fun _ _ _ h => h) (Or.inl ⟨by rfl, ?_⟩) (by assumption) ?_
  rotate_left
  · (intro w hSw; (try dsimp only at hSw); go_simp <;> with_reducible rfl)
  simp only [Act.put, List.setIfInBounds_toArray, List.set_cons_zero, List.set_cons_succ]
  refine wpAnyH_take (i := 30) (v := ?_) (get1 (get1 (get1 (get1 (get1 (get1 (get1 (get1 (get1 (get1 (get1 (get1 (get1 (get1 (get1 (get1 (get1 (get1 (get1 (get1 (get1 (get1 (get1 (get1 (get1 (get1 (get1 (get1 (get1 (get1 (get0 _ _))))))))))))))))))))))))))))))) (by kernel_rfl) (by kernel_rfl) (by kernel_rfl) (fun _ _ _ h => h) (Or.inl ⟨by rfl, ?_⟩) (by assumption) ?_
  rotate_left
  · (intro w hSw; (try dsimp only at hSw); go_simp <;> with_reducible rfl)
  simp only [Act.put, List.setIfInBounds_toArray, List.set_cons_zero, List.set_cons_succ]
  refine wpAnyH_take (i := 31) (v := ?_) (get1 (get1 (get1 (get1 (get1 (get1 (get1 (get1 (get1 (get1 (get1 (get1 (get1 (get1 (get1 (get1 (get1 (get1 (get1 (get1 (get1 (get1 (get1 (get1 (get1 (get1 (get1 (get1 (get1 (get1 (get1 (get0 _ _)))))))))))))))))))))))))))))))) (by kernel_rfl) (by kernel_rfl) (by kernel_rfl) (fun _ _ _ h => h) (Or.inl ⟨by rfl, ?_⟩) (by assumption) ?_
  rotate_left
  · (intro w hSw; (try dsimp only at hSw); go_simp <;> with_reducible rfl)
  simp only [Act.put, List.setIfInBounds_toArray, List.set_cons_zero, List.set_cons_succ]
  refine wpAnyH_done (by kernel_rfl) ?_ _
  clear hHeld sy
  go_wp2
  go_ret
  exact ⟨rfl, C4.out⟩
end Go.Proofs.YtmplnkfjaeegdaaDoor

/- What is written is read as it was, and what is read is written as it stood. -/
namespace Go.Proofs.YtmplnkfjaeegdaaDoor
set_option maxRecDepth 100000
open Go.RowKit Go.Maps Go.Lib
set_option linter.unusedVariables false
set_option linter.unusedSimpArgs false

theorem rd_bad {w : World} {v : Value} {m : ImgD} (h : ImgV w v m) (hm : m.may = true) : m.data.length ≤ maxLen ∧ m.syms.length ≤ maxLen := by
  have := h.isin hm
  have h1 : m.data.length ≤ 4096 := this.2.1.1
  have h2 : m.syms.length ≤ 1000 := this.2.2.1.1
  unfold maxLen
  omega

set_option maxHeartbeats 8000000 in
/-- The second half: what is read is written as it stood. -/
theorem back_any {w : World} {v : Value} {m : ImgD} (h : ImgV w v m) (s : ByteArray) (hs : s.size ≤ maxLen) (ht : Tab w) :
    Calls Tryd.prog 5 #[v, .string s] w fun e w' => e = .returned (.bool true) ∧ Below w.heap.size w w' := by
  have HIV : Hid _ := h
  have HT : Hid _ := ht
  obtain ⟨a1, l1, c1, a2, l2, c2, rfl, -⟩ := h.form
  obtain ⟨code, hcode⟩ : ∃ code, m.code = code := ⟨_, rfl⟩
  rw [hcode] at HIV ⊢
  clear h ht hcode
  obtain ⟨W1, hW1⟩ : ∃ W1, w.alloc (.cells #[.string code, .slice a1 l1 c1, .slice a2 l2 c2] 25) = W1 := ⟨_, rfl⟩
  have b1 : Below w.heap.size w W1 := by subst hW1; exact bl_one _ _
  have HB1 : Hid _ := b1
  have v0 : W1.cell? ⟨w.heap.size, 0, none⟩ = some (.string code) := by subst hW1; exact cell_last rfl rfl
  have v1 : W1.cell? ⟨w.heap.size, 1, none⟩ = some (.slice a1 l1 c1) := by subst hW1; exact cell_last rfl rfl
  have v2 : W1.cell? ⟨w.heap.size, 2, none⟩ = some (.slice a2 l2 c2) := by subst hW1; exact cell_last rfl rfl
  clear b1
  go_enter Tryd.func5, Tryd.ntmps5
  go_wp2_with fail
  refine (small_any (HIV.out.below HB1.out)).mono ?_
  rintro e y1 ⟨rfl, g1⟩
  have B1 : Hid (Below w.heap.size w y1) := HB1.out.trans (g1.mono HB1.out.size)
  have p0 := cell_thru g1 v0
  have p1 := cell_thru g1 v1
  have p2 := cell_thru g1 v2
  clear g1 v0 v1 v2
  by_cases hsm : (m.syms.length ≤ 200 ∧ m.code.size ≤ 4000) ∧ s.size ≤ 4000
  rotate_left
  · by_cases hs1 : m.syms.length ≤ 200 ∧ m.code.size ≤ 4000
    · have hs2 : (4000 : Int) < s.size := by
        have : ¬ s.size ≤ 4000 := fun h => hsm ⟨hs1, h⟩
        omega
      rw [decide_eq_true hs1]
      clear hs1 hsm
      go_wp2_with fail
      refine (live_any _ (Tab.below HT.out B1.out)).mono ?_
      rintro e y7 ⟨rfl, g7⟩
      have B7 : Hid _ := B1.out.trans (g7.mono B1.out.size)
      clear g7
      go_wp2
      go_ret
      exact ⟨rfl, B7.out⟩
    · rw [decide_eq_false hs1]
      clear hs1 hsm
      go_wp2_with fail
      refine (live_any _ (Tab.below HT.out B1.out)).mono ?_
      rintro e y7 ⟨rfl, g7⟩
      have B7 : Hid _ := B1.out.trans (g7.mono B1.out.size)
      clear g7
      go_wp2
      go_ret
      exact ⟨rfl, B7.out⟩
  have hs2 : ¬ (4000 : Int) < s.size := by omega
  have HSS : Hid (s.size ≤ 4611686018427387904) := by show _ ≤ _; omega
  rw [decide_eq_true hsm.1]
  clear hsm
  go_wp2_with fail
  refine (iwrite_any (HIV.out.below B1.out) (Tab.below HT.out B1.out)).mono ?_
  rintro e y2 ⟨rfl, g2⟩
  have B2 : Hid (Below w.heap.size w y2) := B1.out.trans (g2.mono B1.out.size)
  have q0 := cell_thru g2 p0
  have q1 := cell_thru g2 p1
  have q2 := cell_thru g2 p2
  clear g2 p0 p1 p2
  cases hm : m.may with
  | false =>
    rw [if_neg (by decide), if_neg (by decide)]
    go_wp2_with fail
    refine (iread_img s HSS.out _ (Tab.below HT.out B2.out)).mono ?_
    rintro e z1 ⟨hcase, g1⟩
    have Z1 : Hid (Below w.heap.size w z1) := B2.out.trans (g1.mono B2.out.size)
    clear g1
    rcases hcase with ⟨mm, hmm, f1, k1, n1, f2, k2, n2, rfl, hV⟩ | ⟨hno, rfl⟩
    rotate_left
    · unfold noImgV
      go_wp2_with fail
      refine (live_any _ (Tab.below HT.out (Z1.out.alloc (by have := Z1.out.size; omega) _))).mono ?_
      rintro e y7 ⟨rfl, g7⟩
      have B7 : Hid (Below w.heap.size w y7) := (Z1.out.alloc (by have := Z1.out.size; omega) _).trans (g7.mono (by have := Z1.out.size; simp; omega))
      clear g7
      go_wp2
      go_ret
      exact ⟨rfl, B7.out⟩
    have HWR : Hid _ := wrI_rd hmm
    have HVV : Hid _ := hV
    obtain ⟨cd2, hcd2⟩ : ∃ cd2, mm.code = cd2 := ⟨_, rfl⟩
    rw [hcd2] at HVV ⊢
    clear hmm hV hcd2
    obtain ⟨Z2, hZ2⟩ : ∃ Z2, z1.alloc (.cells #[.string cd2, .slice f1 k1 n1, .slice f2 k2 n2] 25) = Z2 := ⟨_, rfl⟩
    have bZ2 : Below z1.heap.size z1 Z2 := by subst hZ2; exact bl_one _ _
    have j0 : Z2.cell? ⟨z1.heap.size, 0, none⟩ = some (.string cd2) := by subst hZ2; exact cell_last rfl rfl
    have j1 : Z2.cell? ⟨z1.heap.size, 1, none⟩ = some (.slice f1 k1 n1) := by subst hZ2; exact cell_last rfl rfl
    have j2 : Z2.cell? ⟨z1.heap.size, 2, none⟩ = some (.slice f2 k2 n2) := by subst hZ2; exact cell_last rfl rfl
    have HVZ : Hid _ := HVV.out.below bZ2
    have BZ2 : Hid (Below w.heap.size w Z2) := Z1.out.trans (bZ2.mono Z1.out.size)
    clear bZ2
    go_wp2_with fail
    refine (iwrite_any HVZ.out (Tab.below HT.out BZ2.out)).mono ?_
    rintro e z3 ⟨rfl, g3⟩
    rw [HWR.out.2.1, if_pos rfl, if_pos rfl, HWR.out.1]
    have BZ3 : Hid (Below w.heap.size w z3) := BZ2.out.trans (g3.mono BZ2.out.size)
    have HVZ3 : Hid _ := HVZ.out.below g3
    have i0 := cell_thru g3 j0
    have i1 := cell_thru g3 j1
    have i2 := cell_thru g3 j2
    clear g3 j0 j1 j2
    go_wp2_with fail
    refine (icheck_any HVZ3.out (Tab.below HT.out BZ3.out)).mono ?_
    rintro e z4 ⟨rfl, g4⟩
    rw [HWR.out.2.1, if_pos rfl]
    have BZ4 : Hid (Below w.heap.size w z4) := BZ3.out.trans (g4.mono BZ3.out.size)
    clear g4 i0 i1 i2
    go_wp2_with fail
    refine (live_any _ (Tab.below HT.out BZ4.out)).mono ?_
    rintro e y7 ⟨rfl, g7⟩
    have B7 : Hid _ := BZ4.out.trans (g7.mono BZ4.out.size)
    clear g7
    go_wp2
    go_ret
    exact ⟨rfl, B7.out⟩
  | true =>
    rw [if_pos rfl, if_pos rfl]
    have HIN : Hid _ := HIV.out.isin hm
    have HLN : Hid _ := rd_bad HIV.out hm
    have HRW : Hid _ := rd_wrI HIN.out hm
    have HSZ : Hid ((strOfNums (formI m)).size ≤ 4611686018427387904) := by show _ ≤ _; have := wrI_size HIN.out; omega
    generalize strOfNums (formI m) = t at HRW HSZ ⊢
    clear hm
    go_wp2_with fail
    refine (iread_img t HSZ.out _ (Tab.below HT.out B2.out)).mono ?_
    rintro e y3 ⟨hcase, g3⟩
    have B3 : Hid (Below w.heap.size w y3) := B2.out.trans (g3.mono B2.out.size)
    obtain ⟨b1, m1, d1, b2, m2, d2, cd, rfl, hcd, hRV⟩ : ∃ b1 m1 d1 b2 m2 d2 cd, e = .returned (.tuple #[.agg #[.string cd, .slice b1 m1 d1, .slice b2 m2 d2], .int .i64 0]) ∧ m.code = cd ∧ ImgV y3 (.agg #[.string cd, .slice b1 m1 d1, .slice b2 m2 d2]) m := by
      rcases hcase with ⟨m', hm', a1', l1', c1', a2', l2', c2', he, hv⟩ | ⟨hm', -⟩
      · rw [HRW.out] at hm'
        injection hm' with hm'
        subst hm'
        exact ⟨a1', l1', c1', a2', l2', c2', _, he, rfl, hv⟩
      · rw [HRW.out] at hm'; cases hm'
    have r0 := cell_thru g3 q0
    have r1 := cell_thru g3 q1
    have r2 := cell_thru g3 q2
    have HRV : Hid _ := hRV
    clear hcase g3 q0 q1 q2 hcd hRV
    obtain ⟨Y4, hY4⟩ : ∃ Y4, y3.alloc (.cells #[.string cd, .slice b1 m1 d1, .slice b2 m2 d2] 25) = Y4 := ⟨_, rfl⟩
    have bY4 : Below y3.heap.size y3 Y4 := by subst hY4; exact bl_one _ _
    have w0 : Y4.cell? ⟨y3.heap.size, 0, none⟩ = some (.string cd) := by subst hY4; exact cell_last rfl rfl
    have w1 : Y4.cell? ⟨y3.heap.size, 1, none⟩ = some (.slice b1 m1 d1) := by subst hY4; exact cell_last rfl rfl
    have w2 : Y4.cell? ⟨y3.heap.size, 2, none⟩ = some (.slice b2 m2 d2) := by subst hY4; exact cell_last rfl rfl
    have x0 := cell_thru bY4 r0
    have x1 := cell_thru bY4 r1
    have x2 := cell_thru bY4 r2
    have HRV4 : Hid _ := HRV.out.below bY4
    have B4 : Hid (Below w.heap.size w Y4) := B3.out.trans (bY4.mono B3.out.size)
    clear bY4 r0 r1 r2
    go_wp2_with fail
    refine (isame_any HRV4.out (HIV.out.below B4.out) HLN.out.1 HLN.out.2 true (by simp)).mono ?_
    rintro e y5 ⟨rfl, g5⟩
    have B5 : Hid (Below w.heap.size w y5) := B4.out.trans (g5.mono B4.out.size)
    clear g5 w0 w1 w2 x0 x1 x2
    go_wp2_with fail
    refine (iread_img s HSS.out _ (Tab.below HT.out B5.out)).mono ?_
    rintro e z1 ⟨hcase, g1⟩
    have Z1 : Hid (Below w.heap.size w z1) := B5.out.trans (g1.mono B5.out.size)
    clear g1
    rcases hcase with ⟨mm, hmm, f1, k1, n1, f2, k2, n2, rfl, hV⟩ | ⟨hno, rfl⟩
    rotate_left
    · unfold noImgV
      go_wp2_with fail
      refine (live_any _ (Tab.below HT.out (Z1.out.alloc (by have := Z1.out.size; omega) _))).mono ?_
      rintro e y7 ⟨rfl, g7⟩
      have B7 : Hid (Below w.heap.size w y7) := (Z1.out.alloc (by have := Z1.out.size; omega) _).trans (g7.mono (by have := Z1.out.size; simp; omega))
      clear g7
      go_wp2
      go_ret
      exact ⟨rfl, B7.out⟩
    have HWR : Hid _ := wrI_rd hmm
    have HVV : Hid _ := hV
    obtain ⟨cd2, hcd2⟩ : ∃ cd2, mm.code = cd2 := ⟨_, rfl⟩
    rw [hcd2] at HVV ⊢
    clear hmm hV hcd2
    obtain ⟨Z2, hZ2⟩ : ∃ Z2, z1.alloc (.cells #[.string cd2, .slice f1 k1 n1, .slice f2 k2 n2] 25) = Z2 := ⟨_, rfl⟩
    have bZ2 : Below z1.heap.size z1 Z2 := by subst hZ2; exact bl_one _ _
    have j0 : Z2.cell? ⟨z1.heap.size, 0, none⟩ = some (.string cd2) := by subst hZ2; exact cell_last rfl rfl
    have j1 : Z2.cell? ⟨z1.heap.size, 1, none⟩ = some (.slice f1 k1 n1) := by subst hZ2; exact cell_last rfl rfl
    have j2 : Z2.cell? ⟨z1.heap.size, 2, none⟩ = some (.slice f2 k2 n2) := by subst hZ2; exact cell_last rfl rfl
    have HVZ : Hid _ := HVV.out.below bZ2
    have BZ2 : Hid (Below w.heap.size w Z2) := Z1.out.trans (bZ2.mono Z1.out.size)
    clear bZ2
    go_wp2_with fail
    refine (iwrite_any HVZ.out (Tab.below HT.out BZ2.out)).mono ?_
    rintro e z3 ⟨rfl, g3⟩
    rw [HWR.out.2.1, if_pos rfl, if_pos rfl, HWR.out.1]
    have BZ3 : Hid (Below w.heap.size w z3) := BZ2.out.trans (g3.mono BZ2.out.size)
    have HVZ3 : Hid _ := HVZ.out.below g3
    have i0 := cell_thru g3 j0
    have i1 := cell_thru g3 j1
    have i2 := cell_thru g3 j2
    clear g3 j0 j1 j2
    go_wp2_with fail
    refine (icheck_any HVZ3.out (Tab.below HT.out BZ3.out)).mono ?_
    rintro e z4 ⟨rfl, g4⟩
    rw [HWR.out.2.1, if_pos rfl]
    have BZ4 : Hid (Below w.heap.size w z4) := BZ3.out.trans (g4.mono BZ3.out.size)
    clear g4 i0 i1 i2
    go_wp2_with fail
    refine (live_any _ (Tab.below HT.out BZ4.out)).mono ?_
    rintro e y7 ⟨rfl, g7⟩
    have B7 : Hid _ := BZ4.out.trans (g7.mono BZ4.out.size)
    clear g7
    go_wp2
    go_ret
    exact ⟨rfl, B7.out⟩
end Go.Proofs.YtmplnkfjaeegdaaDoor

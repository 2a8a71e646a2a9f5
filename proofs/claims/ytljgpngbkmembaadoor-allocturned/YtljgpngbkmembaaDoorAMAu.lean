/- The law's live: some answers that the document gives. -/
import Derived.Test.YtljgpngbkmembaaDoorAMAn
import Derived.Test.YtljgpngbkmembaaDoorAMAo
import Derived.Test.YtljgpngbkmembaaDoorAMAs
import Derived.Test.YtljgpngbkmembaaDoorAMAt
import Derived.Test.YtljgpngbkmembaaDoorAMAa
namespace Go.Proofs.YtljgpngbkmembaaDoor
open Go.RowKit Go.Maps Go.Shelf
set_option linter.unusedVariables false
set_option linter.unusedSimpArgs false
theorem num_new (w : World) (zs : List Int) (hz : ∀ z ∈ zs, (Lit.int .i64 z).wf = true) (hl : zs.length ≤ 1000) : NumV (w.alloc (.cells (zs.map iV).toArray 3)) (some ⟨w.heap.size, 0, none⟩) zs.length zs.length zs :=
  ⟨rfl, hz, fun e => (by cases e), ⟨Nat.le_refl _, by unfold maxLen; omega⟩, .inr ⟨w.heap.size, 0, rfl, fun i hi => ncell_at (by simp [iV, List.getD, hi])⟩⟩
theorem tail3 {F G : Nat → Nat → Nat → World → Prop} {goal : Prop} (main : (∀ p q r W, F p q r W → G p q r W) → goal) (tail : ∀ p q r W, F p q r W → G p q r W) : goal := main tail
/-- Three rows that the law writes out. -/
def Rw3 (W0 : World) (p q r : Nat) (W : World) : Prop := Below W0.heap.size W0 W ∧ NumV W (some ⟨p, 0, none⟩) 1 1 [0] ∧ NumV W (some ⟨q, 0, none⟩) 2 2 [0, 1] ∧ NumV W (some ⟨r, 0, none⟩) 1 1 [2]
theorem lists_new {W : World} {p q r : Nat} (h1 : NumV W (some ⟨p, 0, none⟩) 1 1 [0]) (h2 : NumV W (some ⟨q, 0, none⟩) 2 2 [0, 1]) (h3 : NumV W (some ⟨r, 0, none⟩) 1 1 [2]) : LsV (W.alloc (.cells #[.slice (some ⟨p, 0, none⟩) 1 1, .slice (some ⟨q, 0, none⟩) 2 2, .slice (some ⟨r, 0, none⟩) 1 1, .slice none 0 0, .slice none 0 0] 30)) (some ⟨W.heap.size, 0, none⟩) 5 5 [[0], [0, 1], [2], [], []] := by
  refine ⟨rfl, ⟨Nat.le_refl _, by decide⟩, .inr ⟨W.heap.size, 0, rfl, fun i hi => ?_⟩⟩
  rcases (show i = 0 ∨ i = 1 ∨ i = 2 ∨ i = 3 ∨ i = 4 by omega) with rfl | rfl | rfl | rfl | rfl
  · exact ⟨_, _, ncell_at rfl, h1.below (bl1 _ _)⟩
  · exact ⟨_, _, ncell_at rfl, h2.below (bl1 _ _)⟩
  · exact ⟨_, _, ncell_at rfl, h3.below (bl1 _ _)⟩
  · exact ⟨_, _, ncell_at rfl, NumV.nil _⟩
  · exact ⟨_, _, ncell_at rfl, NumV.nil _⟩
set_option maxRecDepth 100000 in
set_option maxHeartbeats 16000000 in
theorem live_any {w : World} (he : Env w) : Calls Tryd.prog 9 #[] w fun e w' => e = .returned (.bool true) ∧ Below w.heap.size w w' := by
  have HE : Hid (∀ W, Below w.heap.size w W → Env W) := fun W hW => he.below hW
  have hsz1 : ∀ x ∈ F.sumF.code, x.args.length ≤ 17592186044416 := by unfold F.sumF F.sumC; decide +kernel
  have hsz2 : ∀ x ∈ F.sumF.code, x.args.length * 8 ≤ 140737488355328 := by unfold F.sumF F.sumC; decide +kernel
  have HSZ : Hid ((∀ x ∈ F.sumF.code, x.args.length ≤ 17592186044416) ∧ ∀ x ∈ F.sumF.code, x.args.length * 8 ≤ 140737488355328) := ⟨hsz1, hsz2⟩
  clear he hsz1 hsz2
  obtain ⟨FN, hFN⟩ : ∃ FN : Nat → Value, (fun g => fnV F.sumF (some ⟨g, 0, none⟩) 5 5) = FN := ⟨_, rfl⟩
  have HSU : Hid (∀ W, Calls Tryd.prog 20 #[] W fun e W' => ∃ g, e = .returned (FN g) ∧ OpsV W' (some ⟨g, 0, none⟩) 5 5 F.sumF.code ∧ Below W.heap.size W W') := fun W => by rw [← hFN]; exact sum_any W
  have HLI : Hid (∀ W g, Below w.heap.size w W → OpsV W (some ⟨g, 0, none⟩) 5 5 F.sumF.code → Calls Tryd.prog 11 #[FN g] W fun e W' => Below W.heap.size W W' ∧ ∃ a c a2 c2, e = .returned (.tuple #[.slice a 5 c, .slice a2 0 c2, .int .i64 0]) ∧ LsV W' a 5 c [[0], [0, 1], [2], [], []]) := fun W g hW ho => by
    rw [← hFN]
    refine (liveP_any ho (HE.out W hW) F.sum_tab).mono fun e W' h => ?_
    obtain ⟨h1, h2⟩ := h
    rw [if_pos F.sum_may] at h2
    obtain ⟨a, c, a2, c2, e1, h3, -⟩ := h2
    rw [F.sum_firsts] at e1
    rw [F.sum_outs] at h3
    exact ⟨h1, a, c, a2, c2, e1, h3⟩
  have HAL : Hid (∀ W g, Below w.heap.size w W → OpsV W (some ⟨g, 0, none⟩) 5 5 F.sumF.code → Calls Tryd.prog 16 #[FN g] W fun e W' => Below W.heap.size W W' ∧ ∃ q S ws, e = .returned (.tuple #[.agg #[.slice (some ⟨q, 0, none⟩) 3 3, .int .i64 S], .int .i64 0]) ∧ NumV W' (some ⟨q, 0, none⟩) 3 3 ws ∧ F.rightB F.sumF F.sumTab ws S = true) := fun W g hW ho => by
    rw [← hFN]
    refine (alloc_any ho (HE.out W hW) HSZ.out.1).mono fun e W' h => ?_
    obtain ⟨h1, h2⟩ := h
    rw [if_pos F.sum_may] at h2
    obtain ⟨q, T, n, U, hT, hu, hq, e1, h3⟩ := h2
    obtain rfl : T = 3 := by have : (3 : Int) = T := hT; omega
    exact ⟨h1, q, _, _, e1, h3, F.alc_right_tab hu F.sum_tab⟩
  have HRI : Hid (∀ W g q S ws, Below w.heap.size w W → OpsV W (some ⟨g, 0, none⟩) 5 5 F.sumF.code → NumV W (some ⟨q, 0, none⟩) 3 3 ws → F.rightB F.sumF F.sumTab ws S = true → Calls Tryd.prog 18 #[FN g, .agg #[.slice (some ⟨q, 0, none⟩) 3 3, .int .i64 S]] W fun e W' => e = .returned (.bool true) ∧ Below W.heap.size W W') := fun W g q S ws hW ho hn hr => by
    rw [← hFN]
    have := rRight_any ho HSZ.out.2 F.sum_tab hn S
    rwa [hr] at this
  have HCB : Hid (∀ W g q, Below w.heap.size w W → OpsV W (some ⟨g, 0, none⟩) 5 5 F.sumF.code → NumV W (some ⟨q, 0, none⟩) 3 3 [1, 1, 1] → Calls Tryd.prog 19 #[FN g, .agg #[.slice (some ⟨q, 0, none⟩) 3 3, .int .i64 0]] W fun e W' => e = .returned (.int .i64 1) ∧ Below W.heap.size W W') := fun W g q hW ho hn => by
    rw [← hFN]
    have := check_any (slots := 0) ho hn (HE.out W hW)
    rw [F.sum_bad] at this
    exact this
  have HCG : Hid (∀ W g q, Below w.heap.size w W → OpsV W (some ⟨g, 0, none⟩) 5 5 F.sumF.code → NumV W (some ⟨q, 0, none⟩) 3 3 [1, 2, 1] → Calls Tryd.prog 19 #[FN g, .agg #[.slice (some ⟨q, 0, none⟩) 3 3, .int .i64 0]] W fun e W' => e = .returned (.int .i64 0) ∧ Below W.heap.size W W') := fun W g q hW ho hn => by
    rw [← hFN]
    have := check_any (slots := 0) ho hn (HE.out W hW)
    rw [F.sum_good] at this
    exact this
  clear hFN HE HSZ
  go_enter Tryd.func9, Tryd.ntmps9
  go_wp2_with fail
  refine (HSU.out w).mono ?_
  rintro e y1 ⟨g1, rfl, ho1, hb1⟩
  have HB1 : Hid (Below w.heap.size w y1) := hb1
  have HL1 : Hid _ := HLI.out y1 g1 hb1 ho1
  clear hb1 ho1 HLI
  go_wp2_with fail
  refine Calls.mono HL1.out ?_
  rintro e y2 ⟨hb2, a, c, a2, c2, rfl, hls⟩
  have HB2 : Hid (Below w.heap.size w y2) := HB1.out.trans (hb2.mono HB1.out.size)
  have HLS : Hid (LsV y2 a 5 c [[0], [0, 1], [2], [], []]) := hls
  clear hb2 hls HL1 HB1
  go_wp2_with fail
  refine (HSU.out y2).mono ?_
  rintro e y3 ⟨g3, rfl, ho3, hb3⟩
  have HB3 : Hid (Below w.heap.size w y3) := HB2.out.trans (hb3.mono HB2.out.size)
  have HLS3 : Hid (LsV y3 a 5 c [[0], [0, 1], [2], [], []]) := HLS.out.below hb3
  have HA3 : Hid _ := HAL.out y3 g3 HB3.out ho3
  clear hb3 ho3 HAL HLS HB2
  go_wp2_with fail
  refine Calls.mono HA3.out ?_
  rintro e y4 ⟨hb4, g, S, ws, rfl, hnum, hrt⟩
  obtain ⟨b4, hb4e⟩ : ∃ b4, y4.heap.size = b4 := ⟨_, rfl⟩
  obtain ⟨W5, hW5⟩ : ∃ W5, y4.alloc (.cells #[.slice (some ⟨g, 0, none⟩) 3 3, .int .i64 S] 38) = W5 := ⟨_, rfl⟩
  have HB5 : Hid (Below w.heap.size w W5 ∧ LsV W5 a 5 c [[0], [0, 1], [2], [], []] ∧ NumV W5 (some ⟨g, 0, none⟩) 3 3 ws ∧ F.rightB F.sumF F.sumTab ws S = true ∧ b4 < W5.heap.size ∧ Bx W5 b4 [.slice (some ⟨g, 0, none⟩) 3 3, .int .i64 S]) := by
    have h1 := HB3.out.trans (hb4.mono HB3.out.size)
    show _ ∧ _
    rw [← hW5, ← hb4e]
    exact ⟨h1.alloc h1.size _, (HLS3.out.below hb4).below (bl1 _ _), hnum.below (bl1 _ _), hrt, by simp, Bx.new y4 #[.slice (some ⟨g, 0, none⟩) 3 3, .int .i64 S] _⟩
  clear hb4 hnum hrt HA3 HB3 HLS3
  go_wp2_with fail
  try rw [hW5]
  try rw [hb4e]
  clear hW5 hb4e
  have HS : Hid (∀ W, Below W5.heap.size W5 W → W.cell? ⟨b4, 0, none⟩ = some (.slice (some ⟨g, 0, none⟩) 3 3) ∧ W.cell? ⟨b4, 1, none⟩ = some (.int .i64 S)) := fun W hW => by
    have h := HB5.out.2.2.2.2.2.below hW
    exact ⟨h.c 0 _ rfl, h.c 1 _ rfl⟩
  have HBW : Hid (∀ W, Below W5.heap.size W5 W → Below w.heap.size w W) := fun W hW => HB5.out.1.trans (hW.mono HB5.out.1.size)
  refine wp_region_held_drew (S := (fun w' : World => w'.cell? ⟨b4, 0, none⟩ = some (.slice (some ⟨g, 0, none⟩) 3 3) ∧ w'.cell? ⟨b4, 1, none⟩ = some (.int .i64 S))) (by kernel_rfl) (HS.out _ (Below.refl _ _).drew) (fun hHeld => ?_)
  obtain ⟨Z0, hZ0⟩ : ∃ Z0, W5.drew = Z0 := ⟨_, rfl⟩
  have HBZ0 : Hid (Below W5.heap.size W5 Z0) := by show Below _ _ _; rw [← hZ0]; exact (Below.refl _ _).drew
  rw [hZ0]
  rw [hZ0] at hHeld
  clear hZ0
  apply tail3 (F := Rw3 W5)
  case main =>
    intro HTL
    refine tkr (i := 0) (v := ?_) (tA rfl) (by kernel_rfl) (fun _ _ _ h => h) (Or.inl ⟨by rfl, ?_⟩) (by assumption) ?_
    rotate_left
    · (intro w hSw; (try dsimp only at hSw); go_simp <;> with_reducible rfl)
    simp only [Act.put, List.setIfInBounds_toArray, List.set_cons_zero, List.set_cons_succ]
    refine tkr (i := 1) (v := ?_) (tA rfl) (by kernel_rfl) (fun _ _ _ h => h) (Or.inl ⟨by rfl, ?_⟩) (by assumption) ?_
    rotate_left
    · (intro w hSw; (try dsimp only at hSw); go_simp <;> with_reducible rfl)
    simp only [Act.put, List.setIfInBounds_toArray, List.set_cons_zero, List.set_cons_succ]
    refine tkr (i := 2) (v := ?_) (tA rfl) (by kernel_rfl) (fun _ _ _ h => h) (Or.inl ⟨by rfl, ?_⟩) (by assumption) ?_
    rotate_left
    · (intro w hSw; (try dsimp only at hSw); go_simp <;> with_reducible rfl)
    simp only [Act.put, List.setIfInBounds_toArray, List.set_cons_zero, List.set_cons_succ]
    refine tkr (i := 3) (v := ?_) (tA rfl) (by kernel_rfl) (fun _ _ _ h => h) (Or.inl ⟨by rfl, ?_⟩) (by assumption) ?_
    rotate_left
    · (intro w hSw; (try dsimp only at hSw); go_simp <;> with_reducible rfl)
    simp only [Act.put, List.setIfInBounds_toArray, List.set_cons_zero, List.set_cons_succ]
    refine tkr (i := 4) (v := ?_) (tA rfl) (by kernel_rfl) (fun _ _ _ h => h) (Or.inl ⟨by rfl, ?_⟩) (by assumption) ?_
    rotate_left
    · (intro w hSw; (try dsimp only at hSw); go_simp <;> with_reducible rfl)
    simp only [Act.put, List.setIfInBounds_toArray, List.set_cons_zero, List.set_cons_succ]
    refine tkr (i := 5) (v := ?_) (tA rfl) (by kernel_rfl) (fun _ _ _ h => h) (Or.inl ⟨by rfl, ?_⟩) (by assumption) ?_
    rotate_left
    · (intro w hSw; (try dsimp only at hSw); go_simp <;> with_reducible rfl)
    simp only [Act.put, List.setIfInBounds_toArray, List.set_cons_zero, List.set_cons_succ]
    refine tkr (i := 6) (v := ?_) (tA rfl) (by kernel_rfl) (fun _ _ _ h => h) (Or.inl ⟨by rfl, ?_⟩) (by assumption) ?_
    rotate_left
    · (intro w hSw; (try dsimp only at hSw); go_simp <;> with_reducible rfl)
    simp only [Act.put, List.setIfInBounds_toArray, List.set_cons_zero, List.set_cons_succ]
    refine tkr (i := 7) (v := ?_) (tA rfl) (by kernel_rfl) (fun _ _ _ h => h) (Or.inl ⟨by rfl, ?_⟩) (by assumption) ?_
    rotate_left
    · (intro w hSw; (try dsimp only at hSw); go_simp <;> with_reducible rfl)
    simp only [Act.put, List.setIfInBounds_toArray, List.set_cons_zero, List.set_cons_succ]
    refine tkr (i := 8) (v := ?_) (tA rfl) (by kernel_rfl) (fun _ _ _ h => h) (Or.inl ⟨by rfl, ?_⟩) (by assumption) ?_
    rotate_left
    · (intro w hSw; (try dsimp only at hSw); go_simp <;> with_reducible rfl)
    simp only [Act.put, List.setIfInBounds_toArray, List.set_cons_zero, List.set_cons_succ]
    refine tkr (i := 9) (v := ?_) (tA rfl) (by kernel_rfl) (fun _ _ _ h => h) (Or.inl ⟨by rfl, ?_⟩) (by assumption) ?_
    rotate_left
    · (intro w hSw; (try dsimp only at hSw); go_simp <;> with_reducible rfl)
    simp only [Act.put, List.setIfInBounds_toArray, List.set_cons_zero, List.set_cons_succ]
    refine tkr (i := 10) (v := ?_) (tA rfl) (by kernel_rfl) (fun _ _ _ h => h) (Or.inl ⟨by rfl, ?_⟩) (by assumption) ?_
    rotate_left
    · (intro w hSw; (try dsimp only at hSw); go_simp <;> with_reducible rfl)
    simp only [Act.put, List.setIfInBounds_toArray, List.set_cons_zero, List.set_cons_succ]
    refine tkr (i := 11) (v := ?_) (tA rfl) (by kernel_rfl) (fun _ _ _ h => h) (Or.inl ⟨by rfl, ?_⟩) (by assumption) ?_
    rotate_left
    · (intro w hSw; (try dsimp only at hSw); go_simp <;> with_reducible rfl)
    simp only [Act.put, List.setIfInBounds_toArray, List.set_cons_zero, List.set_cons_succ]
    refine tkr (i := 12) (v := ?_) (tA rfl) (by kernel_rfl) (fun _ _ _ h => h) (Or.inl ⟨by rfl, ?_⟩) (by assumption) ?_
    rotate_left
    · (intro w hSw; (try dsimp only at hSw); go_simp <;> with_reducible rfl)
    simp only [Act.put, List.setIfInBounds_toArray, List.set_cons_zero, List.set_cons_succ]
    refine wpAnyH_ready (rs := [13, 14, 15]) (by kernel_rfl) (by simp) ?_
    refine AllReadyH.cons (tA rfl) (fun K hK => ?_) (AllReadyH.cons (tA rfl) (fun K hK => ?_) (AllReadyH.cons (tA rfl) (fun K hK => ?_) AllReadyH.nil))
    · obtain ⟨p, hv⟩ : ∃ g, Z0.heap.size = g := ⟨_, rfl⟩
      obtain ⟨Z1, hZn⟩ : ∃ Y, Z0.alloc (.cells #[.int .i64 0] 3) = Y := ⟨_, rfl⟩
      have hb : Below Z0.heap.size Z0 Z1 := by rw [← hZn]; exact bl1 _ _
      have HP1 : Hid (NumV Z1 (some ⟨p, 0, none⟩) 1 1 [0]) := by show NumV _ _ _ _ _; rw [← hZn, ← hv]; exact num_new Z0 [0] (by decide) (by decide)
      have HBZ1 : Hid (Below W5.heap.size W5 Z1) := HBZ0.out.trans (hb.mono HBZ0.out.size)
      have HV : Hid (Z0.heap.size = p) := hv
      have HZN : Hid (Z0.alloc (.cells #[.int .i64 0] 3) = Z1) := hZn
      clear hb hv hZn
      go_simp
      rw [HZN.out, HV.out]
      clear HV HZN
      refine hK.out _ _ (HS.out _ HBZ1.out) (fun hHeld => ?_)
      clear hK K
      try simp only [Act.put, List.setIfInBounds_toArray, List.set_cons_zero, List.set_cons_succ]
      refine wpAnyH_ready (rs := [14, 15]) (by kernel_rfl) (by simp) ?_
      refine AllReadyH.cons (tA rfl) (fun K hK => ?_) (AllReadyH.cons (tA rfl) (fun K hK => ?_) AllReadyH.nil)
      · obtain ⟨q, hv⟩ : ∃ g, Z1.heap.size = g := ⟨_, rfl⟩
        obtain ⟨Z2, hZn⟩ : ∃ Y, Z1.alloc (.cells #[.int .i64 0, .int .i64 1] 3) = Y := ⟨_, rfl⟩
        have hb : Below Z1.heap.size Z1 Z2 := by rw [← hZn]; exact bl1 _ _
        have HQ2 : Hid (NumV Z2 (some ⟨q, 0, none⟩) 2 2 [0, 1]) := by show NumV _ _ _ _ _; rw [← hZn, ← hv]; exact num_new Z1 [0, 1] (by decide) (by decide)
        have HBZ2 : Hid (Below W5.heap.size W5 Z2) := HBZ1.out.trans (hb.mono HBZ1.out.size)
        have HP2 : Hid (NumV Z2 (some ⟨p, 0, none⟩) 1 1 [0]) := HP1.out.below hb
        have HV : Hid (Z1.heap.size = q) := hv
        have HZN : Hid (Z1.alloc (.cells #[.int .i64 0, .int .i64 1] 3) = Z2) := hZn
        clear hb hv hZn
        go_simp
        rw [HZN.out, HV.out]
        clear HV HZN
        refine hK.out _ _ (HS.out _ HBZ2.out) (fun hHeld => ?_)
        clear hK K
        try simp only [Act.put, List.setIfInBounds_toArray, List.set_cons_zero, List.set_cons_succ]
        refine wpAnyH_ready (rs := [15]) (by kernel_rfl) (by simp) ?_
        refine AllReadyH.cons (tA rfl) (fun K hK => ?_) AllReadyH.nil
        · obtain ⟨r, hv⟩ : ∃ g, Z2.heap.size = g := ⟨_, rfl⟩
          obtain ⟨Z3, hZn⟩ : ∃ Y, Z2.alloc (.cells #[.int .i64 2] 3) = Y := ⟨_, rfl⟩
          have hb : Below Z2.heap.size Z2 Z3 := by rw [← hZn]; exact bl1 _ _
          have HR3 : Hid (NumV Z3 (some ⟨r, 0, none⟩) 1 1 [2]) := by show NumV _ _ _ _ _; rw [← hZn, ← hv]; exact num_new Z2 [2] (by decide) (by decide)
          have HBZ3 : Hid (Below W5.heap.size W5 Z3) := HBZ2.out.trans (hb.mono HBZ2.out.size)
          have HP3 : Hid (NumV Z3 (some ⟨p, 0, none⟩) 1 1 [0]) := HP2.out.below hb
          have HQ3 : Hid (NumV Z3 (some ⟨q, 0, none⟩) 2 2 [0, 1]) := HQ2.out.below hb
          have HV : Hid (Z2.heap.size = r) := hv
          have HZN : Hid (Z2.alloc (.cells #[.int .i64 2] 3) = Z3) := hZn
          clear hb hv hZn
          go_simp
          rw [HZN.out, HV.out]
          clear HV HZN
          refine hK.out _ _ (HS.out _ HBZ3.out) (fun hHeld => ?_)
          clear hK K
          try simp only [Act.put, List.setIfInBounds_toArray, List.set_cons_zero, List.set_cons_succ]
          exact HTL p q r Z3 ⟨HBZ3.out, HP3.out, HQ3.out, HR3.out⟩
      · obtain ⟨r, hv⟩ : ∃ g, Z1.heap.size = g := ⟨_, rfl⟩
        obtain ⟨Z2, hZn⟩ : ∃ Y, Z1.alloc (.cells #[.int .i64 2] 3) = Y := ⟨_, rfl⟩
        have hb : Below Z1.heap.size Z1 Z2 := by rw [← hZn]; exact bl1 _ _
        have HR2 : Hid (NumV Z2 (some ⟨r, 0, none⟩) 1 1 [2]) := by show NumV _ _ _ _ _; rw [← hZn, ← hv]; exact num_new Z1 [2] (by decide) (by decide)
        have HBZ2 : Hid (Below W5.heap.size W5 Z2) := HBZ1.out.trans (hb.mono HBZ1.out.size)
        have HP2 : Hid (NumV Z2 (some ⟨p, 0, none⟩) 1 1 [0]) := HP1.out.below hb
        have HV : Hid (Z1.heap.size = r) := hv
        have HZN : Hid (Z1.alloc (.cells #[.int .i64 2] 3) = Z2) := hZn
        clear hb hv hZn
        go_simp
        rw [HZN.out, HV.out]
        clear HV HZN
        refine hK.out _ _ (HS.out _ HBZ2.out) (fun hHeld => ?_)
        clear hK K
        try simp only [Act.put, List.setIfInBounds_toArray, List.set_cons_zero, List.set_cons_succ]
        refine wpAnyH_ready (rs := [14]) (by kernel_rfl) (by simp) ?_
        refine AllReadyH.cons (tA rfl) (fun K hK => ?_) AllReadyH.nil
        · obtain ⟨q, hv⟩ : ∃ g, Z2.heap.size = g := ⟨_, rfl⟩
          obtain ⟨Z3, hZn⟩ : ∃ Y, Z2.alloc (.cells #[.int .i64 0, .int .i64 1] 3) = Y := ⟨_, rfl⟩
          have hb : Below Z2.heap.size Z2 Z3 := by rw [← hZn]; exact bl1 _ _
          have HQ3 : Hid (NumV Z3 (some ⟨q, 0, none⟩) 2 2 [0, 1]) := by show NumV _ _ _ _ _; rw [← hZn, ← hv]; exact num_new Z2 [0, 1] (by decide) (by decide)
          have HBZ3 : Hid (Below W5.heap.size W5 Z3) := HBZ2.out.trans (hb.mono HBZ2.out.size)
          have HP3 : Hid (NumV Z3 (some ⟨p, 0, none⟩) 1 1 [0]) := HP2.out.below hb
          have HR3 : Hid (NumV Z3 (some ⟨r, 0, none⟩) 1 1 [2]) := HR2.out.below hb
          have HV : Hid (Z2.heap.size = q) := hv
          have HZN : Hid (Z2.alloc (.cells #[.int .i64 0, .int .i64 1] 3) = Z3) := hZn
          clear hb hv hZn
          go_simp
          rw [HZN.out, HV.out]
          clear HV HZN
          refine hK.out _ _ (HS.out _ HBZ3.out) (fun hHeld => ?_)
          clear hK K
          try simp only [Act.put, List.setIfInBounds_toArray, List.set_cons_zero, List.set_cons_succ]
          exact HTL p q r Z3 ⟨HBZ3.out, HP3.out, HQ3.out, HR3.out⟩
    · obtain ⟨q, hv⟩ : ∃ g, Z0.heap.size = g := ⟨_, rfl⟩
      obtain ⟨Z1, hZn⟩ : ∃ Y, Z0.alloc (.cells #[.int .i64 0, .int .i64 1] 3) = Y := ⟨_, rfl⟩
      have hb : Below Z0.heap.size Z0 Z1 := by rw [← hZn]; exact bl1 _ _
      have HQ1 : Hid (NumV Z1 (some ⟨q, 0, none⟩) 2 2 [0, 1]) := by show NumV _ _ _ _ _; rw [← hZn, ← hv]; exact num_new Z0 [0, 1] (by decide) (by decide)
      have HBZ1 : Hid (Below W5.heap.size W5 Z1) := HBZ0.out.trans (hb.mono HBZ0.out.size)
      have HV : Hid (Z0.heap.size = q) := hv
      have HZN : Hid (Z0.alloc (.cells #[.int .i64 0, .int .i64 1] 3) = Z1) := hZn
      clear hb hv hZn
      go_simp
      rw [HZN.out, HV.out]
      clear HV HZN
      refine hK.out _ _ (HS.out _ HBZ1.out) (fun hHeld => ?_)
      clear hK K
      try simp only [Act.put, List.setIfInBounds_toArray, List.set_cons_zero, List.set_cons_succ]
      refine wpAnyH_ready (rs := [13, 15]) (by kernel_rfl) (by simp) ?_
      refine AllReadyH.cons (tA rfl) (fun K hK => ?_) (AllReadyH.cons (tA rfl) (fun K hK => ?_) AllReadyH.nil)
      · obtain ⟨p, hv⟩ : ∃ g, Z1.heap.size = g := ⟨_, rfl⟩
        obtain ⟨Z2, hZn⟩ : ∃ Y, Z1.alloc (.cells #[.int .i64 0] 3) = Y := ⟨_, rfl⟩
        have hb : Below Z1.heap.size Z1 Z2 := by rw [← hZn]; exact bl1 _ _
        have HP2 : Hid (NumV Z2 (some ⟨p, 0, none⟩) 1 1 [0]) := by show NumV _ _ _ _ _; rw [← hZn, ← hv]; exact num_new Z1 [0] (by decide) (by decide)
        have HBZ2 : Hid (Below W5.heap.size W5 Z2) := HBZ1.out.trans (hb.mono HBZ1.out.size)
        have HQ2 : Hid (NumV Z2 (some ⟨q, 0, none⟩) 2 2 [0, 1]) := HQ1.out.below hb
        have HV : Hid (Z1.heap.size = p) := hv
        have HZN : Hid (Z1.alloc (.cells #[.int .i64 0] 3) = Z2) := hZn
        clear hb hv hZn
        go_simp
        rw [HZN.out, HV.out]
        clear HV HZN
        refine hK.out _ _ (HS.out _ HBZ2.out) (fun hHeld => ?_)
        clear hK K
        try simp only [Act.put, List.setIfInBounds_toArray, List.set_cons_zero, List.set_cons_succ]
        refine wpAnyH_ready (rs := [15]) (by kernel_rfl) (by simp) ?_
        refine AllReadyH.cons (tA rfl) (fun K hK => ?_) AllReadyH.nil
        · obtain ⟨r, hv⟩ : ∃ g, Z2.heap.size = g := ⟨_, rfl⟩
          obtain ⟨Z3, hZn⟩ : ∃ Y, Z2.alloc (.cells #[.int .i64 2] 3) = Y := ⟨_, rfl⟩
          have hb : Below Z2.heap.size Z2 Z3 := by rw [← hZn]; exact bl1 _ _
          have HR3 : Hid (NumV Z3 (some ⟨r, 0, none⟩) 1 1 [2]) := by show NumV _ _ _ _ _; rw [← hZn, ← hv]; exact num_new Z2 [2] (by decide) (by decide)
          have HBZ3 : Hid (Below W5.heap.size W5 Z3) := HBZ2.out.trans (hb.mono HBZ2.out.size)
          have HP3 : Hid (NumV Z3 (some ⟨p, 0, none⟩) 1 1 [0]) := HP2.out.below hb
          have HQ3 : Hid (NumV Z3 (some ⟨q, 0, none⟩) 2 2 [0, 1]) := HQ2.out.below hb
          have HV : Hid (Z2.heap.size = r) := hv
          have HZN : Hid (Z2.alloc (.cells #[.int .i64 2] 3) = Z3) := hZn
          clear hb hv hZn
          go_simp
          rw [HZN.out, HV.out]
          clear HV HZN
          refine hK.out _ _ (HS.out _ HBZ3.out) (fun hHeld => ?_)
          clear hK K
          try simp only [Act.put, List.setIfInBounds_toArray, List.set_cons_zero, List.set_cons_succ]
          exact HTL p q r Z3 ⟨HBZ3.out, HP3.out, HQ3.out, HR3.out⟩
      · obtain ⟨r, hv⟩ : ∃ g, Z1.heap.size = g := ⟨_, rfl⟩
        obtain ⟨Z2, hZn⟩ : ∃ Y, Z1.alloc (.cells #[.int .i64 2] 3) = Y := ⟨_, rfl⟩
        have hb : Below Z1.heap.size Z1 Z2 := by rw [← hZn]; exact bl1 _ _
        have HR2 : Hid (NumV Z2 (some ⟨r, 0, none⟩) 1 1 [2]) := by show NumV _ _ _ _ _; rw [← hZn, ← hv]; exact num_new Z1 [2] (by decide) (by decide)
        have HBZ2 : Hid (Below W5.heap.size W5 Z2) := HBZ1.out.trans (hb.mono HBZ1.out.size)
        have HQ2 : Hid (NumV Z2 (some ⟨q, 0, none⟩) 2 2 [0, 1]) := HQ1.out.below hb
        have HV : Hid (Z1.heap.size = r) := hv
        have HZN : Hid (Z1.alloc (.cells #[.int .i64 2] 3) = Z2) := hZn
        clear hb hv hZn
        go_simp
        rw [HZN.out, HV.out]
        clear HV HZN
        refine hK.out _ _ (HS.out _ HBZ2.out) (fun hHeld => ?_)
        clear hK K
        try simp only [Act.put, List.setIfInBounds_toArray, List.set_cons_zero, List.set_cons_succ]
        refine wpAnyH_ready (rs := [13]) (by kernel_rfl) (by simp) ?_
        refine AllReadyH.cons (tA rfl) (fun K hK => ?_) AllReadyH.nil
        · obtain ⟨p, hv⟩ : ∃ g, Z2.heap.size = g := ⟨_, rfl⟩
          obtain ⟨Z3, hZn⟩ : ∃ Y, Z2.alloc (.cells #[.int .i64 0] 3) = Y := ⟨_, rfl⟩
          have hb : Below Z2.heap.size Z2 Z3 := by rw [← hZn]; exact bl1 _ _
          have HP3 : Hid (NumV Z3 (some ⟨p, 0, none⟩) 1 1 [0]) := by show NumV _ _ _ _ _; rw [← hZn, ← hv]; exact num_new Z2 [0] (by decide) (by decide)
          have HBZ3 : Hid (Below W5.heap.size W5 Z3) := HBZ2.out.trans (hb.mono HBZ2.out.size)
          have HQ3 : Hid (NumV Z3 (some ⟨q, 0, none⟩) 2 2 [0, 1]) := HQ2.out.below hb
          have HR3 : Hid (NumV Z3 (some ⟨r, 0, none⟩) 1 1 [2]) := HR2.out.below hb
          have HV : Hid (Z2.heap.size = p) := hv
          have HZN : Hid (Z2.alloc (.cells #[.int .i64 0] 3) = Z3) := hZn
          clear hb hv hZn
          go_simp
          rw [HZN.out, HV.out]
          clear HV HZN
          refine hK.out _ _ (HS.out _ HBZ3.out) (fun hHeld => ?_)
          clear hK K
          try simp only [Act.put, List.setIfInBounds_toArray, List.set_cons_zero, List.set_cons_succ]
          exact HTL p q r Z3 ⟨HBZ3.out, HP3.out, HQ3.out, HR3.out⟩
    · obtain ⟨r, hv⟩ : ∃ g, Z0.heap.size = g := ⟨_, rfl⟩
      obtain ⟨Z1, hZn⟩ : ∃ Y, Z0.alloc (.cells #[.int .i64 2] 3) = Y := ⟨_, rfl⟩
      have hb : Below Z0.heap.size Z0 Z1 := by rw [← hZn]; exact bl1 _ _
      have HR1 : Hid (NumV Z1 (some ⟨r, 0, none⟩) 1 1 [2]) := by show NumV _ _ _ _ _; rw [← hZn, ← hv]; exact num_new Z0 [2] (by decide) (by decide)
      have HBZ1 : Hid (Below W5.heap.size W5 Z1) := HBZ0.out.trans (hb.mono HBZ0.out.size)
      have HV : Hid (Z0.heap.size = r) := hv
      have HZN : Hid (Z0.alloc (.cells #[.int .i64 2] 3) = Z1) := hZn
      clear hb hv hZn
      go_simp
      rw [HZN.out, HV.out]
      clear HV HZN
      refine hK.out _ _ (HS.out _ HBZ1.out) (fun hHeld => ?_)
      clear hK K
      try simp only [Act.put, List.setIfInBounds_toArray, List.set_cons_zero, List.set_cons_succ]
      refine wpAnyH_ready (rs := [13, 14]) (by kernel_rfl) (by simp) ?_
      refine AllReadyH.cons (tA rfl) (fun K hK => ?_) (AllReadyH.cons (tA rfl) (fun K hK => ?_) AllReadyH.nil)
      · obtain ⟨p, hv⟩ : ∃ g, Z1.heap.size = g := ⟨_, rfl⟩
        obtain ⟨Z2, hZn⟩ : ∃ Y, Z1.alloc (.cells #[.int .i64 0] 3) = Y := ⟨_, rfl⟩
        have hb : Below Z1.heap.size Z1 Z2 := by rw [← hZn]; exact bl1 _ _
        have HP2 : Hid (NumV Z2 (some ⟨p, 0, none⟩) 1 1 [0]) := by show NumV _ _ _ _ _; rw [← hZn, ← hv]; exact num_new Z1 [0] (by decide) (by decide)
        have HBZ2 : Hid (Below W5.heap.size W5 Z2) := HBZ1.out.trans (hb.mono HBZ1.out.size)
        have HR2 : Hid (NumV Z2 (some ⟨r, 0, none⟩) 1 1 [2]) := HR1.out.below hb
        have HV : Hid (Z1.heap.size = p) := hv
        have HZN : Hid (Z1.alloc (.cells #[.int .i64 0] 3) = Z2) := hZn
        clear hb hv hZn
        go_simp
        rw [HZN.out, HV.out]
        clear HV HZN
        refine hK.out _ _ (HS.out _ HBZ2.out) (fun hHeld => ?_)
        clear hK K
        try simp only [Act.put, List.setIfInBounds_toArray, List.set_cons_zero, List.set_cons_succ]
        refine wpAnyH_ready (rs := [14]) (by kernel_rfl) (by simp) ?_
        refine AllReadyH.cons (tA rfl) (fun K hK => ?_) AllReadyH.nil
        · obtain ⟨q, hv⟩ : ∃ g, Z2.heap.size = g := ⟨_, rfl⟩
          obtain ⟨Z3, hZn⟩ : ∃ Y, Z2.alloc (.cells #[.int .i64 0, .int .i64 1] 3) = Y := ⟨_, rfl⟩
          have hb : Below Z2.heap.size Z2 Z3 := by rw [← hZn]; exact bl1 _ _
          have HQ3 : Hid (NumV Z3 (some ⟨q, 0, none⟩) 2 2 [0, 1]) := by show NumV _ _ _ _ _; rw [← hZn, ← hv]; exact num_new Z2 [0, 1] (by decide) (by decide)
          have HBZ3 : Hid (Below W5.heap.size W5 Z3) := HBZ2.out.trans (hb.mono HBZ2.out.size)
          have HP3 : Hid (NumV Z3 (some ⟨p, 0, none⟩) 1 1 [0]) := HP2.out.below hb
          have HR3 : Hid (NumV Z3 (some ⟨r, 0, none⟩) 1 1 [2]) := HR2.out.below hb
          have HV : Hid (Z2.heap.size = q) := hv
          have HZN : Hid (Z2.alloc (.cells #[.int .i64 0, .int .i64 1] 3) = Z3) := hZn
          clear hb hv hZn
          go_simp
          rw [HZN.out, HV.out]
          clear HV HZN
          refine hK.out _ _ (HS.out _ HBZ3.out) (fun hHeld => ?_)
          clear hK K
          try simp only [Act.put, List.setIfInBounds_toArray, List.set_cons_zero, List.set_cons_succ]
          exact HTL p q r Z3 ⟨HBZ3.out, HP3.out, HQ3.out, HR3.out⟩
      · obtain ⟨q, hv⟩ : ∃ g, Z1.heap.size = g := ⟨_, rfl⟩
        obtain ⟨Z2, hZn⟩ : ∃ Y, Z1.alloc (.cells #[.int .i64 0, .int .i64 1] 3) = Y := ⟨_, rfl⟩
        have hb : Below Z1.heap.size Z1 Z2 := by rw [← hZn]; exact bl1 _ _
        have HQ2 : Hid (NumV Z2 (some ⟨q, 0, none⟩) 2 2 [0, 1]) := by show NumV _ _ _ _ _; rw [← hZn, ← hv]; exact num_new Z1 [0, 1] (by decide) (by decide)
        have HBZ2 : Hid (Below W5.heap.size W5 Z2) := HBZ1.out.trans (hb.mono HBZ1.out.size)
        have HR2 : Hid (NumV Z2 (some ⟨r, 0, none⟩) 1 1 [2]) := HR1.out.below hb
        have HV : Hid (Z1.heap.size = q) := hv
        have HZN : Hid (Z1.alloc (.cells #[.int .i64 0, .int .i64 1] 3) = Z2) := hZn
        clear hb hv hZn
        go_simp
        rw [HZN.out, HV.out]
        clear HV HZN
        refine hK.out _ _ (HS.out _ HBZ2.out) (fun hHeld => ?_)
        clear hK K
        try simp only [Act.put, List.setIfInBounds_toArray, List.set_cons_zero, List.set_cons_succ]
        refine wpAnyH_ready (rs := [13]) (by kernel_rfl) (by simp) ?_
        refine AllReadyH.cons (tA rfl) (fun K hK => ?_) AllReadyH.nil
        · obtain ⟨p, hv⟩ : ∃ g, Z2.heap.size = g := ⟨_, rfl⟩
          obtain ⟨Z3, hZn⟩ : ∃ Y, Z2.alloc (.cells #[.int .i64 0] 3) = Y := ⟨_, rfl⟩
          have hb : Below Z2.heap.size Z2 Z3 := by rw [← hZn]; exact bl1 _ _
          have HP3 : Hid (NumV Z3 (some ⟨p, 0, none⟩) 1 1 [0]) := by show NumV _ _ _ _ _; rw [← hZn, ← hv]; exact num_new Z2 [0] (by decide) (by decide)
          have HBZ3 : Hid (Below W5.heap.size W5 Z3) := HBZ2.out.trans (hb.mono HBZ2.out.size)
          have HQ3 : Hid (NumV Z3 (some ⟨q, 0, none⟩) 2 2 [0, 1]) := HQ2.out.below hb
          have HR3 : Hid (NumV Z3 (some ⟨r, 0, none⟩) 1 1 [2]) := HR2.out.below hb
          have HV : Hid (Z2.heap.size = p) := hv
          have HZN : Hid (Z2.alloc (.cells #[.int .i64 0] 3) = Z3) := hZn
          clear hb hv hZn
          go_simp
          rw [HZN.out, HV.out]
          clear HV HZN
          refine hK.out _ _ (HS.out _ HBZ3.out) (fun hHeld => ?_)
          clear hK K
          try simp only [Act.put, List.setIfInBounds_toArray, List.set_cons_zero, List.set_cons_succ]
          exact HTL p q r Z3 ⟨HBZ3.out, HP3.out, HQ3.out, HR3.out⟩
  case tail =>
    rintro p q r Z ⟨hb, h1, h2, h3⟩
    have HBZ : Hid (Below W5.heap.size W5 Z) := hb
    have HP : Hid (LsV (Z.alloc (.cells #[.slice (some ⟨p, 0, none⟩) 1 1, .slice (some ⟨q, 0, none⟩) 2 2, .slice (some ⟨r, 0, none⟩) 1 1, .slice none 0 0, .slice none 0 0] 30)) (some ⟨Z.heap.size, 0, none⟩) 5 5 [[0], [0, 1], [2], [], []]) := lists_new h1 h2 h3
    have hHeld := HS.out _ HBZ.out
    clear hb h1 h2 h3
    obtain ⟨g33, hv⟩ : ∃ g, Z.heap.size = g := ⟨_, rfl⟩
    obtain ⟨Y, hZn⟩ : ∃ Y, Z.alloc (.cells #[.slice (some ⟨p, 0, none⟩) 1 1, .slice (some ⟨q, 0, none⟩) 2 2, .slice (some ⟨r, 0, none⟩) 1 1, .slice none 0 0, .slice none 0 0] 30) = Y := ⟨_, rfl⟩
    have hby : Below Z.heap.size Z Y := by rw [← hZn]; exact bl1 _ _
    have HBY : Hid (Below W5.heap.size W5 Y) := HBZ.out.trans (hby.mono HBZ.out.size)
    rw [hZn, hv] at HP
    have HV : Hid (Z.heap.size = g33) := hv
    have HZN : Hid (Z.alloc (.cells #[.slice (some ⟨p, 0, none⟩) 1 1, .slice (some ⟨q, 0, none⟩) 2 2, .slice (some ⟨r, 0, none⟩) 1 1, .slice none 0 0, .slice none 0 0] 30) = Y) := hZn
    clear hv hZn hby
    refine wpAnyH_ready (rs := [16]) (by kernel_rfl) (by simp) ?_
    refine AllReadyH.cons (tA rfl) (fun K hK => ?_) AllReadyH.nil
    clear hHeld
    go_simp
    rw [HZN.out, HV.out]
    clear HV HZN
    refine hK.out _ _ (HS.out _ HBY.out) (fun hHeld => ?_)
    clear hK K
    try simp only [Act.put, List.setIfInBounds_toArray, List.set_cons_zero, List.set_cons_succ]
    refine wpAnyH_ready (rs := [17]) (by kernel_rfl) (by simp) ?_
    refine AllReadyH.cons (tA rfl) (fun K hK => ?_) AllReadyH.nil
    clear hHeld
    have HSL : Hid _ := rSameLists_any (HB5.out.2.1.below HBY.out) HP.out
    rw [show decide (([[0], [0, 1], [2], [], []] : List (List Int)) = [[0], [0, 1], [2], [], []]) = true from by decide] at HSL
    go_simp
    refine Calls.mono HSL.out ?_
    rintro e y5 ⟨rfl, hb⟩
    have HB6 : Hid (Below W5.heap.size W5 y5) := HBY.out.trans (hb.mono HBY.out.size)
    clear hb HSL HP
    try go_wp2_with fail
    refine hK.out _ _ (HS.out _ HB6.out) (fun hHeld => ?_)
    clear hK K
    try simp only [Act.put, List.setIfInBounds_toArray, List.set_cons_zero, List.set_cons_succ]
    refine tkr (i := 18) (v := ?_) (tA rfl) (by kernel_rfl) (fun _ _ _ h => h) (Or.inl ⟨by rfl, ?_⟩) (by assumption) ?_
    rotate_left
    · (intro w hSw; (try dsimp only at hSw); go_simp <;> with_reducible rfl)
    simp only [Act.put, List.setIfInBounds_toArray, List.set_cons_zero, List.set_cons_succ]
    refine tkr (i := 19) (v := ?_) (tA rfl) (by kernel_rfl) (fun _ _ _ h => h) (Or.inl ⟨by rfl, ?_⟩) (by assumption) ?_
    rotate_left
    · (intro w hSw; (try dsimp only at hSw); go_simp <;> with_reducible rfl)
    simp only [Act.put, List.setIfInBounds_toArray, List.set_cons_zero, List.set_cons_succ]
    refine tkr (i := 21) (v := ?_) (tA rfl) (by kernel_rfl) (fun _ _ _ h => h) (Or.inl ⟨by rfl, ?_⟩) (by assumption) ?_
    rotate_left
    · (intro w hSw; (try dsimp only at hSw); go_simp <;> with_reducible rfl)
    simp only [Act.put, List.setIfInBounds_toArray, List.set_cons_zero, List.set_cons_succ]
    refine wpAnyH_ready (rs := [20]) (by kernel_rfl) (by simp) ?_
    refine AllReadyH.cons (tA rfl) (fun K hK => ?_) AllReadyH.nil
    clear hHeld
    go_simp
    refine (HSU.out y5).mono ?_
    rintro e y6 ⟨g6, rfl, ho6, hb⟩
    have HB7 : Hid (Below W5.heap.size W5 y6) := HB6.out.trans (hb.mono HB6.out.size)
    have HR7 : Hid _ := HRI.out y6 g6 g S ws (HBW.out _ HB7.out) ho6 (HB5.out.2.2.1.below HB7.out) HB5.out.2.2.2.1
    clear hb ho6
    try go_wp2_with fail
    refine hK.out _ _ (HS.out _ HB7.out) (fun hHeld => ?_)
    clear hK K
    try simp only [Act.put, List.setIfInBounds_toArray, List.set_cons_zero, List.set_cons_succ]
    refine wpAnyH_ready (rs := [22]) (by kernel_rfl) (by simp) ?_
    refine AllReadyH.cons (tA rfl) (fun K hK => ?_) AllReadyH.nil
    clear hHeld
    go_simp
    refine Calls.mono HR7.out ?_
    rintro e y7 ⟨rfl, hb⟩
    have HBZ0 : Hid (Below W5.heap.size W5 y7) := HB7.out.trans (hb.mono HB7.out.size)
    clear hb HR7 HB7 HB6 HBY HBZ
    try go_wp2_with fail
    refine hK.out _ _ (HS.out _ HBZ0.out) (fun hHeld => ?_)
    clear hK K
    try simp only [Act.put, List.setIfInBounds_toArray, List.set_cons_zero, List.set_cons_succ]
    refine tkr (i := 23) (v := ?_) (tA rfl) (by kernel_rfl) (fun _ _ _ h => h) (Or.inl ⟨by rfl, ?_⟩) (by assumption) ?_
    rotate_left
    · (intro w hSw; (try dsimp only at hSw); go_simp <;> with_reducible rfl)
    simp only [Act.put, List.setIfInBounds_toArray, List.set_cons_zero, List.set_cons_succ]
    refine tkr (i := 24) (v := ?_) (tA rfl) (by kernel_rfl) (fun _ _ _ h => h) (Or.inl ⟨by rfl, ?_⟩) (by assumption) ?_
    rotate_left
    · (intro w hSw; (try dsimp only at hSw); go_simp <;> with_reducible rfl)
    simp only [Act.put, List.setIfInBounds_toArray, List.set_cons_zero, List.set_cons_succ]
    refine wpAnyH_ready (rs := [25, 26]) (by kernel_rfl) (by simp) ?_
    refine AllReadyH.cons (tA rfl) (fun K hK => ?_) (AllReadyH.cons (tA rfl) (fun K hK => ?_) AllReadyH.nil)
    · go_simp
      refine (HSU.out y7).mono ?_
      rintro e A1 ⟨gs1, rfl, ho, hb⟩
      have HBA1 : Hid (Below W5.heap.size W5 A1) := HBZ0.out.trans (hb.mono HBZ0.out.size)
      have HOA1 : Hid (OpsV A1 (some ⟨gs1, 0, none⟩) 5 5 F.sumF.code) := ho
      clear hb ho
      try go_wp2_with fail
      refine hK.out _ _ (HS.out _ HBA1.out) (fun hHeld => ?_)
      clear hK K
      try simp only [Act.put, List.setIfInBounds_toArray, List.set_cons_zero, List.set_cons_succ]
      refine wpAnyH_ready (rs := [26]) (by kernel_rfl) (by simp) ?_
      refine AllReadyH.cons (tA rfl) (fun K hK => ?_) AllReadyH.nil
      obtain ⟨pr1, hv⟩ : ∃ g, A1.heap.size = g := ⟨_, rfl⟩
      obtain ⟨B1, hZn⟩ : ∃ Y, A1.alloc (.cells #[.int .i64 1, .int .i64 1, .int .i64 1] 3) = Y := ⟨_, rfl⟩
      have hb : Below A1.heap.size A1 B1 := by rw [← hZn]; exact bl1 _ _
      have HNB1 : Hid (NumV B1 (some ⟨pr1, 0, none⟩) 3 3 [1, 1, 1]) := by show NumV _ _ _ _ _; rw [← hZn, ← hv]; exact num_new A1 [1, 1, 1] (by decide) (by decide)
      have HBB1 : Hid (Below W5.heap.size W5 B1) := HBA1.out.trans (hb.mono HBA1.out.size)
      have HOB1 : Hid (OpsV B1 (some ⟨gs1, 0, none⟩) 5 5 F.sumF.code) := HOA1.out.below hb
      have HV : Hid (A1.heap.size = pr1) := hv
      have HZN : Hid (A1.alloc (.cells #[.int .i64 1, .int .i64 1, .int .i64 1] 3) = B1) := hZn
      clear hb hv hZn
      go_simp
      rw [HZN.out, HV.out]
      clear HV HZN
      refine hK.out _ _ (HS.out _ HBB1.out) (fun hHeld => ?_)
      clear hK K
      try simp only [Act.put, List.setIfInBounds_toArray, List.set_cons_zero, List.set_cons_succ]
      refine tkr (i := 27) (v := ?_) (tA rfl) (by kernel_rfl) (fun _ _ _ h => h) (Or.inl ⟨by rfl, ?_⟩) (by assumption) ?_
      rotate_left
      · (intro w hSw; (try dsimp only at hSw); go_simp <;> with_reducible rfl)
      simp only [Act.put, List.setIfInBounds_toArray, List.set_cons_zero, List.set_cons_succ]
      refine wpAnyH_ready (rs := [28]) (by kernel_rfl) (by simp) ?_
      refine AllReadyH.cons (tA rfl) (fun K hK => ?_) AllReadyH.nil
      clear hHeld
      have HCK : Hid _ := HCB.out B1 gs1 pr1 (HBW.out _ HBB1.out) HOB1.out HNB1.out
      go_simp
      refine Calls.mono HCK.out ?_
      rintro e X1 ⟨rfl, hb⟩
      have HBX1 : Hid (Below W5.heap.size W5 X1) := HBB1.out.trans (hb.mono HBB1.out.size)
      clear hb HCK
      try go_wp2_with fail
      refine hK.out _ _ (HS.out _ HBX1.out) (fun hHeld => ?_)
      clear hK K
      try simp only [Act.put, List.setIfInBounds_toArray, List.set_cons_zero, List.set_cons_succ]
      refine tkr (i := 29) (v := ?_) (tA rfl) (by kernel_rfl) (fun _ _ _ h => h) (Or.inl ⟨by rfl, ?_⟩) (by assumption) ?_
      rotate_left
      · (intro w hSw; (try dsimp only at hSw); go_simp <;> with_reducible rfl)
      simp only [Act.put, List.setIfInBounds_toArray, List.set_cons_zero, List.set_cons_succ]
      refine tkr (i := 30) (v := ?_) (tA rfl) (by kernel_rfl) (fun _ _ _ h => h) (Or.inl ⟨by rfl, ?_⟩) (by assumption) ?_
      rotate_left
      · (intro w hSw; (try dsimp only at hSw); go_simp <;> with_reducible rfl)
      simp only [Act.put, List.setIfInBounds_toArray, List.set_cons_zero, List.set_cons_succ]
      refine tkr (i := 31) (v := ?_) (tA rfl) (by kernel_rfl) (fun _ _ _ h => h) (Or.inl ⟨by rfl, ?_⟩) (by assumption) ?_
      rotate_left
      · (intro w hSw; (try dsimp only at hSw); go_simp <;> with_reducible rfl)
      simp only [Act.put, List.setIfInBounds_toArray, List.set_cons_zero, List.set_cons_succ]
      refine wpAnyH_ready (rs := [32, 33]) (by kernel_rfl) (by simp) ?_
      refine AllReadyH.cons (tA rfl) (fun K hK => ?_) (AllReadyH.cons (tA rfl) (fun K hK => ?_) AllReadyH.nil)
      · go_simp
        refine (HSU.out X1).mono ?_
        rintro e A2 ⟨gs2, rfl, ho, hb⟩
        have HBA2 : Hid (Below W5.heap.size W5 A2) := HBX1.out.trans (hb.mono HBX1.out.size)
        have HOA2 : Hid (OpsV A2 (some ⟨gs2, 0, none⟩) 5 5 F.sumF.code) := ho
        clear hb ho
        try go_wp2_with fail
        refine hK.out _ _ (HS.out _ HBA2.out) (fun hHeld => ?_)
        clear hK K
        try simp only [Act.put, List.setIfInBounds_toArray, List.set_cons_zero, List.set_cons_succ]
        refine wpAnyH_ready (rs := [33]) (by kernel_rfl) (by simp) ?_
        refine AllReadyH.cons (tA rfl) (fun K hK => ?_) AllReadyH.nil
        obtain ⟨pr2, hv⟩ : ∃ g, A2.heap.size = g := ⟨_, rfl⟩
        obtain ⟨B2, hZn⟩ : ∃ Y, A2.alloc (.cells #[.int .i64 1, .int .i64 2, .int .i64 1] 3) = Y := ⟨_, rfl⟩
        have hb : Below A2.heap.size A2 B2 := by rw [← hZn]; exact bl1 _ _
        have HNB2 : Hid (NumV B2 (some ⟨pr2, 0, none⟩) 3 3 [1, 2, 1]) := by show NumV _ _ _ _ _; rw [← hZn, ← hv]; exact num_new A2 [1, 2, 1] (by decide) (by decide)
        have HBB2 : Hid (Below W5.heap.size W5 B2) := HBA2.out.trans (hb.mono HBA2.out.size)
        have HOB2 : Hid (OpsV B2 (some ⟨gs2, 0, none⟩) 5 5 F.sumF.code) := HOA2.out.below hb
        have HV : Hid (A2.heap.size = pr2) := hv
        have HZN : Hid (A2.alloc (.cells #[.int .i64 1, .int .i64 2, .int .i64 1] 3) = B2) := hZn
        clear hb hv hZn
        go_simp
        rw [HZN.out, HV.out]
        clear HV HZN
        refine hK.out _ _ (HS.out _ HBB2.out) (fun hHeld => ?_)
        clear hK K
        try simp only [Act.put, List.setIfInBounds_toArray, List.set_cons_zero, List.set_cons_succ]
        refine tkr (i := 34) (v := ?_) (tA rfl) (by kernel_rfl) (fun _ _ _ h => h) (Or.inl ⟨by rfl, ?_⟩) (by assumption) ?_
        rotate_left
        · (intro w hSw; (try dsimp only at hSw); go_simp <;> with_reducible rfl)
        simp only [Act.put, List.setIfInBounds_toArray, List.set_cons_zero, List.set_cons_succ]
        refine wpAnyH_ready (rs := [35]) (by kernel_rfl) (by simp) ?_
        refine AllReadyH.cons (tA rfl) (fun K hK => ?_) AllReadyH.nil
        clear hHeld
        have HCK : Hid _ := HCG.out B2 gs2 pr2 (HBW.out _ HBB2.out) HOB2.out HNB2.out
        go_simp
        refine Calls.mono HCK.out ?_
        rintro e X2 ⟨rfl, hb⟩
        have HBX2 : Hid (Below W5.heap.size W5 X2) := HBB2.out.trans (hb.mono HBB2.out.size)
        clear hb HCK
        try go_wp2_with fail
        refine hK.out _ _ (HS.out _ HBX2.out) (fun hHeld => ?_)
        clear hK K
        try simp only [Act.put, List.setIfInBounds_toArray, List.set_cons_zero, List.set_cons_succ]
        refine tkr (i := 36) (v := ?_) (tA rfl) (by kernel_rfl) (fun _ _ _ h => h) (Or.inl ⟨by rfl, ?_⟩) (by assumption) ?_
        rotate_left
        · (intro w hSw; (try dsimp only at hSw); go_simp <;> with_reducible rfl)
        simp only [Act.put, List.setIfInBounds_toArray, List.set_cons_zero, List.set_cons_succ]
        refine tkr (i := 37) (v := ?_) (tA rfl) (by kernel_rfl) (fun _ _ _ h => h) (Or.inl ⟨by rfl, ?_⟩) (by assumption) ?_
        rotate_left
        · (intro w hSw; (try dsimp only at hSw); go_simp <;> with_reducible rfl)
        simp only [Act.put, List.setIfInBounds_toArray, List.set_cons_zero, List.set_cons_succ]
        refine tkr (i := 38) (v := ?_) (tA rfl) (by kernel_rfl) (fun _ _ _ h => h) (Or.inl ⟨by rfl, ?_⟩) (by assumption) ?_
        rotate_left
        · (intro w hSw; (try dsimp only at hSw); go_simp <;> with_reducible rfl)
        simp only [Act.put, List.setIfInBounds_toArray, List.set_cons_zero, List.set_cons_succ]
        refine wpAnyH_done (by kernel_rfl) ?_ _
        clear hHeld
        go_wp2_with fail
        go_ret
        exact ⟨rfl, HBW.out _ HBX2.out⟩
      · obtain ⟨pr2, hv⟩ : ∃ g, X1.heap.size = g := ⟨_, rfl⟩
        obtain ⟨A2, hZn⟩ : ∃ Y, X1.alloc (.cells #[.int .i64 1, .int .i64 2, .int .i64 1] 3) = Y := ⟨_, rfl⟩
        have hb : Below X1.heap.size X1 A2 := by rw [← hZn]; exact bl1 _ _
        have HNA2 : Hid (NumV A2 (some ⟨pr2, 0, none⟩) 3 3 [1, 2, 1]) := by show NumV _ _ _ _ _; rw [← hZn, ← hv]; exact num_new X1 [1, 2, 1] (by decide) (by decide)
        have HBA2 : Hid (Below W5.heap.size W5 A2) := HBX1.out.trans (hb.mono HBX1.out.size)
        have HV : Hid (X1.heap.size = pr2) := hv
        have HZN : Hid (X1.alloc (.cells #[.int .i64 1, .int .i64 2, .int .i64 1] 3) = A2) := hZn
        clear hb hv hZn
        go_simp
        rw [HZN.out, HV.out]
        clear HV HZN
        refine hK.out _ _ (HS.out _ HBA2.out) (fun hHeld => ?_)
        clear hK K
        try simp only [Act.put, List.setIfInBounds_toArray, List.set_cons_zero, List.set_cons_succ]
        refine tkr (i := 34) (v := ?_) (tA rfl) (by kernel_rfl) (fun _ _ _ h => h) (Or.inl ⟨by rfl, ?_⟩) (by assumption) ?_
        rotate_left
        · (intro w hSw; (try dsimp only at hSw); go_simp <;> with_reducible rfl)
        simp only [Act.put, List.setIfInBounds_toArray, List.set_cons_zero, List.set_cons_succ]
        refine wpAnyH_ready (rs := [32]) (by kernel_rfl) (by simp) ?_
        refine AllReadyH.cons (tA rfl) (fun K hK => ?_) AllReadyH.nil
        go_simp
        refine (HSU.out A2).mono ?_
        rintro e B2 ⟨gs2, rfl, ho, hb⟩
        have HBB2 : Hid (Below W5.heap.size W5 B2) := HBA2.out.trans (hb.mono HBA2.out.size)
        have HOB2 : Hid (OpsV B2 (some ⟨gs2, 0, none⟩) 5 5 F.sumF.code) := ho
        have HNB2 : Hid (NumV B2 (some ⟨pr2, 0, none⟩) 3 3 [1, 2, 1]) := HNA2.out.below hb
        clear hb ho
        try go_wp2_with fail
        refine hK.out _ _ (HS.out _ HBB2.out) (fun hHeld => ?_)
        clear hK K
        try simp only [Act.put, List.setIfInBounds_toArray, List.set_cons_zero, List.set_cons_succ]
        refine wpAnyH_ready (rs := [35]) (by kernel_rfl) (by simp) ?_
        refine AllReadyH.cons (tA rfl) (fun K hK => ?_) AllReadyH.nil
        clear hHeld
        have HCK : Hid _ := HCG.out B2 gs2 pr2 (HBW.out _ HBB2.out) HOB2.out HNB2.out
        go_simp
        refine Calls.mono HCK.out ?_
        rintro e X2 ⟨rfl, hb⟩
        have HBX2 : Hid (Below W5.heap.size W5 X2) := HBB2.out.trans (hb.mono HBB2.out.size)
        clear hb HCK
        try go_wp2_with fail
        refine hK.out _ _ (HS.out _ HBX2.out) (fun hHeld => ?_)
        clear hK K
        try simp only [Act.put, List.setIfInBounds_toArray, List.set_cons_zero, List.set_cons_succ]
        refine tkr (i := 36) (v := ?_) (tA rfl) (by kernel_rfl) (fun _ _ _ h => h) (Or.inl ⟨by rfl, ?_⟩) (by assumption) ?_
        rotate_left
        · (intro w hSw; (try dsimp only at hSw); go_simp <;> with_reducible rfl)
        simp only [Act.put, List.setIfInBounds_toArray, List.set_cons_zero, List.set_cons_succ]
        refine tkr (i := 37) (v := ?_) (tA rfl) (by kernel_rfl) (fun _ _ _ h => h) (Or.inl ⟨by rfl, ?_⟩) (by assumption) ?_
        rotate_left
        · (intro w hSw; (try dsimp only at hSw); go_simp <;> with_reducible rfl)
        simp only [Act.put, List.setIfInBounds_toArray, List.set_cons_zero, List.set_cons_succ]
        refine tkr (i := 38) (v := ?_) (tA rfl) (by kernel_rfl) (fun _ _ _ h => h) (Or.inl ⟨by rfl, ?_⟩) (by assumption) ?_
        rotate_left
        · (intro w hSw; (try dsimp only at hSw); go_simp <;> with_reducible rfl)
        simp only [Act.put, List.setIfInBounds_toArray, List.set_cons_zero, List.set_cons_succ]
        refine wpAnyH_done (by kernel_rfl) ?_ _
        clear hHeld
        go_wp2_with fail
        go_ret
        exact ⟨rfl, HBW.out _ HBX2.out⟩
    · obtain ⟨pr1, hv⟩ : ∃ g, y7.heap.size = g := ⟨_, rfl⟩
      obtain ⟨A1, hZn⟩ : ∃ Y, y7.alloc (.cells #[.int .i64 1, .int .i64 1, .int .i64 1] 3) = Y := ⟨_, rfl⟩
      have hb : Below y7.heap.size y7 A1 := by rw [← hZn]; exact bl1 _ _
      have HNA1 : Hid (NumV A1 (some ⟨pr1, 0, none⟩) 3 3 [1, 1, 1]) := by show NumV _ _ _ _ _; rw [← hZn, ← hv]; exact num_new y7 [1, 1, 1] (by decide) (by decide)
      have HBA1 : Hid (Below W5.heap.size W5 A1) := HBZ0.out.trans (hb.mono HBZ0.out.size)
      have HV : Hid (y7.heap.size = pr1) := hv
      have HZN : Hid (y7.alloc (.cells #[.int .i64 1, .int .i64 1, .int .i64 1] 3) = A1) := hZn
      clear hb hv hZn
      go_simp
      rw [HZN.out, HV.out]
      clear HV HZN
      refine hK.out _ _ (HS.out _ HBA1.out) (fun hHeld => ?_)
      clear hK K
      try simp only [Act.put, List.setIfInBounds_toArray, List.set_cons_zero, List.set_cons_succ]
      refine tkr (i := 27) (v := ?_) (tA rfl) (by kernel_rfl) (fun _ _ _ h => h) (Or.inl ⟨by rfl, ?_⟩) (by assumption) ?_
      rotate_left
      · (intro w hSw; (try dsimp only at hSw); go_simp <;> with_reducible rfl)
      simp only [Act.put, List.setIfInBounds_toArray, List.set_cons_zero, List.set_cons_succ]
      refine wpAnyH_ready (rs := [25]) (by kernel_rfl) (by simp) ?_
      refine AllReadyH.cons (tA rfl) (fun K hK => ?_) AllReadyH.nil
      go_simp
      refine (HSU.out A1).mono ?_
      rintro e B1 ⟨gs1, rfl, ho, hb⟩
      have HBB1 : Hid (Below W5.heap.size W5 B1) := HBA1.out.trans (hb.mono HBA1.out.size)
      have HOB1 : Hid (OpsV B1 (some ⟨gs1, 0, none⟩) 5 5 F.sumF.code) := ho
      have HNB1 : Hid (NumV B1 (some ⟨pr1, 0, none⟩) 3 3 [1, 1, 1]) := HNA1.out.below hb
      clear hb ho
      try go_wp2_with fail
      refine hK.out _ _ (HS.out _ HBB1.out) (fun hHeld => ?_)
      clear hK K
      try simp only [Act.put, List.setIfInBounds_toArray, List.set_cons_zero, List.set_cons_succ]
      refine wpAnyH_ready (rs := [28]) (by kernel_rfl) (by simp) ?_
      refine AllReadyH.cons (tA rfl) (fun K hK => ?_) AllReadyH.nil
      clear hHeld
      have HCK : Hid _ := HCB.out B1 gs1 pr1 (HBW.out _ HBB1.out) HOB1.out HNB1.out
      go_simp
      refine Calls.mono HCK.out ?_
      rintro e X1 ⟨rfl, hb⟩
      have HBX1 : Hid (Below W5.heap.size W5 X1) := HBB1.out.trans (hb.mono HBB1.out.size)
      clear hb HCK
      try go_wp2_with fail
      refine hK.out _ _ (HS.out _ HBX1.out) (fun hHeld => ?_)
      clear hK K
      try simp only [Act.put, List.setIfInBounds_toArray, List.set_cons_zero, List.set_cons_succ]
      refine tkr (i := 29) (v := ?_) (tA rfl) (by kernel_rfl) (fun _ _ _ h => h) (Or.inl ⟨by rfl, ?_⟩) (by assumption) ?_
      rotate_left
      · (intro w hSw; (try dsimp only at hSw); go_simp <;> with_reducible rfl)
      simp only [Act.put, List.setIfInBounds_toArray, List.set_cons_zero, List.set_cons_succ]
      refine tkr (i := 30) (v := ?_) (tA rfl) (by kernel_rfl) (fun _ _ _ h => h) (Or.inl ⟨by rfl, ?_⟩) (by assumption) ?_
      rotate_left
      · (intro w hSw; (try dsimp only at hSw); go_simp <;> with_reducible rfl)
      simp only [Act.put, List.setIfInBounds_toArray, List.set_cons_zero, List.set_cons_succ]
      refine tkr (i := 31) (v := ?_) (tA rfl) (by kernel_rfl) (fun _ _ _ h => h) (Or.inl ⟨by rfl, ?_⟩) (by assumption) ?_
      rotate_left
      · (intro w hSw; (try dsimp only at hSw); go_simp <;> with_reducible rfl)
      simp only [Act.put, List.setIfInBounds_toArray, List.set_cons_zero, List.set_cons_succ]
      refine wpAnyH_ready (rs := [32, 33]) (by kernel_rfl) (by simp) ?_
      refine AllReadyH.cons (tA rfl) (fun K hK => ?_) (AllReadyH.cons (tA rfl) (fun K hK => ?_) AllReadyH.nil)
      · go_simp
        refine (HSU.out X1).mono ?_
        rintro e A2 ⟨gs2, rfl, ho, hb⟩
        have HBA2 : Hid (Below W5.heap.size W5 A2) := HBX1.out.trans (hb.mono HBX1.out.size)
        have HOA2 : Hid (OpsV A2 (some ⟨gs2, 0, none⟩) 5 5 F.sumF.code) := ho
        clear hb ho
        try go_wp2_with fail
        refine hK.out _ _ (HS.out _ HBA2.out) (fun hHeld => ?_)
        clear hK K
        try simp only [Act.put, List.setIfInBounds_toArray, List.set_cons_zero, List.set_cons_succ]
        refine wpAnyH_ready (rs := [33]) (by kernel_rfl) (by simp) ?_
        refine AllReadyH.cons (tA rfl) (fun K hK => ?_) AllReadyH.nil
        obtain ⟨pr2, hv⟩ : ∃ g, A2.heap.size = g := ⟨_, rfl⟩
        obtain ⟨B2, hZn⟩ : ∃ Y, A2.alloc (.cells #[.int .i64 1, .int .i64 2, .int .i64 1] 3) = Y := ⟨_, rfl⟩
        have hb : Below A2.heap.size A2 B2 := by rw [← hZn]; exact bl1 _ _
        have HNB2 : Hid (NumV B2 (some ⟨pr2, 0, none⟩) 3 3 [1, 2, 1]) := by show NumV _ _ _ _ _; rw [← hZn, ← hv]; exact num_new A2 [1, 2, 1] (by decide) (by decide)
        have HBB2 : Hid (Below W5.heap.size W5 B2) := HBA2.out.trans (hb.mono HBA2.out.size)
        have HOB2 : Hid (OpsV B2 (some ⟨gs2, 0, none⟩) 5 5 F.sumF.code) := HOA2.out.below hb
        have HV : Hid (A2.heap.size = pr2) := hv
        have HZN : Hid (A2.alloc (.cells #[.int .i64 1, .int .i64 2, .int .i64 1] 3) = B2) := hZn
        clear hb hv hZn
        go_simp
        rw [HZN.out, HV.out]
        clear HV HZN
        refine hK.out _ _ (HS.out _ HBB2.out) (fun hHeld => ?_)
        clear hK K
        try simp only [Act.put, List.setIfInBounds_toArray, List.set_cons_zero, List.set_cons_succ]
        refine tkr (i := 34) (v := ?_) (tA rfl) (by kernel_rfl) (fun _ _ _ h => h) (Or.inl ⟨by rfl, ?_⟩) (by assumption) ?_
        rotate_left
        · (intro w hSw; (try dsimp only at hSw); go_simp <;> with_reducible rfl)
        simp only [Act.put, List.setIfInBounds_toArray, List.set_cons_zero, List.set_cons_succ]
        refine wpAnyH_ready (rs := [35]) (by kernel_rfl) (by simp) ?_
        refine AllReadyH.cons (tA rfl) (fun K hK => ?_) AllReadyH.nil
        clear hHeld
        have HCK : Hid _ := HCG.out B2 gs2 pr2 (HBW.out _ HBB2.out) HOB2.out HNB2.out
        go_simp
        refine Calls.mono HCK.out ?_
        rintro e X2 ⟨rfl, hb⟩
        have HBX2 : Hid (Below W5.heap.size W5 X2) := HBB2.out.trans (hb.mono HBB2.out.size)
        clear hb HCK
        try go_wp2_with fail
        refine hK.out _ _ (HS.out _ HBX2.out) (fun hHeld => ?_)
        clear hK K
        try simp only [Act.put, List.setIfInBounds_toArray, List.set_cons_zero, List.set_cons_succ]
        refine tkr (i := 36) (v := ?_) (tA rfl) (by kernel_rfl) (fun _ _ _ h => h) (Or.inl ⟨by rfl, ?_⟩) (by assumption) ?_
        rotate_left
        · (intro w hSw; (try dsimp only at hSw); go_simp <;> with_reducible rfl)
        simp only [Act.put, List.setIfInBounds_toArray, List.set_cons_zero, List.set_cons_succ]
        refine tkr (i := 37) (v := ?_) (tA rfl) (by kernel_rfl) (fun _ _ _ h => h) (Or.inl ⟨by rfl, ?_⟩) (by assumption) ?_
        rotate_left
        · (intro w hSw; (try dsimp only at hSw); go_simp <;> with_reducible rfl)
        simp only [Act.put, List.setIfInBounds_toArray, List.set_cons_zero, List.set_cons_succ]
        refine tkr (i := 38) (v := ?_) (tA rfl) (by kernel_rfl) (fun _ _ _ h => h) (Or.inl ⟨by rfl, ?_⟩) (by assumption) ?_
        rotate_left
        · (intro w hSw; (try dsimp only at hSw); go_simp <;> with_reducible rfl)
        simp only [Act.put, List.setIfInBounds_toArray, List.set_cons_zero, List.set_cons_succ]
        refine wpAnyH_done (by kernel_rfl) ?_ _
        clear hHeld
        go_wp2_with fail
        go_ret
        exact ⟨rfl, HBW.out _ HBX2.out⟩
      · obtain ⟨pr2, hv⟩ : ∃ g, X1.heap.size = g := ⟨_, rfl⟩
        obtain ⟨A2, hZn⟩ : ∃ Y, X1.alloc (.cells #[.int .i64 1, .int .i64 2, .int .i64 1] 3) = Y := ⟨_, rfl⟩
        have hb : Below X1.heap.size X1 A2 := by rw [← hZn]; exact bl1 _ _
        have HNA2 : Hid (NumV A2 (some ⟨pr2, 0, none⟩) 3 3 [1, 2, 1]) := by show NumV _ _ _ _ _; rw [← hZn, ← hv]; exact num_new X1 [1, 2, 1] (by decide) (by decide)
        have HBA2 : Hid (Below W5.heap.size W5 A2) := HBX1.out.trans (hb.mono HBX1.out.size)
        have HV : Hid (X1.heap.size = pr2) := hv
        have HZN : Hid (X1.alloc (.cells #[.int .i64 1, .int .i64 2, .int .i64 1] 3) = A2) := hZn
        clear hb hv hZn
        go_simp
        rw [HZN.out, HV.out]
        clear HV HZN
        refine hK.out _ _ (HS.out _ HBA2.out) (fun hHeld => ?_)
        clear hK K
        try simp only [Act.put, List.setIfInBounds_toArray, List.set_cons_zero, List.set_cons_succ]
        refine tkr (i := 34) (v := ?_) (tA rfl) (by kernel_rfl) (fun _ _ _ h => h) (Or.inl ⟨by rfl, ?_⟩) (by assumption) ?_
        rotate_left
        · (intro w hSw; (try dsimp only at hSw); go_simp <;> with_reducible rfl)
        simp only [Act.put, List.setIfInBounds_toArray, List.set_cons_zero, List.set_cons_succ]
        refine wpAnyH_ready (rs := [32]) (by kernel_rfl) (by simp) ?_
        refine AllReadyH.cons (tA rfl) (fun K hK => ?_) AllReadyH.nil
        go_simp
        refine (HSU.out A2).mono ?_
        rintro e B2 ⟨gs2, rfl, ho, hb⟩
        have HBB2 : Hid (Below W5.heap.size W5 B2) := HBA2.out.trans (hb.mono HBA2.out.size)
        have HOB2 : Hid (OpsV B2 (some ⟨gs2, 0, none⟩) 5 5 F.sumF.code) := ho
        have HNB2 : Hid (NumV B2 (some ⟨pr2, 0, none⟩) 3 3 [1, 2, 1]) := HNA2.out.below hb
        clear hb ho
        try go_wp2_with fail
        refine hK.out _ _ (HS.out _ HBB2.out) (fun hHeld => ?_)
        clear hK K
        try simp only [Act.put, List.setIfInBounds_toArray, List.set_cons_zero, List.set_cons_succ]
        refine wpAnyH_ready (rs := [35]) (by kernel_rfl) (by simp) ?_
        refine AllReadyH.cons (tA rfl) (fun K hK => ?_) AllReadyH.nil
        clear hHeld
        have HCK : Hid _ := HCG.out B2 gs2 pr2 (HBW.out _ HBB2.out) HOB2.out HNB2.out
        go_simp
        refine Calls.mono HCK.out ?_
        rintro e X2 ⟨rfl, hb⟩
        have HBX2 : Hid (Below W5.heap.size W5 X2) := HBB2.out.trans (hb.mono HBB2.out.size)
        clear hb HCK
        try go_wp2_with fail
        refine hK.out _ _ (HS.out _ HBX2.out) (fun hHeld => ?_)
        clear hK K
        try simp only [Act.put, List.setIfInBounds_toArray, List.set_cons_zero, List.set_cons_succ]
        refine tkr (i := 36) (v := ?_) (tA rfl) (by kernel_rfl) (fun _ _ _ h => h) (Or.inl ⟨by rfl, ?_⟩) (by assumption) ?_
        rotate_left
        · (intro w hSw; (try dsimp only at hSw); go_simp <;> with_reducible rfl)
        simp only [Act.put, List.setIfInBounds_toArray, List.set_cons_zero, List.set_cons_succ]
        refine tkr (i := 37) (v := ?_) (tA rfl) (by kernel_rfl) (fun _ _ _ h => h) (Or.inl ⟨by rfl, ?_⟩) (by assumption) ?_
        rotate_left
        · (intro w hSw; (try dsimp only at hSw); go_simp <;> with_reducible rfl)
        simp only [Act.put, List.setIfInBounds_toArray, List.set_cons_zero, List.set_cons_succ]
        refine tkr (i := 38) (v := ?_) (tA rfl) (by kernel_rfl) (fun _ _ _ h => h) (Or.inl ⟨by rfl, ?_⟩) (by assumption) ?_
        rotate_left
        · (intro w hSw; (try dsimp only at hSw); go_simp <;> with_reducible rfl)
        simp only [Act.put, List.setIfInBounds_toArray, List.set_cons_zero, List.set_cons_succ]
        refine wpAnyH_done (by kernel_rfl) ?_ _
        clear hHeld
        go_wp2_with fail
        go_ret
        exact ⟨rfl, HBW.out _ HBX2.out⟩
end Go.Proofs.YtljgpngbkmembaaDoor

/- The law's small. -/
namespace Go.Proofs.YtljgpngbkmembaaDoor
open Go.RowKit Go.Maps
set_option linter.unusedVariables false
set_option linter.unusedSimpArgs false
set_option maxRecDepth 100000 in
theorem small_any (f : F.Fn) (a : Option Addr) (l c : Nat) (w : World) : Calls Tryd.prog 8 #[fnV f a l c] w fun e w' => e = .returned (.bool (decide (l ≤ 300))) ∧ Below w.heap.size w w' := by
  unfold fnV
  by_cases h : l ≤ 300
  · have h1 : (l : Int) ≤ 300 := by omega
    rw [decide_eq_true h]
    clear h
    go_enter Tryd.func8, Tryd.ntmps8
    go_wp2
    go_ret
    exact ⟨by simp [h1], bl1 _ _⟩
  · have h1 : ¬ (l : Int) ≤ 300 := by omega
    rw [decide_eq_false h]
    clear h
    go_enter Tryd.func8, Tryd.ntmps8
    go_wp2
    go_ret
    exact ⟨by simp [h1], bl1 _ _⟩
end Go.Proofs.YtljgpngbkmembaaDoor

/- The program's Alloc. -/
import Derived.Test.YtljgpngbkmembaaDoorAMAq
import Derived.Test.YtljgpngbkmembaaDoorAMAr
import Derived.Test.YtljgpngbkmembaaDoorAMAo
import Derived.Test.YtljgpngbkmembaaDoorAMAm
import Derived.Test.YtljgpngbkmembaaDoorAMAk
import Derived.Test.YtljgpngbkmembaaDoorAMAc
namespace Go.Proofs.YtljgpngbkmembaaDoor
open Go.RowKit Go.Maps Go.Shelf
set_option linter.unusedVariables false
set_option linter.unusedSimpArgs false
/-- What Alloc answers: where a function may be, places that are right, and that hang on the function alone. -/
def AllocOut (w : World) (f : F.Fn) (e : Ending) (W : World) : Prop := Below w.heap.size w W ∧ if F.mayF f = true then ∃ (g T n : Nat) (U : Nat → Nat → Nat), f.temps = T ∧ LfU f n U ∧ w.heap.size ≤ g ∧ e = .returned (.tuple #[.agg #[.slice (some ⟨g, 0, none⟩) T T, .int .i64 (F.alc f U n).2], .int .i64 0]) ∧ NumV W (some ⟨g, 0, none⟩) T T (F.alc f U n).1 else e = .returned (.tuple #[.agg #[.slice none 0 0, .int .i64 0], .int .i64 1])
set_option maxRecDepth 100000 in
set_option maxHeartbeats 8000000 in
theorem alloc_any {w : World} {f : F.Fn} {a : Option Addr} {n c : Nat} (h : OpsV w a n c f.code) (he : Env w) (hsz : ∀ x ∈ f.code, x.args.length ≤ 17592186044416) :
    Calls Tryd.prog 16 #[fnV f a n c] w (AllocOut w f) := by
  obtain ⟨W0, hW0⟩ : ∃ W0, (w.alloc (.cells #[.string f.name, .int .i64 f.params, .int .i64 f.temps, .slice a n c] 24)).alloc (.cells #[.slice none 0 0, .int .i64 0] 38) = W0 := ⟨_, rfl⟩
  obtain ⟨r2, hr2⟩ : ∃ r2, w.heap.size + 1 = r2 := ⟨_, rfl⟩
  have HR2 : Hid (w.heap.size < r2) := by show _ < _; omega
  have HB0 : Hid (Below w.heap.size w W0) := by show Below _ _ _; rw [← hW0]; exact (bl1 _ _).alloc (by simp) _
  have d0 : W0.cell? ⟨w.heap.size, 0, none⟩ = some (.string f.name) := by rw [← hW0]; exact at2 rfl
  have d1 : W0.cell? ⟨w.heap.size, 1, none⟩ = some (.int .i64 f.params) := by rw [← hW0]; exact at2 rfl
  have d2 : W0.cell? ⟨w.heap.size, 2, none⟩ = some (.int .i64 f.temps) := by rw [← hW0]; exact at2 rfl
  have d3 : W0.cell? ⟨w.heap.size, 3, none⟩ = some (.slice a n c) := by rw [← hW0]; exact at2 rfl
  have HX0 : Hid (Bx W0 r2 [.slice none 0 0, .int .i64 0]) := by
    have x := Bx.new (w.alloc (.cells #[.string f.name, .int .i64 f.params, .int .i64 f.temps, .slice a n c] 24)) #[.slice none 0 0, .int .i64 0] 38
    rw [hW0, World.size_alloc, hr2] at x
    exact x
  have HD : Hid (∀ y, Below W0.heap.size W0 y → y.cell? ⟨w.heap.size, 0, none⟩ = some (.string f.name) ∧ y.cell? ⟨w.heap.size, 1, none⟩ = some (.int .i64 f.params) ∧ y.cell? ⟨w.heap.size, 2, none⟩ = some (.int .i64 f.temps) ∧ y.cell? ⟨w.heap.size, 3, none⟩ = some (.slice a n c)) := fun y hy => ⟨cell_thru hy d0, cell_thru hy d1, cell_thru hy d2, cell_thru hy d3⟩
  have HMB : Hid (∀ y, Below w.heap.size w y → Calls Tryd.prog 21 #[fnV f a n c] y fun e w' => e = .returned (.bool (F.mayF f)) ∧ Below y.heap.size y w') := fun y hy => mayBe_any (h.below hy) (he.below hy).shp
  have HNF : Hid (F.mayF f = true → ∀ y, Below w.heap.size w y → Calls Tryd.prog 30 #[fnV f a n c] y (NfOut y f a n c)) := fun hm y hy => newFinder_any (h.below hy) hm (he.below hy)
  have HOE : Hid (∀ y, Below w.heap.size w y → OpsV y a n c f.code ∧ Env y) := fun y hy => ⟨h.below hy, he.below hy⟩
  have HSZ : Hid (∀ x ∈ f.code, x.args.length ≤ 17592186044416) := hsz
  unfold fnV at HMB HNF ⊢
  clear h he hsz
  have HBW : Hid (∀ y, Below W0.heap.size W0 y → Below w.heap.size w y) := fun y hy => HB0.out.trans (hy.mono HB0.out.size)
  go_enter Tryd.func16, Tryd.ntmps16
  go_wp2_with fail
  try rw [hr2]
  clear hW0
  obtain ⟨mb, hmb⟩ : ∃ mb, F.mayF f = mb := ⟨_, rfl⟩
  have HMF : Hid (F.mayF f = mb) := hmb
  rw [hmb] at HMB
  refine (HMB.out _ HB0.out).mono ?_
  rintro e y1 ⟨rfl, hb1⟩
  have HB1 : Hid (Below W0.heap.size W0 y1) := hb1
  have HX1 : Hid (Bx y1 r2 [.slice none 0 0, .int .i64 0]) := HX0.out.below hb1
  clear hb1 hmb d0 d1 d2 d3 HMB HX0
  obtain ⟨d0, d1, d2, d3⟩ := HD.out y1 HB1.out
  cases mb with
  | false =>
    have g0 := HX1.out.c 0 _ rfl
    have g1 := HX1.out.c 1 _ rfl
    have f0 := HX1.out.f 0
    have f1 := HX1.out.f 1
    obtain ⟨WE, hWE⟩ : ∃ WE, (y1.setCell ⟨r2, 0, none⟩ (.slice none 0 0)).setCell ⟨r2, 1, none⟩ (.int .i64 0) = WE := ⟨_, rfl⟩
    have HXE : Hid (Bx WE r2 [.slice none 0 0, .int .i64 0] ∧ Below w.heap.size w WE) := by
      have h2 := HR2.out
      show _ ∧ _
      rw [← hWE]
      exact ⟨(HX1.out.put 0 (by simp) (.slice none 0 0)).put 1 (by simp) (.int .i64 0), ((HBW.out _ HB1.out).setCell (p := ⟨r2, 0, none⟩) (Nat.le_of_lt h2) _).setCell (p := ⟨r2, 1, none⟩) (Nat.le_of_lt h2) _⟩
    go_wp2_with fail
    try rw [hWE]
    clear hWE g0 g1 f0 f1
    have g0 := HXE.out.1.c 0 _ rfl
    have g1 := HXE.out.1.c 1 _ rfl
    refine bodyPost_ret (v := .tuple #[.agg #[.slice none 0 0, .int .i64 0], .int .i64 1]) ?_ rfl ?_
    · simp [results, Tryd.results16, go_sem, g0, g1]
    · refine ⟨HXE.out.2, ?_⟩
      rw [HMF.out, if_neg (by simp)]
  | true =>
    go_wp2_with fail
    refine (HNF.out HMF.out _ (HBW.out _ HB1.out)).mono ?_
    rintro e y2 ⟨N, b, bf, ga, gu, gw, U, rfl, hfn, hlu⟩
    have hh := F.may_head hlu.may
    obtain ⟨T, hT⟩ : ∃ T : Nat, f.temps = T := ⟨f.temps.toNat, by omega⟩
    have HT : Hid (f.temps = T) := hT
    have HFN : Hid _ := hfn
    have HLU : Hid (LfU f n U) := hlu
    clear hfn hlu hh hT d0 d1 d2 d3 HNF
    have hoe := HOE.out y1 (HBW.out _ HB1.out)
    have HFD : Hid _ := find_any HFN.out HLU.out hoe.1 hoe.2 HSZ.out HT.out
    clear hoe
    go_wp2_with fail
    refine Calls.mono HFD.out ?_
    rintro e y3 ⟨g, rfl, hnum, hg, hb3⟩
    have HX3 : Hid (Bx y3 r2 [.slice none 0 0, .int .i64 0] ∧ Below w.heap.size w y3 ∧ r2 < g) := ⟨HX1.out.below hb3, (HBW.out _ HB1.out).trans (hb3.mono (HBW.out _ HB1.out).size), Nat.lt_of_lt_of_le HX1.out.lt hg⟩
    have HNUM : Hid _ := hnum
    clear hnum hg hb3 HFD HFN
    obtain ⟨S, hS⟩ : ∃ S, (F.alc f U n).2 = S := ⟨_, rfl⟩
    have HS : Hid ((F.alc f U n).2 = S) := hS
    rw [hS]
    clear hS
    have g0 := HX3.out.1.c 0 _ rfl
    have g1 := HX3.out.1.c 1 _ rfl
    have f0 := HX3.out.1.f 0
    have f1 := HX3.out.1.f 1
    obtain ⟨WE, hWE⟩ : ∃ WE, (y3.setCell ⟨r2, 0, none⟩ (.slice (some ⟨g, 0, none⟩) T T)).setCell ⟨r2, 1, none⟩ (.int .i64 S) = WE := ⟨_, rfl⟩
    have HXE : Hid (Bx WE r2 [.slice (some ⟨g, 0, none⟩) T T, .int .i64 S] ∧ Below w.heap.size w WE ∧ NumV WE (some ⟨g, 0, none⟩) T T (F.alc f U n).1) := by
      have h2 := HR2.out
      have h3 := HX3.out.2.2
      show _ ∧ _
      rw [← hWE]
      exact ⟨(HX3.out.1.put 0 (by simp) (.slice (some ⟨g, 0, none⟩) T T)).put 1 (by simp) (.int .i64 S), (HX3.out.2.1.setCell (p := ⟨r2, 0, none⟩) (Nat.le_of_lt h2) _).setCell (p := ⟨r2, 1, none⟩) (Nat.le_of_lt h2) _, (HNUM.out.far (fun p hp => by cases hp; show r2 ≠ g; omega) _).far (fun p hp => by cases hp; show r2 ≠ g; omega) _⟩
    go_wp2_with fail
    try rw [hWE]
    clear hWE g0 g1 f0 f1
    have g0 := HXE.out.1.c 0 _ rfl
    have g1 := HXE.out.1.c 1 _ rfl
    refine bodyPost_ret (v := .tuple #[.agg #[.slice (some ⟨g, 0, none⟩) T T, .int .i64 S], .int .i64 0]) ?_ rfl ?_
    · simp [results, Tryd.results16, go_sem, g0, g1]
    · refine ⟨HXE.out.2.1, ?_⟩
      rw [HMF.out, if_pos rfl]
      exact ⟨g, T, n, U, HT.out, HLU.out, by have := HX3.out.2.2; have := HR2.out; omega, by rw [HS.out], HXE.out.2.2⟩
end Go.Proofs.YtljgpngbkmembaaDoor

/- The program's Check. -/
namespace Go.Proofs.YtljgpngbkmembaaDoor
open Go.RowKit Go.Maps Go.Shelf
set_option linter.unusedVariables false
set_option linter.unusedSimpArgs false
set_option maxRecDepth 100000 in
set_option maxHeartbeats 8000000 in
theorem check_any {w : World} {f : F.Fn} {a : Option Addr} {l c : Nat} {aw : Option Addr} {lw cw : Nat} {ws : List Int} {slots : Int} (h : OpsV w a l c f.code) (hw : NumV w aw lw cw ws) (he : Env w) :
    Calls Tryd.prog 19 #[fnV f a l c, .agg #[.slice aw lw cw, .int .i64 slots]] w fun e w' => e = .returned (.int .i64 (if F.chk f ws lw slots then 0 else 1)) ∧ Below w.heap.size w w' := by
  obtain ⟨W0, hW0⟩ : ∃ W0, (w.alloc (.cells #[.string f.name, .int .i64 f.params, .int .i64 f.temps, .slice a l c] 24)).alloc (.cells #[.slice aw lw cw, .int .i64 slots] 38) = W0 := ⟨_, rfl⟩
  have HB0 : Hid (Below w.heap.size w W0) := by show Below _ _ _; rw [← hW0]; exact (bl1 _ _).alloc (by simp) _
  have d0 : W0.cell? ⟨w.heap.size, 0, none⟩ = some (.string f.name) := by rw [← hW0]; exact at2 rfl
  have d1 : W0.cell? ⟨w.heap.size, 1, none⟩ = some (.int .i64 f.params) := by rw [← hW0]; exact at2 rfl
  have d2 : W0.cell? ⟨w.heap.size, 2, none⟩ = some (.int .i64 f.temps) := by rw [← hW0]; exact at2 rfl
  have d3 : W0.cell? ⟨w.heap.size, 3, none⟩ = some (.slice a l c) := by rw [← hW0]; exact at2 rfl
  have e0 : W0.cell? ⟨w.heap.size + 1, 0, none⟩ = some (.slice aw lw cw) := by rw [← hW0]; exact at3 rfl
  have e1 : W0.cell? ⟨w.heap.size + 1, 1, none⟩ = some (.int .i64 slots) := by rw [← hW0]; exact at3 rfl
  have hs0 : W0.heap.size = w.heap.size + 2 := by rw [← hW0]; simp
  have HD : Hid (∀ y, Below W0.heap.size W0 y → y.cell? ⟨w.heap.size, 0, none⟩ = some (.string f.name) ∧ y.cell? ⟨w.heap.size, 1, none⟩ = some (.int .i64 f.params) ∧ y.cell? ⟨w.heap.size, 2, none⟩ = some (.int .i64 f.temps) ∧ y.cell? ⟨w.heap.size, 3, none⟩ = some (.slice a l c) ∧ y.cell? ⟨w.heap.size + 1, 0, none⟩ = some (.slice aw lw cw) ∧ y.cell? ⟨w.heap.size + 1, 1, none⟩ = some (.int .i64 slots)) := fun y hy => ⟨cell_thru hy d0, cell_thru hy d1, cell_thru hy d2, cell_thru hy d3, cell_thru hy e0, cell_thru hy e1⟩
  have HMB : Hid (∀ y, Below w.heap.size w y → Calls Tryd.prog 21 #[fnV f a l c] y fun e w' => e = .returned (.bool (F.mayF f)) ∧ Below y.heap.size y w') := fun y hy => mayBe_any (h.below hy) (he.below hy).shp
  have HAP : Hid (∀ y, Below w.heap.size w y → Calls Tryd.prog 35 #[fnV f a l c, .agg #[.slice aw lw cw, .int .i64 slots]] y fun e w' => e = .returned (.bool (F.arePl f.temps ws lw slots)) ∧ Below y.heap.size y w') := fun y hy => arePlaces_any (hw.below hy)
  have HNL : Hid (F.mayF f = true → ∀ y, Below w.heap.size w y → Calls Tryd.prog 22 #[fnV f a l c] y (NlOut y f a l c)) := fun hm y hy => newLife_any (h.below hy) hm (he.below hy)
  have HNV : Hid (∀ y, Below w.heap.size w y → NumV y aw lw cw ws) := fun y hy => hw.below hy
  unfold fnV at HMB HAP HNL ⊢
  clear h hw he
  obtain ⟨mb, hmb⟩ : ∃ mb, F.mayF f = mb := ⟨_, rfl⟩
  have HMF : Hid (F.mayF f = mb) := hmb
  rw [hmb] at HMB
  obtain ⟨ap, hap⟩ : ∃ ap, F.arePl f.temps ws lw slots = ap := ⟨_, rfl⟩
  have HAF : Hid (F.arePl f.temps ws lw slots = ap) := hap
  rw [hap] at HAP
  obtain ⟨R, hR⟩ : ∃ R, F.chk f ws lw slots = R := ⟨_, rfl⟩
  have HR : Hid (F.chk f ws lw slots = R) := hR
  rw [hR]
  clear hmb hap hR
  have HBW : Hid (∀ y, Below W0.heap.size W0 y → Below w.heap.size w y) := fun y hy => HB0.out.trans (hy.mono HB0.out.size)
  clear d0 d1 d2 d3 e0 e1
  obtain ⟨d0, d1, d2, d3, e0, e1⟩ := HD.out W0 (Below.refl _ _)
  cases mb with
  | false =>
    have HRF : Hid (R = false) := by show R = false; rw [← HR.out]; unfold F.chk; rw [HMF.out]; rfl
    have HRF' := HRF.out
    subst HRF'
    go_enter Tryd.func19, Tryd.ntmps19
    go_wp2_with fail
    clear hW0 d0 d1 d2 d3 e0 e1
    refine wp_region_held_drew (S := (fun w' : World => w'.cell? ⟨w.heap.size, 0, none⟩ = some (.string f.name) ∧ w'.cell? ⟨w.heap.size, 1, none⟩ = some (.int .i64 f.params) ∧ w'.cell? ⟨w.heap.size, 2, none⟩ = some (.int .i64 f.temps) ∧ w'.cell? ⟨w.heap.size, 3, none⟩ = some (.slice a l c) ∧ w'.cell? ⟨w.heap.size + 1, 0, none⟩ = some (.slice aw lw cw) ∧ w'.cell? ⟨w.heap.size + 1, 1, none⟩ = some (.int .i64 slots))) (by kernel_rfl) (HD.out _ (Below.refl _ _).drew) (fun hHeld => ?_)
    refine tkr (i := 0) (v := ?_) (tA rfl) (by kernel_rfl) (fun _ _ _ h => h) (Or.inl ⟨by rfl, ?_⟩) (by assumption) ?_
    rotate_left
    · (intro w hSw; (try dsimp only at hSw); go_simp <;> with_reducible rfl)
    simp only [Act.put, List.setIfInBounds_toArray, List.set_cons_zero, List.set_cons_succ]
    refine wpAnyH_ready (rs := [1]) (by kernel_rfl) (by simp) ?_
    refine AllReadyH.cons (tA rfl) (fun K hK => ?_) AllReadyH.nil
    go_simp
    refine (HMB.out _ (HBW.out _ (Below.refl _ _).drew)).mono ?_
    rintro e y1 ⟨rfl, hb⟩
    have HB1 : Hid (Below W0.heap.size W0 y1) := (Below.refl _ _).drew.trans hb
    clear hb
    try go_wp2_with fail
    refine hK.out _ _ (HD.out _ HB1.out) (fun hHeld => ?_)
    clear hK K
    try simp only [Act.put, List.setIfInBounds_toArray, List.set_cons_zero, List.set_cons_succ]
    refine tkr (i := 2) (v := ?_) (tA rfl) (by kernel_rfl) (fun _ _ _ h => h) (Or.inl ⟨by rfl, ?_⟩) (by assumption) ?_
    rotate_left
    · (intro w hSw; (try dsimp only at hSw); go_simp <;> with_reducible rfl)
    simp only [Act.put, List.setIfInBounds_toArray, List.set_cons_zero, List.set_cons_succ]
    refine tkr (i := 3) (v := ?_) (tA rfl) (by kernel_rfl) (fun _ _ _ h => h) (Or.inl ⟨by rfl, ?_⟩) (by assumption) ?_
    rotate_left
    · (intro w hSw; (try dsimp only at hSw); go_simp <;> with_reducible rfl)
    simp only [Act.put, List.setIfInBounds_toArray, List.set_cons_zero, List.set_cons_succ]
    refine tkr (i := 4) (v := undef) (tA rfl) (by kernel_rfl) (fun _ _ _ h => h) (Or.inr ⟨by rfl, rfl⟩) (by assumption) ?_
    simp only [Act.put, List.setIfInBounds_toArray, List.set_cons_zero, List.set_cons_succ]
    refine tkr (i := 5) (v := undef) (tA rfl) (by kernel_rfl) (fun _ _ _ h => h) (Or.inr ⟨by rfl, rfl⟩) (by assumption) ?_
    simp only [Act.put, List.setIfInBounds_toArray, List.set_cons_zero, List.set_cons_succ]
    refine tkr (i := 6) (v := undef) (tA rfl) (by kernel_rfl) (fun _ _ _ h => h) (Or.inr ⟨by rfl, rfl⟩) (by assumption) ?_
    simp only [Act.put, List.setIfInBounds_toArray, List.set_cons_zero, List.set_cons_succ]
    refine tkr (i := 7) (v := undef) (tA rfl) (by kernel_rfl) (fun _ _ _ h => h) (Or.inr ⟨by rfl, rfl⟩) (by assumption) ?_
    simp only [Act.put, List.setIfInBounds_toArray, List.set_cons_zero, List.set_cons_succ]
    refine tkr (i := 8) (v := ?_) (tA rfl) (by kernel_rfl) (fun _ _ _ h => h) (Or.inl ⟨by rfl, ?_⟩) (by assumption) ?_
    rotate_left
    · (intro w hSw; (try dsimp only at hSw); go_simp <;> with_reducible rfl)
    simp only [Act.put, List.setIfInBounds_toArray, List.set_cons_zero, List.set_cons_succ]
    refine tkr (i := 9) (v := ?_) (tA rfl) (by kernel_rfl) (fun _ _ _ h => h) (Or.inl ⟨by rfl, ?_⟩) (by assumption) ?_
    rotate_left
    · (intro w hSw; (try dsimp only at hSw); go_simp <;> with_reducible rfl)
    simp only [Act.put, List.setIfInBounds_toArray, List.set_cons_zero, List.set_cons_succ]
    refine tkr (i := 10) (v := undef) (tA rfl) (by kernel_rfl) (fun _ _ _ h => h) (Or.inr ⟨by rfl, rfl⟩) (by assumption) ?_
    simp only [Act.put, List.setIfInBounds_toArray, List.set_cons_zero, List.set_cons_succ]
    refine tkr (i := 11) (v := undef) (tA rfl) (by kernel_rfl) (fun _ _ _ h => h) (Or.inr ⟨by rfl, rfl⟩) (by assumption) ?_
    simp only [Act.put, List.setIfInBounds_toArray, List.set_cons_zero, List.set_cons_succ]
    refine tkr (i := 12) (v := undef) (tA rfl) (by kernel_rfl) (fun _ _ _ h => h) (Or.inr ⟨by rfl, rfl⟩) (by assumption) ?_
    simp only [Act.put, List.setIfInBounds_toArray, List.set_cons_zero, List.set_cons_succ]
    refine tkr (i := 13) (v := undef) (tA rfl) (by kernel_rfl) (fun _ _ _ h => h) (Or.inr ⟨by rfl, rfl⟩) (by assumption) ?_
    simp only [Act.put, List.setIfInBounds_toArray, List.set_cons_zero, List.set_cons_succ]
    refine tkr (i := 14) (v := undef) (tA rfl) (by kernel_rfl) (fun _ _ _ h => h) (Or.inr ⟨by rfl, rfl⟩) (by assumption) ?_
    simp only [Act.put, List.setIfInBounds_toArray, List.set_cons_zero, List.set_cons_succ]
    refine tkr (i := 15) (v := undef) (tA rfl) (by kernel_rfl) (fun _ _ _ h => h) (Or.inr ⟨by rfl, rfl⟩) (by assumption) ?_
    simp only [Act.put, List.setIfInBounds_toArray, List.set_cons_zero, List.set_cons_succ]
    refine tkr (i := 16) (v := ?_) (tA rfl) (by kernel_rfl) (fun _ _ _ h => h) (Or.inl ⟨by rfl, ?_⟩) (by assumption) ?_
    rotate_left
    · (intro w hSw; (try dsimp only at hSw); go_simp <;> with_reducible rfl)
    simp only [Act.put, List.setIfInBounds_toArray, List.set_cons_zero, List.set_cons_succ]
    refine wpAnyH_done (by kernel_rfl) ?_ _
    clear hHeld
    go_wp2_with fail
    go_ret
    exact ⟨rfl, HBW.out _ HB1.out⟩
  | true =>
    cases ap with
    | false =>
      have HRF : Hid (R = false) := by show R = false; rw [← HR.out]; unfold F.chk; rw [HMF.out, HAF.out]; rfl
      have HRF' := HRF.out
      subst HRF'
      go_enter Tryd.func19, Tryd.ntmps19
      go_wp2_with fail
      clear hW0 d0 d1 d2 d3 e0 e1
      refine wp_region_held_drew (S := (fun w' : World => w'.cell? ⟨w.heap.size, 0, none⟩ = some (.string f.name) ∧ w'.cell? ⟨w.heap.size, 1, none⟩ = some (.int .i64 f.params) ∧ w'.cell? ⟨w.heap.size, 2, none⟩ = some (.int .i64 f.temps) ∧ w'.cell? ⟨w.heap.size, 3, none⟩ = some (.slice a l c) ∧ w'.cell? ⟨w.heap.size + 1, 0, none⟩ = some (.slice aw lw cw) ∧ w'.cell? ⟨w.heap.size + 1, 1, none⟩ = some (.int .i64 slots))) (by kernel_rfl) (HD.out _ (Below.refl _ _).drew) (fun hHeld => ?_)
      refine tkr (i := 0) (v := ?_) (tA rfl) (by kernel_rfl) (fun _ _ _ h => h) (Or.inl ⟨by rfl, ?_⟩) (by assumption) ?_
      rotate_left
      · (intro w hSw; (try dsimp only at hSw); go_simp <;> with_reducible rfl)
      simp only [Act.put, List.setIfInBounds_toArray, List.set_cons_zero, List.set_cons_succ]
      refine wpAnyH_ready (rs := [1]) (by kernel_rfl) (by simp) ?_
      refine AllReadyH.cons (tA rfl) (fun K hK => ?_) AllReadyH.nil
      go_simp
      refine (HMB.out _ (HBW.out _ (Below.refl _ _).drew)).mono ?_
      rintro e y1 ⟨rfl, hb⟩
      have HB1 : Hid (Below W0.heap.size W0 y1) := (Below.refl _ _).drew.trans hb
      clear hb
      try go_wp2_with fail
      refine hK.out _ _ (HD.out _ HB1.out) (fun hHeld => ?_)
      clear hK K
      try simp only [Act.put, List.setIfInBounds_toArray, List.set_cons_zero, List.set_cons_succ]
      refine tkr (i := 2) (v := ?_) (tA rfl) (by kernel_rfl) (fun _ _ _ h => h) (Or.inl ⟨by rfl, ?_⟩) (by assumption) ?_
      rotate_left
      · (intro w hSw; (try dsimp only at hSw); go_simp <;> with_reducible rfl)
      simp only [Act.put, List.setIfInBounds_toArray, List.set_cons_zero, List.set_cons_succ]
      refine tkr (i := 3) (v := ?_) (tA rfl) (by kernel_rfl) (fun _ _ _ h => h) (Or.inl ⟨by rfl, ?_⟩) (by assumption) ?_
      rotate_left
      · (intro w hSw; (try dsimp only at hSw); go_simp <;> with_reducible rfl)
      simp only [Act.put, List.setIfInBounds_toArray, List.set_cons_zero, List.set_cons_succ]
      refine tkr (i := 4) (v := ?_) (tA rfl) (by kernel_rfl) (fun _ _ _ h => h) (Or.inl ⟨by rfl, ?_⟩) (by assumption) ?_
      rotate_left
      · (intro w hSw; (try dsimp only at hSw); go_simp <;> with_reducible rfl)
      simp only [Act.put, List.setIfInBounds_toArray, List.set_cons_zero, List.set_cons_succ]
      refine tkr (i := 5) (v := ?_) (tA rfl) (by kernel_rfl) (fun _ _ _ h => h) (Or.inl ⟨by rfl, ?_⟩) (by assumption) ?_
      rotate_left
      · (intro w hSw; (try dsimp only at hSw); go_simp <;> with_reducible rfl)
      simp only [Act.put, List.setIfInBounds_toArray, List.set_cons_zero, List.set_cons_succ]
      refine wpAnyH_ready (rs := [6]) (by kernel_rfl) (by simp) ?_
      refine AllReadyH.cons (tA rfl) (fun K hK => ?_) AllReadyH.nil
      go_simp
      refine (HAP.out _ (HBW.out _ HB1.out)).mono ?_
      rintro e y2 ⟨rfl, hb⟩
      have HB2 : Hid (Below W0.heap.size W0 y2) := HB1.out.trans (hb.mono HB1.out.size)
      clear hb
      try go_wp2_with fail
      refine hK.out _ _ (HD.out _ HB2.out) (fun hHeld => ?_)
      clear hK K
      try simp only [Act.put, List.setIfInBounds_toArray, List.set_cons_zero, List.set_cons_succ]
      refine tkr (i := 7) (v := ?_) (tA rfl) (by kernel_rfl) (fun _ _ _ h => h) (Or.inl ⟨by rfl, ?_⟩) (by assumption) ?_
      rotate_left
      · (intro w hSw; (try dsimp only at hSw); go_simp <;> with_reducible rfl)
      simp only [Act.put, List.setIfInBounds_toArray, List.set_cons_zero, List.set_cons_succ]
      refine tkr (i := 8) (v := ?_) (tA rfl) (by kernel_rfl) (fun _ _ _ h => h) (Or.inl ⟨by rfl, ?_⟩) (by assumption) ?_
      rotate_left
      · (intro w hSw; (try dsimp only at hSw); go_simp <;> with_reducible rfl)
      simp only [Act.put, List.setIfInBounds_toArray, List.set_cons_zero, List.set_cons_succ]
      refine tkr (i := 9) (v := ?_) (tA rfl) (by kernel_rfl) (fun _ _ _ h => h) (Or.inl ⟨by rfl, ?_⟩) (by assumption) ?_
      rotate_left
      · (intro w hSw; (try dsimp only at hSw); go_simp <;> with_reducible rfl)
      simp only [Act.put, List.setIfInBounds_toArray, List.set_cons_zero, List.set_cons_succ]
      refine tkr (i := 10) (v := undef) (tA rfl) (by kernel_rfl) (fun _ _ _ h => h) (Or.inr ⟨by rfl, rfl⟩) (by assumption) ?_
      simp only [Act.put, List.setIfInBounds_toArray, List.set_cons_zero, List.set_cons_succ]
      refine tkr (i := 11) (v := undef) (tA rfl) (by kernel_rfl) (fun _ _ _ h => h) (Or.inr ⟨by rfl, rfl⟩) (by assumption) ?_
      simp only [Act.put, List.setIfInBounds_toArray, List.set_cons_zero, List.set_cons_succ]
      refine tkr (i := 12) (v := undef) (tA rfl) (by kernel_rfl) (fun _ _ _ h => h) (Or.inr ⟨by rfl, rfl⟩) (by assumption) ?_
      simp only [Act.put, List.setIfInBounds_toArray, List.set_cons_zero, List.set_cons_succ]
      refine tkr (i := 13) (v := undef) (tA rfl) (by kernel_rfl) (fun _ _ _ h => h) (Or.inr ⟨by rfl, rfl⟩) (by assumption) ?_
      simp only [Act.put, List.setIfInBounds_toArray, List.set_cons_zero, List.set_cons_succ]
      refine tkr (i := 14) (v := undef) (tA rfl) (by kernel_rfl) (fun _ _ _ h => h) (Or.inr ⟨by rfl, rfl⟩) (by assumption) ?_
      simp only [Act.put, List.setIfInBounds_toArray, List.set_cons_zero, List.set_cons_succ]
      refine tkr (i := 15) (v := undef) (tA rfl) (by kernel_rfl) (fun _ _ _ h => h) (Or.inr ⟨by rfl, rfl⟩) (by assumption) ?_
      simp only [Act.put, List.setIfInBounds_toArray, List.set_cons_zero, List.set_cons_succ]
      refine tkr (i := 16) (v := ?_) (tA rfl) (by kernel_rfl) (fun _ _ _ h => h) (Or.inl ⟨by rfl, ?_⟩) (by assumption) ?_
      rotate_left
      · (intro w hSw; (try dsimp only at hSw); go_simp <;> with_reducible rfl)
      simp only [Act.put, List.setIfInBounds_toArray, List.set_cons_zero, List.set_cons_succ]
      refine wpAnyH_done (by kernel_rfl) ?_ _
      clear hHeld
      go_wp2_with fail
      go_ret
      exact ⟨rfl, HBW.out _ HB2.out⟩
    | true =>
      have HT : Hid ((lw : Int) = f.temps) := by
        have h := HAF.out
        unfold F.arePl at h
        rw [Bool.and_eq_true, decide_eq_true_eq] at h
        exact h.1
      have HRA : Hid (∀ U, LfU f l U → F.areR ws (F.els (F.keptS f U l)) (F.doneP f U l) = R) := fun U hU => by
        rw [← HR.out]
        unfold F.chk
        rw [HMF.out, HAF.out, Bool.true_and, Bool.true_and, Bool.eq_iff_iff, F.areR_iff hU]
        simp
      clear HR
      cases R with
      | false =>
        go_enter Tryd.func19, Tryd.ntmps19
        go_wp2_with fail
        clear hW0 d0 d1 d2 d3 e0 e1
        refine wp_region_held_drew (S := (fun w' : World => w'.cell? ⟨w.heap.size, 0, none⟩ = some (.string f.name) ∧ w'.cell? ⟨w.heap.size, 1, none⟩ = some (.int .i64 f.params) ∧ w'.cell? ⟨w.heap.size, 2, none⟩ = some (.int .i64 f.temps) ∧ w'.cell? ⟨w.heap.size, 3, none⟩ = some (.slice a l c) ∧ w'.cell? ⟨w.heap.size + 1, 0, none⟩ = some (.slice aw lw cw) ∧ w'.cell? ⟨w.heap.size + 1, 1, none⟩ = some (.int .i64 slots))) (by kernel_rfl) (HD.out _ (Below.refl _ _).drew) (fun hHeld => ?_)
        refine tkr (i := 0) (v := ?_) (tA rfl) (by kernel_rfl) (fun _ _ _ h => h) (Or.inl ⟨by rfl, ?_⟩) (by assumption) ?_
        rotate_left
        · (intro w hSw; (try dsimp only at hSw); go_simp <;> with_reducible rfl)
        simp only [Act.put, List.setIfInBounds_toArray, List.set_cons_zero, List.set_cons_succ]
        refine wpAnyH_ready (rs := [1]) (by kernel_rfl) (by simp) ?_
        refine AllReadyH.cons (tA rfl) (fun K hK => ?_) AllReadyH.nil
        go_simp
        refine (HMB.out _ (HBW.out _ (Below.refl _ _).drew)).mono ?_
        rintro e y1 ⟨rfl, hb⟩
        have HB1 : Hid (Below W0.heap.size W0 y1) := (Below.refl _ _).drew.trans hb
        clear hb
        try go_wp2_with fail
        refine hK.out _ _ (HD.out _ HB1.out) (fun hHeld => ?_)
        clear hK K
        try simp only [Act.put, List.setIfInBounds_toArray, List.set_cons_zero, List.set_cons_succ]
        refine tkr (i := 2) (v := ?_) (tA rfl) (by kernel_rfl) (fun _ _ _ h => h) (Or.inl ⟨by rfl, ?_⟩) (by assumption) ?_
        rotate_left
        · (intro w hSw; (try dsimp only at hSw); go_simp <;> with_reducible rfl)
        simp only [Act.put, List.setIfInBounds_toArray, List.set_cons_zero, List.set_cons_succ]
        refine tkr (i := 3) (v := ?_) (tA rfl) (by kernel_rfl) (fun _ _ _ h => h) (Or.inl ⟨by rfl, ?_⟩) (by assumption) ?_
        rotate_left
        · (intro w hSw; (try dsimp only at hSw); go_simp <;> with_reducible rfl)
        simp only [Act.put, List.setIfInBounds_toArray, List.set_cons_zero, List.set_cons_succ]
        refine tkr (i := 4) (v := ?_) (tA rfl) (by kernel_rfl) (fun _ _ _ h => h) (Or.inl ⟨by rfl, ?_⟩) (by assumption) ?_
        rotate_left
        · (intro w hSw; (try dsimp only at hSw); go_simp <;> with_reducible rfl)
        simp only [Act.put, List.setIfInBounds_toArray, List.set_cons_zero, List.set_cons_succ]
        refine tkr (i := 5) (v := ?_) (tA rfl) (by kernel_rfl) (fun _ _ _ h => h) (Or.inl ⟨by rfl, ?_⟩) (by assumption) ?_
        rotate_left
        · (intro w hSw; (try dsimp only at hSw); go_simp <;> with_reducible rfl)
        simp only [Act.put, List.setIfInBounds_toArray, List.set_cons_zero, List.set_cons_succ]
        refine wpAnyH_ready (rs := [6]) (by kernel_rfl) (by simp) ?_
        refine AllReadyH.cons (tA rfl) (fun K hK => ?_) AllReadyH.nil
        go_simp
        refine (HAP.out _ (HBW.out _ HB1.out)).mono ?_
        rintro e y2 ⟨rfl, hb⟩
        have HB2 : Hid (Below W0.heap.size W0 y2) := HB1.out.trans (hb.mono HB1.out.size)
        clear hb
        try go_wp2_with fail
        refine hK.out _ _ (HD.out _ HB2.out) (fun hHeld => ?_)
        clear hK K
        try simp only [Act.put, List.setIfInBounds_toArray, List.set_cons_zero, List.set_cons_succ]
        refine tkr (i := 7) (v := ?_) (tA rfl) (by kernel_rfl) (fun _ _ _ h => h) (Or.inl ⟨by rfl, ?_⟩) (by assumption) ?_
        rotate_left
        · (intro w hSw; (try dsimp only at hSw); go_simp <;> with_reducible rfl)
        simp only [Act.put, List.setIfInBounds_toArray, List.set_cons_zero, List.set_cons_succ]
        refine tkr (i := 8) (v := ?_) (tA rfl) (by kernel_rfl) (fun _ _ _ h => h) (Or.inl ⟨by rfl, ?_⟩) (by assumption) ?_
        rotate_left
        · (intro w hSw; (try dsimp only at hSw); go_simp <;> with_reducible rfl)
        simp only [Act.put, List.setIfInBounds_toArray, List.set_cons_zero, List.set_cons_succ]
        refine tkr (i := 9) (v := ?_) (tA rfl) (by kernel_rfl) (fun _ _ _ h => h) (Or.inl ⟨by rfl, ?_⟩) (by assumption) ?_
        rotate_left
        · (intro w hSw; (try dsimp only at hSw); go_simp <;> with_reducible rfl)
        simp only [Act.put, List.setIfInBounds_toArray, List.set_cons_zero, List.set_cons_succ]
        refine tkr (i := 10) (v := ?_) (tA rfl) (by kernel_rfl) (fun _ _ _ h => h) (Or.inl ⟨by rfl, ?_⟩) (by assumption) ?_
        rotate_left
        · (intro w hSw; (try dsimp only at hSw); go_simp <;> with_reducible rfl)
        simp only [Act.put, List.setIfInBounds_toArray, List.set_cons_zero, List.set_cons_succ]
        refine tkr (i := 12) (v := ?_) (tA rfl) (by kernel_rfl) (fun _ _ _ h => h) (Or.inl ⟨by rfl, ?_⟩) (by assumption) ?_
        rotate_left
        · (intro w hSw; (try dsimp only at hSw); go_simp <;> with_reducible rfl)
        simp only [Act.put, List.setIfInBounds_toArray, List.set_cons_zero, List.set_cons_succ]
        refine tkr (i := 13) (v := ?_) (tA rfl) (by kernel_rfl) (fun _ _ _ h => h) (Or.inl ⟨by rfl, ?_⟩) (by assumption) ?_
        rotate_left
        · (intro w hSw; (try dsimp only at hSw); go_simp <;> with_reducible rfl)
        simp only [Act.put, List.setIfInBounds_toArray, List.set_cons_zero, List.set_cons_succ]
        refine wpAnyH_ready (rs := [11]) (by kernel_rfl) (by simp) ?_
        refine AllReadyH.cons (tA rfl) (fun K hK => ?_) AllReadyH.nil
        go_simp
        refine (HNL.out HMF.out _ (HBW.out _ HB2.out)).mono ?_
        rintro e y3 ⟨bl, ga, U, rfl, hlf, hlu, hge, hb⟩
        have HB3 : Hid (Below W0.heap.size W0 y3) := HB2.out.trans (hb.mono HB2.out.size)
        have HLF : Hid (LfV y3 bl f a l c ga U ∧ LfU f l U) := ⟨hlf, hlu⟩
        clear hb hge hlf hlu
        try go_wp2_with fail
        refine hK.out _ _ (HD.out _ HB3.out) (fun hHeld => ?_)
        clear hK K
        try simp only [Act.put, List.setIfInBounds_toArray, List.set_cons_zero, List.set_cons_succ]
        refine wpAnyH_ready (rs := [14]) (by kernel_rfl) (by simp) ?_
        refine AllReadyH.cons (tA rfl) (fun K hK => ?_) AllReadyH.nil
        go_simp
        refine (areRight_any HLF.out.1 HLF.out.2 (HNV.out _ (HBW.out _ HB3.out)) HT.out).mono ?_
        rintro e y4 ⟨rfl, hb⟩
        have HB4 : Hid (Below W0.heap.size W0 y4) := HB3.out.trans (hb.mono HB3.out.size)
        rw [HRA.out U HLF.out.2]
        clear hb
        try go_wp2_with fail
        refine hK.out _ _ (HD.out _ HB4.out) (fun hHeld => ?_)
        clear hK K
        try simp only [Act.put, List.setIfInBounds_toArray, List.set_cons_zero, List.set_cons_succ]
        refine tkr (i := 15) (v := ?_) (tA rfl) (by kernel_rfl) (fun _ _ _ h => h) (Or.inl ⟨by rfl, ?_⟩) (by assumption) ?_
        rotate_left
        · (intro w hSw; (try dsimp only at hSw); go_simp <;> with_reducible rfl)
        simp only [Act.put, List.setIfInBounds_toArray, List.set_cons_zero, List.set_cons_succ]
        refine tkr (i := 16) (v := ?_) (tA rfl) (by kernel_rfl) (fun _ _ _ h => h) (Or.inl ⟨by rfl, ?_⟩) (by assumption) ?_
        rotate_left
        · (intro w hSw; (try dsimp only at hSw); go_simp <;> with_reducible rfl)
        simp only [Act.put, List.setIfInBounds_toArray, List.set_cons_zero, List.set_cons_succ]
        refine wpAnyH_done (by kernel_rfl) ?_ _
        clear hHeld
        go_wp2_with fail
        go_ret
        exact ⟨rfl, HBW.out _ HB4.out⟩
      | true =>
        go_enter Tryd.func19, Tryd.ntmps19
        go_wp2_with fail
        clear hW0 d0 d1 d2 d3 e0 e1
        refine wp_region_held_drew (S := (fun w' : World => w'.cell? ⟨w.heap.size, 0, none⟩ = some (.string f.name) ∧ w'.cell? ⟨w.heap.size, 1, none⟩ = some (.int .i64 f.params) ∧ w'.cell? ⟨w.heap.size, 2, none⟩ = some (.int .i64 f.temps) ∧ w'.cell? ⟨w.heap.size, 3, none⟩ = some (.slice a l c) ∧ w'.cell? ⟨w.heap.size + 1, 0, none⟩ = some (.slice aw lw cw) ∧ w'.cell? ⟨w.heap.size + 1, 1, none⟩ = some (.int .i64 slots))) (by kernel_rfl) (HD.out _ (Below.refl _ _).drew) (fun hHeld => ?_)
        refine tkr (i := 0) (v := ?_) (tA rfl) (by kernel_rfl) (fun _ _ _ h => h) (Or.inl ⟨by rfl, ?_⟩) (by assumption) ?_
        rotate_left
        · (intro w hSw; (try dsimp only at hSw); go_simp <;> with_reducible rfl)
        simp only [Act.put, List.setIfInBounds_toArray, List.set_cons_zero, List.set_cons_succ]
        refine wpAnyH_ready (rs := [1]) (by kernel_rfl) (by simp) ?_
        refine AllReadyH.cons (tA rfl) (fun K hK => ?_) AllReadyH.nil
        go_simp
        refine (HMB.out _ (HBW.out _ (Below.refl _ _).drew)).mono ?_
        rintro e y1 ⟨rfl, hb⟩
        have HB1 : Hid (Below W0.heap.size W0 y1) := (Below.refl _ _).drew.trans hb
        clear hb
        try go_wp2_with fail
        refine hK.out _ _ (HD.out _ HB1.out) (fun hHeld => ?_)
        clear hK K
        try simp only [Act.put, List.setIfInBounds_toArray, List.set_cons_zero, List.set_cons_succ]
        refine tkr (i := 2) (v := ?_) (tA rfl) (by kernel_rfl) (fun _ _ _ h => h) (Or.inl ⟨by rfl, ?_⟩) (by assumption) ?_
        rotate_left
        · (intro w hSw; (try dsimp only at hSw); go_simp <;> with_reducible rfl)
        simp only [Act.put, List.setIfInBounds_toArray, List.set_cons_zero, List.set_cons_succ]
        refine tkr (i := 3) (v := ?_) (tA rfl) (by kernel_rfl) (fun _ _ _ h => h) (Or.inl ⟨by rfl, ?_⟩) (by assumption) ?_
        rotate_left
        · (intro w hSw; (try dsimp only at hSw); go_simp <;> with_reducible rfl)
        simp only [Act.put, List.setIfInBounds_toArray, List.set_cons_zero, List.set_cons_succ]
        refine tkr (i := 4) (v := ?_) (tA rfl) (by kernel_rfl) (fun _ _ _ h => h) (Or.inl ⟨by rfl, ?_⟩) (by assumption) ?_
        rotate_left
        · (intro w hSw; (try dsimp only at hSw); go_simp <;> with_reducible rfl)
        simp only [Act.put, List.setIfInBounds_toArray, List.set_cons_zero, List.set_cons_succ]
        refine tkr (i := 5) (v := ?_) (tA rfl) (by kernel_rfl) (fun _ _ _ h => h) (Or.inl ⟨by rfl, ?_⟩) (by assumption) ?_
        rotate_left
        · (intro w hSw; (try dsimp only at hSw); go_simp <;> with_reducible rfl)
        simp only [Act.put, List.setIfInBounds_toArray, List.set_cons_zero, List.set_cons_succ]
        refine wpAnyH_ready (rs := [6]) (by kernel_rfl) (by simp) ?_
        refine AllReadyH.cons (tA rfl) (fun K hK => ?_) AllReadyH.nil
        go_simp
        refine (HAP.out _ (HBW.out _ HB1.out)).mono ?_
        rintro e y2 ⟨rfl, hb⟩
        have HB2 : Hid (Below W0.heap.size W0 y2) := HB1.out.trans (hb.mono HB1.out.size)
        clear hb
        try go_wp2_with fail
        refine hK.out _ _ (HD.out _ HB2.out) (fun hHeld => ?_)
        clear hK K
        try simp only [Act.put, List.setIfInBounds_toArray, List.set_cons_zero, List.set_cons_succ]
        refine tkr (i := 7) (v := ?_) (tA rfl) (by kernel_rfl) (fun _ _ _ h => h) (Or.inl ⟨by rfl, ?_⟩) (by assumption) ?_
        rotate_left
        · (intro w hSw; (try dsimp only at hSw); go_simp <;> with_reducible rfl)
        simp only [Act.put, List.setIfInBounds_toArray, List.set_cons_zero, List.set_cons_succ]
        refine tkr (i := 8) (v := ?_) (tA rfl) (by kernel_rfl) (fun _ _ _ h => h) (Or.inl ⟨by rfl, ?_⟩) (by assumption) ?_
        rotate_left
        · (intro w hSw; (try dsimp only at hSw); go_simp <;> with_reducible rfl)
        simp only [Act.put, List.setIfInBounds_toArray, List.set_cons_zero, List.set_cons_succ]
        refine tkr (i := 9) (v := ?_) (tA rfl) (by kernel_rfl) (fun _ _ _ h => h) (Or.inl ⟨by rfl, ?_⟩) (by assumption) ?_
        rotate_left
        · (intro w hSw; (try dsimp only at hSw); go_simp <;> with_reducible rfl)
        simp only [Act.put, List.setIfInBounds_toArray, List.set_cons_zero, List.set_cons_succ]
        refine tkr (i := 10) (v := ?_) (tA rfl) (by kernel_rfl) (fun _ _ _ h => h) (Or.inl ⟨by rfl, ?_⟩) (by assumption) ?_
        rotate_left
        · (intro w hSw; (try dsimp only at hSw); go_simp <;> with_reducible rfl)
        simp only [Act.put, List.setIfInBounds_toArray, List.set_cons_zero, List.set_cons_succ]
        refine tkr (i := 12) (v := ?_) (tA rfl) (by kernel_rfl) (fun _ _ _ h => h) (Or.inl ⟨by rfl, ?_⟩) (by assumption) ?_
        rotate_left
        · (intro w hSw; (try dsimp only at hSw); go_simp <;> with_reducible rfl)
        simp only [Act.put, List.setIfInBounds_toArray, List.set_cons_zero, List.set_cons_succ]
        refine tkr (i := 13) (v := ?_) (tA rfl) (by kernel_rfl) (fun _ _ _ h => h) (Or.inl ⟨by rfl, ?_⟩) (by assumption) ?_
        rotate_left
        · (intro w hSw; (try dsimp only at hSw); go_simp <;> with_reducible rfl)
        simp only [Act.put, List.setIfInBounds_toArray, List.set_cons_zero, List.set_cons_succ]
        refine wpAnyH_ready (rs := [11]) (by kernel_rfl) (by simp) ?_
        refine AllReadyH.cons (tA rfl) (fun K hK => ?_) AllReadyH.nil
        go_simp
        refine (HNL.out HMF.out _ (HBW.out _ HB2.out)).mono ?_
        rintro e y3 ⟨bl, ga, U, rfl, hlf, hlu, hge, hb⟩
        have HB3 : Hid (Below W0.heap.size W0 y3) := HB2.out.trans (hb.mono HB2.out.size)
        have HLF : Hid (LfV y3 bl f a l c ga U ∧ LfU f l U) := ⟨hlf, hlu⟩
        clear hb hge hlf hlu
        try go_wp2_with fail
        refine hK.out _ _ (HD.out _ HB3.out) (fun hHeld => ?_)
        clear hK K
        try simp only [Act.put, List.setIfInBounds_toArray, List.set_cons_zero, List.set_cons_succ]
        refine wpAnyH_ready (rs := [14]) (by kernel_rfl) (by simp) ?_
        refine AllReadyH.cons (tA rfl) (fun K hK => ?_) AllReadyH.nil
        go_simp
        refine (areRight_any HLF.out.1 HLF.out.2 (HNV.out _ (HBW.out _ HB3.out)) HT.out).mono ?_
        rintro e y4 ⟨rfl, hb⟩
        have HB4 : Hid (Below W0.heap.size W0 y4) := HB3.out.trans (hb.mono HB3.out.size)
        rw [HRA.out U HLF.out.2]
        clear hb
        try go_wp2_with fail
        refine hK.out _ _ (HD.out _ HB4.out) (fun hHeld => ?_)
        clear hK K
        try simp only [Act.put, List.setIfInBounds_toArray, List.set_cons_zero, List.set_cons_succ]
        refine tkr (i := 15) (v := ?_) (tA rfl) (by kernel_rfl) (fun _ _ _ h => h) (Or.inl ⟨by rfl, ?_⟩) (by assumption) ?_
        rotate_left
        · (intro w hSw; (try dsimp only at hSw); go_simp <;> with_reducible rfl)
        simp only [Act.put, List.setIfInBounds_toArray, List.set_cons_zero, List.set_cons_succ]
        refine tkr (i := 16) (v := ?_) (tA rfl) (by kernel_rfl) (fun _ _ _ h => h) (Or.inl ⟨by rfl, ?_⟩) (by assumption) ?_
        rotate_left
        · (intro w hSw; (try dsimp only at hSw); go_simp <;> with_reducible rfl)
        simp only [Act.put, List.setIfInBounds_toArray, List.set_cons_zero, List.set_cons_succ]
        refine wpAnyH_done (by kernel_rfl) ?_ _
        clear hHeld
        go_wp2_with fail
        go_ret
        exact ⟨rfl, HBW.out _ HB4.out⟩
end Go.Proofs.YtljgpngbkmembaaDoor

/- Lists held against each other: SameInts, ints, SameLists. -/
namespace Go.Proofs.YtljgpngbkmembaaDoor
open Go.RowKit Go.Maps
set_option linter.unusedVariables false
set_option linter.unusedSimpArgs false
set_option maxRecDepth 100000 in
set_option maxHeartbeats 4000000 in
theorem rSameInts_any {w : World} {a a2 : Option Addr} {l c l2 c2 : Nat} {zs ys : List Int} (h : NumV w a l c zs) (h2 : NumV w a2 l2 c2 ys) : Calls Tryd.prog 14 #[.slice a l c, .slice a2 l2 c2] w fun e w' => e = .returned (.bool (decide (zs = ys))) ∧ Below w.heap.size w w' := by
  have hmax : maxLen = 9223372036854775807 := rfl
  have H1 : Hid (NumV w a l c zs) := h
  have H2 : Hid (NumV w a2 l2 c2 ys) := h2
  have HC1 : Hid (zs.length = l) := h.count
  have HC2 : Hid (ys.length = l2) := h2.count
  have hm1 := h.room
  have hm2 := h2.room
  obtain ⟨R, hR⟩ : ∃ R, decide (zs = ys) = R := ⟨_, rfl⟩
  have HR : Hid (decide (zs = ys) = R) := hR
  rw [hR]
  clear h h2 hR
  by_cases hl : l = l2
  rotate_left
  · have HRF : R = false := by
      rw [← HR.out, decide_eq_false_iff_not]
      intro e
      have := HC1.out
      rw [e, HC2.out] at this
      exact hl this.symm
    subst HRF
    have el : ((l : Int) != (l2 : Int)) = true := by have : ¬ (l : Int) = l2 := by omega
                                                     simpa using this
    clear hl
    go_enter Tryd.func14, Tryd.ntmps14
    go_wp2_with fail
    go_ret
    exact ⟨rfl, Below.refl _ _⟩
  subst hl
  have el : ((l : Int) != (l : Int)) = false := by simp
  go_enter Tryd.func14, Tryd.ntmps14
  go_wp2_with fail
  go_loopg [5] l (fun g iv wq => ∃ (k : Nat), g = l - k ∧ iv = .int .i64 k ∧ k ≤ l ∧ Hid (∀ i, i < k → zs.getD i 0 = ys.getD i 0) ∧ Hid (Below w.heap.size w wq))
  case atStart => exact ⟨0, rfl, rfl, Nat.zero_le _, (fun i hi => by omega : ∀ i, i < 0 → zs.getD i 0 = ys.getD i 0), Below.refl _ _⟩
  case round =>
    obtain ⟨k, rfl, rfl, hk, HAL, HB⟩ := hrel
    by_cases hkl : k < l
    · have hki : (k : Int) < l := by omega
      have hk0 : 0 ≤ (k : Int) := by omega
      obtain ⟨b, off, hab, ck⟩ := (H1.out.below HB.out).at hkl
      obtain ⟨b2, off2, hab2, ck2⟩ := (H2.out.below HB.out).at hkl
      subst hab hab2
      have HBD : Hid (Below w.heap.size w wr.drew) := HB.out.drew
      have HNE : Hid (¬ zs.getD k 0 = ys.getD k 0 → R = false) := fun e => by
        rw [← HR.out, decide_eq_false_iff_not]
        intro e2
        exact e (by rw [e2])
      have HEQ : Hid (zs.getD k 0 = ys.getD k 0 → ∀ i, i < k + 1 → zs.getD i 0 = ys.getD i 0) := fun e i hi => by
        by_cases e2 : i = k
        · subst e2; exact e
        · exact HAL.out i (by omega)
      obtain ⟨x, hx⟩ : ∃ x, zs.getD k 0 = x := ⟨_, rfl⟩
      obtain ⟨y, hy⟩ : ∃ y, ys.getD k 0 = y := ⟨_, rfl⟩
      rw [hx] at ck HNE HEQ
      rw [hy] at ck2 HNE HEQ
      clear hx hy
      have HS : Hid (wr.drew.cell? ⟨b, off + k, none⟩ = some (.int .i64 x) ∧ wr.drew.cell? ⟨b2, off2 + k, none⟩ = some (.int .i64 y)) := by
        simp only [World.cell?_drew]
        exact ⟨ck, ck2⟩
      clear ck ck2
      by_cases hxy : x = y
      · have HN : Hid _ := HEQ.out hxy
        subst hxy
        have e1 : (x != x) = false := by simp
        clear HEQ HNE
        go_wp2_with fail
        refine wp_region_held_drew (S := (fun w' : World => w'.cell? ⟨b, off + k, none⟩ = some (.int .i64 x) ∧ w'.cell? ⟨b2, off2 + k, none⟩ = some (.int .i64 x))) (by kernel_rfl) HS.out (fun hHeld => ?_)
        refine tk (i := 0) (v := ?_) (tA rfl) (by kernel_rfl) (fun _ _ _ h => h) (Or.inl ⟨by rfl, ?_⟩) (by assumption) ?_
        rotate_left
        · (intro w hSw; (try dsimp only at hSw); go_simp <;> with_reducible rfl)
        simp only [Act.put, List.setIfInBounds_toArray, List.set_cons_zero, List.set_cons_succ]
        refine tk (i := 1) (v := ?_) (tA rfl) (by kernel_rfl) (fun _ _ _ h => h) (Or.inl ⟨by rfl, ?_⟩) (by assumption) ?_
        rotate_left
        · (intro w hSw; (try dsimp only at hSw); go_simp <;> with_reducible rfl)
        simp only [Act.put, List.setIfInBounds_toArray, List.set_cons_zero, List.set_cons_succ]
        refine tk (i := 2) (v := ?_) (tA rfl) (by kernel_rfl) (fun _ _ _ h => h) (Or.inl ⟨by rfl, ?_⟩) (by assumption) ?_
        rotate_left
        · (intro w hSw; (try dsimp only at hSw); go_simp <;> with_reducible rfl)
        simp only [Act.put, List.setIfInBounds_toArray, List.set_cons_zero, List.set_cons_succ]
        refine tk (i := 3) (v := ?_) (tA rfl) (by kernel_rfl) (fun _ _ _ h => h) (Or.inl ⟨by rfl, ?_⟩) (by assumption) ?_
        rotate_left
        · (intro w hSw; (try dsimp only at hSw); go_simp <;> with_reducible rfl)
        simp only [Act.put, List.setIfInBounds_toArray, List.set_cons_zero, List.set_cons_succ]
        refine tk (i := 4) (v := ?_) (tA rfl) (by kernel_rfl) (fun _ _ _ h => h) (Or.inl ⟨by rfl, ?_⟩) (by assumption) ?_
        rotate_left
        · (intro w hSw; (try dsimp only at hSw); go_simp <;> with_reducible rfl)
        simp only [Act.put, List.setIfInBounds_toArray, List.set_cons_zero, List.set_cons_succ]
        refine tk (i := 5) (v := ?_) (tA rfl) (by kernel_rfl) (fun _ _ _ h => h) (Or.inl ⟨by rfl, ?_⟩) (by assumption) ?_
        rotate_left
        · (intro w hSw; (try dsimp only at hSw); go_simp <;> with_reducible rfl)
        simp only [Act.put, List.setIfInBounds_toArray, List.set_cons_zero, List.set_cons_succ]
        refine tk (i := 6) (v := ?_) (tA rfl) (by kernel_rfl) (fun _ _ _ h => h) (Or.inl ⟨by rfl, ?_⟩) (by assumption) ?_
        rotate_left
        · (intro w hSw; (try dsimp only at hSw); go_simp <;> with_reducible rfl)
        simp only [Act.put, List.setIfInBounds_toArray, List.set_cons_zero, List.set_cons_succ]
        refine tk (i := 7) (v := ?_) (tA rfl) (by kernel_rfl) (fun _ _ _ h => h) (Or.inl ⟨by rfl, ?_⟩) (by assumption) ?_
        rotate_left
        · (intro w hSw; (try dsimp only at hSw); go_simp <;> with_reducible rfl)
        simp only [Act.put, List.setIfInBounds_toArray, List.set_cons_zero, List.set_cons_succ]
        refine tk (i := 8) (v := ?_) (tA rfl) (by kernel_rfl) (fun _ _ _ h => h) (Or.inl ⟨by rfl, ?_⟩) (by assumption) ?_
        rotate_left
        · (intro w hSw; (try dsimp only at hSw); go_simp <;> with_reducible rfl)
        simp only [Act.put, List.setIfInBounds_toArray, List.set_cons_zero, List.set_cons_succ]
        refine wpAnyH_done (by kernel_rfl) ?_ _
        clear hHeld
        go_wp2_with fail
        go_roundg (l - (k + 1))
        case measure => omega
        case rel => exact ⟨k + 1, rfl, by go_num, by omega, HN, HBD⟩
      · have HRF := HNE.out hxy
        subst HRF
        have e1 : (x != y) = true := by simpa using hxy
        clear HEQ HNE hxy
        go_wp2_with fail
        refine wp_region_held_drew (S := (fun w' : World => w'.cell? ⟨b, off + k, none⟩ = some (.int .i64 x) ∧ w'.cell? ⟨b2, off2 + k, none⟩ = some (.int .i64 y))) (by kernel_rfl) HS.out (fun hHeld => ?_)
        refine tk (i := 0) (v := ?_) (tA rfl) (by kernel_rfl) (fun _ _ _ h => h) (Or.inl ⟨by rfl, ?_⟩) (by assumption) ?_
        rotate_left
        · (intro w hSw; (try dsimp only at hSw); go_simp <;> with_reducible rfl)
        simp only [Act.put, List.setIfInBounds_toArray, List.set_cons_zero, List.set_cons_succ]
        refine tk (i := 1) (v := ?_) (tA rfl) (by kernel_rfl) (fun _ _ _ h => h) (Or.inl ⟨by rfl, ?_⟩) (by assumption) ?_
        rotate_left
        · (intro w hSw; (try dsimp only at hSw); go_simp <;> with_reducible rfl)
        simp only [Act.put, List.setIfInBounds_toArray, List.set_cons_zero, List.set_cons_succ]
        refine tk (i := 2) (v := ?_) (tA rfl) (by kernel_rfl) (fun _ _ _ h => h) (Or.inl ⟨by rfl, ?_⟩) (by assumption) ?_
        rotate_left
        · (intro w hSw; (try dsimp only at hSw); go_simp <;> with_reducible rfl)
        simp only [Act.put, List.setIfInBounds_toArray, List.set_cons_zero, List.set_cons_succ]
        refine tk (i := 3) (v := ?_) (tA rfl) (by kernel_rfl) (fun _ _ _ h => h) (Or.inl ⟨by rfl, ?_⟩) (by assumption) ?_
        rotate_left
        · (intro w hSw; (try dsimp only at hSw); go_simp <;> with_reducible rfl)
        simp only [Act.put, List.setIfInBounds_toArray, List.set_cons_zero, List.set_cons_succ]
        refine tk (i := 4) (v := ?_) (tA rfl) (by kernel_rfl) (fun _ _ _ h => h) (Or.inl ⟨by rfl, ?_⟩) (by assumption) ?_
        rotate_left
        · (intro w hSw; (try dsimp only at hSw); go_simp <;> with_reducible rfl)
        simp only [Act.put, List.setIfInBounds_toArray, List.set_cons_zero, List.set_cons_succ]
        refine tk (i := 5) (v := ?_) (tA rfl) (by kernel_rfl) (fun _ _ _ h => h) (Or.inl ⟨by rfl, ?_⟩) (by assumption) ?_
        rotate_left
        · (intro w hSw; (try dsimp only at hSw); go_simp <;> with_reducible rfl)
        simp only [Act.put, List.setIfInBounds_toArray, List.set_cons_zero, List.set_cons_succ]
        refine tk (i := 6) (v := ?_) (tA rfl) (by kernel_rfl) (fun _ _ _ h => h) (Or.inl ⟨by rfl, ?_⟩) (by assumption) ?_
        rotate_left
        · (intro w hSw; (try dsimp only at hSw); go_simp <;> with_reducible rfl)
        simp only [Act.put, List.setIfInBounds_toArray, List.set_cons_zero, List.set_cons_succ]
        refine tk (i := 7) (v := ?_) (tA rfl) (by kernel_rfl) (fun _ _ _ h => h) (Or.inl ⟨by rfl, ?_⟩) (by assumption) ?_
        rotate_left
        · (intro w hSw; (try dsimp only at hSw); go_simp <;> with_reducible rfl)
        simp only [Act.put, List.setIfInBounds_toArray, List.set_cons_zero, List.set_cons_succ]
        refine tk (i := 8) (v := ?_) (tA rfl) (by kernel_rfl) (fun _ _ _ h => h) (Or.inl ⟨by rfl, ?_⟩) (by assumption) ?_
        rotate_left
        · (intro w hSw; (try dsimp only at hSw); go_simp <;> with_reducible rfl)
        simp only [Act.put, List.setIfInBounds_toArray, List.set_cons_zero, List.set_cons_succ]
        refine wpAnyH_done (by kernel_rfl) ?_ _
        clear hHeld
        go_wp2_with fail
        go_ret
        exact ⟨rfl, HBD.out⟩
    · have hkl2 : k = l := by omega
      subst hkl2
      have hki : ¬ (k : Int) < k := by omega
      have HRT : R = true := by
        rw [← HR.out, decide_eq_true_iff]
        apply List.ext_getElem
        · rw [HC1.out, HC2.out]
        · intro i h1 h2
          have := HAL.out i (by rw [← HC1.out]; exact h1)
          simpa [List.getD, h1, h2] using this
      subst HRT
      go_wp2_with fail
      go_ret
      exact ⟨rfl, HB.out⟩
set_option maxRecDepth 100000 in
set_option maxHeartbeats 4000000 in
theorem rints_any {w : World} {a a2 : Option Addr} {l c l2 c2 : Nat} {zs ys : List Int} (h : NumV w a l c zs) (h2 : NumV w a2 l2 c2 ys) : Calls Tryd.prog 29 #[.slice a l c, .slice a2 l2 c2] w fun e w' => e = .returned (.bool (decide (zs = ys))) ∧ Below w.heap.size w w' := by
  have hmax : maxLen = 9223372036854775807 := rfl
  have H1 : Hid (NumV w a l c zs) := h
  have H2 : Hid (NumV w a2 l2 c2 ys) := h2
  have HC1 : Hid (zs.length = l) := h.count
  have HC2 : Hid (ys.length = l2) := h2.count
  have hm1 := h.room
  have hm2 := h2.room
  obtain ⟨R, hR⟩ : ∃ R, decide (zs = ys) = R := ⟨_, rfl⟩
  have HR : Hid (decide (zs = ys) = R) := hR
  rw [hR]
  clear h h2 hR
  by_cases hl : l = l2
  rotate_left
  · have HRF : R = false := by
      rw [← HR.out, decide_eq_false_iff_not]
      intro e
      have := HC1.out
      rw [e, HC2.out] at this
      exact hl this.symm
    subst HRF
    have el : ((l : Int) != (l2 : Int)) = true := by have : ¬ (l : Int) = l2 := by omega
                                                     simpa using this
    clear hl
    go_enter Tryd.func29, Tryd.ntmps29
    go_wp2_with fail
    go_ret
    exact ⟨rfl, Below.refl _ _⟩
  subst hl
  have el : ((l : Int) != (l : Int)) = false := by simp
  go_enter Tryd.func29, Tryd.ntmps29
  go_wp2_with fail
  go_loopg [5] l (fun g iv wq => ∃ (k : Nat), g = l - k ∧ iv = .int .i64 k ∧ k ≤ l ∧ Hid (∀ i, i < k → zs.getD i 0 = ys.getD i 0) ∧ Hid (Below w.heap.size w wq))
  case atStart => exact ⟨0, rfl, rfl, Nat.zero_le _, (fun i hi => by omega : ∀ i, i < 0 → zs.getD i 0 = ys.getD i 0), Below.refl _ _⟩
  case round =>
    obtain ⟨k, rfl, rfl, hk, HAL, HB⟩ := hrel
    by_cases hkl : k < l
    · have hki : (k : Int) < l := by omega
      have hk0 : 0 ≤ (k : Int) := by omega
      obtain ⟨b, off, hab, ck⟩ := (H1.out.below HB.out).at hkl
      obtain ⟨b2, off2, hab2, ck2⟩ := (H2.out.below HB.out).at hkl
      subst hab hab2
      have HBD : Hid (Below w.heap.size w wr.drew) := HB.out.drew
      have HNE : Hid (¬ zs.getD k 0 = ys.getD k 0 → R = false) := fun e => by
        rw [← HR.out, decide_eq_false_iff_not]
        intro e2
        exact e (by rw [e2])
      have HEQ : Hid (zs.getD k 0 = ys.getD k 0 → ∀ i, i < k + 1 → zs.getD i 0 = ys.getD i 0) := fun e i hi => by
        by_cases e2 : i = k
        · subst e2; exact e
        · exact HAL.out i (by omega)
      obtain ⟨x, hx⟩ : ∃ x, zs.getD k 0 = x := ⟨_, rfl⟩
      obtain ⟨y, hy⟩ : ∃ y, ys.getD k 0 = y := ⟨_, rfl⟩
      rw [hx] at ck HNE HEQ
      rw [hy] at ck2 HNE HEQ
      clear hx hy
      have HS : Hid (wr.drew.cell? ⟨b, off + k, none⟩ = some (.int .i64 x) ∧ wr.drew.cell? ⟨b2, off2 + k, none⟩ = some (.int .i64 y)) := by
        simp only [World.cell?_drew]
        exact ⟨ck, ck2⟩
      clear ck ck2
      by_cases hxy : x = y
      · have HN : Hid _ := HEQ.out hxy
        subst hxy
        have e1 : (x != x) = false := by simp
        clear HEQ HNE
        go_wp2_with fail
        refine wp_region_held_drew (S := (fun w' : World => w'.cell? ⟨b, off + k, none⟩ = some (.int .i64 x) ∧ w'.cell? ⟨b2, off2 + k, none⟩ = some (.int .i64 x))) (by kernel_rfl) HS.out (fun hHeld => ?_)
        refine tk (i := 0) (v := ?_) (tA rfl) (by kernel_rfl) (fun _ _ _ h => h) (Or.inl ⟨by rfl, ?_⟩) (by assumption) ?_
        rotate_left
        · (intro w hSw; (try dsimp only at hSw); go_simp <;> with_reducible rfl)
        simp only [Act.put, List.setIfInBounds_toArray, List.set_cons_zero, List.set_cons_succ]
        refine tk (i := 1) (v := ?_) (tA rfl) (by kernel_rfl) (fun _ _ _ h => h) (Or.inl ⟨by rfl, ?_⟩) (by assumption) ?_
        rotate_left
        · (intro w hSw; (try dsimp only at hSw); go_simp <;> with_reducible rfl)
        simp only [Act.put, List.setIfInBounds_toArray, List.set_cons_zero, List.set_cons_succ]
        refine tk (i := 2) (v := ?_) (tA rfl) (by kernel_rfl) (fun _ _ _ h => h) (Or.inl ⟨by rfl, ?_⟩) (by assumption) ?_
        rotate_left
        · (intro w hSw; (try dsimp only at hSw); go_simp <;> with_reducible rfl)
        simp only [Act.put, List.setIfInBounds_toArray, List.set_cons_zero, List.set_cons_succ]
        refine tk (i := 3) (v := ?_) (tA rfl) (by kernel_rfl) (fun _ _ _ h => h) (Or.inl ⟨by rfl, ?_⟩) (by assumption) ?_
        rotate_left
        · (intro w hSw; (try dsimp only at hSw); go_simp <;> with_reducible rfl)
        simp only [Act.put, List.setIfInBounds_toArray, List.set_cons_zero, List.set_cons_succ]
        refine tk (i := 4) (v := ?_) (tA rfl) (by kernel_rfl) (fun _ _ _ h => h) (Or.inl ⟨by rfl, ?_⟩) (by assumption) ?_
        rotate_left
        · (intro w hSw; (try dsimp only at hSw); go_simp <;> with_reducible rfl)
        simp only [Act.put, List.setIfInBounds_toArray, List.set_cons_zero, List.set_cons_succ]
        refine tk (i := 5) (v := ?_) (tA rfl) (by kernel_rfl) (fun _ _ _ h => h) (Or.inl ⟨by rfl, ?_⟩) (by assumption) ?_
        rotate_left
        · (intro w hSw; (try dsimp only at hSw); go_simp <;> with_reducible rfl)
        simp only [Act.put, List.setIfInBounds_toArray, List.set_cons_zero, List.set_cons_succ]
        refine tk (i := 6) (v := ?_) (tA rfl) (by kernel_rfl) (fun _ _ _ h => h) (Or.inl ⟨by rfl, ?_⟩) (by assumption) ?_
        rotate_left
        · (intro w hSw; (try dsimp only at hSw); go_simp <;> with_reducible rfl)
        simp only [Act.put, List.setIfInBounds_toArray, List.set_cons_zero, List.set_cons_succ]
        refine tk (i := 7) (v := ?_) (tA rfl) (by kernel_rfl) (fun _ _ _ h => h) (Or.inl ⟨by rfl, ?_⟩) (by assumption) ?_
        rotate_left
        · (intro w hSw; (try dsimp only at hSw); go_simp <;> with_reducible rfl)
        simp only [Act.put, List.setIfInBounds_toArray, List.set_cons_zero, List.set_cons_succ]
        refine tk (i := 8) (v := ?_) (tA rfl) (by kernel_rfl) (fun _ _ _ h => h) (Or.inl ⟨by rfl, ?_⟩) (by assumption) ?_
        rotate_left
        · (intro w hSw; (try dsimp only at hSw); go_simp <;> with_reducible rfl)
        simp only [Act.put, List.setIfInBounds_toArray, List.set_cons_zero, List.set_cons_succ]
        refine wpAnyH_done (by kernel_rfl) ?_ _
        clear hHeld
        go_wp2_with fail
        go_roundg (l - (k + 1))
        case measure => omega
        case rel => exact ⟨k + 1, rfl, by go_num, by omega, HN, HBD⟩
      · have HRF := HNE.out hxy
        subst HRF
        have e1 : (x != y) = true := by simpa using hxy
        clear HEQ HNE hxy
        go_wp2_with fail
        refine wp_region_held_drew (S := (fun w' : World => w'.cell? ⟨b, off + k, none⟩ = some (.int .i64 x) ∧ w'.cell? ⟨b2, off2 + k, none⟩ = some (.int .i64 y))) (by kernel_rfl) HS.out (fun hHeld => ?_)
        refine tk (i := 0) (v := ?_) (tA rfl) (by kernel_rfl) (fun _ _ _ h => h) (Or.inl ⟨by rfl, ?_⟩) (by assumption) ?_
        rotate_left
        · (intro w hSw; (try dsimp only at hSw); go_simp <;> with_reducible rfl)
        simp only [Act.put, List.setIfInBounds_toArray, List.set_cons_zero, List.set_cons_succ]
        refine tk (i := 1) (v := ?_) (tA rfl) (by kernel_rfl) (fun _ _ _ h => h) (Or.inl ⟨by rfl, ?_⟩) (by assumption) ?_
        rotate_left
        · (intro w hSw; (try dsimp only at hSw); go_simp <;> with_reducible rfl)
        simp only [Act.put, List.setIfInBounds_toArray, List.set_cons_zero, List.set_cons_succ]
        refine tk (i := 2) (v := ?_) (tA rfl) (by kernel_rfl) (fun _ _ _ h => h) (Or.inl ⟨by rfl, ?_⟩) (by assumption) ?_
        rotate_left
        · (intro w hSw; (try dsimp only at hSw); go_simp <;> with_reducible rfl)
        simp only [Act.put, List.setIfInBounds_toArray, List.set_cons_zero, List.set_cons_succ]
        refine tk (i := 3) (v := ?_) (tA rfl) (by kernel_rfl) (fun _ _ _ h => h) (Or.inl ⟨by rfl, ?_⟩) (by assumption) ?_
        rotate_left
        · (intro w hSw; (try dsimp only at hSw); go_simp <;> with_reducible rfl)
        simp only [Act.put, List.setIfInBounds_toArray, List.set_cons_zero, List.set_cons_succ]
        refine tk (i := 4) (v := ?_) (tA rfl) (by kernel_rfl) (fun _ _ _ h => h) (Or.inl ⟨by rfl, ?_⟩) (by assumption) ?_
        rotate_left
        · (intro w hSw; (try dsimp only at hSw); go_simp <;> with_reducible rfl)
        simp only [Act.put, List.setIfInBounds_toArray, List.set_cons_zero, List.set_cons_succ]
        refine tk (i := 5) (v := ?_) (tA rfl) (by kernel_rfl) (fun _ _ _ h => h) (Or.inl ⟨by rfl, ?_⟩) (by assumption) ?_
        rotate_left
        · (intro w hSw; (try dsimp only at hSw); go_simp <;> with_reducible rfl)
        simp only [Act.put, List.setIfInBounds_toArray, List.set_cons_zero, List.set_cons_succ]
        refine tk (i := 6) (v := ?_) (tA rfl) (by kernel_rfl) (fun _ _ _ h => h) (Or.inl ⟨by rfl, ?_⟩) (by assumption) ?_
        rotate_left
        · (intro w hSw; (try dsimp only at hSw); go_simp <;> with_reducible rfl)
        simp only [Act.put, List.setIfInBounds_toArray, List.set_cons_zero, List.set_cons_succ]
        refine tk (i := 7) (v := ?_) (tA rfl) (by kernel_rfl) (fun _ _ _ h => h) (Or.inl ⟨by rfl, ?_⟩) (by assumption) ?_
        rotate_left
        · (intro w hSw; (try dsimp only at hSw); go_simp <;> with_reducible rfl)
        simp only [Act.put, List.setIfInBounds_toArray, List.set_cons_zero, List.set_cons_succ]
        refine tk (i := 8) (v := ?_) (tA rfl) (by kernel_rfl) (fun _ _ _ h => h) (Or.inl ⟨by rfl, ?_⟩) (by assumption) ?_
        rotate_left
        · (intro w hSw; (try dsimp only at hSw); go_simp <;> with_reducible rfl)
        simp only [Act.put, List.setIfInBounds_toArray, List.set_cons_zero, List.set_cons_succ]
        refine wpAnyH_done (by kernel_rfl) ?_ _
        clear hHeld
        go_wp2_with fail
        go_ret
        exact ⟨rfl, HBD.out⟩
    · have hkl2 : k = l := by omega
      subst hkl2
      have hki : ¬ (k : Int) < k := by omega
      have HRT : R = true := by
        rw [← HR.out, decide_eq_true_iff]
        apply List.ext_getElem
        · rw [HC1.out, HC2.out]
        · intro i h1 h2
          have := HAL.out i (by rw [← HC1.out]; exact h1)
          simpa [List.getD, h1, h2] using this
      subst HRT
      go_wp2_with fail
      go_ret
      exact ⟨rfl, HB.out⟩
set_option maxRecDepth 100000 in
set_option maxHeartbeats 4000000 in
theorem rSameLists_any {w : World} {a a2 : Option Addr} {l c l2 c2 : Nat} {zs ys : List (List Int)} (h : LsV w a l c zs) (h2 : LsV w a2 l2 c2 ys) : Calls Tryd.prog 13 #[.slice a l c, .slice a2 l2 c2] w fun e w' => e = .returned (.bool (decide (zs = ys))) ∧ Below w.heap.size w w' := by
  have hmax : maxLen = 9223372036854775807 := rfl
  have H1 : Hid (LsV w a l c zs) := h
  have H2 : Hid (LsV w a2 l2 c2 ys) := h2
  have HC1 : Hid (zs.length = l) := h.count
  have HC2 : Hid (ys.length = l2) := h2.count
  have hm1 := h.room
  have hm2 := h2.room
  obtain ⟨R, hR⟩ : ∃ R, decide (zs = ys) = R := ⟨_, rfl⟩
  have HR : Hid (decide (zs = ys) = R) := hR
  rw [hR]
  clear h h2 hR
  by_cases hl : l = l2
  rotate_left
  · have HRF : R = false := by
      rw [← HR.out, decide_eq_false_iff_not]
      intro e
      have := HC1.out
      rw [e, HC2.out] at this
      exact hl this.symm
    subst HRF
    have el : ((l : Int) != (l2 : Int)) = true := by have : ¬ (l : Int) = l2 := by omega
                                                     simpa using this
    clear hl
    go_enter Tryd.func13, Tryd.ntmps13
    go_wp2_with fail
    go_ret
    exact ⟨rfl, Below.refl _ _⟩
  subst hl
  have el : ((l : Int) != (l : Int)) = false := by simp
  go_enter Tryd.func13, Tryd.ntmps13
  go_wp2_with fail
  go_loopg [5, 6] l (fun g iv z6 wq => ∃ (k : Nat), g = l - k ∧ iv = .int .i64 k ∧ k ≤ l ∧ Hid (∀ i, i < k → zs.getD i [] = ys.getD i []) ∧ Hid (Below w.heap.size w wq))
  case atStart => exact ⟨0, rfl, rfl, Nat.zero_le _, (fun i hi => by omega : ∀ i, i < 0 → zs.getD i [] = ys.getD i []), Below.refl _ _⟩
  case round =>
    obtain ⟨k, rfl, rfl, hk, HAL, HB⟩ := hrel
    by_cases hkl : k < l
    · have hki : (k : Int) < l := by omega
      have hk0 : 0 ≤ (k : Int) := by omega
      obtain ⟨b, off, ai, ci, hab, ck, hv⟩ := (H1.out.below HB.out).at hkl
      obtain ⟨b2, off2, aj, cj, hab2, ck2, hv2⟩ := (H2.out.below HB.out).at hkl
      subst hab hab2
      have hsm := rSameInts_any (hv.sub (Sub.drew wr)) (hv2.sub (Sub.drew wr))
      obtain ⟨n1, hn1⟩ : ∃ n, (zs.getD k []).length = n := ⟨_, rfl⟩
      obtain ⟨n2, hn2⟩ : ∃ n, (ys.getD k []).length = n := ⟨_, rfl⟩
      have HNE : Hid (¬ zs.getD k [] = ys.getD k [] → R = false) := fun e => by
        rw [← HR.out, decide_eq_false_iff_not]
        intro e2
        exact e (by rw [e2])
      have HEQ : Hid (zs.getD k [] = ys.getD k [] → ∀ i, i < k + 1 → zs.getD i [] = ys.getD i []) := fun e i hi => by
        by_cases e2 : i = k
        · subst e2; exact e
        · exact HAL.out i (by omega)
      obtain ⟨bb, hbb⟩ : ∃ bb, decide (zs.getD k [] = ys.getD k []) = bb := ⟨_, rfl⟩
      rw [hbb] at hsm
      have HBB : Hid (decide (zs.getD k [] = ys.getD k []) = bb) := hbb
      rw [hn1] at ck hsm
      rw [hn2] at ck2 hsm
      clear hbb hn1 hn2 hv hv2
      have HS : Hid (wr.drew.cell? ⟨b, off + k, none⟩ = some (.slice ai n1 ci) ∧ wr.drew.cell? ⟨b2, off2 + k, none⟩ = some (.slice aj n2 cj)) := by
        simp only [World.cell?_drew]
        exact ⟨ck, ck2⟩
      have HKEEP : Hid (∀ y, Below wr.drew.heap.size wr.drew y → y.cell? ⟨b, off + k, none⟩ = some (.slice ai n1 ci) ∧ y.cell? ⟨b2, off2 + k, none⟩ = some (.slice aj n2 cj)) := fun y hy => ⟨cell_thru hy HS.out.1, cell_thru hy HS.out.2⟩
      clear ck ck2
      go_wp2_with fail
      refine wp_region_held_drew (S := (fun w' : World => w'.cell? ⟨b, off + k, none⟩ = some (.slice ai n1 ci) ∧ w'.cell? ⟨b2, off2 + k, none⟩ = some (.slice aj n2 cj))) (by kernel_rfl) HS.out (fun hHeld => ?_)
      refine tk (i := 0) (v := ?_) (tA rfl) (by kernel_rfl) (fun _ _ _ h => h) (Or.inl ⟨by rfl, ?_⟩) (by assumption) ?_
      rotate_left
      · (intro w hSw; (try dsimp only at hSw); go_simp <;> with_reducible rfl)
      simp only [Act.put, List.setIfInBounds_toArray, List.set_cons_zero, List.set_cons_succ]
      refine tk (i := 1) (v := ?_) (tA rfl) (by kernel_rfl) (fun _ _ _ h => h) (Or.inl ⟨by rfl, ?_⟩) (by assumption) ?_
      rotate_left
      · (intro w hSw; (try dsimp only at hSw); go_simp <;> with_reducible rfl)
      simp only [Act.put, List.setIfInBounds_toArray, List.set_cons_zero, List.set_cons_succ]
      refine tk (i := 2) (v := ?_) (tA rfl) (by kernel_rfl) (fun _ _ _ h => h) (Or.inl ⟨by rfl, ?_⟩) (by assumption) ?_
      rotate_left
      · (intro w hSw; (try dsimp only at hSw); go_simp <;> with_reducible rfl)
      simp only [Act.put, List.setIfInBounds_toArray, List.set_cons_zero, List.set_cons_succ]
      refine tk (i := 3) (v := ?_) (tA rfl) (by kernel_rfl) (fun _ _ _ h => h) (Or.inl ⟨by rfl, ?_⟩) (by assumption) ?_
      rotate_left
      · (intro w hSw; (try dsimp only at hSw); go_simp <;> with_reducible rfl)
      simp only [Act.put, List.setIfInBounds_toArray, List.set_cons_zero, List.set_cons_succ]
      refine tk (i := 4) (v := ?_) (tA rfl) (by kernel_rfl) (fun _ _ _ h => h) (Or.inl ⟨by rfl, ?_⟩) (by assumption) ?_
      rotate_left
      · (intro w hSw; (try dsimp only at hSw); go_simp <;> with_reducible rfl)
      simp only [Act.put, List.setIfInBounds_toArray, List.set_cons_zero, List.set_cons_succ]
      refine tk (i := 5) (v := ?_) (tA rfl) (by kernel_rfl) (fun _ _ _ h => h) (Or.inl ⟨by rfl, ?_⟩) (by assumption) ?_
      rotate_left
      · (intro w hSw; (try dsimp only at hSw); go_simp <;> with_reducible rfl)
      simp only [Act.put, List.setIfInBounds_toArray, List.set_cons_zero, List.set_cons_succ]
      refine tk (i := 6) (v := ?_) (tA rfl) (by kernel_rfl) (fun _ _ _ h => h) (Or.inl ⟨by rfl, ?_⟩) (by assumption) ?_
      rotate_left
      · (intro w hSw; (try dsimp only at hSw); go_simp <;> with_reducible rfl)
      simp only [Act.put, List.setIfInBounds_toArray, List.set_cons_zero, List.set_cons_succ]
      refine tk (i := 7) (v := ?_) (tA rfl) (by kernel_rfl) (fun _ _ _ h => h) (Or.inl ⟨by rfl, ?_⟩) (by assumption) ?_
      rotate_left
      · (intro w hSw; (try dsimp only at hSw); go_simp <;> with_reducible rfl)
      simp only [Act.put, List.setIfInBounds_toArray, List.set_cons_zero, List.set_cons_succ]
      refine wpAnyH_ready (rs := [8]) (by kernel_rfl) (by simp) ?_
      refine AllReadyH.cons (tA rfl) (fun K hK => ?_) AllReadyH.nil
      go_simp
      refine hsm.mono ?_
      rintro e y ⟨rfl, hy⟩
      have HY : Hid (Below wr.heap.size wr y) := (Below.refl _ _).drew.trans hy
      have HS2 : Hid _ := HKEEP.out y hy
      clear hy hsm
      try go_wp2_with fail
      refine hK.out _ _ HS2.out (fun hHeld => ?_)
      clear hK K
      try simp only [Act.put, List.setIfInBounds_toArray, List.set_cons_zero, List.set_cons_succ]
      refine tk (i := 9) (v := ?_) (tA rfl) (by kernel_rfl) (fun _ _ _ h => h) (Or.inl ⟨by rfl, ?_⟩) (by assumption) ?_
      rotate_left
      · (intro w hSw; (try dsimp only at hSw); go_simp <;> with_reducible rfl)
      simp only [Act.put, List.setIfInBounds_toArray, List.set_cons_zero, List.set_cons_succ]
      refine wpAnyH_done (by kernel_rfl) ?_ _
      clear hHeld
      have HB3 : Hid (Below w.heap.size w y) := HB.out.trans (HY.out.mono HB.out.size)
      cases bb with
      | true =>
        have HN : Hid _ := HEQ.out (of_decide_eq_true HBB.out)
        clear HEQ HNE
        go_wp2_with fail
        go_roundg (l - (k + 1))
        case measure => omega
        case rel => exact ⟨k + 1, rfl, by go_num, by omega, HN, HB3⟩
      | false =>
        have HRF := HNE.out (of_decide_eq_false HBB.out)
        subst HRF
        clear HEQ HNE
        go_wp2_with fail
        go_ret
        exact ⟨rfl, HB3.out⟩
    · have hkl2 : k = l := by omega
      subst hkl2
      have hki : ¬ (k : Int) < k := by omega
      have HRT : R = true := by
        rw [← HR.out, decide_eq_true_iff]
        apply List.ext_getElem
        · rw [HC1.out, HC2.out]
        · intro i h1 h2
          have := HAL.out i (by rw [← HC1.out]; exact h1)
          simpa [List.getD, h1, h2] using this
      subst HRT
      go_wp2_with fail
      go_ret
      exact ⟨rfl, HB.out⟩
end Go.Proofs.YtljgpngbkmembaaDoor

/- The document's machine: a load. (Written by gen_xask.py.) -/
import Derived.Test.YtneclfaamgfoeaaDoorEBa
import Derived.Test.YtneclfaamgfoeaaDoorEBb
import Derived.Test.YtneclfaamgfoeaaDoorEAq
namespace Go.Proofs.YtneclfaamgfoeaaDoor
open Go.RowKit Go.Maps
set_option linter.unusedVariables false
set_option linter.unusedSimpArgs false

theorem st_cell {t t' : Nat → Nat} {w w' : World} (h : St t t' w w') {p : Addr} {v : Value} (h0 : t p.block = 0) (hc : w.cell? p = some v) : w'.cell? p = some v := blk_cell (h.block p.block (World.block_lt_of_cell? w p hc) h0) hc

set_option maxRecDepth 100000 in
set_option maxHeartbeats 8000000 in
theorem xask_1 {B : Nat} {w : World} {b : Nat} {M : T.Mach} {t : Nat → Nat} {D Sk : List Int} {vd vs : Value} {g cap : Nat} {ev : Value} {us : List Value} (h : XV B w b M t D Sk vd vs g cap ev us) {k : Nat} (hk : k < M.ts.length) (hok : WsOk (M.th k).ws) (h8 : (M.th k).ws.length ≤ 8) {a v r : Int} (ha : (Lit.int .i64 a).wf = true) (hm : (M.mem a).isSome = true) :
    Calls Tryd.prog 51 #[.pointer (some ⟨b, 0, none⟩), .int .i64 k, S.reqV 1 a v r] w fun e w' => e = .returned (.bool true) ∧ XGone B w w' b (T.setC M k (S.finish (M.th k).c 1 r ((T.ld M k a).getD 0))) t vd vs g cap := by
  obtain ⟨X1, hX1⟩ : ∃ X1, w.alloc (.cells #[.int .i64 1, .int .i64 a, .int .i64 v, .int .i64 r] 110) = X1 := ⟨_, rfl⟩
  have hb1 : Below w.heap.size w X1 := by subst hX1; exact bl_one _ _
  have hs1 : w.heap.size < X1.heap.size := by subst hX1; simp
  have o0 : X1.cell? ⟨w.heap.size, 0, none⟩ = some (.int .i64 1) := by subst hX1; exact cell_last _ _ _ _ _ rfl rfl
  have o1 : X1.cell? ⟨w.heap.size, 1, none⟩ = some (.int .i64 a) := by subst hX1; exact cell_last _ _ _ _ _ rfl rfl
  have o2 : X1.cell? ⟨w.heap.size, 2, none⟩ = some (.int .i64 v) := by subst hX1; exact cell_last _ _ _ _ _ rfl rfl
  have o3 : X1.cell? ⟨w.heap.size, 3, none⟩ = some (.int .i64 r) := by subst hX1; exact cell_last _ _ _ _ _ rfl rfl
  have hv1 : XV B X1 b M t D Sk vd vs g cap ev us := h.below hb1
  have HTX : Hid (t w.heap.size = 0) := Classical.byContradiction fun e => by have := (h.lt _ e).2; omega
  have HB1 : Hid (Below w.heap.size w X1) := hb1
  have HV1 : Hid (XV B X1 b M t D Sk vd vs g cap ev us) := hv1
  have hro := hv1.room
  obtain ⟨n, hn⟩ : ∃ n, M.ts.length = n := ⟨_, rfl⟩
  have HTL : Hid (M.ts.length = n) := hn
  rw [hn] at hro
  obtain ⟨r1, r2, r3, r4⟩ := hro
  have hkn : k < n := by omega
  unfold maxLen at r2
  have i1 : (k : Int) < (n : Int) := by omega
  have i0 : (0 : Int) ≤ (k : Int) := by omega
  have HW : Hid _ := xword_any hv1 ha
  have HL : Hid _ := xload_any hv1 hk ha (by omega)
  rw [hm] at HL
  obtain ⟨nn, hnn⟩ : ∃ nn, (T.ld M k a).getD 0 = nn := ⟨_, rfl⟩
  obtain ⟨z1, hz1⟩ : ∃ z1, (M.mem a).getD 0 = z1 := ⟨_, rfl⟩
  obtain ⟨z2, hz2⟩ : ∃ z2, T.er (M.mem a) = z2 := ⟨_, rfl⟩
  rw [hnn] at HL
  rw [hz1, hz2] at HW
  rw [hnn]
  obtain ⟨uX1, huX1⟩ := hv1.u hk
  have d0 : X1.cell? ⟨g, k * 12, none⟩ = some (.int .i64 (M.th k).c.r0) := hv1.cell hk huX1 0 _ rfl
  have d1 : X1.cell? ⟨g, k * 12 + 1, none⟩ = some (.int .i64 (M.th k).c.r1) := hv1.cell hk huX1 1 _ rfl
  have d2 : X1.cell? ⟨g, k * 12 + 2, none⟩ = some (.int .i64 (M.th k).c.r2) := hv1.cell hk huX1 2 _ rfl
  have d3 : X1.cell? ⟨g, k * 12 + 3, none⟩ = some (.int .i64 (M.th k).c.r3) := hv1.cell hk huX1 3 _ rfl
  have d4 : X1.cell? ⟨g, k * 12 + 4, none⟩ = some (.int .i64 (M.th k).c.r4) := hv1.cell hk huX1 4 _ rfl
  have d5 : X1.cell? ⟨g, k * 12 + 5, none⟩ = some (.int .i64 (M.th k).c.r5) := hv1.cell hk huX1 5 _ rfl
  have d6 : X1.cell? ⟨g, k * 12 + 6, none⟩ = some (.int .i64 (M.th k).c.r6) := hv1.cell hk huX1 6 _ rfl
  have d7 : X1.cell? ⟨g, k * 12 + 7, none⟩ = some (.int .i64 (M.th k).c.r7) := hv1.cell hk huX1 7 _ rfl
  have d8 : X1.cell? ⟨g, k * 12 + 8, none⟩ = some (.int .i64 (M.th k).c.pc) := hv1.cell hk huX1 8 _ rfl
  have d9 : X1.cell? ⟨g, k * 12 + 9, none⟩ = some (.int .i64 (M.th k).c.st) := hv1.cell hk huX1 9 _ rfl
  have d10 : X1.cell? ⟨g, k * 12 + 10, none⟩ = some (.int .i64 (M.th k).c.tr) := hv1.cell hk huX1 10 _ rfl
  have HUY : Hid (us[k]? = some uX1) := huX1
  have HKY : Hid (k < M.ts.length) := hk
  have c3y := hv1.c3
  rw [hn] at c3y
  obtain ⟨cc, hcc⟩ : ∃ cc, (M.th k).c = cc := ⟨_, rfl⟩
  rw [hcc] at d0 d1 d2 d3 d4 d5 d6 d7 d8 d9 d10
  rw [hcc]
  obtain ⟨dd, hdd⟩ : ∃ dd, S.finish cc 1 r nn = dd := ⟨_, rfl⟩
  have hfin := rfinish_any cc 1 a v r nn X1.drew
  rw [hdd] at hfin
  rw [hdd]
  have HFIN : Hid _ := hfin
  have HLZ : Hid ((T.setC M k dd).ts.length = n) := (T.len_put M k _ _).trans hn
  have HX1 : Hid _ := hX1
  have HSX : Hid (St t t w X1) := St.ofBelow t hb1
  clear h hv1 hm hnn hz1 hz2 hfin hdd hcc hok h8 huX1 hn hk hb1
  go_enter Tryd.func51, Tryd.ntmps51
  go_wp2_with fail
  refine Calls.mono HW.out ?_
  rintro e y ⟨rfl, rfl⟩
  go_wp2_with fail
  refine Calls.mono HL.out ?_
  rintro e y2 ⟨rfl, rfl⟩
  go_wp2_with fail
  have HC3 : Hid (∀ z : World, Below y2.heap.size y2 z → z.cell? ⟨b, 3, none⟩ = some (.slice (some ⟨g, 0, none⟩) n cap)) := fun z hz => cell_up hz c3y
  refine wp_region_held_drew (S := (fun w' : World => w'.cell? ⟨b, 3, none⟩ = some (.slice (some ⟨g, 0, none⟩) n cap))) (by kernel_rfl) (HC3.out _ (Below.refl _ _).drew) (fun hHeld => ?_)
  refine tk (i := 0) (v := ?_) (tA rfl) (by kernel_rfl) (fun _ _ _ h => h) (Or.inl ⟨by rfl, ?_⟩) (by assumption) ?_
  rotate_left
  · (intro w hSw; (try dsimp only at hSw); go_simp <;> with_reducible rfl)
  simp only [Act.put, List.setIfInBounds_toArray, List.set_cons_zero, List.set_cons_succ]
  refine tk (i := 1) (v := ?_) (tA rfl) (by kernel_rfl) (fun _ _ _ h => h) (Or.inl ⟨by rfl, ?_⟩) (by assumption) ?_
  rotate_left
  · (intro w hSw; (try dsimp only at hSw); go_simp <;> with_reducible rfl)
  simp only [Act.put, List.setIfInBounds_toArray, List.set_cons_zero, List.set_cons_succ]
  refine tk (i := 2) (v := ?_) (tA rfl) (by kernel_rfl) (fun _ _ _ h => h) (Or.inl ⟨by rfl, ?_⟩) (by assumption) ?_
  rotate_left
  · (intro w hSw; (try dsimp only at hSw); go_simp <;> with_reducible rfl)
  simp only [Act.put, List.setIfInBounds_toArray, List.set_cons_zero, List.set_cons_succ]
  refine tk (i := 3) (v := ?_) (tA rfl) (by kernel_rfl) (fun _ _ _ h => h) (Or.inl ⟨by rfl, ?_⟩) (by assumption) ?_
  rotate_left
  · (intro w hSw; (try dsimp only at hSw); go_simp <;> with_reducible rfl)
  simp only [Act.put, List.setIfInBounds_toArray, List.set_cons_zero, List.set_cons_succ]
  refine tk (i := 4) (v := ?_) (tA rfl) (by kernel_rfl) (fun _ _ _ h => h) (Or.inl ⟨by rfl, ?_⟩) (by assumption) ?_
  rotate_left
  · (intro w hSw; (try dsimp only at hSw); go_simp <;> with_reducible rfl)
  simp only [Act.put, List.setIfInBounds_toArray, List.set_cons_zero, List.set_cons_succ]
  refine tk (i := 5) (v := ?_) (tA rfl) (by kernel_rfl) (fun _ _ _ h => h) (Or.inl ⟨by rfl, ?_⟩) (by assumption) ?_
  rotate_left
  · (intro w hSw; (try dsimp only at hSw); go_simp <;> with_reducible rfl)
  simp only [Act.put, List.setIfInBounds_toArray, List.set_cons_zero, List.set_cons_succ]
  refine tk (i := 6) (v := ?_) (tA rfl) (by kernel_rfl) (fun _ _ _ h => h) (Or.inl ⟨by rfl, ?_⟩) (by assumption) ?_
  rotate_left
  · (intro w hSw; (try dsimp only at hSw); go_simp <;> with_reducible rfl)
  simp only [Act.put, List.setIfInBounds_toArray, List.set_cons_zero, List.set_cons_succ]
  refine tk (i := 7) (v := ?_) (tA rfl) (by kernel_rfl) (fun _ _ _ h => h) (Or.inl ⟨by rfl, ?_⟩) (by assumption) ?_
  rotate_left
  · (intro w hSw; (try dsimp only at hSw); go_simp <;> with_reducible rfl)
  simp only [Act.put, List.setIfInBounds_toArray, List.set_cons_zero, List.set_cons_succ]
  refine tk (i := 8) (v := ?_) (tA rfl) (by kernel_rfl) (fun _ _ _ h => h) (Or.inl ⟨by rfl, ?_⟩) (by assumption) ?_
  rotate_left
  · (intro w hSw; (try dsimp only at hSw); go_simp <;> with_reducible rfl)
  simp only [Act.put, List.setIfInBounds_toArray, List.set_cons_zero, List.set_cons_succ]
  refine tk (i := 9) (v := ?_) (tA rfl) (by kernel_rfl) (fun _ _ _ h => h) (Or.inl ⟨by rfl, ?_⟩) (by assumption) ?_
  rotate_left
  · (intro w hSw; (try dsimp only at hSw); go_simp <;> with_reducible rfl)
  simp only [Act.put, List.setIfInBounds_toArray, List.set_cons_zero, List.set_cons_succ]
  refine tk (i := 10) (v := ?_) (tA rfl) (by kernel_rfl) (fun _ _ _ h => h) (Or.inl ⟨by rfl, ?_⟩) (by assumption) ?_
  rotate_left
  · (intro w hSw; (try dsimp only at hSw); go_simp <;> with_reducible rfl)
  simp only [Act.put, List.setIfInBounds_toArray, List.set_cons_zero, List.set_cons_succ]
  refine tk (i := 11) (v := ?_) (tA rfl) (by kernel_rfl) (fun _ _ _ h => h) (Or.inl ⟨by rfl, ?_⟩) (by assumption) ?_
  rotate_left
  · (intro w hSw; (try dsimp only at hSw); go_simp <;> with_reducible rfl)
  simp only [Act.put, List.setIfInBounds_toArray, List.set_cons_zero, List.set_cons_succ]
  refine tk (i := 14) (v := ?_) (tA rfl) (by kernel_rfl) (fun _ _ _ h => h) (Or.inl ⟨by rfl, ?_⟩) (by assumption) ?_
  rotate_left
  · (intro w hSw; (try dsimp only at hSw); go_simp <;> with_reducible rfl)
  simp only [Act.put, List.setIfInBounds_toArray, List.set_cons_zero, List.set_cons_succ]
  refine wpAnyH_ready (rs := [12, 13]) (by kernel_rfl) (by simp) ?_
  refine AllReadyH.cons (tA rfl) (fun K hK => ?_) (AllReadyH.cons (tA rfl) (fun K hK => ?_) AllReadyH.nil)
  · go_simp
    refine hK.out _ _ (HC3.out _ (Below.refl _ _).drew) (fun hHeld => ?_)
    clear hK K
    try simp only [Act.put, List.setIfInBounds_toArray, List.set_cons_zero, List.set_cons_succ]
    refine wpAnyH_ready (rs := [13]) (by kernel_rfl) (by simp) ?_
    refine AllReadyH.cons (tA rfl) (fun K hK => ?_) AllReadyH.nil
    go_simp
    refine hK.out _ _ (HC3.out _ (Below.refl _ _).drew) (fun hHeld => ?_)
    clear hK K
    try simp only [Act.put, List.setIfInBounds_toArray, List.set_cons_zero, List.set_cons_succ]
    refine wpAnyH_ready (rs := [15]) (by kernel_rfl) (by simp) ?_
    refine AllReadyH.cons (tA rfl) (fun K hK => ?_) AllReadyH.nil
    go_simp
    refine Calls.mono HFIN.out ?_
    rintro e z ⟨rfl, hbz⟩
    have hbz2 : Below y2.heap.size y2 z := (Below.refl _ _).drew.trans hbz
    have hvz := HV1.out.below hbz2
    have HSZ : Hid (St t _ w z) := HSX.out.trans (St.ofBelow _ hbz2)
    have HVZ : Hid (XV B z b _ _ _ _ vd vs g cap _ _) := hvz
    try go_wp2_with fail
    refine hK.out _ _ (HC3.out _ hbz2) (fun hHeld => ?_)
    clear hK K
    try simp only [Act.put, List.setIfInBounds_toArray, List.set_cons_zero, List.set_cons_succ]
    refine tk (i := 16) (v := ?_) (tA rfl) (by kernel_rfl) (fun _ _ _ h => h) (Or.inl ⟨by rfl, ?_⟩) (by assumption) ?_
    rotate_left
    · (intro w hSw; (try dsimp only at hSw); go_simp <;> with_reducible rfl)
    simp only [Act.put, List.setIfInBounds_toArray, List.set_cons_zero, List.set_cons_succ]
    refine tk (i := 17) (v := ?_) (tA rfl) (by kernel_rfl) (fun _ _ _ h => h) (Or.inl ⟨by rfl, ?_⟩) (by assumption) ?_
    rotate_left
    · (intro w hSw; (try dsimp only at hSw); go_simp <;> with_reducible rfl)
    simp only [Act.put, List.setIfInBounds_toArray, List.set_cons_zero, List.set_cons_succ]
    refine wpAnyH_ready (rs := [18]) (by kernel_rfl) (by simp) ?_
    refine AllReadyH.cons (tA rfl) (fun K hK => ?_) AllReadyH.nil
    clear hHeld HFIN
    have e0 : z.cell? ⟨g, k * 12, none⟩ = some (.int .i64 ((M).th k).c.r0) := hvz.cell HKY.out HUY.out 0 _ rfl
    have f0 := hvz.gz (k * 12)
    have e1 : z.cell? ⟨g, k * 12 + 1, none⟩ = some (.int .i64 ((M).th k).c.r1) := hvz.cell HKY.out HUY.out 1 _ rfl
    have f1 := hvz.gz (k * 12 + 1)
    have e2 : z.cell? ⟨g, k * 12 + 2, none⟩ = some (.int .i64 ((M).th k).c.r2) := hvz.cell HKY.out HUY.out 2 _ rfl
    have f2 := hvz.gz (k * 12 + 2)
    have e3 : z.cell? ⟨g, k * 12 + 3, none⟩ = some (.int .i64 ((M).th k).c.r3) := hvz.cell HKY.out HUY.out 3 _ rfl
    have f3 := hvz.gz (k * 12 + 3)
    have e4 : z.cell? ⟨g, k * 12 + 4, none⟩ = some (.int .i64 ((M).th k).c.r4) := hvz.cell HKY.out HUY.out 4 _ rfl
    have f4 := hvz.gz (k * 12 + 4)
    have e5 : z.cell? ⟨g, k * 12 + 5, none⟩ = some (.int .i64 ((M).th k).c.r5) := hvz.cell HKY.out HUY.out 5 _ rfl
    have f5 := hvz.gz (k * 12 + 5)
    have e6 : z.cell? ⟨g, k * 12 + 6, none⟩ = some (.int .i64 ((M).th k).c.r6) := hvz.cell HKY.out HUY.out 6 _ rfl
    have f6 := hvz.gz (k * 12 + 6)
    have e7 : z.cell? ⟨g, k * 12 + 7, none⟩ = some (.int .i64 ((M).th k).c.r7) := hvz.cell HKY.out HUY.out 7 _ rfl
    have f7 := hvz.gz (k * 12 + 7)
    have e8 : z.cell? ⟨g, k * 12 + 8, none⟩ = some (.int .i64 ((M).th k).c.pc) := hvz.cell HKY.out HUY.out 8 _ rfl
    have f8 := hvz.gz (k * 12 + 8)
    have e9 : z.cell? ⟨g, k * 12 + 9, none⟩ = some (.int .i64 ((M).th k).c.st) := hvz.cell HKY.out HUY.out 9 _ rfl
    have f9 := hvz.gz (k * 12 + 9)
    have e10 : z.cell? ⟨g, k * 12 + 10, none⟩ = some (.int .i64 ((M).th k).c.tr) := hvz.cell HKY.out HUY.out 10 _ rfl
    have f10 := hvz.gz (k * 12 + 10)
    clear hvz d0 d1 d2 d3 d4 d5 d6 d7 d8 d9 d10 o0 o1 o2 o3
    go_simp
    obtain ⟨HXX, HSS⟩ := HVZ.out.regs HKY.out rfl dd
    obtain ⟨ZZ, hZZ⟩ : ∃ ZZ, (((((((((((z.setCell ⟨g, k * 12, none⟩ (.int .i64 dd.r0)).setCell ⟨g, k * 12 + 1, none⟩ (.int .i64 dd.r1)).setCell ⟨g, k * 12 + 2, none⟩ (.int .i64 dd.r2)).setCell ⟨g, k * 12 + 3, none⟩ (.int .i64 dd.r3)).setCell ⟨g, k * 12 + 4, none⟩ (.int .i64 dd.r4)).setCell ⟨g, k * 12 + 5, none⟩ (.int .i64 dd.r5)).setCell ⟨g, k * 12 + 6, none⟩ (.int .i64 dd.r6)).setCell ⟨g, k * 12 + 7, none⟩ (.int .i64 dd.r7)).setCell ⟨g, k * 12 + 8, none⟩ (.int .i64 dd.pc)).setCell ⟨g, k * 12 + 9, none⟩ (.int .i64 dd.st)).setCell ⟨g, k * 12 + 10, none⟩ (.int .i64 dd.tr)) = ZZ := ⟨_, rfl⟩
    rw [hZZ] at HXX HSS
    rw [hZZ]
    have cZ : ZZ.cell? ⟨b, 3, none⟩ = some (.slice (some ⟨g, 0, none⟩) n cap) := by have h9 := HXX.c3; rw [HLZ.out] at h9; exact h9
    have HXZ : Hid _ := HXX
    have HSZ2 : Hid (St t _ w ZZ) := HSZ.out.trans HSS
    clear hZZ HXX HSS e0 f0 e1 f1 e2 f2 e3 f3 e4 f4 e5 f5 e6 f6 e7 f7 e8 f8 e9 f9 e10 f10
    refine hK.out _ _ cZ (fun hHeld => ?_)
    clear hK K
    try simp only [Act.put, List.setIfInBounds_toArray, List.set_cons_zero, List.set_cons_succ]
    refine wpAnyH_done (by kernel_rfl) ?_ _
    clear hHeld
    go_wp2
    go_ret
    exact ⟨rfl, _, _, _, _, _, HXZ.out, HSZ2.out⟩
  · go_simp
    refine hK.out _ _ (HC3.out _ (Below.refl _ _).drew) (fun hHeld => ?_)
    clear hK K
    try simp only [Act.put, List.setIfInBounds_toArray, List.set_cons_zero, List.set_cons_succ]
    refine wpAnyH_ready (rs := [12]) (by kernel_rfl) (by simp) ?_
    refine AllReadyH.cons (tA rfl) (fun K hK => ?_) AllReadyH.nil
    go_simp
    refine hK.out _ _ (HC3.out _ (Below.refl _ _).drew) (fun hHeld => ?_)
    clear hK K
    try simp only [Act.put, List.setIfInBounds_toArray, List.set_cons_zero, List.set_cons_succ]
    refine wpAnyH_ready (rs := [15]) (by kernel_rfl) (by simp) ?_
    refine AllReadyH.cons (tA rfl) (fun K hK => ?_) AllReadyH.nil
    go_simp
    refine Calls.mono HFIN.out ?_
    rintro e z ⟨rfl, hbz⟩
    have hbz2 : Below y2.heap.size y2 z := (Below.refl _ _).drew.trans hbz
    have hvz := HV1.out.below hbz2
    have HSZ : Hid (St t _ w z) := HSX.out.trans (St.ofBelow _ hbz2)
    have HVZ : Hid (XV B z b _ _ _ _ vd vs g cap _ _) := hvz
    try go_wp2_with fail
    refine hK.out _ _ (HC3.out _ hbz2) (fun hHeld => ?_)
    clear hK K
    try simp only [Act.put, List.setIfInBounds_toArray, List.set_cons_zero, List.set_cons_succ]
    refine tk (i := 16) (v := ?_) (tA rfl) (by kernel_rfl) (fun _ _ _ h => h) (Or.inl ⟨by rfl, ?_⟩) (by assumption) ?_
    rotate_left
    · (intro w hSw; (try dsimp only at hSw); go_simp <;> with_reducible rfl)
    simp only [Act.put, List.setIfInBounds_toArray, List.set_cons_zero, List.set_cons_succ]
    refine tk (i := 17) (v := ?_) (tA rfl) (by kernel_rfl) (fun _ _ _ h => h) (Or.inl ⟨by rfl, ?_⟩) (by assumption) ?_
    rotate_left
    · (intro w hSw; (try dsimp only at hSw); go_simp <;> with_reducible rfl)
    simp only [Act.put, List.setIfInBounds_toArray, List.set_cons_zero, List.set_cons_succ]
    refine wpAnyH_ready (rs := [18]) (by kernel_rfl) (by simp) ?_
    refine AllReadyH.cons (tA rfl) (fun K hK => ?_) AllReadyH.nil
    clear hHeld HFIN
    have e0 : z.cell? ⟨g, k * 12, none⟩ = some (.int .i64 ((M).th k).c.r0) := hvz.cell HKY.out HUY.out 0 _ rfl
    have f0 := hvz.gz (k * 12)
    have e1 : z.cell? ⟨g, k * 12 + 1, none⟩ = some (.int .i64 ((M).th k).c.r1) := hvz.cell HKY.out HUY.out 1 _ rfl
    have f1 := hvz.gz (k * 12 + 1)
    have e2 : z.cell? ⟨g, k * 12 + 2, none⟩ = some (.int .i64 ((M).th k).c.r2) := hvz.cell HKY.out HUY.out 2 _ rfl
    have f2 := hvz.gz (k * 12 + 2)
    have e3 : z.cell? ⟨g, k * 12 + 3, none⟩ = some (.int .i64 ((M).th k).c.r3) := hvz.cell HKY.out HUY.out 3 _ rfl
    have f3 := hvz.gz (k * 12 + 3)
    have e4 : z.cell? ⟨g, k * 12 + 4, none⟩ = some (.int .i64 ((M).th k).c.r4) := hvz.cell HKY.out HUY.out 4 _ rfl
    have f4 := hvz.gz (k * 12 + 4)
    have e5 : z.cell? ⟨g, k * 12 + 5, none⟩ = some (.int .i64 ((M).th k).c.r5) := hvz.cell HKY.out HUY.out 5 _ rfl
    have f5 := hvz.gz (k * 12 + 5)
    have e6 : z.cell? ⟨g, k * 12 + 6, none⟩ = some (.int .i64 ((M).th k).c.r6) := hvz.cell HKY.out HUY.out 6 _ rfl
    have f6 := hvz.gz (k * 12 + 6)
    have e7 : z.cell? ⟨g, k * 12 + 7, none⟩ = some (.int .i64 ((M).th k).c.r7) := hvz.cell HKY.out HUY.out 7 _ rfl
    have f7 := hvz.gz (k * 12 + 7)
    have e8 : z.cell? ⟨g, k * 12 + 8, none⟩ = some (.int .i64 ((M).th k).c.pc) := hvz.cell HKY.out HUY.out 8 _ rfl
    have f8 := hvz.gz (k * 12 + 8)
    have e9 : z.cell? ⟨g, k * 12 + 9, none⟩ = some (.int .i64 ((M).th k).c.st) := hvz.cell HKY.out HUY.out 9 _ rfl
    have f9 := hvz.gz (k * 12 + 9)
    have e10 : z.cell? ⟨g, k * 12 + 10, none⟩ = some (.int .i64 ((M).th k).c.tr) := hvz.cell HKY.out HUY.out 10 _ rfl
    have f10 := hvz.gz (k * 12 + 10)
    clear hvz d0 d1 d2 d3 d4 d5 d6 d7 d8 d9 d10 o0 o1 o2 o3
    go_simp
    obtain ⟨HXX, HSS⟩ := HVZ.out.regs HKY.out rfl dd
    obtain ⟨ZZ, hZZ⟩ : ∃ ZZ, (((((((((((z.setCell ⟨g, k * 12, none⟩ (.int .i64 dd.r0)).setCell ⟨g, k * 12 + 1, none⟩ (.int .i64 dd.r1)).setCell ⟨g, k * 12 + 2, none⟩ (.int .i64 dd.r2)).setCell ⟨g, k * 12 + 3, none⟩ (.int .i64 dd.r3)).setCell ⟨g, k * 12 + 4, none⟩ (.int .i64 dd.r4)).setCell ⟨g, k * 12 + 5, none⟩ (.int .i64 dd.r5)).setCell ⟨g, k * 12 + 6, none⟩ (.int .i64 dd.r6)).setCell ⟨g, k * 12 + 7, none⟩ (.int .i64 dd.r7)).setCell ⟨g, k * 12 + 8, none⟩ (.int .i64 dd.pc)).setCell ⟨g, k * 12 + 9, none⟩ (.int .i64 dd.st)).setCell ⟨g, k * 12 + 10, none⟩ (.int .i64 dd.tr)) = ZZ := ⟨_, rfl⟩
    rw [hZZ] at HXX HSS
    rw [hZZ]
    have cZ : ZZ.cell? ⟨b, 3, none⟩ = some (.slice (some ⟨g, 0, none⟩) n cap) := by have h9 := HXX.c3; rw [HLZ.out] at h9; exact h9
    have HXZ : Hid _ := HXX
    have HSZ2 : Hid (St t _ w ZZ) := HSZ.out.trans HSS
    clear hZZ HXX HSS e0 f0 e1 f1 e2 f2 e3 f3 e4 f4 e5 f5 e6 f6 e7 f7 e8 f8 e9 f9 e10 f10
    refine hK.out _ _ cZ (fun hHeld => ?_)
    clear hK K
    try simp only [Act.put, List.setIfInBounds_toArray, List.set_cons_zero, List.set_cons_succ]
    refine wpAnyH_done (by kernel_rfl) ?_ _
    clear hHeld
    go_wp2
    go_ret
    exact ⟨rfl, _, _, _, _, _, HXZ.out, HSZ2.out⟩

end Go.Proofs.YtneclfaamgfoeaaDoor

/- The document's machine: a store, a fence, a print; what cannot be. (Written by gen_xask.py.) -/
namespace Go.Proofs.YtneclfaamgfoeaaDoor
open Go.RowKit Go.Maps
set_option linter.unusedVariables false
set_option linter.unusedSimpArgs false

set_option maxRecDepth 100000 in
set_option maxHeartbeats 8000000 in
theorem xask_no1 {B : Nat} {w : World} {b : Nat} {M : T.Mach} {t : Nat → Nat} {D Sk : List Int} {vd vs : Value} {g cap : Nat} {ev : Value} {us : List Value} (h : XV B w b M t D Sk vd vs g cap ev us) {k : Nat} (hk : k < M.ts.length) (hok : WsOk (M.th k).ws) (h8 : (M.th k).ws.length ≤ 8) {a v r : Int} (ha : (Lit.int .i64 a).wf = true) (hm : M.mem a = none) :
    Calls Tryd.prog 51 #[.pointer (some ⟨b, 0, none⟩), .int .i64 k, S.reqV 1 a v r] w fun e w' => e = .returned (.bool false) ∧ XGone B w w' b (M) t vd vs g cap := by
  obtain ⟨X1, hX1⟩ : ∃ X1, w.alloc (.cells #[.int .i64 1, .int .i64 a, .int .i64 v, .int .i64 r] 110) = X1 := ⟨_, rfl⟩
  have hb1 : Below w.heap.size w X1 := by subst hX1; exact bl_one _ _
  have hs1 : w.heap.size < X1.heap.size := by subst hX1; simp
  have o0 : X1.cell? ⟨w.heap.size, 0, none⟩ = some (.int .i64 1) := by subst hX1; exact cell_last _ _ _ _ _ rfl rfl
  have o1 : X1.cell? ⟨w.heap.size, 1, none⟩ = some (.int .i64 a) := by subst hX1; exact cell_last _ _ _ _ _ rfl rfl
  have o2 : X1.cell? ⟨w.heap.size, 2, none⟩ = some (.int .i64 v) := by subst hX1; exact cell_last _ _ _ _ _ rfl rfl
  have o3 : X1.cell? ⟨w.heap.size, 3, none⟩ = some (.int .i64 r) := by subst hX1; exact cell_last _ _ _ _ _ rfl rfl
  have hv1 : XV B X1 b M t D Sk vd vs g cap ev us := h.below hb1
  have HTX : Hid (t w.heap.size = 0) := Classical.byContradiction fun e => by have := (h.lt _ e).2; omega
  have HB1 : Hid (Below w.heap.size w X1) := hb1
  have HV1 : Hid (XV B X1 b M t D Sk vd vs g cap ev us) := hv1
  have hro := hv1.room
  obtain ⟨n, hn⟩ : ∃ n, M.ts.length = n := ⟨_, rfl⟩
  have HTL : Hid (M.ts.length = n) := hn
  rw [hn] at hro
  obtain ⟨r1, r2, r3, r4⟩ := hro
  have hkn : k < n := by omega
  unfold maxLen at r2
  have i1 : (k : Int) < (n : Int) := by omega
  have i0 : (0 : Int) ≤ (k : Int) := by omega
  have HW : Hid _ := xword_any hv1 ha
  rw [hm] at HW
  have HL : Hid _ := xload_any hv1 hk ha (by omega)
  rw [hm] at HL
  obtain ⟨nn, hnn⟩ : ∃ nn, (T.ld M k a).getD 0 = nn := ⟨_, rfl⟩
  rw [hnn] at HL
  clear hnn
  have HX1 : Hid _ := hX1
  have HSX : Hid (St t t w X1) := St.ofBelow t hb1
  clear h hv1 hm hok h8 hn hk hb1
  go_enter Tryd.func51, Tryd.ntmps51
  go_wp2_with fail
  refine Calls.mono HW.out ?_
  rintro e y ⟨rfl, rfl⟩
  go_wp2_with fail
  refine Calls.mono HL.out ?_
  rintro e y2 ⟨rfl, rfl⟩
  go_wp2
  go_ret
  exact ⟨rfl, _, _, _, _, _, HV1.out, HSX.out⟩

set_option maxRecDepth 100000 in
set_option maxHeartbeats 8000000 in
theorem xask_no2 {B : Nat} {w : World} {b : Nat} {M : T.Mach} {t : Nat → Nat} {D Sk : List Int} {vd vs : Value} {g cap : Nat} {ev : Value} {us : List Value} (h : XV B w b M t D Sk vd vs g cap ev us) {k : Nat} (hk : k < M.ts.length) (hok : WsOk (M.th k).ws) (h8 : (M.th k).ws.length ≤ 8) {a v r : Int} (ha : (Lit.int .i64 a).wf = true) (hm : M.mem a = none) :
    Calls Tryd.prog 51 #[.pointer (some ⟨b, 0, none⟩), .int .i64 k, S.reqV 2 a v r] w fun e w' => e = .returned (.bool false) ∧ XGone B w w' b (M) t vd vs g cap := by
  obtain ⟨X1, hX1⟩ : ∃ X1, w.alloc (.cells #[.int .i64 2, .int .i64 a, .int .i64 v, .int .i64 r] 110) = X1 := ⟨_, rfl⟩
  have hb1 : Below w.heap.size w X1 := by subst hX1; exact bl_one _ _
  have hs1 : w.heap.size < X1.heap.size := by subst hX1; simp
  have o0 : X1.cell? ⟨w.heap.size, 0, none⟩ = some (.int .i64 2) := by subst hX1; exact cell_last _ _ _ _ _ rfl rfl
  have o1 : X1.cell? ⟨w.heap.size, 1, none⟩ = some (.int .i64 a) := by subst hX1; exact cell_last _ _ _ _ _ rfl rfl
  have o2 : X1.cell? ⟨w.heap.size, 2, none⟩ = some (.int .i64 v) := by subst hX1; exact cell_last _ _ _ _ _ rfl rfl
  have o3 : X1.cell? ⟨w.heap.size, 3, none⟩ = some (.int .i64 r) := by subst hX1; exact cell_last _ _ _ _ _ rfl rfl
  have hv1 : XV B X1 b M t D Sk vd vs g cap ev us := h.below hb1
  have HTX : Hid (t w.heap.size = 0) := Classical.byContradiction fun e => by have := (h.lt _ e).2; omega
  have HB1 : Hid (Below w.heap.size w X1) := hb1
  have HV1 : Hid (XV B X1 b M t D Sk vd vs g cap ev us) := hv1
  have hro := hv1.room
  obtain ⟨n, hn⟩ : ∃ n, M.ts.length = n := ⟨_, rfl⟩
  have HTL : Hid (M.ts.length = n) := hn
  rw [hn] at hro
  obtain ⟨r1, r2, r3, r4⟩ := hro
  have hkn : k < n := by omega
  unfold maxLen at r2
  have i1 : (k : Int) < (n : Int) := by omega
  have i0 : (0 : Int) ≤ (k : Int) := by omega
  have HW : Hid _ := xword_any hv1 ha
  rw [hm] at HW
  have HX1 : Hid _ := hX1
  have HSX : Hid (St t t w X1) := St.ofBelow t hb1
  clear h hv1 hm hok h8 hn hk hb1
  go_enter Tryd.func51, Tryd.ntmps51
  go_wp2_with fail
  refine Calls.mono HW.out ?_
  rintro e y ⟨rfl, rfl⟩
  go_wp2
  go_ret
  exact ⟨rfl, _, _, _, _, _, HV1.out, HSX.out⟩

set_option maxRecDepth 100000 in
set_option maxHeartbeats 8000000 in
theorem xask_no3 {B : Nat} {w : World} {b : Nat} {M : T.Mach} {t : Nat → Nat} {D Sk : List Int} {vd vs : Value} {g cap : Nat} {ev : Value} {us : List Value} (h : XV B w b M t D Sk vd vs g cap ev us) {k : Nat} (hk : k < M.ts.length) (hok : WsOk (M.th k).ws) (h8 : (M.th k).ws.length ≤ 8) {a v r : Int} (ha : (Lit.int .i64 a).wf = true) (hm : M.mem a = none) :
    Calls Tryd.prog 51 #[.pointer (some ⟨b, 0, none⟩), .int .i64 k, S.reqV 3 a v r] w fun e w' => e = .returned (.bool false) ∧ XGone B w w' b (M) t vd vs g cap := by
  obtain ⟨X1, hX1⟩ : ∃ X1, w.alloc (.cells #[.int .i64 3, .int .i64 a, .int .i64 v, .int .i64 r] 110) = X1 := ⟨_, rfl⟩
  have hb1 : Below w.heap.size w X1 := by subst hX1; exact bl_one _ _
  have hs1 : w.heap.size < X1.heap.size := by subst hX1; simp
  have o0 : X1.cell? ⟨w.heap.size, 0, none⟩ = some (.int .i64 3) := by subst hX1; exact cell_last _ _ _ _ _ rfl rfl
  have o1 : X1.cell? ⟨w.heap.size, 1, none⟩ = some (.int .i64 a) := by subst hX1; exact cell_last _ _ _ _ _ rfl rfl
  have o2 : X1.cell? ⟨w.heap.size, 2, none⟩ = some (.int .i64 v) := by subst hX1; exact cell_last _ _ _ _ _ rfl rfl
  have o3 : X1.cell? ⟨w.heap.size, 3, none⟩ = some (.int .i64 r) := by subst hX1; exact cell_last _ _ _ _ _ rfl rfl
  have hv1 : XV B X1 b M t D Sk vd vs g cap ev us := h.below hb1
  have HTX : Hid (t w.heap.size = 0) := Classical.byContradiction fun e => by have := (h.lt _ e).2; omega
  have HB1 : Hid (Below w.heap.size w X1) := hb1
  have HV1 : Hid (XV B X1 b M t D Sk vd vs g cap ev us) := hv1
  have hro := hv1.room
  obtain ⟨n, hn⟩ : ∃ n, M.ts.length = n := ⟨_, rfl⟩
  have HTL : Hid (M.ts.length = n) := hn
  rw [hn] at hro
  obtain ⟨r1, r2, r3, r4⟩ := hro
  have hkn : k < n := by omega
  unfold maxLen at r2
  have i1 : (k : Int) < (n : Int) := by omega
  have i0 : (0 : Int) ≤ (k : Int) := by omega
  have HW : Hid _ := xword_any hv1 ha
  rw [hm] at HW
  have HX1 : Hid _ := hX1
  have HSX : Hid (St t t w X1) := St.ofBelow t hb1
  clear h hv1 hm hok h8 hn hk hb1
  go_enter Tryd.func51, Tryd.ntmps51
  go_wp2_with fail
  refine Calls.mono HW.out ?_
  rintro e y ⟨rfl, rfl⟩
  go_wp2
  go_ret
  exact ⟨rfl, _, _, _, _, _, HV1.out, HSX.out⟩

set_option maxRecDepth 100000 in
set_option maxHeartbeats 8000000 in
theorem xask_no4 {B : Nat} {w : World} {b : Nat} {M : T.Mach} {t : Nat → Nat} {D Sk : List Int} {vd vs : Value} {g cap : Nat} {ev : Value} {us : List Value} (h : XV B w b M t D Sk vd vs g cap ev us) {k : Nat} (hk : k < M.ts.length) (hok : WsOk (M.th k).ws) (h8 : (M.th k).ws.length ≤ 8) {a v r : Int} (ha : (Lit.int .i64 a).wf = true) (hm : M.mem a = none) :
    Calls Tryd.prog 51 #[.pointer (some ⟨b, 0, none⟩), .int .i64 k, S.reqV 4 a v r] w fun e w' => e = .returned (.bool false) ∧ XGone B w w' b (M) t vd vs g cap := by
  obtain ⟨X1, hX1⟩ : ∃ X1, w.alloc (.cells #[.int .i64 4, .int .i64 a, .int .i64 v, .int .i64 r] 110) = X1 := ⟨_, rfl⟩
  have hb1 : Below w.heap.size w X1 := by subst hX1; exact bl_one _ _
  have hs1 : w.heap.size < X1.heap.size := by subst hX1; simp
  have o0 : X1.cell? ⟨w.heap.size, 0, none⟩ = some (.int .i64 4) := by subst hX1; exact cell_last _ _ _ _ _ rfl rfl
  have o1 : X1.cell? ⟨w.heap.size, 1, none⟩ = some (.int .i64 a) := by subst hX1; exact cell_last _ _ _ _ _ rfl rfl
  have o2 : X1.cell? ⟨w.heap.size, 2, none⟩ = some (.int .i64 v) := by subst hX1; exact cell_last _ _ _ _ _ rfl rfl
  have o3 : X1.cell? ⟨w.heap.size, 3, none⟩ = some (.int .i64 r) := by subst hX1; exact cell_last _ _ _ _ _ rfl rfl
  have hv1 : XV B X1 b M t D Sk vd vs g cap ev us := h.below hb1
  have HTX : Hid (t w.heap.size = 0) := Classical.byContradiction fun e => by have := (h.lt _ e).2; omega
  have HB1 : Hid (Below w.heap.size w X1) := hb1
  have HV1 : Hid (XV B X1 b M t D Sk vd vs g cap ev us) := hv1
  have hro := hv1.room
  obtain ⟨n, hn⟩ : ∃ n, M.ts.length = n := ⟨_, rfl⟩
  have HTL : Hid (M.ts.length = n) := hn
  rw [hn] at hro
  obtain ⟨r1, r2, r3, r4⟩ := hro
  have hkn : k < n := by omega
  unfold maxLen at r2
  have i1 : (k : Int) < (n : Int) := by omega
  have i0 : (0 : Int) ≤ (k : Int) := by omega
  have HW : Hid _ := xword_any hv1 ha
  rw [hm] at HW
  have HX1 : Hid _ := hX1
  have HSX : Hid (St t t w X1) := St.ofBelow t hb1
  clear h hv1 hm hok h8 hn hk hb1
  go_enter Tryd.func51, Tryd.ntmps51
  go_wp2_with fail
  refine Calls.mono HW.out ?_
  rintro e y ⟨rfl, rfl⟩
  go_wp2
  go_ret
  exact ⟨rfl, _, _, _, _, _, HV1.out, HSX.out⟩

set_option maxRecDepth 100000 in
set_option maxHeartbeats 8000000 in
theorem xask_0 {B : Nat} {w : World} {b : Nat} {M : T.Mach} {t : Nat → Nat} {D Sk : List Int} {vd vs : Value} {g cap : Nat} {ev : Value} {us : List Value} (h : XV B w b M t D Sk vd vs g cap ev us) {k : Nat} (hk : k < M.ts.length) (hok : WsOk (M.th k).ws) (h8 : (M.th k).ws.length ≤ 8) {a v r : Int} (ha : (Lit.int .i64 a).wf = true) {K : Int} (hK : K < 1 ∨ 6 < K) :
    Calls Tryd.prog 51 #[.pointer (some ⟨b, 0, none⟩), .int .i64 k, S.reqV K a v r] w fun e w' => e = .returned (.bool true) ∧ XGone B w w' b (M) t vd vs g cap := by
  obtain ⟨X1, hX1⟩ : ∃ X1, w.alloc (.cells #[.int .i64 K, .int .i64 a, .int .i64 v, .int .i64 r] 110) = X1 := ⟨_, rfl⟩
  have hb1 : Below w.heap.size w X1 := by subst hX1; exact bl_one _ _
  have hs1 : w.heap.size < X1.heap.size := by subst hX1; simp
  have o0 : X1.cell? ⟨w.heap.size, 0, none⟩ = some (.int .i64 K) := by subst hX1; exact cell_last _ _ _ _ _ rfl rfl
  have o1 : X1.cell? ⟨w.heap.size, 1, none⟩ = some (.int .i64 a) := by subst hX1; exact cell_last _ _ _ _ _ rfl rfl
  have o2 : X1.cell? ⟨w.heap.size, 2, none⟩ = some (.int .i64 v) := by subst hX1; exact cell_last _ _ _ _ _ rfl rfl
  have o3 : X1.cell? ⟨w.heap.size, 3, none⟩ = some (.int .i64 r) := by subst hX1; exact cell_last _ _ _ _ _ rfl rfl
  have hv1 : XV B X1 b M t D Sk vd vs g cap ev us := h.below hb1
  have HTX : Hid (t w.heap.size = 0) := Classical.byContradiction fun e => by have := (h.lt _ e).2; omega
  have HB1 : Hid (Below w.heap.size w X1) := hb1
  have HV1 : Hid (XV B X1 b M t D Sk vd vs g cap ev us) := hv1
  have hro := hv1.room
  obtain ⟨n, hn⟩ : ∃ n, M.ts.length = n := ⟨_, rfl⟩
  have HTL : Hid (M.ts.length = n) := hn
  rw [hn] at hro
  obtain ⟨r1, r2, r3, r4⟩ := hro
  have hkn : k < n := by omega
  unfold maxLen at r2
  have i1 : (k : Int) < (n : Int) := by omega
  have i0 : (0 : Int) ≤ (k : Int) := by omega
  have HW : Hid _ := xword_any hv1 ha
  obtain ⟨z1, hz1⟩ : ∃ z1, (M.mem a).getD 0 = z1 := ⟨_, rfl⟩
  obtain ⟨z2, hz2⟩ : ∃ z2, T.er (M.mem a) = z2 := ⟨_, rfl⟩
  rw [hz1, hz2] at HW
  have HX1 : Hid _ := hX1
  have HSX : Hid (St t t w X1) := St.ofBelow t hb1
  have k1 : ¬ K = 1 := by omega
  have k2 : ¬ K = 2 := by omega
  have k3 : ¬ K = 3 := by omega
  have k4 : ¬ K = 4 := by omega
  have k5 : ¬ K = 5 := by omega
  have k6 : ¬ K = 6 := by omega
  clear h hv1 hok h8 hn hk hb1 hK hz1 hz2
  go_enter Tryd.func51, Tryd.ntmps51
  go_wp2_with fail
  refine Calls.mono HW.out ?_
  rintro e y ⟨rfl, rfl⟩
  go_wp2
  go_ret
  exact ⟨rfl, _, _, _, _, _, HV1.out, HSX.out⟩

set_option maxRecDepth 100000 in
set_option maxHeartbeats 8000000 in
theorem xask_5 {B : Nat} {w : World} {b : Nat} {M : T.Mach} {t : Nat → Nat} {D Sk : List Int} {vd vs : Value} {g cap : Nat} {ev : Value} {us : List Value} (h : XV B w b M t D Sk vd vs g cap ev us) {k : Nat} (hk : k < M.ts.length) (hok : WsOk (M.th k).ws) (h8 : (M.th k).ws.length ≤ 8) {a v r : Int} (ha : (Lit.int .i64 a).wf = true) :
    Calls Tryd.prog 51 #[.pointer (some ⟨b, 0, none⟩), .int .i64 k, S.reqV 5 a v r] w fun e w' => e = .returned (.bool true) ∧ XGone B w w' b (T.drain M k) t vd vs g cap := by
  obtain ⟨X1, hX1⟩ : ∃ X1, w.alloc (.cells #[.int .i64 5, .int .i64 a, .int .i64 v, .int .i64 r] 110) = X1 := ⟨_, rfl⟩
  have hb1 : Below w.heap.size w X1 := by subst hX1; exact bl_one _ _
  have hs1 : w.heap.size < X1.heap.size := by subst hX1; simp
  have o0 : X1.cell? ⟨w.heap.size, 0, none⟩ = some (.int .i64 5) := by subst hX1; exact cell_last _ _ _ _ _ rfl rfl
  have o1 : X1.cell? ⟨w.heap.size, 1, none⟩ = some (.int .i64 a) := by subst hX1; exact cell_last _ _ _ _ _ rfl rfl
  have o2 : X1.cell? ⟨w.heap.size, 2, none⟩ = some (.int .i64 v) := by subst hX1; exact cell_last _ _ _ _ _ rfl rfl
  have o3 : X1.cell? ⟨w.heap.size, 3, none⟩ = some (.int .i64 r) := by subst hX1; exact cell_last _ _ _ _ _ rfl rfl
  have hv1 : XV B X1 b M t D Sk vd vs g cap ev us := h.below hb1
  have HTX : Hid (t w.heap.size = 0) := Classical.byContradiction fun e => by have := (h.lt _ e).2; omega
  have HB1 : Hid (Below w.heap.size w X1) := hb1
  have HV1 : Hid (XV B X1 b M t D Sk vd vs g cap ev us) := hv1
  have hro := hv1.room
  obtain ⟨n, hn⟩ : ∃ n, M.ts.length = n := ⟨_, rfl⟩
  have HTL : Hid (M.ts.length = n) := hn
  rw [hn] at hro
  obtain ⟨r1, r2, r3, r4⟩ := hro
  have hkn : k < n := by omega
  unfold maxLen at r2
  have i1 : (k : Int) < (n : Int) := by omega
  have i0 : (0 : Int) ≤ (k : Int) := by omega
  have HW : Hid _ := xword_any hv1 ha
  obtain ⟨z1, hz1⟩ : ∃ z1, (M.mem a).getD 0 = z1 := ⟨_, rfl⟩
  obtain ⟨z2, hz2⟩ : ∃ z2, T.er (M.mem a) = z2 := ⟨_, rfl⟩
  rw [hz1, hz2] at HW
  have HX1 : Hid _ := hX1
  have HSX : Hid (St t t w X1) := St.ofBelow t hb1
  have HD : Hid _ := xdrain_any hv1 hk hok
  clear h hv1 hok h8 hn hk hb1 hz1 hz2
  go_enter Tryd.func51, Tryd.ntmps51
  go_wp2_with fail
  refine Calls.mono HW.out ?_
  rintro e y ⟨rfl, rfl⟩
  go_wp2_with fail
  refine Calls.mono HD.out ?_
  rintro e y2 ⟨rfl, hg2⟩
  have HG : Hid (XGone B w y2 b (T.drain M k) t vd vs g cap) := by
    obtain ⟨t2, D2, S2, ev2, us2, p1, p2⟩ := hg2
    exact ⟨t2, D2, S2, ev2, us2, p1, HSX.out.trans p2⟩
  clear hg2
  go_wp2
  go_ret
  exact ⟨rfl, HG.out⟩

set_option maxRecDepth 100000 in
set_option maxHeartbeats 8000000 in
theorem xask_6 {B : Nat} {w : World} {b : Nat} {M : T.Mach} {t : Nat → Nat} {D Sk : List Int} {vd vs : Value} {g cap : Nat} {ev : Value} {us : List Value} (h : XV B w b M t D Sk vd vs g cap ev us) {k : Nat} (hk : k < M.ts.length) (hok : WsOk (M.th k).ws) (h8 : (M.th k).ws.length ≤ 8) {a v r : Int} (ha : (Lit.int .i64 a).wf = true) (hes : M.es.length ≤ 1000000) :
    Calls Tryd.prog 51 #[.pointer (some ⟨b, 0, none⟩), .int .i64 k, S.reqV 6 a v r] w fun e w' => e = .returned (.bool true) ∧ XGone B w w' b (M.see k 1 v) t vd vs g cap := by
  obtain ⟨X1, hX1⟩ : ∃ X1, w.alloc (.cells #[.int .i64 6, .int .i64 a, .int .i64 v, .int .i64 r] 110) = X1 := ⟨_, rfl⟩
  have hb1 : Below w.heap.size w X1 := by subst hX1; exact bl_one _ _
  have hs1 : w.heap.size < X1.heap.size := by subst hX1; simp
  have o0 : X1.cell? ⟨w.heap.size, 0, none⟩ = some (.int .i64 6) := by subst hX1; exact cell_last _ _ _ _ _ rfl rfl
  have o1 : X1.cell? ⟨w.heap.size, 1, none⟩ = some (.int .i64 a) := by subst hX1; exact cell_last _ _ _ _ _ rfl rfl
  have o2 : X1.cell? ⟨w.heap.size, 2, none⟩ = some (.int .i64 v) := by subst hX1; exact cell_last _ _ _ _ _ rfl rfl
  have o3 : X1.cell? ⟨w.heap.size, 3, none⟩ = some (.int .i64 r) := by subst hX1; exact cell_last _ _ _ _ _ rfl rfl
  have hv1 : XV B X1 b M t D Sk vd vs g cap ev us := h.below hb1
  have HTX : Hid (t w.heap.size = 0) := Classical.byContradiction fun e => by have := (h.lt _ e).2; omega
  have HB1 : Hid (Below w.heap.size w X1) := hb1
  have HV1 : Hid (XV B X1 b M t D Sk vd vs g cap ev us) := hv1
  have hro := hv1.room
  obtain ⟨n, hn⟩ : ∃ n, M.ts.length = n := ⟨_, rfl⟩
  have HTL : Hid (M.ts.length = n) := hn
  rw [hn] at hro
  obtain ⟨r1, r2, r3, r4⟩ := hro
  have hkn : k < n := by omega
  unfold maxLen at r2
  have i1 : (k : Int) < (n : Int) := by omega
  have i0 : (0 : Int) ≤ (k : Int) := by omega
  have HW : Hid _ := xword_any hv1 ha
  obtain ⟨z1, hz1⟩ : ∃ z1, (M.mem a).getD 0 = z1 := ⟨_, rfl⟩
  obtain ⟨z2, hz2⟩ : ∃ z2, T.er (M.mem a) = z2 := ⟨_, rfl⟩
  rw [hz1, hz2] at HW
  have HX1 : Hid _ := hX1
  have HSX : Hid (St t t w X1) := St.ofBelow t hb1
  obtain ⟨iw, hiw, hp0, hp1, hp2⟩ := info_partsL infoE
  have d1 := hv1.c4
  have hr1 := hv1.evs
  have hg1 := hv1.fz 4
  have hty : b < X1.heap.size := hv1.bl
  obtain ⟨a1, p1, hev, hnp, hpm⟩ := own_sl hr1
  obtain ⟨m1, hm1⟩ : ∃ m1, M.es.length = m1 := ⟨_, rfl⟩
  rw [hm1] at hev hnp hr1 hes
  have HEV : Hid (ev = .slice a1 m1 p1) := hev
  have HM1 : Hid (M.es.length = m1) := hm1
  have hvb : (Value.slice a1 m1 p1).ownBlock ≠ some b := fun e => by have e1 := hv1.te b (by rw [hev]; exact e); have e2 := hv1.tb; omega
  have hvx : (Value.slice a1 m1 p1).ownBlock ≠ some w.heap.size := fun e => by have e1 := hv1.te w.heap.size (by rw [hev]; exact e); have e2 := HTX.out; omega
  have hBy := hv1.hB
  rw [hev] at d1 hr1
  unfold maxLen at hpm
  clear h hv1 hok h8 hn hk hb1 hz1 hz2 hev hm1
  go_enter Tryd.func51, Tryd.ntmps51
  go_wp2_with fail
  refine Calls.mono HW.out ?_
  rintro e y ⟨rfl, rfl⟩
  go_wp2_with fail
  have HB1 : Hid (Below y.heap.size y (y.alloc (.cells #[.int .i64 (k : Int), .int .i64 1, .int .i64 v] 81)).drew) := (bl_one _ _).drew
  have HW1 : Hid ((y.alloc (.cells #[.int .i64 (k : Int), .int .i64 1, .int .i64 v] 81)).drew.ownsRow B 81 3 (.slice a1 m1 p1) m1 ((M).es.flatMap eC)) := hr1.kept (gb_of_below HB1.out (some y.heap.size)) (.inr fun e => by have := own_lt hr1 e; omega)
  have HNC : Hid (∀ j u, (eC ((k : Int), 1, v))[j]? = some u → (y.alloc (.cells #[.int .i64 (k : Int), .int .i64 1, .int .i64 v] 81)).drew.cell? ((⟨y.heap.size, 0, none⟩ : Addr).add j) = some u) := fun j u hu => by
    rw [Addr.add_lit, Nat.zero_add]
    exact cell_last _ _ _ _ _ rfl (by simpa [eC] using hu)
  have HSK : Hid (∀ z : World, Below y.heap.size y z → (fun w' : World => w'.cell? ⟨w.heap.size, 2, none⟩ = some (.int .i64 v)) z) := fun z hz => cell_up hz o2
  have FT : (y.alloc (.cells #[.int .i64 (k : Int), .int .i64 1, .int .i64 v] 81)).drew.cell? ⟨b, 4, none⟩ = some (.slice a1 m1 p1) := cell_up HB1.out d1
  have GT : (y.alloc (.cells #[.int .i64 (k : Int), .int .i64 1, .int .i64 v] 81)).drew.frozen? ⟨b, 4, none⟩ = false := (HB1.out.frozen (p := ⟨b, 4, none⟩) hty).trans hg1
  have HD1 : Hid _ := d1
  have HR1 : Hid _ := hr1
  clear hr1
  refine wp_region_held_drew (S := (fun w' : World => w'.cell? ⟨w.heap.size, 2, none⟩ = some (.int .i64 v))) (by kernel_rfl) (HSK.out _ (Below.refl _ _).drew) (fun hHeld => ?_)
  refine tk (i := 0) (v := ?_) (tA rfl) (by kernel_rfl) (fun _ _ _ h => h) (Or.inl ⟨by rfl, ?_⟩) (by assumption) ?_
  rotate_left
  · (intro w hSw; (try dsimp only at hSw); go_simp <;> with_reducible rfl)
  simp only [Act.put, List.setIfInBounds_toArray, List.set_cons_zero, List.set_cons_succ]
  refine tk (i := 1) (v := ?_) (tA rfl) (by kernel_rfl) (fun _ _ _ h => h) (Or.inl ⟨by rfl, ?_⟩) (by assumption) ?_
  rotate_left
  · (intro w hSw; (try dsimp only at hSw); go_simp <;> with_reducible rfl)
  simp only [Act.put, List.setIfInBounds_toArray, List.set_cons_zero, List.set_cons_succ]
  refine tk (i := 2) (v := ?_) (tA rfl) (by kernel_rfl) (fun _ _ _ h => h) (Or.inl ⟨by rfl, ?_⟩) (by assumption) ?_
  rotate_left
  · (intro w hSw; (try dsimp only at hSw); go_simp <;> with_reducible rfl)
  simp only [Act.put, List.setIfInBounds_toArray, List.set_cons_zero, List.set_cons_succ]
  refine tk (i := 3) (v := ?_) (tA rfl) (by kernel_rfl) (fun _ _ _ h => h) (Or.inl ⟨by rfl, ?_⟩) (by assumption) ?_
  rotate_left
  · (intro w hSw; (try dsimp only at hSw); go_simp <;> with_reducible rfl)
  simp only [Act.put, List.setIfInBounds_toArray, List.set_cons_zero, List.set_cons_succ]
  refine tk (i := 5) (v := ?_) (tA rfl) (by kernel_rfl) (fun _ _ _ h => h) (Or.inl ⟨by rfl, ?_⟩) (by assumption) ?_
  rotate_left
  · (intro w hSw; (try dsimp only at hSw); go_simp <;> with_reducible rfl)
  simp only [Act.put, List.setIfInBounds_toArray, List.set_cons_zero, List.set_cons_succ]
  refine tk (i := 6) (v := ?_) (tA rfl) (by kernel_rfl) (fun _ _ _ h => h) (Or.inl ⟨by rfl, ?_⟩) (by assumption) ?_
  rotate_left
  · (intro w hSw; (try dsimp only at hSw); go_simp <;> with_reducible rfl)
  simp only [Act.put, List.setIfInBounds_toArray, List.set_cons_zero, List.set_cons_succ]
  refine tk (i := 7) (v := ?_) (tA rfl) (by kernel_rfl) (fun _ _ _ h => h) (Or.inl ⟨by rfl, ?_⟩) (by assumption) ?_
  rotate_left
  · (intro w hSw; (try dsimp only at hSw); go_simp <;> with_reducible rfl)
  simp only [Act.put, List.setIfInBounds_toArray, List.set_cons_zero, List.set_cons_succ]
  refine tk (i := 8) (v := ?_) (tA rfl) (by kernel_rfl) (fun _ _ _ h => h) (Or.inl ⟨by rfl, ?_⟩) (by assumption) ?_
  rotate_left
  · (intro w hSw; (try dsimp only at hSw); go_simp <;> with_reducible rfl)
  simp only [Act.put, List.setIfInBounds_toArray, List.set_cons_zero, List.set_cons_succ]
  refine wpAnyH_ready (rs := [4, 9]) (by kernel_rfl) (by simp) ?_
  refine AllReadyH.cons (tA rfl) (fun K hK => ?_) (AllReadyH.cons (tA rfl) (fun K hK => ?_) AllReadyH.nil)
  · go_simp
    refine hK.out _ _ (by first | exact HSK.out _ (Below.refl _ _).drew | exact HSK.out _ HB1.out) (fun hHeld => ?_)
    clear hK K
    try simp only [Act.put, List.setIfInBounds_toArray, List.set_cons_zero, List.set_cons_succ]
    refine wpAnyH_ready (rs := [9]) (by kernel_rfl) (by simp) ?_
    refine AllReadyH.cons (tA rfl) (fun K hK => ?_) AllReadyH.nil
    go_simp
    refine hK.out _ _ (by first | exact HSK.out _ (Below.refl _ _).drew | exact HSK.out _ HB1.out) (fun hHeld => ?_)
    clear hK K
    try simp only [Act.put, List.setIfInBounds_toArray, List.set_cons_zero, List.set_cons_succ]
    refine wpAnyH_ready (rs := [10]) (by kernel_rfl) (by simp) ?_
    refine AllReadyH.cons (tA rfl) (fun K hK => ?_) AllReadyH.nil
    refine step_append_lies _ (by rfl) _ _ 39 (by rfl) B 81 iw _ 3 24 Tryd.underlying39 hiw hp0 hp1 hp2 (by rfl) (by decide) (.slice a1 m1 p1) m1 _ (by rfl) HW1.out ⟨y.heap.size, 0, none⟩ 1 1 (eC ((k : Int), 1, v)) (by rfl) (by rfl) HNC.out (by intro u hu; simp [eC] at hu; rcases hu with rfl | rfl | rfl <;> rfl) (by decide) (by unfold maxLen; omega) (by omega) (by simp; omega) (y.heap.size + 1) (by simp) ?_
    intro x1 cp Y6 ho6 hg6 hat6 hlt6
    have m6 : Y6.cell? ⟨b, 4, none⟩ = some (.slice a1 m1 p1) := hg6.cell FT (fun e => hvb e.symm)
    have z6 : Y6.frozen? ⟨b, 4, none⟩ = false := (hg6.frozen_far ⟨b, 4, none⟩ (Nat.lt_of_lt_of_le hty HB1.out.size) (fun e => hvb e.symm)).trans GT
    refine hK.out _ _ (hg6.cell (cell_up HB1.out o2) (fun e => hvx e.symm)) (fun hHeld => ?_)
    clear hK K
    try simp only [Act.put, List.setIfInBounds_toArray, List.set_cons_zero, List.set_cons_succ]
    refine tk (i := 11) (v := ?_) (tA rfl) (by kernel_rfl) (fun _ _ _ h => h) (Or.inl ⟨by rfl, ?_⟩) (by assumption) ?_
    rotate_left
    · (intro w hSw; (try dsimp only at hSw); go_simp <;> with_reducible rfl)
    simp only [Act.put, List.setIfInBounds_toArray, List.set_cons_zero, List.set_cons_succ]
    refine tk (i := 12) (v := ?_) (tA rfl) (by kernel_rfl) (fun _ _ _ h => h) (Or.inl ⟨by rfl, ?_⟩) (by assumption) ?_
    rotate_left
    · (intro w hSw; (try dsimp only at hSw); go_simp <;> with_reducible rfl)
    simp only [Act.put, List.setIfInBounds_toArray, List.set_cons_zero, List.set_cons_succ]
    refine wpAnyH_ready (rs := [13]) (by kernel_rfl) (by simp) ?_
    refine AllReadyH.cons (tA rfl) (fun K hK => ?_) AllReadyH.nil
    clear hHeld
    go_simp
    have ho7 : Y6.ownsRow B 81 3 (.slice (some ⟨x1, 0, none⟩) ((M).es.length + 1) cp) ((M).es.length + 1) ((M).es.flatMap eC ++ eC ((k : Int), 1, v)) := by rw [HM1.out]; exact ho6
    obtain ⟨q1, q2⟩ := HV1.out.saw HB1.out ho7 (HEV.out ▸ hg6) (by rw [HEV.out]; exact hat6.imp id (fun e => by omega))
    rw [HM1.out] at q1 q2
    obtain ⟨ZZ, hZZ⟩ : ∃ ZZ, Y6.setCell ⟨b, 4, none⟩ (.slice (some ⟨x1, 0, none⟩) (m1 + 1) cp) = ZZ := ⟨_, rfl⟩
    rw [hZZ] at q1 q2
    rw [hZZ]
    have HQ1 : Hid _ := q1
    have HQ2 : Hid (St t _ w ZZ) := HSX.out.trans q2
    refine hK.out _ _ (st_cell q2 HTX.out o2) (fun hHeld => ?_)
    clear hK K hZZ m6 z6 q1 q2 ho7 ho6 hg6 hat6 hlt6
    try simp only [Act.put, List.setIfInBounds_toArray, List.set_cons_zero, List.set_cons_succ]
    refine wpAnyH_done (by kernel_rfl) ?_ _
    clear hHeld
    go_wp2
    go_ret
    exact ⟨rfl, _, _, _, _, _, HQ1.out, HQ2.out⟩
  · go_simp
    refine hK.out _ _ (by first | exact HSK.out _ (Below.refl _ _).drew | exact HSK.out _ HB1.out) (fun hHeld => ?_)
    clear hK K
    try simp only [Act.put, List.setIfInBounds_toArray, List.set_cons_zero, List.set_cons_succ]
    refine wpAnyH_ready (rs := [4]) (by kernel_rfl) (by simp) ?_
    refine AllReadyH.cons (tA rfl) (fun K hK => ?_) AllReadyH.nil
    go_simp
    refine hK.out _ _ (by first | exact HSK.out _ (Below.refl _ _).drew | exact HSK.out _ HB1.out) (fun hHeld => ?_)
    clear hK K
    try simp only [Act.put, List.setIfInBounds_toArray, List.set_cons_zero, List.set_cons_succ]
    refine wpAnyH_ready (rs := [10]) (by kernel_rfl) (by simp) ?_
    refine AllReadyH.cons (tA rfl) (fun K hK => ?_) AllReadyH.nil
    refine step_append_lies _ (by rfl) _ _ 39 (by rfl) B 81 iw _ 3 24 Tryd.underlying39 hiw hp0 hp1 hp2 (by rfl) (by decide) (.slice a1 m1 p1) m1 _ (by rfl) HW1.out ⟨y.heap.size, 0, none⟩ 1 1 (eC ((k : Int), 1, v)) (by rfl) (by rfl) HNC.out (by intro u hu; simp [eC] at hu; rcases hu with rfl | rfl | rfl <;> rfl) (by decide) (by unfold maxLen; omega) (by omega) (by simp; omega) (y.heap.size + 1) (by simp) ?_
    intro x1 cp Y6 ho6 hg6 hat6 hlt6
    have m6 : Y6.cell? ⟨b, 4, none⟩ = some (.slice a1 m1 p1) := hg6.cell FT (fun e => hvb e.symm)
    have z6 : Y6.frozen? ⟨b, 4, none⟩ = false := (hg6.frozen_far ⟨b, 4, none⟩ (Nat.lt_of_lt_of_le hty HB1.out.size) (fun e => hvb e.symm)).trans GT
    refine hK.out _ _ (hg6.cell (cell_up HB1.out o2) (fun e => hvx e.symm)) (fun hHeld => ?_)
    clear hK K
    try simp only [Act.put, List.setIfInBounds_toArray, List.set_cons_zero, List.set_cons_succ]
    refine tk (i := 11) (v := ?_) (tA rfl) (by kernel_rfl) (fun _ _ _ h => h) (Or.inl ⟨by rfl, ?_⟩) (by assumption) ?_
    rotate_left
    · (intro w hSw; (try dsimp only at hSw); go_simp <;> with_reducible rfl)
    simp only [Act.put, List.setIfInBounds_toArray, List.set_cons_zero, List.set_cons_succ]
    refine tk (i := 12) (v := ?_) (tA rfl) (by kernel_rfl) (fun _ _ _ h => h) (Or.inl ⟨by rfl, ?_⟩) (by assumption) ?_
    rotate_left
    · (intro w hSw; (try dsimp only at hSw); go_simp <;> with_reducible rfl)
    simp only [Act.put, List.setIfInBounds_toArray, List.set_cons_zero, List.set_cons_succ]
    refine wpAnyH_ready (rs := [13]) (by kernel_rfl) (by simp) ?_
    refine AllReadyH.cons (tA rfl) (fun K hK => ?_) AllReadyH.nil
    clear hHeld
    go_simp
    have ho7 : Y6.ownsRow B 81 3 (.slice (some ⟨x1, 0, none⟩) ((M).es.length + 1) cp) ((M).es.length + 1) ((M).es.flatMap eC ++ eC ((k : Int), 1, v)) := by rw [HM1.out]; exact ho6
    obtain ⟨q1, q2⟩ := HV1.out.saw HB1.out ho7 (HEV.out ▸ hg6) (by rw [HEV.out]; exact hat6.imp id (fun e => by omega))
    rw [HM1.out] at q1 q2
    obtain ⟨ZZ, hZZ⟩ : ∃ ZZ, Y6.setCell ⟨b, 4, none⟩ (.slice (some ⟨x1, 0, none⟩) (m1 + 1) cp) = ZZ := ⟨_, rfl⟩
    rw [hZZ] at q1 q2
    rw [hZZ]
    have HQ1 : Hid _ := q1
    have HQ2 : Hid (St t _ w ZZ) := HSX.out.trans q2
    refine hK.out _ _ (st_cell q2 HTX.out o2) (fun hHeld => ?_)
    clear hK K hZZ m6 z6 q1 q2 ho7 ho6 hg6 hat6 hlt6
    try simp only [Act.put, List.setIfInBounds_toArray, List.set_cons_zero, List.set_cons_succ]
    refine wpAnyH_done (by kernel_rfl) ?_ _
    clear hHeld
    go_wp2
    go_ret
    exact ⟨rfl, _, _, _, _, _, HQ1.out, HQ2.out⟩

end Go.Proofs.YtneclfaamgfoeaaDoor

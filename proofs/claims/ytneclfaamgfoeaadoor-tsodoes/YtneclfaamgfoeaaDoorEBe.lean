/- The document's machine: an exchange. (Written by gen_xask.py.) -/
import Derived.Test.YtneclfaamgfoeaaDoorEBc
import Derived.Test.YtneclfaamgfoeaaDoorEBb
import Derived.Test.YtneclfaamgfoeaaDoorEAq
import Derived.Test.YtneclfaamgfoeaaDoorEAa
import Derived.Test.YtneclfaamgfoeaaDoorEAr
import Derived.Test.YtneclfaamgfoeaaDoorEAy
import Derived.Test.YtneclfaamgfoeaaDoorEBd
namespace Go.Proofs.YtneclfaamgfoeaaDoor
open Go.RowKit Go.Maps
set_option linter.unusedVariables false
set_option linter.unusedSimpArgs false

set_option maxRecDepth 100000 in
set_option maxHeartbeats 8000000 in
theorem xask_3 {B : Nat} {w : World} {b : Nat} {M : T.Mach} {t : Nat → Nat} {D Sk : List Int} {vd vs : Value} {g cap : Nat} {ev : Value} {us : List Value} (h : XV B w b M t D Sk vd vs g cap ev us) {k : Nat} (hk : k < M.ts.length) (hok : WsOk (M.th k).ws) (h8 : (M.th k).ws.length ≤ 8) {a v r : Int} (ha : (Lit.int .i64 a).wf = true) (hm : (M.mem a).isSome = true) :
    Calls Tryd.prog 51 #[.pointer (some ⟨b, 0, none⟩), .int .i64 k, S.reqV 3 a v r] w fun e w' => e = .returned (.bool true) ∧ XGone B w w' b (T.setC (T.swap M k a v) k (S.finish (M.th k).c 3 r (((T.drain M k).mem a).getD 0))) t vd vs g cap := by
  obtain ⟨X1, hX1⟩ : ∃ X1, w.alloc (.cells #[.int .i64 3, .int .i64 a, .int .i64 v, .int .i64 r] 110) = X1 := ⟨_, rfl⟩
  have hb1 : Below w.heap.size w X1 := by subst hX1; exact bl_one _ _
  have hs1 : w.heap.size < X1.heap.size := by subst hX1; simp
  have o0 : X1.cell? ⟨w.heap.size, 0, none⟩ = some (.int .i64 3) := by subst hX1; exact cell_last _ _ _ _ _ rfl rfl
  have o1 : X1.cell? ⟨w.heap.size, 1, none⟩ = some (.int .i64 a) := by subst hX1; exact cell_last _ _ _ _ _ rfl rfl
  have o2 : X1.cell? ⟨w.heap.size, 2, none⟩ = some (.int .i64 v) := by subst hX1; exact cell_last _ _ _ _ _ rfl rfl
  have o3 : X1.cell? ⟨w.heap.size, 3, none⟩ = some (.int .i64 r) := by subst hX1; exact cell_last _ _ _ _ _ rfl rfl
  have hv1 : XV B X1 b M t D Sk vd vs g cap ev us := h.below hb1
  have HTX : Hid (t w.heap.size = 0) := Classical.byContradiction fun e => by have := (h.lt _ e).2; omega
  have HB1 : Hid (Below w.heap.size w X1) := hb1
  have HV1 : Hid (XV B X1 b M t D Sk vd vs g cap ev us) := hv1
  have hro := hv1.room
  obtain ⟨n, hn⟩ : ∃ n, M.ts.length = n := ⟨_, rfl⟩
  have HTL : Hid (M.ts.length = n) := hn
  rw [hn] at hro
  obtain ⟨r1, r2, r3, r4⟩ := hro
  have hkn : k < n := by omega
  unfold maxLen at r2
  have i1 : (k : Int) < (n : Int) := by omega
  have i0 : (0 : Int) ≤ (k : Int) := by omega
  have HW : Hid _ := xword_any hv1 ha
  obtain ⟨z1, hz1⟩ : ∃ z1, (M.mem a).getD 0 = z1 := ⟨_, rfl⟩
  rw [hz1, show T.er (M.mem a) = 0 by cases e : M.mem a with
    | none => rw [e] at hm; cases hm
    | some x => rfl] at HW
  have HX1 : Hid _ := hX1
  have HSX : Hid (St t t w X1) := St.ofBelow t hb1
  have HDR : Hid _ := xdrain_any hv1 hk hok
  obtain ⟨nn, hnn⟩ : ∃ nn, ((T.drain M k).mem a).getD 0 = nn := ⟨_, rfl⟩
  have HNN : Hid (((T.drain M k).mem a).getD 0 = nn) := hnn
  obtain ⟨z3, hz3⟩ : ∃ z3, T.er ((T.drain M k).mem a) = z3 := ⟨_, rfl⟩
  have HZ3 : Hid (T.er ((T.drain M k).mem a) = z3) := hz3
  have HAW : Hid ((Lit.int .i64 a).wf = true) := ha
  rw [hnn]
  obtain ⟨vv, hvv⟩ : ∃ vv, v = vv := ⟨_, rfl⟩
  rw [show T.swap M k a v = T.swap M k a vv by rw [hvv]]
  have hth9 : (T.swap M k a vv).th k = ⟨(M.th k).c, []⟩ := T.th_put hk (T.upds M.mem (M.th k).ws) ⟨(M.th k).c, []⟩
  have hth : ((T.swap M k a vv).th k).c = (M.th k).c := by rw [hth9]
  clear hth9
  have HKY : Hid (k < (T.swap M k a vv).ts.length) := by show k < (M.put k _ _).ts.length; rw [T.len_put]; exact hk
  have HLY : Hid ((T.swap M k a vv).ts.length = n) := (T.len_put M k _ _).trans hn
  obtain ⟨cc, hcc⟩ : ∃ cc, (M.th k).c = cc := ⟨_, rfl⟩
  rw [hcc] at hth
  have HTH : Hid (((T.swap M k a vv).th k).c = cc) := hth
  rw [hcc]
  obtain ⟨dd, hdd⟩ : ∃ dd, S.finish cc 3 r nn = dd := ⟨_, rfl⟩
  have HDD : Hid (S.finish cc 3 r nn = dd) := hdd
  rw [hdd]
  have HLZ : Hid ((T.setC (T.swap M k a vv) k dd).ts.length = n) := (T.len_put _ k _ _).trans HLY.out
  clear h hv1 hm hok h8 hn hk hb1 hz1 hnn hz3 hth hcc hdd 
  subst hvv
  go_enter Tryd.func51, Tryd.ntmps51
  go_wp2_with fail
  refine Calls.mono HW.out ?_
  rintro e y0 ⟨rfl, rfl⟩
  go_wp2_with fail
  refine Calls.mono HDR.out ?_
  rintro e y ⟨rfl, t2, D2, S2, ev2, us2, hv2, hs2⟩
  have HV2 : Hid (XV B y b (T.drain M k) t2 D2 S2 vd vs g cap ev2 us2) := hv2
  have HS2 : Hid (St t t2 w y) := HSX.out.trans hs2
  have HTY : Hid (t2 w.heap.size = 0) := (hs2.tag _ hs1).trans HTX.out
  have o0 := st_cell hs2 (p := ⟨w.heap.size, 0, none⟩) HTX.out o0
  have o1 := st_cell hs2 (p := ⟨w.heap.size, 1, none⟩) HTX.out o1
  have o2 := st_cell hs2 (p := ⟨w.heap.size, 2, none⟩) HTX.out o2
  have o3 := st_cell hs2 (p := ⟨w.heap.size, 3, none⟩) HTX.out o3
  have HW2 : Hid _ := xword_any hv2 HAW.out
  rw [HNN.out, HZ3.out] at HW2
  have HST : Hid _ := xset_any hv2 HAW.out v
  clear hv2 hs2
  go_wp2_with fail
  refine Calls.mono HW2.out ?_
  rintro e y2 ⟨rfl, rfl⟩
  go_wp2_with fail
  refine Calls.mono HST.out ?_
  rintro e y3 ⟨rfl, D3, S3, hv3, hs3⟩
  have HV3 : Hid (XV B y3 b (T.swap M k a v) t2 D3 S3 vd vs g cap ev2 us2) := hv3
  have HS3 : Hid (St t t2 w y3) := HS2.out.trans hs3
  have o0 := st_cell hs3 (p := ⟨w.heap.size, 0, none⟩) HTY.out o0
  have o1 := st_cell hs3 (p := ⟨w.heap.size, 1, none⟩) HTY.out o1
  have o2 := st_cell hs3 (p := ⟨w.heap.size, 2, none⟩) HTY.out o2
  have o3 := st_cell hs3 (p := ⟨w.heap.size, 3, none⟩) HTY.out o3
  have c3y := HV3.out.c3
  rw [HLY.out] at c3y
  obtain ⟨uy3, huy3⟩ := HV3.out.u HKY.out
  have d0 : y3.cell? ⟨g, k * 12, none⟩ = some (.int .i64 ((T.swap M k a v).th k).c.r0) := HV3.out.cell HKY.out huy3 0 _ rfl
  have d1 : y3.cell? ⟨g, k * 12 + 1, none⟩ = some (.int .i64 ((T.swap M k a v).th k).c.r1) := HV3.out.cell HKY.out huy3 1 _ rfl
  have d2 : y3.cell? ⟨g, k * 12 + 2, none⟩ = some (.int .i64 ((T.swap M k a v).th k).c.r2) := HV3.out.cell HKY.out huy3 2 _ rfl
  have d3 : y3.cell? ⟨g, k * 12 + 3, none⟩ = some (.int .i64 ((T.swap M k a v).th k).c.r3) := HV3.out.cell HKY.out huy3 3 _ rfl
  have d4 : y3.cell? ⟨g, k * 12 + 4, none⟩ = some (.int .i64 ((T.swap M k a v).th k).c.r4) := HV3.out.cell HKY.out huy3 4 _ rfl
  have d5 : y3.cell? ⟨g, k * 12 + 5, none⟩ = some (.int .i64 ((T.swap M k a v).th k).c.r5) := HV3.out.cell HKY.out huy3 5 _ rfl
  have d6 : y3.cell? ⟨g, k * 12 + 6, none⟩ = some (.int .i64 ((T.swap M k a v).th k).c.r6) := HV3.out.cell HKY.out huy3 6 _ rfl
  have d7 : y3.cell? ⟨g, k * 12 + 7, none⟩ = some (.int .i64 ((T.swap M k a v).th k).c.r7) := HV3.out.cell HKY.out huy3 7 _ rfl
  have d8 : y3.cell? ⟨g, k * 12 + 8, none⟩ = some (.int .i64 ((T.swap M k a v).th k).c.pc) := HV3.out.cell HKY.out huy3 8 _ rfl
  have d9 : y3.cell? ⟨g, k * 12 + 9, none⟩ = some (.int .i64 ((T.swap M k a v).th k).c.st) := HV3.out.cell HKY.out huy3 9 _ rfl
  have d10 : y3.cell? ⟨g, k * 12 + 10, none⟩ = some (.int .i64 ((T.swap M k a v).th k).c.tr) := HV3.out.cell HKY.out huy3 10 _ rfl
  rw [HTH.out] at d0 d1 d2 d3 d4 d5 d6 d7 d8 d9 d10
  have HUY : Hid (us2[k]? = some uy3) := huy3
  have hfin := rfinish_any cc 3 a v r nn y3.drew
  rw [HDD.out] at hfin
  have HFIN : Hid _ := hfin
  clear hv3 hs3 huy3 hfin HST HW2
  go_wp2_with fail
  have HC3 : Hid (∀ z : World, Below y3.heap.size y3 z → z.cell? ⟨b, 3, none⟩ = some (.slice (some ⟨g, 0, none⟩) n cap)) := fun z hz => cell_up hz c3y
  refine wp_region_held_drew (S := (fun w' : World => w'.cell? ⟨b, 3, none⟩ = some (.slice (some ⟨g, 0, none⟩) n cap))) (by kernel_rfl) (HC3.out _ (Below.refl _ _).drew) (fun hHeld => ?_)
  refine tk (i := 0) (v := ?_) (tA rfl) (by kernel_rfl) (fun _ _ _ h => h) (Or.inl ⟨by rfl, ?_⟩) (by assumption) ?_
  rotate_left
  · (intro w hSw; (try dsimp only at hSw); go_simp <;> with_reducible rfl)
  simp only [Act.put, List.setIfInBounds_toArray, List.set_cons_zero, List.set_cons_succ]
  refine tk (i := 1) (v := ?_) (tA rfl) (by kernel_rfl) (fun _ _ _ h => h) (Or.inl ⟨by rfl, ?_⟩) (by assumption) ?_
  rotate_left
  · (intro w hSw; (try dsimp only at hSw); go_simp <;> with_reducible rfl)
  simp only [Act.put, List.setIfInBounds_toArray, List.set_cons_zero, List.set_cons_succ]
  refine tk (i := 2) (v := ?_) (tA rfl) (by kernel_rfl) (fun _ _ _ h => h) (Or.inl ⟨by rfl, ?_⟩) (by assumption) ?_
  rotate_left
  · (intro w hSw; (try dsimp only at hSw); go_simp <;> with_reducible rfl)
  simp only [Act.put, List.setIfInBounds_toArray, List.set_cons_zero, List.set_cons_succ]
  refine tk (i := 3) (v := ?_) (tA rfl) (by kernel_rfl) (fun _ _ _ h => h) (Or.inl ⟨by rfl, ?_⟩) (by assumption) ?_
  rotate_left
  · (intro w hSw; (try dsimp only at hSw); go_simp <;> with_reducible rfl)
  simp only [Act.put, List.setIfInBounds_toArray, List.set_cons_zero, List.set_cons_succ]
  refine tk (i := 4) (v := ?_) (tA rfl) (by kernel_rfl) (fun _ _ _ h => h) (Or.inl ⟨by rfl, ?_⟩) (by assumption) ?_
  rotate_left
  · (intro w hSw; (try dsimp only at hSw); go_simp <;> with_reducible rfl)
  simp only [Act.put, List.setIfInBounds_toArray, List.set_cons_zero, List.set_cons_succ]
  refine tk (i := 5) (v := ?_) (tA rfl) (by kernel_rfl) (fun _ _ _ h => h) (Or.inl ⟨by rfl, ?_⟩) (by assumption) ?_
  rotate_left
  · (intro w hSw; (try dsimp only at hSw); go_simp <;> with_reducible rfl)
  simp only [Act.put, List.setIfInBounds_toArray, List.set_cons_zero, List.set_cons_succ]
  refine tk (i := 6) (v := ?_) (tA rfl) (by kernel_rfl) (fun _ _ _ h => h) (Or.inl ⟨by rfl, ?_⟩) (by assumption) ?_
  rotate_left
  · (intro w hSw; (try dsimp only at hSw); go_simp <;> with_reducible rfl)
  simp only [Act.put, List.setIfInBounds_toArray, List.set_cons_zero, List.set_cons_succ]
  refine tk (i := 7) (v := ?_) (tA rfl) (by kernel_rfl) (fun _ _ _ h => h) (Or.inl ⟨by rfl, ?_⟩) (by assumption) ?_
  rotate_left
  · (intro w hSw; (try dsimp only at hSw); go_simp <;> with_reducible rfl)
  simp only [Act.put, List.setIfInBounds_toArray, List.set_cons_zero, List.set_cons_succ]
  refine tk (i := 8) (v := ?_) (tA rfl) (by kernel_rfl) (fun _ _ _ h => h) (Or.inl ⟨by rfl, ?_⟩) (by assumption) ?_
  rotate_left
  · (intro w hSw; (try dsimp only at hSw); go_simp <;> with_reducible rfl)
  simp only [Act.put, List.setIfInBounds_toArray, List.set_cons_zero, List.set_cons_succ]
  refine tk (i := 9) (v := ?_) (tA rfl) (by kernel_rfl) (fun _ _ _ h => h) (Or.inl ⟨by rfl, ?_⟩) (by assumption) ?_
  rotate_left
  · (intro w hSw; (try dsimp only at hSw); go_simp <;> with_reducible rfl)
  simp only [Act.put, List.setIfInBounds_toArray, List.set_cons_zero, List.set_cons_succ]
  refine tk (i := 10) (v := ?_) (tA rfl) (by kernel_rfl) (fun _ _ _ h => h) (Or.inl ⟨by rfl, ?_⟩) (by assumption) ?_
  rotate_left
  · (intro w hSw; (try dsimp only at hSw); go_simp <;> with_reducible rfl)
  simp only [Act.put, List.setIfInBounds_toArray, List.set_cons_zero, List.set_cons_succ]
  refine tk (i := 11) (v := ?_) (tA rfl) (by kernel_rfl) (fun _ _ _ h => h) (Or.inl ⟨by rfl, ?_⟩) (by assumption) ?_
  rotate_left
  · (intro w hSw; (try dsimp only at hSw); go_simp <;> with_reducible rfl)
  simp only [Act.put, List.setIfInBounds_toArray, List.set_cons_zero, List.set_cons_succ]
  refine tk (i := 14) (v := ?_) (tA rfl) (by kernel_rfl) (fun _ _ _ h => h) (Or.inl ⟨by rfl, ?_⟩) (by assumption) ?_
  rotate_left
  · (intro w hSw; (try dsimp only at hSw); go_simp <;> with_reducible rfl)
  simp only [Act.put, List.setIfInBounds_toArray, List.set_cons_zero, List.set_cons_succ]
  refine wpAnyH_ready (rs := [12, 13]) (by kernel_rfl) (by simp) ?_
  refine AllReadyH.cons (tA rfl) (fun K hK => ?_) (AllReadyH.cons (tA rfl) (fun K hK => ?_) AllReadyH.nil)
  · go_simp
    refine hK.out _ _ (HC3.out _ (Below.refl _ _).drew) (fun hHeld => ?_)
    clear hK K
    try simp only [Act.put, List.setIfInBounds_toArray, List.set_cons_zero, List.set_cons_succ]
    refine wpAnyH_ready (rs := [13]) (by kernel_rfl) (by simp) ?_
    refine AllReadyH.cons (tA rfl) (fun K hK => ?_) AllReadyH.nil
    go_simp
    refine hK.out _ _ (HC3.out _ (Below.refl _ _).drew) (fun hHeld => ?_)
    clear hK K
    try simp only [Act.put, List.setIfInBounds_toArray, List.set_cons_zero, List.set_cons_succ]
    refine wpAnyH_ready (rs := [15]) (by kernel_rfl) (by simp) ?_
    refine AllReadyH.cons (tA rfl) (fun K hK => ?_) AllReadyH.nil
    go_simp
    refine Calls.mono HFIN.out ?_
    rintro e z ⟨rfl, hbz⟩
    have hbz2 : Below y3.heap.size y3 z := (Below.refl _ _).drew.trans hbz
    have hvz := HV3.out.below hbz2
    have HSZ : Hid (St t _ w z) := HS3.out.trans (St.ofBelow _ hbz2)
    have HVZ : Hid (XV B z b _ _ _ _ vd vs g cap _ _) := hvz
    try go_wp2_with fail
    refine hK.out _ _ (HC3.out _ hbz2) (fun hHeld => ?_)
    clear hK K
    try simp only [Act.put, List.setIfInBounds_toArray, List.set_cons_zero, List.set_cons_succ]
    refine tk (i := 16) (v := ?_) (tA rfl) (by kernel_rfl) (fun _ _ _ h => h) (Or.inl ⟨by rfl, ?_⟩) (by assumption) ?_
    rotate_left
    · (intro w hSw; (try dsimp only at hSw); go_simp <;> with_reducible rfl)
    simp only [Act.put, List.setIfInBounds_toArray, List.set_cons_zero, List.set_cons_succ]
    refine tk (i := 17) (v := ?_) (tA rfl) (by kernel_rfl) (fun _ _ _ h => h) (Or.inl ⟨by rfl, ?_⟩) (by assumption) ?_
    rotate_left
    · (intro w hSw; (try dsimp only at hSw); go_simp <;> with_reducible rfl)
    simp only [Act.put, List.setIfInBounds_toArray, List.set_cons_zero, List.set_cons_succ]
    refine wpAnyH_ready (rs := [18]) (by kernel_rfl) (by simp) ?_
    refine AllReadyH.cons (tA rfl) (fun K hK => ?_) AllReadyH.nil
    clear hHeld HFIN
    have e0 : z.cell? ⟨g, k * 12, none⟩ = some (.int .i64 ((T.swap M k a v).th k).c.r0) := hvz.cell HKY.out HUY.out 0 _ rfl
    have f0 := hvz.gz (k * 12)
    have e1 : z.cell? ⟨g, k * 12 + 1, none⟩ = some (.int .i64 ((T.swap M k a v).th k).c.r1) := hvz.cell HKY.out HUY.out 1 _ rfl
    have f1 := hvz.gz (k * 12 + 1)
    have e2 : z.cell? ⟨g, k * 12 + 2, none⟩ = some (.int .i64 ((T.swap M k a v).th k).c.r2) := hvz.cell HKY.out HUY.out 2 _ rfl
    have f2 := hvz.gz (k * 12 + 2)
    have e3 : z.cell? ⟨g, k * 12 + 3, none⟩ = some (.int .i64 ((T.swap M k a v).th k).c.r3) := hvz.cell HKY.out HUY.out 3 _ rfl
    have f3 := hvz.gz (k * 12 + 3)
    have e4 : z.cell? ⟨g, k * 12 + 4, none⟩ = some (.int .i64 ((T.swap M k a v).th k).c.r4) := hvz.cell HKY.out HUY.out 4 _ rfl
    have f4 := hvz.gz (k * 12 + 4)
    have e5 : z.cell? ⟨g, k * 12 + 5, none⟩ = some (.int .i64 ((T.swap M k a v).th k).c.r5) := hvz.cell HKY.out HUY.out 5 _ rfl
    have f5 := hvz.gz (k * 12 + 5)
    have e6 : z.cell? ⟨g, k * 12 + 6, none⟩ = some (.int .i64 ((T.swap M k a v).th k).c.r6) := hvz.cell HKY.out HUY.out 6 _ rfl
    have f6 := hvz.gz (k * 12 + 6)
    have e7 : z.cell? ⟨g, k * 12 + 7, none⟩ = some (.int .i64 ((T.swap M k a v).th k).c.r7) := hvz.cell HKY.out HUY.out 7 _ rfl
    have f7 := hvz.gz (k * 12 + 7)
    have e8 : z.cell? ⟨g, k * 12 + 8, none⟩ = some (.int .i64 ((T.swap M k a v).th k).c.pc) := hvz.cell HKY.out HUY.out 8 _ rfl
    have f8 := hvz.gz (k * 12 + 8)
    have e9 : z.cell? ⟨g, k * 12 + 9, none⟩ = some (.int .i64 ((T.swap M k a v).th k).c.st) := hvz.cell HKY.out HUY.out 9 _ rfl
    have f9 := hvz.gz (k * 12 + 9)
    have e10 : z.cell? ⟨g, k * 12 + 10, none⟩ = some (.int .i64 ((T.swap M k a v).th k).c.tr) := hvz.cell HKY.out HUY.out 10 _ rfl
    have f10 := hvz.gz (k * 12 + 10)
    clear hvz d0 d1 d2 d3 d4 d5 d6 d7 d8 d9 d10 o0 o1 o2 o3
    go_simp
    obtain ⟨HXX, HSS⟩ := HVZ.out.regs HKY.out rfl dd
    obtain ⟨ZZ, hZZ⟩ : ∃ ZZ, (((((((((((z.setCell ⟨g, k * 12, none⟩ (.int .i64 dd.r0)).setCell ⟨g, k * 12 + 1, none⟩ (.int .i64 dd.r1)).setCell ⟨g, k * 12 + 2, none⟩ (.int .i64 dd.r2)).setCell ⟨g, k * 12 + 3, none⟩ (.int .i64 dd.r3)).setCell ⟨g, k * 12 + 4, none⟩ (.int .i64 dd.r4)).setCell ⟨g, k * 12 + 5, none⟩ (.int .i64 dd.r5)).setCell ⟨g, k * 12 + 6, none⟩ (.int .i64 dd.r6)).setCell ⟨g, k * 12 + 7, none⟩ (.int .i64 dd.r7)).setCell ⟨g, k * 12 + 8, none⟩ (.int .i64 dd.pc)).setCell ⟨g, k * 12 + 9, none⟩ (.int .i64 dd.st)).setCell ⟨g, k * 12 + 10, none⟩ (.int .i64 dd.tr)) = ZZ := ⟨_, rfl⟩
    rw [hZZ] at HXX HSS
    rw [hZZ]
    have cZ : ZZ.cell? ⟨b, 3, none⟩ = some (.slice (some ⟨g, 0, none⟩) n cap) := by have h9 := HXX.c3; rw [HLZ.out] at h9; exact h9
    have HXZ : Hid _ := HXX
    have HSZ2 : Hid (St t _ w ZZ) := HSZ.out.trans HSS
    clear hZZ HXX HSS e0 f0 e1 f1 e2 f2 e3 f3 e4 f4 e5 f5 e6 f6 e7 f7 e8 f8 e9 f9 e10 f10
    refine hK.out _ _ cZ (fun hHeld => ?_)
    clear hK K
    try simp only [Act.put, List.setIfInBounds_toArray, List.set_cons_zero, List.set_cons_succ]
    refine wpAnyH_done (by kernel_rfl) ?_ _
    clear hHeld
    go_wp2
    go_ret
    exact ⟨rfl, _, _, _, _, _, HXZ.out, HSZ2.out⟩
  · go_simp
    refine hK.out _ _ (HC3.out _ (Below.refl _ _).drew) (fun hHeld => ?_)
    clear hK K
    try simp only [Act.put, List.setIfInBounds_toArray, List.set_cons_zero, List.set_cons_succ]
    refine wpAnyH_ready (rs := [12]) (by kernel_rfl) (by simp) ?_
    refine AllReadyH.cons (tA rfl) (fun K hK => ?_) AllReadyH.nil
    go_simp
    refine hK.out _ _ (HC3.out _ (Below.refl _ _).drew) (fun hHeld => ?_)
    clear hK K
    try simp only [Act.put, List.setIfInBounds_toArray, List.set_cons_zero, List.set_cons_succ]
    refine wpAnyH_ready (rs := [15]) (by kernel_rfl) (by simp) ?_
    refine AllReadyH.cons (tA rfl) (fun K hK => ?_) AllReadyH.nil
    go_simp
    refine Calls.mono HFIN.out ?_
    rintro e z ⟨rfl, hbz⟩
    have hbz2 : Below y3.heap.size y3 z := (Below.refl _ _).drew.trans hbz
    have hvz := HV3.out.below hbz2
    have HSZ : Hid (St t _ w z) := HS3.out.trans (St.ofBelow _ hbz2)
    have HVZ : Hid (XV B z b _ _ _ _ vd vs g cap _ _) := hvz
    try go_wp2_with fail
    refine hK.out _ _ (HC3.out _ hbz2) (fun hHeld => ?_)
    clear hK K
    try simp only [Act.put, List.setIfInBounds_toArray, List.set_cons_zero, List.set_cons_succ]
    refine tk (i := 16) (v := ?_) (tA rfl) (by kernel_rfl) (fun _ _ _ h => h) (Or.inl ⟨by rfl, ?_⟩) (by assumption) ?_
    rotate_left
    · (intro w hSw; (try dsimp only at hSw); go_simp <;> with_reducible rfl)
    simp only [Act.put, List.setIfInBounds_toArray, List.set_cons_zero, List.set_cons_succ]
    refine tk (i := 17) (v := ?_) (tA rfl) (by kernel_rfl) (fun _ _ _ h => h) (Or.inl ⟨by rfl, ?_⟩) (by assumption) ?_
    rotate_left
    · (intro w hSw; (try dsimp only at hSw); go_simp <;> with_reducible rfl)
    simp only [Act.put, List.setIfInBounds_toArray, List.set_cons_zero, List.set_cons_succ]
    refine wpAnyH_ready (rs := [18]) (by kernel_rfl) (by simp) ?_
    refine AllReadyH.cons (tA rfl) (fun K hK => ?_) AllReadyH.nil
    clear hHeld HFIN
    have e0 : z.cell? ⟨g, k * 12, none⟩ = some (.int .i64 ((T.swap M k a v).th k).c.r0) := hvz.cell HKY.out HUY.out 0 _ rfl
    have f0 := hvz.gz (k * 12)
    have e1 : z.cell? ⟨g, k * 12 + 1, none⟩ = some (.int .i64 ((T.swap M k a v).th k).c.r1) := hvz.cell HKY.out HUY.out 1 _ rfl
    have f1 := hvz.gz (k * 12 + 1)
    have e2 : z.cell? ⟨g, k * 12 + 2, none⟩ = some (.int .i64 ((T.swap M k a v).th k).c.r2) := hvz.cell HKY.out HUY.out 2 _ rfl
    have f2 := hvz.gz (k * 12 + 2)
    have e3 : z.cell? ⟨g, k * 12 + 3, none⟩ = some (.int .i64 ((T.swap M k a v).th k).c.r3) := hvz.cell HKY.out HUY.out 3 _ rfl
    have f3 := hvz.gz (k * 12 + 3)
    have e4 : z.cell? ⟨g, k * 12 + 4, none⟩ = some (.int .i64 ((T.swap M k a v).th k).c.r4) := hvz.cell HKY.out HUY.out 4 _ rfl
    have f4 := hvz.gz (k * 12 + 4)
    have e5 : z.cell? ⟨g, k * 12 + 5, none⟩ = some (.int .i64 ((T.swap M k a v).th k).c.r5) := hvz.cell HKY.out HUY.out 5 _ rfl
    have f5 := hvz.gz (k * 12 + 5)
    have e6 : z.cell? ⟨g, k * 12 + 6, none⟩ = some (.int .i64 ((T.swap M k a v).th k).c.r6) := hvz.cell HKY.out HUY.out 6 _ rfl
    have f6 := hvz.gz (k * 12 + 6)
    have e7 : z.cell? ⟨g, k * 12 + 7, none⟩ = some (.int .i64 ((T.swap M k a v).th k).c.r7) := hvz.cell HKY.out HUY.out 7 _ rfl
    have f7 := hvz.gz (k * 12 + 7)
    have e8 : z.cell? ⟨g, k * 12 + 8, none⟩ = some (.int .i64 ((T.swap M k a v).th k).c.pc) := hvz.cell HKY.out HUY.out 8 _ rfl
    have f8 := hvz.gz (k * 12 + 8)
    have e9 : z.cell? ⟨g, k * 12 + 9, none⟩ = some (.int .i64 ((T.swap M k a v).th k).c.st) := hvz.cell HKY.out HUY.out 9 _ rfl
    have f9 := hvz.gz (k * 12 + 9)
    have e10 : z.cell? ⟨g, k * 12 + 10, none⟩ = some (.int .i64 ((T.swap M k a v).th k).c.tr) := hvz.cell HKY.out HUY.out 10 _ rfl
    have f10 := hvz.gz (k * 12 + 10)
    clear hvz d0 d1 d2 d3 d4 d5 d6 d7 d8 d9 d10 o0 o1 o2 o3
    go_simp
    obtain ⟨HXX, HSS⟩ := HVZ.out.regs HKY.out rfl dd
    obtain ⟨ZZ, hZZ⟩ : ∃ ZZ, (((((((((((z.setCell ⟨g, k * 12, none⟩ (.int .i64 dd.r0)).setCell ⟨g, k * 12 + 1, none⟩ (.int .i64 dd.r1)).setCell ⟨g, k * 12 + 2, none⟩ (.int .i64 dd.r2)).setCell ⟨g, k * 12 + 3, none⟩ (.int .i64 dd.r3)).setCell ⟨g, k * 12 + 4, none⟩ (.int .i64 dd.r4)).setCell ⟨g, k * 12 + 5, none⟩ (.int .i64 dd.r5)).setCell ⟨g, k * 12 + 6, none⟩ (.int .i64 dd.r6)).setCell ⟨g, k * 12 + 7, none⟩ (.int .i64 dd.r7)).setCell ⟨g, k * 12 + 8, none⟩ (.int .i64 dd.pc)).setCell ⟨g, k * 12 + 9, none⟩ (.int .i64 dd.st)).setCell ⟨g, k * 12 + 10, none⟩ (.int .i64 dd.tr)) = ZZ := ⟨_, rfl⟩
    rw [hZZ] at HXX HSS
    rw [hZZ]
    have cZ : ZZ.cell? ⟨b, 3, none⟩ = some (.slice (some ⟨g, 0, none⟩) n cap) := by have h9 := HXX.c3; rw [HLZ.out] at h9; exact h9
    have HXZ : Hid _ := HXX
    have HSZ2 : Hid (St t _ w ZZ) := HSZ.out.trans HSS
    clear hZZ HXX HSS e0 f0 e1 f1 e2 f2 e3 f3 e4 f4 e5 f5 e6 f6 e7 f7 e8 f8 e9 f9 e10 f10
    refine hK.out _ _ cZ (fun hHeld => ?_)
    clear hK K
    try simp only [Act.put, List.setIfInBounds_toArray, List.set_cons_zero, List.set_cons_succ]
    refine wpAnyH_done (by kernel_rfl) ?_ _
    clear hHeld
    go_wp2
    go_ret
    exact ⟨rfl, _, _, _, _, _, HXZ.out, HSZ2.out⟩
set_option maxRecDepth 100000 in
set_option maxHeartbeats 8000000 in
theorem xask_4 {B : Nat} {w : World} {b : Nat} {M : T.Mach} {t : Nat → Nat} {D Sk : List Int} {vd vs : Value} {g cap : Nat} {ev : Value} {us : List Value} (h : XV B w b M t D Sk vd vs g cap ev us) {k : Nat} (hk : k < M.ts.length) (hok : WsOk (M.th k).ws) (h8 : (M.th k).ws.length ≤ 8) {a v r : Int} (ha : (Lit.int .i64 a).wf = true) (hm : (M.mem a).isSome = true) :
    Calls Tryd.prog 51 #[.pointer (some ⟨b, 0, none⟩), .int .i64 k, S.reqV 4 a v r] w fun e w' => e = .returned (.bool true) ∧ XGone B w w' b (T.setC (T.swap M k a (wrap64 (((T.drain M k).mem a).getD 0 + v))) k (S.finish (M.th k).c 4 r (((T.drain M k).mem a).getD 0))) t vd vs g cap := by
  obtain ⟨X1, hX1⟩ : ∃ X1, w.alloc (.cells #[.int .i64 4, .int .i64 a, .int .i64 v, .int .i64 r] 110) = X1 := ⟨_, rfl⟩
  have hb1 : Below w.heap.size w X1 := by subst hX1; exact bl_one _ _
  have hs1 : w.heap.size < X1.heap.size := by subst hX1; simp
  have o0 : X1.cell? ⟨w.heap.size, 0, none⟩ = some (.int .i64 4) := by subst hX1; exact cell_last _ _ _ _ _ rfl rfl
  have o1 : X1.cell? ⟨w.heap.size, 1, none⟩ = some (.int .i64 a) := by subst hX1; exact cell_last _ _ _ _ _ rfl rfl
  have o2 : X1.cell? ⟨w.heap.size, 2, none⟩ = some (.int .i64 v) := by subst hX1; exact cell_last _ _ _ _ _ rfl rfl
  have o3 : X1.cell? ⟨w.heap.size, 3, none⟩ = some (.int .i64 r) := by subst hX1; exact cell_last _ _ _ _ _ rfl rfl
  have hv1 : XV B X1 b M t D Sk vd vs g cap ev us := h.below hb1
  have HTX : Hid (t w.heap.size = 0) := Classical.byContradiction fun e => by have := (h.lt _ e).2; omega
  have HB1 : Hid (Below w.heap.size w X1) := hb1
  have HV1 : Hid (XV B X1 b M t D Sk vd vs g cap ev us) := hv1
  have hro := hv1.room
  obtain ⟨n, hn⟩ : ∃ n, M.ts.length = n := ⟨_, rfl⟩
  have HTL : Hid (M.ts.length = n) := hn
  rw [hn] at hro
  obtain ⟨r1, r2, r3, r4⟩ := hro
  have hkn : k < n := by omega
  unfold maxLen at r2
  have i1 : (k : Int) < (n : Int) := by omega
  have i0 : (0 : Int) ≤ (k : Int) := by omega
  have HW : Hid _ := xword_any hv1 ha
  obtain ⟨z1, hz1⟩ : ∃ z1, (M.mem a).getD 0 = z1 := ⟨_, rfl⟩
  rw [hz1, show T.er (M.mem a) = 0 by cases e : M.mem a with
    | none => rw [e] at hm; cases hm
    | some x => rfl] at HW
  have HX1 : Hid _ := hX1
  have HSX : Hid (St t t w X1) := St.ofBelow t hb1
  have HDR : Hid _ := xdrain_any hv1 hk hok
  obtain ⟨nn, hnn⟩ : ∃ nn, ((T.drain M k).mem a).getD 0 = nn := ⟨_, rfl⟩
  have HNN : Hid (((T.drain M k).mem a).getD 0 = nn) := hnn
  obtain ⟨z3, hz3⟩ : ∃ z3, T.er ((T.drain M k).mem a) = z3 := ⟨_, rfl⟩
  have HZ3 : Hid (T.er ((T.drain M k).mem a) = z3) := hz3
  have HAW : Hid ((Lit.int .i64 a).wf = true) := ha
  rw [hnn]
  obtain ⟨vv, hvv⟩ : ∃ vv, wrap64 (nn + v) = vv := ⟨_, rfl⟩
  have hwv : IntKind.i64.wrap (v + nn) = vv := by have h1 := hvv; unfold wrap64 at h1; rw [Int.add_comm, IntKind.wrap_i64]; exact h1
  rw [hvv]
  have hth9 : (T.swap M k a vv).th k = ⟨(M.th k).c, []⟩ := T.th_put hk (T.upds M.mem (M.th k).ws) ⟨(M.th k).c, []⟩
  have hth : ((T.swap M k a vv).th k).c = (M.th k).c := by rw [hth9]
  clear hth9
  have HKY : Hid (k < (T.swap M k a vv).ts.length) := by show k < (M.put k _ _).ts.length; rw [T.len_put]; exact hk
  have HLY : Hid ((T.swap M k a vv).ts.length = n) := (T.len_put M k _ _).trans hn
  obtain ⟨cc, hcc⟩ : ∃ cc, (M.th k).c = cc := ⟨_, rfl⟩
  rw [hcc] at hth
  have HTH : Hid (((T.swap M k a vv).th k).c = cc) := hth
  rw [hcc]
  obtain ⟨dd, hdd⟩ : ∃ dd, S.finish cc 4 r nn = dd := ⟨_, rfl⟩
  have HDD : Hid (S.finish cc 4 r nn = dd) := hdd
  rw [hdd]
  have HLZ : Hid ((T.setC (T.swap M k a vv) k dd).ts.length = n) := (T.len_put _ k _ _).trans HLY.out
  clear h hv1 hm hok h8 hn hk hb1 hz1 hnn hz3 hth hcc hdd hvv 
  skip
  go_enter Tryd.func51, Tryd.ntmps51
  go_wp2_with fail
  refine Calls.mono HW.out ?_
  rintro e y0 ⟨rfl, rfl⟩
  go_wp2_with fail
  refine Calls.mono HDR.out ?_
  rintro e y ⟨rfl, t2, D2, S2, ev2, us2, hv2, hs2⟩
  have HV2 : Hid (XV B y b (T.drain M k) t2 D2 S2 vd vs g cap ev2 us2) := hv2
  have HS2 : Hid (St t t2 w y) := HSX.out.trans hs2
  have HTY : Hid (t2 w.heap.size = 0) := (hs2.tag _ hs1).trans HTX.out
  have o0 := st_cell hs2 (p := ⟨w.heap.size, 0, none⟩) HTX.out o0
  have o1 := st_cell hs2 (p := ⟨w.heap.size, 1, none⟩) HTX.out o1
  have o2 := st_cell hs2 (p := ⟨w.heap.size, 2, none⟩) HTX.out o2
  have o3 := st_cell hs2 (p := ⟨w.heap.size, 3, none⟩) HTX.out o3
  have HW2 : Hid _ := xword_any hv2 HAW.out
  rw [HNN.out, HZ3.out] at HW2
  have HST : Hid _ := xset_any hv2 HAW.out vv
  clear hv2 hs2
  go_wp2_with fail
  refine Calls.mono HW2.out ?_
  rintro e y2 ⟨rfl, rfl⟩
  go_wp2_with fail
  refine Calls.mono HST.out ?_
  rintro e y3 ⟨rfl, D3, S3, hv3, hs3⟩
  have HV3 : Hid (XV B y3 b (T.swap M k a vv) t2 D3 S3 vd vs g cap ev2 us2) := hv3
  have HS3 : Hid (St t t2 w y3) := HS2.out.trans hs3
  have o0 := st_cell hs3 (p := ⟨w.heap.size, 0, none⟩) HTY.out o0
  have o1 := st_cell hs3 (p := ⟨w.heap.size, 1, none⟩) HTY.out o1
  have o2 := st_cell hs3 (p := ⟨w.heap.size, 2, none⟩) HTY.out o2
  have o3 := st_cell hs3 (p := ⟨w.heap.size, 3, none⟩) HTY.out o3
  have c3y := HV3.out.c3
  rw [HLY.out] at c3y
  obtain ⟨uy3, huy3⟩ := HV3.out.u HKY.out
  have d0 : y3.cell? ⟨g, k * 12, none⟩ = some (.int .i64 ((T.swap M k a vv).th k).c.r0) := HV3.out.cell HKY.out huy3 0 _ rfl
  have d1 : y3.cell? ⟨g, k * 12 + 1, none⟩ = some (.int .i64 ((T.swap M k a vv).th k).c.r1) := HV3.out.cell HKY.out huy3 1 _ rfl
  have d2 : y3.cell? ⟨g, k * 12 + 2, none⟩ = some (.int .i64 ((T.swap M k a vv).th k).c.r2) := HV3.out.cell HKY.out huy3 2 _ rfl
  have d3 : y3.cell? ⟨g, k * 12 + 3, none⟩ = some (.int .i64 ((T.swap M k a vv).th k).c.r3) := HV3.out.cell HKY.out huy3 3 _ rfl
  have d4 : y3.cell? ⟨g, k * 12 + 4, none⟩ = some (.int .i64 ((T.swap M k a vv).th k).c.r4) := HV3.out.cell HKY.out huy3 4 _ rfl
  have d5 : y3.cell? ⟨g, k * 12 + 5, none⟩ = some (.int .i64 ((T.swap M k a vv).th k).c.r5) := HV3.out.cell HKY.out huy3 5 _ rfl
  have d6 : y3.cell? ⟨g, k * 12 + 6, none⟩ = some (.int .i64 ((T.swap M k a vv).th k).c.r6) := HV3.out.cell HKY.out huy3 6 _ rfl
  have d7 : y3.cell? ⟨g, k * 12 + 7, none⟩ = some (.int .i64 ((T.swap M k a vv).th k).c.r7) := HV3.out.cell HKY.out huy3 7 _ rfl
  have d8 : y3.cell? ⟨g, k * 12 + 8, none⟩ = some (.int .i64 ((T.swap M k a vv).th k).c.pc) := HV3.out.cell HKY.out huy3 8 _ rfl
  have d9 : y3.cell? ⟨g, k * 12 + 9, none⟩ = some (.int .i64 ((T.swap M k a vv).th k).c.st) := HV3.out.cell HKY.out huy3 9 _ rfl
  have d10 : y3.cell? ⟨g, k * 12 + 10, none⟩ = some (.int .i64 ((T.swap M k a vv).th k).c.tr) := HV3.out.cell HKY.out huy3 10 _ rfl
  rw [HTH.out] at d0 d1 d2 d3 d4 d5 d6 d7 d8 d9 d10
  have HUY : Hid (us2[k]? = some uy3) := huy3
  have hfin := rfinish_any cc 4 a v r nn y3.drew
  rw [HDD.out] at hfin
  have HFIN : Hid _ := hfin
  clear hv3 hs3 huy3 hfin HST HW2
  go_wp2_with fail
  have HC3 : Hid (∀ z : World, Below y3.heap.size y3 z → z.cell? ⟨b, 3, none⟩ = some (.slice (some ⟨g, 0, none⟩) n cap)) := fun z hz => cell_up hz c3y
  refine wp_region_held_drew (S := (fun w' : World => w'.cell? ⟨b, 3, none⟩ = some (.slice (some ⟨g, 0, none⟩) n cap))) (by kernel_rfl) (HC3.out _ (Below.refl _ _).drew) (fun hHeld => ?_)
  refine tk (i := 0) (v := ?_) (tA rfl) (by kernel_rfl) (fun _ _ _ h => h) (Or.inl ⟨by rfl, ?_⟩) (by assumption) ?_
  rotate_left
  · (intro w hSw; (try dsimp only at hSw); go_simp <;> with_reducible rfl)
  simp only [Act.put, List.setIfInBounds_toArray, List.set_cons_zero, List.set_cons_succ]
  refine tk (i := 1) (v := ?_) (tA rfl) (by kernel_rfl) (fun _ _ _ h => h) (Or.inl ⟨by rfl, ?_⟩) (by assumption) ?_
  rotate_left
  · (intro w hSw; (try dsimp only at hSw); go_simp <;> with_reducible rfl)
  simp only [Act.put, List.setIfInBounds_toArray, List.set_cons_zero, List.set_cons_succ]
  refine tk (i := 2) (v := ?_) (tA rfl) (by kernel_rfl) (fun _ _ _ h => h) (Or.inl ⟨by rfl, ?_⟩) (by assumption) ?_
  rotate_left
  · (intro w hSw; (try dsimp only at hSw); go_simp <;> with_reducible rfl)
  simp only [Act.put, List.setIfInBounds_toArray, List.set_cons_zero, List.set_cons_succ]
  refine tk (i := 3) (v := ?_) (tA rfl) (by kernel_rfl) (fun _ _ _ h => h) (Or.inl ⟨by rfl, ?_⟩) (by assumption) ?_
  rotate_left
  · (intro w hSw; (try dsimp only at hSw); go_simp <;> with_reducible rfl)
  simp only [Act.put, List.setIfInBounds_toArray, List.set_cons_zero, List.set_cons_succ]
  refine tk (i := 4) (v := ?_) (tA rfl) (by kernel_rfl) (fun _ _ _ h => h) (Or.inl ⟨by rfl, ?_⟩) (by assumption) ?_
  rotate_left
  · (intro w hSw; (try dsimp only at hSw); go_simp <;> with_reducible rfl)
  simp only [Act.put, List.setIfInBounds_toArray, List.set_cons_zero, List.set_cons_succ]
  refine tk (i := 5) (v := ?_) (tA rfl) (by kernel_rfl) (fun _ _ _ h => h) (Or.inl ⟨by rfl, ?_⟩) (by assumption) ?_
  rotate_left
  · (intro w hSw; (try dsimp only at hSw); go_simp <;> with_reducible rfl)
  simp only [Act.put, List.setIfInBounds_toArray, List.set_cons_zero, List.set_cons_succ]
  refine tk (i := 6) (v := ?_) (tA rfl) (by kernel_rfl) (fun _ _ _ h => h) (Or.inl ⟨by rfl, ?_⟩) (by assumption) ?_
  rotate_left
  · (intro w hSw; (try dsimp only at hSw); go_simp <;> with_reducible rfl)
  simp only [Act.put, List.setIfInBounds_toArray, List.set_cons_zero, List.set_cons_succ]
  refine tk (i := 7) (v := ?_) (tA rfl) (by kernel_rfl) (fun _ _ _ h => h) (Or.inl ⟨by rfl, ?_⟩) (by assumption) ?_
  rotate_left
  · (intro w hSw; (try dsimp only at hSw); go_simp <;> with_reducible rfl)
  simp only [Act.put, List.setIfInBounds_toArray, List.set_cons_zero, List.set_cons_succ]
  refine tk (i := 8) (v := ?_) (tA rfl) (by kernel_rfl) (fun _ _ _ h => h) (Or.inl ⟨by rfl, ?_⟩) (by assumption) ?_
  rotate_left
  · (intro w hSw; (try dsimp only at hSw); go_simp <;> with_reducible rfl)
  simp only [Act.put, List.setIfInBounds_toArray, List.set_cons_zero, List.set_cons_succ]
  refine tk (i := 9) (v := ?_) (tA rfl) (by kernel_rfl) (fun _ _ _ h => h) (Or.inl ⟨by rfl, ?_⟩) (by assumption) ?_
  rotate_left
  · (intro w hSw; (try dsimp only at hSw); go_simp <;> with_reducible rfl)
  simp only [Act.put, List.setIfInBounds_toArray, List.set_cons_zero, List.set_cons_succ]
  refine tk (i := 10) (v := ?_) (tA rfl) (by kernel_rfl) (fun _ _ _ h => h) (Or.inl ⟨by rfl, ?_⟩) (by assumption) ?_
  rotate_left
  · (intro w hSw; (try dsimp only at hSw); go_simp <;> with_reducible rfl)
  simp only [Act.put, List.setIfInBounds_toArray, List.set_cons_zero, List.set_cons_succ]
  refine tk (i := 11) (v := ?_) (tA rfl) (by kernel_rfl) (fun _ _ _ h => h) (Or.inl ⟨by rfl, ?_⟩) (by assumption) ?_
  rotate_left
  · (intro w hSw; (try dsimp only at hSw); go_simp <;> with_reducible rfl)
  simp only [Act.put, List.setIfInBounds_toArray, List.set_cons_zero, List.set_cons_succ]
  refine tk (i := 14) (v := ?_) (tA rfl) (by kernel_rfl) (fun _ _ _ h => h) (Or.inl ⟨by rfl, ?_⟩) (by assumption) ?_
  rotate_left
  · (intro w hSw; (try dsimp only at hSw); go_simp <;> with_reducible rfl)
  simp only [Act.put, List.setIfInBounds_toArray, List.set_cons_zero, List.set_cons_succ]
  refine wpAnyH_ready (rs := [12, 13]) (by kernel_rfl) (by simp) ?_
  refine AllReadyH.cons (tA rfl) (fun K hK => ?_) (AllReadyH.cons (tA rfl) (fun K hK => ?_) AllReadyH.nil)
  · go_simp
    refine hK.out _ _ (HC3.out _ (Below.refl _ _).drew) (fun hHeld => ?_)
    clear hK K
    try simp only [Act.put, List.setIfInBounds_toArray, List.set_cons_zero, List.set_cons_succ]
    refine wpAnyH_ready (rs := [13]) (by kernel_rfl) (by simp) ?_
    refine AllReadyH.cons (tA rfl) (fun K hK => ?_) AllReadyH.nil
    go_simp
    refine hK.out _ _ (HC3.out _ (Below.refl _ _).drew) (fun hHeld => ?_)
    clear hK K
    try simp only [Act.put, List.setIfInBounds_toArray, List.set_cons_zero, List.set_cons_succ]
    refine wpAnyH_ready (rs := [15]) (by kernel_rfl) (by simp) ?_
    refine AllReadyH.cons (tA rfl) (fun K hK => ?_) AllReadyH.nil
    go_simp
    refine Calls.mono HFIN.out ?_
    rintro e z ⟨rfl, hbz⟩
    have hbz2 : Below y3.heap.size y3 z := (Below.refl _ _).drew.trans hbz
    have hvz := HV3.out.below hbz2
    have HSZ : Hid (St t _ w z) := HS3.out.trans (St.ofBelow _ hbz2)
    have HVZ : Hid (XV B z b _ _ _ _ vd vs g cap _ _) := hvz
    try go_wp2_with fail
    refine hK.out _ _ (HC3.out _ hbz2) (fun hHeld => ?_)
    clear hK K
    try simp only [Act.put, List.setIfInBounds_toArray, List.set_cons_zero, List.set_cons_succ]
    refine tk (i := 16) (v := ?_) (tA rfl) (by kernel_rfl) (fun _ _ _ h => h) (Or.inl ⟨by rfl, ?_⟩) (by assumption) ?_
    rotate_left
    · (intro w hSw; (try dsimp only at hSw); go_simp <;> with_reducible rfl)
    simp only [Act.put, List.setIfInBounds_toArray, List.set_cons_zero, List.set_cons_succ]
    refine tk (i := 17) (v := ?_) (tA rfl) (by kernel_rfl) (fun _ _ _ h => h) (Or.inl ⟨by rfl, ?_⟩) (by assumption) ?_
    rotate_left
    · (intro w hSw; (try dsimp only at hSw); go_simp <;> with_reducible rfl)
    simp only [Act.put, List.setIfInBounds_toArray, List.set_cons_zero, List.set_cons_succ]
    refine wpAnyH_ready (rs := [18]) (by kernel_rfl) (by simp) ?_
    refine AllReadyH.cons (tA rfl) (fun K hK => ?_) AllReadyH.nil
    clear hHeld HFIN
    have e0 : z.cell? ⟨g, k * 12, none⟩ = some (.int .i64 ((T.swap M k a vv).th k).c.r0) := hvz.cell HKY.out HUY.out 0 _ rfl
    have f0 := hvz.gz (k * 12)
    have e1 : z.cell? ⟨g, k * 12 + 1, none⟩ = some (.int .i64 ((T.swap M k a vv).th k).c.r1) := hvz.cell HKY.out HUY.out 1 _ rfl
    have f1 := hvz.gz (k * 12 + 1)
    have e2 : z.cell? ⟨g, k * 12 + 2, none⟩ = some (.int .i64 ((T.swap M k a vv).th k).c.r2) := hvz.cell HKY.out HUY.out 2 _ rfl
    have f2 := hvz.gz (k * 12 + 2)
    have e3 : z.cell? ⟨g, k * 12 + 3, none⟩ = some (.int .i64 ((T.swap M k a vv).th k).c.r3) := hvz.cell HKY.out HUY.out 3 _ rfl
    have f3 := hvz.gz (k * 12 + 3)
    have e4 : z.cell? ⟨g, k * 12 + 4, none⟩ = some (.int .i64 ((T.swap M k a vv).th k).c.r4) := hvz.cell HKY.out HUY.out 4 _ rfl
    have f4 := hvz.gz (k * 12 + 4)
    have e5 : z.cell? ⟨g, k * 12 + 5, none⟩ = some (.int .i64 ((T.swap M k a vv).th k).c.r5) := hvz.cell HKY.out HUY.out 5 _ rfl
    have f5 := hvz.gz (k * 12 + 5)
    have e6 : z.cell? ⟨g, k * 12 + 6, none⟩ = some (.int .i64 ((T.swap M k a vv).th k).c.r6) := hvz.cell HKY.out HUY.out 6 _ rfl
    have f6 := hvz.gz (k * 12 + 6)
    have e7 : z.cell? ⟨g, k * 12 + 7, none⟩ = some (.int .i64 ((T.swap M k a vv).th k).c.r7) := hvz.cell HKY.out HUY.out 7 _ rfl
    have f7 := hvz.gz (k * 12 + 7)
    have e8 : z.cell? ⟨g, k * 12 + 8, none⟩ = some (.int .i64 ((T.swap M k a vv).th k).c.pc) := hvz.cell HKY.out HUY.out 8 _ rfl
    have f8 := hvz.gz (k * 12 + 8)
    have e9 : z.cell? ⟨g, k * 12 + 9, none⟩ = some (.int .i64 ((T.swap M k a vv).th k).c.st) := hvz.cell HKY.out HUY.out 9 _ rfl
    have f9 := hvz.gz (k * 12 + 9)
    have e10 : z.cell? ⟨g, k * 12 + 10, none⟩ = some (.int .i64 ((T.swap M k a vv).th k).c.tr) := hvz.cell HKY.out HUY.out 10 _ rfl
    have f10 := hvz.gz (k * 12 + 10)
    clear hvz d0 d1 d2 d3 d4 d5 d6 d7 d8 d9 d10 o0 o1 o2 o3
    go_simp
    obtain ⟨HXX, HSS⟩ := HVZ.out.regs HKY.out rfl dd
    obtain ⟨ZZ, hZZ⟩ : ∃ ZZ, (((((((((((z.setCell ⟨g, k * 12, none⟩ (.int .i64 dd.r0)).setCell ⟨g, k * 12 + 1, none⟩ (.int .i64 dd.r1)).setCell ⟨g, k * 12 + 2, none⟩ (.int .i64 dd.r2)).setCell ⟨g, k * 12 + 3, none⟩ (.int .i64 dd.r3)).setCell ⟨g, k * 12 + 4, none⟩ (.int .i64 dd.r4)).setCell ⟨g, k * 12 + 5, none⟩ (.int .i64 dd.r5)).setCell ⟨g, k * 12 + 6, none⟩ (.int .i64 dd.r6)).setCell ⟨g, k * 12 + 7, none⟩ (.int .i64 dd.r7)).setCell ⟨g, k * 12 + 8, none⟩ (.int .i64 dd.pc)).setCell ⟨g, k * 12 + 9, none⟩ (.int .i64 dd.st)).setCell ⟨g, k * 12 + 10, none⟩ (.int .i64 dd.tr)) = ZZ := ⟨_, rfl⟩
    rw [hZZ] at HXX HSS
    rw [hZZ]
    have cZ : ZZ.cell? ⟨b, 3, none⟩ = some (.slice (some ⟨g, 0, none⟩) n cap) := by have h9 := HXX.c3; rw [HLZ.out] at h9; exact h9
    have HXZ : Hid _ := HXX
    have HSZ2 : Hid (St t _ w ZZ) := HSZ.out.trans HSS
    clear hZZ HXX HSS e0 f0 e1 f1 e2 f2 e3 f3 e4 f4 e5 f5 e6 f6 e7 f7 e8 f8 e9 f9 e10 f10
    refine hK.out _ _ cZ (fun hHeld => ?_)
    clear hK K
    try simp only [Act.put, List.setIfInBounds_toArray, List.set_cons_zero, List.set_cons_succ]
    refine wpAnyH_done (by kernel_rfl) ?_ _
    clear hHeld
    go_wp2
    go_ret
    exact ⟨rfl, _, _, _, _, _, HXZ.out, HSZ2.out⟩
  · go_simp
    refine hK.out _ _ (HC3.out _ (Below.refl _ _).drew) (fun hHeld => ?_)
    clear hK K
    try simp only [Act.put, List.setIfInBounds_toArray, List.set_cons_zero, List.set_cons_succ]
    refine wpAnyH_ready (rs := [12]) (by kernel_rfl) (by simp) ?_
    refine AllReadyH.cons (tA rfl) (fun K hK => ?_) AllReadyH.nil
    go_simp
    refine hK.out _ _ (HC3.out _ (Below.refl _ _).drew) (fun hHeld => ?_)
    clear hK K
    try simp only [Act.put, List.setIfInBounds_toArray, List.set_cons_zero, List.set_cons_succ]
    refine wpAnyH_ready (rs := [15]) (by kernel_rfl) (by simp) ?_
    refine AllReadyH.cons (tA rfl) (fun K hK => ?_) AllReadyH.nil
    go_simp
    refine Calls.mono HFIN.out ?_
    rintro e z ⟨rfl, hbz⟩
    have hbz2 : Below y3.heap.size y3 z := (Below.refl _ _).drew.trans hbz
    have hvz := HV3.out.below hbz2
    have HSZ : Hid (St t _ w z) := HS3.out.trans (St.ofBelow _ hbz2)
    have HVZ : Hid (XV B z b _ _ _ _ vd vs g cap _ _) := hvz
    try go_wp2_with fail
    refine hK.out _ _ (HC3.out _ hbz2) (fun hHeld => ?_)
    clear hK K
    try simp only [Act.put, List.setIfInBounds_toArray, List.set_cons_zero, List.set_cons_succ]
    refine tk (i := 16) (v := ?_) (tA rfl) (by kernel_rfl) (fun _ _ _ h => h) (Or.inl ⟨by rfl, ?_⟩) (by assumption) ?_
    rotate_left
    · (intro w hSw; (try dsimp only at hSw); go_simp <;> with_reducible rfl)
    simp only [Act.put, List.setIfInBounds_toArray, List.set_cons_zero, List.set_cons_succ]
    refine tk (i := 17) (v := ?_) (tA rfl) (by kernel_rfl) (fun _ _ _ h => h) (Or.inl ⟨by rfl, ?_⟩) (by assumption) ?_
    rotate_left
    · (intro w hSw; (try dsimp only at hSw); go_simp <;> with_reducible rfl)
    simp only [Act.put, List.setIfInBounds_toArray, List.set_cons_zero, List.set_cons_succ]
    refine wpAnyH_ready (rs := [18]) (by kernel_rfl) (by simp) ?_
    refine AllReadyH.cons (tA rfl) (fun K hK => ?_) AllReadyH.nil
    clear hHeld HFIN
    have e0 : z.cell? ⟨g, k * 12, none⟩ = some (.int .i64 ((T.swap M k a vv).th k).c.r0) := hvz.cell HKY.out HUY.out 0 _ rfl
    have f0 := hvz.gz (k * 12)
    have e1 : z.cell? ⟨g, k * 12 + 1, none⟩ = some (.int .i64 ((T.swap M k a vv).th k).c.r1) := hvz.cell HKY.out HUY.out 1 _ rfl
    have f1 := hvz.gz (k * 12 + 1)
    have e2 : z.cell? ⟨g, k * 12 + 2, none⟩ = some (.int .i64 ((T.swap M k a vv).th k).c.r2) := hvz.cell HKY.out HUY.out 2 _ rfl
    have f2 := hvz.gz (k * 12 + 2)
    have e3 : z.cell? ⟨g, k * 12 + 3, none⟩ = some (.int .i64 ((T.swap M k a vv).th k).c.r3) := hvz.cell HKY.out HUY.out 3 _ rfl
    have f3 := hvz.gz (k * 12 + 3)
    have e4 : z.cell? ⟨g, k * 12 + 4, none⟩ = some (.int .i64 ((T.swap M k a vv).th k).c.r4) := hvz.cell HKY.out HUY.out 4 _ rfl
    have f4 := hvz.gz (k * 12 + 4)
    have e5 : z.cell? ⟨g, k * 12 + 5, none⟩ = some (.int .i64 ((T.swap M k a vv).th k).c.r5) := hvz.cell HKY.out HUY.out 5 _ rfl
    have f5 := hvz.gz (k * 12 + 5)
    have e6 : z.cell? ⟨g, k * 12 + 6, none⟩ = some (.int .i64 ((T.swap M k a vv).th k).c.r6) := hvz.cell HKY.out HUY.out 6 _ rfl
    have f6 := hvz.gz (k * 12 + 6)
    have e7 : z.cell? ⟨g, k * 12 + 7, none⟩ = some (.int .i64 ((T.swap M k a vv).th k).c.r7) := hvz.cell HKY.out HUY.out 7 _ rfl
    have f7 := hvz.gz (k * 12 + 7)
    have e8 : z.cell? ⟨g, k * 12 + 8, none⟩ = some (.int .i64 ((T.swap M k a vv).th k).c.pc) := hvz.cell HKY.out HUY.out 8 _ rfl
    have f8 := hvz.gz (k * 12 + 8)
    have e9 : z.cell? ⟨g, k * 12 + 9, none⟩ = some (.int .i64 ((T.swap M k a vv).th k).c.st) := hvz.cell HKY.out HUY.out 9 _ rfl
    have f9 := hvz.gz (k * 12 + 9)
    have e10 : z.cell? ⟨g, k * 12 + 10, none⟩ = some (.int .i64 ((T.swap M k a vv).th k).c.tr) := hvz.cell HKY.out HUY.out 10 _ rfl
    have f10 := hvz.gz (k * 12 + 10)
    clear hvz d0 d1 d2 d3 d4 d5 d6 d7 d8 d9 d10 o0 o1 o2 o3
    go_simp
    obtain ⟨HXX, HSS⟩ := HVZ.out.regs HKY.out rfl dd
    obtain ⟨ZZ, hZZ⟩ : ∃ ZZ, (((((((((((z.setCell ⟨g, k * 12, none⟩ (.int .i64 dd.r0)).setCell ⟨g, k * 12 + 1, none⟩ (.int .i64 dd.r1)).setCell ⟨g, k * 12 + 2, none⟩ (.int .i64 dd.r2)).setCell ⟨g, k * 12 + 3, none⟩ (.int .i64 dd.r3)).setCell ⟨g, k * 12 + 4, none⟩ (.int .i64 dd.r4)).setCell ⟨g, k * 12 + 5, none⟩ (.int .i64 dd.r5)).setCell ⟨g, k * 12 + 6, none⟩ (.int .i64 dd.r6)).setCell ⟨g, k * 12 + 7, none⟩ (.int .i64 dd.r7)).setCell ⟨g, k * 12 + 8, none⟩ (.int .i64 dd.pc)).setCell ⟨g, k * 12 + 9, none⟩ (.int .i64 dd.st)).setCell ⟨g, k * 12 + 10, none⟩ (.int .i64 dd.tr)) = ZZ := ⟨_, rfl⟩
    rw [hZZ] at HXX HSS
    rw [hZZ]
    have cZ : ZZ.cell? ⟨b, 3, none⟩ = some (.slice (some ⟨g, 0, none⟩) n cap) := by have h9 := HXX.c3; rw [HLZ.out] at h9; exact h9
    have HXZ : Hid _ := HXX
    have HSZ2 : Hid (St t _ w ZZ) := HSZ.out.trans HSS
    clear hZZ HXX HSS e0 f0 e1 f1 e2 f2 e3 f3 e4 f4 e5 f5 e6 f6 e7 f7 e8 f8 e9 f9 e10 f10
    refine hK.out _ _ cZ (fun hHeld => ?_)
    clear hK K
    try simp only [Act.put, List.setIfInBounds_toArray, List.set_cons_zero, List.set_cons_succ]
    refine wpAnyH_done (by kernel_rfl) ?_ _
    clear hHeld
    go_wp2
    go_ret
    exact ⟨rfl, _, _, _, _, _, HXZ.out, HSZ2.out⟩

end Go.Proofs.YtneclfaamgfoeaaDoor

/- A thread's numbers fit. -/
namespace Go.Proofs.YtneclfaamgfoeaaDoor
open Go.RowKit

/-- Each of its numbers fits. -/
def S.C.ok (c : S.C) : Prop := ((Lit.int .i64 c.r0).wf = true ∧ (Lit.int .i64 c.r1).wf = true ∧ (Lit.int .i64 c.r2).wf = true ∧ (Lit.int .i64 c.r3).wf = true) ∧ ((Lit.int .i64 c.r4).wf = true ∧ (Lit.int .i64 c.r5).wf = true ∧ (Lit.int .i64 c.r6).wf = true ∧ (Lit.int .i64 c.r7).wf = true) ∧ (Lit.int .i64 c.pc).wf = true ∧ (Lit.int .i64 c.st).wf = true ∧ (Lit.int .i64 c.tr).wf = true

end Go.Proofs.YtneclfaamgfoeaaDoor

/- A number out of bytes fits. -/
namespace Go.Proofs.YtneclfaamgfoeaaDoor.W
set_option maxRecDepth 100000
open Go.RowKit

theorem numV_wf (s : ByteArray) : (Lit.int .i64 (numV s)).wf = true := by
  have h : -9223372036854775808 ≤ numV s ∧ numV s ≤ 9223372036854775807 := by
    unfold numV
    split
    · unfold sx
      split
      · omega
      · split
        · unfold wrap32; omega
        · unfold wrap64; omega
    · omega
  simp [Lit.wf, IntKind.min, IntKind.max, IntKind.signed, IntKind.bits]
  omega

end Go.Proofs.YtneclfaamgfoeaaDoor.W

/- A thread's numbers still fit behind a step. No walk. -/
namespace Go.Proofs.YtneclfaamgfoeaaDoor
open Go.RowKit
set_option linter.unusedVariables false

theorem wf_iff (x : Int) : (Lit.int .i64 x).wf = true ↔ -9223372036854775808 ≤ x ∧ x ≤ 9223372036854775807 := by
  simp [Lit.wf, IntKind.min, IntKind.max, IntKind.signed, IntKind.bits]
theorem S.put_ok {c : S.C} (h : c.ok) (k : Nat) {x : Int} (hx : (Lit.int .i64 x).wf = true) : (c.put k x).ok := by
  obtain ⟨⟨h0, h1, h2, h3⟩, ⟨h4, h5, h6, h7⟩, hp, hs, ht⟩ := h
  unfold S.C.put
  split
  all_goals (refine ⟨⟨?_, ?_, ?_, ?_⟩, ⟨?_, ?_, ?_, ?_⟩, ?_, ?_, ?_⟩ <;> assumption)
theorem S.pc_ok {c : S.C} (h : c.ok) {x : Int} (hx : (Lit.int .i64 x).wf = true) : ({ c with pc := x } : S.C).ok := by
  obtain ⟨⟨h0, h1, h2, h3⟩, ⟨h4, h5, h6, h7⟩, hp, hs, ht⟩ := h
  exact ⟨⟨h0, h1, h2, h3⟩, ⟨h4, h5, h6, h7⟩, hx, hs, ht⟩
theorem S.st_ok {c : S.C} (h : c.ok) {x : Int} (hx : (Lit.int .i64 x).wf = true) : ({ c with st := x } : S.C).ok := by
  obtain ⟨⟨h0, h1, h2, h3⟩, ⟨h4, h5, h6, h7⟩, hp, hs, ht⟩ := h
  exact ⟨⟨h0, h1, h2, h3⟩, ⟨h4, h5, h6, h7⟩, hp, hx, ht⟩
theorem S.trap_ok {c : S.C} (h : c.ok) {x y : Int} (hx : (Lit.int .i64 x).wf = true) (hy : (Lit.int .i64 y).wf = true) : ({ c with st := x, tr := y } : S.C).ok := by
  obtain ⟨⟨h0, h1, h2, h3⟩, ⟨h4, h5, h6, h7⟩, hp, hs, ht⟩ := h
  exact ⟨⟨h0, h1, h2, h3⟩, ⟨h4, h5, h6, h7⟩, hp, hx, hy⟩
theorem S.fin_ok {c : S.C} (h : c.ok) (k r : Int) {x : Int} (hx : (Lit.int .i64 x).wf = true) : (S.finish c k r x).ok := by
  unfold S.finish S.fin
  split
  · split
    · exact S.pc_ok h hx
    · split
      · exact S.put_ok h _ hx
      · exact h
  · exact h

theorem wrapI_wf (x : Int) : (Lit.int .i64 (IntKind.i64.wrap x)).wf = true := by
  rw [wf_iff, IntKind.wrap_i64]
  omega
theorem tr_wf (b : Bool) : (Lit.int .i64 (W.tr b)).wf = true := by cases b <;> rfl
theorem W.bin_wf (op : Int) {a b : Int} (ha : (Lit.int .i64 a).wf = true) (hb : (Lit.int .i64 b).wf = true) : (Lit.int .i64 (W.bin op a b)).wf = true := by
  rw [wf_iff] at ha hb
  have hbits : ∀ o, (Lit.int .i64 (bits o .i64 a b)).wf = true := fun o => by unfold bits; exact wrapI_wf _
  unfold W.bin
  by_cases e3 : op = 3
  · rw [if_pos e3]
    exact wrap64_wf _
  rw [if_neg e3]
  by_cases e4 : op = 4
  · rw [if_pos e4]
    exact wrap64_wf _
  rw [if_neg e4]
  by_cases e5 : op = 5
  · rw [if_pos e5]
    exact wrap64_wf _
  rw [if_neg e5]
  by_cases e6 : op = 6
  · rw [if_pos e6]
    by_cases hb0 : b = 0
    · rw [if_pos hb0]; rfl
    · rw [if_neg hb0]; exact wrap64_wf _
  rw [if_neg e6]
  by_cases e7 : op = 7
  · rw [if_pos e7]
    by_cases hb0 : b = 0
    · rw [if_pos hb0]; rfl
    · rw [if_neg hb0, wf_iff]
      have h1 : (a.tmod b).natAbs ≤ a.natAbs := by
        rw [Int.natAbs_tmod]
        exact Nat.mod_le _ _
      have h2 : a ≤ 0 → a.tmod b ≤ 0 := W.tmod_nonpos a b
      have h3 : 0 ≤ a → 0 ≤ a.tmod b := fun h => Int.tmod_nonneg b h
      omega
  rw [if_neg e7]
  by_cases e8 : op = 8
  · rw [if_pos e8]
    exact hbits _
  rw [if_neg e8]
  by_cases e9 : op = 9
  · rw [if_pos e9]
    exact hbits _
  rw [if_neg e9]
  by_cases e10 : op = 10
  · rw [if_pos e10]
    exact hbits _
  rw [if_neg e10]
  by_cases e11 : op = 11
  · rw [if_pos e11]
    exact wrap64_wf _
  rw [if_neg e11]
  by_cases e12 : op = 12
  · rw [if_pos e12]
    rw [wf_iff]
    generalize hp : (2 : Int) ^ (b % 64).toNat = q
    have hq : 0 < q := by rw [← hp]; exact Int.pow_pos (by decide)
    have h1 : a / q ≤ 9223372036854775807 := by
      by_cases h : 0 ≤ a
      · exact Int.le_trans (Int.ediv_le_self q h) ha.2
      · have := Int.ediv_neg_of_neg_of_pos (show a < 0 by omega) hq
        omega
    have h2 : -9223372036854775808 ≤ a / q := by
      by_cases h : 0 ≤ a
      · have := Int.ediv_nonneg h (Int.le_of_lt hq); omega
      · rw [Int.le_ediv_iff_mul_le hq]
        have h3 : -9223372036854775808 * q ≤ -9223372036854775808 * 1 := Int.mul_le_mul_of_nonpos_left (by decide) (by omega)
        omega
    exact ⟨h2, h1⟩
  rw [if_neg e12]
  by_cases e13 : op = 13
  · rw [if_pos e13]
    exact tr_wf _
  rw [if_neg e13]
  by_cases e14 : op = 14
  · rw [if_pos e14]
    exact tr_wf _
  rw [if_neg e14]
  by_cases e15 : op = 15
  · rw [if_pos e15]
    exact tr_wf _
  rw [if_neg e15]
  by_cases e16 : op = 16
  · rw [if_pos e16]
    exact tr_wf _
  rw [if_neg e16]
  rfl

theorem S.moved_ok {c : S.C} (h : c.ok) (op : Int) (a b : Nat) {n : Int} (hn : (Lit.int .i64 n).wf = true) : (S.moved c op a b n).ok := by
  unfold S.moved
  by_cases e1 : op = 1 ∨ op = 19
  · rw [if_pos e1]; exact S.put_ok h _ hn
  rw [if_neg e1]
  by_cases e2 : op = 2
  · rw [if_pos e2]; exact S.put_ok h _ (wrap64_wf _)
  rw [if_neg e2]
  by_cases e3 : op = 23
  · rw [if_pos e3]; exact S.put_ok h _ (wrap64_wf _)
  rw [if_neg e3]
  by_cases e4 : op = 24
  · rw [if_pos e4]; exact S.put_ok h _ (wrap64_wf _)
  rw [if_neg e4]
  by_cases e5 : op = 32
  · rw [if_pos e5]; exact S.st_ok h rfl
  rw [if_neg e5]
  exact h
theorem S.turned_ok {c : S.C} (h : c.ok) (op : Int) (a b : Nat) {n x : Int} (hn : (Lit.int .i64 n).wf = true) (hx : (Lit.int .i64 x).wf = true) : (S.turned c op a b n x).ok := by
  unfold S.turned
  by_cases e1 : op = 33
  · rw [if_pos e1]; exact S.trap_ok h rfl hn
  rw [if_neg e1]
  by_cases e2 : 3 ≤ op ∧ op ≤ 16
  · rw [if_pos e2]
    unfold S.computed
    split
    · exact S.pc_ok (S.put_ok h _ (W.bin_wf op (wrap64_wf _) (wrap64_wf _))) hx
    · exact S.trap_ok h rfl rfl
  rw [if_neg e2]
  refine S.pc_ok (S.moved_ok h op a b hn) ?_
  split
  · exact wrap64_wf _
  · exact hx
theorem S.startC_ok {c : S.C} (h : c.ok) (op a b z : Int) {n : Int} (hn : (Lit.int .i64 n).wf = true) : (S.startC c op a b n z).ok := by
  unfold S.startC
  split
  · exact S.turned_ok h _ _ _ hn (wrap64_wf _)
  · exact h

theorem I.dN_wf (s : ByteArray) : (Lit.int .i64 (I.dN s)).wf = true := by
  unfold I.dN I.rdN
  split
  · rfl
  · exact W.numV_wf _
def T.MemFit (m : T.Memo) : Prop := ∀ x n, m x = some n → (Lit.int .i64 n).wf = true
theorem T.upd_fit {m : T.Memo} (h : T.MemFit m) (a : Int) {v : Int} (hv : (Lit.int .i64 v).wf = true) : T.MemFit (T.upd m a v) := by
  intro x n hn
  unfold T.upd at hn
  by_cases e : x = a
  · rw [if_pos e] at hn
    by_cases e2 : (m a).isSome = true
    · rw [if_pos e2] at hn; cases hn; exact hv
    · rw [if_neg e2] at hn; cases hn
  · rw [if_neg e] at hn; exact h x n hn
theorem T.upds_fit : ∀ (ws : List T.Wait) {m : T.Memo}, T.MemFit m → (∀ p ∈ ws, (Lit.int .i64 p.2).wf = true) → T.MemFit (T.upds m ws)
  | [], m, h, _ => h
  | p :: r, m, h, hw => T.upds_fit r (T.upd_fit h p.1 (hw p List.mem_cons_self)) (fun q hq => hw q (List.mem_cons_of_mem _ hq))
theorem T.newest_fit {ws : List T.Wait} (hw : ∀ p ∈ ws, (Lit.int .i64 p.2).wf = true) {a n : Int} (h : T.newest ws a = some n) : (Lit.int .i64 n).wf = true := by
  unfold T.newest at h
  obtain ⟨p, hp, rfl⟩ := Option.map_eq_some_iff.1 h
  exact hw p (List.mem_reverse.1 (List.mem_of_find?_eq_some hp))

end Go.Proofs.YtneclfaamgfoeaaDoor

/- Numbers that fit, all along a run. No walk. -/
namespace Go.Proofs.YtneclfaamgfoeaaDoor
open Go.RowKit
set_option linter.unusedVariables false

namespace T
/-- All numbers fit, and what waits goes somewhere. -/
structure Fit (M : Mach) : Prop where
  regs : ∀ k, k < M.ts.length → (M.th k).c.ok
  mem : MemFit M.mem
  goal : ∀ k, k < M.ts.length → ∀ p ∈ (M.th k).ws, (M.mem p.1).isSome = true

theorem insMem_some (M : Mach) (k : Nat) (y : Int) : (insMem M k y).isSome = (M.mem y).isSome := by
  unfold insMem
  split
  · unfold ansMem
    split
    · cases M.mem (insQ M k).a with
      | none => rfl
      | some x =>
        show (fullMem M k y).isSome = _
        unfold fullMem
        split
        · unfold leave
          cases (M.th k).ws with
          | nil => rfl
          | cons p r => exact upd_some _ _ _ _
        · rfl
    · split
      · cases M.mem (insQ M k).a with
        | none => rfl
        | some x => exact (upd_some _ _ _ _).trans (upds_some _ _ _)
      · split
        · cases M.mem (insQ M k).a with
          | none => rfl
          | some x => exact (upd_some _ _ _ _).trans (upds_some _ _ _)
        · split
          · exact upds_some _ _ _
          · rfl
  · rfl
theorem ld_fit {M : Mach} {k : Nat} (hm : MemFit M.mem) (hw : ∀ p ∈ (M.th k).ws, (Lit.int .i64 p.2).wf = true) (a : Int) : (Lit.int .i64 ((ld M k a).getD 0)).wf = true := by
  unfold ld
  cases h : newest (M.th k).ws a with
  | some n => exact newest_fit hw h
  | none =>
    cases h2 : M.mem a with
    | none => rfl
    | some n => exact hm a n h2
theorem ansN_fit {M : Mach} {k : Nat} (hm : MemFit M.mem) (hw : ∀ p ∈ (M.th k).ws, (Lit.int .i64 p.2).wf = true) (q : S.Q) : (Lit.int .i64 (ansN M k q)).wf = true := by
  unfold ansN
  split
  · exact ld_fit hm hw _
  · split
    · cases M.mem q.a with
      | none => rfl
      | some x =>
        show (Lit.int .i64 ((upds M.mem (M.th k).ws q.a).getD 0)).wf = true
        cases h : upds M.mem (M.th k).ws q.a with
        | none => rfl
        | some n => exact upds_fit _ hm hw q.a n h
    · rfl
theorem insMem_fit {M : Mach} {k : Nat} (hm : MemFit M.mem) (hw : ∀ p ∈ (M.th k).ws, (Lit.int .i64 p.2).wf = true) : MemFit (insMem M k) := by
  have hq := (insQ_wf M k).2
  unfold insMem
  split
  · unfold ansMem
    split
    · cases M.mem (insQ M k).a with
      | none => exact hm
      | some x =>
        show MemFit (fullMem M k)
        unfold fullMem
        split
        · unfold leave
          cases e : (M.th k).ws with
          | nil => exact hm
          | cons p r => exact upd_fit hm _ (hw p (by rw [e]; exact List.mem_cons_self))
        · exact hm
    · split
      · cases M.mem (insQ M k).a with
        | none => exact hm
        | some x => exact upd_fit (upds_fit _ hm hw) _ hq
      · split
        · cases M.mem (insQ M k).a with
          | none => exact hm
          | some x => exact upd_fit (upds_fit _ hm hw) _ (wrap64_wf _)
        · split
          · exact upds_fit _ hm hw
          · exact hm
  · exact hm
theorem insC_ok {M : Mach} {k : Nat} (hc : (M.th k).c.ok) (hm : MemFit M.mem) (hw : ∀ p ∈ (M.th k).ws, (Lit.int .i64 p.2).wf = true) : (insC M k).ok := by
  unfold insC
  split
  · split
    · refine S.fin_ok ?_ _ _ (ansN_fit hm hw _)
      exact S.startC_ok hc _ _ _ _ (I.dN_wf _)
    · exact S.trap_ok hc rfl rfl
  · exact S.trap_ok hc rfl rfl
theorem insW_goal {M : Mach} {k : Nat} (h : ∀ p ∈ (M.th k).ws, (M.mem p.1).isSome = true) : ∀ p ∈ insW M k, (M.mem p.1).isSome = true := by
  intro p hp
  rcases insW_eq M k with h1 | h1 | ⟨a, v, -, h2, h1⟩
  · rw [h1] at hp; exact h p hp
  · rw [h1] at hp; cases hp
  · rw [h1] at hp
    rcases List.mem_append.1 hp with hp | hp
    · split at hp
      · exact h p (List.mem_of_mem_tail hp)
      · exact h p hp
    · obtain rfl : p = (a, v) := by simpa using hp
      exact h2
theorem Fit.act {M : Mach} (h : Fit M) (hok : MOk M) (h0 : 0 < M.ts.length) (p : Int) : Fit (act M p) := by
  have hk := who_lt h0 p
  obtain ⟨k, hke⟩ : ∃ k, who M p = k := ⟨_, rfl⟩
  rw [hke] at hk
  have hset : ∀ (c : S.C) (ws : List Wait) (m : Memo) (es : List Ev), c.ok → MemFit m → (∀ y, (m y).isSome = (M.mem y).isSome) → (∀ p ∈ ws, (M.mem p.1).isSome = true) → Fit ⟨M.code, m, M.ts.set k ⟨c, ws⟩, es⟩ := fun c ws m es h1 h2 h3 h4 => by
    refine ⟨fun j hj => ?_, h2, fun j hj q hq => ?_⟩
    · simp only [List.length_set] at hj
      unfold Mach.th
      by_cases e : k = j
      · subst e
        simp only [List.getD, List.getElem?_set_self hk, Option.getD_some]
        exact h1
      · simp only [List.getD, List.getElem?_set_ne e]
        exact h.regs j hj
    · simp only [List.length_set] at hj
      unfold Mach.th at hq
      show (m q.1).isSome = true
      rw [h3]
      by_cases e : k = j
      · subst e
        simp only [List.getD, List.getElem?_set_self hk, Option.getD_some] at hq
        exact h4 q hq
      · simp only [List.getD, List.getElem?_set_ne e] at hq
        exact h.goal j hj q hq
  have hw : ∀ p ∈ (M.th k).ws, (Lit.int .i64 p.2).wf = true := fun q hq => ((hok k hk).1.2 q hq).2
  unfold T.act
  rw [hke]
  by_cases e : pk p % 2 = 0
  · rw [if_pos e]
    by_cases hs : (M.th k).c.st = 0
    · rw [goOn_eq hk hs]
      exact hset _ _ _ _ (insC_ok (h.regs k hk) h.mem hw) (insMem_fit h.mem hw) (insMem_some M k) (insW_goal (h.goal k hk))
    · rw [goOn_no hs]; exact h
  · rw [if_neg e]
    cases he : (M.th k).ws with
    | nil => rw [leave_no he]; exact h
    | cons q r =>
      rw [leave_eq he]
      rw [he] at hw
      have hg := h.goal k hk
      rw [he] at hg
      exact hset _ _ _ _ (h.regs k hk) (upd_fit h.mem _ (hw q List.mem_cons_self)) (upd_some _ _ _) (fun x hx => hg x (List.mem_cons_of_mem _ hx))
theorem Fit.runs : ∀ (l : List Int) {M : Mach}, Fit M → MOk M → 0 < M.ts.length → Fit (runs M l)
  | [], M, h, _, _ => h
  | p :: l, M, h, hok, h0 => Fit.runs l (M := T.act M p) (h.act hok h0 p) (hok.act h0 p) (by rw [act_len h0 p]; exact h0)
theorem er_ld {M : Mach} {k : Nat} (h : ∀ p ∈ (M.th k).ws, (M.mem p.1).isSome = true) (a : Int) : er (ld M k a) = er (M.mem a) := by
  unfold ld
  cases hn : newest (M.th k).ws a with
  | none => rfl
  | some n =>
    unfold newest at hn
    obtain ⟨p, hp, rfl⟩ := Option.map_eq_some_iff.1 hn
    have h1 := h p (List.mem_reverse.1 (List.mem_of_find?_eq_some hp))
    have h2 : p.1 = a := by simpa using List.find?_some hp
    rw [h2] at h1
    cases hm : M.mem a with
    | none => rw [hm] at h1; cases h1
    | some x => rfl
theorem mach0_fit {code : ByteArray} {data starts : List Int} (hd : ∀ n ∈ data, (Lit.int .i64 n).wf = true) (hs : starts.length ≤ 4) : Fit (mach0 code data starts) := by
  have key : ∀ (l : List Int) (i : Nat), i + l.length ≤ 1000 → ∀ x ∈ ths0 i l, x.c.ok ∧ x.ws = [] := by
    intro l
    induction l with
    | nil => intro i _ x hx; cases hx
    | cons a l ih =>
      intro i hi x hx
      rcases List.mem_cons.1 hx with rfl | hx
      · refine ⟨⟨⟨rfl, rfl, rfl, rfl⟩, ⟨rfl, rfl, rfl, ?_⟩, wrap64_wf _, rfl, rfl⟩, rfl⟩
        rw [wf_iff]
        simp only [List.length_cons] at hi
        show -9223372036854775808 ≤ 2097152 + 65536 * ((i : Int) + 1) ∧ 2097152 + 65536 * ((i : Int) + 1) ≤ 9223372036854775807
        omega
      · exact ih (i + 1) (by simp only [List.length_cons] at hi; omega) x hx
  have hth : ∀ k, k < (mach0 code data starts).ts.length → ((mach0 code data starts).th k).c.ok ∧ ((mach0 code data starts).th k).ws = [] := fun k hk => key starts 0 (by omega) _ (List.mem_of_getElem? (th_at hk))
  refine ⟨fun k hk => (hth k hk).1, ?_, fun k hk p hp => ?_⟩
  · intro x n hx
    unfold mach0 mem0 at hx
    simp only at hx
    split at hx
    · split at hx
      · cases hx
        rw [List.getD_eq_getElem?_getD]
        cases e : data[((x - 1048576) / 8).toNat]? with
        | none => rfl
        | some y => exact hd y (List.mem_of_getElem? e)
      · split at hx
        · cases hx; rfl
        · cases hx
    · cases hx
  · rw [(hth k hk).2] at hp; cases hp
end T

end Go.Proofs.YtneclfaamgfoeaaDoor

/- The document's machine: a request, whatever it is. -/
namespace Go.Proofs.YtneclfaamgfoeaaDoor
open Go.RowKit Go.Maps
set_option linter.unusedVariables false

theorem T.setC_same {N : T.Mach} {k : Nat} (hk : k < N.ts.length) {c : S.C} (h : (N.th k).c = c) : T.setC N k c = N := by
  unfold T.setC
  rw [← h]
  exact T.put_same hk
theorem T.has_some {α : Type} {o : Option Int} (h : o.isSome = true) (x y : α) : T.has o x y = x := by
  cases o with
  | none => cases h
  | some _ => rfl
theorem T.er_some {o : Option Int} (h : o.isSome = true) : T.er o = 0 := by
  cases o with
  | none => cases h
  | some _ => rfl

theorem xask_any {B : Nat} {w : World} {b : Nat} {M : T.Mach} {t : Nat → Nat} {D Sk : List Int} {vd vs : Value} {g cap : Nat} {ev : Value} {us : List Value} (h : XV B w b M t D Sk vd vs g cap ev us) {k : Nat} (hk : k < M.ts.length) (hok : WsOk (M.th k).ws) (h8 : (M.th k).ws.length ≤ 8) (hes : M.es.length ≤ 1000000) (hgo : ∀ p ∈ (M.th k).ws, (M.mem p.1).isSome = true) (q : S.Q) (ha : (Lit.int .i64 q.a).wf = true) :
    Calls Tryd.prog 51 #[.pointer (some ⟨b, 0, none⟩), .int .i64 k, q.w] w fun e w' => e = .returned (.bool (decide (T.ansE M k q = 0))) ∧ XGone B w w' b (if T.ansE M k q = 0 then T.setC (T.ansM M k q) k (S.finish (M.th k).c q.k q.r (T.ansN M k q)) else M) t vd vs g cap := by
  obtain ⟨K, a, v, r⟩ := q
  have hno : ∀ K, T.ansE M k ⟨K, a, v, r⟩ = 11 → Calls Tryd.prog 51 #[.pointer (some ⟨b, 0, none⟩), .int .i64 k, S.reqV K a v r] w (fun e w' => e = .returned (.bool false) ∧ XGone B w w' b M t vd vs g cap) → Calls Tryd.prog 51 #[.pointer (some ⟨b, 0, none⟩), .int .i64 k, S.reqV K a v r] w fun e w' => e = .returned (.bool (decide (T.ansE M k ⟨K, a, v, r⟩ = 0))) ∧ XGone B w w' b (if T.ansE M k ⟨K, a, v, r⟩ = 0 then T.setC (T.ansM M k ⟨K, a, v, r⟩) k (S.finish (M.th k).c K r (T.ansN M k ⟨K, a, v, r⟩)) else M) t vd vs g cap := fun K he hc => by
    rw [if_neg (by rw [he]; decide), decide_eq_false (by rw [he]; decide)]
    exact hc
  have hyes : ∀ (K : Int) (N : T.Mach), T.ansE M k ⟨K, a, v, r⟩ = 0 → T.setC (T.ansM M k ⟨K, a, v, r⟩) k (S.finish (M.th k).c K r (T.ansN M k ⟨K, a, v, r⟩)) = N → Calls Tryd.prog 51 #[.pointer (some ⟨b, 0, none⟩), .int .i64 k, S.reqV K a v r] w (fun e w' => e = .returned (.bool true) ∧ XGone B w w' b N t vd vs g cap) → Calls Tryd.prog 51 #[.pointer (some ⟨b, 0, none⟩), .int .i64 k, S.reqV K a v r] w fun e w' => e = .returned (.bool (decide (T.ansE M k ⟨K, a, v, r⟩ = 0))) ∧ XGone B w w' b (if T.ansE M k ⟨K, a, v, r⟩ = 0 then T.setC (T.ansM M k ⟨K, a, v, r⟩) k (S.finish (M.th k).c K r (T.ansN M k ⟨K, a, v, r⟩)) else M) t vd vs g cap := fun K N he hN hc => by
    rw [if_pos he, decide_eq_true he, hN]
    exact hc
  by_cases k1 : K = 1
  · subst k1
    have he : T.ansE M k ⟨1, a, v, r⟩ = T.er (M.mem a) := T.er_ld hgo a
    cases hm : M.mem a with
    | none => exact hno 1 (by rw [he, hm]; rfl) (xask_no1 h hk hok h8 ha hm)
    | some x =>
      have hs : (M.mem a).isSome = true := by rw [hm]; rfl
      exact hyes 1 _ (by rw [he]; exact T.er_some hs) rfl (xask_1 h hk hok h8 ha hs)
  by_cases k2 : K = 2
  · subst k2
    have he : T.ansE M k ⟨2, a, v, r⟩ = T.er (M.mem a) := rfl
    cases hm : M.mem a with
    | none => exact hno 2 (by rw [he, hm]; rfl) (xask_no2 h hk hok h8 ha hm)
    | some x =>
      have hs : (M.mem a).isSome = true := by rw [hm]; rfl
      have hM : T.ansM M k ⟨2, a, v, r⟩ = T.push (T.full M k) k a v := T.has_some hs _ _
      have hf := T.full_eq hk
      have hkf : k < (T.full M k).ts.length := by rw [hf, T.len_put]; exact hk
      have hth : ((T.full M k).th k).c = (M.th k).c := by rw [hf, T.th_put hk]
      have hsame : T.setC (T.ansM M k ⟨2, a, v, r⟩) k (S.finish (M.th k).c 2 r (T.ansN M k ⟨2, a, v, r⟩)) = T.push (T.full M k) k a v := by
        rw [hM, S.finish_no (by omega)]
        refine T.setC_same ?_ ?_
        · show k < (T.Mach.put _ _ _ _).ts.length
          rw [T.len_put]; exact hkf
        · show ((T.Mach.put _ _ _ _).th k).c = _
          rw [T.th_put hkf]; exact hth
      refine hyes 2 _ (by rw [he]; exact T.er_some hs) hsame ?_
      by_cases e8 : (M.th k).ws.length = 8
      · rw [show T.full M k = T.leave M k from if_pos e8]
        exact xask_2f h hk hok h8 ha hs e8
      · rw [show T.full M k = M from if_neg e8]
        exact xask_2 h hk hok h8 ha hs (by omega)
  by_cases k3 : K = 3
  · subst k3
    have he : T.ansE M k ⟨3, a, v, r⟩ = T.er (M.mem a) := rfl
    cases hm : M.mem a with
    | none => exact hno 3 (by rw [he, hm]; rfl) (xask_no3 h hk hok h8 ha hm)
    | some x =>
      have hs : (M.mem a).isSome = true := by rw [hm]; rfl
      have hM : T.ansM M k ⟨3, a, v, r⟩ = T.swap M k a v := T.has_some hs _ _
      have hN : T.ansN M k ⟨3, a, v, r⟩ = ((T.drain M k).mem a).getD 0 := T.has_some hs _ _
      refine hyes 3 _ (by rw [he]; exact T.er_some hs) (by rw [hM, hN]) (xask_3 h hk hok h8 ha hs)
  by_cases k4 : K = 4
  · subst k4
    have he : T.ansE M k ⟨4, a, v, r⟩ = T.er (M.mem a) := rfl
    cases hm : M.mem a with
    | none => exact hno 4 (by rw [he, hm]; rfl) (xask_no4 h hk hok h8 ha hm)
    | some x =>
      have hs : (M.mem a).isSome = true := by rw [hm]; rfl
      have hM : T.ansM M k ⟨4, a, v, r⟩ = T.swap M k a (wrap64 (((T.drain M k).mem a).getD 0 + v)) := T.has_some hs _ _
      have hN : T.ansN M k ⟨4, a, v, r⟩ = ((T.drain M k).mem a).getD 0 := T.has_some hs _ _
      refine hyes 4 _ (by rw [he]; exact T.er_some hs) (by rw [hM, hN]) (xask_4 h hk hok h8 ha hs)
  by_cases k5 : K = 5
  · subst k5
    refine hyes 5 _ rfl ?_ (xask_5 h hk hok h8 ha)
    rw [S.finish_no (by omega), show T.ansM M k ⟨5, a, v, r⟩ = T.drain M k from rfl]
    refine T.setC_same ?_ ?_
    · show k < (T.Mach.put _ _ _ _).ts.length
      rw [T.len_put]; exact hk
    · show ((T.Mach.put _ _ _ _).th k).c = _
      rw [T.th_put hk]
  by_cases k6 : K = 6
  · subst k6
    refine hyes 6 _ rfl ?_ (xask_6 h hk hok h8 ha hes)
    rw [S.finish_no (by omega), show T.ansM M k ⟨6, a, v, r⟩ = M.see k 1 v from rfl]
    exact T.setC_same (N := M.see k 1 v) hk rfl
  have hE : T.ansE M k ⟨K, a, v, r⟩ = 0 := by unfold T.ansE; rw [if_neg k1, if_neg (by simp only; omega)]
  have hM : T.ansM M k ⟨K, a, v, r⟩ = M := by unfold T.ansM; rw [if_neg k2, if_neg k3, if_neg k4, if_neg k5, if_neg k6]
  refine hyes K _ hE ?_ (xask_0 h hk hok h8 ha (by omega))
  rw [hM, S.finish_no (by omega)]
  exact T.setC_same hk rfl

end Go.Proofs.YtneclfaamgfoeaaDoor

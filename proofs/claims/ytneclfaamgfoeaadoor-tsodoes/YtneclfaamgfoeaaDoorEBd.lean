/- The document's machine: a store. (Written by gen_xask.py.) -/
import Derived.Test.YtneclfaamgfoeaaDoorEBc
import Derived.Test.YtneclfaamgfoeaaDoorEBb
import Derived.Test.YtneclfaamgfoeaaDoorEAq
namespace Go.Proofs.YtneclfaamgfoeaaDoor
open Go.RowKit Go.Maps
set_option linter.unusedVariables false
set_option linter.unusedSimpArgs false

set_option maxRecDepth 100000 in
set_option maxHeartbeats 8000000 in
theorem xask_2 {B : Nat} {w : World} {b : Nat} {M : T.Mach} {t : Nat → Nat} {D Sk : List Int} {vd vs : Value} {g cap : Nat} {ev : Value} {us : List Value} (h : XV B w b M t D Sk vd vs g cap ev us) {k : Nat} (hk : k < M.ts.length) (hok : WsOk (M.th k).ws) (h8 : (M.th k).ws.length ≤ 8) {a v r : Int} (ha : (Lit.int .i64 a).wf = true) (hm : (M.mem a).isSome = true) (hl : (M.th k).ws.length ≤ 7) :
    Calls Tryd.prog 51 #[.pointer (some ⟨b, 0, none⟩), .int .i64 k, S.reqV 2 a v r] w fun e w' => e = .returned (.bool true) ∧ XGone B w w' b (T.push M k a v) t vd vs g cap := by
  obtain ⟨X1, hX1⟩ : ∃ X1, w.alloc (.cells #[.int .i64 2, .int .i64 a, .int .i64 v, .int .i64 r] 110) = X1 := ⟨_, rfl⟩
  have hb1 : Below w.heap.size w X1 := by subst hX1; exact bl_one _ _
  have hs1 : w.heap.size < X1.heap.size := by subst hX1; simp
  have o0 : X1.cell? ⟨w.heap.size, 0, none⟩ = some (.int .i64 2) := by subst hX1; exact cell_last _ _ _ _ _ rfl rfl
  have o1 : X1.cell? ⟨w.heap.size, 1, none⟩ = some (.int .i64 a) := by subst hX1; exact cell_last _ _ _ _ _ rfl rfl
  have o2 : X1.cell? ⟨w.heap.size, 2, none⟩ = some (.int .i64 v) := by subst hX1; exact cell_last _ _ _ _ _ rfl rfl
  have o3 : X1.cell? ⟨w.heap.size, 3, none⟩ = some (.int .i64 r) := by subst hX1; exact cell_last _ _ _ _ _ rfl rfl
  have hv1 : XV B X1 b M t D Sk vd vs g cap ev us := h.below hb1
  have HTX : Hid (t w.heap.size = 0) := Classical.byContradiction fun e => by have := (h.lt _ e).2; omega
  have HB1 : Hid (Below w.heap.size w X1) := hb1
  have HV1 : Hid (XV B X1 b M t D Sk vd vs g cap ev us) := hv1
  have hro := hv1.room
  obtain ⟨n, hn⟩ : ∃ n, M.ts.length = n := ⟨_, rfl⟩
  have HTL : Hid (M.ts.length = n) := hn
  rw [hn] at hro
  obtain ⟨r1, r2, r3, r4⟩ := hro
  have hkn : k < n := by omega
  unfold maxLen at r2
  have i1 : (k : Int) < (n : Int) := by omega
  have i0 : (0 : Int) ≤ (k : Int) := by omega
  have HW : Hid _ := xword_any hv1 ha
  obtain ⟨z1, hz1⟩ : ∃ z1, (M.mem a).getD 0 = z1 := ⟨_, rfl⟩
  rw [hz1, show T.er (M.mem a) = 0 by cases e : M.mem a with
    | none => rw [e] at hm; cases hm
    | some x => rfl] at HW
  have HX1 : Hid _ := hX1
  have HSX : Hid (St t t w X1) := St.ofBelow t hb1
  obtain ⟨iw, hiw, hp0, hp1, hp2⟩ := info_partsL infoW
  have HKY : Hid (k < M.ts.length) := hk
  have HLN : Hid ((M.th k).ws.length ≤ 7) := hl
  have c3y := hv1.c3
  rw [hn] at c3y
  obtain ⟨uY, huY⟩ := HV1.out.u HKY.out
  have d1 := HV1.out.cell HKY.out huY 11 _ rfl
  have hr1 := HV1.out.ws k _ uY (T.th_at HKY.out) huY
  obtain ⟨a1, p1, rfl, hnp, hpm⟩ := own_sl hr1
  obtain ⟨m1, hm1⟩ : ∃ m1, ((M).th k).ws.length = m1 := ⟨_, rfl⟩
  have hg1 := HV1.out.gz (k * 12 + 11)
  rw [hm1] at d1 hnp hr1
  have hm8 : m1 ≤ 7 := by have := HLN.out; omega
  have hty : g < X1.heap.size := HV1.out.gl
  have hBy := HV1.out.hB
  have hvb : (Value.slice a1 m1 p1).ownBlock ≠ some b := fun e => by have e1 := HV1.out.tw k _ b huY (by rw [hm1]; exact e); have e2 := HV1.out.tb; omega
  have hvg : (Value.slice a1 m1 p1).ownBlock ≠ some g := fun e => by have e1 := HV1.out.tw k _ g huY (by rw [hm1]; exact e); have e2 := HV1.out.tg; omega
  have hvx : (Value.slice a1 m1 p1).ownBlock ≠ some w.heap.size := fun e => by have e1 := HV1.out.tw k _ w.heap.size huY (by rw [hm1]; exact e); have e2 := HTX.out; omega
  have HM1 : Hid (((M).th k).ws.length = m1) := hm1
  have HU1 : Hid (us[k]? = some (Value.slice a1 m1 p1)) := by rw [hm1] at huY; exact huY
  unfold maxLen at hpm
  clear hm1 huY
  have HLZ : Hid ((M.put k M.mem ⟨(M.th k).c, (M.th k).ws ++ [(a, v)]⟩).ts.length = n) := (T.len_put M k _ _).trans hn
  have hne : ¬ (8 : Int) ≤ (m1 : Int) := by omega
  clear h hv1 hm hok h8 hn hk hb1 hz1 hl
  go_enter Tryd.func51, Tryd.ntmps51
  go_wp2_with fail
  refine Calls.mono HW.out ?_
  rintro e y ⟨rfl, rfl⟩
  go_wp2_with fail
  have HB1 : Hid (Below y.heap.size y (y.alloc (.cells #[.int .i64 a, .int .i64 v] 52)).drew) := (bl_one _ _).drew
  have HW1 : Hid ((y.alloc (.cells #[.int .i64 a, .int .i64 v] 52)).drew.ownsRow B 52 2 (.slice a1 m1 p1) m1 (((M).th k).ws.flatMap wC)) := hr1.kept (gb_of_below HB1.out (some y.heap.size)) (.inr fun e => by have := own_lt hr1 e; omega)
  have HNC : Hid (∀ j u, (wC (a, v))[j]? = some u → (y.alloc (.cells #[.int .i64 a, .int .i64 v] 52)).drew.cell? ((⟨y.heap.size, 0, none⟩ : Addr).add j) = some u) := fun j u hu => by
    rw [Addr.add_lit, Nat.zero_add]
    exact cell_last _ _ _ _ _ rfl (by simpa [wC] using hu)
  have HSK : Hid (∀ z : World, Below y.heap.size y z → (fun w' : World => w'.cell? ⟨b, 3, none⟩ = some (.slice (some ⟨g, 0, none⟩) n cap) ∧ w'.cell? ⟨w.heap.size, 1, none⟩ = some (.int .i64 a) ∧ w'.cell? ⟨w.heap.size, 2, none⟩ = some (.int .i64 v)) z) := fun z hz => ⟨cell_up hz c3y, cell_up hz o1, cell_up hz o2⟩
  have FT : (y.alloc (.cells #[.int .i64 a, .int .i64 v] 52)).drew.cell? ⟨g, k * 12 + 11, none⟩ = some (.slice a1 m1 p1) := cell_up HB1.out d1
  have GT : (y.alloc (.cells #[.int .i64 a, .int .i64 v] 52)).drew.frozen? ⟨g, k * 12 + 11, none⟩ = false := (HB1.out.frozen (p := ⟨g, k * 12 + 11, none⟩) hty).trans hg1
  have HD1 : Hid _ := d1
  have HR1 : Hid _ := hr1
  clear hr1
  refine wp_region_held_drew (S := (fun w' : World => w'.cell? ⟨b, 3, none⟩ = some (.slice (some ⟨g, 0, none⟩) n cap) ∧ w'.cell? ⟨w.heap.size, 1, none⟩ = some (.int .i64 a) ∧ w'.cell? ⟨w.heap.size, 2, none⟩ = some (.int .i64 v))) (by kernel_rfl) (HSK.out _ (Below.refl _ _).drew) (fun hHeld => ?_)
  refine tk (i := 0) (v := ?_) (tA rfl) (by kernel_rfl) (fun _ _ _ h => h) (Or.inl ⟨by rfl, ?_⟩) (by assumption) ?_
  rotate_left
  · (intro w hSw; (try dsimp only at hSw); go_simp <;> with_reducible rfl)
  simp only [Act.put, List.setIfInBounds_toArray, List.set_cons_zero, List.set_cons_succ]
  refine tk (i := 1) (v := ?_) (tA rfl) (by kernel_rfl) (fun _ _ _ h => h) (Or.inl ⟨by rfl, ?_⟩) (by assumption) ?_
  rotate_left
  · (intro w hSw; (try dsimp only at hSw); go_simp <;> with_reducible rfl)
  simp only [Act.put, List.setIfInBounds_toArray, List.set_cons_zero, List.set_cons_succ]
  refine tk (i := 2) (v := ?_) (tA rfl) (by kernel_rfl) (fun _ _ _ h => h) (Or.inl ⟨by rfl, ?_⟩) (by assumption) ?_
  rotate_left
  · (intro w hSw; (try dsimp only at hSw); go_simp <;> with_reducible rfl)
  simp only [Act.put, List.setIfInBounds_toArray, List.set_cons_zero, List.set_cons_succ]
  refine tk (i := 3) (v := ?_) (tA rfl) (by kernel_rfl) (fun _ _ _ h => h) (Or.inl ⟨by rfl, ?_⟩) (by assumption) ?_
  rotate_left
  · (intro w hSw; (try dsimp only at hSw); go_simp <;> with_reducible rfl)
  simp only [Act.put, List.setIfInBounds_toArray, List.set_cons_zero, List.set_cons_succ]
  refine tk (i := 4) (v := ?_) (tA rfl) (by kernel_rfl) (fun _ _ _ h => h) (Or.inl ⟨by rfl, ?_⟩) (by assumption) ?_
  rotate_left
  · (intro w hSw; (try dsimp only at hSw); go_simp <;> with_reducible rfl)
  simp only [Act.put, List.setIfInBounds_toArray, List.set_cons_zero, List.set_cons_succ]
  refine tk (i := 5) (v := ?_) (tA rfl) (by kernel_rfl) (fun _ _ _ h => h) (Or.inl ⟨by rfl, ?_⟩) (by assumption) ?_
  rotate_left
  · (intro w hSw; (try dsimp only at hSw); go_simp <;> with_reducible rfl)
  simp only [Act.put, List.setIfInBounds_toArray, List.set_cons_zero, List.set_cons_succ]
  refine tk (i := 6) (v := ?_) (tA rfl) (by kernel_rfl) (fun _ _ _ h => h) (Or.inl ⟨by rfl, ?_⟩) (by assumption) ?_
  rotate_left
  · (intro w hSw; (try dsimp only at hSw); go_simp <;> with_reducible rfl)
  simp only [Act.put, List.setIfInBounds_toArray, List.set_cons_zero, List.set_cons_succ]
  refine tk (i := 7) (v := ?_) (tA rfl) (by kernel_rfl) (fun _ _ _ h => h) (Or.inl ⟨by rfl, ?_⟩) (by assumption) ?_
  rotate_left
  · (intro w hSw; (try dsimp only at hSw); go_simp <;> with_reducible rfl)
  simp only [Act.put, List.setIfInBounds_toArray, List.set_cons_zero, List.set_cons_succ]
  refine tk (i := 8) (v := ?_) (tA rfl) (by kernel_rfl) (fun _ _ _ h => h) (Or.inl ⟨by rfl, ?_⟩) (by assumption) ?_
  rotate_left
  · (intro w hSw; (try dsimp only at hSw); go_simp <;> with_reducible rfl)
  simp only [Act.put, List.setIfInBounds_toArray, List.set_cons_zero, List.set_cons_succ]
  refine tk (i := 9) (v := ?_) (tA rfl) (by kernel_rfl) (fun _ _ _ h => h) (Or.inl ⟨by rfl, ?_⟩) (by assumption) ?_
  rotate_left
  · (intro w hSw; (try dsimp only at hSw); go_simp <;> with_reducible rfl)
  simp only [Act.put, List.setIfInBounds_toArray, List.set_cons_zero, List.set_cons_succ]
  refine tk (i := 10) (v := ?_) (tA rfl) (by kernel_rfl) (fun _ _ _ h => h) (Or.inl ⟨by rfl, ?_⟩) (by assumption) ?_
  rotate_left
  · (intro w hSw; (try dsimp only at hSw); go_simp <;> with_reducible rfl)
  simp only [Act.put, List.setIfInBounds_toArray, List.set_cons_zero, List.set_cons_succ]
  refine tk (i := 11) (v := ?_) (tA rfl) (by kernel_rfl) (fun _ _ _ h => h) (Or.inl ⟨by rfl, ?_⟩) (by assumption) ?_
  rotate_left
  · (intro w hSw; (try dsimp only at hSw); go_simp <;> with_reducible rfl)
  simp only [Act.put, List.setIfInBounds_toArray, List.set_cons_zero, List.set_cons_succ]
  refine tk (i := 13) (v := ?_) (tA rfl) (by kernel_rfl) (fun _ _ _ h => h) (Or.inl ⟨by rfl, ?_⟩) (by assumption) ?_
  rotate_left
  · (intro w hSw; (try dsimp only at hSw); go_simp <;> with_reducible rfl)
  simp only [Act.put, List.setIfInBounds_toArray, List.set_cons_zero, List.set_cons_succ]
  refine tk (i := 14) (v := ?_) (tA rfl) (by kernel_rfl) (fun _ _ _ h => h) (Or.inl ⟨by rfl, ?_⟩) (by assumption) ?_
  rotate_left
  · (intro w hSw; (try dsimp only at hSw); go_simp <;> with_reducible rfl)
  simp only [Act.put, List.setIfInBounds_toArray, List.set_cons_zero, List.set_cons_succ]
  refine tk (i := 15) (v := ?_) (tA rfl) (by kernel_rfl) (fun _ _ _ h => h) (Or.inl ⟨by rfl, ?_⟩) (by assumption) ?_
  rotate_left
  · (intro w hSw; (try dsimp only at hSw); go_simp <;> with_reducible rfl)
  simp only [Act.put, List.setIfInBounds_toArray, List.set_cons_zero, List.set_cons_succ]
  refine tk (i := 16) (v := ?_) (tA rfl) (by kernel_rfl) (fun _ _ _ h => h) (Or.inl ⟨by rfl, ?_⟩) (by assumption) ?_
  rotate_left
  · (intro w hSw; (try dsimp only at hSw); go_simp <;> with_reducible rfl)
  simp only [Act.put, List.setIfInBounds_toArray, List.set_cons_zero, List.set_cons_succ]
  refine tk (i := 17) (v := ?_) (tA rfl) (by kernel_rfl) (fun _ _ _ h => h) (Or.inl ⟨by rfl, ?_⟩) (by assumption) ?_
  rotate_left
  · (intro w hSw; (try dsimp only at hSw); go_simp <;> with_reducible rfl)
  simp only [Act.put, List.setIfInBounds_toArray, List.set_cons_zero, List.set_cons_succ]
  refine wpAnyH_ready (rs := [12, 18]) (by kernel_rfl) (by simp) ?_
  refine AllReadyH.cons (tA rfl) (fun K hK => ?_) (AllReadyH.cons (tA rfl) (fun K hK => ?_) AllReadyH.nil)
  · go_simp
    refine hK.out _ _ (by first | exact HSK.out _ (Below.refl _ _).drew | exact HSK.out _ HB1.out) (fun hHeld => ?_)
    clear hK K
    try simp only [Act.put, List.setIfInBounds_toArray, List.set_cons_zero, List.set_cons_succ]
    refine wpAnyH_ready (rs := [18]) (by kernel_rfl) (by simp) ?_
    refine AllReadyH.cons (tA rfl) (fun K hK => ?_) AllReadyH.nil
    go_simp
    refine hK.out _ _ (by first | exact HSK.out _ (Below.refl _ _).drew | exact HSK.out _ HB1.out) (fun hHeld => ?_)
    clear hK K
    try simp only [Act.put, List.setIfInBounds_toArray, List.set_cons_zero, List.set_cons_succ]
    refine wpAnyH_ready (rs := [19]) (by kernel_rfl) (by simp) ?_
    refine AllReadyH.cons (tA rfl) (fun K hK => ?_) AllReadyH.nil
    refine step_append_lies _ (by rfl) _ _ 45 (by rfl) B 52 iw _ 2 16 Tryd.underlying45 hiw hp0 hp1 hp2 (by rfl) (by decide) (.slice a1 m1 p1) m1 _ (by rfl) HW1.out ⟨y.heap.size, 0, none⟩ 1 1 (wC (a, v)) (by rfl) (by rfl) HNC.out (by intro u hu; simp [wC] at hu; rcases hu with rfl | rfl <;> rfl) (by decide) (by unfold maxLen; omega) (by omega) (by simp; omega) (y.heap.size + 1) (by simp) ?_
    intro x1 cp Y6 ho6 hg6 hat6 hlt6
    have m6 : Y6.cell? ⟨g, k * 12 + 11, none⟩ = some (.slice a1 m1 p1) := hg6.cell FT (fun e => hvg e.symm)
    have z6 : Y6.frozen? ⟨g, k * 12 + 11, none⟩ = false := (hg6.frozen_far ⟨g, k * 12 + 11, none⟩ (Nat.lt_of_lt_of_le hty HB1.out.size) (fun e => hvg e.symm)).trans GT
    refine hK.out _ _ ⟨(hg6.cell (cell_up HB1.out c3y) (fun e => hvb e.symm)), (hg6.cell (cell_up HB1.out o1) (fun e => hvx e.symm)), (hg6.cell (cell_up HB1.out o2) (fun e => hvx e.symm))⟩ (fun hHeld => ?_)
    clear hK K
    try simp only [Act.put, List.setIfInBounds_toArray, List.set_cons_zero, List.set_cons_succ]
    refine tk (i := 20) (v := ?_) (tA rfl) (by kernel_rfl) (fun _ _ _ h => h) (Or.inl ⟨by rfl, ?_⟩) (by assumption) ?_
    rotate_left
    · (intro w hSw; (try dsimp only at hSw); go_simp <;> with_reducible rfl)
    simp only [Act.put, List.setIfInBounds_toArray, List.set_cons_zero, List.set_cons_succ]
    refine tk (i := 21) (v := ?_) (tA rfl) (by kernel_rfl) (fun _ _ _ h => h) (Or.inl ⟨by rfl, ?_⟩) (by assumption) ?_
    rotate_left
    · (intro w hSw; (try dsimp only at hSw); go_simp <;> with_reducible rfl)
    simp only [Act.put, List.setIfInBounds_toArray, List.set_cons_zero, List.set_cons_succ]
    refine wpAnyH_ready (rs := [22]) (by kernel_rfl) (by simp) ?_
    refine AllReadyH.cons (tA rfl) (fun K hK => ?_) AllReadyH.nil
    clear hHeld
    go_simp
    have ho7 : Y6.ownsRow B 52 2 (.slice (some ⟨x1, 0, none⟩) (m1 + 1) cp) (((M).th k).ws ++ [(a, v)]).length ((((M).th k).ws ++ [(a, v)]).flatMap wC) := by
      rw [List.length_append, List.flatMap_append, HM1.out]
      simpa using ho6
    have HATF : Hid (∀ z, (Value.slice (some ⟨x1, 0, none⟩) (m1 + 1) cp).ownBlock = some z → (Value.slice a1 m1 p1).ownBlock = some z ∨ y.heap.size ≤ z) := fun z hz => by
      have hz' : x1 = z := by simpa [Value.ownBlock] using hz
      rw [← hz']
      exact hat6.imp id (fun e => by omega)
    obtain ⟨q1, q2⟩ := HV1.out.wait HKY.out HU1.out HB1.out ho7 hg6 (.inr rfl) HATF.out
    obtain ⟨ZZ, hZZ⟩ : ∃ ZZ, Y6.setCell ⟨g, k * 12 + 11, none⟩ (.slice (some ⟨x1, 0, none⟩) (m1 + 1) cp) = ZZ := ⟨_, rfl⟩
    rw [hZZ] at q1 q2
    rw [hZZ]
    have HQ1 : Hid _ := q1
    have HQ2 : Hid (St t _ w ZZ) := HSX.out.trans q2
    refine hK.out _ _ ⟨(by have h9 := q1.c3; rw [HLZ.out] at h9; exact h9), (st_cell q2 HTX.out o1), (st_cell q2 HTX.out o2)⟩ (fun hHeld => ?_)
    clear hK K hZZ m6 z6 q1 q2 ho7 ho6 hg6 hat6 hlt6
    try simp only [Act.put, List.setIfInBounds_toArray, List.set_cons_zero, List.set_cons_succ]
    refine wpAnyH_done (by kernel_rfl) ?_ _
    clear hHeld
    go_wp2
    go_ret
    exact ⟨rfl, _, _, _, _, _, HQ1.out, HQ2.out⟩
  · go_simp
    refine hK.out _ _ (by first | exact HSK.out _ (Below.refl _ _).drew | exact HSK.out _ HB1.out) (fun hHeld => ?_)
    clear hK K
    try simp only [Act.put, List.setIfInBounds_toArray, List.set_cons_zero, List.set_cons_succ]
    refine wpAnyH_ready (rs := [12]) (by kernel_rfl) (by simp) ?_
    refine AllReadyH.cons (tA rfl) (fun K hK => ?_) AllReadyH.nil
    go_simp
    refine hK.out _ _ (by first | exact HSK.out _ (Below.refl _ _).drew | exact HSK.out _ HB1.out) (fun hHeld => ?_)
    clear hK K
    try simp only [Act.put, List.setIfInBounds_toArray, List.set_cons_zero, List.set_cons_succ]
    refine wpAnyH_ready (rs := [19]) (by kernel_rfl) (by simp) ?_
    refine AllReadyH.cons (tA rfl) (fun K hK => ?_) AllReadyH.nil
    refine step_append_lies _ (by rfl) _ _ 45 (by rfl) B 52 iw _ 2 16 Tryd.underlying45 hiw hp0 hp1 hp2 (by rfl) (by decide) (.slice a1 m1 p1) m1 _ (by rfl) HW1.out ⟨y.heap.size, 0, none⟩ 1 1 (wC (a, v)) (by rfl) (by rfl) HNC.out (by intro u hu; simp [wC] at hu; rcases hu with rfl | rfl <;> rfl) (by decide) (by unfold maxLen; omega) (by omega) (by simp; omega) (y.heap.size + 1) (by simp) ?_
    intro x1 cp Y6 ho6 hg6 hat6 hlt6
    have m6 : Y6.cell? ⟨g, k * 12 + 11, none⟩ = some (.slice a1 m1 p1) := hg6.cell FT (fun e => hvg e.symm)
    have z6 : Y6.frozen? ⟨g, k * 12 + 11, none⟩ = false := (hg6.frozen_far ⟨g, k * 12 + 11, none⟩ (Nat.lt_of_lt_of_le hty HB1.out.size) (fun e => hvg e.symm)).trans GT
    refine hK.out _ _ ⟨(hg6.cell (cell_up HB1.out c3y) (fun e => hvb e.symm)), (hg6.cell (cell_up HB1.out o1) (fun e => hvx e.symm)), (hg6.cell (cell_up HB1.out o2) (fun e => hvx e.symm))⟩ (fun hHeld => ?_)
    clear hK K
    try simp only [Act.put, List.setIfInBounds_toArray, List.set_cons_zero, List.set_cons_succ]
    refine tk (i := 20) (v := ?_) (tA rfl) (by kernel_rfl) (fun _ _ _ h => h) (Or.inl ⟨by rfl, ?_⟩) (by assumption) ?_
    rotate_left
    · (intro w hSw; (try dsimp only at hSw); go_simp <;> with_reducible rfl)
    simp only [Act.put, List.setIfInBounds_toArray, List.set_cons_zero, List.set_cons_succ]
    refine tk (i := 21) (v := ?_) (tA rfl) (by kernel_rfl) (fun _ _ _ h => h) (Or.inl ⟨by rfl, ?_⟩) (by assumption) ?_
    rotate_left
    · (intro w hSw; (try dsimp only at hSw); go_simp <;> with_reducible rfl)
    simp only [Act.put, List.setIfInBounds_toArray, List.set_cons_zero, List.set_cons_succ]
    refine wpAnyH_ready (rs := [22]) (by kernel_rfl) (by simp) ?_
    refine AllReadyH.cons (tA rfl) (fun K hK => ?_) AllReadyH.nil
    clear hHeld
    go_simp
    have ho7 : Y6.ownsRow B 52 2 (.slice (some ⟨x1, 0, none⟩) (m1 + 1) cp) (((M).th k).ws ++ [(a, v)]).length ((((M).th k).ws ++ [(a, v)]).flatMap wC) := by
      rw [List.length_append, List.flatMap_append, HM1.out]
      simpa using ho6
    have HATF : Hid (∀ z, (Value.slice (some ⟨x1, 0, none⟩) (m1 + 1) cp).ownBlock = some z → (Value.slice a1 m1 p1).ownBlock = some z ∨ y.heap.size ≤ z) := fun z hz => by
      have hz' : x1 = z := by simpa [Value.ownBlock] using hz
      rw [← hz']
      exact hat6.imp id (fun e => by omega)
    obtain ⟨q1, q2⟩ := HV1.out.wait HKY.out HU1.out HB1.out ho7 hg6 (.inr rfl) HATF.out
    obtain ⟨ZZ, hZZ⟩ : ∃ ZZ, Y6.setCell ⟨g, k * 12 + 11, none⟩ (.slice (some ⟨x1, 0, none⟩) (m1 + 1) cp) = ZZ := ⟨_, rfl⟩
    rw [hZZ] at q1 q2
    rw [hZZ]
    have HQ1 : Hid _ := q1
    have HQ2 : Hid (St t _ w ZZ) := HSX.out.trans q2
    refine hK.out _ _ ⟨(by have h9 := q1.c3; rw [HLZ.out] at h9; exact h9), (st_cell q2 HTX.out o1), (st_cell q2 HTX.out o2)⟩ (fun hHeld => ?_)
    clear hK K hZZ m6 z6 q1 q2 ho7 ho6 hg6 hat6 hlt6
    try simp only [Act.put, List.setIfInBounds_toArray, List.set_cons_zero, List.set_cons_succ]
    refine wpAnyH_done (by kernel_rfl) ?_ _
    clear hHeld
    go_wp2
    go_ret
    exact ⟨rfl, _, _, _, _, _, HQ1.out, HQ2.out⟩
set_option maxRecDepth 100000 in
set_option maxHeartbeats 8000000 in
theorem xask_2f {B : Nat} {w : World} {b : Nat} {M : T.Mach} {t : Nat → Nat} {D Sk : List Int} {vd vs : Value} {g cap : Nat} {ev : Value} {us : List Value} (h : XV B w b M t D Sk vd vs g cap ev us) {k : Nat} (hk : k < M.ts.length) (hok : WsOk (M.th k).ws) (h8 : (M.th k).ws.length ≤ 8) {a v r : Int} (ha : (Lit.int .i64 a).wf = true) (hm : (M.mem a).isSome = true) (hl : (M.th k).ws.length = 8) :
    Calls Tryd.prog 51 #[.pointer (some ⟨b, 0, none⟩), .int .i64 k, S.reqV 2 a v r] w fun e w' => e = .returned (.bool true) ∧ XGone B w w' b (T.push (T.leave M k) k a v) t vd vs g cap := by
  obtain ⟨X1, hX1⟩ : ∃ X1, w.alloc (.cells #[.int .i64 2, .int .i64 a, .int .i64 v, .int .i64 r] 110) = X1 := ⟨_, rfl⟩
  have hb1 : Below w.heap.size w X1 := by subst hX1; exact bl_one _ _
  have hs1 : w.heap.size < X1.heap.size := by subst hX1; simp
  have o0 : X1.cell? ⟨w.heap.size, 0, none⟩ = some (.int .i64 2) := by subst hX1; exact cell_last _ _ _ _ _ rfl rfl
  have o1 : X1.cell? ⟨w.heap.size, 1, none⟩ = some (.int .i64 a) := by subst hX1; exact cell_last _ _ _ _ _ rfl rfl
  have o2 : X1.cell? ⟨w.heap.size, 2, none⟩ = some (.int .i64 v) := by subst hX1; exact cell_last _ _ _ _ _ rfl rfl
  have o3 : X1.cell? ⟨w.heap.size, 3, none⟩ = some (.int .i64 r) := by subst hX1; exact cell_last _ _ _ _ _ rfl rfl
  have hv1 : XV B X1 b M t D Sk vd vs g cap ev us := h.below hb1
  have HTX : Hid (t w.heap.size = 0) := Classical.byContradiction fun e => by have := (h.lt _ e).2; omega
  have HB1 : Hid (Below w.heap.size w X1) := hb1
  have HV1 : Hid (XV B X1 b M t D Sk vd vs g cap ev us) := hv1
  have hro := hv1.room
  obtain ⟨n, hn⟩ : ∃ n, M.ts.length = n := ⟨_, rfl⟩
  have HTL : Hid (M.ts.length = n) := hn
  rw [hn] at hro
  obtain ⟨r1, r2, r3, r4⟩ := hro
  have hkn : k < n := by omega
  unfold maxLen at r2
  have i1 : (k : Int) < (n : Int) := by omega
  have i0 : (0 : Int) ≤ (k : Int) := by omega
  have HW : Hid _ := xword_any hv1 ha
  obtain ⟨z1, hz1⟩ : ∃ z1, (M.mem a).getD 0 = z1 := ⟨_, rfl⟩
  rw [hz1, show T.er (M.mem a) = 0 by cases e : M.mem a with
    | none => rw [e] at hm; cases hm
    | some x => rfl] at HW
  have HX1 : Hid _ := hX1
  have HSX : Hid (St t t w X1) := St.ofBelow t hb1
  obtain ⟨iw, hiw, hp0, hp1, hp2⟩ := info_partsL infoW
  obtain ⟨p, rr, hpr⟩ : ∃ p r, (M.th k).ws = p :: r := by
    cases e : (M.th k).ws with
    | nil => rw [e] at hl; simp at hl
    | cons p r => exact ⟨p, r, rfl⟩
  have hpw := hok.2 p (by rw [hpr]; exact List.mem_cons_self)
  have hrl : rr.length = 7 := by have := hl; rw [hpr] at this; simpa using this
  have hlv : T.leave M k = M.put k (T.upd M.mem p.1 p.2) ⟨(M.th k).c, rr⟩ := by unfold T.leave; rw [hpr]
  have HL : Hid (Calls Tryd.prog 34 #[.pointer (some ⟨b, 0, none⟩), .int .i64 k] X1 fun e w' => e = .returned (.bool true) ∧ XGone B X1 w' b (T.leave M k) t vd vs g cap) := by
    rw [hlv]
    exact xleave_yes hv1 hk (y := p.1) (v := p.2) hpr hpw.1 (by omega)
  have HKY : Hid (k < (T.leave M k).ts.length) := by show _ < _; rw [hlv, T.len_put]; exact hk
  have HLN : Hid (((T.leave M k).th k).ws.length ≤ 7) := by show _ ≤ 7; rw [hlv, T.th_put hk]; exact Nat.le_of_eq hrl
  have HLL : Hid ((T.leave M k).ts.length = n) := by show _ = n; rw [hlv, T.len_put]; exact hn
  have HLZ : Hid (((T.leave M k).put k (T.leave M k).mem ⟨((T.leave M k).th k).c, ((T.leave M k).th k).ws ++ [(a, v)]⟩).ts.length = n) := (T.len_put _ k _ _).trans HLL.out
  obtain ⟨u0, hu0⟩ := hv1.u hk
  have d0 := hv1.cell hk hu0 11 _ rfl
  obtain ⟨a0, p0, rfl, -, -⟩ := own_sl (hv1.ws k _ u0 (T.th_at hk) hu0)
  rw [hl] at d0
  have c30 := hv1.c3
  rw [hn] at c30
  clear h hv1 hm hok h8 hn hk hb1 hz1 hl hpr hpw hrl hlv hu0
  go_enter Tryd.func51, Tryd.ntmps51
  go_wp2_with fail
  refine Calls.mono HW.out ?_
  rintro e y0 ⟨rfl, rfl⟩
  go_wp2_with fail
  refine HL.out.mono ?_
  rintro e y ⟨rfl, t2, D2, S2, ev2, us2, hv2, hs2⟩
  have HV2 : Hid (XV B y b (T.leave M k) t2 D2 S2 vd vs g cap ev2 us2) := hv2
  have HS2 : Hid (St t t2 w y) := HSX.out.trans hs2
  have HTY : Hid (t2 w.heap.size = 0) := (hs2.tag _ hs1).trans HTX.out
  have o1 := st_cell hs2 (p := ⟨w.heap.size, 1, none⟩) HTX.out o1
  have o2 := st_cell hs2 (p := ⟨w.heap.size, 2, none⟩) HTX.out o2
  have c3y := hv2.c3
  rw [HLL.out] at c3y
  clear hv2 hs2 d0 c30 o0 o3
  obtain ⟨uY, huY⟩ := HV2.out.u HKY.out
  have d1 := HV2.out.cell HKY.out huY 11 _ rfl
  have hr1 := HV2.out.ws k _ uY (T.th_at HKY.out) huY
  obtain ⟨a1, p1, rfl, hnp, hpm⟩ := own_sl hr1
  obtain ⟨m1, hm1⟩ : ∃ m1, ((T.leave M k).th k).ws.length = m1 := ⟨_, rfl⟩
  have hg1 := HV2.out.gz (k * 12 + 11)
  rw [hm1] at d1 hnp hr1
  have hm8 : m1 ≤ 7 := by have := HLN.out; omega
  have hty : g < y.heap.size := HV2.out.gl
  have hBy := HV2.out.hB
  have hvb : (Value.slice a1 m1 p1).ownBlock ≠ some b := fun e => by have e1 := HV2.out.tw k _ b huY (by rw [hm1]; exact e); have e2 := HV2.out.tb; omega
  have hvg : (Value.slice a1 m1 p1).ownBlock ≠ some g := fun e => by have e1 := HV2.out.tw k _ g huY (by rw [hm1]; exact e); have e2 := HV2.out.tg; omega
  have hvx : (Value.slice a1 m1 p1).ownBlock ≠ some w.heap.size := fun e => by have e1 := HV2.out.tw k _ w.heap.size huY (by rw [hm1]; exact e); have e2 := HTY.out; omega
  have HM1 : Hid (((T.leave M k).th k).ws.length = m1) := hm1
  have HU1 : Hid (us2[k]? = some (Value.slice a1 m1 p1)) := by rw [hm1] at huY; exact huY
  unfold maxLen at hpm
  clear hm1 huY
  go_wp2_with fail
  have HB1 : Hid (Below y.heap.size y (y.alloc (.cells #[.int .i64 a, .int .i64 v] 52)).drew) := (bl_one _ _).drew
  have HW1 : Hid ((y.alloc (.cells #[.int .i64 a, .int .i64 v] 52)).drew.ownsRow B 52 2 (.slice a1 m1 p1) m1 (((T.leave M k).th k).ws.flatMap wC)) := hr1.kept (gb_of_below HB1.out (some y.heap.size)) (.inr fun e => by have := own_lt hr1 e; omega)
  have HNC : Hid (∀ j u, (wC (a, v))[j]? = some u → (y.alloc (.cells #[.int .i64 a, .int .i64 v] 52)).drew.cell? ((⟨y.heap.size, 0, none⟩ : Addr).add j) = some u) := fun j u hu => by
    rw [Addr.add_lit, Nat.zero_add]
    exact cell_last _ _ _ _ _ rfl (by simpa [wC] using hu)
  have HSK : Hid (∀ z : World, Below y.heap.size y z → (fun w' : World => w'.cell? ⟨b, 3, none⟩ = some (.slice (some ⟨g, 0, none⟩) n cap) ∧ w'.cell? ⟨w.heap.size, 1, none⟩ = some (.int .i64 a) ∧ w'.cell? ⟨w.heap.size, 2, none⟩ = some (.int .i64 v)) z) := fun z hz => ⟨cell_up hz c3y, cell_up hz o1, cell_up hz o2⟩
  have FT : (y.alloc (.cells #[.int .i64 a, .int .i64 v] 52)).drew.cell? ⟨g, k * 12 + 11, none⟩ = some (.slice a1 m1 p1) := cell_up HB1.out d1
  have GT : (y.alloc (.cells #[.int .i64 a, .int .i64 v] 52)).drew.frozen? ⟨g, k * 12 + 11, none⟩ = false := (HB1.out.frozen (p := ⟨g, k * 12 + 11, none⟩) hty).trans hg1
  have HD1 : Hid _ := d1
  have HR1 : Hid _ := hr1
  clear hr1
  refine wp_region_held_drew (S := (fun w' : World => w'.cell? ⟨b, 3, none⟩ = some (.slice (some ⟨g, 0, none⟩) n cap) ∧ w'.cell? ⟨w.heap.size, 1, none⟩ = some (.int .i64 a) ∧ w'.cell? ⟨w.heap.size, 2, none⟩ = some (.int .i64 v))) (by kernel_rfl) (HSK.out _ (Below.refl _ _).drew) (fun hHeld => ?_)
  refine tk (i := 0) (v := ?_) (tA rfl) (by kernel_rfl) (fun _ _ _ h => h) (Or.inl ⟨by rfl, ?_⟩) (by assumption) ?_
  rotate_left
  · (intro w hSw; (try dsimp only at hSw); go_simp <;> with_reducible rfl)
  simp only [Act.put, List.setIfInBounds_toArray, List.set_cons_zero, List.set_cons_succ]
  refine tk (i := 1) (v := ?_) (tA rfl) (by kernel_rfl) (fun _ _ _ h => h) (Or.inl ⟨by rfl, ?_⟩) (by assumption) ?_
  rotate_left
  · (intro w hSw; (try dsimp only at hSw); go_simp <;> with_reducible rfl)
  simp only [Act.put, List.setIfInBounds_toArray, List.set_cons_zero, List.set_cons_succ]
  refine tk (i := 2) (v := ?_) (tA rfl) (by kernel_rfl) (fun _ _ _ h => h) (Or.inl ⟨by rfl, ?_⟩) (by assumption) ?_
  rotate_left
  · (intro w hSw; (try dsimp only at hSw); go_simp <;> with_reducible rfl)
  simp only [Act.put, List.setIfInBounds_toArray, List.set_cons_zero, List.set_cons_succ]
  refine tk (i := 3) (v := ?_) (tA rfl) (by kernel_rfl) (fun _ _ _ h => h) (Or.inl ⟨by rfl, ?_⟩) (by assumption) ?_
  rotate_left
  · (intro w hSw; (try dsimp only at hSw); go_simp <;> with_reducible rfl)
  simp only [Act.put, List.setIfInBounds_toArray, List.set_cons_zero, List.set_cons_succ]
  refine tk (i := 4) (v := ?_) (tA rfl) (by kernel_rfl) (fun _ _ _ h => h) (Or.inl ⟨by rfl, ?_⟩) (by assumption) ?_
  rotate_left
  · (intro w hSw; (try dsimp only at hSw); go_simp <;> with_reducible rfl)
  simp only [Act.put, List.setIfInBounds_toArray, List.set_cons_zero, List.set_cons_succ]
  refine tk (i := 5) (v := ?_) (tA rfl) (by kernel_rfl) (fun _ _ _ h => h) (Or.inl ⟨by rfl, ?_⟩) (by assumption) ?_
  rotate_left
  · (intro w hSw; (try dsimp only at hSw); go_simp <;> with_reducible rfl)
  simp only [Act.put, List.setIfInBounds_toArray, List.set_cons_zero, List.set_cons_succ]
  refine tk (i := 6) (v := ?_) (tA rfl) (by kernel_rfl) (fun _ _ _ h => h) (Or.inl ⟨by rfl, ?_⟩) (by assumption) ?_
  rotate_left
  · (intro w hSw; (try dsimp only at hSw); go_simp <;> with_reducible rfl)
  simp only [Act.put, List.setIfInBounds_toArray, List.set_cons_zero, List.set_cons_succ]
  refine tk (i := 7) (v := ?_) (tA rfl) (by kernel_rfl) (fun _ _ _ h => h) (Or.inl ⟨by rfl, ?_⟩) (by assumption) ?_
  rotate_left
  · (intro w hSw; (try dsimp only at hSw); go_simp <;> with_reducible rfl)
  simp only [Act.put, List.setIfInBounds_toArray, List.set_cons_zero, List.set_cons_succ]
  refine tk (i := 8) (v := ?_) (tA rfl) (by kernel_rfl) (fun _ _ _ h => h) (Or.inl ⟨by rfl, ?_⟩) (by assumption) ?_
  rotate_left
  · (intro w hSw; (try dsimp only at hSw); go_simp <;> with_reducible rfl)
  simp only [Act.put, List.setIfInBounds_toArray, List.set_cons_zero, List.set_cons_succ]
  refine tk (i := 9) (v := ?_) (tA rfl) (by kernel_rfl) (fun _ _ _ h => h) (Or.inl ⟨by rfl, ?_⟩) (by assumption) ?_
  rotate_left
  · (intro w hSw; (try dsimp only at hSw); go_simp <;> with_reducible rfl)
  simp only [Act.put, List.setIfInBounds_toArray, List.set_cons_zero, List.set_cons_succ]
  refine tk (i := 10) (v := ?_) (tA rfl) (by kernel_rfl) (fun _ _ _ h => h) (Or.inl ⟨by rfl, ?_⟩) (by assumption) ?_
  rotate_left
  · (intro w hSw; (try dsimp only at hSw); go_simp <;> with_reducible rfl)
  simp only [Act.put, List.setIfInBounds_toArray, List.set_cons_zero, List.set_cons_succ]
  refine tk (i := 11) (v := ?_) (tA rfl) (by kernel_rfl) (fun _ _ _ h => h) (Or.inl ⟨by rfl, ?_⟩) (by assumption) ?_
  rotate_left
  · (intro w hSw; (try dsimp only at hSw); go_simp <;> with_reducible rfl)
  simp only [Act.put, List.setIfInBounds_toArray, List.set_cons_zero, List.set_cons_succ]
  refine tk (i := 13) (v := ?_) (tA rfl) (by kernel_rfl) (fun _ _ _ h => h) (Or.inl ⟨by rfl, ?_⟩) (by assumption) ?_
  rotate_left
  · (intro w hSw; (try dsimp only at hSw); go_simp <;> with_reducible rfl)
  simp only [Act.put, List.setIfInBounds_toArray, List.set_cons_zero, List.set_cons_succ]
  refine tk (i := 14) (v := ?_) (tA rfl) (by kernel_rfl) (fun _ _ _ h => h) (Or.inl ⟨by rfl, ?_⟩) (by assumption) ?_
  rotate_left
  · (intro w hSw; (try dsimp only at hSw); go_simp <;> with_reducible rfl)
  simp only [Act.put, List.setIfInBounds_toArray, List.set_cons_zero, List.set_cons_succ]
  refine tk (i := 15) (v := ?_) (tA rfl) (by kernel_rfl) (fun _ _ _ h => h) (Or.inl ⟨by rfl, ?_⟩) (by assumption) ?_
  rotate_left
  · (intro w hSw; (try dsimp only at hSw); go_simp <;> with_reducible rfl)
  simp only [Act.put, List.setIfInBounds_toArray, List.set_cons_zero, List.set_cons_succ]
  refine tk (i := 16) (v := ?_) (tA rfl) (by kernel_rfl) (fun _ _ _ h => h) (Or.inl ⟨by rfl, ?_⟩) (by assumption) ?_
  rotate_left
  · (intro w hSw; (try dsimp only at hSw); go_simp <;> with_reducible rfl)
  simp only [Act.put, List.setIfInBounds_toArray, List.set_cons_zero, List.set_cons_succ]
  refine tk (i := 17) (v := ?_) (tA rfl) (by kernel_rfl) (fun _ _ _ h => h) (Or.inl ⟨by rfl, ?_⟩) (by assumption) ?_
  rotate_left
  · (intro w hSw; (try dsimp only at hSw); go_simp <;> with_reducible rfl)
  simp only [Act.put, List.setIfInBounds_toArray, List.set_cons_zero, List.set_cons_succ]
  refine wpAnyH_ready (rs := [12, 18]) (by kernel_rfl) (by simp) ?_
  refine AllReadyH.cons (tA rfl) (fun K hK => ?_) (AllReadyH.cons (tA rfl) (fun K hK => ?_) AllReadyH.nil)
  · go_simp
    refine hK.out _ _ (by first | exact HSK.out _ (Below.refl _ _).drew | exact HSK.out _ HB1.out) (fun hHeld => ?_)
    clear hK K
    try simp only [Act.put, List.setIfInBounds_toArray, List.set_cons_zero, List.set_cons_succ]
    refine wpAnyH_ready (rs := [18]) (by kernel_rfl) (by simp) ?_
    refine AllReadyH.cons (tA rfl) (fun K hK => ?_) AllReadyH.nil
    go_simp
    refine hK.out _ _ (by first | exact HSK.out _ (Below.refl _ _).drew | exact HSK.out _ HB1.out) (fun hHeld => ?_)
    clear hK K
    try simp only [Act.put, List.setIfInBounds_toArray, List.set_cons_zero, List.set_cons_succ]
    refine wpAnyH_ready (rs := [19]) (by kernel_rfl) (by simp) ?_
    refine AllReadyH.cons (tA rfl) (fun K hK => ?_) AllReadyH.nil
    refine step_append_lies _ (by rfl) _ _ 45 (by rfl) B 52 iw _ 2 16 Tryd.underlying45 hiw hp0 hp1 hp2 (by rfl) (by decide) (.slice a1 m1 p1) m1 _ (by rfl) HW1.out ⟨y.heap.size, 0, none⟩ 1 1 (wC (a, v)) (by rfl) (by rfl) HNC.out (by intro u hu; simp [wC] at hu; rcases hu with rfl | rfl <;> rfl) (by decide) (by unfold maxLen; omega) (by omega) (by simp; omega) (y.heap.size + 1) (by simp) ?_
    intro x1 cp Y6 ho6 hg6 hat6 hlt6
    have m6 : Y6.cell? ⟨g, k * 12 + 11, none⟩ = some (.slice a1 m1 p1) := hg6.cell FT (fun e => hvg e.symm)
    have z6 : Y6.frozen? ⟨g, k * 12 + 11, none⟩ = false := (hg6.frozen_far ⟨g, k * 12 + 11, none⟩ (Nat.lt_of_lt_of_le hty HB1.out.size) (fun e => hvg e.symm)).trans GT
    refine hK.out _ _ ⟨(hg6.cell (cell_up HB1.out c3y) (fun e => hvb e.symm)), (hg6.cell (cell_up HB1.out o1) (fun e => hvx e.symm)), (hg6.cell (cell_up HB1.out o2) (fun e => hvx e.symm))⟩ (fun hHeld => ?_)
    clear hK K
    try simp only [Act.put, List.setIfInBounds_toArray, List.set_cons_zero, List.set_cons_succ]
    refine tk (i := 20) (v := ?_) (tA rfl) (by kernel_rfl) (fun _ _ _ h => h) (Or.inl ⟨by rfl, ?_⟩) (by assumption) ?_
    rotate_left
    · (intro w hSw; (try dsimp only at hSw); go_simp <;> with_reducible rfl)
    simp only [Act.put, List.setIfInBounds_toArray, List.set_cons_zero, List.set_cons_succ]
    refine tk (i := 21) (v := ?_) (tA rfl) (by kernel_rfl) (fun _ _ _ h => h) (Or.inl ⟨by rfl, ?_⟩) (by assumption) ?_
    rotate_left
    · (intro w hSw; (try dsimp only at hSw); go_simp <;> with_reducible rfl)
    simp only [Act.put, List.setIfInBounds_toArray, List.set_cons_zero, List.set_cons_succ]
    refine wpAnyH_ready (rs := [22]) (by kernel_rfl) (by simp) ?_
    refine AllReadyH.cons (tA rfl) (fun K hK => ?_) AllReadyH.nil
    clear hHeld
    go_simp
    have ho7 : Y6.ownsRow B 52 2 (.slice (some ⟨x1, 0, none⟩) (m1 + 1) cp) (((T.leave M k).th k).ws ++ [(a, v)]).length ((((T.leave M k).th k).ws ++ [(a, v)]).flatMap wC) := by
      rw [List.length_append, List.flatMap_append, HM1.out]
      simpa using ho6
    have HATF : Hid (∀ z, (Value.slice (some ⟨x1, 0, none⟩) (m1 + 1) cp).ownBlock = some z → (Value.slice a1 m1 p1).ownBlock = some z ∨ y.heap.size ≤ z) := fun z hz => by
      have hz' : x1 = z := by simpa [Value.ownBlock] using hz
      rw [← hz']
      exact hat6.imp id (fun e => by omega)
    obtain ⟨q1, q2⟩ := HV2.out.wait HKY.out HU1.out HB1.out ho7 hg6 (.inr rfl) HATF.out
    obtain ⟨ZZ, hZZ⟩ : ∃ ZZ, Y6.setCell ⟨g, k * 12 + 11, none⟩ (.slice (some ⟨x1, 0, none⟩) (m1 + 1) cp) = ZZ := ⟨_, rfl⟩
    rw [hZZ] at q1 q2
    rw [hZZ]
    have HQ1 : Hid _ := q1
    have HQ2 : Hid (St t _ w ZZ) := HS2.out.trans q2
    refine hK.out _ _ ⟨(by have h9 := q1.c3; rw [HLZ.out] at h9; exact h9), (st_cell q2 HTY.out o1), (st_cell q2 HTY.out o2)⟩ (fun hHeld => ?_)
    clear hK K hZZ m6 z6 q1 q2 ho7 ho6 hg6 hat6 hlt6
    try simp only [Act.put, List.setIfInBounds_toArray, List.set_cons_zero, List.set_cons_succ]
    refine wpAnyH_done (by kernel_rfl) ?_ _
    clear hHeld
    go_wp2
    go_ret
    exact ⟨rfl, _, _, _, _, _, HQ1.out, HQ2.out⟩
  · go_simp
    refine hK.out _ _ (by first | exact HSK.out _ (Below.refl _ _).drew | exact HSK.out _ HB1.out) (fun hHeld => ?_)
    clear hK K
    try simp only [Act.put, List.setIfInBounds_toArray, List.set_cons_zero, List.set_cons_succ]
    refine wpAnyH_ready (rs := [12]) (by kernel_rfl) (by simp) ?_
    refine AllReadyH.cons (tA rfl) (fun K hK => ?_) AllReadyH.nil
    go_simp
    refine hK.out _ _ (by first | exact HSK.out _ (Below.refl _ _).drew | exact HSK.out _ HB1.out) (fun hHeld => ?_)
    clear hK K
    try simp only [Act.put, List.setIfInBounds_toArray, List.set_cons_zero, List.set_cons_succ]
    refine wpAnyH_ready (rs := [19]) (by kernel_rfl) (by simp) ?_
    refine AllReadyH.cons (tA rfl) (fun K hK => ?_) AllReadyH.nil
    refine step_append_lies _ (by rfl) _ _ 45 (by rfl) B 52 iw _ 2 16 Tryd.underlying45 hiw hp0 hp1 hp2 (by rfl) (by decide) (.slice a1 m1 p1) m1 _ (by rfl) HW1.out ⟨y.heap.size, 0, none⟩ 1 1 (wC (a, v)) (by rfl) (by rfl) HNC.out (by intro u hu; simp [wC] at hu; rcases hu with rfl | rfl <;> rfl) (by decide) (by unfold maxLen; omega) (by omega) (by simp; omega) (y.heap.size + 1) (by simp) ?_
    intro x1 cp Y6 ho6 hg6 hat6 hlt6
    have m6 : Y6.cell? ⟨g, k * 12 + 11, none⟩ = some (.slice a1 m1 p1) := hg6.cell FT (fun e => hvg e.symm)
    have z6 : Y6.frozen? ⟨g, k * 12 + 11, none⟩ = false := (hg6.frozen_far ⟨g, k * 12 + 11, none⟩ (Nat.lt_of_lt_of_le hty HB1.out.size) (fun e => hvg e.symm)).trans GT
    refine hK.out _ _ ⟨(hg6.cell (cell_up HB1.out c3y) (fun e => hvb e.symm)), (hg6.cell (cell_up HB1.out o1) (fun e => hvx e.symm)), (hg6.cell (cell_up HB1.out o2) (fun e => hvx e.symm))⟩ (fun hHeld => ?_)
    clear hK K
    try simp only [Act.put, List.setIfInBounds_toArray, List.set_cons_zero, List.set_cons_succ]
    refine tk (i := 20) (v := ?_) (tA rfl) (by kernel_rfl) (fun _ _ _ h => h) (Or.inl ⟨by rfl, ?_⟩) (by assumption) ?_
    rotate_left
    · (intro w hSw; (try dsimp only at hSw); go_simp <;> with_reducible rfl)
    simp only [Act.put, List.setIfInBounds_toArray, List.set_cons_zero, List.set_cons_succ]
    refine tk (i := 21) (v := ?_) (tA rfl) (by kernel_rfl) (fun _ _ _ h => h) (Or.inl ⟨by rfl, ?_⟩) (by assumption) ?_
    rotate_left
    · (intro w hSw; (try dsimp only at hSw); go_simp <;> with_reducible rfl)
    simp only [Act.put, List.setIfInBounds_toArray, List.set_cons_zero, List.set_cons_succ]
    refine wpAnyH_ready (rs := [22]) (by kernel_rfl) (by simp) ?_
    refine AllReadyH.cons (tA rfl) (fun K hK => ?_) AllReadyH.nil
    clear hHeld
    go_simp
    have ho7 : Y6.ownsRow B 52 2 (.slice (some ⟨x1, 0, none⟩) (m1 + 1) cp) (((T.leave M k).th k).ws ++ [(a, v)]).length ((((T.leave M k).th k).ws ++ [(a, v)]).flatMap wC) := by
      rw [List.length_append, List.flatMap_append, HM1.out]
      simpa using ho6
    have HATF : Hid (∀ z, (Value.slice (some ⟨x1, 0, none⟩) (m1 + 1) cp).ownBlock = some z → (Value.slice a1 m1 p1).ownBlock = some z ∨ y.heap.size ≤ z) := fun z hz => by
      have hz' : x1 = z := by simpa [Value.ownBlock] using hz
      rw [← hz']
      exact hat6.imp id (fun e => by omega)
    obtain ⟨q1, q2⟩ := HV2.out.wait HKY.out HU1.out HB1.out ho7 hg6 (.inr rfl) HATF.out
    obtain ⟨ZZ, hZZ⟩ : ∃ ZZ, Y6.setCell ⟨g, k * 12 + 11, none⟩ (.slice (some ⟨x1, 0, none⟩) (m1 + 1) cp) = ZZ := ⟨_, rfl⟩
    rw [hZZ] at q1 q2
    rw [hZZ]
    have HQ1 : Hid _ := q1
    have HQ2 : Hid (St t _ w ZZ) := HS2.out.trans q2
    refine hK.out _ _ ⟨(by have h9 := q1.c3; rw [HLZ.out] at h9; exact h9), (st_cell q2 HTY.out o1), (st_cell q2 HTY.out o2)⟩ (fun hHeld => ?_)
    clear hK K hZZ m6 z6 q1 q2 ho7 ho6 hg6 hat6 hlt6
    try simp only [Act.put, List.setIfInBounds_toArray, List.set_cons_zero, List.set_cons_succ]
    refine wpAnyH_done (by kernel_rfl) ?_ _
    clear hHeld
    go_wp2
    go_ret
    exact ⟨rfl, _, _, _, _, _, HQ1.out, HQ2.out⟩

end Go.Proofs.YtneclfaamgfoeaaDoor

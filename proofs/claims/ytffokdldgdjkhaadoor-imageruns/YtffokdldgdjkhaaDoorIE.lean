/- The document's machine: a step that does not go. (Written by gen_xstep.py.) -/
import Derived.Test.YtffokdldgdjkhaaDoorID
import Derived.Test.YtffokdldgdjkhaaDoorIB
namespace Go.Proofs.YtffokdldgdjkhaaDoor.X
open Go.RowKit Go.Maps
set_option linter.unusedVariables false
set_option linter.unusedSimpArgs false

def cV (c : S.C) : List Value := [.int .i64 c.r0, .int .i64 c.r1, .int .i64 c.r2, .int .i64 c.r3, .int .i64 c.r4, .int .i64 c.r5, .int .i64 c.r6, .int .i64 c.r7, .int .i64 c.pc, .int .i64 c.st, .int .i64 c.tr]
theorem cV_len (c : S.C) : (cV c).length = 11 := rfl
/-- A box of registers is made one of a trap. -/
theorem trap_cells {Y : World} {bc : Nat} {cc : S.C} (n : Int) (h : ∀ j u, (cV cc)[j]? = some u → Y.cell? ⟨bc, j, none⟩ = some u) : ∀ j u, (cV (T.trapC cc n))[j]? = some u → ((Y.setCell ⟨bc, 9, none⟩ (.int .i64 2)).setCell ⟨bc, 10, none⟩ (.int .i64 n)).cell? ⟨bc, j, none⟩ = some u := by
  intro j u hu
  by_cases e10 : j = 10
  · subst e10
    have : u = .int .i64 n := by simpa [cV, T.trapC] using hu.symm
    subst this
    exact World.cell?_setCell_same' _ _ _ (by rw [World.cell?_setCell_other _ _ _ _ (off_ne (by omega)), h 10 _ rfl]; rfl)
  rw [World.cell?_setCell_other _ _ _ _ (off_ne (by omega))]
  by_cases e9 : j = 9
  · subst e9
    have : u = .int .i64 2 := by simpa [cV, T.trapC] using hu.symm
    subst this
    exact World.cell?_setCell_same' _ _ _ (by rw [h 9 _ rfl]; rfl)
  rw [World.cell?_setCell_other _ _ _ _ (off_ne (by omega))]
  refine h j u ?_
  rw [← hu]
  have hj : j < 11 := (List.getElem?_eq_some_iff.1 hu).1
  match j, hj, e9, e10 with
  | 0, _, _, _ => rfl
  | 1, _, _, _ => rfl
  | 2, _, _, _ => rfl
  | 3, _, _, _ => rfl
  | 4, _, _, _ => rfl
  | 5, _, _, _ => rfl
  | 6, _, _, _ => rfl
  | 7, _, _, _ => rfl
  | 8, _, _, _ => rfl
  | 9, _, e, _ => exact absurd rfl e
  | 10, _, _, e => exact absurd rfl e

set_option maxRecDepth 100000 in
set_option maxHeartbeats 8000000 in
theorem xstep_no {B : Nat} {w : World} {b : Nat} {M : T.Mach} {t : Nat → Nat} {D Sk : List Int} {vd vs : Value} {g cap : Nat} {ev : Value} {us : List Value} (h : XV B w b M t D Sk vd vs g cap ev us) {k : Nat} (hk : k < M.ts.length) (hs : ¬ (M.th k).c.st = 0) :
    Calls Tryd.prog 20 #[.pointer (some ⟨b, 0, none⟩), .int .i64 k] w fun e w' => e = .returned (.bool false) ∧ XGone B w w' b (M) t vd vs g cap := by
  have hro := h.room
  obtain ⟨n, hn⟩ : ∃ n, M.ts.length = n := ⟨_, rfl⟩
  have HTL : Hid (M.ts.length = n) := hn
  rw [hn] at hro
  obtain ⟨r1, r2, r3, r4⟩ := hro
  have hkn : k < n := by omega
  unfold maxLen at r2
  have i1 : (k : Int) < (n : Int) := by omega
  have i0 : (0 : Int) ≤ (k : Int) := by omega
  obtain ⟨uw, huw⟩ := h.u hk
  have d0 : w.cell? ⟨g, k * 12, none⟩ = some (.int .i64 (M.th k).c.r0) := h.cell hk huw 0 _ rfl
  have d1 : w.cell? ⟨g, k * 12 + 1, none⟩ = some (.int .i64 (M.th k).c.r1) := h.cell hk huw 1 _ rfl
  have d2 : w.cell? ⟨g, k * 12 + 2, none⟩ = some (.int .i64 (M.th k).c.r2) := h.cell hk huw 2 _ rfl
  have d3 : w.cell? ⟨g, k * 12 + 3, none⟩ = some (.int .i64 (M.th k).c.r3) := h.cell hk huw 3 _ rfl
  have d4 : w.cell? ⟨g, k * 12 + 4, none⟩ = some (.int .i64 (M.th k).c.r4) := h.cell hk huw 4 _ rfl
  have d5 : w.cell? ⟨g, k * 12 + 5, none⟩ = some (.int .i64 (M.th k).c.r5) := h.cell hk huw 5 _ rfl
  have d6 : w.cell? ⟨g, k * 12 + 6, none⟩ = some (.int .i64 (M.th k).c.r6) := h.cell hk huw 6 _ rfl
  have d7 : w.cell? ⟨g, k * 12 + 7, none⟩ = some (.int .i64 (M.th k).c.r7) := h.cell hk huw 7 _ rfl
  have d8 : w.cell? ⟨g, k * 12 + 8, none⟩ = some (.int .i64 (M.th k).c.pc) := h.cell hk huw 8 _ rfl
  have d9 : w.cell? ⟨g, k * 12 + 9, none⟩ = some (.int .i64 (M.th k).c.st) := h.cell hk huw 9 _ rfl
  have d10 : w.cell? ⟨g, k * 12 + 10, none⟩ = some (.int .i64 (M.th k).c.tr) := h.cell hk huw 10 _ rfl
  have c3w := h.c3
  rw [hn] at c3w
  obtain ⟨cc, hcc⟩ : ∃ cc, (M.th k).c = cc := ⟨_, rfl⟩
  have HCC : Hid ((M.th k).c = cc) := hcc
  rw [hcc] at d0 d1 d2 d3 d4 d5 d6 d7 d8 d9 d10
  have HV0 : Hid (XV B w b M t D Sk vd vs g cap ev us) := h
  have HK0 : Hid (k < M.ts.length) := hk
  rw [hcc] at hs
  clear h hk hn huw hcc
  go_enter Tryd.func20, Tryd.ntmps20
  go_wp2
  go_ret
  exact ⟨rfl, _, _, _, _, _, HV0.out.below (bl_one _ _), St.ofBelow t (bl_one _ _)⟩

set_option maxRecDepth 100000 in
set_option maxHeartbeats 8000000 in
theorem xstep_out {B : Nat} {w : World} {b : Nat} {M : T.Mach} {t : Nat → Nat} {D Sk : List Int} {vd vs : Value} {g cap : Nat} {ev : Value} {us : List Value} (h : XV B w b M t D Sk vd vs g cap ev us) {k : Nat} (hk : k < M.ts.length) (hs : (M.th k).c.st = 0) (hes : M.es.length ≤ 1000000) (hd : T.plc M k < 0 ∨ (M.code.size : Int) < T.plc M k) :
    Calls Tryd.prog 20 #[.pointer (some ⟨b, 0, none⟩), .int .i64 k] w fun e w' => e = .returned (.bool true) ∧ XGone B w w' b ((T.setC M k (T.trapC (M.th k).c 3)).see k 3 3) t vd vs g cap := by
  have hro := h.room
  obtain ⟨n, hn⟩ : ∃ n, M.ts.length = n := ⟨_, rfl⟩
  have HTL : Hid (M.ts.length = n) := hn
  rw [hn] at hro
  obtain ⟨r1, r2, r3, r4⟩ := hro
  have hkn : k < n := by omega
  unfold maxLen at r2
  have i1 : (k : Int) < (n : Int) := by omega
  have i0 : (0 : Int) ≤ (k : Int) := by omega
  obtain ⟨uw, huw⟩ := h.u hk
  have d0 : w.cell? ⟨g, k * 12, none⟩ = some (.int .i64 (M.th k).c.r0) := h.cell hk huw 0 _ rfl
  have d1 : w.cell? ⟨g, k * 12 + 1, none⟩ = some (.int .i64 (M.th k).c.r1) := h.cell hk huw 1 _ rfl
  have d2 : w.cell? ⟨g, k * 12 + 2, none⟩ = some (.int .i64 (M.th k).c.r2) := h.cell hk huw 2 _ rfl
  have d3 : w.cell? ⟨g, k * 12 + 3, none⟩ = some (.int .i64 (M.th k).c.r3) := h.cell hk huw 3 _ rfl
  have d4 : w.cell? ⟨g, k * 12 + 4, none⟩ = some (.int .i64 (M.th k).c.r4) := h.cell hk huw 4 _ rfl
  have d5 : w.cell? ⟨g, k * 12 + 5, none⟩ = some (.int .i64 (M.th k).c.r5) := h.cell hk huw 5 _ rfl
  have d6 : w.cell? ⟨g, k * 12 + 6, none⟩ = some (.int .i64 (M.th k).c.r6) := h.cell hk huw 6 _ rfl
  have d7 : w.cell? ⟨g, k * 12 + 7, none⟩ = some (.int .i64 (M.th k).c.r7) := h.cell hk huw 7 _ rfl
  have d8 : w.cell? ⟨g, k * 12 + 8, none⟩ = some (.int .i64 (M.th k).c.pc) := h.cell hk huw 8 _ rfl
  have d9 : w.cell? ⟨g, k * 12 + 9, none⟩ = some (.int .i64 (M.th k).c.st) := h.cell hk huw 9 _ rfl
  have d10 : w.cell? ⟨g, k * 12 + 10, none⟩ = some (.int .i64 (M.th k).c.tr) := h.cell hk huw 10 _ rfl
  have c3w := h.c3
  rw [hn] at c3w
  obtain ⟨cc, hcc⟩ : ∃ cc, (M.th k).c = cc := ⟨_, rfl⟩
  have HCC : Hid ((M.th k).c = cc) := hcc
  rw [hcc] at d0 d1 d2 d3 d4 d5 d6 d7 d8 d9 d10
  have HV0 : Hid (XV B w b M t D Sk vd vs g cap ev us) := h
  have HK0 : Hid (k < M.ts.length) := hk
  rw [hcc] at hs
  rw [hs] at d9
  have HS0 : Hid (cc.st = 0) := hs
  clear hs
  have c0w := h.c0
  obtain ⟨pl, hpl⟩ : ∃ pl, wrap64 (cc.pc - 4096) = pl := ⟨_, rfl⟩
  have hplc : T.plc M k = pl := by unfold T.plc; rw [hcc]; exact hpl
  have hw : IntKind.i64.wrap (cc.pc - 4096) = pl := by have h1 := hpl; unfold wrap64 at h1; rw [IntKind.wrap_i64]; exact h1
  obtain ⟨Y1, hY1⟩ : ∃ Y1, w.alloc (.cells #[.int .i64 cc.r0, .int .i64 cc.r1, .int .i64 cc.r2, .int .i64 cc.r3, .int .i64 cc.r4, .int .i64 cc.r5, .int .i64 cc.r6, .int .i64 cc.r7, .int .i64 cc.pc, .int .i64 0, .int .i64 cc.tr] 43) = Y1 := ⟨_, rfl⟩
  have bY1 : Below w.heap.size w Y1 := by subst hY1; exact bl_one _ _
  have sY1 : w.heap.size < Y1.heap.size := by subst hY1; simp
  have HZ1 : Hid (∀ o, Y1.frozen? ⟨w.heap.size, o, none⟩ = false) := fun o => by subst hY1; exact World.frozen?_alloc_at _ _ _ _ rfl
  have HP1 : Hid (∀ j u, (cV cc)[j]? = some u → Y1.cell? ⟨w.heap.size, j, none⟩ = some u) := fun j u hu => by
    subst hY1
    refine cell_last _ _ _ _ _ rfl ?_
    rw [← HS0.out]
    simpa [cV] using hu
  have p0 : Y1.cell? ⟨w.heap.size, 0, none⟩ = some (.int .i64 cc.r0) := by subst hY1; exact cell_last _ _ _ _ _ rfl rfl
  have p1 : Y1.cell? ⟨w.heap.size, 1, none⟩ = some (.int .i64 cc.r1) := by subst hY1; exact cell_last _ _ _ _ _ rfl rfl
  have p2 : Y1.cell? ⟨w.heap.size, 2, none⟩ = some (.int .i64 cc.r2) := by subst hY1; exact cell_last _ _ _ _ _ rfl rfl
  have p3 : Y1.cell? ⟨w.heap.size, 3, none⟩ = some (.int .i64 cc.r3) := by subst hY1; exact cell_last _ _ _ _ _ rfl rfl
  have p4 : Y1.cell? ⟨w.heap.size, 4, none⟩ = some (.int .i64 cc.r4) := by subst hY1; exact cell_last _ _ _ _ _ rfl rfl
  have p5 : Y1.cell? ⟨w.heap.size, 5, none⟩ = some (.int .i64 cc.r5) := by subst hY1; exact cell_last _ _ _ _ _ rfl rfl
  have p6 : Y1.cell? ⟨w.heap.size, 6, none⟩ = some (.int .i64 cc.r6) := by subst hY1; exact cell_last _ _ _ _ _ rfl rfl
  have p7 : Y1.cell? ⟨w.heap.size, 7, none⟩ = some (.int .i64 cc.r7) := by subst hY1; exact cell_last _ _ _ _ _ rfl rfl
  have p8 : Y1.cell? ⟨w.heap.size, 8, none⟩ = some (.int .i64 cc.pc) := by subst hY1; exact cell_last _ _ _ _ _ rfl rfl
  have p9 : Y1.cell? ⟨w.heap.size, 9, none⟩ = some (.int .i64 0) := by subst hY1; exact cell_last _ _ _ _ _ rfl rfl
  have p10 : Y1.cell? ⟨w.heap.size, 10, none⟩ = some (.int .i64 cc.tr) := by subst hY1; exact cell_last _ _ _ _ _ rfl rfl
  have bY2 : Below Y1.heap.size Y1 (Y1.alloc (.cells #[.int .i64 0, .int .i64 0, .int .i64 0, .int .i64 0] 62)) := bl_one _ _
  have HZ2 : Hid (∀ o, (Y1.alloc (.cells #[.int .i64 0, .int .i64 0, .int .i64 0, .int .i64 0] 62)).frozen? ⟨Y1.heap.size, o, none⟩ = false) := fun o => World.frozen?_alloc_at _ _ _ _ rfl
  have p0 := cell_up bY2 p0
  have p1 := cell_up bY2 p1
  have p2 := cell_up bY2 p2
  have p3 := cell_up bY2 p3
  have p4 := cell_up bY2 p4
  have p5 := cell_up bY2 p5
  have p6 := cell_up bY2 p6
  have p7 := cell_up bY2 p7
  have p8 := cell_up bY2 p8
  have p9 := cell_up bY2 p9
  have p10 := cell_up bY2 p10
  have c0 := cell_up bY2 (cell_up bY1 c0w)
  have HB2 : Hid (Below w.heap.size w (Y1.alloc (.cells #[.int .i64 0, .int .i64 0, .int .i64 0, .int .i64 0] 62))) := bY1.trans (bY2.mono (Nat.le_of_lt sY1))
  rw [hplc] at hd
  have fz9 := (bY2.frozen (p := ⟨w.heap.size, 9, none⟩) sY1).trans (HZ1.out 9)
  have fzw : ((Y1.setCell ⟨w.heap.size, 9, none⟩ (.int .i64 2)).alloc (.cells #[.int .i64 0, .int .i64 0, .int .i64 0, .int .i64 0] 62)).frozen? ⟨w.heap.size, 10, none⟩ = false := ((bl_one _ _).frozen (p := ⟨w.heap.size, 10, none⟩) (by rw [World.size_setCell]; exact sY1)).trans ((World.frozen?_setCell _ _ _ _).trans (HZ1.out 10))
  obtain ⟨Y4, hY4⟩ : ∃ Y4, (((Y1.setCell ⟨w.heap.size, 9, none⟩ (.int .i64 2)).setCell ⟨w.heap.size, 10, none⟩ (.int .i64 3)).alloc (.cells #[.int .i64 0, .int .i64 0, .int .i64 0, .int .i64 0] 62)) = Y4 := ⟨_, rfl⟩
  have hb4 : Below w.heap.size w Y4 := by rw [← hY4]; exact (((bY1.setCell (Nat.le_refl _) _).setCell (Nat.le_refl _) _).trans ((bl_one _ _).mono (by rw [World.size_setCell, World.size_setCell]; exact Nat.le_of_lt sY1)))
  have HPC : Hid (∀ j u, (cV (T.trapC cc 3))[j]? = some u → Y4.cell? ⟨w.heap.size, j, none⟩ = some u) := fun j u hu => by
    rw [← hY4]
    exact cell_up (bl_one _ _) (trap_cells 3 (fun j u hu => HP1.out j u hu) j u hu)
  have HV4 : Hid (XV B Y4 b M t D Sk vd vs g cap ev us) := h.below hb4
  have HS4 : Hid (St t t w Y4) := St.ofBelow t hb4
  have HTX : Hid (t w.heap.size = 0) := Classical.byContradiction fun e => by have := (h.lt _ e).2; omega
  have c3y := cell_up hb4 c3w
  have HKY : Hid (k < M.ts.length) := hk
  have HLN : Hid (M.ts.length = n) := hn
  have HES : Hid ((T.setC M k (T.trapC cc 3)).es.length ≤ 1000001) := by show M.es.length ≤ _; omega
  have HY4 : Hid _ := hY4
  rw [hcc]
  clear h hk hn huw hcc hpl hplc hb4 hY4 hes
  rcases hd with hd | hd
  all_goals
    go_enter Tryd.func20, Tryd.ntmps20
    go_wp2_with fail
    rw [HY4.out]
    clear p0 p1 p2 p3 p4 p5 p6 p7 p8 p9 p10 fz9 fzw d0 d1 d2 d3 d4 d5 d6 d7 d8 d9 d10 c3w c0 c0w hY1
    have p0 : Y4.cell? ⟨w.heap.size, 0, none⟩ = some (.int .i64 (T.trapC cc 3).r0) := HPC.out 0 _ rfl
    have p1 : Y4.cell? ⟨w.heap.size, 1, none⟩ = some (.int .i64 (T.trapC cc 3).r1) := HPC.out 1 _ rfl
    have p2 : Y4.cell? ⟨w.heap.size, 2, none⟩ = some (.int .i64 (T.trapC cc 3).r2) := HPC.out 2 _ rfl
    have p3 : Y4.cell? ⟨w.heap.size, 3, none⟩ = some (.int .i64 (T.trapC cc 3).r3) := HPC.out 3 _ rfl
    have p4 : Y4.cell? ⟨w.heap.size, 4, none⟩ = some (.int .i64 (T.trapC cc 3).r4) := HPC.out 4 _ rfl
    have p5 : Y4.cell? ⟨w.heap.size, 5, none⟩ = some (.int .i64 (T.trapC cc 3).r5) := HPC.out 5 _ rfl
    have p6 : Y4.cell? ⟨w.heap.size, 6, none⟩ = some (.int .i64 (T.trapC cc 3).r6) := HPC.out 6 _ rfl
    have p7 : Y4.cell? ⟨w.heap.size, 7, none⟩ = some (.int .i64 (T.trapC cc 3).r7) := HPC.out 7 _ rfl
    have p8 : Y4.cell? ⟨w.heap.size, 8, none⟩ = some (.int .i64 (T.trapC cc 3).pc) := HPC.out 8 _ rfl
    have p9 : Y4.cell? ⟨w.heap.size, 9, none⟩ = some (.int .i64 (T.trapC cc 3).st) := HPC.out 9 _ rfl
    have p10 : Y4.cell? ⟨w.heap.size, 10, none⟩ = some (.int .i64 (T.trapC cc 3).tr) := HPC.out 10 _ rfl
    have HSK : Hid (∀ zq : World, Below Y4.heap.size Y4 zq → (fun w' : World => w'.cell? ⟨b, 3, none⟩ = some (.slice (some ⟨g, 0, none⟩) n cap) ∧ w'.cell? ⟨w.heap.size, 0, none⟩ = some (.int .i64 (T.trapC cc 3).r0) ∧ w'.cell? ⟨w.heap.size, 1, none⟩ = some (.int .i64 (T.trapC cc 3).r1) ∧ w'.cell? ⟨w.heap.size, 2, none⟩ = some (.int .i64 (T.trapC cc 3).r2) ∧ w'.cell? ⟨w.heap.size, 3, none⟩ = some (.int .i64 (T.trapC cc 3).r3) ∧ w'.cell? ⟨w.heap.size, 4, none⟩ = some (.int .i64 (T.trapC cc 3).r4) ∧ w'.cell? ⟨w.heap.size, 5, none⟩ = some (.int .i64 (T.trapC cc 3).r5) ∧ w'.cell? ⟨w.heap.size, 6, none⟩ = some (.int .i64 (T.trapC cc 3).r6) ∧ w'.cell? ⟨w.heap.size, 7, none⟩ = some (.int .i64 (T.trapC cc 3).r7) ∧ w'.cell? ⟨w.heap.size, 8, none⟩ = some (.int .i64 (T.trapC cc 3).pc) ∧ w'.cell? ⟨w.heap.size, 9, none⟩ = some (.int .i64 (T.trapC cc 3).st) ∧ w'.cell? ⟨w.heap.size, 10, none⟩ = some (.int .i64 (T.trapC cc 3).tr)) zq) := fun zq hz => ⟨cell_up hz c3y, cell_up hz p0, cell_up hz p1, cell_up hz p2, cell_up hz p3, cell_up hz p4, cell_up hz p5, cell_up hz p6, cell_up hz p7, cell_up hz p8, cell_up hz p9, cell_up hz p10⟩
    obtain ⟨uY, huY⟩ := HV4.out.u HKY.out
    have HUY : Hid _ := huY
    refine wp_region_held_drew (S := (fun w' : World => w'.cell? ⟨b, 3, none⟩ = some (.slice (some ⟨g, 0, none⟩) n cap) ∧ w'.cell? ⟨w.heap.size, 0, none⟩ = some (.int .i64 (T.trapC cc 3).r0) ∧ w'.cell? ⟨w.heap.size, 1, none⟩ = some (.int .i64 (T.trapC cc 3).r1) ∧ w'.cell? ⟨w.heap.size, 2, none⟩ = some (.int .i64 (T.trapC cc 3).r2) ∧ w'.cell? ⟨w.heap.size, 3, none⟩ = some (.int .i64 (T.trapC cc 3).r3) ∧ w'.cell? ⟨w.heap.size, 4, none⟩ = some (.int .i64 (T.trapC cc 3).r4) ∧ w'.cell? ⟨w.heap.size, 5, none⟩ = some (.int .i64 (T.trapC cc 3).r5) ∧ w'.cell? ⟨w.heap.size, 6, none⟩ = some (.int .i64 (T.trapC cc 3).r6) ∧ w'.cell? ⟨w.heap.size, 7, none⟩ = some (.int .i64 (T.trapC cc 3).r7) ∧ w'.cell? ⟨w.heap.size, 8, none⟩ = some (.int .i64 (T.trapC cc 3).pc) ∧ w'.cell? ⟨w.heap.size, 9, none⟩ = some (.int .i64 (T.trapC cc 3).st) ∧ w'.cell? ⟨w.heap.size, 10, none⟩ = some (.int .i64 (T.trapC cc 3).tr))) (by kernel_rfl) (HSK.out _ (Below.refl _ _).drew) (fun hHeld => ?_)
    obtain ⟨Yd, hYd⟩ : ∃ Yd, Y4.drew = Yd := ⟨_, rfl⟩
    have hbd : Below Y4.heap.size Y4 Yd := by rw [← hYd]; exact (Below.refl _ _).drew
    rw [hYd] at hHeld
    rw [hYd]
    clear hYd
    have hvd := HV4.out.below hbd
    have HVD : Hid _ := hvd
    have HSD : Hid (St t _ w Yd) := HS4.out.trans (St.ofBelow _ hbd)
    refine tk (i := 0) (v := ?_) (tA rfl) (by kernel_rfl) (fun _ _ _ h => h) (Or.inl ⟨by rfl, ?_⟩) (by assumption) ?_
    rotate_left
    · (intro w hSw; (try dsimp only at hSw); go_simp <;> with_reducible rfl)
    simp only [Act.put, List.setIfInBounds_toArray, List.set_cons_zero, List.set_cons_succ]
    refine tk (i := 1) (v := ?_) (tA rfl) (by kernel_rfl) (fun _ _ _ h => h) (Or.inl ⟨by rfl, ?_⟩) (by assumption) ?_
    rotate_left
    · (intro w hSw; (try dsimp only at hSw); go_simp <;> with_reducible rfl)
    simp only [Act.put, List.setIfInBounds_toArray, List.set_cons_zero, List.set_cons_succ]
    refine tk (i := 2) (v := ?_) (tA rfl) (by kernel_rfl) (fun _ _ _ h => h) (Or.inl ⟨by rfl, ?_⟩) (by assumption) ?_
    rotate_left
    · (intro w hSw; (try dsimp only at hSw); go_simp <;> with_reducible rfl)
    simp only [Act.put, List.setIfInBounds_toArray, List.set_cons_zero, List.set_cons_succ]
    refine tk (i := 3) (v := ?_) (tA rfl) (by kernel_rfl) (fun _ _ _ h => h) (Or.inl ⟨by rfl, ?_⟩) (by assumption) ?_
    rotate_left
    · (intro w hSw; (try dsimp only at hSw); go_simp <;> with_reducible rfl)
    simp only [Act.put, List.setIfInBounds_toArray, List.set_cons_zero, List.set_cons_succ]
    refine tk (i := 4) (v := ?_) (tA rfl) (by kernel_rfl) (fun _ _ _ h => h) (Or.inl ⟨by rfl, ?_⟩) (by assumption) ?_
    rotate_left
    · (intro w hSw; (try dsimp only at hSw); go_simp <;> with_reducible rfl)
    simp only [Act.put, List.setIfInBounds_toArray, List.set_cons_zero, List.set_cons_succ]
    refine tk (i := 5) (v := ?_) (tA rfl) (by kernel_rfl) (fun _ _ _ h => h) (Or.inl ⟨by rfl, ?_⟩) (by assumption) ?_
    rotate_left
    · (intro w hSw; (try dsimp only at hSw); go_simp <;> with_reducible rfl)
    simp only [Act.put, List.setIfInBounds_toArray, List.set_cons_zero, List.set_cons_succ]
    refine tk (i := 6) (v := ?_) (tA rfl) (by kernel_rfl) (fun _ _ _ h => h) (Or.inl ⟨by rfl, ?_⟩) (by assumption) ?_
    rotate_left
    · (intro w hSw; (try dsimp only at hSw); go_simp <;> with_reducible rfl)
    simp only [Act.put, List.setIfInBounds_toArray, List.set_cons_zero, List.set_cons_succ]
    refine tk (i := 7) (v := ?_) (tA rfl) (by kernel_rfl) (fun _ _ _ h => h) (Or.inl ⟨by rfl, ?_⟩) (by assumption) ?_
    rotate_left
    · (intro w hSw; (try dsimp only at hSw); go_simp <;> with_reducible rfl)
    simp only [Act.put, List.setIfInBounds_toArray, List.set_cons_zero, List.set_cons_succ]
    refine wpAnyH_ready (rs := [8]) (by kernel_rfl) (by simp) ?_
    refine AllReadyH.cons (tA rfl) (fun K hK => ?_) AllReadyH.nil
    have e0 : Yd.cell? ⟨g, k * 12, none⟩ = some (.int .i64 ((M).th k).c.r0) := hvd.cell HKY.out HUY.out 0 _ rfl
    have f0 := hvd.gz (k * 12)
    have e1 : Yd.cell? ⟨g, k * 12 + 1, none⟩ = some (.int .i64 ((M).th k).c.r1) := hvd.cell HKY.out HUY.out 1 _ rfl
    have f1 := hvd.gz (k * 12 + 1)
    have e2 : Yd.cell? ⟨g, k * 12 + 2, none⟩ = some (.int .i64 ((M).th k).c.r2) := hvd.cell HKY.out HUY.out 2 _ rfl
    have f2 := hvd.gz (k * 12 + 2)
    have e3 : Yd.cell? ⟨g, k * 12 + 3, none⟩ = some (.int .i64 ((M).th k).c.r3) := hvd.cell HKY.out HUY.out 3 _ rfl
    have f3 := hvd.gz (k * 12 + 3)
    have e4 : Yd.cell? ⟨g, k * 12 + 4, none⟩ = some (.int .i64 ((M).th k).c.r4) := hvd.cell HKY.out HUY.out 4 _ rfl
    have f4 := hvd.gz (k * 12 + 4)
    have e5 : Yd.cell? ⟨g, k * 12 + 5, none⟩ = some (.int .i64 ((M).th k).c.r5) := hvd.cell HKY.out HUY.out 5 _ rfl
    have f5 := hvd.gz (k * 12 + 5)
    have e6 : Yd.cell? ⟨g, k * 12 + 6, none⟩ = some (.int .i64 ((M).th k).c.r6) := hvd.cell HKY.out HUY.out 6 _ rfl
    have f6 := hvd.gz (k * 12 + 6)
    have e7 : Yd.cell? ⟨g, k * 12 + 7, none⟩ = some (.int .i64 ((M).th k).c.r7) := hvd.cell HKY.out HUY.out 7 _ rfl
    have f7 := hvd.gz (k * 12 + 7)
    have e8 : Yd.cell? ⟨g, k * 12 + 8, none⟩ = some (.int .i64 ((M).th k).c.pc) := hvd.cell HKY.out HUY.out 8 _ rfl
    have f8 := hvd.gz (k * 12 + 8)
    have e9 : Yd.cell? ⟨g, k * 12 + 9, none⟩ = some (.int .i64 ((M).th k).c.st) := hvd.cell HKY.out HUY.out 9 _ rfl
    have f9 := hvd.gz (k * 12 + 9)
    have e10 : Yd.cell? ⟨g, k * 12 + 10, none⟩ = some (.int .i64 ((M).th k).c.tr) := hvd.cell HKY.out HUY.out 10 _ rfl
    have f10 := hvd.gz (k * 12 + 10)
    clear hvd hHeld huY p0 p1 p2 p3 p4 p5 p6 p7 p8 p9 p10
    go_simp
    obtain ⟨HXX, HSS⟩ := HVD.out.regs HKY.out rfl (T.trapC cc 3)
    obtain ⟨ZZ, hZZ⟩ : ∃ ZZ, (((((((((((Yd.setCell ⟨g, k * 12, none⟩ (.int .i64 (T.trapC cc 3).r0)).setCell ⟨g, k * 12 + 1, none⟩ (.int .i64 (T.trapC cc 3).r1)).setCell ⟨g, k * 12 + 2, none⟩ (.int .i64 (T.trapC cc 3).r2)).setCell ⟨g, k * 12 + 3, none⟩ (.int .i64 (T.trapC cc 3).r3)).setCell ⟨g, k * 12 + 4, none⟩ (.int .i64 (T.trapC cc 3).r4)).setCell ⟨g, k * 12 + 5, none⟩ (.int .i64 (T.trapC cc 3).r5)).setCell ⟨g, k * 12 + 6, none⟩ (.int .i64 (T.trapC cc 3).r6)).setCell ⟨g, k * 12 + 7, none⟩ (.int .i64 (T.trapC cc 3).r7)).setCell ⟨g, k * 12 + 8, none⟩ (.int .i64 (T.trapC cc 3).pc)).setCell ⟨g, k * 12 + 9, none⟩ (.int .i64 (T.trapC cc 3).st)).setCell ⟨g, k * 12 + 10, none⟩ (.int .i64 (T.trapC cc 3).tr)) = ZZ := ⟨_, rfl⟩
    rw [hZZ] at HXX HSS
    rw [hZZ]
    have cZ : ZZ.cell? ⟨b, 3, none⟩ = some (.slice (some ⟨g, 0, none⟩) n cap) := by have h9 := HXX.c3; rw [T.len_setC, HLN.out] at h9; exact h9
    have HXZ : Hid _ := HXX
    have HSZ2 : Hid (St t _ w ZZ) := HSD.out.trans HSS
    have HKZ : Hid (k < (T.setC (M) k (T.trapC cc 3)).ts.length) := by show k < _; rw [T.len_setC]; exact HKY.out
    have HTZ : Hid ((T.setC (M) k (T.trapC cc 3)).th k = ⟨T.trapC cc 3, ((M).th k).ws⟩) := T.th_setC HKY.out _
    have HUZ : Hid _ := HUY.out
    have HSO : Hid (∀ (p : Addr) (v : Value), t p.block = 0 → Y4.cell? p = some v → ZZ.cell? p = some v) := fun p v h0 hv => st_cell HSS h0 (cell_up hbd hv)
    have HSF : Hid (∀ (p : Addr), p.block < Y4.heap.size → t p.block = 0 → ZZ.frozen? p = Y4.frozen? p) := fun p hp h0 => (World.frozen?_of_block (HSS.block p.block (Nat.lt_of_lt_of_le hp hbd.size) h0)).trans (hbd.frozen hp)
    clear hZZ HXX HSS e0 f0 e1 f1 e2 f2 e3 f3 e4 f4 e5 f5 e6 f6 e7 f7 e8 f8 e9 f9 e10 f10
    refine hK.out _ _ ⟨cZ, HSO.out ⟨w.heap.size, 0, none⟩ _ HTX.out (HPC.out 0 _ rfl), HSO.out ⟨w.heap.size, 1, none⟩ _ HTX.out (HPC.out 1 _ rfl), HSO.out ⟨w.heap.size, 2, none⟩ _ HTX.out (HPC.out 2 _ rfl), HSO.out ⟨w.heap.size, 3, none⟩ _ HTX.out (HPC.out 3 _ rfl), HSO.out ⟨w.heap.size, 4, none⟩ _ HTX.out (HPC.out 4 _ rfl), HSO.out ⟨w.heap.size, 5, none⟩ _ HTX.out (HPC.out 5 _ rfl), HSO.out ⟨w.heap.size, 6, none⟩ _ HTX.out (HPC.out 6 _ rfl), HSO.out ⟨w.heap.size, 7, none⟩ _ HTX.out (HPC.out 7 _ rfl), HSO.out ⟨w.heap.size, 8, none⟩ _ HTX.out (HPC.out 8 _ rfl), HSO.out ⟨w.heap.size, 9, none⟩ _ HTX.out (HPC.out 9 _ rfl), HSO.out ⟨w.heap.size, 10, none⟩ _ HTX.out (HPC.out 10 _ rfl)⟩ (fun hHeld => ?_)
    clear hK K hbd
    try simp only [Act.put, List.setIfInBounds_toArray, List.set_cons_zero, List.set_cons_succ]
    refine wpAnyH_done (by kernel_rfl) ?_ _
    clear hHeld HSK
    have s9 : ZZ.cell? ⟨g, k * 12 + 9, none⟩ = some (.int .i64 2) := by have h9 := HXZ.out.cell HKZ.out HUZ.out 9 _ rfl; rw [HTZ.out] at h9; exact h9
    have s10 : ZZ.cell? ⟨g, k * 12 + 10, none⟩ = some (.int .i64 3) := by have h9 := HXZ.out.cell HKZ.out HUZ.out 10 _ rfl; rw [HTZ.out] at h9; exact h9
    have HC10 : Hid (((T.setC (M) k (T.trapC cc 3)).th k).c.tr = 3) := by show _ = _; rw [HTZ.out]; rfl
    have HLZ : Hid ((T.setC (M) k (T.trapC cc 3)).ts.length = n) := (T.len_setC _ _ _).trans HLN.out
    obtain ⟨iw, hiw, hp0, hp1, hp2⟩ := info_partsL infoE
    have d1 := HXZ.out.c4
    have hr1 := HXZ.out.evs
    have hg1 := HXZ.out.fz 4
    have hty : b < ZZ.heap.size := HXZ.out.bl
    obtain ⟨a1, p1, hev, hnp, hpm⟩ := own_sl hr1
    obtain ⟨m1, hm1⟩ : ∃ m1, (T.setC (M) k (T.trapC cc 3)).es.length = m1 := ⟨_, rfl⟩
    have hm1e : m1 ≤ 1000001 := by rw [← hm1]; exact HES.out
    rw [hm1] at hev hnp hr1
    have HEV : Hid _ := hev
    have HM1 : Hid ((T.setC (M) k (T.trapC cc 3)).es.length = m1) := hm1
    have hvb : (Value.slice a1 m1 p1).ownBlock ≠ some b := fun e => by have e1 := HXZ.out.te b (by rw [hev]; exact e); have e2 := HXZ.out.tb; omega
    have hvg : (Value.slice a1 m1 p1).ownBlock ≠ some g := fun e => by have e1 := HXZ.out.te g (by rw [hev]; exact e); have e2 := HXZ.out.tg; omega
    have hBy := HXZ.out.hB
    rw [hev] at d1 hr1
    unfold maxLen at hpm
    clear hm1 hev
    go_wp2_with fail
    have HB1 : Hid (Below ZZ.heap.size ZZ (ZZ.alloc (.cells #[.int .i64 (k : Int), .int .i64 3, .int .i64 3] 101)).drew) := (bl_one _ _).drew
    have HW1 : Hid ((ZZ.alloc (.cells #[.int .i64 (k : Int), .int .i64 3, .int .i64 3] 101)).drew.ownsRow B 101 3 (.slice a1 m1 p1) m1 ((T.setC (M) k (T.trapC cc 3)).es.flatMap eC)) := hr1.kept (gb_of_below HB1.out (some ZZ.heap.size)) (.inr fun e => by have := own_lt hr1 e; omega)
    have HNC : Hid (∀ j u, (eC ((k : Int), 3, 3))[j]? = some u → (ZZ.alloc (.cells #[.int .i64 (k : Int), .int .i64 3, .int .i64 3] 101)).drew.cell? ((⟨ZZ.heap.size, 0, none⟩ : Addr).add j) = some u) := fun j u hu => by
      rw [Addr.add_lit, Nat.zero_add]
      exact cell_last _ _ _ _ _ rfl (by simpa [eC] using hu)
    have HSK : Hid (∀ z : World, Below ZZ.heap.size ZZ z → (fun w' : World => w'.cell? ⟨b, 3, none⟩ = some (.slice (some ⟨g, 0, none⟩) n cap) ∧ w'.cell? ⟨g, k * 12 + 10, none⟩ = some (.int .i64 3)) z) := fun z hz => ⟨cell_up hz cZ, cell_up hz s10⟩
    have FT : (ZZ.alloc (.cells #[.int .i64 (k : Int), .int .i64 3, .int .i64 3] 101)).drew.cell? ⟨b, 4, none⟩ = some (.slice a1 m1 p1) := cell_up HB1.out d1
    have GT : (ZZ.alloc (.cells #[.int .i64 (k : Int), .int .i64 3, .int .i64 3] 101)).drew.frozen? ⟨b, 4, none⟩ = false := (HB1.out.frozen (p := ⟨b, 4, none⟩) hty).trans hg1
    have HD1 : Hid _ := d1
    have HR1 : Hid _ := hr1
    clear hr1
    refine wp_region_held_drew (S := (fun w' : World => w'.cell? ⟨b, 3, none⟩ = some (.slice (some ⟨g, 0, none⟩) n cap) ∧ w'.cell? ⟨g, k * 12 + 10, none⟩ = some (.int .i64 3))) (by kernel_rfl) (HSK.out _ (Below.refl _ _).drew) (fun hHeld => ?_)
    refine tk (i := 0) (v := ?_) (tA rfl) (by kernel_rfl) (fun _ _ _ h => h) (Or.inl ⟨by rfl, ?_⟩) (by assumption) ?_
    rotate_left
    · (intro w hSw; (try dsimp only at hSw); go_simp <;> with_reducible rfl)
    simp only [Act.put, List.setIfInBounds_toArray, List.set_cons_zero, List.set_cons_succ]
    refine tk (i := 1) (v := ?_) (tA rfl) (by kernel_rfl) (fun _ _ _ h => h) (Or.inl ⟨by rfl, ?_⟩) (by assumption) ?_
    rotate_left
    · (intro w hSw; (try dsimp only at hSw); go_simp <;> with_reducible rfl)
    simp only [Act.put, List.setIfInBounds_toArray, List.set_cons_zero, List.set_cons_succ]
    refine tk (i := 2) (v := ?_) (tA rfl) (by kernel_rfl) (fun _ _ _ h => h) (Or.inl ⟨by rfl, ?_⟩) (by assumption) ?_
    rotate_left
    · (intro w hSw; (try dsimp only at hSw); go_simp <;> with_reducible rfl)
    simp only [Act.put, List.setIfInBounds_toArray, List.set_cons_zero, List.set_cons_succ]
    refine tk (i := 3) (v := ?_) (tA rfl) (by kernel_rfl) (fun _ _ _ h => h) (Or.inl ⟨by rfl, ?_⟩) (by assumption) ?_
    rotate_left
    · (intro w hSw; (try dsimp only at hSw); go_simp <;> with_reducible rfl)
    simp only [Act.put, List.setIfInBounds_toArray, List.set_cons_zero, List.set_cons_succ]
    refine tk (i := 5) (v := ?_) (tA rfl) (by kernel_rfl) (fun _ _ _ h => h) (Or.inl ⟨by rfl, ?_⟩) (by assumption) ?_
    rotate_left
    · (intro w hSw; (try dsimp only at hSw); go_simp <;> with_reducible rfl)
    simp only [Act.put, List.setIfInBounds_toArray, List.set_cons_zero, List.set_cons_succ]
    refine tk (i := 6) (v := ?_) (tA rfl) (by kernel_rfl) (fun _ _ _ h => h) (Or.inl ⟨by rfl, ?_⟩) (by assumption) ?_
    rotate_left
    · (intro w hSw; (try dsimp only at hSw); go_simp <;> with_reducible rfl)
    simp only [Act.put, List.setIfInBounds_toArray, List.set_cons_zero, List.set_cons_succ]
    refine tk (i := 7) (v := ?_) (tA rfl) (by kernel_rfl) (fun _ _ _ h => h) (Or.inl ⟨by rfl, ?_⟩) (by assumption) ?_
    rotate_left
    · (intro w hSw; (try dsimp only at hSw); go_simp <;> with_reducible rfl)
    simp only [Act.put, List.setIfInBounds_toArray, List.set_cons_zero, List.set_cons_succ]
    refine tk (i := 8) (v := ?_) (tA rfl) (by kernel_rfl) (fun _ _ _ h => h) (Or.inl ⟨by rfl, ?_⟩) (by assumption) ?_
    rotate_left
    · (intro w hSw; (try dsimp only at hSw); go_simp <;> with_reducible rfl)
    simp only [Act.put, List.setIfInBounds_toArray, List.set_cons_zero, List.set_cons_succ]
    refine tk (i := 9) (v := ?_) (tA rfl) (by kernel_rfl) (fun _ _ _ h => h) (Or.inl ⟨by rfl, ?_⟩) (by assumption) ?_
    rotate_left
    · (intro w hSw; (try dsimp only at hSw); go_simp <;> with_reducible rfl)
    simp only [Act.put, List.setIfInBounds_toArray, List.set_cons_zero, List.set_cons_succ]
    refine tk (i := 10) (v := ?_) (tA rfl) (by kernel_rfl) (fun _ _ _ h => h) (Or.inl ⟨by rfl, ?_⟩) (by assumption) ?_
    rotate_left
    · (intro w hSw; (try dsimp only at hSw); go_simp <;> with_reducible rfl)
    simp only [Act.put, List.setIfInBounds_toArray, List.set_cons_zero, List.set_cons_succ]
    refine tk (i := 11) (v := ?_) (tA rfl) (by kernel_rfl) (fun _ _ _ h => h) (Or.inl ⟨by rfl, ?_⟩) (by assumption) ?_
    rotate_left
    · (intro w hSw; (try dsimp only at hSw); go_simp <;> with_reducible rfl)
    simp only [Act.put, List.setIfInBounds_toArray, List.set_cons_zero, List.set_cons_succ]
    refine tk (i := 12) (v := ?_) (tA rfl) (by kernel_rfl) (fun _ _ _ h => h) (Or.inl ⟨by rfl, ?_⟩) (by assumption) ?_
    rotate_left
    · (intro w hSw; (try dsimp only at hSw); go_simp <;> with_reducible rfl)
    simp only [Act.put, List.setIfInBounds_toArray, List.set_cons_zero, List.set_cons_succ]
    refine tk (i := 13) (v := ?_) (tA rfl) (by kernel_rfl) (fun _ _ _ h => h) (Or.inl ⟨by rfl, ?_⟩) (by assumption) ?_
    rotate_left
    · (intro w hSw; (try dsimp only at hSw); go_simp <;> with_reducible rfl)
    simp only [Act.put, List.setIfInBounds_toArray, List.set_cons_zero, List.set_cons_succ]
    refine tk (i := 14) (v := ?_) (tA rfl) (by kernel_rfl) (fun _ _ _ h => h) (Or.inl ⟨by rfl, ?_⟩) (by assumption) ?_
    rotate_left
    · (intro w hSw; (try dsimp only at hSw); go_simp <;> with_reducible rfl)
    simp only [Act.put, List.setIfInBounds_toArray, List.set_cons_zero, List.set_cons_succ]
    refine tk (i := 15) (v := ?_) (tA rfl) (by kernel_rfl) (fun _ _ _ h => h) (Or.inl ⟨by rfl, ?_⟩) (by assumption) ?_
    rotate_left
    · (intro w hSw; (try dsimp only at hSw); go_simp <;> with_reducible rfl)
    simp only [Act.put, List.setIfInBounds_toArray, List.set_cons_zero, List.set_cons_succ]
    refine wpAnyH_ready (rs := [4, 16]) (by kernel_rfl) (by simp) ?_
    refine AllReadyH.cons (tA rfl) (fun K hK => ?_) (AllReadyH.cons (tA rfl) (fun K hK => ?_) AllReadyH.nil)
    · go_simp
      refine hK.out _ _ (by first | exact HSK.out _ (Below.refl _ _).drew | exact HSK.out _ HB1.out) (fun hHeld => ?_)
      clear hK K
      try simp only [Act.put, List.setIfInBounds_toArray, List.set_cons_zero, List.set_cons_succ]
      refine wpAnyH_ready (rs := [16]) (by kernel_rfl) (by simp) ?_
      refine AllReadyH.cons (tA rfl) (fun K hK => ?_) AllReadyH.nil
      go_simp
      refine hK.out _ _ (by first | exact HSK.out _ (Below.refl _ _).drew | exact HSK.out _ HB1.out) (fun hHeld => ?_)
      clear hK K
      try simp only [Act.put, List.setIfInBounds_toArray, List.set_cons_zero, List.set_cons_succ]
      refine wpAnyH_ready (rs := [17]) (by kernel_rfl) (by simp) ?_
      refine AllReadyH.cons (tA rfl) (fun K hK => ?_) AllReadyH.nil
      refine step_append_lies _ (by rfl) _ _ 38 (by rfl) B 101 iw _ 3 24 Tryd.underlying38 hiw hp0 hp1 hp2 (by rfl) (by decide) (.slice a1 m1 p1) m1 _ (by rfl) HW1.out ⟨ZZ.heap.size, 0, none⟩ 1 1 (eC ((k : Int), 3, 3)) (by rfl) (by rfl) HNC.out (by intro u hu; simp [eC] at hu; rcases hu with rfl | rfl | rfl <;> rfl) (by decide) (by unfold maxLen; omega) (by omega) (by simp; omega) (ZZ.heap.size + 1) (by simp) ?_
      intro x1 cp Y6 ho6 hg6 hat6 hlt6
      have m6 : Y6.cell? ⟨b, 4, none⟩ = some (.slice a1 m1 p1) := hg6.cell FT (fun e => hvb e.symm)
      have z6 : Y6.frozen? ⟨b, 4, none⟩ = false := (hg6.frozen_far ⟨b, 4, none⟩ (Nat.lt_of_lt_of_le hty HB1.out.size) (fun e => hvb e.symm)).trans GT
      refine hK.out _ _ ⟨(hg6.cell (cell_up HB1.out cZ) (fun e => hvb e.symm)), (hg6.cell (cell_up HB1.out s10) (fun e => hvg e.symm))⟩ (fun hHeld => ?_)
      clear hK K
      try simp only [Act.put, List.setIfInBounds_toArray, List.set_cons_zero, List.set_cons_succ]
      refine tk (i := 18) (v := ?_) (tA rfl) (by kernel_rfl) (fun _ _ _ h => h) (Or.inl ⟨by rfl, ?_⟩) (by assumption) ?_
      rotate_left
      · (intro w hSw; (try dsimp only at hSw); go_simp <;> with_reducible rfl)
      simp only [Act.put, List.setIfInBounds_toArray, List.set_cons_zero, List.set_cons_succ]
      refine tk (i := 19) (v := ?_) (tA rfl) (by kernel_rfl) (fun _ _ _ h => h) (Or.inl ⟨by rfl, ?_⟩) (by assumption) ?_
      rotate_left
      · (intro w hSw; (try dsimp only at hSw); go_simp <;> with_reducible rfl)
      simp only [Act.put, List.setIfInBounds_toArray, List.set_cons_zero, List.set_cons_succ]
      refine wpAnyH_ready (rs := [20]) (by kernel_rfl) (by simp) ?_
      refine AllReadyH.cons (tA rfl) (fun K hK => ?_) AllReadyH.nil
      clear hHeld
      go_simp
      have ho7 : Y6.ownsRow B 101 3 (.slice (some ⟨x1, 0, none⟩) ((T.setC (M) k (T.trapC cc 3)).es.length + 1) cp) ((T.setC (M) k (T.trapC cc 3)).es.length + 1) ((T.setC (M) k (T.trapC cc 3)).es.flatMap eC ++ eC ((k : Int), 3, 3)) := by rw [HM1.out]; exact ho6
      obtain ⟨q1, q2⟩ := HXZ.out.saw HB1.out ho7 (HEV.out ▸ hg6) (by rw [HEV.out]; exact hat6.imp id (fun e => by omega))
      rw [HM1.out] at q1 q2
      obtain ⟨ZZ, hZZ⟩ : ∃ ZZ, Y6.setCell ⟨b, 4, none⟩ (.slice (some ⟨x1, 0, none⟩) (m1 + 1) cp) = ZZ := ⟨_, rfl⟩
      rw [hZZ] at q1 q2
      rw [hZZ]
      have HQ1 : Hid _ := q1
      have HQ2 : Hid (St t _ w ZZ) := HSZ2.out.trans q2
      refine hK.out _ _ ⟨(by have h9 := q1.c3; rw [show ((T.setC (M) k (T.trapC cc 3)).see k 3 3).ts.length = n from HLZ.out] at h9; exact h9), (by have h9 := q1.cell (k := k) HKZ.out HUZ.out 10 _ rfl; exact h9.trans (by show some (Value.int .i64 ((T.setC (M) k (T.trapC cc 3)).th k).c.tr) = _; rw [HC10.out]))⟩ (fun hHeld => ?_)
      clear hK K hZZ m6 z6 q1 q2 ho7 ho6 hg6 hat6 hlt6
      try simp only [Act.put, List.setIfInBounds_toArray, List.set_cons_zero, List.set_cons_succ]
      refine wpAnyH_done (by kernel_rfl) ?_ _
      clear hHeld
      go_wp2
      go_ret
      exact ⟨rfl, _, _, _, _, _, HQ1.out, HQ2.out⟩
    · go_simp
      refine hK.out _ _ (by first | exact HSK.out _ (Below.refl _ _).drew | exact HSK.out _ HB1.out) (fun hHeld => ?_)
      clear hK K
      try simp only [Act.put, List.setIfInBounds_toArray, List.set_cons_zero, List.set_cons_succ]
      refine wpAnyH_ready (rs := [4]) (by kernel_rfl) (by simp) ?_
      refine AllReadyH.cons (tA rfl) (fun K hK => ?_) AllReadyH.nil
      go_simp
      refine hK.out _ _ (by first | exact HSK.out _ (Below.refl _ _).drew | exact HSK.out _ HB1.out) (fun hHeld => ?_)
      clear hK K
      try simp only [Act.put, List.setIfInBounds_toArray, List.set_cons_zero, List.set_cons_succ]
      refine wpAnyH_ready (rs := [17]) (by kernel_rfl) (by simp) ?_
      refine AllReadyH.cons (tA rfl) (fun K hK => ?_) AllReadyH.nil
      refine step_append_lies _ (by rfl) _ _ 38 (by rfl) B 101 iw _ 3 24 Tryd.underlying38 hiw hp0 hp1 hp2 (by rfl) (by decide) (.slice a1 m1 p1) m1 _ (by rfl) HW1.out ⟨ZZ.heap.size, 0, none⟩ 1 1 (eC ((k : Int), 3, 3)) (by rfl) (by rfl) HNC.out (by intro u hu; simp [eC] at hu; rcases hu with rfl | rfl | rfl <;> rfl) (by decide) (by unfold maxLen; omega) (by omega) (by simp; omega) (ZZ.heap.size + 1) (by simp) ?_
      intro x1 cp Y6 ho6 hg6 hat6 hlt6
      have m6 : Y6.cell? ⟨b, 4, none⟩ = some (.slice a1 m1 p1) := hg6.cell FT (fun e => hvb e.symm)
      have z6 : Y6.frozen? ⟨b, 4, none⟩ = false := (hg6.frozen_far ⟨b, 4, none⟩ (Nat.lt_of_lt_of_le hty HB1.out.size) (fun e => hvb e.symm)).trans GT
      refine hK.out _ _ ⟨(hg6.cell (cell_up HB1.out cZ) (fun e => hvb e.symm)), (hg6.cell (cell_up HB1.out s10) (fun e => hvg e.symm))⟩ (fun hHeld => ?_)
      clear hK K
      try simp only [Act.put, List.setIfInBounds_toArray, List.set_cons_zero, List.set_cons_succ]
      refine tk (i := 18) (v := ?_) (tA rfl) (by kernel_rfl) (fun _ _ _ h => h) (Or.inl ⟨by rfl, ?_⟩) (by assumption) ?_
      rotate_left
      · (intro w hSw; (try dsimp only at hSw); go_simp <;> with_reducible rfl)
      simp only [Act.put, List.setIfInBounds_toArray, List.set_cons_zero, List.set_cons_succ]
      refine tk (i := 19) (v := ?_) (tA rfl) (by kernel_rfl) (fun _ _ _ h => h) (Or.inl ⟨by rfl, ?_⟩) (by assumption) ?_
      rotate_left
      · (intro w hSw; (try dsimp only at hSw); go_simp <;> with_reducible rfl)
      simp only [Act.put, List.setIfInBounds_toArray, List.set_cons_zero, List.set_cons_succ]
      refine wpAnyH_ready (rs := [20]) (by kernel_rfl) (by simp) ?_
      refine AllReadyH.cons (tA rfl) (fun K hK => ?_) AllReadyH.nil
      clear hHeld
      go_simp
      have ho7 : Y6.ownsRow B 101 3 (.slice (some ⟨x1, 0, none⟩) ((T.setC (M) k (T.trapC cc 3)).es.length + 1) cp) ((T.setC (M) k (T.trapC cc 3)).es.length + 1) ((T.setC (M) k (T.trapC cc 3)).es.flatMap eC ++ eC ((k : Int), 3, 3)) := by rw [HM1.out]; exact ho6
      obtain ⟨q1, q2⟩ := HXZ.out.saw HB1.out ho7 (HEV.out ▸ hg6) (by rw [HEV.out]; exact hat6.imp id (fun e => by omega))
      rw [HM1.out] at q1 q2
      obtain ⟨ZZ, hZZ⟩ : ∃ ZZ, Y6.setCell ⟨b, 4, none⟩ (.slice (some ⟨x1, 0, none⟩) (m1 + 1) cp) = ZZ := ⟨_, rfl⟩
      rw [hZZ] at q1 q2
      rw [hZZ]
      have HQ1 : Hid _ := q1
      have HQ2 : Hid (St t _ w ZZ) := HSZ2.out.trans q2
      refine hK.out _ _ ⟨(by have h9 := q1.c3; rw [show ((T.setC (M) k (T.trapC cc 3)).see k 3 3).ts.length = n from HLZ.out] at h9; exact h9), (by have h9 := q1.cell (k := k) HKZ.out HUZ.out 10 _ rfl; exact h9.trans (by show some (Value.int .i64 ((T.setC (M) k (T.trapC cc 3)).th k).c.tr) = _; rw [HC10.out]))⟩ (fun hHeld => ?_)
      clear hK K hZZ m6 z6 q1 q2 ho7 ho6 hg6 hat6 hlt6
      try simp only [Act.put, List.setIfInBounds_toArray, List.set_cons_zero, List.set_cons_succ]
      refine wpAnyH_done (by kernel_rfl) ?_ _
      clear hHeld
      go_wp2
      go_ret
      exact ⟨rfl, _, _, _, _, _, HQ1.out, HQ2.out⟩

end Go.Proofs.YtffokdldgdjkhaaDoor.X

/- The document's machine: a step at no instruction. (Written by gen_xstep.py.) -/
namespace Go.Proofs.YtffokdldgdjkhaaDoor.X
open Go.RowKit Go.Maps
set_option linter.unusedVariables false
set_option linter.unusedSimpArgs false

set_option maxRecDepth 100000 in
set_option maxHeartbeats 8000000 in
theorem xstep_code {B : Nat} {w : World} {b : Nat} {M : T.Mach} {t : Nat → Nat} {D Sk : List Int} {vd vs : Value} {g cap : Nat} {ev : Value} {us : List Value} (h : XV B w b M t D Sk vd vs g cap ev us) {k : Nat} (hk : k < M.ts.length) (hs : (M.th k).c.st = 0) (hes : M.es.length ≤ 1000000) (hcode : M.code.size ≤ 65536) (hin : 0 ≤ T.plc M k ∧ T.plc M k ≤ (M.code.size : Int)) (hd : T.decOk M.code (T.plc M k) = false) :
    Calls Tryd.prog 20 #[.pointer (some ⟨b, 0, none⟩), .int .i64 k] w fun e w' => e = .returned (.bool true) ∧ XGone B w w' b ((T.setC M k (T.trapC (M.th k).c 3)).see k 3 3) t vd vs g cap := by
  have hro := h.room
  obtain ⟨n, hn⟩ : ∃ n, M.ts.length = n := ⟨_, rfl⟩
  have HTL : Hid (M.ts.length = n) := hn
  rw [hn] at hro
  obtain ⟨r1, r2, r3, r4⟩ := hro
  have hkn : k < n := by omega
  unfold maxLen at r2
  have i1 : (k : Int) < (n : Int) := by omega
  have i0 : (0 : Int) ≤ (k : Int) := by omega
  obtain ⟨uw, huw⟩ := h.u hk
  have d0 : w.cell? ⟨g, k * 12, none⟩ = some (.int .i64 (M.th k).c.r0) := h.cell hk huw 0 _ rfl
  have d1 : w.cell? ⟨g, k * 12 + 1, none⟩ = some (.int .i64 (M.th k).c.r1) := h.cell hk huw 1 _ rfl
  have d2 : w.cell? ⟨g, k * 12 + 2, none⟩ = some (.int .i64 (M.th k).c.r2) := h.cell hk huw 2 _ rfl
  have d3 : w.cell? ⟨g, k * 12 + 3, none⟩ = some (.int .i64 (M.th k).c.r3) := h.cell hk huw 3 _ rfl
  have d4 : w.cell? ⟨g, k * 12 + 4, none⟩ = some (.int .i64 (M.th k).c.r4) := h.cell hk huw 4 _ rfl
  have d5 : w.cell? ⟨g, k * 12 + 5, none⟩ = some (.int .i64 (M.th k).c.r5) := h.cell hk huw 5 _ rfl
  have d6 : w.cell? ⟨g, k * 12 + 6, none⟩ = some (.int .i64 (M.th k).c.r6) := h.cell hk huw 6 _ rfl
  have d7 : w.cell? ⟨g, k * 12 + 7, none⟩ = some (.int .i64 (M.th k).c.r7) := h.cell hk huw 7 _ rfl
  have d8 : w.cell? ⟨g, k * 12 + 8, none⟩ = some (.int .i64 (M.th k).c.pc) := h.cell hk huw 8 _ rfl
  have d9 : w.cell? ⟨g, k * 12 + 9, none⟩ = some (.int .i64 (M.th k).c.st) := h.cell hk huw 9 _ rfl
  have d10 : w.cell? ⟨g, k * 12 + 10, none⟩ = some (.int .i64 (M.th k).c.tr) := h.cell hk huw 10 _ rfl
  have c3w := h.c3
  rw [hn] at c3w
  obtain ⟨cc, hcc⟩ : ∃ cc, (M.th k).c = cc := ⟨_, rfl⟩
  have HCC : Hid ((M.th k).c = cc) := hcc
  rw [hcc] at d0 d1 d2 d3 d4 d5 d6 d7 d8 d9 d10
  have HV0 : Hid (XV B w b M t D Sk vd vs g cap ev us) := h
  have HK0 : Hid (k < M.ts.length) := hk
  rw [hcc] at hs
  rw [hs] at d9
  have HS0 : Hid (cc.st = 0) := hs
  clear hs
  have c0w := h.c0
  obtain ⟨pl, hpl⟩ : ∃ pl, wrap64 (cc.pc - 4096) = pl := ⟨_, rfl⟩
  have hplc : T.plc M k = pl := by unfold T.plc; rw [hcc]; exact hpl
  have hw : IntKind.i64.wrap (cc.pc - 4096) = pl := by have h1 := hpl; unfold wrap64 at h1; rw [IntKind.wrap_i64]; exact h1
  obtain ⟨Y1, hY1⟩ : ∃ Y1, w.alloc (.cells #[.int .i64 cc.r0, .int .i64 cc.r1, .int .i64 cc.r2, .int .i64 cc.r3, .int .i64 cc.r4, .int .i64 cc.r5, .int .i64 cc.r6, .int .i64 cc.r7, .int .i64 cc.pc, .int .i64 0, .int .i64 cc.tr] 43) = Y1 := ⟨_, rfl⟩
  have bY1 : Below w.heap.size w Y1 := by subst hY1; exact bl_one _ _
  have sY1 : w.heap.size < Y1.heap.size := by subst hY1; simp
  have HZ1 : Hid (∀ o, Y1.frozen? ⟨w.heap.size, o, none⟩ = false) := fun o => by subst hY1; exact World.frozen?_alloc_at _ _ _ _ rfl
  have HP1 : Hid (∀ j u, (cV cc)[j]? = some u → Y1.cell? ⟨w.heap.size, j, none⟩ = some u) := fun j u hu => by
    subst hY1
    refine cell_last _ _ _ _ _ rfl ?_
    rw [← HS0.out]
    simpa [cV] using hu
  have p0 : Y1.cell? ⟨w.heap.size, 0, none⟩ = some (.int .i64 cc.r0) := by subst hY1; exact cell_last _ _ _ _ _ rfl rfl
  have p1 : Y1.cell? ⟨w.heap.size, 1, none⟩ = some (.int .i64 cc.r1) := by subst hY1; exact cell_last _ _ _ _ _ rfl rfl
  have p2 : Y1.cell? ⟨w.heap.size, 2, none⟩ = some (.int .i64 cc.r2) := by subst hY1; exact cell_last _ _ _ _ _ rfl rfl
  have p3 : Y1.cell? ⟨w.heap.size, 3, none⟩ = some (.int .i64 cc.r3) := by subst hY1; exact cell_last _ _ _ _ _ rfl rfl
  have p4 : Y1.cell? ⟨w.heap.size, 4, none⟩ = some (.int .i64 cc.r4) := by subst hY1; exact cell_last _ _ _ _ _ rfl rfl
  have p5 : Y1.cell? ⟨w.heap.size, 5, none⟩ = some (.int .i64 cc.r5) := by subst hY1; exact cell_last _ _ _ _ _ rfl rfl
  have p6 : Y1.cell? ⟨w.heap.size, 6, none⟩ = some (.int .i64 cc.r6) := by subst hY1; exact cell_last _ _ _ _ _ rfl rfl
  have p7 : Y1.cell? ⟨w.heap.size, 7, none⟩ = some (.int .i64 cc.r7) := by subst hY1; exact cell_last _ _ _ _ _ rfl rfl
  have p8 : Y1.cell? ⟨w.heap.size, 8, none⟩ = some (.int .i64 cc.pc) := by subst hY1; exact cell_last _ _ _ _ _ rfl rfl
  have p9 : Y1.cell? ⟨w.heap.size, 9, none⟩ = some (.int .i64 0) := by subst hY1; exact cell_last _ _ _ _ _ rfl rfl
  have p10 : Y1.cell? ⟨w.heap.size, 10, none⟩ = some (.int .i64 cc.tr) := by subst hY1; exact cell_last _ _ _ _ _ rfl rfl
  have bY2 : Below Y1.heap.size Y1 (Y1.alloc (.cells #[.int .i64 0, .int .i64 0, .int .i64 0, .int .i64 0] 62)) := bl_one _ _
  have HZ2 : Hid (∀ o, (Y1.alloc (.cells #[.int .i64 0, .int .i64 0, .int .i64 0, .int .i64 0] 62)).frozen? ⟨Y1.heap.size, o, none⟩ = false) := fun o => World.frozen?_alloc_at _ _ _ _ rfl
  have p0 := cell_up bY2 p0
  have p1 := cell_up bY2 p1
  have p2 := cell_up bY2 p2
  have p3 := cell_up bY2 p3
  have p4 := cell_up bY2 p4
  have p5 := cell_up bY2 p5
  have p6 := cell_up bY2 p6
  have p7 := cell_up bY2 p7
  have p8 := cell_up bY2 p8
  have p9 := cell_up bY2 p9
  have p10 := cell_up bY2 p10
  have c0 := cell_up bY2 (cell_up bY1 c0w)
  have HB2 : Hid (Below w.heap.size w (Y1.alloc (.cells #[.int .i64 0, .int .i64 0, .int .i64 0, .int .i64 0] 62))) := bY1.trans (bY2.mono (Nat.le_of_lt sY1))
  rw [hplc] at hd hin
  have hr : I.decR M.code pl = decV (insW 0 0 0 0) 0 9 := by
    unfold T.decOk at hd
    unfold I.decR
    rw [if_neg (by omega)]
    rw [decide_eq_true hin, Bool.true_and] at hd
    rw [if_neg (by rw [hd]; decide)]
  have hdec := rdecode_any M.code pl (by omega) (Y1.alloc (.cells #[.int .i64 0, .int .i64 0, .int .i64 0, .int .i64 0] 62))
  rw [hr] at hdec
  have HD : Hid _ := hdec
  have HIN : Hid (0 ≤ pl ∧ pl ≤ (M.code.size : Int)) := hin
  obtain ⟨hin0, hin1⟩ := hin
  have H3 : Hid (∀ y3 : World, Below (Y1.alloc (.cells #[.int .i64 0, .int .i64 0, .int .i64 0, .int .i64 0] 62)).heap.size (Y1.alloc (.cells #[.int .i64 0, .int .i64 0, .int .i64 0, .int .i64 0] 62)) y3 → y3.cell? ⟨w.heap.size, 0, none⟩ = some (.int .i64 cc.r0) ∧ y3.cell? ⟨w.heap.size, 1, none⟩ = some (.int .i64 cc.r1) ∧ y3.cell? ⟨w.heap.size, 2, none⟩ = some (.int .i64 cc.r2) ∧ y3.cell? ⟨w.heap.size, 3, none⟩ = some (.int .i64 cc.r3) ∧ y3.cell? ⟨w.heap.size, 4, none⟩ = some (.int .i64 cc.r4) ∧ y3.cell? ⟨w.heap.size, 5, none⟩ = some (.int .i64 cc.r5) ∧ y3.cell? ⟨w.heap.size, 6, none⟩ = some (.int .i64 cc.r6) ∧ y3.cell? ⟨w.heap.size, 7, none⟩ = some (.int .i64 cc.r7) ∧ y3.cell? ⟨w.heap.size, 8, none⟩ = some (.int .i64 cc.pc) ∧ y3.cell? ⟨w.heap.size, 9, none⟩ = some (.int .i64 0) ∧ y3.cell? ⟨w.heap.size, 10, none⟩ = some (.int .i64 cc.tr) ∧ y3.cell? ⟨Y1.heap.size, 0, none⟩ = some (.int .i64 0) ∧ y3.cell? ⟨Y1.heap.size, 1, none⟩ = some (.int .i64 0) ∧ y3.cell? ⟨Y1.heap.size, 2, none⟩ = some (.int .i64 0) ∧ y3.cell? ⟨Y1.heap.size, 3, none⟩ = some (.int .i64 0) ∧ y3.frozen? ⟨Y1.heap.size, 0, none⟩ = false ∧ y3.frozen? ⟨Y1.heap.size, 1, none⟩ = false ∧ y3.frozen? ⟨Y1.heap.size, 2, none⟩ = false ∧ y3.frozen? ⟨Y1.heap.size, 3, none⟩ = false ∧ (∀ o, y3.frozen? ⟨w.heap.size, o, none⟩ = false)) := fun y3 hb3 => ⟨cell_up hb3 p0, cell_up hb3 p1, cell_up hb3 p2, cell_up hb3 p3, cell_up hb3 p4, cell_up hb3 p5, cell_up hb3 p6, cell_up hb3 p7, cell_up hb3 p8, cell_up hb3 p9, cell_up hb3 p10, cell_up hb3 (cell_last _ _ _ _ _ rfl rfl), cell_up hb3 (cell_last _ _ _ _ _ rfl rfl), cell_up hb3 (cell_last _ _ _ _ _ rfl rfl), cell_up hb3 (cell_last _ _ _ _ _ rfl rfl), (hb3.frozen (p := ⟨Y1.heap.size, 0, none⟩) (by simp)).trans (HZ2.out 0), (hb3.frozen (p := ⟨Y1.heap.size, 1, none⟩) (by simp)).trans (HZ2.out 1), (hb3.frozen (p := ⟨Y1.heap.size, 2, none⟩) (by simp)).trans (HZ2.out 2), (hb3.frozen (p := ⟨Y1.heap.size, 3, none⟩) (by simp)).trans (HZ2.out 3), fun o => (hb3.frozen (p := ⟨w.heap.size, o, none⟩) (Nat.lt_of_lt_of_le sY1 bY2.size)).trans ((bY2.frozen (p := ⟨w.heap.size, o, none⟩) sY1).trans (HZ1.out o))⟩
  have HBB : Hid (∀ y3 : World, Below (Y1.alloc (.cells #[.int .i64 0, .int .i64 0, .int .i64 0, .int .i64 0] 62)).heap.size (Y1.alloc (.cells #[.int .i64 0, .int .i64 0, .int .i64 0, .int .i64 0] 62)) y3 → Below w.heap.size w y3) := fun y3 hb3 => HB2.out.trans (hb3.mono HB2.out.size)
  have HTX : Hid (t w.heap.size = 0) := Classical.byContradiction fun e => by have := (h.lt _ e).2; omega
  have HKY : Hid (k < M.ts.length) := hk
  have HLN : Hid (M.ts.length = n) := hn
  have HES : Hid ((T.setC M k (T.trapC cc 3)).es.length ≤ 1000001) := by show M.es.length ≤ _; omega
  rw [hcc]
  clear h hk hn huw hcc hpl hplc hes hdec hr hd p0 p1 p2 p3 p4 p5 p6 p7 p8 p9 p10
  have p8 := cell_up bY2 (HP1.out 8 _ rfl)
  go_enter Tryd.func20, Tryd.ntmps20
  go_wp2_with fail
  refine Calls.mono HD.out ?_
  rintro e y3 ⟨rfl, hb3⟩
  obtain ⟨p0, p1, p2, p3, p4, p5, p6, p7, p8, p9, p10, q0, q1, q2, q3, zf0, zf1, zf2, zf3, zz⟩ := H3.out y3 hb3
  have z9 := zz 9
  have z10 := zz 10
  clear zz
  go_wp2_with fail
  have hb4 : Below w.heap.size w ((((y3.setCell ⟨Y1.heap.size, 0, none⟩ (.int .i64 0)).setCell ⟨Y1.heap.size, 1, none⟩ (.int .i64 0)).setCell ⟨Y1.heap.size, 2, none⟩ (.int .i64 0)).setCell ⟨Y1.heap.size, 3, none⟩ (.int .i64 0)) := ((((HBB.out y3 hb3).setCell (Nat.le_of_lt sY1) _).setCell (Nat.le_of_lt sY1) _).setCell (Nat.le_of_lt sY1) _).setCell (Nat.le_of_lt sY1) _
  have HPB : Hid (∀ j u, (cV cc)[j]? = some u → ((((y3.setCell ⟨Y1.heap.size, 0, none⟩ (.int .i64 0)).setCell ⟨Y1.heap.size, 1, none⟩ (.int .i64 0)).setCell ⟨Y1.heap.size, 2, none⟩ (.int .i64 0)).setCell ⟨Y1.heap.size, 3, none⟩ (.int .i64 0)).cell? ⟨w.heap.size, j, none⟩ = some u) := fun j u hu => by
    have hne : Y1.heap.size ≠ w.heap.size := Nat.ne_of_gt sY1
    rw [World.cell?_setCell_far _ _ _ _ hne, World.cell?_setCell_far _ _ _ _ hne, World.cell?_setCell_far _ _ _ _ hne, World.cell?_setCell_far _ _ _ _ hne]
    exact cell_up hb3 (cell_up bY2 (HP1.out j u hu))
  obtain ⟨Y4, hY4⟩ : ∃ Y4, ((((((y3.setCell ⟨Y1.heap.size, 0, none⟩ (.int .i64 0)).setCell ⟨Y1.heap.size, 1, none⟩ (.int .i64 0)).setCell ⟨Y1.heap.size, 2, none⟩ (.int .i64 0)).setCell ⟨Y1.heap.size, 3, none⟩ (.int .i64 0)).setCell ⟨w.heap.size, 9, none⟩ (.int .i64 2)).setCell ⟨w.heap.size, 10, none⟩ (.int .i64 3)) = Y4 := ⟨_, rfl⟩
  have hb5 : Below w.heap.size w Y4 := by rw [← hY4]; exact (hb4.setCell (Nat.le_refl _) _).setCell (Nat.le_refl _) _
  have HPC : Hid (∀ j u, (cV (T.trapC cc 3))[j]? = some u → Y4.cell? ⟨w.heap.size, j, none⟩ = some u) := fun j u hu => by
    rw [← hY4]
    exact trap_cells 3 HPB.out j u hu
  have HV4 : Hid (XV B Y4 b M t D Sk vd vs g cap ev us) := HV0.out.below hb5
  have HS4 : Hid (St t t w Y4) := St.ofBelow t hb5
  have c3y := cell_up hb5 c3w
  rw [hY4]
  clear hY4 hb4 hb5 HPB p0 p1 p2 p3 p4 p5 p6 p7 p8 p9 p10 q0 q1 q2 q3 zf0 zf1 zf2 zf3 z9 z10 d0 d1 d2 d3 d4 d5 d6 d7 d8 d9 d10 c3w c0 c0w hY1 hb3
  have p0 : Y4.cell? ⟨w.heap.size, 0, none⟩ = some (.int .i64 (T.trapC cc 3).r0) := HPC.out 0 _ rfl
  have p1 : Y4.cell? ⟨w.heap.size, 1, none⟩ = some (.int .i64 (T.trapC cc 3).r1) := HPC.out 1 _ rfl
  have p2 : Y4.cell? ⟨w.heap.size, 2, none⟩ = some (.int .i64 (T.trapC cc 3).r2) := HPC.out 2 _ rfl
  have p3 : Y4.cell? ⟨w.heap.size, 3, none⟩ = some (.int .i64 (T.trapC cc 3).r3) := HPC.out 3 _ rfl
  have p4 : Y4.cell? ⟨w.heap.size, 4, none⟩ = some (.int .i64 (T.trapC cc 3).r4) := HPC.out 4 _ rfl
  have p5 : Y4.cell? ⟨w.heap.size, 5, none⟩ = some (.int .i64 (T.trapC cc 3).r5) := HPC.out 5 _ rfl
  have p6 : Y4.cell? ⟨w.heap.size, 6, none⟩ = some (.int .i64 (T.trapC cc 3).r6) := HPC.out 6 _ rfl
  have p7 : Y4.cell? ⟨w.heap.size, 7, none⟩ = some (.int .i64 (T.trapC cc 3).r7) := HPC.out 7 _ rfl
  have p8 : Y4.cell? ⟨w.heap.size, 8, none⟩ = some (.int .i64 (T.trapC cc 3).pc) := HPC.out 8 _ rfl
  have p9 : Y4.cell? ⟨w.heap.size, 9, none⟩ = some (.int .i64 (T.trapC cc 3).st) := HPC.out 9 _ rfl
  have p10 : Y4.cell? ⟨w.heap.size, 10, none⟩ = some (.int .i64 (T.trapC cc 3).tr) := HPC.out 10 _ rfl
  have HSK : Hid (∀ zq : World, Below Y4.heap.size Y4 zq → (fun w' : World => w'.cell? ⟨b, 3, none⟩ = some (.slice (some ⟨g, 0, none⟩) n cap) ∧ w'.cell? ⟨w.heap.size, 0, none⟩ = some (.int .i64 (T.trapC cc 3).r0) ∧ w'.cell? ⟨w.heap.size, 1, none⟩ = some (.int .i64 (T.trapC cc 3).r1) ∧ w'.cell? ⟨w.heap.size, 2, none⟩ = some (.int .i64 (T.trapC cc 3).r2) ∧ w'.cell? ⟨w.heap.size, 3, none⟩ = some (.int .i64 (T.trapC cc 3).r3) ∧ w'.cell? ⟨w.heap.size, 4, none⟩ = some (.int .i64 (T.trapC cc 3).r4) ∧ w'.cell? ⟨w.heap.size, 5, none⟩ = some (.int .i64 (T.trapC cc 3).r5) ∧ w'.cell? ⟨w.heap.size, 6, none⟩ = some (.int .i64 (T.trapC cc 3).r6) ∧ w'.cell? ⟨w.heap.size, 7, none⟩ = some (.int .i64 (T.trapC cc 3).r7) ∧ w'.cell? ⟨w.heap.size, 8, none⟩ = some (.int .i64 (T.trapC cc 3).pc) ∧ w'.cell? ⟨w.heap.size, 9, none⟩ = some (.int .i64 (T.trapC cc 3).st) ∧ w'.cell? ⟨w.heap.size, 10, none⟩ = some (.int .i64 (T.trapC cc 3).tr)) zq) := fun zq hz => ⟨cell_up hz c3y, cell_up hz p0, cell_up hz p1, cell_up hz p2, cell_up hz p3, cell_up hz p4, cell_up hz p5, cell_up hz p6, cell_up hz p7, cell_up hz p8, cell_up hz p9, cell_up hz p10⟩
  obtain ⟨uY, huY⟩ := HV4.out.u HKY.out
  have HUY : Hid _ := huY
  refine wp_region_held_drew (S := (fun w' : World => w'.cell? ⟨b, 3, none⟩ = some (.slice (some ⟨g, 0, none⟩) n cap) ∧ w'.cell? ⟨w.heap.size, 0, none⟩ = some (.int .i64 (T.trapC cc 3).r0) ∧ w'.cell? ⟨w.heap.size, 1, none⟩ = some (.int .i64 (T.trapC cc 3).r1) ∧ w'.cell? ⟨w.heap.size, 2, none⟩ = some (.int .i64 (T.trapC cc 3).r2) ∧ w'.cell? ⟨w.heap.size, 3, none⟩ = some (.int .i64 (T.trapC cc 3).r3) ∧ w'.cell? ⟨w.heap.size, 4, none⟩ = some (.int .i64 (T.trapC cc 3).r4) ∧ w'.cell? ⟨w.heap.size, 5, none⟩ = some (.int .i64 (T.trapC cc 3).r5) ∧ w'.cell? ⟨w.heap.size, 6, none⟩ = some (.int .i64 (T.trapC cc 3).r6) ∧ w'.cell? ⟨w.heap.size, 7, none⟩ = some (.int .i64 (T.trapC cc 3).r7) ∧ w'.cell? ⟨w.heap.size, 8, none⟩ = some (.int .i64 (T.trapC cc 3).pc) ∧ w'.cell? ⟨w.heap.size, 9, none⟩ = some (.int .i64 (T.trapC cc 3).st) ∧ w'.cell? ⟨w.heap.size, 10, none⟩ = some (.int .i64 (T.trapC cc 3).tr))) (by kernel_rfl) (HSK.out _ (Below.refl _ _).drew) (fun hHeld => ?_)
  obtain ⟨Yd, hYd⟩ : ∃ Yd, Y4.drew = Yd := ⟨_, rfl⟩
  have hbd : Below Y4.heap.size Y4 Yd := by rw [← hYd]; exact (Below.refl _ _).drew
  rw [hYd] at hHeld
  rw [hYd]
  clear hYd
  have hvd := HV4.out.below hbd
  have HVD : Hid _ := hvd
  have HSD : Hid (St t _ w Yd) := HS4.out.trans (St.ofBelow _ hbd)
  refine tk (i := 0) (v := ?_) (tA rfl) (by kernel_rfl) (fun _ _ _ h => h) (Or.inl ⟨by rfl, ?_⟩) (by assumption) ?_
  rotate_left
  · (intro w hSw; (try dsimp only at hSw); go_simp <;> with_reducible rfl)
  simp only [Act.put, List.setIfInBounds_toArray, List.set_cons_zero, List.set_cons_succ]
  refine tk (i := 1) (v := ?_) (tA rfl) (by kernel_rfl) (fun _ _ _ h => h) (Or.inl ⟨by rfl, ?_⟩) (by assumption) ?_
  rotate_left
  · (intro w hSw; (try dsimp only at hSw); go_simp <;> with_reducible rfl)
  simp only [Act.put, List.setIfInBounds_toArray, List.set_cons_zero, List.set_cons_succ]
  refine tk (i := 2) (v := ?_) (tA rfl) (by kernel_rfl) (fun _ _ _ h => h) (Or.inl ⟨by rfl, ?_⟩) (by assumption) ?_
  rotate_left
  · (intro w hSw; (try dsimp only at hSw); go_simp <;> with_reducible rfl)
  simp only [Act.put, List.setIfInBounds_toArray, List.set_cons_zero, List.set_cons_succ]
  refine tk (i := 3) (v := ?_) (tA rfl) (by kernel_rfl) (fun _ _ _ h => h) (Or.inl ⟨by rfl, ?_⟩) (by assumption) ?_
  rotate_left
  · (intro w hSw; (try dsimp only at hSw); go_simp <;> with_reducible rfl)
  simp only [Act.put, List.setIfInBounds_toArray, List.set_cons_zero, List.set_cons_succ]
  refine tk (i := 4) (v := ?_) (tA rfl) (by kernel_rfl) (fun _ _ _ h => h) (Or.inl ⟨by rfl, ?_⟩) (by assumption) ?_
  rotate_left
  · (intro w hSw; (try dsimp only at hSw); go_simp <;> with_reducible rfl)
  simp only [Act.put, List.setIfInBounds_toArray, List.set_cons_zero, List.set_cons_succ]
  refine tk (i := 5) (v := ?_) (tA rfl) (by kernel_rfl) (fun _ _ _ h => h) (Or.inl ⟨by rfl, ?_⟩) (by assumption) ?_
  rotate_left
  · (intro w hSw; (try dsimp only at hSw); go_simp <;> with_reducible rfl)
  simp only [Act.put, List.setIfInBounds_toArray, List.set_cons_zero, List.set_cons_succ]
  refine tk (i := 6) (v := ?_) (tA rfl) (by kernel_rfl) (fun _ _ _ h => h) (Or.inl ⟨by rfl, ?_⟩) (by assumption) ?_
  rotate_left
  · (intro w hSw; (try dsimp only at hSw); go_simp <;> with_reducible rfl)
  simp only [Act.put, List.setIfInBounds_toArray, List.set_cons_zero, List.set_cons_succ]
  refine tk (i := 7) (v := ?_) (tA rfl) (by kernel_rfl) (fun _ _ _ h => h) (Or.inl ⟨by rfl, ?_⟩) (by assumption) ?_
  rotate_left
  · (intro w hSw; (try dsimp only at hSw); go_simp <;> with_reducible rfl)
  simp only [Act.put, List.setIfInBounds_toArray, List.set_cons_zero, List.set_cons_succ]
  refine wpAnyH_ready (rs := [8]) (by kernel_rfl) (by simp) ?_
  refine AllReadyH.cons (tA rfl) (fun K hK => ?_) AllReadyH.nil
  have e0 : Yd.cell? ⟨g, k * 12, none⟩ = some (.int .i64 ((M).th k).c.r0) := hvd.cell HKY.out HUY.out 0 _ rfl
  have f0 := hvd.gz (k * 12)
  have e1 : Yd.cell? ⟨g, k * 12 + 1, none⟩ = some (.int .i64 ((M).th k).c.r1) := hvd.cell HKY.out HUY.out 1 _ rfl
  have f1 := hvd.gz (k * 12 + 1)
  have e2 : Yd.cell? ⟨g, k * 12 + 2, none⟩ = some (.int .i64 ((M).th k).c.r2) := hvd.cell HKY.out HUY.out 2 _ rfl
  have f2 := hvd.gz (k * 12 + 2)
  have e3 : Yd.cell? ⟨g, k * 12 + 3, none⟩ = some (.int .i64 ((M).th k).c.r3) := hvd.cell HKY.out HUY.out 3 _ rfl
  have f3 := hvd.gz (k * 12 + 3)
  have e4 : Yd.cell? ⟨g, k * 12 + 4, none⟩ = some (.int .i64 ((M).th k).c.r4) := hvd.cell HKY.out HUY.out 4 _ rfl
  have f4 := hvd.gz (k * 12 + 4)
  have e5 : Yd.cell? ⟨g, k * 12 + 5, none⟩ = some (.int .i64 ((M).th k).c.r5) := hvd.cell HKY.out HUY.out 5 _ rfl
  have f5 := hvd.gz (k * 12 + 5)
  have e6 : Yd.cell? ⟨g, k * 12 + 6, none⟩ = some (.int .i64 ((M).th k).c.r6) := hvd.cell HKY.out HUY.out 6 _ rfl
  have f6 := hvd.gz (k * 12 + 6)
  have e7 : Yd.cell? ⟨g, k * 12 + 7, none⟩ = some (.int .i64 ((M).th k).c.r7) := hvd.cell HKY.out HUY.out 7 _ rfl
  have f7 := hvd.gz (k * 12 + 7)
  have e8 : Yd.cell? ⟨g, k * 12 + 8, none⟩ = some (.int .i64 ((M).th k).c.pc) := hvd.cell HKY.out HUY.out 8 _ rfl
  have f8 := hvd.gz (k * 12 + 8)
  have e9 : Yd.cell? ⟨g, k * 12 + 9, none⟩ = some (.int .i64 ((M).th k).c.st) := hvd.cell HKY.out HUY.out 9 _ rfl
  have f9 := hvd.gz (k * 12 + 9)
  have e10 : Yd.cell? ⟨g, k * 12 + 10, none⟩ = some (.int .i64 ((M).th k).c.tr) := hvd.cell HKY.out HUY.out 10 _ rfl
  have f10 := hvd.gz (k * 12 + 10)
  clear hvd hHeld huY p0 p1 p2 p3 p4 p5 p6 p7 p8 p9 p10
  go_simp
  obtain ⟨HXX, HSS⟩ := HVD.out.regs HKY.out rfl (T.trapC cc 3)
  obtain ⟨ZZ, hZZ⟩ : ∃ ZZ, (((((((((((Yd.setCell ⟨g, k * 12, none⟩ (.int .i64 (T.trapC cc 3).r0)).setCell ⟨g, k * 12 + 1, none⟩ (.int .i64 (T.trapC cc 3).r1)).setCell ⟨g, k * 12 + 2, none⟩ (.int .i64 (T.trapC cc 3).r2)).setCell ⟨g, k * 12 + 3, none⟩ (.int .i64 (T.trapC cc 3).r3)).setCell ⟨g, k * 12 + 4, none⟩ (.int .i64 (T.trapC cc 3).r4)).setCell ⟨g, k * 12 + 5, none⟩ (.int .i64 (T.trapC cc 3).r5)).setCell ⟨g, k * 12 + 6, none⟩ (.int .i64 (T.trapC cc 3).r6)).setCell ⟨g, k * 12 + 7, none⟩ (.int .i64 (T.trapC cc 3).r7)).setCell ⟨g, k * 12 + 8, none⟩ (.int .i64 (T.trapC cc 3).pc)).setCell ⟨g, k * 12 + 9, none⟩ (.int .i64 (T.trapC cc 3).st)).setCell ⟨g, k * 12 + 10, none⟩ (.int .i64 (T.trapC cc 3).tr)) = ZZ := ⟨_, rfl⟩
  rw [hZZ] at HXX HSS
  rw [hZZ]
  have cZ : ZZ.cell? ⟨b, 3, none⟩ = some (.slice (some ⟨g, 0, none⟩) n cap) := by have h9 := HXX.c3; rw [T.len_setC, HLN.out] at h9; exact h9
  have HXZ : Hid _ := HXX
  have HSZ2 : Hid (St t _ w ZZ) := HSD.out.trans HSS
  have HKZ : Hid (k < (T.setC (M) k (T.trapC cc 3)).ts.length) := by show k < _; rw [T.len_setC]; exact HKY.out
  have HTZ : Hid ((T.setC (M) k (T.trapC cc 3)).th k = ⟨T.trapC cc 3, ((M).th k).ws⟩) := T.th_setC HKY.out _
  have HUZ : Hid _ := HUY.out
  have HSO : Hid (∀ (p : Addr) (v : Value), t p.block = 0 → Y4.cell? p = some v → ZZ.cell? p = some v) := fun p v h0 hv => st_cell HSS h0 (cell_up hbd hv)
  have HSF : Hid (∀ (p : Addr), p.block < Y4.heap.size → t p.block = 0 → ZZ.frozen? p = Y4.frozen? p) := fun p hp h0 => (World.frozen?_of_block (HSS.block p.block (Nat.lt_of_lt_of_le hp hbd.size) h0)).trans (hbd.frozen hp)
  clear hZZ HXX HSS e0 f0 e1 f1 e2 f2 e3 f3 e4 f4 e5 f5 e6 f6 e7 f7 e8 f8 e9 f9 e10 f10
  refine hK.out _ _ ⟨cZ, HSO.out ⟨w.heap.size, 0, none⟩ _ HTX.out (HPC.out 0 _ rfl), HSO.out ⟨w.heap.size, 1, none⟩ _ HTX.out (HPC.out 1 _ rfl), HSO.out ⟨w.heap.size, 2, none⟩ _ HTX.out (HPC.out 2 _ rfl), HSO.out ⟨w.heap.size, 3, none⟩ _ HTX.out (HPC.out 3 _ rfl), HSO.out ⟨w.heap.size, 4, none⟩ _ HTX.out (HPC.out 4 _ rfl), HSO.out ⟨w.heap.size, 5, none⟩ _ HTX.out (HPC.out 5 _ rfl), HSO.out ⟨w.heap.size, 6, none⟩ _ HTX.out (HPC.out 6 _ rfl), HSO.out ⟨w.heap.size, 7, none⟩ _ HTX.out (HPC.out 7 _ rfl), HSO.out ⟨w.heap.size, 8, none⟩ _ HTX.out (HPC.out 8 _ rfl), HSO.out ⟨w.heap.size, 9, none⟩ _ HTX.out (HPC.out 9 _ rfl), HSO.out ⟨w.heap.size, 10, none⟩ _ HTX.out (HPC.out 10 _ rfl)⟩ (fun hHeld => ?_)
  clear hK K hbd
  try simp only [Act.put, List.setIfInBounds_toArray, List.set_cons_zero, List.set_cons_succ]
  refine wpAnyH_done (by kernel_rfl) ?_ _
  clear hHeld HSK
  have s9 : ZZ.cell? ⟨g, k * 12 + 9, none⟩ = some (.int .i64 2) := by have h9 := HXZ.out.cell HKZ.out HUZ.out 9 _ rfl; rw [HTZ.out] at h9; exact h9
  have s10 : ZZ.cell? ⟨g, k * 12 + 10, none⟩ = some (.int .i64 3) := by have h9 := HXZ.out.cell HKZ.out HUZ.out 10 _ rfl; rw [HTZ.out] at h9; exact h9
  have HC10 : Hid (((T.setC (M) k (T.trapC cc 3)).th k).c.tr = 3) := by show _ = _; rw [HTZ.out]; rfl
  have HLZ : Hid ((T.setC (M) k (T.trapC cc 3)).ts.length = n) := (T.len_setC _ _ _).trans HLN.out
  obtain ⟨iw, hiw, hp0, hp1, hp2⟩ := info_partsL infoE
  have d1 := HXZ.out.c4
  have hr1 := HXZ.out.evs
  have hg1 := HXZ.out.fz 4
  have hty : b < ZZ.heap.size := HXZ.out.bl
  obtain ⟨a1, p1, hev, hnp, hpm⟩ := own_sl hr1
  obtain ⟨m1, hm1⟩ : ∃ m1, (T.setC (M) k (T.trapC cc 3)).es.length = m1 := ⟨_, rfl⟩
  have hm1e : m1 ≤ 1000001 := by rw [← hm1]; exact HES.out
  rw [hm1] at hev hnp hr1
  have HEV : Hid _ := hev
  have HM1 : Hid ((T.setC (M) k (T.trapC cc 3)).es.length = m1) := hm1
  have hvb : (Value.slice a1 m1 p1).ownBlock ≠ some b := fun e => by have e1 := HXZ.out.te b (by rw [hev]; exact e); have e2 := HXZ.out.tb; omega
  have hvg : (Value.slice a1 m1 p1).ownBlock ≠ some g := fun e => by have e1 := HXZ.out.te g (by rw [hev]; exact e); have e2 := HXZ.out.tg; omega
  have hBy := HXZ.out.hB
  rw [hev] at d1 hr1
  unfold maxLen at hpm
  clear hm1 hev
  go_wp2_with fail
  have HB1 : Hid (Below ZZ.heap.size ZZ (ZZ.alloc (.cells #[.int .i64 (k : Int), .int .i64 3, .int .i64 3] 101)).drew) := (bl_one _ _).drew
  have HW1 : Hid ((ZZ.alloc (.cells #[.int .i64 (k : Int), .int .i64 3, .int .i64 3] 101)).drew.ownsRow B 101 3 (.slice a1 m1 p1) m1 ((T.setC (M) k (T.trapC cc 3)).es.flatMap eC)) := hr1.kept (gb_of_below HB1.out (some ZZ.heap.size)) (.inr fun e => by have := own_lt hr1 e; omega)
  have HNC : Hid (∀ j u, (eC ((k : Int), 3, 3))[j]? = some u → (ZZ.alloc (.cells #[.int .i64 (k : Int), .int .i64 3, .int .i64 3] 101)).drew.cell? ((⟨ZZ.heap.size, 0, none⟩ : Addr).add j) = some u) := fun j u hu => by
    rw [Addr.add_lit, Nat.zero_add]
    exact cell_last _ _ _ _ _ rfl (by simpa [eC] using hu)
  have HSK : Hid (∀ z : World, Below ZZ.heap.size ZZ z → (fun w' : World => w'.cell? ⟨b, 3, none⟩ = some (.slice (some ⟨g, 0, none⟩) n cap) ∧ w'.cell? ⟨g, k * 12 + 10, none⟩ = some (.int .i64 3)) z) := fun z hz => ⟨cell_up hz cZ, cell_up hz s10⟩
  have FT : (ZZ.alloc (.cells #[.int .i64 (k : Int), .int .i64 3, .int .i64 3] 101)).drew.cell? ⟨b, 4, none⟩ = some (.slice a1 m1 p1) := cell_up HB1.out d1
  have GT : (ZZ.alloc (.cells #[.int .i64 (k : Int), .int .i64 3, .int .i64 3] 101)).drew.frozen? ⟨b, 4, none⟩ = false := (HB1.out.frozen (p := ⟨b, 4, none⟩) hty).trans hg1
  have HD1 : Hid _ := d1
  have HR1 : Hid _ := hr1
  clear hr1
  refine wp_region_held_drew (S := (fun w' : World => w'.cell? ⟨b, 3, none⟩ = some (.slice (some ⟨g, 0, none⟩) n cap) ∧ w'.cell? ⟨g, k * 12 + 10, none⟩ = some (.int .i64 3))) (by kernel_rfl) (HSK.out _ (Below.refl _ _).drew) (fun hHeld => ?_)
  refine tk (i := 0) (v := ?_) (tA rfl) (by kernel_rfl) (fun _ _ _ h => h) (Or.inl ⟨by rfl, ?_⟩) (by assumption) ?_
  rotate_left
  · (intro w hSw; (try dsimp only at hSw); go_simp <;> with_reducible rfl)
  simp only [Act.put, List.setIfInBounds_toArray, List.set_cons_zero, List.set_cons_succ]
  refine tk (i := 1) (v := ?_) (tA rfl) (by kernel_rfl) (fun _ _ _ h => h) (Or.inl ⟨by rfl, ?_⟩) (by assumption) ?_
  rotate_left
  · (intro w hSw; (try dsimp only at hSw); go_simp <;> with_reducible rfl)
  simp only [Act.put, List.setIfInBounds_toArray, List.set_cons_zero, List.set_cons_succ]
  refine tk (i := 2) (v := ?_) (tA rfl) (by kernel_rfl) (fun _ _ _ h => h) (Or.inl ⟨by rfl, ?_⟩) (by assumption) ?_
  rotate_left
  · (intro w hSw; (try dsimp only at hSw); go_simp <;> with_reducible rfl)
  simp only [Act.put, List.setIfInBounds_toArray, List.set_cons_zero, List.set_cons_succ]
  refine tk (i := 3) (v := ?_) (tA rfl) (by kernel_rfl) (fun _ _ _ h => h) (Or.inl ⟨by rfl, ?_⟩) (by assumption) ?_
  rotate_left
  · (intro w hSw; (try dsimp only at hSw); go_simp <;> with_reducible rfl)
  simp only [Act.put, List.setIfInBounds_toArray, List.set_cons_zero, List.set_cons_succ]
  refine tk (i := 5) (v := ?_) (tA rfl) (by kernel_rfl) (fun _ _ _ h => h) (Or.inl ⟨by rfl, ?_⟩) (by assumption) ?_
  rotate_left
  · (intro w hSw; (try dsimp only at hSw); go_simp <;> with_reducible rfl)
  simp only [Act.put, List.setIfInBounds_toArray, List.set_cons_zero, List.set_cons_succ]
  refine tk (i := 6) (v := ?_) (tA rfl) (by kernel_rfl) (fun _ _ _ h => h) (Or.inl ⟨by rfl, ?_⟩) (by assumption) ?_
  rotate_left
  · (intro w hSw; (try dsimp only at hSw); go_simp <;> with_reducible rfl)
  simp only [Act.put, List.setIfInBounds_toArray, List.set_cons_zero, List.set_cons_succ]
  refine tk (i := 7) (v := ?_) (tA rfl) (by kernel_rfl) (fun _ _ _ h => h) (Or.inl ⟨by rfl, ?_⟩) (by assumption) ?_
  rotate_left
  · (intro w hSw; (try dsimp only at hSw); go_simp <;> with_reducible rfl)
  simp only [Act.put, List.setIfInBounds_toArray, List.set_cons_zero, List.set_cons_succ]
  refine tk (i := 8) (v := ?_) (tA rfl) (by kernel_rfl) (fun _ _ _ h => h) (Or.inl ⟨by rfl, ?_⟩) (by assumption) ?_
  rotate_left
  · (intro w hSw; (try dsimp only at hSw); go_simp <;> with_reducible rfl)
  simp only [Act.put, List.setIfInBounds_toArray, List.set_cons_zero, List.set_cons_succ]
  refine tk (i := 9) (v := ?_) (tA rfl) (by kernel_rfl) (fun _ _ _ h => h) (Or.inl ⟨by rfl, ?_⟩) (by assumption) ?_
  rotate_left
  · (intro w hSw; (try dsimp only at hSw); go_simp <;> with_reducible rfl)
  simp only [Act.put, List.setIfInBounds_toArray, List.set_cons_zero, List.set_cons_succ]
  refine tk (i := 10) (v := ?_) (tA rfl) (by kernel_rfl) (fun _ _ _ h => h) (Or.inl ⟨by rfl, ?_⟩) (by assumption) ?_
  rotate_left
  · (intro w hSw; (try dsimp only at hSw); go_simp <;> with_reducible rfl)
  simp only [Act.put, List.setIfInBounds_toArray, List.set_cons_zero, List.set_cons_succ]
  refine tk (i := 11) (v := ?_) (tA rfl) (by kernel_rfl) (fun _ _ _ h => h) (Or.inl ⟨by rfl, ?_⟩) (by assumption) ?_
  rotate_left
  · (intro w hSw; (try dsimp only at hSw); go_simp <;> with_reducible rfl)
  simp only [Act.put, List.setIfInBounds_toArray, List.set_cons_zero, List.set_cons_succ]
  refine tk (i := 12) (v := ?_) (tA rfl) (by kernel_rfl) (fun _ _ _ h => h) (Or.inl ⟨by rfl, ?_⟩) (by assumption) ?_
  rotate_left
  · (intro w hSw; (try dsimp only at hSw); go_simp <;> with_reducible rfl)
  simp only [Act.put, List.setIfInBounds_toArray, List.set_cons_zero, List.set_cons_succ]
  refine tk (i := 13) (v := ?_) (tA rfl) (by kernel_rfl) (fun _ _ _ h => h) (Or.inl ⟨by rfl, ?_⟩) (by assumption) ?_
  rotate_left
  · (intro w hSw; (try dsimp only at hSw); go_simp <;> with_reducible rfl)
  simp only [Act.put, List.setIfInBounds_toArray, List.set_cons_zero, List.set_cons_succ]
  refine tk (i := 14) (v := ?_) (tA rfl) (by kernel_rfl) (fun _ _ _ h => h) (Or.inl ⟨by rfl, ?_⟩) (by assumption) ?_
  rotate_left
  · (intro w hSw; (try dsimp only at hSw); go_simp <;> with_reducible rfl)
  simp only [Act.put, List.setIfInBounds_toArray, List.set_cons_zero, List.set_cons_succ]
  refine tk (i := 15) (v := ?_) (tA rfl) (by kernel_rfl) (fun _ _ _ h => h) (Or.inl ⟨by rfl, ?_⟩) (by assumption) ?_
  rotate_left
  · (intro w hSw; (try dsimp only at hSw); go_simp <;> with_reducible rfl)
  simp only [Act.put, List.setIfInBounds_toArray, List.set_cons_zero, List.set_cons_succ]
  refine wpAnyH_ready (rs := [4, 16]) (by kernel_rfl) (by simp) ?_
  refine AllReadyH.cons (tA rfl) (fun K hK => ?_) (AllReadyH.cons (tA rfl) (fun K hK => ?_) AllReadyH.nil)
  · go_simp
    refine hK.out _ _ (by first | exact HSK.out _ (Below.refl _ _).drew | exact HSK.out _ HB1.out) (fun hHeld => ?_)
    clear hK K
    try simp only [Act.put, List.setIfInBounds_toArray, List.set_cons_zero, List.set_cons_succ]
    refine wpAnyH_ready (rs := [16]) (by kernel_rfl) (by simp) ?_
    refine AllReadyH.cons (tA rfl) (fun K hK => ?_) AllReadyH.nil
    go_simp
    refine hK.out _ _ (by first | exact HSK.out _ (Below.refl _ _).drew | exact HSK.out _ HB1.out) (fun hHeld => ?_)
    clear hK K
    try simp only [Act.put, List.setIfInBounds_toArray, List.set_cons_zero, List.set_cons_succ]
    refine wpAnyH_ready (rs := [17]) (by kernel_rfl) (by simp) ?_
    refine AllReadyH.cons (tA rfl) (fun K hK => ?_) AllReadyH.nil
    refine step_append_lies _ (by rfl) _ _ 38 (by rfl) B 101 iw _ 3 24 Tryd.underlying38 hiw hp0 hp1 hp2 (by rfl) (by decide) (.slice a1 m1 p1) m1 _ (by rfl) HW1.out ⟨ZZ.heap.size, 0, none⟩ 1 1 (eC ((k : Int), 3, 3)) (by rfl) (by rfl) HNC.out (by intro u hu; simp [eC] at hu; rcases hu with rfl | rfl | rfl <;> rfl) (by decide) (by unfold maxLen; omega) (by omega) (by simp; omega) (ZZ.heap.size + 1) (by simp) ?_
    intro x1 cp Y6 ho6 hg6 hat6 hlt6
    have m6 : Y6.cell? ⟨b, 4, none⟩ = some (.slice a1 m1 p1) := hg6.cell FT (fun e => hvb e.symm)
    have z6 : Y6.frozen? ⟨b, 4, none⟩ = false := (hg6.frozen_far ⟨b, 4, none⟩ (Nat.lt_of_lt_of_le hty HB1.out.size) (fun e => hvb e.symm)).trans GT
    refine hK.out _ _ ⟨(hg6.cell (cell_up HB1.out cZ) (fun e => hvb e.symm)), (hg6.cell (cell_up HB1.out s10) (fun e => hvg e.symm))⟩ (fun hHeld => ?_)
    clear hK K
    try simp only [Act.put, List.setIfInBounds_toArray, List.set_cons_zero, List.set_cons_succ]
    refine tk (i := 18) (v := ?_) (tA rfl) (by kernel_rfl) (fun _ _ _ h => h) (Or.inl ⟨by rfl, ?_⟩) (by assumption) ?_
    rotate_left
    · (intro w hSw; (try dsimp only at hSw); go_simp <;> with_reducible rfl)
    simp only [Act.put, List.setIfInBounds_toArray, List.set_cons_zero, List.set_cons_succ]
    refine tk (i := 19) (v := ?_) (tA rfl) (by kernel_rfl) (fun _ _ _ h => h) (Or.inl ⟨by rfl, ?_⟩) (by assumption) ?_
    rotate_left
    · (intro w hSw; (try dsimp only at hSw); go_simp <;> with_reducible rfl)
    simp only [Act.put, List.setIfInBounds_toArray, List.set_cons_zero, List.set_cons_succ]
    refine wpAnyH_ready (rs := [20]) (by kernel_rfl) (by simp) ?_
    refine AllReadyH.cons (tA rfl) (fun K hK => ?_) AllReadyH.nil
    clear hHeld
    go_simp
    have ho7 : Y6.ownsRow B 101 3 (.slice (some ⟨x1, 0, none⟩) ((T.setC (M) k (T.trapC cc 3)).es.length + 1) cp) ((T.setC (M) k (T.trapC cc 3)).es.length + 1) ((T.setC (M) k (T.trapC cc 3)).es.flatMap eC ++ eC ((k : Int), 3, 3)) := by rw [HM1.out]; exact ho6
    obtain ⟨q1, q2⟩ := HXZ.out.saw HB1.out ho7 (HEV.out ▸ hg6) (by rw [HEV.out]; exact hat6.imp id (fun e => by omega))
    rw [HM1.out] at q1 q2
    obtain ⟨ZZ, hZZ⟩ : ∃ ZZ, Y6.setCell ⟨b, 4, none⟩ (.slice (some ⟨x1, 0, none⟩) (m1 + 1) cp) = ZZ := ⟨_, rfl⟩
    rw [hZZ] at q1 q2
    rw [hZZ]
    have HQ1 : Hid _ := q1
    have HQ2 : Hid (St t _ w ZZ) := HSZ2.out.trans q2
    refine hK.out _ _ ⟨(by have h9 := q1.c3; rw [show ((T.setC (M) k (T.trapC cc 3)).see k 3 3).ts.length = n from HLZ.out] at h9; exact h9), (by have h9 := q1.cell (k := k) HKZ.out HUZ.out 10 _ rfl; exact h9.trans (by show some (Value.int .i64 ((T.setC (M) k (T.trapC cc 3)).th k).c.tr) = _; rw [HC10.out]))⟩ (fun hHeld => ?_)
    clear hK K hZZ m6 z6 q1 q2 ho7 ho6 hg6 hat6 hlt6
    try simp only [Act.put, List.setIfInBounds_toArray, List.set_cons_zero, List.set_cons_succ]
    refine wpAnyH_done (by kernel_rfl) ?_ _
    clear hHeld
    go_wp2
    go_ret
    exact ⟨rfl, _, _, _, _, _, HQ1.out, HQ2.out⟩
  · go_simp
    refine hK.out _ _ (by first | exact HSK.out _ (Below.refl _ _).drew | exact HSK.out _ HB1.out) (fun hHeld => ?_)
    clear hK K
    try simp only [Act.put, List.setIfInBounds_toArray, List.set_cons_zero, List.set_cons_succ]
    refine wpAnyH_ready (rs := [4]) (by kernel_rfl) (by simp) ?_
    refine AllReadyH.cons (tA rfl) (fun K hK => ?_) AllReadyH.nil
    go_simp
    refine hK.out _ _ (by first | exact HSK.out _ (Below.refl _ _).drew | exact HSK.out _ HB1.out) (fun hHeld => ?_)
    clear hK K
    try simp only [Act.put, List.setIfInBounds_toArray, List.set_cons_zero, List.set_cons_succ]
    refine wpAnyH_ready (rs := [17]) (by kernel_rfl) (by simp) ?_
    refine AllReadyH.cons (tA rfl) (fun K hK => ?_) AllReadyH.nil
    refine step_append_lies _ (by rfl) _ _ 38 (by rfl) B 101 iw _ 3 24 Tryd.underlying38 hiw hp0 hp1 hp2 (by rfl) (by decide) (.slice a1 m1 p1) m1 _ (by rfl) HW1.out ⟨ZZ.heap.size, 0, none⟩ 1 1 (eC ((k : Int), 3, 3)) (by rfl) (by rfl) HNC.out (by intro u hu; simp [eC] at hu; rcases hu with rfl | rfl | rfl <;> rfl) (by decide) (by unfold maxLen; omega) (by omega) (by simp; omega) (ZZ.heap.size + 1) (by simp) ?_
    intro x1 cp Y6 ho6 hg6 hat6 hlt6
    have m6 : Y6.cell? ⟨b, 4, none⟩ = some (.slice a1 m1 p1) := hg6.cell FT (fun e => hvb e.symm)
    have z6 : Y6.frozen? ⟨b, 4, none⟩ = false := (hg6.frozen_far ⟨b, 4, none⟩ (Nat.lt_of_lt_of_le hty HB1.out.size) (fun e => hvb e.symm)).trans GT
    refine hK.out _ _ ⟨(hg6.cell (cell_up HB1.out cZ) (fun e => hvb e.symm)), (hg6.cell (cell_up HB1.out s10) (fun e => hvg e.symm))⟩ (fun hHeld => ?_)
    clear hK K
    try simp only [Act.put, List.setIfInBounds_toArray, List.set_cons_zero, List.set_cons_succ]
    refine tk (i := 18) (v := ?_) (tA rfl) (by kernel_rfl) (fun _ _ _ h => h) (Or.inl ⟨by rfl, ?_⟩) (by assumption) ?_
    rotate_left
    · (intro w hSw; (try dsimp only at hSw); go_simp <;> with_reducible rfl)
    simp only [Act.put, List.setIfInBounds_toArray, List.set_cons_zero, List.set_cons_succ]
    refine tk (i := 19) (v := ?_) (tA rfl) (by kernel_rfl) (fun _ _ _ h => h) (Or.inl ⟨by rfl, ?_⟩) (by assumption) ?_
    rotate_left
    · (intro w hSw; (try dsimp only at hSw); go_simp <;> with_reducible rfl)
    simp only [Act.put, List.setIfInBounds_toArray, List.set_cons_zero, List.set_cons_succ]
    refine wpAnyH_ready (rs := [20]) (by kernel_rfl) (by simp) ?_
    refine AllReadyH.cons (tA rfl) (fun K hK => ?_) AllReadyH.nil
    clear hHeld
    go_simp
    have ho7 : Y6.ownsRow B 101 3 (.slice (some ⟨x1, 0, none⟩) ((T.setC (M) k (T.trapC cc 3)).es.length + 1) cp) ((T.setC (M) k (T.trapC cc 3)).es.length + 1) ((T.setC (M) k (T.trapC cc 3)).es.flatMap eC ++ eC ((k : Int), 3, 3)) := by rw [HM1.out]; exact ho6
    obtain ⟨q1, q2⟩ := HXZ.out.saw HB1.out ho7 (HEV.out ▸ hg6) (by rw [HEV.out]; exact hat6.imp id (fun e => by omega))
    rw [HM1.out] at q1 q2
    obtain ⟨ZZ, hZZ⟩ : ∃ ZZ, Y6.setCell ⟨b, 4, none⟩ (.slice (some ⟨x1, 0, none⟩) (m1 + 1) cp) = ZZ := ⟨_, rfl⟩
    rw [hZZ] at q1 q2
    rw [hZZ]
    have HQ1 : Hid _ := q1
    have HQ2 : Hid (St t _ w ZZ) := HSZ2.out.trans q2
    refine hK.out _ _ ⟨(by have h9 := q1.c3; rw [show ((T.setC (M) k (T.trapC cc 3)).see k 3 3).ts.length = n from HLZ.out] at h9; exact h9), (by have h9 := q1.cell (k := k) HKZ.out HUZ.out 10 _ rfl; exact h9.trans (by show some (Value.int .i64 ((T.setC (M) k (T.trapC cc 3)).th k).c.tr) = _; rw [HC10.out]))⟩ (fun hHeld => ?_)
    clear hK K hZZ m6 z6 q1 q2 ho7 ho6 hg6 hat6 hlt6
    try simp only [Act.put, List.setIfInBounds_toArray, List.set_cons_zero, List.set_cons_succ]
    refine wpAnyH_done (by kernel_rfl) ?_ _
    clear hHeld
    go_wp2
    go_ret
    exact ⟨rfl, _, _, _, _, _, HQ1.out, HQ2.out⟩

end Go.Proofs.YtffokdldgdjkhaaDoor.X

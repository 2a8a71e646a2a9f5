/- The document's machine: a step at an instruction. (Written by gen_xstep.py.) -/
import Derived.Test.YtffokdldgdjkhaaDoorIE
import Derived.Test.YtffokdldgdjkhaaDoorIB
namespace Go.Proofs.YtffokdldgdjkhaaDoor.X
open Go.RowKit Go.Maps
set_option linter.unusedVariables false
set_option linter.unusedSimpArgs false

set_option maxRecDepth 100000 in
set_option maxHeartbeats 8000000 in
theorem xstep_ins {B : Nat} {w : World} {b : Nat} {M : T.Mach} {t : Nat → Nat} {D Sk : List Int} {vd vs : Value} {g cap : Nat} {ev : Value} {us : List Value} (h : XV B w b M t D Sk vd vs g cap ev us) {k : Nat} (hk : k < M.ts.length) (hs : (M.th k).c.st = 0) (hes : M.es.length ≤ 1000000) (hcode : M.code.size ≤ 65536) (hcok : (M.th k).c.ok) (hok : WsOk (M.th k).ws) (h8 : (M.th k).ws.length ≤ 8) (hgo : ∀ p ∈ (M.th k).ws, (M.mem p.1).isSome = true) (hd : T.decOk M.code (T.plc M k) = true)
    {qq : S.Q} {dd : S.C} (hQ : T.iQ (M.th k).c (I.cut M.code (T.plc M k)) = qq) (hC : T.iC (M.th k).c (I.cut M.code (T.plc M k)) = dd) (hqa : (Lit.int .i64 qq.a).wf = true) {N : T.Mach} (hN : T.setC (T.ansM M k qq) k (S.finish dd qq.k qq.r (T.ansN M k qq)) = N) (hNl : N.ts.length = M.ts.length) (hNe : N.es.length ≤ 1000001) (hGB : ¬ T.ansE M k qq = 0 → T.goOn M k = (T.setC (T.setC M k dd) k (T.trapC (M.th k).c 2)).see k 3 2) (hGN : T.ansE M k qq = 0 → T.goOn M k = T.seen N k) :
    Calls Tryd.prog 20 #[.pointer (some ⟨b, 0, none⟩), .int .i64 k] w fun e w' => e = .returned (.bool true) ∧ XGone B w w' b (T.goOn M k) t vd vs g cap := by
  have hro := h.room
  obtain ⟨n, hn⟩ : ∃ n, M.ts.length = n := ⟨_, rfl⟩
  have HTL : Hid (M.ts.length = n) := hn
  rw [hn] at hro
  obtain ⟨r1, r2, r3, r4⟩ := hro
  have hkn : k < n := by omega
  unfold maxLen at r2
  have i1 : (k : Int) < (n : Int) := by omega
  have i0 : (0 : Int) ≤ (k : Int) := by omega
  obtain ⟨uw, huw⟩ := h.u hk
  have d0 : w.cell? ⟨g, k * 12, none⟩ = some (.int .i64 (M.th k).c.r0) := h.cell hk huw 0 _ rfl
  have d1 : w.cell? ⟨g, k * 12 + 1, none⟩ = some (.int .i64 (M.th k).c.r1) := h.cell hk huw 1 _ rfl
  have d2 : w.cell? ⟨g, k * 12 + 2, none⟩ = some (.int .i64 (M.th k).c.r2) := h.cell hk huw 2 _ rfl
  have d3 : w.cell? ⟨g, k * 12 + 3, none⟩ = some (.int .i64 (M.th k).c.r3) := h.cell hk huw 3 _ rfl
  have d4 : w.cell? ⟨g, k * 12 + 4, none⟩ = some (.int .i64 (M.th k).c.r4) := h.cell hk huw 4 _ rfl
  have d5 : w.cell? ⟨g, k * 12 + 5, none⟩ = some (.int .i64 (M.th k).c.r5) := h.cell hk huw 5 _ rfl
  have d6 : w.cell? ⟨g, k * 12 + 6, none⟩ = some (.int .i64 (M.th k).c.r6) := h.cell hk huw 6 _ rfl
  have d7 : w.cell? ⟨g, k * 12 + 7, none⟩ = some (.int .i64 (M.th k).c.r7) := h.cell hk huw 7 _ rfl
  have d8 : w.cell? ⟨g, k * 12 + 8, none⟩ = some (.int .i64 (M.th k).c.pc) := h.cell hk huw 8 _ rfl
  have d9 : w.cell? ⟨g, k * 12 + 9, none⟩ = some (.int .i64 (M.th k).c.st) := h.cell hk huw 9 _ rfl
  have d10 : w.cell? ⟨g, k * 12 + 10, none⟩ = some (.int .i64 (M.th k).c.tr) := h.cell hk huw 10 _ rfl
  have c3w := h.c3
  rw [hn] at c3w
  obtain ⟨cc, hcc⟩ : ∃ cc, (M.th k).c = cc := ⟨_, rfl⟩
  have HCC : Hid ((M.th k).c = cc) := hcc
  rw [hcc] at d0 d1 d2 d3 d4 d5 d6 d7 d8 d9 d10
  have HV0 : Hid (XV B w b M t D Sk vd vs g cap ev us) := h
  have HK0 : Hid (k < M.ts.length) := hk
  rw [hcc] at hs
  rw [hs] at d9
  have HS0 : Hid (cc.st = 0) := hs
  clear hs
  have c0w := h.c0
  obtain ⟨pl, hpl⟩ : ∃ pl, wrap64 (cc.pc - 4096) = pl := ⟨_, rfl⟩
  have hplc : T.plc M k = pl := by unfold T.plc; rw [hcc]; exact hpl
  have hw : IntKind.i64.wrap (cc.pc - 4096) = pl := by have h1 := hpl; unfold wrap64 at h1; rw [IntKind.wrap_i64]; exact h1
  obtain ⟨Y1, hY1⟩ : ∃ Y1, w.alloc (.cells #[.int .i64 cc.r0, .int .i64 cc.r1, .int .i64 cc.r2, .int .i64 cc.r3, .int .i64 cc.r4, .int .i64 cc.r5, .int .i64 cc.r6, .int .i64 cc.r7, .int .i64 cc.pc, .int .i64 0, .int .i64 cc.tr] 43) = Y1 := ⟨_, rfl⟩
  have bY1 : Below w.heap.size w Y1 := by subst hY1; exact bl_one _ _
  have sY1 : w.heap.size < Y1.heap.size := by subst hY1; simp
  have HZ1 : Hid (∀ o, Y1.frozen? ⟨w.heap.size, o, none⟩ = false) := fun o => by subst hY1; exact World.frozen?_alloc_at _ _ _ _ rfl
  have HP1 : Hid (∀ j u, (cV cc)[j]? = some u → Y1.cell? ⟨w.heap.size, j, none⟩ = some u) := fun j u hu => by
    subst hY1
    refine cell_last _ _ _ _ _ rfl ?_
    rw [← HS0.out]
    simpa [cV] using hu
  have p0 : Y1.cell? ⟨w.heap.size, 0, none⟩ = some (.int .i64 cc.r0) := by subst hY1; exact cell_last _ _ _ _ _ rfl rfl
  have p1 : Y1.cell? ⟨w.heap.size, 1, none⟩ = some (.int .i64 cc.r1) := by subst hY1; exact cell_last _ _ _ _ _ rfl rfl
  have p2 : Y1.cell? ⟨w.heap.size, 2, none⟩ = some (.int .i64 cc.r2) := by subst hY1; exact cell_last _ _ _ _ _ rfl rfl
  have p3 : Y1.cell? ⟨w.heap.size, 3, none⟩ = some (.int .i64 cc.r3) := by subst hY1; exact cell_last _ _ _ _ _ rfl rfl
  have p4 : Y1.cell? ⟨w.heap.size, 4, none⟩ = some (.int .i64 cc.r4) := by subst hY1; exact cell_last _ _ _ _ _ rfl rfl
  have p5 : Y1.cell? ⟨w.heap.size, 5, none⟩ = some (.int .i64 cc.r5) := by subst hY1; exact cell_last _ _ _ _ _ rfl rfl
  have p6 : Y1.cell? ⟨w.heap.size, 6, none⟩ = some (.int .i64 cc.r6) := by subst hY1; exact cell_last _ _ _ _ _ rfl rfl
  have p7 : Y1.cell? ⟨w.heap.size, 7, none⟩ = some (.int .i64 cc.r7) := by subst hY1; exact cell_last _ _ _ _ _ rfl rfl
  have p8 : Y1.cell? ⟨w.heap.size, 8, none⟩ = some (.int .i64 cc.pc) := by subst hY1; exact cell_last _ _ _ _ _ rfl rfl
  have p9 : Y1.cell? ⟨w.heap.size, 9, none⟩ = some (.int .i64 0) := by subst hY1; exact cell_last _ _ _ _ _ rfl rfl
  have p10 : Y1.cell? ⟨w.heap.size, 10, none⟩ = some (.int .i64 cc.tr) := by subst hY1; exact cell_last _ _ _ _ _ rfl rfl
  have bY2 : Below Y1.heap.size Y1 (Y1.alloc (.cells #[.int .i64 0, .int .i64 0, .int .i64 0, .int .i64 0] 62)) := bl_one _ _
  have HZ2 : Hid (∀ o, (Y1.alloc (.cells #[.int .i64 0, .int .i64 0, .int .i64 0, .int .i64 0] 62)).frozen? ⟨Y1.heap.size, o, none⟩ = false) := fun o => World.frozen?_alloc_at _ _ _ _ rfl
  have p0 := cell_up bY2 p0
  have p1 := cell_up bY2 p1
  have p2 := cell_up bY2 p2
  have p3 := cell_up bY2 p3
  have p4 := cell_up bY2 p4
  have p5 := cell_up bY2 p5
  have p6 := cell_up bY2 p6
  have p7 := cell_up bY2 p7
  have p8 := cell_up bY2 p8
  have p9 := cell_up bY2 p9
  have p10 := cell_up bY2 p10
  have c0 := cell_up bY2 (cell_up bY1 c0w)
  have HB2 : Hid (Below w.heap.size w (Y1.alloc (.cells #[.int .i64 0, .int .i64 0, .int .i64 0, .int .i64 0] 62))) := bY1.trans (bY2.mono (Nat.le_of_lt sY1))
  rw [hplc] at hd hQ hC
  rw [hcc] at hQ hC
  have hin : 0 ≤ pl ∧ pl ≤ (M.code.size : Int) := by
    unfold T.decOk at hd
    exact of_decide_eq_true (Bool.and_eq_true_iff.1 hd).1
  have hdo : I.dOk (I.cut M.code pl) = true := by
    unfold T.decOk at hd
    exact (Bool.and_eq_true_iff.1 hd).2
  obtain ⟨cu, hcu⟩ : ∃ cu, I.cut M.code pl = cu := ⟨_, rfl⟩
  obtain ⟨op, hop⟩ : ∃ op, I.hd cu = op := ⟨_, rfl⟩
  obtain ⟨ia, hia⟩ : ∃ ia, I.dA cu = ia := ⟨_, rfl⟩
  obtain ⟨ib, hib⟩ : ∃ ib, I.dB cu = ib := ⟨_, rfl⟩
  obtain ⟨im, him⟩ : ∃ im, I.dN cu = im := ⟨_, rfl⟩
  obtain ⟨ps, hps⟩ : ∃ ps, I.psize op = ps := ⟨_, rfl⟩
  have hpsb : 0 ≤ ps ∧ ps ≤ 65536 := by
    have h1 := (of_decide_eq_true (Bool.and_eq_true_iff.1 hdo).1)
    rw [hcu, hop, hps] at h1
    have h2 := I.dOk_pos hdo
    have h3 := I.rest_size _ hdo
    rw [hcu, hop, hps] at h3
    have h4 : cu.size ≤ M.code.size := by
      obtain ⟨pn, hpn⟩ : ∃ pn : Nat, pl = pn := ⟨pl.toNat, by omega⟩
      rw [← hcu, hpn, cut_size _ _ (by omega)]
      omega
    omega
  obtain ⟨nx, hnx⟩ : ∃ nx, pl + ps = nx := ⟨_, rfl⟩
  have hsub : nx - pl = ps := by omega
  have hnb : 0 ≤ nx ∧ nx ≤ 131072 := by omega
  have hr : I.decR M.code pl = decV (insW op ia ib im) nx 0 := by
    unfold I.decR
    rw [if_neg (by omega), if_pos hdo, hcu, hop, hia, hib, him, hps, hnx]
  have hqq : S.startQ cc op ia ib im ps = qq := by rw [← hQ, hcu]; unfold T.iQ; rw [hop, hia, hib, him, hps]
  have hdd : S.startC cc op ia ib im ps = dd := by rw [← hC, hcu]; unfold T.iC; rw [hop, hia, hib, him, hps]
  have hcc9 : cc.ok := by rw [← hcc]; exact hcok
  have hdec := rdecode_any M.code pl (by omega) (Y1.alloc (.cells #[.int .i64 0, .int .i64 0, .int .i64 0, .int .i64 0] 62))
  rw [hr] at hdec
  have HD : Hid _ := hdec
  have HIN : Hid (0 ≤ pl ∧ pl ≤ (M.code.size : Int)) := hin
  obtain ⟨hin0, hin1⟩ := hin
  have H3 : Hid (∀ y3 : World, Below (Y1.alloc (.cells #[.int .i64 0, .int .i64 0, .int .i64 0, .int .i64 0] 62)).heap.size (Y1.alloc (.cells #[.int .i64 0, .int .i64 0, .int .i64 0, .int .i64 0] 62)) y3 → y3.cell? ⟨w.heap.size, 0, none⟩ = some (.int .i64 cc.r0) ∧ y3.cell? ⟨w.heap.size, 1, none⟩ = some (.int .i64 cc.r1) ∧ y3.cell? ⟨w.heap.size, 2, none⟩ = some (.int .i64 cc.r2) ∧ y3.cell? ⟨w.heap.size, 3, none⟩ = some (.int .i64 cc.r3) ∧ y3.cell? ⟨w.heap.size, 4, none⟩ = some (.int .i64 cc.r4) ∧ y3.cell? ⟨w.heap.size, 5, none⟩ = some (.int .i64 cc.r5) ∧ y3.cell? ⟨w.heap.size, 6, none⟩ = some (.int .i64 cc.r6) ∧ y3.cell? ⟨w.heap.size, 7, none⟩ = some (.int .i64 cc.r7) ∧ y3.cell? ⟨w.heap.size, 8, none⟩ = some (.int .i64 cc.pc) ∧ y3.cell? ⟨w.heap.size, 9, none⟩ = some (.int .i64 0) ∧ y3.cell? ⟨w.heap.size, 10, none⟩ = some (.int .i64 cc.tr) ∧ y3.cell? ⟨Y1.heap.size, 0, none⟩ = some (.int .i64 0) ∧ y3.cell? ⟨Y1.heap.size, 1, none⟩ = some (.int .i64 0) ∧ y3.cell? ⟨Y1.heap.size, 2, none⟩ = some (.int .i64 0) ∧ y3.cell? ⟨Y1.heap.size, 3, none⟩ = some (.int .i64 0) ∧ y3.frozen? ⟨Y1.heap.size, 0, none⟩ = false ∧ y3.frozen? ⟨Y1.heap.size, 1, none⟩ = false ∧ y3.frozen? ⟨Y1.heap.size, 2, none⟩ = false ∧ y3.frozen? ⟨Y1.heap.size, 3, none⟩ = false ∧ (∀ o, y3.frozen? ⟨w.heap.size, o, none⟩ = false)) := fun y3 hb3 => ⟨cell_up hb3 p0, cell_up hb3 p1, cell_up hb3 p2, cell_up hb3 p3, cell_up hb3 p4, cell_up hb3 p5, cell_up hb3 p6, cell_up hb3 p7, cell_up hb3 p8, cell_up hb3 p9, cell_up hb3 p10, cell_up hb3 (cell_last _ _ _ _ _ rfl rfl), cell_up hb3 (cell_last _ _ _ _ _ rfl rfl), cell_up hb3 (cell_last _ _ _ _ _ rfl rfl), cell_up hb3 (cell_last _ _ _ _ _ rfl rfl), (hb3.frozen (p := ⟨Y1.heap.size, 0, none⟩) (by simp)).trans (HZ2.out 0), (hb3.frozen (p := ⟨Y1.heap.size, 1, none⟩) (by simp)).trans (HZ2.out 1), (hb3.frozen (p := ⟨Y1.heap.size, 2, none⟩) (by simp)).trans (HZ2.out 2), (hb3.frozen (p := ⟨Y1.heap.size, 3, none⟩) (by simp)).trans (HZ2.out 3), fun o => (hb3.frozen (p := ⟨w.heap.size, o, none⟩) (Nat.lt_of_lt_of_le sY1 bY2.size)).trans ((bY2.frozen (p := ⟨w.heap.size, o, none⟩) sY1).trans (HZ1.out o))⟩
  have HBB : Hid (∀ y3 : World, Below (Y1.alloc (.cells #[.int .i64 0, .int .i64 0, .int .i64 0, .int .i64 0] 62)).heap.size (Y1.alloc (.cells #[.int .i64 0, .int .i64 0, .int .i64 0, .int .i64 0] 62)) y3 → Below w.heap.size w y3) := fun y3 hb3 => HB2.out.trans (hb3.mono HB2.out.size)
  have HST : Hid (∀ z, Calls Tryd.prog 40 #[.agg #[.int .i64 cc.r0, .int .i64 cc.r1, .int .i64 cc.r2, .int .i64 cc.r3, .int .i64 cc.r4, .int .i64 cc.r5, .int .i64 cc.r6, .int .i64 cc.r7, .int .i64 cc.pc, .int .i64 0, .int .i64 cc.tr], S.insV op ia ib im, .int .i64 ps] z fun e w' => e = .returned (.tuple #[dd.v, qq.w]) ∧ Below z.heap.size z w') := fun z => by
    have h9 : Calls Tryd.prog 40 #[.agg #[.int .i64 cc.r0, .int .i64 cc.r1, .int .i64 cc.r2, .int .i64 cc.r3, .int .i64 cc.r4, .int .i64 cc.r5, .int .i64 cc.r6, .int .i64 cc.r7, .int .i64 cc.pc, .int .i64 cc.st, .int .i64 cc.tr], S.insV op ia ib im, .int .i64 ps] z _ := rstart_any cc hcc9 op ia ib im ps z
    rw [HS0.out, hdd, hqq] at h9
    exact h9
  have HTX : Hid (∀ x, w.heap.size ≤ x → t x = 0) := fun x hx => Classical.byContradiction fun e => by have := (h.lt _ e).2; omega
  have HKY : Hid (k < M.ts.length) := hk
  have HLN : Hid (M.ts.length = n) := hn
  have HASK : Hid (∀ (z : World) (D' S' : List Int), XV B z b (T.setC M k dd) t D' S' vd vs g cap ev us → Calls Tryd.prog 41 #[.pointer (some ⟨b, 0, none⟩), .int .i64 k, qq.w] z fun e w' => e = .returned (.bool (decide (T.ansE M k qq = 0))) ∧ XGone B z w' b (if T.ansE M k qq = 0 then N else T.setC M k dd) t vd vs g cap) := fun z D' S' hz => by
    have hth := T.th_setC hk dd
    have h9 := xask_any hz (k := k) (by rw [T.len_setC]; exact hk) (by rw [hth]; exact hok) (by rw [hth]; exact h8) hes (by rw [hth]; exact hgo) qq hqa
    rw [T.ansE_setC hk, T.ansN_setC hk, T.setC_ans hk, hth, hN] at h9
    exact h9
  have HES : Hid ((T.setC (T.setC M k dd) k (T.trapC cc 2)).es.length ≤ 1000001) := by show M.es.length ≤ _; omega
  have HKN : Hid (k < N.ts.length) := by show k < _; rw [hNl]; exact hk
  have HLZ : Hid (N.ts.length = n) := hNl.trans hn
  have HESN : Hid (N.es.length ≤ 1000001) := hNe
  have HGB : Hid (¬ T.ansE M k qq = 0 → T.goOn M k = (T.setC (T.setC M k dd) k (T.trapC cc 2)).see k 3 2) := by rw [← hcc]; exact hGB
  have HGN : Hid (T.ansE M k qq = 0 → T.goOn M k = T.seen N k) := hGN
  clear hN hNl hNe hGB hGN
  clear h hk hn huw hcc hpl hplc hes hdec hr hd p0 p1 p2 p3 p4 p5 p6 p7 p8 p9 p10 hcu hop hia hib him hps hnx hdo hdd hqq hok h8 hgo hQ hC hqa hcok hcc9
  have p8 := cell_up bY2 (HP1.out 8 _ rfl)
  go_enter Tryd.func20, Tryd.ntmps20
  go_wp2_with fail
  refine Calls.mono HD.out ?_
  rintro e y3 ⟨rfl, hb3⟩
  obtain ⟨p0, p1, p2, p3, p4, p5, p6, p7, p8, p9, p10, q0, q1, q2, q3, zf0, zf1, zf2, zf3, zz⟩ := H3.out y3 hb3
  have HFZ : Hid (∀ o, y3.frozen? ⟨w.heap.size, o, none⟩ = false) := zz
  clear zz
  go_wp2_with fail
  refine (HST.out _).mono ?_
  rintro e z ⟨rfl, hbz⟩
  have hb4 : Below w.heap.size w ((((y3.setCell ⟨Y1.heap.size, 0, none⟩ (.int .i64 op)).setCell ⟨Y1.heap.size, 1, none⟩ (.int .i64 ia)).setCell ⟨Y1.heap.size, 2, none⟩ (.int .i64 ib)).setCell ⟨Y1.heap.size, 3, none⟩ (.int .i64 im)) := ((((HBB.out y3 hb3).setCell (Nat.le_of_lt sY1) _).setCell (Nat.le_of_lt sY1) _).setCell (Nat.le_of_lt sY1) _).setCell (Nat.le_of_lt sY1) _
  have HPB : Hid (∀ j u, (cV cc)[j]? = some u → ((((y3.setCell ⟨Y1.heap.size, 0, none⟩ (.int .i64 op)).setCell ⟨Y1.heap.size, 1, none⟩ (.int .i64 ia)).setCell ⟨Y1.heap.size, 2, none⟩ (.int .i64 ib)).setCell ⟨Y1.heap.size, 3, none⟩ (.int .i64 im)).cell? ⟨w.heap.size, j, none⟩ = some u) := fun j u hu => by
    have hne : Y1.heap.size ≠ w.heap.size := Nat.ne_of_gt sY1
    rw [World.cell?_setCell_far _ _ _ _ hne, World.cell?_setCell_far _ _ _ _ hne, World.cell?_setCell_far _ _ _ _ hne, World.cell?_setCell_far _ _ _ _ hne]
    exact cell_up hb3 (cell_up bY2 (HP1.out j u hu))
  have HBZ : Hid (Below w.heap.size w z) := hb4.trans (hbz.mono hb4.size)
  have HPZ : Hid (∀ j u, (cV cc)[j]? = some u → z.cell? ⟨w.heap.size, j, none⟩ = some u) := fun j u hu => cell_up hbz (HPB.out j u hu)
  have HFZ2 : Hid (∀ o, z.frozen? ⟨w.heap.size, o, none⟩ = false) := fun o => (hbz.frozen (p := ⟨w.heap.size, o, none⟩) (World.block_lt_of_cell? _ ⟨w.heap.size, 0, none⟩ (HPB.out 0 _ rfl))).trans (by rw [World.frozen?_setCell, World.frozen?_setCell, World.frozen?_setCell, World.frozen?_setCell]; exact HFZ.out o)
  clear hb4 hbz HPB p0 p1 p2 p3 p4 p5 p6 p7 p8 p9 p10 q0 q1 q2 q3 zf0 zf1 zf2 zf3 d0 d1 d2 d3 d4 d5 d6 d7 d8 d9 d10 c0 c0w hY1 hb3 HFZ
  go_wp2_with fail
  obtain ⟨Y5, hY5⟩ : ∃ Y5, ((z.alloc (.cells #[.int .i64 dd.r0, .int .i64 dd.r1, .int .i64 dd.r2, .int .i64 dd.r3, .int .i64 dd.r4, .int .i64 dd.r5, .int .i64 dd.r6, .int .i64 dd.r7, .int .i64 dd.pc, .int .i64 dd.st, .int .i64 dd.tr] 43)).alloc (.cells #[.int .i64 qq.k, .int .i64 qq.a, .int .i64 qq.v, .int .i64 qq.r] 96)) = Y5 := ⟨_, rfl⟩
  have hz5 : Below z.heap.size z Y5 := by rw [← hY5]; exact (bl_one _ _).trans ((bl_one _ _).mono (by simp))
  have hb5 : Below w.heap.size w Y5 := HBZ.out.trans (hz5.mono HBZ.out.size)
  have hs5 : Y5.heap.size = z.heap.size + 1 + 1 := by rw [← hY5]; simp
  have HPC : Hid (∀ j u, (cV dd)[j]? = some u → Y5.cell? ⟨z.heap.size, j, none⟩ = some u) := fun j u hu => by
    rw [← hY5]
    exact cell_up (bl_one _ _) (cell_last _ _ _ _ _ rfl (by simpa [cV] using hu))
  have g0 : Y5.cell? ⟨z.heap.size + 1, 0, none⟩ = some (.int .i64 qq.k) := by rw [← hY5]; exact cell_last _ _ _ _ _ (by simp) rfl
  have g1 : Y5.cell? ⟨z.heap.size + 1, 1, none⟩ = some (.int .i64 qq.a) := by rw [← hY5]; exact cell_last _ _ _ _ _ (by simp) rfl
  have g2 : Y5.cell? ⟨z.heap.size + 1, 2, none⟩ = some (.int .i64 qq.v) := by rw [← hY5]; exact cell_last _ _ _ _ _ (by simp) rfl
  have g3 : Y5.cell? ⟨z.heap.size + 1, 3, none⟩ = some (.int .i64 qq.r) := by rw [← hY5]; exact cell_last _ _ _ _ _ (by simp) rfl
  have HPY : Hid (∀ j u, (cV cc)[j]? = some u → Y5.cell? ⟨w.heap.size, j, none⟩ = some u) := fun j u hu => cell_up hz5 (HPZ.out j u hu)
  have HFY : Hid (∀ o, Y5.frozen? ⟨w.heap.size, o, none⟩ = false) := fun o => (hz5.frozen (p := ⟨w.heap.size, o, none⟩) (World.block_lt_of_cell? _ ⟨w.heap.size, 0, none⟩ (HPZ.out 0 _ rfl))).trans (HFZ2.out o)
  have HV5 : Hid (XV B Y5 b M t D Sk vd vs g cap ev us) := HV0.out.below hb5
  have HS5 : Hid (St t t w Y5) := St.ofBelow t hb5
  have c3y := cell_up hb5 c3w
  have hwz := HBZ.out.size
  have HTB : Hid (t z.heap.size = 0) := HTX.out _ hwz
  have HTQ : Hid (t (z.heap.size + 1) = 0) := HTX.out _ (by omega)
  have HTC : Hid (t w.heap.size = 0) := HTX.out _ (Nat.le_refl _)
  have HW5 : Hid (w.heap.size < Y5.heap.size) := by show _ < _; omega
  rw [hY5]
  clear hY5 hz5 hb5 c3w hs5
  have p0 : Y5.cell? ⟨z.heap.size, 0, none⟩ = some (.int .i64 (dd).r0) := HPC.out 0 _ rfl
  have p1 : Y5.cell? ⟨z.heap.size, 1, none⟩ = some (.int .i64 (dd).r1) := HPC.out 1 _ rfl
  have p2 : Y5.cell? ⟨z.heap.size, 2, none⟩ = some (.int .i64 (dd).r2) := HPC.out 2 _ rfl
  have p3 : Y5.cell? ⟨z.heap.size, 3, none⟩ = some (.int .i64 (dd).r3) := HPC.out 3 _ rfl
  have p4 : Y5.cell? ⟨z.heap.size, 4, none⟩ = some (.int .i64 (dd).r4) := HPC.out 4 _ rfl
  have p5 : Y5.cell? ⟨z.heap.size, 5, none⟩ = some (.int .i64 (dd).r5) := HPC.out 5 _ rfl
  have p6 : Y5.cell? ⟨z.heap.size, 6, none⟩ = some (.int .i64 (dd).r6) := HPC.out 6 _ rfl
  have p7 : Y5.cell? ⟨z.heap.size, 7, none⟩ = some (.int .i64 (dd).r7) := HPC.out 7 _ rfl
  have p8 : Y5.cell? ⟨z.heap.size, 8, none⟩ = some (.int .i64 (dd).pc) := HPC.out 8 _ rfl
  have p9 : Y5.cell? ⟨z.heap.size, 9, none⟩ = some (.int .i64 (dd).st) := HPC.out 9 _ rfl
  have p10 : Y5.cell? ⟨z.heap.size, 10, none⟩ = some (.int .i64 (dd).tr) := HPC.out 10 _ rfl
  have HSK : Hid (∀ zq : World, Below Y5.heap.size Y5 zq → (fun w' : World => w'.cell? ⟨b, 3, none⟩ = some (.slice (some ⟨g, 0, none⟩) n cap) ∧ w'.cell? ⟨z.heap.size, 0, none⟩ = some (.int .i64 (dd).r0) ∧ w'.cell? ⟨z.heap.size, 1, none⟩ = some (.int .i64 (dd).r1) ∧ w'.cell? ⟨z.heap.size, 2, none⟩ = some (.int .i64 (dd).r2) ∧ w'.cell? ⟨z.heap.size, 3, none⟩ = some (.int .i64 (dd).r3) ∧ w'.cell? ⟨z.heap.size, 4, none⟩ = some (.int .i64 (dd).r4) ∧ w'.cell? ⟨z.heap.size, 5, none⟩ = some (.int .i64 (dd).r5) ∧ w'.cell? ⟨z.heap.size, 6, none⟩ = some (.int .i64 (dd).r6) ∧ w'.cell? ⟨z.heap.size, 7, none⟩ = some (.int .i64 (dd).r7) ∧ w'.cell? ⟨z.heap.size, 8, none⟩ = some (.int .i64 (dd).pc) ∧ w'.cell? ⟨z.heap.size, 9, none⟩ = some (.int .i64 (dd).st) ∧ w'.cell? ⟨z.heap.size, 10, none⟩ = some (.int .i64 (dd).tr)) zq) := fun zq hz => ⟨cell_up hz c3y, cell_up hz p0, cell_up hz p1, cell_up hz p2, cell_up hz p3, cell_up hz p4, cell_up hz p5, cell_up hz p6, cell_up hz p7, cell_up hz p8, cell_up hz p9, cell_up hz p10⟩
  obtain ⟨uY, huY⟩ := HV5.out.u HKY.out
  have HUY : Hid _ := huY
  refine wp_region_held_drew (S := (fun w' : World => w'.cell? ⟨b, 3, none⟩ = some (.slice (some ⟨g, 0, none⟩) n cap) ∧ w'.cell? ⟨z.heap.size, 0, none⟩ = some (.int .i64 (dd).r0) ∧ w'.cell? ⟨z.heap.size, 1, none⟩ = some (.int .i64 (dd).r1) ∧ w'.cell? ⟨z.heap.size, 2, none⟩ = some (.int .i64 (dd).r2) ∧ w'.cell? ⟨z.heap.size, 3, none⟩ = some (.int .i64 (dd).r3) ∧ w'.cell? ⟨z.heap.size, 4, none⟩ = some (.int .i64 (dd).r4) ∧ w'.cell? ⟨z.heap.size, 5, none⟩ = some (.int .i64 (dd).r5) ∧ w'.cell? ⟨z.heap.size, 6, none⟩ = some (.int .i64 (dd).r6) ∧ w'.cell? ⟨z.heap.size, 7, none⟩ = some (.int .i64 (dd).r7) ∧ w'.cell? ⟨z.heap.size, 8, none⟩ = some (.int .i64 (dd).pc) ∧ w'.cell? ⟨z.heap.size, 9, none⟩ = some (.int .i64 (dd).st) ∧ w'.cell? ⟨z.heap.size, 10, none⟩ = some (.int .i64 (dd).tr))) (by kernel_rfl) (HSK.out _ (Below.refl _ _).drew) (fun hHeld => ?_)
  obtain ⟨Yd, hYd⟩ : ∃ Yd, Y5.drew = Yd := ⟨_, rfl⟩
  have hbd : Below Y5.heap.size Y5 Yd := by rw [← hYd]; exact (Below.refl _ _).drew
  rw [hYd] at hHeld
  rw [hYd]
  clear hYd
  have hvd := HV5.out.below hbd
  have HVD : Hid _ := hvd
  have HSD : Hid (St t _ w Yd) := HS5.out.trans (St.ofBelow _ hbd)
  refine tk (i := 0) (v := ?_) (tA rfl) (by kernel_rfl) (fun _ _ _ h => h) (Or.inl ⟨by rfl, ?_⟩) (by assumption) ?_
  rotate_left
  · (intro w hSw; (try dsimp only at hSw); go_simp <;> with_reducible rfl)
  simp only [Act.put, List.setIfInBounds_toArray, List.set_cons_zero, List.set_cons_succ]
  refine tk (i := 1) (v := ?_) (tA rfl) (by kernel_rfl) (fun _ _ _ h => h) (Or.inl ⟨by rfl, ?_⟩) (by assumption) ?_
  rotate_left
  · (intro w hSw; (try dsimp only at hSw); go_simp <;> with_reducible rfl)
  simp only [Act.put, List.setIfInBounds_toArray, List.set_cons_zero, List.set_cons_succ]
  refine tk (i := 2) (v := ?_) (tA rfl) (by kernel_rfl) (fun _ _ _ h => h) (Or.inl ⟨by rfl, ?_⟩) (by assumption) ?_
  rotate_left
  · (intro w hSw; (try dsimp only at hSw); go_simp <;> with_reducible rfl)
  simp only [Act.put, List.setIfInBounds_toArray, List.set_cons_zero, List.set_cons_succ]
  refine tk (i := 3) (v := ?_) (tA rfl) (by kernel_rfl) (fun _ _ _ h => h) (Or.inl ⟨by rfl, ?_⟩) (by assumption) ?_
  rotate_left
  · (intro w hSw; (try dsimp only at hSw); go_simp <;> with_reducible rfl)
  simp only [Act.put, List.setIfInBounds_toArray, List.set_cons_zero, List.set_cons_succ]
  refine tk (i := 4) (v := ?_) (tA rfl) (by kernel_rfl) (fun _ _ _ h => h) (Or.inl ⟨by rfl, ?_⟩) (by assumption) ?_
  rotate_left
  · (intro w hSw; (try dsimp only at hSw); go_simp <;> with_reducible rfl)
  simp only [Act.put, List.setIfInBounds_toArray, List.set_cons_zero, List.set_cons_succ]
  refine tk (i := 5) (v := ?_) (tA rfl) (by kernel_rfl) (fun _ _ _ h => h) (Or.inl ⟨by rfl, ?_⟩) (by assumption) ?_
  rotate_left
  · (intro w hSw; (try dsimp only at hSw); go_simp <;> with_reducible rfl)
  simp only [Act.put, List.setIfInBounds_toArray, List.set_cons_zero, List.set_cons_succ]
  refine tk (i := 6) (v := ?_) (tA rfl) (by kernel_rfl) (fun _ _ _ h => h) (Or.inl ⟨by rfl, ?_⟩) (by assumption) ?_
  rotate_left
  · (intro w hSw; (try dsimp only at hSw); go_simp <;> with_reducible rfl)
  simp only [Act.put, List.setIfInBounds_toArray, List.set_cons_zero, List.set_cons_succ]
  refine tk (i := 7) (v := ?_) (tA rfl) (by kernel_rfl) (fun _ _ _ h => h) (Or.inl ⟨by rfl, ?_⟩) (by assumption) ?_
  rotate_left
  · (intro w hSw; (try dsimp only at hSw); go_simp <;> with_reducible rfl)
  simp only [Act.put, List.setIfInBounds_toArray, List.set_cons_zero, List.set_cons_succ]
  refine wpAnyH_ready (rs := [8]) (by kernel_rfl) (by simp) ?_
  refine AllReadyH.cons (tA rfl) (fun K hK => ?_) AllReadyH.nil
  have e0 : Yd.cell? ⟨g, k * 12, none⟩ = some (.int .i64 ((M).th k).c.r0) := hvd.cell HKY.out HUY.out 0 _ rfl
  have f0 := hvd.gz (k * 12)
  have e1 : Yd.cell? ⟨g, k * 12 + 1, none⟩ = some (.int .i64 ((M).th k).c.r1) := hvd.cell HKY.out HUY.out 1 _ rfl
  have f1 := hvd.gz (k * 12 + 1)
  have e2 : Yd.cell? ⟨g, k * 12 + 2, none⟩ = some (.int .i64 ((M).th k).c.r2) := hvd.cell HKY.out HUY.out 2 _ rfl
  have f2 := hvd.gz (k * 12 + 2)
  have e3 : Yd.cell? ⟨g, k * 12 + 3, none⟩ = some (.int .i64 ((M).th k).c.r3) := hvd.cell HKY.out HUY.out 3 _ rfl
  have f3 := hvd.gz (k * 12 + 3)
  have e4 : Yd.cell? ⟨g, k * 12 + 4, none⟩ = some (.int .i64 ((M).th k).c.r4) := hvd.cell HKY.out HUY.out 4 _ rfl
  have f4 := hvd.gz (k * 12 + 4)
  have e5 : Yd.cell? ⟨g, k * 12 + 5, none⟩ = some (.int .i64 ((M).th k).c.r5) := hvd.cell HKY.out HUY.out 5 _ rfl
  have f5 := hvd.gz (k * 12 + 5)
  have e6 : Yd.cell? ⟨g, k * 12 + 6, none⟩ = some (.int .i64 ((M).th k).c.r6) := hvd.cell HKY.out HUY.out 6 _ rfl
  have f6 := hvd.gz (k * 12 + 6)
  have e7 : Yd.cell? ⟨g, k * 12 + 7, none⟩ = some (.int .i64 ((M).th k).c.r7) := hvd.cell HKY.out HUY.out 7 _ rfl
  have f7 := hvd.gz (k * 12 + 7)
  have e8 : Yd.cell? ⟨g, k * 12 + 8, none⟩ = some (.int .i64 ((M).th k).c.pc) := hvd.cell HKY.out HUY.out 8 _ rfl
  have f8 := hvd.gz (k * 12 + 8)
  have e9 : Yd.cell? ⟨g, k * 12 + 9, none⟩ = some (.int .i64 ((M).th k).c.st) := hvd.cell HKY.out HUY.out 9 _ rfl
  have f9 := hvd.gz (k * 12 + 9)
  have e10 : Yd.cell? ⟨g, k * 12 + 10, none⟩ = some (.int .i64 ((M).th k).c.tr) := hvd.cell HKY.out HUY.out 10 _ rfl
  have f10 := hvd.gz (k * 12 + 10)
  clear hvd hHeld huY p0 p1 p2 p3 p4 p5 p6 p7 p8 p9 p10
  go_simp
  obtain ⟨HXX, HSS⟩ := HVD.out.regs HKY.out rfl (dd)
  obtain ⟨ZZ, hZZ⟩ : ∃ ZZ, (((((((((((Yd.setCell ⟨g, k * 12, none⟩ (.int .i64 (dd).r0)).setCell ⟨g, k * 12 + 1, none⟩ (.int .i64 (dd).r1)).setCell ⟨g, k * 12 + 2, none⟩ (.int .i64 (dd).r2)).setCell ⟨g, k * 12 + 3, none⟩ (.int .i64 (dd).r3)).setCell ⟨g, k * 12 + 4, none⟩ (.int .i64 (dd).r4)).setCell ⟨g, k * 12 + 5, none⟩ (.int .i64 (dd).r5)).setCell ⟨g, k * 12 + 6, none⟩ (.int .i64 (dd).r6)).setCell ⟨g, k * 12 + 7, none⟩ (.int .i64 (dd).r7)).setCell ⟨g, k * 12 + 8, none⟩ (.int .i64 (dd).pc)).setCell ⟨g, k * 12 + 9, none⟩ (.int .i64 (dd).st)).setCell ⟨g, k * 12 + 10, none⟩ (.int .i64 (dd).tr)) = ZZ := ⟨_, rfl⟩
  rw [hZZ] at HXX HSS
  rw [hZZ]
  have cZ : ZZ.cell? ⟨b, 3, none⟩ = some (.slice (some ⟨g, 0, none⟩) n cap) := by have h9 := HXX.c3; rw [T.len_setC, HLN.out] at h9; exact h9
  have HXZ : Hid _ := HXX
  have HSZ2 : Hid (St t _ w ZZ) := HSD.out.trans HSS
  have HKZ : Hid (k < (T.setC (M) k (dd)).ts.length) := by show k < _; rw [T.len_setC]; exact HKY.out
  have HTZ : Hid ((T.setC (M) k (dd)).th k = ⟨dd, ((M).th k).ws⟩) := T.th_setC HKY.out _
  have HUZ : Hid _ := HUY.out
  have HSO : Hid (∀ (p : Addr) (v : Value), t p.block = 0 → Y5.cell? p = some v → ZZ.cell? p = some v) := fun p v h0 hv => st_cell HSS h0 (cell_up hbd hv)
  have HSF : Hid (∀ (p : Addr), p.block < Y5.heap.size → t p.block = 0 → ZZ.frozen? p = Y5.frozen? p) := fun p hp h0 => (World.frozen?_of_block (HSS.block p.block (Nat.lt_of_lt_of_le hp hbd.size) h0)).trans (hbd.frozen hp)
  clear hZZ HXX HSS e0 f0 e1 f1 e2 f2 e3 f3 e4 f4 e5 f5 e6 f6 e7 f7 e8 f8 e9 f9 e10 f10
  refine hK.out _ _ ⟨cZ, HSO.out ⟨z.heap.size, 0, none⟩ _ HTB.out (HPC.out 0 _ rfl), HSO.out ⟨z.heap.size, 1, none⟩ _ HTB.out (HPC.out 1 _ rfl), HSO.out ⟨z.heap.size, 2, none⟩ _ HTB.out (HPC.out 2 _ rfl), HSO.out ⟨z.heap.size, 3, none⟩ _ HTB.out (HPC.out 3 _ rfl), HSO.out ⟨z.heap.size, 4, none⟩ _ HTB.out (HPC.out 4 _ rfl), HSO.out ⟨z.heap.size, 5, none⟩ _ HTB.out (HPC.out 5 _ rfl), HSO.out ⟨z.heap.size, 6, none⟩ _ HTB.out (HPC.out 6 _ rfl), HSO.out ⟨z.heap.size, 7, none⟩ _ HTB.out (HPC.out 7 _ rfl), HSO.out ⟨z.heap.size, 8, none⟩ _ HTB.out (HPC.out 8 _ rfl), HSO.out ⟨z.heap.size, 9, none⟩ _ HTB.out (HPC.out 9 _ rfl), HSO.out ⟨z.heap.size, 10, none⟩ _ HTB.out (HPC.out 10 _ rfl)⟩ (fun hHeld => ?_)
  clear hK K hbd
  try simp only [Act.put, List.setIfInBounds_toArray, List.set_cons_zero, List.set_cons_succ]
  refine wpAnyH_done (by kernel_rfl) ?_ _
  clear hHeld HSK
  have g0 := HSO.out ⟨z.heap.size + 1, 0, none⟩ _ HTQ.out g0
  have g1 := HSO.out ⟨z.heap.size + 1, 1, none⟩ _ HTQ.out g1
  have g2 := HSO.out ⟨z.heap.size + 1, 2, none⟩ _ HTQ.out g2
  have g3 := HSO.out ⟨z.heap.size + 1, 3, none⟩ _ HTQ.out g3
  have HPW : Hid (∀ j u, (cV cc)[j]? = some u → ZZ.cell? ⟨w.heap.size, j, none⟩ = some u) := fun j u hu => HSO.out ⟨w.heap.size, j, none⟩ _ HTC.out (HPY.out j u hu)
  have HFW : Hid (∀ o, ZZ.frozen? ⟨w.heap.size, o, none⟩ = false) := fun o => (HSF.out ⟨w.heap.size, o, none⟩ HW5.out HTC.out).trans (HFY.out o)
  go_wp2_with fail
  refine (HASK.out ZZ _ _ HXZ.out).mono ?_
  rintro e z2 ⟨rfl, t2, D2, S2, ev2, us2, hv6, hs6⟩
  have HTC2 : Hid (t2 w.heap.size = 0) := (hs6.tag _ (World.block_lt_of_cell? _ ⟨w.heap.size, 0, none⟩ (HPW.out 0 _ rfl))).trans HTC.out
  have HS6 : Hid (St t t2 w z2) := HSZ2.out.trans hs6
  have HV6 : Hid (XV B z2 b (if T.ansE M k qq = 0 then N else T.setC M k dd) t2 D2 S2 vd vs g cap ev2 us2) := hv6
  have HP6 : Hid (∀ j u, (cV cc)[j]? = some u → z2.cell? ⟨w.heap.size, j, none⟩ = some u) := fun j u hu => st_cell hs6 (p := ⟨w.heap.size, j, none⟩) HTC.out (HPW.out j u hu)
  have HF6 : Hid (∀ o, z2.frozen? ⟨w.heap.size, o, none⟩ = false) := fun o => (World.frozen?_of_block (a := ⟨w.heap.size, o, none⟩) (hs6.block w.heap.size (World.block_lt_of_cell? _ ⟨w.heap.size, 0, none⟩ (HPW.out 0 _ rfl)) HTC.out)).trans (HFW.out o)
  clear hv6 hs6 g0 g1 g2 g3 cZ c3y HXZ HSZ2 HKZ HTZ HUZ HPC HV5 HS5 HSO HSF HPW HFW HUY HVD HSD
  by_cases hE : T.ansE M k qq = 0
  · have HGN : Hid (T.goOn M k = T.seen N k) := HGN.out hE
    rw [if_pos hE] at HV6
    rw [decide_eq_true hE]
    clear hE HP6 HF6 HGB HES
    have HES : Hid (N.es.length ≤ 1000001) := HESN.out
    have cZ := HV6.out.c3
    rw [HLZ.out] at cZ
    obtain ⟨u6, hu6⟩ := HV6.out.u HKN.out
    have HUZ : Hid (us2[k]? = some u6) := hu6
    have HKZ : Hid (k < N.ts.length) := HKN.out
    have s9 : z2.cell? ⟨g, k * 12 + 9, none⟩ = some (.int .i64 (N.th k).c.st) := HV6.out.cell HKN.out hu6 9 _ rfl
    have s10 : z2.cell? ⟨g, k * 12 + 10, none⟩ = some (.int .i64 (N.th k).c.tr) := HV6.out.cell HKN.out hu6 10 _ rfl
    clear hu6
    by_cases hst1 : (N.th k).c.st = 1
    · have HGF : Hid (T.goOn M k = N.see k 2 0) := HGN.out.trans (if_pos hst1)
      rw [hst1] at s9
      clear s10 hst1
      obtain ⟨iw, hiw, hp0, hp1, hp2⟩ := info_partsL infoE
      have d1 := HV6.out.c4
      have hr1 := HV6.out.evs
      have hg1 := HV6.out.fz 4
      have hty : b < z2.heap.size := HV6.out.bl
      obtain ⟨a1, p1, hev, hnp, hpm⟩ := own_sl hr1
      obtain ⟨m1, hm1⟩ : ∃ m1, (N).es.length = m1 := ⟨_, rfl⟩
      have hm1e : m1 ≤ 1000001 := by rw [← hm1]; exact HES.out
      rw [hm1] at hev hnp hr1
      have HEV : Hid _ := hev
      have HM1 : Hid ((N).es.length = m1) := hm1
      have hvb : (Value.slice a1 m1 p1).ownBlock ≠ some b := fun e => by have e1 := HV6.out.te b (by rw [hev]; exact e); have e2 := HV6.out.tb; omega
      have hvg : (Value.slice a1 m1 p1).ownBlock ≠ some g := fun e => by have e1 := HV6.out.te g (by rw [hev]; exact e); have e2 := HV6.out.tg; omega
      have hBy := HV6.out.hB
      rw [hev] at d1 hr1
      unfold maxLen at hpm
      clear hm1 hev
      have HB1 : Hid (Below z2.heap.size z2 (z2.alloc (.cells #[.int .i64 (k : Int), .int .i64 2, .int .i64 0] 101))) := bl_one _ _
      have HW1 : Hid ((z2.alloc (.cells #[.int .i64 (k : Int), .int .i64 2, .int .i64 0] 101)).ownsRow B 101 3 (.slice a1 m1 p1) m1 (N.es.flatMap eC)) := hr1.kept (gb_of_below HB1.out (some z2.heap.size)) (.inr fun e => by have := own_lt hr1 e; omega)
      have HNC : Hid (∀ j u, (eC ((k : Int), 2, 0))[j]? = some u → (z2.alloc (.cells #[.int .i64 (k : Int), .int .i64 2, .int .i64 0] 101)).cell? ((⟨z2.heap.size, 0, none⟩ : Addr).add j) = some u) := fun j u hu => by
        rw [Addr.add_lit, Nat.zero_add]
        exact cell_last _ _ _ _ _ rfl (by simpa [eC] using hu)
      have FT : (z2.alloc (.cells #[.int .i64 (k : Int), .int .i64 2, .int .i64 0] 101)).cell? ⟨b, 4, none⟩ = some (.slice a1 m1 p1) := cell_up HB1.out d1
      have GT : (z2.alloc (.cells #[.int .i64 (k : Int), .int .i64 2, .int .i64 0] 101)).frozen? ⟨b, 4, none⟩ = false := (HB1.out.frozen (p := ⟨b, 4, none⟩) hty).trans hg1
      clear hr1
      go_wp2_with (first | (at_builtin; refine wpList_append_lies _ rfl _ _ 38 rfl B 101 iw _ 3 24 Tryd.underlying38 hiw hp0 hp1 hp2 rfl (by decide) (.slice a1 m1 p1) m1 _ rfl HW1.out ⟨z2.heap.size, 0, none⟩ 1 1 (eC ((k : Int), 2, 0)) rfl rfl HNC.out (by intro u hu; simp [eC] at hu; rcases hu with rfl | rfl | rfl <;> rfl) (by decide) (by unfold maxLen; omega) (by omega) (by simp; omega) (z2.heap.size + 1) (by simp) ?_) | go_in)
      intro x1 cp Y6 ho6 hg6 hat6 hlt6
      have m6 : Y6.cell? ⟨b, 4, none⟩ = some (.slice a1 m1 p1) := hg6.cell FT (fun e => hvb e.symm)
      have z6 : Y6.frozen? ⟨b, 4, none⟩ = false := (hg6.frozen_far ⟨b, 4, none⟩ (Nat.lt_of_lt_of_le hty HB1.out.size) (fun e => hvb e.symm)).trans GT
      have c36 : Y6.cell? ⟨b, 3, none⟩ = some (.slice (some ⟨g, 0, none⟩) n cap) := hg6.cell (cell_up HB1.out cZ) (fun e => hvb e.symm)
      have s96 : Y6.cell? ⟨g, k * 12 + 9, none⟩ = some (.int .i64 1) := hg6.cell (cell_up HB1.out s9) (fun e => hvg e.symm)
      have hbg : b ≠ g := fun e => by have h1 := HV6.out.tb; have h2 := HV6.out.tg; rw [e] at h1; omega
      have s97 : (Y6.setCell ⟨b, 4, none⟩ (.slice (some ⟨x1, 0, none⟩) (m1 + 1) cp)).cell? ⟨g, k * 12 + 9, none⟩ = some (.int .i64 1) := (World.cell?_setCell_far _ _ _ _ hbg).trans s96
      go_wp2
      go_ret
      have ho7 : Y6.ownsRow B 101 3 (.slice (some ⟨x1, 0, none⟩) (N.es.length + 1) cp) (N.es.length + 1) (N.es.flatMap eC ++ eC ((k : Int), 2, 0)) := by rw [HM1.out]; exact ho6
      obtain ⟨q1, q2⟩ := HV6.out.saw HB1.out ho7 (HEV.out ▸ hg6) (by rw [HEV.out]; exact hat6.imp id (fun e => by omega))
      rw [HM1.out] at q1 q2
      rw [HGF.out]
      exact ⟨rfl, _, _, _, _, _, q1, HS6.out.trans q2⟩
    by_cases hst2 : (N.th k).c.st = 2
    · obtain ⟨tr, htr⟩ : ∃ tr, (N.th k).c.tr = tr := ⟨_, rfl⟩
      have HC10 : Hid ((N.th k).c.tr = tr) := htr
      have HGF : Hid (T.goOn M k = N.see k 3 tr) := HGN.out.trans (by unfold T.seen; rw [if_neg hst1, if_pos hst2, htr])
      rw [htr] at s10
      rw [hst2] at s9
      clear htr hst1 hst2
      obtain ⟨iw, hiw, hp0, hp1, hp2⟩ := info_partsL infoE
      have d1 := HV6.out.c4
      have hr1 := HV6.out.evs
      have hg1 := HV6.out.fz 4
      have hty : b < z2.heap.size := HV6.out.bl
      obtain ⟨a1, p1, hev, hnp, hpm⟩ := own_sl hr1
      obtain ⟨m1, hm1⟩ : ∃ m1, (N).es.length = m1 := ⟨_, rfl⟩
      have hm1e : m1 ≤ 1000001 := by rw [← hm1]; exact HES.out
      rw [hm1] at hev hnp hr1
      have HEV : Hid _ := hev
      have HM1 : Hid ((N).es.length = m1) := hm1
      have hvb : (Value.slice a1 m1 p1).ownBlock ≠ some b := fun e => by have e1 := HV6.out.te b (by rw [hev]; exact e); have e2 := HV6.out.tb; omega
      have hvg : (Value.slice a1 m1 p1).ownBlock ≠ some g := fun e => by have e1 := HV6.out.te g (by rw [hev]; exact e); have e2 := HV6.out.tg; omega
      have hBy := HV6.out.hB
      rw [hev] at d1 hr1
      unfold maxLen at hpm
      clear hm1 hev
      go_wp2_with fail
      have HB1 : Hid (Below z2.heap.size z2 (z2.alloc (.cells #[.int .i64 (k : Int), .int .i64 3, .int .i64 tr] 101)).drew) := (bl_one _ _).drew
      have HW1 : Hid ((z2.alloc (.cells #[.int .i64 (k : Int), .int .i64 3, .int .i64 tr] 101)).drew.ownsRow B 101 3 (.slice a1 m1 p1) m1 ((N).es.flatMap eC)) := hr1.kept (gb_of_below HB1.out (some z2.heap.size)) (.inr fun e => by have := own_lt hr1 e; omega)
      have HNC : Hid (∀ j u, (eC ((k : Int), 3, tr))[j]? = some u → (z2.alloc (.cells #[.int .i64 (k : Int), .int .i64 3, .int .i64 tr] 101)).drew.cell? ((⟨z2.heap.size, 0, none⟩ : Addr).add j) = some u) := fun j u hu => by
        rw [Addr.add_lit, Nat.zero_add]
        exact cell_last _ _ _ _ _ rfl (by simpa [eC] using hu)
      have HSK : Hid (∀ z : World, Below z2.heap.size z2 z → (fun w' : World => w'.cell? ⟨b, 3, none⟩ = some (.slice (some ⟨g, 0, none⟩) n cap) ∧ w'.cell? ⟨g, k * 12 + 10, none⟩ = some (.int .i64 tr)) z) := fun z hz => ⟨cell_up hz cZ, cell_up hz s10⟩
      have FT : (z2.alloc (.cells #[.int .i64 (k : Int), .int .i64 3, .int .i64 tr] 101)).drew.cell? ⟨b, 4, none⟩ = some (.slice a1 m1 p1) := cell_up HB1.out d1
      have GT : (z2.alloc (.cells #[.int .i64 (k : Int), .int .i64 3, .int .i64 tr] 101)).drew.frozen? ⟨b, 4, none⟩ = false := (HB1.out.frozen (p := ⟨b, 4, none⟩) hty).trans hg1
      have HD1 : Hid _ := d1
      have HR1 : Hid _ := hr1
      clear hr1
      refine wp_region_held_drew (S := (fun w' : World => w'.cell? ⟨b, 3, none⟩ = some (.slice (some ⟨g, 0, none⟩) n cap) ∧ w'.cell? ⟨g, k * 12 + 10, none⟩ = some (.int .i64 tr))) (by kernel_rfl) (HSK.out _ (Below.refl _ _).drew) (fun hHeld => ?_)
      refine tk (i := 0) (v := ?_) (tA rfl) (by kernel_rfl) (fun _ _ _ h => h) (Or.inl ⟨by rfl, ?_⟩) (by assumption) ?_
      rotate_left
      · (intro w hSw; (try dsimp only at hSw); go_simp <;> with_reducible rfl)
      simp only [Act.put, List.setIfInBounds_toArray, List.set_cons_zero, List.set_cons_succ]
      refine tk (i := 1) (v := ?_) (tA rfl) (by kernel_rfl) (fun _ _ _ h => h) (Or.inl ⟨by rfl, ?_⟩) (by assumption) ?_
      rotate_left
      · (intro w hSw; (try dsimp only at hSw); go_simp <;> with_reducible rfl)
      simp only [Act.put, List.setIfInBounds_toArray, List.set_cons_zero, List.set_cons_succ]
      refine tk (i := 2) (v := ?_) (tA rfl) (by kernel_rfl) (fun _ _ _ h => h) (Or.inl ⟨by rfl, ?_⟩) (by assumption) ?_
      rotate_left
      · (intro w hSw; (try dsimp only at hSw); go_simp <;> with_reducible rfl)
      simp only [Act.put, List.setIfInBounds_toArray, List.set_cons_zero, List.set_cons_succ]
      refine tk (i := 3) (v := ?_) (tA rfl) (by kernel_rfl) (fun _ _ _ h => h) (Or.inl ⟨by rfl, ?_⟩) (by assumption) ?_
      rotate_left
      · (intro w hSw; (try dsimp only at hSw); go_simp <;> with_reducible rfl)
      simp only [Act.put, List.setIfInBounds_toArray, List.set_cons_zero, List.set_cons_succ]
      refine tk (i := 5) (v := ?_) (tA rfl) (by kernel_rfl) (fun _ _ _ h => h) (Or.inl ⟨by rfl, ?_⟩) (by assumption) ?_
      rotate_left
      · (intro w hSw; (try dsimp only at hSw); go_simp <;> with_reducible rfl)
      simp only [Act.put, List.setIfInBounds_toArray, List.set_cons_zero, List.set_cons_succ]
      refine tk (i := 6) (v := ?_) (tA rfl) (by kernel_rfl) (fun _ _ _ h => h) (Or.inl ⟨by rfl, ?_⟩) (by assumption) ?_
      rotate_left
      · (intro w hSw; (try dsimp only at hSw); go_simp <;> with_reducible rfl)
      simp only [Act.put, List.setIfInBounds_toArray, List.set_cons_zero, List.set_cons_succ]
      refine tk (i := 7) (v := ?_) (tA rfl) (by kernel_rfl) (fun _ _ _ h => h) (Or.inl ⟨by rfl, ?_⟩) (by assumption) ?_
      rotate_left
      · (intro w hSw; (try dsimp only at hSw); go_simp <;> with_reducible rfl)
      simp only [Act.put, List.setIfInBounds_toArray, List.set_cons_zero, List.set_cons_succ]
      refine tk (i := 8) (v := ?_) (tA rfl) (by kernel_rfl) (fun _ _ _ h => h) (Or.inl ⟨by rfl, ?_⟩) (by assumption) ?_
      rotate_left
      · (intro w hSw; (try dsimp only at hSw); go_simp <;> with_reducible rfl)
      simp only [Act.put, List.setIfInBounds_toArray, List.set_cons_zero, List.set_cons_succ]
      refine tk (i := 9) (v := ?_) (tA rfl) (by kernel_rfl) (fun _ _ _ h => h) (Or.inl ⟨by rfl, ?_⟩) (by assumption) ?_
      rotate_left
      · (intro w hSw; (try dsimp only at hSw); go_simp <;> with_reducible rfl)
      simp only [Act.put, List.setIfInBounds_toArray, List.set_cons_zero, List.set_cons_succ]
      refine tk (i := 10) (v := ?_) (tA rfl) (by kernel_rfl) (fun _ _ _ h => h) (Or.inl ⟨by rfl, ?_⟩) (by assumption) ?_
      rotate_left
      · (intro w hSw; (try dsimp only at hSw); go_simp <;> with_reducible rfl)
      simp only [Act.put, List.setIfInBounds_toArray, List.set_cons_zero, List.set_cons_succ]
      refine tk (i := 11) (v := ?_) (tA rfl) (by kernel_rfl) (fun _ _ _ h => h) (Or.inl ⟨by rfl, ?_⟩) (by assumption) ?_
      rotate_left
      · (intro w hSw; (try dsimp only at hSw); go_simp <;> with_reducible rfl)
      simp only [Act.put, List.setIfInBounds_toArray, List.set_cons_zero, List.set_cons_succ]
      refine tk (i := 12) (v := ?_) (tA rfl) (by kernel_rfl) (fun _ _ _ h => h) (Or.inl ⟨by rfl, ?_⟩) (by assumption) ?_
      rotate_left
      · (intro w hSw; (try dsimp only at hSw); go_simp <;> with_reducible rfl)
      simp only [Act.put, List.setIfInBounds_toArray, List.set_cons_zero, List.set_cons_succ]
      refine tk (i := 13) (v := ?_) (tA rfl) (by kernel_rfl) (fun _ _ _ h => h) (Or.inl ⟨by rfl, ?_⟩) (by assumption) ?_
      rotate_left
      · (intro w hSw; (try dsimp only at hSw); go_simp <;> with_reducible rfl)
      simp only [Act.put, List.setIfInBounds_toArray, List.set_cons_zero, List.set_cons_succ]
      refine tk (i := 14) (v := ?_) (tA rfl) (by kernel_rfl) (fun _ _ _ h => h) (Or.inl ⟨by rfl, ?_⟩) (by assumption) ?_
      rotate_left
      · (intro w hSw; (try dsimp only at hSw); go_simp <;> with_reducible rfl)
      simp only [Act.put, List.setIfInBounds_toArray, List.set_cons_zero, List.set_cons_succ]
      refine tk (i := 15) (v := ?_) (tA rfl) (by kernel_rfl) (fun _ _ _ h => h) (Or.inl ⟨by rfl, ?_⟩) (by assumption) ?_
      rotate_left
      · (intro w hSw; (try dsimp only at hSw); go_simp <;> with_reducible rfl)
      simp only [Act.put, List.setIfInBounds_toArray, List.set_cons_zero, List.set_cons_succ]
      refine wpAnyH_ready (rs := [4, 16]) (by kernel_rfl) (by simp) ?_
      refine AllReadyH.cons (tA rfl) (fun K hK => ?_) (AllReadyH.cons (tA rfl) (fun K hK => ?_) AllReadyH.nil)
      · go_simp
        refine hK.out _ _ (by first | exact HSK.out _ (Below.refl _ _).drew | exact HSK.out _ HB1.out) (fun hHeld => ?_)
        clear hK K
        try simp only [Act.put, List.setIfInBounds_toArray, List.set_cons_zero, List.set_cons_succ]
        refine wpAnyH_ready (rs := [16]) (by kernel_rfl) (by simp) ?_
        refine AllReadyH.cons (tA rfl) (fun K hK => ?_) AllReadyH.nil
        go_simp
        refine hK.out _ _ (by first | exact HSK.out _ (Below.refl _ _).drew | exact HSK.out _ HB1.out) (fun hHeld => ?_)
        clear hK K
        try simp only [Act.put, List.setIfInBounds_toArray, List.set_cons_zero, List.set_cons_succ]
        refine wpAnyH_ready (rs := [17]) (by kernel_rfl) (by simp) ?_
        refine AllReadyH.cons (tA rfl) (fun K hK => ?_) AllReadyH.nil
        refine step_append_lies _ (by rfl) _ _ 38 (by rfl) B 101 iw _ 3 24 Tryd.underlying38 hiw hp0 hp1 hp2 (by rfl) (by decide) (.slice a1 m1 p1) m1 _ (by rfl) HW1.out ⟨z2.heap.size, 0, none⟩ 1 1 (eC ((k : Int), 3, tr)) (by rfl) (by rfl) HNC.out (by intro u hu; simp [eC] at hu; rcases hu with rfl | rfl | rfl <;> rfl) (by decide) (by unfold maxLen; omega) (by omega) (by simp; omega) (z2.heap.size + 1) (by simp) ?_
        intro x1 cp Y6 ho6 hg6 hat6 hlt6
        have m6 : Y6.cell? ⟨b, 4, none⟩ = some (.slice a1 m1 p1) := hg6.cell FT (fun e => hvb e.symm)
        have z6 : Y6.frozen? ⟨b, 4, none⟩ = false := (hg6.frozen_far ⟨b, 4, none⟩ (Nat.lt_of_lt_of_le hty HB1.out.size) (fun e => hvb e.symm)).trans GT
        refine hK.out _ _ ⟨(hg6.cell (cell_up HB1.out cZ) (fun e => hvb e.symm)), (hg6.cell (cell_up HB1.out s10) (fun e => hvg e.symm))⟩ (fun hHeld => ?_)
        clear hK K
        try simp only [Act.put, List.setIfInBounds_toArray, List.set_cons_zero, List.set_cons_succ]
        refine tk (i := 18) (v := ?_) (tA rfl) (by kernel_rfl) (fun _ _ _ h => h) (Or.inl ⟨by rfl, ?_⟩) (by assumption) ?_
        rotate_left
        · (intro w hSw; (try dsimp only at hSw); go_simp <;> with_reducible rfl)
        simp only [Act.put, List.setIfInBounds_toArray, List.set_cons_zero, List.set_cons_succ]
        refine tk (i := 19) (v := ?_) (tA rfl) (by kernel_rfl) (fun _ _ _ h => h) (Or.inl ⟨by rfl, ?_⟩) (by assumption) ?_
        rotate_left
        · (intro w hSw; (try dsimp only at hSw); go_simp <;> with_reducible rfl)
        simp only [Act.put, List.setIfInBounds_toArray, List.set_cons_zero, List.set_cons_succ]
        refine wpAnyH_ready (rs := [20]) (by kernel_rfl) (by simp) ?_
        refine AllReadyH.cons (tA rfl) (fun K hK => ?_) AllReadyH.nil
        clear hHeld
        go_simp
        have ho7 : Y6.ownsRow B 101 3 (.slice (some ⟨x1, 0, none⟩) ((N).es.length + 1) cp) ((N).es.length + 1) ((N).es.flatMap eC ++ eC ((k : Int), 3, tr)) := by rw [HM1.out]; exact ho6
        obtain ⟨q1, q2⟩ := HV6.out.saw HB1.out ho7 (HEV.out ▸ hg6) (by rw [HEV.out]; exact hat6.imp id (fun e => by omega))
        rw [HM1.out] at q1 q2
        obtain ⟨ZZ, hZZ⟩ : ∃ ZZ, Y6.setCell ⟨b, 4, none⟩ (.slice (some ⟨x1, 0, none⟩) (m1 + 1) cp) = ZZ := ⟨_, rfl⟩
        rw [hZZ] at q1 q2
        rw [hZZ]
        have HQ1 : Hid _ := q1
        have HQ2 : Hid (St t _ w ZZ) := HS6.out.trans q2
        refine hK.out _ _ ⟨(by have h9 := q1.c3; rw [show ((N).see k 3 tr).ts.length = n from HLZ.out] at h9; exact h9), (by have h9 := q1.cell (k := k) HKZ.out HUZ.out 10 _ rfl; exact h9.trans (by show some (Value.int .i64 ((N).th k).c.tr) = _; rw [HC10.out]))⟩ (fun hHeld => ?_)
        clear hK K hZZ m6 z6 q1 q2 ho7 ho6 hg6 hat6 hlt6
        try simp only [Act.put, List.setIfInBounds_toArray, List.set_cons_zero, List.set_cons_succ]
        refine wpAnyH_done (by kernel_rfl) ?_ _
        clear hHeld
        go_wp2
        go_ret
        rw [HGF.out]
        exact ⟨rfl, _, _, _, _, _, HQ1.out, HQ2.out⟩
      · go_simp
        refine hK.out _ _ (by first | exact HSK.out _ (Below.refl _ _).drew | exact HSK.out _ HB1.out) (fun hHeld => ?_)
        clear hK K
        try simp only [Act.put, List.setIfInBounds_toArray, List.set_cons_zero, List.set_cons_succ]
        refine wpAnyH_ready (rs := [4]) (by kernel_rfl) (by simp) ?_
        refine AllReadyH.cons (tA rfl) (fun K hK => ?_) AllReadyH.nil
        go_simp
        refine hK.out _ _ (by first | exact HSK.out _ (Below.refl _ _).drew | exact HSK.out _ HB1.out) (fun hHeld => ?_)
        clear hK K
        try simp only [Act.put, List.setIfInBounds_toArray, List.set_cons_zero, List.set_cons_succ]
        refine wpAnyH_ready (rs := [17]) (by kernel_rfl) (by simp) ?_
        refine AllReadyH.cons (tA rfl) (fun K hK => ?_) AllReadyH.nil
        refine step_append_lies _ (by rfl) _ _ 38 (by rfl) B 101 iw _ 3 24 Tryd.underlying38 hiw hp0 hp1 hp2 (by rfl) (by decide) (.slice a1 m1 p1) m1 _ (by rfl) HW1.out ⟨z2.heap.size, 0, none⟩ 1 1 (eC ((k : Int), 3, tr)) (by rfl) (by rfl) HNC.out (by intro u hu; simp [eC] at hu; rcases hu with rfl | rfl | rfl <;> rfl) (by decide) (by unfold maxLen; omega) (by omega) (by simp; omega) (z2.heap.size + 1) (by simp) ?_
        intro x1 cp Y6 ho6 hg6 hat6 hlt6
        have m6 : Y6.cell? ⟨b, 4, none⟩ = some (.slice a1 m1 p1) := hg6.cell FT (fun e => hvb e.symm)
        have z6 : Y6.frozen? ⟨b, 4, none⟩ = false := (hg6.frozen_far ⟨b, 4, none⟩ (Nat.lt_of_lt_of_le hty HB1.out.size) (fun e => hvb e.symm)).trans GT
        refine hK.out _ _ ⟨(hg6.cell (cell_up HB1.out cZ) (fun e => hvb e.symm)), (hg6.cell (cell_up HB1.out s10) (fun e => hvg e.symm))⟩ (fun hHeld => ?_)
        clear hK K
        try simp only [Act.put, List.setIfInBounds_toArray, List.set_cons_zero, List.set_cons_succ]
        refine tk (i := 18) (v := ?_) (tA rfl) (by kernel_rfl) (fun _ _ _ h => h) (Or.inl ⟨by rfl, ?_⟩) (by assumption) ?_
        rotate_left
        · (intro w hSw; (try dsimp only at hSw); go_simp <;> with_reducible rfl)
        simp only [Act.put, List.setIfInBounds_toArray, List.set_cons_zero, List.set_cons_succ]
        refine tk (i := 19) (v := ?_) (tA rfl) (by kernel_rfl) (fun _ _ _ h => h) (Or.inl ⟨by rfl, ?_⟩) (by assumption) ?_
        rotate_left
        · (intro w hSw; (try dsimp only at hSw); go_simp <;> with_reducible rfl)
        simp only [Act.put, List.setIfInBounds_toArray, List.set_cons_zero, List.set_cons_succ]
        refine wpAnyH_ready (rs := [20]) (by kernel_rfl) (by simp) ?_
        refine AllReadyH.cons (tA rfl) (fun K hK => ?_) AllReadyH.nil
        clear hHeld
        go_simp
        have ho7 : Y6.ownsRow B 101 3 (.slice (some ⟨x1, 0, none⟩) ((N).es.length + 1) cp) ((N).es.length + 1) ((N).es.flatMap eC ++ eC ((k : Int), 3, tr)) := by rw [HM1.out]; exact ho6
        obtain ⟨q1, q2⟩ := HV6.out.saw HB1.out ho7 (HEV.out ▸ hg6) (by rw [HEV.out]; exact hat6.imp id (fun e => by omega))
        rw [HM1.out] at q1 q2
        obtain ⟨ZZ, hZZ⟩ : ∃ ZZ, Y6.setCell ⟨b, 4, none⟩ (.slice (some ⟨x1, 0, none⟩) (m1 + 1) cp) = ZZ := ⟨_, rfl⟩
        rw [hZZ] at q1 q2
        rw [hZZ]
        have HQ1 : Hid _ := q1
        have HQ2 : Hid (St t _ w ZZ) := HS6.out.trans q2
        refine hK.out _ _ ⟨(by have h9 := q1.c3; rw [show ((N).see k 3 tr).ts.length = n from HLZ.out] at h9; exact h9), (by have h9 := q1.cell (k := k) HKZ.out HUZ.out 10 _ rfl; exact h9.trans (by show some (Value.int .i64 ((N).th k).c.tr) = _; rw [HC10.out]))⟩ (fun hHeld => ?_)
        clear hK K hZZ m6 z6 q1 q2 ho7 ho6 hg6 hat6 hlt6
        try simp only [Act.put, List.setIfInBounds_toArray, List.set_cons_zero, List.set_cons_succ]
        refine wpAnyH_done (by kernel_rfl) ?_ _
        clear hHeld
        go_wp2
        go_ret
        rw [HGF.out]
        exact ⟨rfl, _, _, _, _, _, HQ1.out, HQ2.out⟩
    have HGF : Hid (T.goOn M k = N) := HGN.out.trans (by unfold T.seen; rw [if_neg hst1, if_neg hst2])
    obtain ⟨sx, hsx⟩ : ∃ sx, (N.th k).c.st = sx := ⟨_, rfl⟩
    rw [hsx] at s9 hst1 hst2
    clear hsx s10
    go_wp2
    go_ret
    rw [HGF.out]
    exact ⟨rfl, _, _, _, _, _, HV6.out, HS6.out⟩
  · have HGB : Hid (T.goOn M k = (T.setC (T.setC M k dd) k (T.trapC cc 2)).see k 3 2) := HGB.out hE
    rw [if_neg hE] at HV6
    rw [decide_eq_false hE]
    clear hE HGN HESN HKN HLZ
    have p9 := HP6.out 9 _ rfl
    have p10 := HP6.out 10 _ rfl
    have z9 := HF6.out 9
    have z10 := HF6.out 10
    go_wp2_with fail
    obtain ⟨Y7, hY7⟩ : ∃ Y7, ((z2.setCell ⟨w.heap.size, 9, none⟩ (.int .i64 2)).setCell ⟨w.heap.size, 10, none⟩ (.int .i64 2)) = Y7 := ⟨_, rfl⟩
    have hblk : ∀ q, q ≠ w.heap.size → Y7.heap[q]? = z2.heap[q]? := fun q hq => by
      rw [← hY7]
      exact (heap_setCell_other _ ⟨w.heap.size, 10, none⟩ q _ (fun e => hq e)).trans (heap_setCell_other _ ⟨w.heap.size, 9, none⟩ q _ (fun e => hq e))
    have hsz : Y7.heap.size = z2.heap.size := by rw [← hY7, World.size_setCell, World.size_setCell]
    have HV7 : Hid (XV B Y7 b (T.setC M k dd) t2 D2 S2 vd vs g cap ev2 us2) := HV6.out.keep (fun q _ e => hblk q (fun e2 => e (by rw [e2]; exact HTC2.out))) (fun _ _ _ => rfl) (fun q hq => by rw [hsz]; exact HV6.out.lt q hq)
    have HS7 : Hid (St t t2 w Y7) := by
      refine ⟨HS6.out.tag, fun q hq h0 => (hblk q (by omega)).trans (HS6.out.block q hq h0), by rw [hsz]; exact HS6.out.size, ?_, ?_, ?_⟩
      · rw [← hY7]; exact HS6.out.os
      · rw [← hY7]; exact HS6.out.tape
      · rw [← hY7]; exact HS6.out.output
    have HPC : Hid (∀ j u, (cV (T.trapC cc 2))[j]? = some u → Y7.cell? ⟨w.heap.size, j, none⟩ = some u) := fun j u hu => by
      rw [← hY7]
      exact trap_cells 2 HP6.out j u hu
    have HKY : Hid (k < (T.setC M k dd).ts.length) := by show k < _; rw [T.len_setC]; exact HKY.out
    have HLN : Hid ((T.setC M k dd).ts.length = n) := (T.len_setC _ _ _).trans HLN.out
    have c3y := HV7.out.c3
    rw [HLN.out] at c3y
    rw [hY7]
    clear hY7 hblk hsz p9 p10 z9 z10 HP6 HF6 HV6 HS6
    have p0 : Y7.cell? ⟨w.heap.size, 0, none⟩ = some (.int .i64 (T.trapC cc 2).r0) := HPC.out 0 _ rfl
    have p1 : Y7.cell? ⟨w.heap.size, 1, none⟩ = some (.int .i64 (T.trapC cc 2).r1) := HPC.out 1 _ rfl
    have p2 : Y7.cell? ⟨w.heap.size, 2, none⟩ = some (.int .i64 (T.trapC cc 2).r2) := HPC.out 2 _ rfl
    have p3 : Y7.cell? ⟨w.heap.size, 3, none⟩ = some (.int .i64 (T.trapC cc 2).r3) := HPC.out 3 _ rfl
    have p4 : Y7.cell? ⟨w.heap.size, 4, none⟩ = some (.int .i64 (T.trapC cc 2).r4) := HPC.out 4 _ rfl
    have p5 : Y7.cell? ⟨w.heap.size, 5, none⟩ = some (.int .i64 (T.trapC cc 2).r5) := HPC.out 5 _ rfl
    have p6 : Y7.cell? ⟨w.heap.size, 6, none⟩ = some (.int .i64 (T.trapC cc 2).r6) := HPC.out 6 _ rfl
    have p7 : Y7.cell? ⟨w.heap.size, 7, none⟩ = some (.int .i64 (T.trapC cc 2).r7) := HPC.out 7 _ rfl
    have p8 : Y7.cell? ⟨w.heap.size, 8, none⟩ = some (.int .i64 (T.trapC cc 2).pc) := HPC.out 8 _ rfl
    have p9 : Y7.cell? ⟨w.heap.size, 9, none⟩ = some (.int .i64 (T.trapC cc 2).st) := HPC.out 9 _ rfl
    have p10 : Y7.cell? ⟨w.heap.size, 10, none⟩ = some (.int .i64 (T.trapC cc 2).tr) := HPC.out 10 _ rfl
    have HSK : Hid (∀ zq : World, Below Y7.heap.size Y7 zq → (fun w' : World => w'.cell? ⟨b, 3, none⟩ = some (.slice (some ⟨g, 0, none⟩) n cap) ∧ w'.cell? ⟨w.heap.size, 0, none⟩ = some (.int .i64 (T.trapC cc 2).r0) ∧ w'.cell? ⟨w.heap.size, 1, none⟩ = some (.int .i64 (T.trapC cc 2).r1) ∧ w'.cell? ⟨w.heap.size, 2, none⟩ = some (.int .i64 (T.trapC cc 2).r2) ∧ w'.cell? ⟨w.heap.size, 3, none⟩ = some (.int .i64 (T.trapC cc 2).r3) ∧ w'.cell? ⟨w.heap.size, 4, none⟩ = some (.int .i64 (T.trapC cc 2).r4) ∧ w'.cell? ⟨w.heap.size, 5, none⟩ = some (.int .i64 (T.trapC cc 2).r5) ∧ w'.cell? ⟨w.heap.size, 6, none⟩ = some (.int .i64 (T.trapC cc 2).r6) ∧ w'.cell? ⟨w.heap.size, 7, none⟩ = some (.int .i64 (T.trapC cc 2).r7) ∧ w'.cell? ⟨w.heap.size, 8, none⟩ = some (.int .i64 (T.trapC cc 2).pc) ∧ w'.cell? ⟨w.heap.size, 9, none⟩ = some (.int .i64 (T.trapC cc 2).st) ∧ w'.cell? ⟨w.heap.size, 10, none⟩ = some (.int .i64 (T.trapC cc 2).tr)) zq) := fun zq hz => ⟨cell_up hz c3y, cell_up hz p0, cell_up hz p1, cell_up hz p2, cell_up hz p3, cell_up hz p4, cell_up hz p5, cell_up hz p6, cell_up hz p7, cell_up hz p8, cell_up hz p9, cell_up hz p10⟩
    obtain ⟨uY, huY⟩ := HV7.out.u HKY.out
    have HUY : Hid _ := huY
    refine wp_region_held_drew (S := (fun w' : World => w'.cell? ⟨b, 3, none⟩ = some (.slice (some ⟨g, 0, none⟩) n cap) ∧ w'.cell? ⟨w.heap.size, 0, none⟩ = some (.int .i64 (T.trapC cc 2).r0) ∧ w'.cell? ⟨w.heap.size, 1, none⟩ = some (.int .i64 (T.trapC cc 2).r1) ∧ w'.cell? ⟨w.heap.size, 2, none⟩ = some (.int .i64 (T.trapC cc 2).r2) ∧ w'.cell? ⟨w.heap.size, 3, none⟩ = some (.int .i64 (T.trapC cc 2).r3) ∧ w'.cell? ⟨w.heap.size, 4, none⟩ = some (.int .i64 (T.trapC cc 2).r4) ∧ w'.cell? ⟨w.heap.size, 5, none⟩ = some (.int .i64 (T.trapC cc 2).r5) ∧ w'.cell? ⟨w.heap.size, 6, none⟩ = some (.int .i64 (T.trapC cc 2).r6) ∧ w'.cell? ⟨w.heap.size, 7, none⟩ = some (.int .i64 (T.trapC cc 2).r7) ∧ w'.cell? ⟨w.heap.size, 8, none⟩ = some (.int .i64 (T.trapC cc 2).pc) ∧ w'.cell? ⟨w.heap.size, 9, none⟩ = some (.int .i64 (T.trapC cc 2).st) ∧ w'.cell? ⟨w.heap.size, 10, none⟩ = some (.int .i64 (T.trapC cc 2).tr))) (by kernel_rfl) (HSK.out _ (Below.refl _ _).drew) (fun hHeld => ?_)
    obtain ⟨Yd, hYd⟩ : ∃ Yd, Y7.drew = Yd := ⟨_, rfl⟩
    have hbd : Below Y7.heap.size Y7 Yd := by rw [← hYd]; exact (Below.refl _ _).drew
    rw [hYd] at hHeld
    rw [hYd]
    clear hYd
    have hvd := HV7.out.below hbd
    have HVD : Hid _ := hvd
    have HSD : Hid (St t _ w Yd) := HS7.out.trans (St.ofBelow _ hbd)
    refine tk (i := 0) (v := ?_) (tA rfl) (by kernel_rfl) (fun _ _ _ h => h) (Or.inl ⟨by rfl, ?_⟩) (by assumption) ?_
    rotate_left
    · (intro w hSw; (try dsimp only at hSw); go_simp <;> with_reducible rfl)
    simp only [Act.put, List.setIfInBounds_toArray, List.set_cons_zero, List.set_cons_succ]
    refine tk (i := 1) (v := ?_) (tA rfl) (by kernel_rfl) (fun _ _ _ h => h) (Or.inl ⟨by rfl, ?_⟩) (by assumption) ?_
    rotate_left
    · (intro w hSw; (try dsimp only at hSw); go_simp <;> with_reducible rfl)
    simp only [Act.put, List.setIfInBounds_toArray, List.set_cons_zero, List.set_cons_succ]
    refine tk (i := 2) (v := ?_) (tA rfl) (by kernel_rfl) (fun _ _ _ h => h) (Or.inl ⟨by rfl, ?_⟩) (by assumption) ?_
    rotate_left
    · (intro w hSw; (try dsimp only at hSw); go_simp <;> with_reducible rfl)
    simp only [Act.put, List.setIfInBounds_toArray, List.set_cons_zero, List.set_cons_succ]
    refine tk (i := 3) (v := ?_) (tA rfl) (by kernel_rfl) (fun _ _ _ h => h) (Or.inl ⟨by rfl, ?_⟩) (by assumption) ?_
    rotate_left
    · (intro w hSw; (try dsimp only at hSw); go_simp <;> with_reducible rfl)
    simp only [Act.put, List.setIfInBounds_toArray, List.set_cons_zero, List.set_cons_succ]
    refine tk (i := 4) (v := ?_) (tA rfl) (by kernel_rfl) (fun _ _ _ h => h) (Or.inl ⟨by rfl, ?_⟩) (by assumption) ?_
    rotate_left
    · (intro w hSw; (try dsimp only at hSw); go_simp <;> with_reducible rfl)
    simp only [Act.put, List.setIfInBounds_toArray, List.set_cons_zero, List.set_cons_succ]
    refine tk (i := 5) (v := ?_) (tA rfl) (by kernel_rfl) (fun _ _ _ h => h) (Or.inl ⟨by rfl, ?_⟩) (by assumption) ?_
    rotate_left
    · (intro w hSw; (try dsimp only at hSw); go_simp <;> with_reducible rfl)
    simp only [Act.put, List.setIfInBounds_toArray, List.set_cons_zero, List.set_cons_succ]
    refine tk (i := 6) (v := ?_) (tA rfl) (by kernel_rfl) (fun _ _ _ h => h) (Or.inl ⟨by rfl, ?_⟩) (by assumption) ?_
    rotate_left
    · (intro w hSw; (try dsimp only at hSw); go_simp <;> with_reducible rfl)
    simp only [Act.put, List.setIfInBounds_toArray, List.set_cons_zero, List.set_cons_succ]
    refine tk (i := 7) (v := ?_) (tA rfl) (by kernel_rfl) (fun _ _ _ h => h) (Or.inl ⟨by rfl, ?_⟩) (by assumption) ?_
    rotate_left
    · (intro w hSw; (try dsimp only at hSw); go_simp <;> with_reducible rfl)
    simp only [Act.put, List.setIfInBounds_toArray, List.set_cons_zero, List.set_cons_succ]
    refine wpAnyH_ready (rs := [8]) (by kernel_rfl) (by simp) ?_
    refine AllReadyH.cons (tA rfl) (fun K hK => ?_) AllReadyH.nil
    have e0 : Yd.cell? ⟨g, k * 12, none⟩ = some (.int .i64 ((T.setC M k dd).th k).c.r0) := hvd.cell HKY.out HUY.out 0 _ rfl
    have f0 := hvd.gz (k * 12)
    have e1 : Yd.cell? ⟨g, k * 12 + 1, none⟩ = some (.int .i64 ((T.setC M k dd).th k).c.r1) := hvd.cell HKY.out HUY.out 1 _ rfl
    have f1 := hvd.gz (k * 12 + 1)
    have e2 : Yd.cell? ⟨g, k * 12 + 2, none⟩ = some (.int .i64 ((T.setC M k dd).th k).c.r2) := hvd.cell HKY.out HUY.out 2 _ rfl
    have f2 := hvd.gz (k * 12 + 2)
    have e3 : Yd.cell? ⟨g, k * 12 + 3, none⟩ = some (.int .i64 ((T.setC M k dd).th k).c.r3) := hvd.cell HKY.out HUY.out 3 _ rfl
    have f3 := hvd.gz (k * 12 + 3)
    have e4 : Yd.cell? ⟨g, k * 12 + 4, none⟩ = some (.int .i64 ((T.setC M k dd).th k).c.r4) := hvd.cell HKY.out HUY.out 4 _ rfl
    have f4 := hvd.gz (k * 12 + 4)
    have e5 : Yd.cell? ⟨g, k * 12 + 5, none⟩ = some (.int .i64 ((T.setC M k dd).th k).c.r5) := hvd.cell HKY.out HUY.out 5 _ rfl
    have f5 := hvd.gz (k * 12 + 5)
    have e6 : Yd.cell? ⟨g, k * 12 + 6, none⟩ = some (.int .i64 ((T.setC M k dd).th k).c.r6) := hvd.cell HKY.out HUY.out 6 _ rfl
    have f6 := hvd.gz (k * 12 + 6)
    have e7 : Yd.cell? ⟨g, k * 12 + 7, none⟩ = some (.int .i64 ((T.setC M k dd).th k).c.r7) := hvd.cell HKY.out HUY.out 7 _ rfl
    have f7 := hvd.gz (k * 12 + 7)
    have e8 : Yd.cell? ⟨g, k * 12 + 8, none⟩ = some (.int .i64 ((T.setC M k dd).th k).c.pc) := hvd.cell HKY.out HUY.out 8 _ rfl
    have f8 := hvd.gz (k * 12 + 8)
    have e9 : Yd.cell? ⟨g, k * 12 + 9, none⟩ = some (.int .i64 ((T.setC M k dd).th k).c.st) := hvd.cell HKY.out HUY.out 9 _ rfl
    have f9 := hvd.gz (k * 12 + 9)
    have e10 : Yd.cell? ⟨g, k * 12 + 10, none⟩ = some (.int .i64 ((T.setC M k dd).th k).c.tr) := hvd.cell HKY.out HUY.out 10 _ rfl
    have f10 := hvd.gz (k * 12 + 10)
    clear hvd hHeld huY p0 p1 p2 p3 p4 p5 p6 p7 p8 p9 p10
    go_simp
    obtain ⟨HXX, HSS⟩ := HVD.out.regs HKY.out rfl (T.trapC cc 2)
    obtain ⟨ZZ, hZZ⟩ : ∃ ZZ, (((((((((((Yd.setCell ⟨g, k * 12, none⟩ (.int .i64 (T.trapC cc 2).r0)).setCell ⟨g, k * 12 + 1, none⟩ (.int .i64 (T.trapC cc 2).r1)).setCell ⟨g, k * 12 + 2, none⟩ (.int .i64 (T.trapC cc 2).r2)).setCell ⟨g, k * 12 + 3, none⟩ (.int .i64 (T.trapC cc 2).r3)).setCell ⟨g, k * 12 + 4, none⟩ (.int .i64 (T.trapC cc 2).r4)).setCell ⟨g, k * 12 + 5, none⟩ (.int .i64 (T.trapC cc 2).r5)).setCell ⟨g, k * 12 + 6, none⟩ (.int .i64 (T.trapC cc 2).r6)).setCell ⟨g, k * 12 + 7, none⟩ (.int .i64 (T.trapC cc 2).r7)).setCell ⟨g, k * 12 + 8, none⟩ (.int .i64 (T.trapC cc 2).pc)).setCell ⟨g, k * 12 + 9, none⟩ (.int .i64 (T.trapC cc 2).st)).setCell ⟨g, k * 12 + 10, none⟩ (.int .i64 (T.trapC cc 2).tr)) = ZZ := ⟨_, rfl⟩
    rw [hZZ] at HXX HSS
    rw [hZZ]
    have cZ : ZZ.cell? ⟨b, 3, none⟩ = some (.slice (some ⟨g, 0, none⟩) n cap) := by have h9 := HXX.c3; rw [T.len_setC, HLN.out] at h9; exact h9
    have HXZ : Hid _ := HXX
    have HSZ2 : Hid (St t _ w ZZ) := HSD.out.trans HSS
    have HKZ : Hid (k < (T.setC (T.setC M k dd) k (T.trapC cc 2)).ts.length) := by show k < _; rw [T.len_setC]; exact HKY.out
    have HTZ : Hid ((T.setC (T.setC M k dd) k (T.trapC cc 2)).th k = ⟨T.trapC cc 2, ((T.setC M k dd).th k).ws⟩) := T.th_setC HKY.out _
    have HUZ : Hid _ := HUY.out
    have HSO : Hid (∀ (p : Addr) (v : Value), t2 p.block = 0 → Y7.cell? p = some v → ZZ.cell? p = some v) := fun p v h0 hv => st_cell HSS h0 (cell_up hbd hv)
    have HSF : Hid (∀ (p : Addr), p.block < Y7.heap.size → t2 p.block = 0 → ZZ.frozen? p = Y7.frozen? p) := fun p hp h0 => (World.frozen?_of_block (HSS.block p.block (Nat.lt_of_lt_of_le hp hbd.size) h0)).trans (hbd.frozen hp)
    clear hZZ HXX HSS e0 f0 e1 f1 e2 f2 e3 f3 e4 f4 e5 f5 e6 f6 e7 f7 e8 f8 e9 f9 e10 f10
    refine hK.out _ _ ⟨cZ, HSO.out ⟨w.heap.size, 0, none⟩ _ HTC2.out (HPC.out 0 _ rfl), HSO.out ⟨w.heap.size, 1, none⟩ _ HTC2.out (HPC.out 1 _ rfl), HSO.out ⟨w.heap.size, 2, none⟩ _ HTC2.out (HPC.out 2 _ rfl), HSO.out ⟨w.heap.size, 3, none⟩ _ HTC2.out (HPC.out 3 _ rfl), HSO.out ⟨w.heap.size, 4, none⟩ _ HTC2.out (HPC.out 4 _ rfl), HSO.out ⟨w.heap.size, 5, none⟩ _ HTC2.out (HPC.out 5 _ rfl), HSO.out ⟨w.heap.size, 6, none⟩ _ HTC2.out (HPC.out 6 _ rfl), HSO.out ⟨w.heap.size, 7, none⟩ _ HTC2.out (HPC.out 7 _ rfl), HSO.out ⟨w.heap.size, 8, none⟩ _ HTC2.out (HPC.out 8 _ rfl), HSO.out ⟨w.heap.size, 9, none⟩ _ HTC2.out (HPC.out 9 _ rfl), HSO.out ⟨w.heap.size, 10, none⟩ _ HTC2.out (HPC.out 10 _ rfl)⟩ (fun hHeld => ?_)
    clear hK K hbd
    try simp only [Act.put, List.setIfInBounds_toArray, List.set_cons_zero, List.set_cons_succ]
    refine wpAnyH_done (by kernel_rfl) ?_ _
    clear hHeld HSK
    have s9 : ZZ.cell? ⟨g, k * 12 + 9, none⟩ = some (.int .i64 2) := by have h9 := HXZ.out.cell HKZ.out HUZ.out 9 _ rfl; rw [HTZ.out] at h9; exact h9
    have s10 : ZZ.cell? ⟨g, k * 12 + 10, none⟩ = some (.int .i64 2) := by have h9 := HXZ.out.cell HKZ.out HUZ.out 10 _ rfl; rw [HTZ.out] at h9; exact h9
    have HC10 : Hid (((T.setC (T.setC M k dd) k (T.trapC cc 2)).th k).c.tr = 2) := by show _ = _; rw [HTZ.out]; rfl
    have HLZ : Hid ((T.setC (T.setC M k dd) k (T.trapC cc 2)).ts.length = n) := (T.len_setC _ _ _).trans HLN.out
    obtain ⟨iw, hiw, hp0, hp1, hp2⟩ := info_partsL infoE
    have d1 := HXZ.out.c4
    have hr1 := HXZ.out.evs
    have hg1 := HXZ.out.fz 4
    have hty : b < ZZ.heap.size := HXZ.out.bl
    obtain ⟨a1, p1, hev, hnp, hpm⟩ := own_sl hr1
    obtain ⟨m1, hm1⟩ : ∃ m1, (T.setC (T.setC M k dd) k (T.trapC cc 2)).es.length = m1 := ⟨_, rfl⟩
    have hm1e : m1 ≤ 1000001 := by rw [← hm1]; exact HES.out
    rw [hm1] at hev hnp hr1
    have HEV : Hid _ := hev
    have HM1 : Hid ((T.setC (T.setC M k dd) k (T.trapC cc 2)).es.length = m1) := hm1
    have hvb : (Value.slice a1 m1 p1).ownBlock ≠ some b := fun e => by have e1 := HXZ.out.te b (by rw [hev]; exact e); have e2 := HXZ.out.tb; omega
    have hvg : (Value.slice a1 m1 p1).ownBlock ≠ some g := fun e => by have e1 := HXZ.out.te g (by rw [hev]; exact e); have e2 := HXZ.out.tg; omega
    have hBy := HXZ.out.hB
    rw [hev] at d1 hr1
    unfold maxLen at hpm
    clear hm1 hev
    go_wp2_with fail
    have HB1 : Hid (Below ZZ.heap.size ZZ (ZZ.alloc (.cells #[.int .i64 (k : Int), .int .i64 3, .int .i64 2] 101)).drew) := (bl_one _ _).drew
    have HW1 : Hid ((ZZ.alloc (.cells #[.int .i64 (k : Int), .int .i64 3, .int .i64 2] 101)).drew.ownsRow B 101 3 (.slice a1 m1 p1) m1 ((T.setC (T.setC M k dd) k (T.trapC cc 2)).es.flatMap eC)) := hr1.kept (gb_of_below HB1.out (some ZZ.heap.size)) (.inr fun e => by have := own_lt hr1 e; omega)
    have HNC : Hid (∀ j u, (eC ((k : Int), 3, 2))[j]? = some u → (ZZ.alloc (.cells #[.int .i64 (k : Int), .int .i64 3, .int .i64 2] 101)).drew.cell? ((⟨ZZ.heap.size, 0, none⟩ : Addr).add j) = some u) := fun j u hu => by
      rw [Addr.add_lit, Nat.zero_add]
      exact cell_last _ _ _ _ _ rfl (by simpa [eC] using hu)
    have HSK : Hid (∀ z : World, Below ZZ.heap.size ZZ z → (fun w' : World => w'.cell? ⟨b, 3, none⟩ = some (.slice (some ⟨g, 0, none⟩) n cap) ∧ w'.cell? ⟨g, k * 12 + 10, none⟩ = some (.int .i64 2)) z) := fun z hz => ⟨cell_up hz cZ, cell_up hz s10⟩
    have FT : (ZZ.alloc (.cells #[.int .i64 (k : Int), .int .i64 3, .int .i64 2] 101)).drew.cell? ⟨b, 4, none⟩ = some (.slice a1 m1 p1) := cell_up HB1.out d1
    have GT : (ZZ.alloc (.cells #[.int .i64 (k : Int), .int .i64 3, .int .i64 2] 101)).drew.frozen? ⟨b, 4, none⟩ = false := (HB1.out.frozen (p := ⟨b, 4, none⟩) hty).trans hg1
    have HD1 : Hid _ := d1
    have HR1 : Hid _ := hr1
    clear hr1
    refine wp_region_held_drew (S := (fun w' : World => w'.cell? ⟨b, 3, none⟩ = some (.slice (some ⟨g, 0, none⟩) n cap) ∧ w'.cell? ⟨g, k * 12 + 10, none⟩ = some (.int .i64 2))) (by kernel_rfl) (HSK.out _ (Below.refl _ _).drew) (fun hHeld => ?_)
    refine tk (i := 0) (v := ?_) (tA rfl) (by kernel_rfl) (fun _ _ _ h => h) (Or.inl ⟨by rfl, ?_⟩) (by assumption) ?_
    rotate_left
    · (intro w hSw; (try dsimp only at hSw); go_simp <;> with_reducible rfl)
    simp only [Act.put, List.setIfInBounds_toArray, List.set_cons_zero, List.set_cons_succ]
    refine tk (i := 1) (v := ?_) (tA rfl) (by kernel_rfl) (fun _ _ _ h => h) (Or.inl ⟨by rfl, ?_⟩) (by assumption) ?_
    rotate_left
    · (intro w hSw; (try dsimp only at hSw); go_simp <;> with_reducible rfl)
    simp only [Act.put, List.setIfInBounds_toArray, List.set_cons_zero, List.set_cons_succ]
    refine tk (i := 2) (v := ?_) (tA rfl) (by kernel_rfl) (fun _ _ _ h => h) (Or.inl ⟨by rfl, ?_⟩) (by assumption) ?_
    rotate_left
    · (intro w hSw; (try dsimp only at hSw); go_simp <;> with_reducible rfl)
    simp only [Act.put, List.setIfInBounds_toArray, List.set_cons_zero, List.set_cons_succ]
    refine tk (i := 3) (v := ?_) (tA rfl) (by kernel_rfl) (fun _ _ _ h => h) (Or.inl ⟨by rfl, ?_⟩) (by assumption) ?_
    rotate_left
    · (intro w hSw; (try dsimp only at hSw); go_simp <;> with_reducible rfl)
    simp only [Act.put, List.setIfInBounds_toArray, List.set_cons_zero, List.set_cons_succ]
    refine tk (i := 5) (v := ?_) (tA rfl) (by kernel_rfl) (fun _ _ _ h => h) (Or.inl ⟨by rfl, ?_⟩) (by assumption) ?_
    rotate_left
    · (intro w hSw; (try dsimp only at hSw); go_simp <;> with_reducible rfl)
    simp only [Act.put, List.setIfInBounds_toArray, List.set_cons_zero, List.set_cons_succ]
    refine tk (i := 6) (v := ?_) (tA rfl) (by kernel_rfl) (fun _ _ _ h => h) (Or.inl ⟨by rfl, ?_⟩) (by assumption) ?_
    rotate_left
    · (intro w hSw; (try dsimp only at hSw); go_simp <;> with_reducible rfl)
    simp only [Act.put, List.setIfInBounds_toArray, List.set_cons_zero, List.set_cons_succ]
    refine tk (i := 7) (v := ?_) (tA rfl) (by kernel_rfl) (fun _ _ _ h => h) (Or.inl ⟨by rfl, ?_⟩) (by assumption) ?_
    rotate_left
    · (intro w hSw; (try dsimp only at hSw); go_simp <;> with_reducible rfl)
    simp only [Act.put, List.setIfInBounds_toArray, List.set_cons_zero, List.set_cons_succ]
    refine tk (i := 8) (v := ?_) (tA rfl) (by kernel_rfl) (fun _ _ _ h => h) (Or.inl ⟨by rfl, ?_⟩) (by assumption) ?_
    rotate_left
    · (intro w hSw; (try dsimp only at hSw); go_simp <;> with_reducible rfl)
    simp only [Act.put, List.setIfInBounds_toArray, List.set_cons_zero, List.set_cons_succ]
    refine tk (i := 9) (v := ?_) (tA rfl) (by kernel_rfl) (fun _ _ _ h => h) (Or.inl ⟨by rfl, ?_⟩) (by assumption) ?_
    rotate_left
    · (intro w hSw; (try dsimp only at hSw); go_simp <;> with_reducible rfl)
    simp only [Act.put, List.setIfInBounds_toArray, List.set_cons_zero, List.set_cons_succ]
    refine tk (i := 10) (v := ?_) (tA rfl) (by kernel_rfl) (fun _ _ _ h => h) (Or.inl ⟨by rfl, ?_⟩) (by assumption) ?_
    rotate_left
    · (intro w hSw; (try dsimp only at hSw); go_simp <;> with_reducible rfl)
    simp only [Act.put, List.setIfInBounds_toArray, List.set_cons_zero, List.set_cons_succ]
    refine tk (i := 11) (v := ?_) (tA rfl) (by kernel_rfl) (fun _ _ _ h => h) (Or.inl ⟨by rfl, ?_⟩) (by assumption) ?_
    rotate_left
    · (intro w hSw; (try dsimp only at hSw); go_simp <;> with_reducible rfl)
    simp only [Act.put, List.setIfInBounds_toArray, List.set_cons_zero, List.set_cons_succ]
    refine tk (i := 12) (v := ?_) (tA rfl) (by kernel_rfl) (fun _ _ _ h => h) (Or.inl ⟨by rfl, ?_⟩) (by assumption) ?_
    rotate_left
    · (intro w hSw; (try dsimp only at hSw); go_simp <;> with_reducible rfl)
    simp only [Act.put, List.setIfInBounds_toArray, List.set_cons_zero, List.set_cons_succ]
    refine tk (i := 13) (v := ?_) (tA rfl) (by kernel_rfl) (fun _ _ _ h => h) (Or.inl ⟨by rfl, ?_⟩) (by assumption) ?_
    rotate_left
    · (intro w hSw; (try dsimp only at hSw); go_simp <;> with_reducible rfl)
    simp only [Act.put, List.setIfInBounds_toArray, List.set_cons_zero, List.set_cons_succ]
    refine tk (i := 14) (v := ?_) (tA rfl) (by kernel_rfl) (fun _ _ _ h => h) (Or.inl ⟨by rfl, ?_⟩) (by assumption) ?_
    rotate_left
    · (intro w hSw; (try dsimp only at hSw); go_simp <;> with_reducible rfl)
    simp only [Act.put, List.setIfInBounds_toArray, List.set_cons_zero, List.set_cons_succ]
    refine tk (i := 15) (v := ?_) (tA rfl) (by kernel_rfl) (fun _ _ _ h => h) (Or.inl ⟨by rfl, ?_⟩) (by assumption) ?_
    rotate_left
    · (intro w hSw; (try dsimp only at hSw); go_simp <;> with_reducible rfl)
    simp only [Act.put, List.setIfInBounds_toArray, List.set_cons_zero, List.set_cons_succ]
    refine wpAnyH_ready (rs := [4, 16]) (by kernel_rfl) (by simp) ?_
    refine AllReadyH.cons (tA rfl) (fun K hK => ?_) (AllReadyH.cons (tA rfl) (fun K hK => ?_) AllReadyH.nil)
    · go_simp
      refine hK.out _ _ (by first | exact HSK.out _ (Below.refl _ _).drew | exact HSK.out _ HB1.out) (fun hHeld => ?_)
      clear hK K
      try simp only [Act.put, List.setIfInBounds_toArray, List.set_cons_zero, List.set_cons_succ]
      refine wpAnyH_ready (rs := [16]) (by kernel_rfl) (by simp) ?_
      refine AllReadyH.cons (tA rfl) (fun K hK => ?_) AllReadyH.nil
      go_simp
      refine hK.out _ _ (by first | exact HSK.out _ (Below.refl _ _).drew | exact HSK.out _ HB1.out) (fun hHeld => ?_)
      clear hK K
      try simp only [Act.put, List.setIfInBounds_toArray, List.set_cons_zero, List.set_cons_succ]
      refine wpAnyH_ready (rs := [17]) (by kernel_rfl) (by simp) ?_
      refine AllReadyH.cons (tA rfl) (fun K hK => ?_) AllReadyH.nil
      refine step_append_lies _ (by rfl) _ _ 38 (by rfl) B 101 iw _ 3 24 Tryd.underlying38 hiw hp0 hp1 hp2 (by rfl) (by decide) (.slice a1 m1 p1) m1 _ (by rfl) HW1.out ⟨ZZ.heap.size, 0, none⟩ 1 1 (eC ((k : Int), 3, 2)) (by rfl) (by rfl) HNC.out (by intro u hu; simp [eC] at hu; rcases hu with rfl | rfl | rfl <;> rfl) (by decide) (by unfold maxLen; omega) (by omega) (by simp; omega) (ZZ.heap.size + 1) (by simp) ?_
      intro x1 cp Y6 ho6 hg6 hat6 hlt6
      have m6 : Y6.cell? ⟨b, 4, none⟩ = some (.slice a1 m1 p1) := hg6.cell FT (fun e => hvb e.symm)
      have z6 : Y6.frozen? ⟨b, 4, none⟩ = false := (hg6.frozen_far ⟨b, 4, none⟩ (Nat.lt_of_lt_of_le hty HB1.out.size) (fun e => hvb e.symm)).trans GT
      refine hK.out _ _ ⟨(hg6.cell (cell_up HB1.out cZ) (fun e => hvb e.symm)), (hg6.cell (cell_up HB1.out s10) (fun e => hvg e.symm))⟩ (fun hHeld => ?_)
      clear hK K
      try simp only [Act.put, List.setIfInBounds_toArray, List.set_cons_zero, List.set_cons_succ]
      refine tk (i := 18) (v := ?_) (tA rfl) (by kernel_rfl) (fun _ _ _ h => h) (Or.inl ⟨by rfl, ?_⟩) (by assumption) ?_
      rotate_left
      · (intro w hSw; (try dsimp only at hSw); go_simp <;> with_reducible rfl)
      simp only [Act.put, List.setIfInBounds_toArray, List.set_cons_zero, List.set_cons_succ]
      refine tk (i := 19) (v := ?_) (tA rfl) (by kernel_rfl) (fun _ _ _ h => h) (Or.inl ⟨by rfl, ?_⟩) (by assumption) ?_
      rotate_left
      · (intro w hSw; (try dsimp only at hSw); go_simp <;> with_reducible rfl)
      simp only [Act.put, List.setIfInBounds_toArray, List.set_cons_zero, List.set_cons_succ]
      refine wpAnyH_ready (rs := [20]) (by kernel_rfl) (by simp) ?_
      refine AllReadyH.cons (tA rfl) (fun K hK => ?_) AllReadyH.nil
      clear hHeld
      go_simp
      have ho7 : Y6.ownsRow B 101 3 (.slice (some ⟨x1, 0, none⟩) ((T.setC (T.setC M k dd) k (T.trapC cc 2)).es.length + 1) cp) ((T.setC (T.setC M k dd) k (T.trapC cc 2)).es.length + 1) ((T.setC (T.setC M k dd) k (T.trapC cc 2)).es.flatMap eC ++ eC ((k : Int), 3, 2)) := by rw [HM1.out]; exact ho6
      obtain ⟨q1, q2⟩ := HXZ.out.saw HB1.out ho7 (HEV.out ▸ hg6) (by rw [HEV.out]; exact hat6.imp id (fun e => by omega))
      rw [HM1.out] at q1 q2
      obtain ⟨ZZ, hZZ⟩ : ∃ ZZ, Y6.setCell ⟨b, 4, none⟩ (.slice (some ⟨x1, 0, none⟩) (m1 + 1) cp) = ZZ := ⟨_, rfl⟩
      rw [hZZ] at q1 q2
      rw [hZZ]
      have HQ1 : Hid _ := q1
      have HQ2 : Hid (St t _ w ZZ) := HSZ2.out.trans q2
      refine hK.out _ _ ⟨(by have h9 := q1.c3; rw [show ((T.setC (T.setC M k dd) k (T.trapC cc 2)).see k 3 2).ts.length = n from HLZ.out] at h9; exact h9), (by have h9 := q1.cell (k := k) HKZ.out HUZ.out 10 _ rfl; exact h9.trans (by show some (Value.int .i64 ((T.setC (T.setC M k dd) k (T.trapC cc 2)).th k).c.tr) = _; rw [HC10.out]))⟩ (fun hHeld => ?_)
      clear hK K hZZ m6 z6 q1 q2 ho7 ho6 hg6 hat6 hlt6
      try simp only [Act.put, List.setIfInBounds_toArray, List.set_cons_zero, List.set_cons_succ]
      refine wpAnyH_done (by kernel_rfl) ?_ _
      clear hHeld
      go_wp2
      go_ret
      rw [HGB.out]
      exact ⟨rfl, _, _, _, _, _, HQ1.out, HQ2.out⟩
    · go_simp
      refine hK.out _ _ (by first | exact HSK.out _ (Below.refl _ _).drew | exact HSK.out _ HB1.out) (fun hHeld => ?_)
      clear hK K
      try simp only [Act.put, List.setIfInBounds_toArray, List.set_cons_zero, List.set_cons_succ]
      refine wpAnyH_ready (rs := [4]) (by kernel_rfl) (by simp) ?_
      refine AllReadyH.cons (tA rfl) (fun K hK => ?_) AllReadyH.nil
      go_simp
      refine hK.out _ _ (by first | exact HSK.out _ (Below.refl _ _).drew | exact HSK.out _ HB1.out) (fun hHeld => ?_)
      clear hK K
      try simp only [Act.put, List.setIfInBounds_toArray, List.set_cons_zero, List.set_cons_succ]
      refine wpAnyH_ready (rs := [17]) (by kernel_rfl) (by simp) ?_
      refine AllReadyH.cons (tA rfl) (fun K hK => ?_) AllReadyH.nil
      refine step_append_lies _ (by rfl) _ _ 38 (by rfl) B 101 iw _ 3 24 Tryd.underlying38 hiw hp0 hp1 hp2 (by rfl) (by decide) (.slice a1 m1 p1) m1 _ (by rfl) HW1.out ⟨ZZ.heap.size, 0, none⟩ 1 1 (eC ((k : Int), 3, 2)) (by rfl) (by rfl) HNC.out (by intro u hu; simp [eC] at hu; rcases hu with rfl | rfl | rfl <;> rfl) (by decide) (by unfold maxLen; omega) (by omega) (by simp; omega) (ZZ.heap.size + 1) (by simp) ?_
      intro x1 cp Y6 ho6 hg6 hat6 hlt6
      have m6 : Y6.cell? ⟨b, 4, none⟩ = some (.slice a1 m1 p1) := hg6.cell FT (fun e => hvb e.symm)
      have z6 : Y6.frozen? ⟨b, 4, none⟩ = false := (hg6.frozen_far ⟨b, 4, none⟩ (Nat.lt_of_lt_of_le hty HB1.out.size) (fun e => hvb e.symm)).trans GT
      refine hK.out _ _ ⟨(hg6.cell (cell_up HB1.out cZ) (fun e => hvb e.symm)), (hg6.cell (cell_up HB1.out s10) (fun e => hvg e.symm))⟩ (fun hHeld => ?_)
      clear hK K
      try simp only [Act.put, List.setIfInBounds_toArray, List.set_cons_zero, List.set_cons_succ]
      refine tk (i := 18) (v := ?_) (tA rfl) (by kernel_rfl) (fun _ _ _ h => h) (Or.inl ⟨by rfl, ?_⟩) (by assumption) ?_
      rotate_left
      · (intro w hSw; (try dsimp only at hSw); go_simp <;> with_reducible rfl)
      simp only [Act.put, List.setIfInBounds_toArray, List.set_cons_zero, List.set_cons_succ]
      refine tk (i := 19) (v := ?_) (tA rfl) (by kernel_rfl) (fun _ _ _ h => h) (Or.inl ⟨by rfl, ?_⟩) (by assumption) ?_
      rotate_left
      · (intro w hSw; (try dsimp only at hSw); go_simp <;> with_reducible rfl)
      simp only [Act.put, List.setIfInBounds_toArray, List.set_cons_zero, List.set_cons_succ]
      refine wpAnyH_ready (rs := [20]) (by kernel_rfl) (by simp) ?_
      refine AllReadyH.cons (tA rfl) (fun K hK => ?_) AllReadyH.nil
      clear hHeld
      go_simp
      have ho7 : Y6.ownsRow B 101 3 (.slice (some ⟨x1, 0, none⟩) ((T.setC (T.setC M k dd) k (T.trapC cc 2)).es.length + 1) cp) ((T.setC (T.setC M k dd) k (T.trapC cc 2)).es.length + 1) ((T.setC (T.setC M k dd) k (T.trapC cc 2)).es.flatMap eC ++ eC ((k : Int), 3, 2)) := by rw [HM1.out]; exact ho6
      obtain ⟨q1, q2⟩ := HXZ.out.saw HB1.out ho7 (HEV.out ▸ hg6) (by rw [HEV.out]; exact hat6.imp id (fun e => by omega))
      rw [HM1.out] at q1 q2
      obtain ⟨ZZ, hZZ⟩ : ∃ ZZ, Y6.setCell ⟨b, 4, none⟩ (.slice (some ⟨x1, 0, none⟩) (m1 + 1) cp) = ZZ := ⟨_, rfl⟩
      rw [hZZ] at q1 q2
      rw [hZZ]
      have HQ1 : Hid _ := q1
      have HQ2 : Hid (St t _ w ZZ) := HSZ2.out.trans q2
      refine hK.out _ _ ⟨(by have h9 := q1.c3; rw [show ((T.setC (T.setC M k dd) k (T.trapC cc 2)).see k 3 2).ts.length = n from HLZ.out] at h9; exact h9), (by have h9 := q1.cell (k := k) HKZ.out HUZ.out 10 _ rfl; exact h9.trans (by show some (Value.int .i64 ((T.setC (T.setC M k dd) k (T.trapC cc 2)).th k).c.tr) = _; rw [HC10.out]))⟩ (fun hHeld => ?_)
      clear hK K hZZ m6 z6 q1 q2 ho7 ho6 hg6 hat6 hlt6
      try simp only [Act.put, List.setIfInBounds_toArray, List.set_cons_zero, List.set_cons_succ]
      refine wpAnyH_done (by kernel_rfl) ?_ _
      clear hHeld
      go_wp2
      go_ret
      rw [HGB.out]
      exact ⟨rfl, _, _, _, _, _, HQ1.out, HQ2.out⟩

end Go.Proofs.YtffokdldgdjkhaaDoor.X

/- The document's machine: a step, whatever it is; a pick. -/
namespace Go.Proofs.YtffokdldgdjkhaaDoor.X
open Go.RowKit Go.Maps
set_option linter.unusedVariables false
set_option linter.unusedSimpArgs false

section
variable {B : Nat} {w : World} {b : Nat} {M : T.Mach} {t : Nat → Nat} {D Sk : List Int} {vd vs : Value} {g cap : Nat} {ev : Value} {us : List Value}
theorem T.goOn_out {M : T.Mach} {k : Nat} (hk : k < M.ts.length) (hs : (M.th k).c.st = 0) (hd : T.decOk M.code (T.plc M k) = false) : T.goOn M k = (T.setC M k (T.trapC (M.th k).c 3)).see k 3 3 := by
  unfold T.goOn T.doIns
  rw [if_pos hs, if_neg (by rw [hd]; decide)]
  unfold T.seen
  rw [T.th_setC hk]
  rfl
theorem xstep_any (h : XV B w b M t D Sk vd vs g cap ev us) {k : Nat} (hk : k < M.ts.length) (hes : M.es.length ≤ 1000000) (hcode : M.code.size ≤ 65536) (hcok : (M.th k).c.ok) (hok : WsOk (M.th k).ws) (h8 : (M.th k).ws.length ≤ 8) (hgo : ∀ p ∈ (M.th k).ws, (M.mem p.1).isSome = true) :
    Calls Tryd.prog 20 #[.pointer (some ⟨b, 0, none⟩), .int .i64 k] w fun e w' => e = .returned (.bool (T.went M k)) ∧ XGone B w w' b (T.goOn M k) t vd vs g cap := by
  by_cases hs : (M.th k).c.st = 0
  · rw [show T.went M k = true from decide_eq_true hs]
    cases hd : T.decOk M.code (T.plc M k) with
    | false =>
      rw [T.goOn_out hk hs hd]
      by_cases hin : 0 ≤ T.plc M k ∧ T.plc M k ≤ (M.code.size : Int)
      · exact xstep_code h hk hs hes hcode hin hd
      · exact xstep_out h hk hs hes (by omega)
    | true =>
      obtain ⟨qq, hQ⟩ : ∃ qq, T.iQ (M.th k).c (I.cut M.code (T.plc M k)) = qq := ⟨_, rfl⟩
      obtain ⟨dd, hC⟩ : ∃ dd, T.iC (M.th k).c (I.cut M.code (T.plc M k)) = dd := ⟨_, rfl⟩
      have hqa : (Lit.int .i64 qq.a).wf = true := by rw [← hQ]; exact (T.insQ_wf M k).1
      obtain ⟨N, hN⟩ : ∃ N, T.setC (T.ansM M k qq) k (S.finish dd qq.k qq.r (T.ansN M k qq)) = N := ⟨_, rfl⟩
      have hNl : N.ts.length = M.ts.length := by rw [← hN]; exact T.len_ans hk _ _
      have hNe : N.es.length ≤ 1000001 := by rw [← hN]; have := T.es_ans hk (S.finish dd qq.k qq.r (T.ansN M k qq)) qq; omega
      refine xstep_ins h hk hs hes hcode hcok hok h8 hgo hd hQ hC hqa hN hNl hNe (fun hE => ?_) (fun hE => ?_)
      · unfold T.goOn T.doIns
        rw [if_pos hs, if_pos hd, hQ, if_neg hE, T.setC_setC hk]
        unfold T.seen
        rw [T.th_setC hk]
        rfl
      · have hdo : T.doIns M k = N := by
          unfold T.doIns
          rw [if_pos hd, hQ, hC, if_pos hE]
          exact hN
        unfold T.goOn
        rw [if_pos hs, hdo]
  · rw [show T.went M k = false from decide_eq_false hs, T.goOn_no hs]
    exact xstep_no h hk hs

theorem xleave_any (h : XV B w b M t D Sk vd vs g cap ev us) {k : Nat} (hk : k < M.ts.length) (hok : WsOk (M.th k).ws) :
    Calls Tryd.prog 19 #[.pointer (some ⟨b, 0, none⟩), .int .i64 k] w fun e w' => e = .returned (.bool (T.leaves M k)) ∧ XGone B w w' b (T.leave M k) t vd vs g cap := by
  cases he : (M.th k).ws with
  | nil =>
    rw [show T.leaves M k = false by unfold T.leaves; rw [he]; rfl, T.leave_no he]
    refine (xleave_no h hk he).mono ?_
    rintro e w' ⟨rfl, rfl⟩
    exact ⟨rfl, _, _, _, _, _, h, St.refl _ _⟩
  | cons p r =>
    obtain ⟨y, v⟩ := p
    rw [show T.leaves M k = true by unfold T.leaves; rw [he]; rfl, T.leave_eq he]
    have h1 := hok.1
    rw [he] at h1
    exact xleave_yes h hk he (hok.2 (y, v) (by rw [he]; exact List.mem_cons_self)).1 (by simp at h1; omega)

set_option maxRecDepth 100000 in
set_option maxHeartbeats 4000000 in
theorem xdo_any (h : XV B w b M t D Sk vd vs g cap ev us) (hok : MOk M) (hfit : T.Fit M) (hes : M.es.length ≤ 1000000) (hcode : M.code.size ≤ 65536) (p : Int) (hp : (Lit.int .i64 p).wf = true) :
    Calls Tryd.prog 9 #[.pointer (some ⟨b, 0, none⟩), .int .i64 p] w fun e w' => e = .returned (.bool (T.did M p)) ∧ XGone B w w' b (T.act M p) t vd vs g cap := by
  have h0 : 0 < M.ts.length := h.room.2.2.1
  have hk := T.who_lt h0 p
  have HST : Hid _ := xstep_any h hk hes hcode (hfit.regs _ hk) (hok _ hk).1 (hok _ hk).2 (hfit.goal _ hk)
  have HLV : Hid _ := xleave_any h hk (hok _ hk).1
  have hpw := wf_bounds hp
  obtain ⟨P, hP⟩ : ∃ P, T.pk p = P := ⟨_, rfl⟩
  have hP0 : 0 ≤ P ∧ P ≤ 9223372036854775807 := by rw [← hP]; unfold T.pk; split <;> omega
  have hneg : p < 0 → IntKind.i64.wrap (-IntKind.i64.wrap (p + 1)) = P ∧ IntKind.i64.wrap (-(p + 1)) = P ∧ IntKind.i64.wrap (p + 1) = p + 1 := fun h1 => by
    rw [← hP]; unfold T.pk; rw [if_pos h1]
    simp only [IntKind.wrap_i64]
    omega
  have hpos : ¬ p < 0 → p = P := fun h1 => by rw [← hP]; unfold T.pk; rw [if_neg h1]
  have hro := h.room
  have c3 := h.c3
  obtain ⟨n, hn⟩ : ∃ n, M.ts.length = n := ⟨_, rfl⟩
  have hwho : (T.who M p : Int) = P / 2 % (n : Int) := by
    unfold T.who
    rw [hP, hn]
    have := Int.emod_nonneg (P / 2) (b := (n : Int)) (by omega)
    omega
  unfold T.did T.act
  rw [hP]
  obtain ⟨k, hke⟩ : ∃ k, T.who M p = k := ⟨_, rfl⟩
  rw [hke] at HST HLV hk hwho
  rw [hke]
  rw [hn] at c3 hro
  obtain ⟨r1, r2, r3, r4⟩ := hro
  unfold maxLen at r2
  obtain ⟨Q, hQ⟩ : ∃ Q, P / 2 = Q := ⟨_, rfl⟩
  have hQ0 : 0 ≤ Q ∧ Q ≤ 9223372036854775807 := by omega
  have hQt : P.tdiv 2 = Q := by rw [Int.tdiv_eq_ediv_of_nonneg hP0.1]; exact hQ
  rw [hQ] at hwho
  have hwt : Q.tmod (n : Int) = (k : Int) := by rw [Int.tmod_eq_emod_of_nonneg hQ0.1]; exact hwho.symm
  have hwm : Q % (n : Int) = (k : Int) := hwho.symm
  have hn0 : ¬ (n : Int) = 0 := by omega
  clear h hok hfit hn hP hke hk hwho hpw
  obtain ⟨hP1, hP2⟩ := hP0
  obtain ⟨hQ1, hQ2⟩ := hQ0
  by_cases he : P % 2 = 0
  · rw [if_pos he, if_pos he]
    have het : P.tmod 2 = 0 := by rw [Int.tmod_eq_emod_of_nonneg hP1]; exact he
    clear HLV
    by_cases hneg0 : p < 0
    · obtain ⟨w1, w2, w3⟩ := hneg hneg0
      clear hneg hpos hp
      go_enter Tryd.func9, Tryd.ntmps9
      go_wp2_with fail
      refine Calls.mono HST.out ?_
      rintro e y ⟨rfl, hg⟩
      have HG : Hid _ := hg
      clear hg
      go_wp2
      go_ret
      exact ⟨rfl, HG.out⟩
    · obtain rfl := hpos hneg0
      clear hneg hpos hp
      go_enter Tryd.func9, Tryd.ntmps9
      go_wp2_with fail
      refine Calls.mono HST.out ?_
      rintro e y ⟨rfl, hg⟩
      have HG : Hid _ := hg
      clear hg
      go_wp2
      go_ret
      exact ⟨rfl, HG.out⟩
  · rw [if_neg he, if_neg he]
    have he1 : P % 2 = 1 := by omega
    have het : P.tmod 2 = 1 := by rw [Int.tmod_eq_emod_of_nonneg hP1]; exact he1
    clear HST he
    by_cases hneg0 : p < 0
    · obtain ⟨w1, w2, w3⟩ := hneg hneg0
      clear hneg hpos hp
      go_enter Tryd.func9, Tryd.ntmps9
      go_wp2_with fail
      refine Calls.mono HLV.out ?_
      rintro e y ⟨rfl, hg⟩
      have HG : Hid _ := hg
      clear hg
      go_wp2
      go_ret
      exact ⟨rfl, HG.out⟩
    · obtain rfl := hpos hneg0
      clear hneg hpos hp
      go_enter Tryd.func9, Tryd.ntmps9
      go_wp2_with fail
      refine Calls.mono HLV.out ?_
      rintro e y ⟨rfl, hg⟩
      have HG : Hid _ := hg
      clear hg
      go_wp2
      go_ret
      exact ⟨rfl, HG.out⟩
end

end Go.Proofs.YtffokdldgdjkhaaDoor.X

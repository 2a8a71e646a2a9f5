/- The document's comparison of two modules. -/
import Derived.Test.YtikknlkdbjaonaaGreatDoorPKe
import Derived.Test.YtikknlkdbjaonaaGreatDoorPBAw
import Derived.Test.YtikknlkdbjaonaaGreatDoorPKd
namespace Go.Proofs.YtikknlkdbjaonaaGreatDoor.Y
open Go.RowKit Go.Maps Go.Lib
set_option linter.unusedVariables false
set_option linter.unusedSimpArgs false
set_option maxRecDepth 100000 in
set_option maxHeartbeats 16000000 in
theorem rsame_any {C D : Nat} {w : World} {vd1 vs1 ve1 vd2 vs2 ve2 : Value} {DX1 DX2 : List Dx} {XS1 XS2 : List Sx} {E1 E2 : List Exp} (h1 : MV C w vd1 vs1 ve1 DX1 XS1 E1) (h2 : MV D w vd2 vs2 ve2 DX2 XS2 E2) : Calls Tryz.prog 9 #[.agg #[vd1, vs1, ve1], .agg #[vd2, vs2, ve2]] w fun e w' => e = .returned (.bool (decide ((⟨DX1.map (·.d), XS1.map (·.s), E1⟩ : Mod) = ⟨DX2.map (·.d), XS2.map (·.s), E2⟩))) ∧ Below w.heap.size w w' := by
  obtain ⟨ad1, cd1, hv⟩ := row_form h1.d.rd
  subst hv
  obtain ⟨as1, cs1, hv⟩ := row_form h1.s.rs
  subst hv
  obtain ⟨ae1, ce1, hv⟩ := row_form h1.e
  subst hv
  obtain ⟨ad2, cd2, hv⟩ := row_form h2.d.rd
  subst hv
  obtain ⟨as2, cs2, hv⟩ := row_form h2.s.rs
  subst hv
  obtain ⟨ae2, ce2, hv⟩ := row_form h2.e
  subst hv
  have hm2 : maxLen = 9223372036854775807 := rfl
  have l1 : DX1.length ≤ maxLen := by rcases h1.d.rd.2 with ⟨e1, e2⟩ | ⟨g, cap, cur, e1, e2, e3, e4, e5, -⟩ <;> omega
  have l2 : DX2.length ≤ maxLen := by rcases h2.d.rd.2 with ⟨e1, e2⟩ | ⟨g, cap, cur, e1, e2, e3, e4, e5, -⟩ <;> omega
  have l3 : XS1.length ≤ maxLen := by rcases h1.s.rs.2 with ⟨e1, e2⟩ | ⟨g, cap, cur, e1, e2, e3, e4, e5, -⟩ <;> omega
  have l4 : XS2.length ≤ maxLen := by rcases h2.s.rs.2 with ⟨e1, e2⟩ | ⟨g, cap, cur, e1, e2, e3, e4, e5, -⟩ <;> omega
  have l5 : E1.length ≤ maxLen := by rcases h1.e.2 with ⟨e1, e2⟩ | ⟨g, cap, cur, e1, e2, e3, e4, e5, -⟩ <;> omega
  have l6 : E2.length ≤ maxLen := by rcases h2.e.2 with ⟨e1, e2⟩ | ⟨g, cap, cur, e1, e2, e3, e4, e5, -⟩ <;> omega
  obtain ⟨R, hR⟩ : ∃ R, decide ((⟨DX1.map (·.d), XS1.map (·.s), E1⟩ : Mod) = ⟨DX2.map (·.d), XS2.map (·.s), E2⟩) = R := ⟨_, rfl⟩
  rw [hR]
  have HR : Hid (_ = R) := hR
  obtain ⟨Y1, hY1⟩ : ∃ Y, w.alloc (.cells #[.slice ad1 DX1.length cd1, .slice as1 XS1.length cs1, .slice ae1 E1.length ce1] 26) = Y := ⟨_, rfl⟩
  have b1 : Below w.heap.size w Y1 := by rw [← hY1]; exact bl1 _ _
  obtain ⟨y0, hY2⟩ : ∃ Y, Y1.alloc (.cells #[.slice ad2 DX2.length cd2, .slice as2 XS2.length cs2, .slice ae2 E2.length ce2] 26) = Y := ⟨_, rfl⟩
  have b2 : Below Y1.heap.size Y1 y0 := by rw [← hY2]; exact bl1 _ _
  have HB0 : Hid (Below w.heap.size w y0) := b1.trans (b2.mono b1.size)
  have HP0 : Hid (∀ y, Below y0.heap.size y0 y → y.heap[w.heap.size]? = some (.cells #[.slice ad1 DX1.length cd1, .slice as1 XS1.length cs1, .slice ae1 E1.length ce1] 26)) := fun y hy => blk_thru hy (by rw [b2.block _ (by rw [← hY1]; simp), ← hY1]; exact heap_new _ _)
  have HQ0 : Hid (∀ y, Below y0.heap.size y0 y → y.heap[Y1.heap.size]? = some (.cells #[.slice ad2 DX2.length cd2, .slice as2 XS2.length cs2, .slice ae2 E2.length ce2] 26)) := fun y hy => blk_thru hy (by rw [← hY2]; exact heap_new _ _)
  have HM1 : Hid (∀ y, Below w.heap.size w y → MV C y (.slice ad1 DX1.length cd1) (.slice as1 XS1.length cs1) (.slice ae1 E1.length ce1) DX1 XS1 E1) := fun y hy => h1.bel hy
  have HM2 : Hid (∀ y, Below w.heap.size w y → MV D y (.slice ad2 DX2.length cd2) (.slice as2 XS2.length cs2) (.slice ae2 E2.length ce2) DX2 XS2 E2) := fun y hy => h2.bel hy
  have x0 := cell_blk (HP0.out _ (Below.refl _ _)) 0 rfl
  have x1 := cell_blk (HP0.out _ (Below.refl _ _)) 1 rfl
  have x2 := cell_blk (HP0.out _ (Below.refl _ _)) 2 rfl
  have z0 := cell_blk (HQ0.out _ (Below.refl _ _)) 0 rfl
  have z1 := cell_blk (HQ0.out _ (Below.refl _ _)) 1 rfl
  have z2 := cell_blk (HQ0.out _ (Below.refl _ _)) 2 rfl
  clear hR b1 b2 h1 h2
  go_enter Tryz.func9, Tryz.ntmps9
  by_cases qDX1 : DX1.length = DX2.length
  case neg =>
    have HF : Hid (R = false) := by
      show _ = _
      rw [← HR.out]
      exact decide_eq_false fun e => qDX1 (by have := congrArg List.length (congrArg Mod.decls e); simpa using this)
    have d : ((DX1.length : Int) != (DX2.length : Int)) = true := by
      have : (DX1.length : Int) ≠ DX2.length := fun e => qDX1 (by omega)
      simpa using this
    go_wp2_with fail
    go_ret
    exact ⟨by rw [HF.out]; rfl, HB0.out⟩
  have eDX1 : ((DX1.length : Int) != (DX2.length : Int)) = false := by rw [qDX1]; simp
  have HDX1 : Hid (DX1.length = DX2.length) := qDX1
  clear qDX1
  by_cases qXS1 : XS1.length = XS2.length
  case neg =>
    have HF : Hid (R = false) := by
      show _ = _
      rw [← HR.out]
      exact decide_eq_false fun e => qXS1 (by have := congrArg List.length (congrArg Mod.stmts e); simpa using this)
    have d : ((XS1.length : Int) != (XS2.length : Int)) = true := by
      have : (XS1.length : Int) ≠ XS2.length := fun e => qXS1 (by omega)
      simpa using this
    go_wp2_with fail
    go_ret
    exact ⟨by rw [HF.out]; rfl, HB0.out⟩
  have eXS1 : ((XS1.length : Int) != (XS2.length : Int)) = false := by rw [qXS1]; simp
  have HXS1 : Hid (XS1.length = XS2.length) := qXS1
  clear qXS1
  by_cases qE1 : E1.length = E2.length
  case neg =>
    have HF : Hid (R = false) := by
      show _ = _
      rw [← HR.out]
      exact decide_eq_false fun e => qE1 (by have := congrArg List.length (congrArg Mod.exps e); simpa using this)
    have d : ((E1.length : Int) != (E2.length : Int)) = true := by
      have : (E1.length : Int) ≠ E2.length := fun e => qE1 (by omega)
      simpa using this
    go_wp2_with fail
    go_ret
    exact ⟨by rw [HF.out]; rfl, HB0.out⟩
  have eE1 : ((E1.length : Int) != (E2.length : Int)) = false := by rw [qE1]; simp
  have HE1 : Hid (E1.length = E2.length) := qE1
  clear qE1
  have HLE : Hid (DX1.length = DX2.length ∧ XS1.length = XS2.length ∧ E1.length = E2.length) := ⟨HDX1.out, HXS1.out, HE1.out⟩
  clear HDX1 HXS1 HE1
  go_wp2_with fail
  clear x0 x1 x2 z0 z1 z2 eDX1 eXS1 eE1
  go_loopg [5, 6] DX1.length (fun gg v5 v6 wq => ∃ (k : Nat), gg = DX1.length - k ∧ v5 = .int .i64 (k : Int) ∧ k ≤ DX1.length ∧ Hid (∀ j, j < k → (DX1.map (·.d))[j]? = (DX2.map (·.d))[j]?) ∧ Hid (Below y0.heap.size y0 wq))
  case atStart => exact ⟨0, rfl, rfl, Nat.zero_le _, (fun j hj => by omega : ∀ j, j < 0 → (DX1.map (·.d))[j]? = (DX2.map (·.d))[j]?), Below.refl _ _⟩
  case round =>
    obtain ⟨k, rfl, rfl, hk, HE, HB⟩ := hrel
    have HB9 : Hid (Below y0.heap.size y0 wr) := (Below.refl _ _ : Below y0.heap.size y0 y0).trans (HB.out.mono (Below.refl _ _ : Below y0.heap.size y0 y0).size)
    have HBw : Hid (Below w.heap.size w wr) := HB0.out.trans (HB9.out.mono HB0.out.size)
    by_cases hkl : k < DX1.length
    · have hkm : k < DX2.length := by have := HLE.out; omega
      have hki : (k : Int) < DX1.length := by omega
      have hkj : (k : Int) < DX2.length := by omega
      have hk0 : 0 ≤ (k : Int) := by omega
      obtain ⟨Z, hZ⟩ : ∃ Z, wr.drew = Z := ⟨_, rfl⟩
      have HBr : Hid (Below wr.heap.size wr Z) := by show Below _ _ _; rw [← hZ]; exact (Below.refl _ _).drew
      have HBZ : Hid (Below w.heap.size w Z) := HBw.out.trans (HBr.out.mono HBw.out.size)
      have HBZ9 : Hid (Below y0.heap.size y0 Z) := HB9.out.trans (HBr.out.mono HB9.out.size)
      obtain ⟨p, hp1⟩ : ∃ p, DX1[k]? = some p := ⟨_, List.getElem?_eq_getElem (by assumption)⟩
      obtain ⟨ra, rb⟩ := (HM1.out _ HBZ.out).d.dr p (List.mem_of_getElem? hp1)
      obtain ⟨d1, va, vb⟩ := p
      dsimp only at ra rb
      obtain ⟨pa1, ca1, hv⟩ := row_form ra
      subst hv
      obtain ⟨pb1, cb1, hv⟩ := row_form rb
      subst hv
      clear ra rb
      obtain ⟨g1, cs, hv, hc1⟩ := (HM1.out _ HBZ.out).d.cells hp1
      injection hv with hv1 _ hv2
      subst hv1 hv2
      have HP1 : Hid (DX1[k]? = some (⟨d1, .slice pa1 d1.params.length ca1, .slice pb1 d1.body.length cb1⟩ : Dx)) := hp1
      clear hp1
      obtain ⟨p, hp2⟩ : ∃ p, DX2[k]? = some p := ⟨_, List.getElem?_eq_getElem (by assumption)⟩
      obtain ⟨ra, rb⟩ := (HM2.out _ HBZ.out).d.dr p (List.mem_of_getElem? hp2)
      obtain ⟨d2, va, vb⟩ := p
      dsimp only at ra rb
      obtain ⟨pa2, ca2, hv⟩ := row_form ra
      subst hv
      obtain ⟨pb2, cb2, hv⟩ := row_form rb
      subst hv
      clear ra rb
      obtain ⟨g2, cs, hv, hc2⟩ := (HM2.out _ HBZ.out).d.cells hp2
      injection hv with hv1 _ hv2
      subst hv1 hv2
      have HP2 : Hid (DX2[k]? = some (⟨d2, .slice pa2 d2.params.length ca2, .slice pb2 d2.body.length cb2⟩ : Dx)) := hp2
      clear hp2
      have x0 := cell_blk (HP0.out _ (HB9.out)) 0 rfl
      have z0 := cell_blk (HQ0.out _ (HB9.out)) 0 rfl
      have HQ : Hid (∀ y, Below Z.heap.size Z y → y.cell? ⟨w.heap.size, 0, none⟩ = some (.slice (some ⟨g1, 0, none⟩) DX1.length cd1) ∧ y.cell? ⟨Y1.heap.size, 0, none⟩ = some (.slice (some ⟨g2, 0, none⟩) DX2.length cd2) ∧ y.cell? ⟨g1, k * 9, none⟩ = some (.int .i64 d1.kind) ∧ y.cell? ⟨g1, k * 9 + 1, none⟩ = some (.string (X.str d1.name)) ∧ y.cell? ⟨g1, k * 9 + 2, none⟩ = some (.bool d1.ext) ∧ y.cell? ⟨g1, k * 9 + 3, none⟩ = some (.int .i64 d1.n) ∧ y.cell? ⟨g1, k * 9 + 4, none⟩ = some (.string (X.str d1.by')) ∧ y.cell? ⟨g1, k * 9 + 5, none⟩ = some (.slice pa1 d1.params.length ca1) ∧ y.cell? ⟨g1, k * 9 + 6, none⟩ = some (.int .i64 d1.count) ∧ y.cell? ⟨g1, k * 9 + 7, none⟩ = some (.int .i64 d1.rank) ∧ y.cell? ⟨g1, k * 9 + 8, none⟩ = some (.slice pb1 d1.body.length cb1) ∧ y.cell? ⟨g2, k * 9, none⟩ = some (.int .i64 d2.kind) ∧ y.cell? ⟨g2, k * 9 + 1, none⟩ = some (.string (X.str d2.name)) ∧ y.cell? ⟨g2, k * 9 + 2, none⟩ = some (.bool d2.ext) ∧ y.cell? ⟨g2, k * 9 + 3, none⟩ = some (.int .i64 d2.n) ∧ y.cell? ⟨g2, k * 9 + 4, none⟩ = some (.string (X.str d2.by')) ∧ y.cell? ⟨g2, k * 9 + 5, none⟩ = some (.slice pa2 d2.params.length ca2) ∧ y.cell? ⟨g2, k * 9 + 6, none⟩ = some (.int .i64 d2.count) ∧ y.cell? ⟨g2, k * 9 + 7, none⟩ = some (.int .i64 d2.rank) ∧ y.cell? ⟨g2, k * 9 + 8, none⟩ = some (.slice pb2 d2.body.length cb2)) := fun y hy => ⟨cell_blk (HP0.out _ (HBZ9.out.trans (hy.mono HBZ9.out.size))) 0 rfl, cell_blk (HQ0.out _ (HBZ9.out.trans (hy.mono HBZ9.out.size))) 0 rfl, cell_thru hy (hc1 0 _ rfl), cell_thru hy (hc1 1 _ rfl), cell_thru hy (hc1 2 _ rfl), cell_thru hy (hc1 3 _ rfl), cell_thru hy (hc1 4 _ rfl), cell_thru hy (hc1 5 _ rfl), cell_thru hy (hc1 6 _ rfl), cell_thru hy (hc1 7 _ rfl), cell_thru hy (hc1 8 _ rfl), cell_thru hy (hc2 0 _ rfl), cell_thru hy (hc2 1 _ rfl), cell_thru hy (hc2 2 _ rfl), cell_thru hy (hc2 3 _ rfl), cell_thru hy (hc2 4 _ rfl), cell_thru hy (hc2 5 _ rfl), cell_thru hy (hc2 6 _ rfl), cell_thru hy (hc2 7 _ rfl), cell_thru hy (hc2 8 _ rfl)⟩
      have HSS : Hid _ := rsameDecl_any _ _ ((HM1.out _ HBZ.out).d.dr _ (List.mem_of_getElem? HP1.out)) ((HM2.out _ HBZ.out).d.dr _ (List.mem_of_getElem? HP2.out))
      clear hc1 hc2
      go_wp2_with fail
      refine wp_region_held_drew (S := (fun w' : World => w'.cell? ⟨w.heap.size, 0, none⟩ = some (.slice (some ⟨g1, 0, none⟩) DX1.length cd1) ∧ w'.cell? ⟨Y1.heap.size, 0, none⟩ = some (.slice (some ⟨g2, 0, none⟩) DX2.length cd2) ∧ w'.cell? ⟨g1, k * 9, none⟩ = some (.int .i64 d1.kind) ∧ w'.cell? ⟨g1, k * 9 + 1, none⟩ = some (.string (X.str d1.name)) ∧ w'.cell? ⟨g1, k * 9 + 2, none⟩ = some (.bool d1.ext) ∧ w'.cell? ⟨g1, k * 9 + 3, none⟩ = some (.int .i64 d1.n) ∧ w'.cell? ⟨g1, k * 9 + 4, none⟩ = some (.string (X.str d1.by')) ∧ w'.cell? ⟨g1, k * 9 + 5, none⟩ = some (.slice pa1 d1.params.length ca1) ∧ w'.cell? ⟨g1, k * 9 + 6, none⟩ = some (.int .i64 d1.count) ∧ w'.cell? ⟨g1, k * 9 + 7, none⟩ = some (.int .i64 d1.rank) ∧ w'.cell? ⟨g1, k * 9 + 8, none⟩ = some (.slice pb1 d1.body.length cb1) ∧ w'.cell? ⟨g2, k * 9, none⟩ = some (.int .i64 d2.kind) ∧ w'.cell? ⟨g2, k * 9 + 1, none⟩ = some (.string (X.str d2.name)) ∧ w'.cell? ⟨g2, k * 9 + 2, none⟩ = some (.bool d2.ext) ∧ w'.cell? ⟨g2, k * 9 + 3, none⟩ = some (.int .i64 d2.n) ∧ w'.cell? ⟨g2, k * 9 + 4, none⟩ = some (.string (X.str d2.by')) ∧ w'.cell? ⟨g2, k * 9 + 5, none⟩ = some (.slice pa2 d2.params.length ca2) ∧ w'.cell? ⟨g2, k * 9 + 6, none⟩ = some (.int .i64 d2.count) ∧ w'.cell? ⟨g2, k * 9 + 7, none⟩ = some (.int .i64 d2.rank) ∧ w'.cell? ⟨g2, k * 9 + 8, none⟩ = some (.slice pb2 d2.body.length cb2))) (by kernel_rfl) (by rw [hZ]; exact HQ.out _ (Below.refl _ _)) (fun hHeld => ?_)
      rw [hZ]
      rw [hZ] at hHeld
      clear hZ
      refine tj 0 ?_
      simp only [Act.put, zA, zB, zC]
      refine tj 1 ?_
      simp only [Act.put, zA, zB, zC]
      refine tj 2 ?_
      simp only [Act.put, zA, zB, zC]
      refine tj 3 ?_
      simp only [Act.put, zA, zB, zC]
      refine tj 4 ?_
      simp only [Act.put, zA, zB, zC]
      refine tj 5 ?_
      simp only [Act.put, zA, zB, zC]
      refine tj 6 ?_
      simp only [Act.put, zA, zB, zC]
      refine tj 7 ?_
      simp only [Act.put, zA, zB, zC]
      refine tj 8 ?_
      simp only [Act.put, zA, zB, zC]
      refine tj 9 ?_
      simp only [Act.put, zA, zB, zC]
      refine tr [10] ?_
      refine AllReadyH.cons (tA rfl) (fun K hK => ?_) AllReadyH.nil
      go_simp
      refine Calls.mono HSS.out ?_
      rintro e y1 ⟨rfl, hb⟩
      have HBY : Hid (Below y0.heap.size y0 y1) := HBZ9.out.trans (hb.mono HBZ9.out.size)
      have HBL : Hid (Below y0.heap.size y0 y1) := (HB.out.trans (HBr.out.mono HB.out.size)).trans (hb.mono (HB.out.trans (HBr.out.mono HB.out.size)).size)
      refine hK.out _ _ (HQ.out _ hb) (fun hHeld => ?_)
      clear hK K hb HSS
      try simp only [Act.put, zA, zB, zC]
      refine tj 11 ?_
      try simp only [Act.put, zA, zB, zC]
      refine wpAnyH_done (by kernel_rfl) ?_ _
      clear hHeld HQ x0 z0
      try dsimp only
      by_cases hxy : d1 = d2
      · rw [decide_eq_true hxy]
        go_wp2_with fail
        go_roundg (DX1.length - (k + 1))
        case measure => omega
        case rel =>
          refine ⟨k + 1, rfl, by go_num, by omega, ?_, HBL⟩
          intro j hj
          by_cases e : j = k
          · subst e; rw [List.getElem?_map, List.getElem?_map, HP1.out, HP2.out, hxy]; rfl
          · exact HE.out j (by omega)
      · have HF : Hid (R = false) := by
          show _ = _
          rw [← HR.out]
          refine decide_eq_false fun e => hxy ?_
          have h1 : (DX1.map (·.d))[k]? = some d1 := by rw [List.getElem?_map, HP1.out]; rfl
          have h2 : (DX2.map (·.d))[k]? = some d2 := by rw [List.getElem?_map, HP2.out]; rfl
          rw [show DX1.map (·.d) = DX2.map (·.d) from congrArg Mod.decls e, h2] at h1
          injection h1 with h1
          exact h1.symm
        rw [decide_eq_false hxy]
        go_wp2_with fail
        go_ret
        exact ⟨by rw [HF.out]; rfl, HB0.out.trans (HBY.out.mono HB0.out.size)⟩
    obtain rfl : k = DX1.length := by omega
    have HEd : Hid (DX1.map (·.d) = DX2.map (·.d)) := List.ext_getElem? fun j => by
      rcases Nat.lt_or_ge j DX1.length with h | h
      · exact HE.out j h
      · rw [List.getElem?_eq_none (by rw [List.length_map]; exact h), List.getElem?_eq_none (by rw [List.length_map]; have := HLE.out; omega)]
    have x0 := cell_blk (HP0.out _ (HB9.out)) 0 rfl
    have z0 := cell_blk (HQ0.out _ (HB9.out)) 0 rfl
    have hii : ¬ (DX1.length : Int) < (DX1.length : Int) := by omega
    clear HE HB
    go_wp2_with fail
    clear x0 z0 hii hkl hk
    generalize wr = ya at *
    have HB9a : Hid (Below y0.heap.size y0 ya) := HB9.out
    clear HB9 HBw
    go_loopg [7, 8] XS1.length (fun gg v5 v6 wq => ∃ (k : Nat), gg = XS1.length - k ∧ v5 = .int .i64 (k : Int) ∧ k ≤ XS1.length ∧ Hid (∀ j, j < k → (XS1.map (·.s))[j]? = (XS2.map (·.s))[j]?) ∧ Hid (Below ya.heap.size ya wq))
    case atStart => exact ⟨0, rfl, rfl, Nat.zero_le _, (fun j hj => by omega : ∀ j, j < 0 → (XS1.map (·.s))[j]? = (XS2.map (·.s))[j]?), Below.refl _ _⟩
    case round =>
      obtain ⟨k, rfl, rfl, hk, HE, HB⟩ := hrel
      have HB9 : Hid (Below y0.heap.size y0 wr) := HB9a.out.trans (HB.out.mono HB9a.out.size)
      have HBw : Hid (Below w.heap.size w wr) := HB0.out.trans (HB9.out.mono HB0.out.size)
      by_cases hkl : k < XS1.length
      · have hkm : k < XS2.length := by have := HLE.out; omega
        have hki : (k : Int) < XS1.length := by omega
        have hkj : (k : Int) < XS2.length := by omega
        have hk0 : 0 ≤ (k : Int) := by omega
        obtain ⟨Z, hZ⟩ : ∃ Z, wr.drew = Z := ⟨_, rfl⟩
        have HBr : Hid (Below wr.heap.size wr Z) := by show Below _ _ _; rw [← hZ]; exact (Below.refl _ _).drew
        have HBZ : Hid (Below w.heap.size w Z) := HBw.out.trans (HBr.out.mono HBw.out.size)
        have HBZ9 : Hid (Below y0.heap.size y0 Z) := HB9.out.trans (HBr.out.mono HB9.out.size)
        obtain ⟨p, hp1⟩ : ∃ p, XS1[k]? = some p := ⟨_, List.getElem?_eq_getElem (by assumption)⟩
        obtain ⟨ra, rb, rl⟩ := (HM1.out _ HBZ.out).s.sr p (List.mem_of_getElem? hp1)
        obtain ⟨d1, va, vb, vl⟩ := p
        dsimp only at ra rb rl
        obtain ⟨pa1, ca1, hv⟩ := row_form ra
        subst hv
        obtain ⟨pb1, cb1, hv⟩ := row_form rb
        subst hv
        obtain ⟨pl1, cl1, hv⟩ := row_form rl
        subst hv
        clear ra rb rl
        obtain ⟨g1, cs, hv, hc1⟩ := (HM1.out _ HBZ.out).s.cells hp1
        injection hv with hv1 _ hv2
        subst hv1 hv2
        have HP1 : Hid (XS1[k]? = some (⟨d1, .slice pa1 d1.args.length ca1, .slice pb1 d1.body.length cb1, .slice pl1 d1.els.length cl1⟩ : Sx)) := hp1
        clear hp1
        obtain ⟨p, hp2⟩ : ∃ p, XS2[k]? = some p := ⟨_, List.getElem?_eq_getElem (by assumption)⟩
        obtain ⟨ra, rb, rl⟩ := (HM2.out _ HBZ.out).s.sr p (List.mem_of_getElem? hp2)
        obtain ⟨d2, va, vb, vl⟩ := p
        dsimp only at ra rb rl
        obtain ⟨pa2, ca2, hv⟩ := row_form ra
        subst hv
        obtain ⟨pb2, cb2, hv⟩ := row_form rb
        subst hv
        obtain ⟨pl2, cl2, hv⟩ := row_form rl
        subst hv
        clear ra rb rl
        obtain ⟨g2, cs, hv, hc2⟩ := (HM2.out _ HBZ.out).s.cells hp2
        injection hv with hv1 _ hv2
        subst hv1 hv2
        have HP2 : Hid (XS2[k]? = some (⟨d2, .slice pa2 d2.args.length ca2, .slice pb2 d2.body.length cb2, .slice pl2 d2.els.length cl2⟩ : Sx)) := hp2
        clear hp2
        have x1 := cell_blk (HP0.out _ (HB9.out)) 1 rfl
        have z1 := cell_blk (HQ0.out _ (HB9.out)) 1 rfl
        have HQ : Hid (∀ y, Below Z.heap.size Z y → y.cell? ⟨w.heap.size, 1, none⟩ = some (.slice (some ⟨g1, 0, none⟩) XS1.length cs1) ∧ y.cell? ⟨Y1.heap.size, 1, none⟩ = some (.slice (some ⟨g2, 0, none⟩) XS2.length cs2) ∧ y.cell? ⟨g1, k * 8, none⟩ = some (.int .i64 d1.kind) ∧ y.cell? ⟨g1, k * 8 + 1, none⟩ = some (.string (X.str d1.name)) ∧ y.cell? ⟨g1, k * 8 + 2, none⟩ = some (.string (X.str d1.fn)) ∧ y.cell? ⟨g1, k * 8 + 3, none⟩ = some (.int .i64 d1.e) ∧ y.cell? ⟨g1, k * 8 + 4, none⟩ = some (.int .i64 d1.i) ∧ y.cell? ⟨g1, k * 8 + 5, none⟩ = some (.slice pa1 d1.args.length ca1) ∧ y.cell? ⟨g1, k * 8 + 6, none⟩ = some (.slice pb1 d1.body.length cb1) ∧ y.cell? ⟨g1, k * 8 + 7, none⟩ = some (.slice pl1 d1.els.length cl1) ∧ y.cell? ⟨g2, k * 8, none⟩ = some (.int .i64 d2.kind) ∧ y.cell? ⟨g2, k * 8 + 1, none⟩ = some (.string (X.str d2.name)) ∧ y.cell? ⟨g2, k * 8 + 2, none⟩ = some (.string (X.str d2.fn)) ∧ y.cell? ⟨g2, k * 8 + 3, none⟩ = some (.int .i64 d2.e) ∧ y.cell? ⟨g2, k * 8 + 4, none⟩ = some (.int .i64 d2.i) ∧ y.cell? ⟨g2, k * 8 + 5, none⟩ = some (.slice pa2 d2.args.length ca2) ∧ y.cell? ⟨g2, k * 8 + 6, none⟩ = some (.slice pb2 d2.body.length cb2) ∧ y.cell? ⟨g2, k * 8 + 7, none⟩ = some (.slice pl2 d2.els.length cl2)) := fun y hy => ⟨cell_blk (HP0.out _ (HBZ9.out.trans (hy.mono HBZ9.out.size))) 1 rfl, cell_blk (HQ0.out _ (HBZ9.out.trans (hy.mono HBZ9.out.size))) 1 rfl, cell_thru hy (hc1 0 _ rfl), cell_thru hy (hc1 1 _ rfl), cell_thru hy (hc1 2 _ rfl), cell_thru hy (hc1 3 _ rfl), cell_thru hy (hc1 4 _ rfl), cell_thru hy (hc1 5 _ rfl), cell_thru hy (hc1 6 _ rfl), cell_thru hy (hc1 7 _ rfl), cell_thru hy (hc2 0 _ rfl), cell_thru hy (hc2 1 _ rfl), cell_thru hy (hc2 2 _ rfl), cell_thru hy (hc2 3 _ rfl), cell_thru hy (hc2 4 _ rfl), cell_thru hy (hc2 5 _ rfl), cell_thru hy (hc2 6 _ rfl), cell_thru hy (hc2 7 _ rfl)⟩
        have HSS : Hid _ := rsameStmt_any _ _ ((HM1.out _ HBZ.out).s.sr _ (List.mem_of_getElem? HP1.out)) ((HM2.out _ HBZ.out).s.sr _ (List.mem_of_getElem? HP2.out))
        clear hc1 hc2
        go_wp2_with fail
        refine wp_region_held_drew (S := (fun w' : World => w'.cell? ⟨w.heap.size, 1, none⟩ = some (.slice (some ⟨g1, 0, none⟩) XS1.length cs1) ∧ w'.cell? ⟨Y1.heap.size, 1, none⟩ = some (.slice (some ⟨g2, 0, none⟩) XS2.length cs2) ∧ w'.cell? ⟨g1, k * 8, none⟩ = some (.int .i64 d1.kind) ∧ w'.cell? ⟨g1, k * 8 + 1, none⟩ = some (.string (X.str d1.name)) ∧ w'.cell? ⟨g1, k * 8 + 2, none⟩ = some (.string (X.str d1.fn)) ∧ w'.cell? ⟨g1, k * 8 + 3, none⟩ = some (.int .i64 d1.e) ∧ w'.cell? ⟨g1, k * 8 + 4, none⟩ = some (.int .i64 d1.i) ∧ w'.cell? ⟨g1, k * 8 + 5, none⟩ = some (.slice pa1 d1.args.length ca1) ∧ w'.cell? ⟨g1, k * 8 + 6, none⟩ = some (.slice pb1 d1.body.length cb1) ∧ w'.cell? ⟨g1, k * 8 + 7, none⟩ = some (.slice pl1 d1.els.length cl1) ∧ w'.cell? ⟨g2, k * 8, none⟩ = some (.int .i64 d2.kind) ∧ w'.cell? ⟨g2, k * 8 + 1, none⟩ = some (.string (X.str d2.name)) ∧ w'.cell? ⟨g2, k * 8 + 2, none⟩ = some (.string (X.str d2.fn)) ∧ w'.cell? ⟨g2, k * 8 + 3, none⟩ = some (.int .i64 d2.e) ∧ w'.cell? ⟨g2, k * 8 + 4, none⟩ = some (.int .i64 d2.i) ∧ w'.cell? ⟨g2, k * 8 + 5, none⟩ = some (.slice pa2 d2.args.length ca2) ∧ w'.cell? ⟨g2, k * 8 + 6, none⟩ = some (.slice pb2 d2.body.length cb2) ∧ w'.cell? ⟨g2, k * 8 + 7, none⟩ = some (.slice pl2 d2.els.length cl2))) (by kernel_rfl) (by rw [hZ]; exact HQ.out _ (Below.refl _ _)) (fun hHeld => ?_)
        rw [hZ]
        rw [hZ] at hHeld
        clear hZ
        refine tj 0 ?_
        simp only [Act.put, zA, zB, zC]
        refine tj 1 ?_
        simp only [Act.put, zA, zB, zC]
        refine tj 2 ?_
        simp only [Act.put, zA, zB, zC]
        refine tj 3 ?_
        simp only [Act.put, zA, zB, zC]
        refine tj 4 ?_
        simp only [Act.put, zA, zB, zC]
        refine tj 5 ?_
        simp only [Act.put, zA, zB, zC]
        refine tj 6 ?_
        simp only [Act.put, zA, zB, zC]
        refine tj 7 ?_
        simp only [Act.put, zA, zB, zC]
        refine tj 8 ?_
        simp only [Act.put, zA, zB, zC]
        refine tj 9 ?_
        simp only [Act.put, zA, zB, zC]
        refine tr [10] ?_
        refine AllReadyH.cons (tA rfl) (fun K hK => ?_) AllReadyH.nil
        go_simp
        refine Calls.mono HSS.out ?_
        rintro e y1 ⟨rfl, hb⟩
        have HBY : Hid (Below y0.heap.size y0 y1) := HBZ9.out.trans (hb.mono HBZ9.out.size)
        have HBL : Hid (Below ya.heap.size ya y1) := (HB.out.trans (HBr.out.mono HB.out.size)).trans (hb.mono (HB.out.trans (HBr.out.mono HB.out.size)).size)
        refine hK.out _ _ (HQ.out _ hb) (fun hHeld => ?_)
        clear hK K hb HSS
        try simp only [Act.put, zA, zB, zC]
        refine tj 11 ?_
        try simp only [Act.put, zA, zB, zC]
        refine wpAnyH_done (by kernel_rfl) ?_ _
        clear hHeld HQ x1 z1
        try dsimp only
        by_cases hxy : d1 = d2
        · rw [decide_eq_true hxy]
          go_wp2_with fail
          go_roundg (XS1.length - (k + 1))
          case measure => omega
          case rel =>
            refine ⟨k + 1, rfl, by go_num, by omega, ?_, HBL⟩
            intro j hj
            by_cases e : j = k
            · subst e; rw [List.getElem?_map, List.getElem?_map, HP1.out, HP2.out, hxy]; rfl
            · exact HE.out j (by omega)
        · have HF : Hid (R = false) := by
            show _ = _
            rw [← HR.out]
            refine decide_eq_false fun e => hxy ?_
            have h1 : (XS1.map (·.s))[k]? = some d1 := by rw [List.getElem?_map, HP1.out]; rfl
            have h2 : (XS2.map (·.s))[k]? = some d2 := by rw [List.getElem?_map, HP2.out]; rfl
            rw [show XS1.map (·.s) = XS2.map (·.s) from congrArg Mod.stmts e, h2] at h1
            injection h1 with h1
            exact h1.symm
          rw [decide_eq_false hxy]
          go_wp2_with fail
          go_ret
          exact ⟨by rw [HF.out]; rfl, HB0.out.trans (HBY.out.mono HB0.out.size)⟩
      obtain rfl : k = XS1.length := by omega
      have HEs : Hid (XS1.map (·.s) = XS2.map (·.s)) := List.ext_getElem? fun j => by
        rcases Nat.lt_or_ge j XS1.length with h | h
        · exact HE.out j h
        · rw [List.getElem?_eq_none (by rw [List.length_map]; exact h), List.getElem?_eq_none (by rw [List.length_map]; have := HLE.out; omega)]
      have x1 := cell_blk (HP0.out _ (HB9.out)) 1 rfl
      have z1 := cell_blk (HQ0.out _ (HB9.out)) 1 rfl
      have hii : ¬ (XS1.length : Int) < (XS1.length : Int) := by omega
      clear HE HB
      go_wp2_with fail
      clear x1 z1 hii hkl hk
      generalize wr = yb at *
      have HB9b : Hid (Below y0.heap.size y0 yb) := HB9.out
      clear HB9 HBw
      go_loopg [9] E1.length (fun gg v5 wq => ∃ (k : Nat), gg = E1.length - k ∧ v5 = .int .i64 (k : Int) ∧ k ≤ E1.length ∧ Hid (∀ j, j < k → E1[j]? = E2[j]?) ∧ Hid (Below yb.heap.size yb wq))
      case atStart => exact ⟨0, rfl, rfl, Nat.zero_le _, (fun j hj => by omega : ∀ j, j < 0 → E1[j]? = E2[j]?), Below.refl _ _⟩
      case round =>
        obtain ⟨k, rfl, rfl, hk, HE, HB⟩ := hrel
        have HB9 : Hid (Below y0.heap.size y0 wr) := HB9b.out.trans (HB.out.mono HB9b.out.size)
        have HBw : Hid (Below w.heap.size w wr) := HB0.out.trans (HB9.out.mono HB0.out.size)
        have x2 := cell_blk (HP0.out _ (HB9.out)) 2 rfl
        have z2 := cell_blk (HQ0.out _ (HB9.out)) 2 rfl
        by_cases hkl : k < E1.length
        · have hkm : k < E2.length := by have := HLE.out; omega
          have hki : (k : Int) < E1.length := by omega
          have hkj : (k : Int) < E2.length := by omega
          have hk0 : 0 ≤ (k : Int) := by omega
          obtain ⟨x, hx⟩ : ∃ x, E1[k] = x := ⟨_, rfl⟩
          obtain ⟨y, hy⟩ : ∃ y, E2[k] = y := ⟨_, rfl⟩
          have HXY : Hid (E1[k]? = some x ∧ E2[k]? = some y) := ⟨by rw [List.getElem?_eq_getElem hkl, hx], by rw [List.getElem?_eq_getElem hkm, hy]⟩
          obtain ⟨g1, hg1, hc1⟩ := rowE_at (HM1.out _ HBw.out).e hkl
          obtain ⟨g2, hg2, hc2⟩ := rowE_at (HM2.out _ HBw.out).e hkm
          subst hg1 hg2
          rw [hx] at hc1
          rw [hy] at hc2
          have a0 : wr.cell? ⟨g1, k * 6, none⟩ = some (.int .i64 x.kind) := hc1 0 _ rfl
          have a1 : wr.cell? ⟨g1, k * 6 + 1, none⟩ = some (.string (X.str x.op)) := hc1 1 _ rfl
          have a2 : wr.cell? ⟨g1, k * 6 + 2, none⟩ = some (.string (X.str x.name)) := hc1 2 _ rfl
          have a3 : wr.cell? ⟨g1, k * 6 + 3, none⟩ = some (.int .i64 x.n) := hc1 3 _ rfl
          have a4 : wr.cell? ⟨g1, k * 6 + 4, none⟩ = some (.int .i64 x.l) := hc1 4 _ rfl
          have a5 : wr.cell? ⟨g1, k * 6 + 5, none⟩ = some (.int .i64 x.r) := hc1 5 _ rfl
          have f0 : wr.cell? ⟨g2, k * 6, none⟩ = some (.int .i64 y.kind) := hc2 0 _ rfl
          have f1 : wr.cell? ⟨g2, k * 6 + 1, none⟩ = some (.string (X.str y.op)) := hc2 1 _ rfl
          have f2 : wr.cell? ⟨g2, k * 6 + 2, none⟩ = some (.string (X.str y.name)) := hc2 2 _ rfl
          have f3 : wr.cell? ⟨g2, k * 6 + 3, none⟩ = some (.int .i64 y.n) := hc2 3 _ rfl
          have f4 : wr.cell? ⟨g2, k * 6 + 4, none⟩ = some (.int .i64 y.l) := hc2 4 _ rfl
          have f5 : wr.cell? ⟨g2, k * 6 + 5, none⟩ = some (.int .i64 y.r) := hc2 5 _ rfl
          have hEq := eqExp x y
          clear hx hy hc1 hc2
          by_cases hxy : x = y
          · rw [decide_eq_true hxy] at hEq
            go_wp2_with fail
            go_quiet (fail)
            go_wp2
            go_roundg (E1.length - (k + 1))
            case measure => omega
            case rel =>
              refine ⟨k + 1, rfl, by go_num, by omega, ?_, below_drew' HB.out _⟩
              intro j hj
              by_cases e : j = k
              · subst e; rw [HXY.out.1, HXY.out.2, hxy]
              · exact HE.out j (by omega)
          · rw [decide_eq_false hxy] at hEq
            have HF : Hid (R = false) := by
              show _ = _
              rw [← HR.out]
              refine decide_eq_false fun e => hxy ?_
              have h1 := HXY.out.1
              rw [show E1 = E2 from congrArg Mod.exps e, HXY.out.2] at h1
              injection h1 with h1
              exact h1.symm
            go_wp2_with fail
            go_quiet (fail)
            go_wp2
            go_ret
            exact ⟨by rw [HF.out]; rfl, below_drew' HBw.out _⟩
        · obtain rfl : k = E1.length := by omega
          have hE : E1 = E2 := List.ext_getElem? fun j => by
            rcases Nat.lt_or_ge j E1.length with h | h
            · exact HE.out j h
            · rw [List.getElem?_eq_none h, List.getElem?_eq_none (by have := HLE.out; omega)]
          have HF : Hid (R = true) := by
            show _ = _
            rw [← HR.out, HEd.out, HEs.out, hE]
            exact decide_eq_true rfl
          have hii : ¬ (E1.length : Int) < (E1.length : Int) := by omega
          go_wp2_with fail
          go_ret
          exact ⟨by rw [HF.out]; rfl, HBw.out⟩
end Go.Proofs.YtikknlkdbjaonaaGreatDoor.Y

/- The walk of ParseBack. -/
namespace Go.Proofs.YtikknlkdbjaonaaGreatDoor.Y
open Go.RowKit Go.Maps Go.Lib
set_option linter.unusedVariables false
set_option linter.unusedSimpArgs false
theorem WT.bel' {w y : World} (h : WT w) (hb : Below w.heap.size w y) : WT y := ⟨h.1.below (hb.mono h.1.hz), pw_below h.2 hb h.1.hz⟩
theorem str_back (T : By) : (X.str T).data.toList = T := by simp [X.str]
theorem some_of_zero {l : By} (h : (parse l).2 = 0) : ∃ M, parse l = (some M, 0) := by
  cases hm : (parse l).1 with
  | none => exact absurd (by rw [h]; rfl) (parse_code hm)
  | some M => exact ⟨M, by rw [← h, ← hm]⟩
theorem parse_size {l : By} {M : Mod} {z : Nat} (h : parse l = (some M, z)) : l.length ≤ 20000 := by
  rcases Nat.lt_or_ge 20000 l.length with h1 | h1
  · exfalso
    have h2 : X.lex l = ([], 8) := by unfold X.lex; rw [if_pos h1]
    unfold parse at h
    rw [h2] at h
    cases h
  · exact h1
set_option maxRecDepth 100000 in
set_option maxHeartbeats 8000000 in
theorem back_any (s : ByteArray) (hs : s.size ≤ maxLen) (w : World) (hT : WT w) :
    Calls Tryz.prog 5 #[.string s] w fun e w' => e = .returned (.bool true) ∧ Below w.heap.size w w' := by
  have hL : s.data.toList.length = s.size := by simp
  have hmx : maxLen = 9223372036854775807 := rfl
  have HT : Hid (WT w) := hT
  clear hT
  have HC1 : Hid _ := fun w h => parse_any s hs w h
  go_enter Tryz.func5, Tryz.ntmps5
  go_wp2_with fail
  refine (HC1.out _ HT.out.1).mono ?_
  intro e y1 hy
  have HY : Hid _ := hy
  clear hy HC1
  by_cases hz : (parse s.data.toList).2 = 0
  rotate_left
  · have hn : (parse s.data.toList).1 = none := by
      cases hm : (parse s.data.toList).1 with
      | none => rfl
      | some M =>
        exfalso
        apply hz
        unfold parse at hm ⊢
        split
        · rename_i h1
          rw [if_pos h1] at hm
          cases h2 : modOf (X.lex s.data.toList).1 with
          | none => rw [h2] at hm; cases hm
          | some K => rfl
        · rename_i h1
          rw [if_neg h1] at hm; cases hm
    have h2 := HY.out
    obtain ⟨hb, h3⟩ := h2
    rw [hn] at h3
    have h3' : e = _ := h3
    subst h3'
    obtain ⟨z, hzz⟩ : ∃ z, (parse s.data.toList).2 = z := ⟨_, rfl⟩
    rw [hzz] at hz ⊢
    have hz1 : ((z : Int) != 0) = true := by simp; omega
    have HB1 : Hid (Below w.heap.size w (y1.alloc (.cells #[.slice none 0 0, .slice none 0 0, .slice none 0 0] 26))) := hb.trans ((bl1 _ _).mono hb.size)
    have hlive := live_any _ (HT.out.bel' HB1.out)
    clear hb h3 HY hn hzz
    unfold noMod
    go_wp2_with (first | (go_at_call 10; refine hlive.mono ?_; rintro e w2 ⟨rfl, hb2⟩))
    go_ret
    exact ⟨rfl, HB1.out.trans (hb2.mono HB1.out.size)⟩
  obtain ⟨M, hM⟩ := some_of_zero hz
  have h2 := HY.out
  rw [hM] at h2
  obtain ⟨hb1, vd, vs, ve, DX, XS, rfl, hmd⟩ := h2
  obtain ⟨ad, cd, hv⟩ := row_form hmd.rd
  subst hv
  obtain ⟨as', cs, hv⟩ := row_form hmd.rs
  subst hv
  obtain ⟨ae, ce, hv⟩ := row_form hmd.re
  subst hv
  obtain ⟨x1, hX1⟩ : ∃ Y, y1.alloc (.cells #[.slice ad DX.length cd, .slice as' XS.length cs, .slice ae M.exps.length ce] 26) = Y := ⟨_, rfl⟩
  have hbx : Below y1.heap.size y1 x1 := by rw [← hX1]; exact bl1 _ _
  have HB1 : Hid (Below w.heap.size w x1) := hb1.trans (hbx.mono hb1.size)
  have HP1 : Hid (x1.heap[y1.heap.size]? = some (.cells #[.slice ad DX.length cd, .slice as' XS.length cs, .slice ae M.exps.length ce] 26)) := by show _ = _; rw [← hX1]; exact heap_new _ _
  have HMV : Hid (MV w.heap.size x1 (.slice ad DX.length cd) (.slice as' XS.length cs) (.slice ae M.exps.length ce) DX XS M.exps) := (⟨⟨hmd.rd, hmd.dr⟩, ⟨hmd.rs, hmd.sr⟩, hmd.re⟩ : MV w.heap.size y1 _ _ _ DX XS M.exps).bel hbx
  have HDS : Hid (DX.map (·.d) = M.decls ∧ XS.map (·.s) = M.stmts) := ⟨hmd.hd, hmd.hs⟩
  have HX1 : Hid _ := hX1
  have hlive := live_any _ (HT.out.bel' HB1.out)
  clear hb1 hmd hbx HY hX1
  by_cases hlen : 4000 < s.size
  · have hl1 : decide ((4000 : Int) < s.size) = true := by simp; omega
    go_wp2_with (first | (go_at_call 10; rw [HX1.out]; refine hlive.mono ?_; rintro e w2 ⟨rfl, hb2⟩))
    go_ret
    exact ⟨rfl, HB1.out.trans (hb2.mono HB1.out.size)⟩
  have hl1 : decide ((4000 : Int) < s.size) = false := by simp; omega
  obtain ⟨T, t1, t2, a1, a2, a3, a4⟩ := back_mod hM (by omega)
  have hprt : prt M = some T := by
    unfold prt
    rw [t1, Option.bind_some, t2, if_pos rfl]
  have HPR : Hid (Calls Tryz.prog 13 #[.agg #[.slice ad DX.length cd, .slice as' XS.length cs, .slice ae M.exps.length ce]] x1 (PrOut x1 (some T))) := by
    have h := print_any HMV.out (fun h => ⟨h, fun x hx => (a1 x hx).op, fun x hx => (a1 x hx).name, fun x hx => ⟨(a1 x hx).n0, (a1 x hx).n1⟩⟩) ⟨fun p hp => (a2 p.s (by rw [← HDS.out.2]; exact List.mem_map.2 ⟨p, hp, rfl⟩)).name, fun p hp => (a2 p.s (by rw [← HDS.out.2]; exact List.mem_map.2 ⟨p, hp, rfl⟩)).fn⟩ (fun p hp => a3 p.d (by rw [← HDS.out.1]; exact List.mem_map.2 ⟨p, hp, rfl⟩)) (HT.out.bel' HB1.out).1 (HT.out.bel' HB1.out).2
    rw [HDS.out.1, HDS.out.2, show prt ⟨M.decls, M.stmts, M.exps⟩ = some T from hprt] at h
    exact h
  have HPA : Hid (∀ y, Env y → Calls Tryz.prog 7 #[.string (X.str T)] y (PSOut y (some M, 0))) := fun y he => by
    have hT4 := parse_size t2
    have h := parse_any (X.str T) (by rw [str_len]; unfold maxLen; omega) y he
    rw [str_back, t2] at h
    exact h
  have x0 : (y1.alloc (.cells #[.slice ad DX.length cd, .slice as' XS.length cs, .slice ae M.exps.length ce] 26)).cell? ⟨y1.heap.size, 0, none⟩ = some (.slice ad DX.length cd) := by rw [HX1.out]; exact cell_blk HP1.out 0 rfl
  have x1c : (y1.alloc (.cells #[.slice ad DX.length cd, .slice as' XS.length cs, .slice ae M.exps.length ce] 26)).cell? ⟨y1.heap.size, 1, none⟩ = some (.slice as' XS.length cs) := by rw [HX1.out]; exact cell_blk HP1.out 1 rfl
  have x2 : (y1.alloc (.cells #[.slice ad DX.length cd, .slice as' XS.length cs, .slice ae M.exps.length ce] 26)).cell? ⟨y1.heap.size, 2, none⟩ = some (.slice ae M.exps.length ce) := by rw [HX1.out]; exact cell_blk HP1.out 2 rfl
  clear hlive a1 a2 a3 a4 hM
  go_wp2_with fail
  rw [HX1.out]
  refine HPR.out.mono ?_
  rintro e y2 ⟨hb2, rfl⟩
  have HB2 : Hid (Below w.heap.size w y2) := HB1.out.trans (hb2.mono HB1.out.size)
  have HP2 : Hid (y2.heap[y1.heap.size]? = some (.cells #[.slice ad DX.length cd, .slice as' XS.length cs, .slice ae M.exps.length ce] 26)) := blk_thru hb2 HP1.out
  have HMV2 : Hid _ := HMV.out.bel hb2
  clear hb2 x0 x1c x2 HPR HMV HP1 HX1
  go_wp2_with fail
  refine (HPA.out _ (HT.out.bel' HB2.out).1).mono ?_
  rintro e y3 ⟨hb3, vd2, vs2, ve2, DX2, XS2, rfl, hmd⟩
  obtain ⟨ad2, cd2, hv⟩ := row_form hmd.rd
  subst hv
  obtain ⟨as2, cs2, hv⟩ := row_form hmd.rs
  subst hv
  obtain ⟨ae2, ce2, hv⟩ := row_form hmd.re
  subst hv
  obtain ⟨x3, hX3⟩ : ∃ Y, (y3.alloc (.cells #[.slice ad2 DX2.length cd2, .slice as2 XS2.length cs2, .slice ae2 M.exps.length ce2] 26)) = Y := ⟨_, rfl⟩
  have hbx : Below y3.heap.size y3 x3 := by rw [← hX3]; exact bl1 _ _
  have HB3 : Hid (Below w.heap.size w x3) := (HB2.out.trans (hb3.mono HB2.out.size)).trans (hbx.mono (HB2.out.trans (hb3.mono HB2.out.size)).size)
  have HP3 : Hid (x3.heap[y1.heap.size]? = some (.cells #[.slice ad DX.length cd, .slice as' XS.length cs, .slice ae M.exps.length ce] 26)) := blk_thru hbx (blk_thru hb3 HP2.out)
  have HQ3 : Hid (x3.heap[y3.heap.size]? = some (.cells #[.slice ad2 DX2.length cd2, .slice as2 XS2.length cs2, .slice ae2 M.exps.length ce2] 26)) := by show _ = _; rw [← hX3]; exact heap_new _ _
  have HSA : Hid (Calls Tryz.prog 9 #[.agg #[.slice ad DX.length cd, .slice as' XS.length cs, .slice ae M.exps.length ce], .agg #[.slice ad2 DX2.length cd2, .slice as2 XS2.length cs2, .slice ae2 M.exps.length ce2]] x3 fun e w' => e = .returned (.bool true) ∧ Below x3.heap.size x3 w') := by
    have h := rsame_any ((HMV2.out.bel hb3).bel hbx) ((⟨⟨hmd.rd, hmd.dr⟩, ⟨hmd.rs, hmd.sr⟩, hmd.re⟩ : MV y2.heap.size y3 _ _ _ DX2 XS2 M.exps).bel hbx)
    rw [HDS.out.1, HDS.out.2, hmd.hd, hmd.hs, decide_eq_true rfl] at h
    exact h
  have HX3 : Hid _ := hX3
  clear hb3 hmd hbx HP2 HMV2 hX3 HPA
  have x0 : (y3.alloc (.cells #[.slice ad2 DX2.length cd2, .slice as2 XS2.length cs2, .slice ae2 M.exps.length ce2] 26)).cell? ⟨y1.heap.size, 0, none⟩ = some (.slice ad DX.length cd) := by rw [HX3.out]; exact cell_blk HP3.out 0 rfl
  have x1c : (y3.alloc (.cells #[.slice ad2 DX2.length cd2, .slice as2 XS2.length cs2, .slice ae2 M.exps.length ce2] 26)).cell? ⟨y1.heap.size, 1, none⟩ = some (.slice as' XS.length cs) := by rw [HX3.out]; exact cell_blk HP3.out 1 rfl
  have x2 : (y3.alloc (.cells #[.slice ad2 DX2.length cd2, .slice as2 XS2.length cs2, .slice ae2 M.exps.length ce2] 26)).cell? ⟨y1.heap.size, 2, none⟩ = some (.slice ae M.exps.length ce) := by rw [HX3.out]; exact cell_blk HP3.out 2 rfl
  have z0 : (y3.alloc (.cells #[.slice ad2 DX2.length cd2, .slice as2 XS2.length cs2, .slice ae2 M.exps.length ce2] 26)).cell? ⟨y3.heap.size, 0, none⟩ = some (.slice ad2 DX2.length cd2) := by rw [HX3.out]; exact cell_blk HQ3.out 0 rfl
  have z1 : (y3.alloc (.cells #[.slice ad2 DX2.length cd2, .slice as2 XS2.length cs2, .slice ae2 M.exps.length ce2] 26)).cell? ⟨y3.heap.size, 1, none⟩ = some (.slice as2 XS2.length cs2) := by rw [HX3.out]; exact cell_blk HQ3.out 1 rfl
  have z2 : (y3.alloc (.cells #[.slice ad2 DX2.length cd2, .slice as2 XS2.length cs2, .slice ae2 M.exps.length ce2] 26)).cell? ⟨y3.heap.size, 2, none⟩ = some (.slice ae2 M.exps.length ce2) := by rw [HX3.out]; exact cell_blk HQ3.out 2 rfl
  go_wp2_with fail
  rw [HX3.out]
  refine HSA.out.mono ?_
  rintro e y4 ⟨rfl, hb4⟩
  have HB4 : Hid (Below w.heap.size w y4) := HB3.out.trans (hb4.mono HB3.out.size)
  have hlive := live_any _ (HT.out.bel' HB4.out)
  clear x0 x1c x2 z0 z1 z2 hb4 HSA HX3 HP3 HQ3
  go_wp2_with fail
  refine hlive.mono ?_
  rintro e y5 ⟨rfl, hb5⟩
  go_wp2_with fail
  go_ret
  exact ⟨rfl, HB4.out.trans (hb5.mono HB4.out.size)⟩
end Go.Proofs.YtikknlkdbjaonaaGreatDoor.Y

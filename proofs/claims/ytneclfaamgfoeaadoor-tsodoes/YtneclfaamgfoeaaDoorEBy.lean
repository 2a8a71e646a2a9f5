/- TsoDoes, walked. (Written by gen_does.py.) -/
import Derived.Test.YtneclfaamgfoeaaDoorEBx
import Derived.Deep.CutRange
namespace Go.Proofs.YtneclfaamgfoeaaDoor
open Go.RowKit Go.Maps
set_option linter.unusedVariables false
set_option linter.unusedSimpArgs false

theorem intR_flat (l : List Int) : intR l = l.flatMap intC := by
  induction l with
  | nil => rfl
  | cons a l ih => rw [List.flatMap_cons, ← ih]; rfl

set_option maxRecDepth 100000 in
set_option maxHeartbeats 32000000 in
theorem does_any {w : World} {v : Value} {m : ImgD} (h : ImgV w v m) (hl : m.syms.length ≤ 4398046510976) (hld : m.data.length ≤ 17592186044416) {a : Option Addr} {l c : Nat} {ps0 : List Int} (hp : IntsV w a l c ps0) (x : Int) (hx : (Lit.int .i64 x).wf = true) (ht : Tab w) :
    Calls Tryd.prog 3 #[v, .slice a l c, .int .i64 x] w fun e w' => e = .returned (.bool true) ∧ Below w.heap.size w w' := by
  obtain ⟨a1, l1, c1, a2, l2, c2, rfl, hs, h1, h2⟩ := h.form
  obtain ⟨W1, hW1⟩ : ∃ W1, w.alloc (.cells #[.string m.code, .slice a1 l1 c1, .slice a2 l2 c2] 25) = W1 := ⟨_, rfl⟩
  have b1 : Below w.heap.size w W1 := by subst hW1; exact bl_one _ _
  have v0 : W1.cell? ⟨w.heap.size, 0, none⟩ = some (.string m.code) := by subst hW1; exact cell_last _ _ _ _ _ rfl rfl
  have v1 : W1.cell? ⟨w.heap.size, 1, none⟩ = some (.slice a1 l1 c1) := by subst hW1; exact cell_last _ _ _ _ _ rfl rfl
  have v2 : W1.cell? ⟨w.heap.size, 2, none⟩ = some (.slice a2 l2 c2) := by subst hW1; exact cell_last _ _ _ _ _ rfl rfl
  have HB1 : Hid (Below w.heap.size w W1) := b1
  have HI : Hid (ImgV W1 (.agg #[.string m.code, .slice a1 l1 c1, .slice a2 l2 c2]) m) := h.below b1
  have HLS : Hid (m.syms.length ≤ 8796093022208) := by show _ ≤ _; omega
  have HT1 : Hid (Tab W1) := ht.below b1
  have HCP : Hid (Calls Tryd.prog 9 #[.agg #[.string m.code, .slice a1 l1 c1, .slice a2 l2 c2]] W1 fun e w' => ImgIs W1.heap.size e w' m ∧ Below W1.heap.size W1 w') := icopied_any (h.below b1) hl hld
  have HP0 : Hid (IntsV w a l c ps0) := hp
  have HFD : Hid (∀ n ∈ m.data, (Lit.int .i64 n).wf = true) := h1.fits
  have HFS : Hid (∀ s ∈ m.syms, s.name.size ≤ maxLen ∧ (Lit.int .i64 s.kind).wf = true ∧ (Lit.int .i64 s.pos).wf = true) := h2.fits
  have HCS : Hid (m.code.size ≤ maxLen) := hs
  have HXW : Hid ((Lit.int .i64 x).wf = true) := hx
  have h2w : 2 ≤ w.heap.size := ht.2.2
  clear h h1 h2 hl hld b1 hp ht hs hx
  go_enter Tryd.func3, Tryd.ntmps3
  go_wp2_with fail
  refine HCP.out.mono ?_
  rintro e y1 ⟨⟨ad, cd, as2, cs2, rfl, hod, hos⟩, hb1⟩
  obtain ⟨d1, hd1⟩ : ∃ d1, m.data.length = d1 := ⟨_, rfl⟩
  have HDL : Hid (m.data.length = d1) := hd1
  obtain ⟨s1, hs1⟩ : ∃ s1, m.syms.length = s1 := ⟨_, rfl⟩
  rw [hd1] at hod
  rw [hs1] at hos
  obtain ⟨W2, hW2⟩ : ∃ W2, y1.alloc (.cells #[.string m.code, .slice ad d1 cd, .slice as2 s1 cs2] 25) = W2 := ⟨_, rfl⟩
  have bW2 : Below y1.heap.size y1 W2 := by rw [← hW2]; exact bl_one _ _
  have sW2 : y1.heap.size < W2.heap.size := by rw [← hW2]; simp
  have HI2 : Hid (ImgV W2 (.agg #[.string m.code, .slice ad d1 cd, .slice as2 s1 cs2]) m) := by
    have e1 := own_below hod bW2
    rw [intR_flat] at e1
    obtain ⟨a', c', e, hiv⟩ := ints_own e1 hd1 HFD.out
    cases e
    obtain ⟨a', c', e, hsv⟩ := syms_own (own_below hos bW2) hs1 HFS.out
    cases e
    exact ⟨⟨ad, d1, cd, as2, s1, cs2, rfl, HCS.out, hiv, hsv⟩⟩
  have q0 : W2.cell? ⟨y1.heap.size, 0, none⟩ = some (.string m.code) := by rw [← hW2]; exact cell_last _ _ _ _ _ rfl rfl
  have q1 : W2.cell? ⟨y1.heap.size, 1, none⟩ = some (.slice ad d1 cd) := by rw [← hW2]; exact cell_last _ _ _ _ _ rfl rfl
  have q2 : W2.cell? ⟨y1.heap.size, 2, none⟩ = some (.slice as2 s1 cs2) := by rw [← hW2]; exact cell_last _ _ _ _ _ rfl rfl
  have HODy : Hid (y1.ownsRow W1.heap.size 2 1 (.slice ad d1 cd) d1 (intR m.data)) := hod
  have HOD : Hid (W2.ownsRow W1.heap.size 2 1 (.slice ad d1 cd) d1 (intR m.data)) := own_below hod bW2
  have hWW : Below W1.heap.size W1 W2 := hb1.trans (bW2.mono hb1.size)
  have HWW : Hid (Below W1.heap.size W1 W2) := hWW
  have u0 := cell_up hWW v0
  have u1 := cell_up hWW v1
  have u2 := cell_up hWW v2
  obtain ⟨bo, hbo⟩ : ∃ bo, y1.heap.size = bo := ⟨_, rfl⟩
  have hboL : bo < W2.heap.size := by omega
  rw [hbo] at q0 q1 q2
  rw [hd1, hs1]
  clear hod hos hb1 bW2 hWW sW2 v0 v1 v2 hs1
  cases hm : m.may with
  | false =>
    have HTN : Hid (Calls Tryd.prog 10 #[.agg #[.string m.code, .slice ad d1 cd, .slice as2 s1 cs2]] W2 fun e w' => e = .returned (.tuple #[.pointer none, .int .i64 1]) ∧ Below W2.heap.size W2 w') := tnew_no HI2.out HLS.out hm
    have HMF : Hid (m.may = false) := hm
    clear hm
    go_wp2_with fail
    refine HTN.out.mono ?_
    rintro e y2 ⟨rfl, hb2⟩
    have u0 := cell_up hb2 u0
    have u1 := cell_up hb2 u1
    have u2 := cell_up hb2 u2
    have HB2 : Hid (Below W1.heap.size W1 y2) := HWW.out.trans (hb2.mono HWW.out.size)
    have HXN : Hid (Calls Tryd.prog 11 #[.agg #[.string m.code, .slice a1 l1 c1, .slice a2 l2 c2]] y2 fun e w' => XNewAns y2.heap.size e w' m ∧ Below y2.heap.size y2 w') := xnew_any (HI.out.below HB2.out) HLS.out
    clear hb2 hW1 hW2 q0 q1 q2
    go_wp2_with fail
    refine HXN.out.mono ?_
    rintro e y3 ⟨hans, hb3⟩
    rcases hans with ⟨e1, -⟩ | ⟨-, rfl⟩
    · rw [HMF.out] at e1; cases e1
    have HB3 : Hid (Below W1.heap.size W1 y3) := HB2.out.trans (hb3.mono HB2.out.size)
    have HLV : Hid (Calls Tryd.prog 12 #[] y3 fun e w' => e = .returned (.bool true) ∧ Below y3.heap.size y3 w') := live_any y3 (HT1.out.below HB3.out)
    clear hb3 u0 u1 u2
    go_wp2_with fail
    refine HLV.out.mono ?_
    rintro e y4 ⟨rfl, hb4⟩
    have HB4 : Hid (Below w.heap.size w y4) := HB1.out.trans ((HB3.out.trans (hb4.mono HB3.out.size)).mono HB1.out.size)
    clear hb4
    go_wp2
    go_ret
    exact ⟨rfl, HB4.out⟩
  | true =>
    have HTN : Hid (Calls Tryd.prog 10 #[.agg #[.string m.code, .slice ad d1 cd, .slice as2 s1 cs2]] W2 fun e w' => NewIs W2.heap.size e w' m.mach ∧ Below W2.heap.size W2 w') := tnew_yes HI2.out HLS.out hm
    have HMT : Hid (m.may = true) := hm
    have HML : Hid (0 < m.mach.ts.length ∧ m.mach.ts.length ≤ 4) := mach_len m hm
    have HMC : Hid (m.mach.code.size ≤ 65536) := mach_code m hm
    have HMO : Hid (MOk m.mach) := mach_ok m
    have HMF : Hid (T.Fit m.mach) := mach_fit m hm HFD.out
    have HE0 : Hid (m.mach.es = []) := rfl
    obtain ⟨M0, hM0⟩ : ∃ M0, m.mach = M0 := ⟨_, rfl⟩
    have HMM : Hid (m.mach = M0) := hM0
    rw [hM0] at HTN HML HMC HMO HMF HE0
    clear hm hM0
    go_wp2_with fail
    refine HTN.out.mono ?_
    rintro e y2 ⟨⟨b, p, bm, g, cap, us, rfl, htv⟩, hb2⟩
    have u0 := cell_up hb2 u0
    have u1 := cell_up hb2 u1
    have u2 := cell_up hb2 u2
    have q1 := cell_up hb2 q1
    have HB2 : Hid (Below W1.heap.size W1 y2) := HWW.out.trans (hb2.mono HWW.out.size)
    have HOD2 : Hid (y2.ownsRow W1.heap.size 2 1 (.slice ad d1 cd) d1 (intR m.data)) := own_below HOD.out hb2
    have HTV2 : Hid (TV W2.heap.size y2 b M0 0 p bm g cap (.slice none 0 0) us) := htv
    have HXN : Hid (Calls Tryd.prog 11 #[.agg #[.string m.code, .slice a1 l1 c1, .slice a2 l2 c2]] y2 fun e w' => XNewAns y2.heap.size e w' m ∧ Below y2.heap.size y2 w') := xnew_any (HI.out.below HB2.out) HLS.out
    have hW2y : W2.heap.size ≤ y2.heap.size := hb2.size
    clear hb2 hW1 hW2 q0 q2 htv
    go_wp2_with fail
    refine HXN.out.mono ?_
    rintro e y3 ⟨hans, hb3⟩
    rcases hans with ⟨-, hxi⟩ | ⟨e1, -⟩
    rotate_left
    · rw [HMT.out] at e1; cases e1
    obtain ⟨bx, t, D, S0, vd, vs, gx, cx, usx, rfl, hxv⟩ := hxi
    rw [HMM.out] at hxv
    have HB3 : Hid (Below W1.heap.size W1 y3) := HB2.out.trans (hb3.mono HB2.out.size)
    have HDX3 : Hid (DXR W2.heap.size w.heap.size w y3 b M0 0 bm g cap bx M0 vd vs gx cx) := by
      refine ⟨p, _, us, t, D, S0, _, usx, HTV2.out.below hb3, hxv.lower hW2y, fun k hk => Classical.byContradiction fun e => ?_, HB1.out.trans (HB3.out.mono HB1.out.size), HT1.out.below HB3.out⟩
      have e1 := (HTV2.out.lt k hk).2
      have e2 := (hxv.lt k e).1
      omega
    have HOD3 : Hid (y3.ownsRow W1.heap.size 2 1 (.slice ad d1 cd) d1 (intR m.data)) := own_below HOD2.out hb3
    have q1 := cell_up hb3 q1
    have HLV : Hid (Calls Tryd.prog 12 #[] y3 fun e w' => e = .returned (.bool true) ∧ Below y3.heap.size y3 w') := live_any y3 (HT1.out.below HB3.out)
    clear hb3 u0 u1 u2 hxv
    go_wp2_with fail
    refine HLV.out.mono ?_
    rintro e y4 ⟨rfl, hb4⟩
    have hWw : w.heap.size ≤ W2.heap.size := Nat.le_trans HB1.out.size HWW.out.size
    have HDX4 : Hid (DXR W2.heap.size w.heap.size w y4 b M0 0 bm g cap bx M0 vd vs gx cx) := HDX3.out.below hWw hb4
    have HOD4 : Hid (y4.ownsRow W1.heap.size 2 1 (.slice ad d1 cd) d1 (intR m.data)) := own_below HOD3.out hb4
    have q1 := cell_up hb4 q1
    have hdb : ∀ q, (Value.slice ad d1 cd).ownBlock = some q → q < W2.heap.size := fun q hq => own_lt HOD.out hq
    have HDB : Hid _ := hdb
    have hnbo : (Value.slice ad d1 cd).ownBlock ≠ some bo := fun e => by
      have h9 := own_lt HODy.out e
      omega
    clear hb4 hdb
    go_wp2_with fail
    have HDN : Hid (m.data.length = d1) := HDL.out
    go_loopg [12] d1 (fun r iv wq => ∃ (k : Nat) (zs : List Int), iv = .int .i64 k ∧ k ≤ d1 ∧ d1 - k ≤ r ∧ Hid (zs.length = d1) ∧ Hid (wq.ownsRow W1.heap.size 2 1 (.slice ad d1 cd) d1 (intR zs)) ∧ Hid (wq.cell? ⟨bo, 1, none⟩ = some (.slice ad d1 cd)) ∧ Hid (DXR W2.heap.size w.heap.size w wq b M0 0 bm g cap bx M0 vd vs gx cx))
    case atStart => exact ⟨0, m.data, rfl, Nat.zero_le _, by omega, HDN, HOD4, q1, HDX4⟩
    case round =>
      obtain ⟨k, zs, rfl, hk, hr, HZL, HZO, HQ1, HDX⟩ := hrel
      have q1r := HQ1.out
      by_cases hlt : k < d1
      · obtain ⟨dq, dc, hdv, hc1, hc2, x0, f0⟩ := row_word HZO.out HZL.out.symm hlt
        cases hdv
        have HZO2 : Hid _ := (HZO.out.stored k (.int .i64 (-7))).1
        rw [intR_set] at HZO2
        have hdq := HDB.out dq rfl
        have hdl : W1.heap.size ≤ dq := (HZO.out.lt dq rfl).1
        have hbq : dq ≠ bo := fun e => hnbo (by rw [← e]; rfl)
        have HQ2 : Hid ((wr.setCell ⟨dq, k, none⟩ (.int .i64 (-7))).cell? ⟨bo, 1, none⟩ = some (.slice (some ⟨dq, 0, none⟩) d1 cd)) := (World.cell?_setCell_far _ _ _ _ hbq).trans q1r
        have HDX2 : Hid (DXR W2.heap.size w.heap.size w (wr.setCell ⟨dq, k, none⟩ (.int .i64 (-7))) b M0 0 bm g cap bx M0 vd vs gx cx) := HDX.out.store hdq (Nat.le_trans HB1.out.size hdl) h2w _
        have HZL2 : Hid ((zs.set k (-7)).length = d1) := by show _ = _; rw [List.length_set]; exact HZL.out
        have i1 : (k : Int) < (d1 : Int) := by omega
        have i0 : (0 : Int) ≤ (k : Int) := by omega
        unfold maxLen at hc2
        clear hbq hdl hdq
        go_wp2
        go_roundg (d1 - (k + 1))
        · exact ⟨k + 1, _, rfl, by omega, Nat.le_refl _, HZL2, HZO2, HQ2, HDX2⟩
        · omega
      · obtain rfl : k = d1 := by omega
        have HFW : Hid (Calls Tryd.prog 13 #[.slice a l c, .int .i64 300] wr fun e w' => (∃ l', e = .returned (.slice a l' c) ∧ IntsV wr a l' c (ps0.take 300) ∧ l' ≤ 300) ∧ w' = wr) := by
          obtain ⟨_, _, _, _, _, _, _, _, _, _, _, hbw, _⟩ := HDX.out
          exact few_any (HP0.out.below hbw) 300 (by decide)
        clear HZO HQ1 HZL q1 HOD4
        go_wp2_with fail
        refine HFW.out.mono ?_
        rintro e y5 ⟨⟨l', rfl, hp', hl'⟩, rfl⟩
        obtain ⟨ps, hps⟩ : ∃ ps, ps0.take 300 = ps := ⟨_, rfl⟩
        rw [hps] at hp'
        have hro := hp'.room
        unfold maxLen at hro
        have HPL : Hid (ps.length = l') := hp'.count
        have HPF : Hid (∀ z ∈ ps, (Lit.int .i64 z).wf = true) := hp'.fits
        have HPC : Hid (l' = 0 ∨ ∃ pb po, a = some ⟨pb, po, none⟩ ∧ ∀ z : World, Below w.heap.size w z → ∀ i, i < l' → z.cell? ⟨pb, po + i, none⟩ = some (.int .i64 (ps.getD i 0))) := by
          rcases HP0.out.cells with h0 | ⟨pb, po, ha, hc⟩
          · rcases hp'.cells with h0' | ⟨pb, po, ha, hc⟩
            · exact .inl h0'
            · have h9 := hp'.count
              rw [← hps, List.length_take] at h9
              have h10 := HP0.out.count
              exact .inl (by omega)
          · refine .inr ⟨pb, po, ha, fun z hz i hi => ?_⟩
            have h9 := hp'.count
            rw [← hps, List.length_take] at h9
            have h10 := HP0.out.count
            rw [cell_up hz (hc i (by omega)), ← hps]
            simp [List.getD, List.getElem?_take, show i < 300 by omega]
        have HR0 : Hid (DXR W2.heap.size w.heap.size w y5 b (T.runs M0 (ps.take 0)) (11 * 0) bm g cap bx (T.runs M0 (ps.take 0)) vd vs gx cx) := HDX.out
        clear hp' hps HDX
        go_wp2_with fail
        go_loopg [13] (l' + 1) (fun r iv wq => ∃ (k : Nat), iv = .int .i64 k ∧ k ≤ l' + 1 ∧ l' + 1 - k ≤ r ∧ Hid (DXR W2.heap.size w.heap.size w wq b (T.runs M0 (ps.take k)) (11 * k) bm g cap bx (T.runs M0 (ps.take k)) vd vs gx cx))
        case atStart => exact ⟨0, rfl, Nat.zero_le _, by omega, HR0⟩
        case round =>
          obtain ⟨k, rfl, hk, hr, HST⟩ := hrel
          have hB2 : 2 ≤ W2.heap.size := Nat.le_trans h2w hWw
          by_cases hle : k ≤ l'
          · have hde : decide ((k : Int) ≤ (l' : Int)) = true := decide_eq_true (by omega)
            go_wp2_with fail
            go_cut [90] from 66 to 157 (fun bv wc => bv = .bool false ∧ Hid (DXR W2.heap.size w.heap.size w wc b (T.runs M0 (ps.take (k + 1))) (11 * (k + 1)) bm g cap bx (T.runs M0 (ps.take (k + 1))) vd vs gx cx))
            case first =>
              by_cases hlt : k < l'
              · rcases HPC.out with h0 | ⟨pb, po, hA, hcl⟩
                · omega
                subst hA
                have hkl : k < ps.length := by rw [HPL.out]; exact hlt
                obtain ⟨z, hz⟩ : ∃ z, ps.getD k 0 = z := ⟨_, rfl⟩
                have HZK : Hid (z = ps.getD k 0) := hz.symm
                have HZF : Hid ((Lit.int .i64 z).wf = true) := HPF.out z (by rw [← hz]; simp [List.getD, hkl])
                have HTK : Hid (T.runs M0 (ps.take (k + 1)) = T.act (T.runs M0 (ps.take k)) z) := by
                  show _ = _
                  rw [List.take_succ_eq_append_getElem hkl, T.runs_snoc, ← hz]
                  simp [List.getD, hkl]
                have HLN : Hid ((T.runs M0 (ps.take k)).ts.length = M0.ts.length) := T.runs_len (ps.take k) M0 HML.out.1
                have HCD : Hid ((T.runs M0 (ps.take k)).code = M0.code) := T.runs_code (ps.take k) M0 HML.out.1
                obtain ⟨en, hen, henl⟩ : ∃ en, (T.runs M0 (ps.take k)).es.length = en ∧ en ≤ 800000 := by
                  obtain ⟨xs, hxs, hxl⟩ := T.runs_es (ps.take k) M0 HML.out.1
                  refine ⟨_, rfl, ?_⟩
                  rw [hxs, HE0.out, List.nil_append]
                  rw [List.length_take] at hxl
                  omega
                have HES : Hid ((T.runs M0 (ps.take k)).es.length = en) := hen
                have i1 : (k : Int) < (l' : Int) := by omega
                have i0 : (0 : Int) ≤ (k : Int) := by omega
                have hdl : decide ((k : Int) < (l' : Int)) = true := decide_eq_true i1
                clear hz hen hkl
                have HSK : Hid (∀ zq : World, Below w.heap.size w zq → zq.cell? ⟨pb, po + k, none⟩ = some (.int .i64 z)) := fun zq hz => by rw [HZK.out]; exact hcl zq hz k hlt
                have hS0 : wr.drew.cell? ⟨pb, po + k, none⟩ = some (.int .i64 z) := by obtain ⟨_, _, _, _, _, _, _, _, _, _, _, hbw', _⟩ := HST.out; exact HSK.out _ (hbw'.drew)
                have HST : Hid (DXR W2.heap.size w.heap.size w wr.drew b (T.runs M0 (ps.take k)) (11 * k) bm g cap bx (T.runs M0 (ps.take k)) vd vs gx cx) := HST.out.below hWw (Below.refl _ _).drew
                clear hcl
                refine wp_region_held_drew (S := (fun w' : World => w'.cell? ⟨pb, po + k, none⟩ = some (.int .i64 z))) (by kernel_rfl) hS0 (fun hHeld => ?_)
                obtain ⟨Yd, hYd⟩ : ∃ Yd, wr.drew = Yd := ⟨_, rfl⟩
                rw [hYd] at hHeld HST hS0
                rw [hYd]
                clear hYd
                refine tk (i := 0) (v := ?_) (tA rfl) (by kernel_rfl) (fun _ _ _ h => h) (Or.inl ⟨by rfl, ?_⟩) (by assumption) ?_
                rotate_left
                · (intro w hSw; (try dsimp only at hSw); go_simp <;> with_reducible rfl)
                simp only [Act.put, List.setIfInBounds_toArray, List.set_cons_zero, List.set_cons_succ]
                refine tk (i := 1) (v := ?_) (tA rfl) (by kernel_rfl) (fun _ _ _ h => h) (Or.inl ⟨by rfl, ?_⟩) (by assumption) ?_
                rotate_left
                · (intro w hSw; (try dsimp only at hSw); go_simp <;> with_reducible rfl)
                simp only [Act.put, List.setIfInBounds_toArray, List.set_cons_zero, List.set_cons_succ]
                refine tk (i := 2) (v := ?_) (tA rfl) (by kernel_rfl) (fun _ _ _ h => h) (Or.inl ⟨by rfl, ?_⟩) (by assumption) ?_
                rotate_left
                · (intro w hSw; (try dsimp only at hSw); go_simp <;> with_reducible rfl)
                simp only [Act.put, List.setIfInBounds_toArray, List.set_cons_zero, List.set_cons_succ]
                refine tk (i := 3) (v := ?_) (tA rfl) (by kernel_rfl) (fun _ _ _ h => h) (Or.inl ⟨by rfl, ?_⟩) (by assumption) ?_
                rotate_left
                · (intro w hSw; (try dsimp only at hSw); go_simp <;> with_reducible rfl)
                simp only [Act.put, List.setIfInBounds_toArray, List.set_cons_zero, List.set_cons_succ]
                refine tk (i := 4) (v := ?_) (tA rfl) (by kernel_rfl) (fun _ _ _ h => h) (Or.inl ⟨by rfl, ?_⟩) (by assumption) ?_
                rotate_left
                · (intro w hSw; (try dsimp only at hSw); go_simp <;> with_reducible rfl)
                simp only [Act.put, List.setIfInBounds_toArray, List.set_cons_zero, List.set_cons_succ]
                refine tk (i := 5) (v := ?_) (tA rfl) (by kernel_rfl) (fun _ _ _ h => h) (Or.inl ⟨by rfl, ?_⟩) (by assumption) ?_
                rotate_left
                · (intro w hSw; (try dsimp only at hSw); go_simp <;> with_reducible rfl)
                simp only [Act.put, List.setIfInBounds_toArray, List.set_cons_zero, List.set_cons_succ]
                refine tk (i := 6) (v := ?_) (tA rfl) (by kernel_rfl) (fun _ _ _ h => h) (Or.inl ⟨by rfl, ?_⟩) (by assumption) ?_
                rotate_left
                · (intro w hSw; (try dsimp only at hSw); go_simp <;> with_reducible rfl)
                simp only [Act.put, List.setIfInBounds_toArray, List.set_cons_zero, List.set_cons_succ]
                refine tk (i := 7) (v := ?_) (tA rfl) (by kernel_rfl) (fun _ _ _ h => h) (Or.inl ⟨by rfl, ?_⟩) (by assumption) ?_
                rotate_left
                · (intro w hSw; (try dsimp only at hSw); go_simp <;> with_reducible rfl)
                simp only [Act.put, List.setIfInBounds_toArray, List.set_cons_zero, List.set_cons_succ]
                refine tk (i := 8) (v := ?_) (tA rfl) (by kernel_rfl) (fun _ _ _ h => h) (Or.inl ⟨by rfl, ?_⟩) (by assumption) ?_
                rotate_left
                · (intro w hSw; (try dsimp only at hSw); go_simp <;> with_reducible rfl)
                simp only [Act.put, List.setIfInBounds_toArray, List.set_cons_zero, List.set_cons_succ]
                refine tk (i := 9) (v := ?_) (tA rfl) (by kernel_rfl) (fun _ _ _ h => h) (Or.inl ⟨by rfl, ?_⟩) (by assumption) ?_
                rotate_left
                · (intro w hSw; (try dsimp only at hSw); go_simp <;> with_reducible rfl)
                simp only [Act.put, List.setIfInBounds_toArray, List.set_cons_zero, List.set_cons_succ]
                refine tk (i := 11) (v := ?_) (tA rfl) (by kernel_rfl) (fun _ _ _ h => h) (Or.inl ⟨by rfl, ?_⟩) (by assumption) ?_
                rotate_left
                · (intro w hSw; (try dsimp only at hSw); go_simp <;> with_reducible rfl)
                simp only [Act.put, List.setIfInBounds_toArray, List.set_cons_zero, List.set_cons_succ]
                refine tk (i := 12) (v := ?_) (tA rfl) (by kernel_rfl) (fun _ _ _ h => h) (Or.inl ⟨by rfl, ?_⟩) (by assumption) ?_
                rotate_left
                · (intro w hSw; (try dsimp only at hSw); go_simp <;> with_reducible rfl)
                simp only [Act.put, List.setIfInBounds_toArray, List.set_cons_zero, List.set_cons_succ]
                refine tk (i := 13) (v := ?_) (tA rfl) (by kernel_rfl) (fun _ _ _ h => h) (Or.inl ⟨by rfl, ?_⟩) (by assumption) ?_
                rotate_left
                · (intro w hSw; (try dsimp only at hSw); go_simp <;> with_reducible rfl)
                simp only [Act.put, List.setIfInBounds_toArray, List.set_cons_zero, List.set_cons_succ]
                refine tk (i := 14) (v := ?_) (tA rfl) (by kernel_rfl) (fun _ _ _ h => h) (Or.inl ⟨by rfl, ?_⟩) (by assumption) ?_
                rotate_left
                · (intro w hSw; (try dsimp only at hSw); go_simp <;> with_reducible rfl)
                simp only [Act.put, List.setIfInBounds_toArray, List.set_cons_zero, List.set_cons_succ]
                refine tk (i := 15) (v := ?_) (tA rfl) (by kernel_rfl) (fun _ _ _ h => h) (Or.inl ⟨by rfl, ?_⟩) (by assumption) ?_
                rotate_left
                · (intro w hSw; (try dsimp only at hSw); go_simp <;> with_reducible rfl)
                simp only [Act.put, List.setIfInBounds_toArray, List.set_cons_zero, List.set_cons_succ]
                refine wpAnyH_ready (rs := [10]) (by kernel_rfl) (by simp) ?_
                refine AllReadyH.cons (tA rfl) (fun K hK => ?_) AllReadyH.nil
                go_simp
                obtain ⟨p1, ev1, us1, t1, D1, S1, evx1, usx1, htv, hxv, hdis, hbw, htb⟩ := HST.out
                refine (do_any htv (MOk.runs _ HMO.out HML.out.1) (by rw [HES.out]; omega) (by unfold maxLen; omega) htb hB2 (by rw [HCD.out]; exact HMC.out) (by rw [HLN.out]; exact HML.out.2) z HZF.out).mono ?_
                rintro e yq ⟨rfl, hg⟩
                have HST : Hid (DXR W2.heap.size w.heap.size w yq b (T.act (T.runs M0 (ps.take k)) z) (11 * k + 11) bm g cap bx (T.runs M0 (ps.take k)) vd vs gx cx) := DXR.left htv hxv hdis hbw htb hWw hB2 hg
                have hSq : yq.cell? ⟨pb, po + k, none⟩ = some (.int .i64 z) := by obtain ⟨_, _, _, _, _, _, _, _, _, _, _, hbw', _⟩ := HST.out; exact HSK.out yq hbw'
                clear hg htv hxv hdis hbw htb
                try go_wp2_with fail
                refine hK.out _ _ hSq (fun hHeld => ?_)
                clear hK K
                try simp only [Act.put, List.setIfInBounds_toArray, List.set_cons_zero, List.set_cons_succ]
                refine wpAnyH_ready (rs := [16]) (by kernel_rfl) (by simp) ?_
                refine AllReadyH.cons (tA rfl) (fun K hK => ?_) AllReadyH.nil
                go_simp
                obtain ⟨p1, ev1, us1, t1, D1, S1, evx1, usx1, htv, hxv, hdis, hbw, htb⟩ := HST.out
                refine (xdo_any hxv (MOk.runs _ HMO.out HML.out.1) (T.Fit.runs _ HMF.out HMO.out HML.out.1) (by rw [HES.out]; omega) (by rw [HCD.out]; exact HMC.out) z HZF.out).mono ?_
                rintro e yq ⟨rfl, hg⟩
                have HST : Hid (DXR W2.heap.size w.heap.size w yq b (T.act (T.runs M0 (ps.take k)) z) (11 * k + 11) bm g cap bx (T.act (T.runs M0 (ps.take k)) z) vd vs gx cx) := DXR.right htv hxv hdis hbw htb hWw hB2 hg
                have hSq : yq.cell? ⟨pb, po + k, none⟩ = some (.int .i64 z) := by obtain ⟨_, _, _, _, _, _, _, _, _, _, _, hbw', _⟩ := HST.out; exact HSK.out yq hbw'
                clear hg htv hxv hdis hbw htb
                try go_wp2_with fail
                refine hK.out _ _ hSq (fun hHeld => ?_)
                clear hK K
                try simp only [Act.put, List.setIfInBounds_toArray, List.set_cons_zero, List.set_cons_succ]
                refine tk (i := 17) (v := ?_) (tA rfl) (by kernel_rfl) (fun _ _ _ h => h) (Or.inl ⟨by rfl, ?_⟩) (by assumption) ?_
                rotate_left
                · (intro w hSw; (try dsimp only at hSw); go_simp <;> with_reducible rfl)
                simp only [Act.put, List.setIfInBounds_toArray, List.set_cons_zero, List.set_cons_succ]
                refine tk (i := 18) (v := ?_) (tA rfl) (by kernel_rfl) (fun _ _ _ h => h) (Or.inl ⟨by rfl, ?_⟩) (by assumption) ?_
                rotate_left
                · (intro w hSw; (try dsimp only at hSw); go_simp <;> with_reducible rfl)
                simp only [Act.put, List.setIfInBounds_toArray, List.set_cons_zero, List.set_cons_succ]
                refine wpAnyH_done (by kernel_rfl) ?_ _
                clear hHeld hSq
                have HSN : Hid (DXR W2.heap.size w.heap.size w yq b (T.runs M0 (ps.take (k + 1))) (11 * (k + 1)) bm g cap bx (T.runs M0 (ps.take (k + 1))) vd vs gx cx) := by
                  show DXR _ _ _ _ _ _ _ _ _ _ _ _ _ _ _ _
                  rw [HTK.out]
                  exact HST.out
                clear HST
                go_wp2_with fail
                go_meet
                case rel => exact ⟨rfl, HSN⟩
              · obtain rfl : k = l' := by omega
                have hps : ps.take (k + 1) = ps.take k := by rw [List.take_of_length_le (by rw [HPL.out]; omega), List.take_of_length_le (by rw [HPL.out]; omega)]
                have HSN : Hid (DXR W2.heap.size w.heap.size w wr b (T.runs M0 (ps.take (k + 1))) (11 * (k + 1)) bm g cap bx (T.runs M0 (ps.take (k + 1))) vd vs gx cx) := by
                  show DXR _ _ _ _ _ _ _ _ _ _ _ _ _ _ _ _
                  rw [hps]
                  exact HST.out.mono (by omega)
                have hdl : decide ((k : Int) < (k : Int)) = false := decide_eq_false (by omega)
                clear hps
                refine wp_region_held_drew (S := (fun _ : World => True)) (by kernel_rfl) trivial (fun hHeld => ?_)
                obtain ⟨yq, hYd⟩ : ∃ yq, wr.drew = yq := ⟨_, rfl⟩
                have HSN : Hid (DXR W2.heap.size w.heap.size w yq b (T.runs M0 (ps.take (k + 1))) (11 * (k + 1)) bm g cap bx (T.runs M0 (ps.take (k + 1))) vd vs gx cx) := by rw [← hYd]; exact HSN.out.below hWw (Below.refl _ _).drew
                rw [hYd]
                clear hYd
                refine tk (i := 0) (v := ?_) (tA rfl) (by kernel_rfl) (fun _ _ _ h => h) (Or.inl ⟨by rfl, ?_⟩) (by assumption) ?_
                rotate_left
                · (intro w hSw; (try dsimp only at hSw); go_simp <;> with_reducible rfl)
                simp only [Act.put, List.setIfInBounds_toArray, List.set_cons_zero, List.set_cons_succ]
                refine tk (i := 1) (v := ?_) (tA rfl) (by kernel_rfl) (fun _ _ _ h => h) (Or.inl ⟨by rfl, ?_⟩) (by assumption) ?_
                rotate_left
                · (intro w hSw; (try dsimp only at hSw); go_simp <;> with_reducible rfl)
                simp only [Act.put, List.setIfInBounds_toArray, List.set_cons_zero, List.set_cons_succ]
                refine tk (i := 2) (v := ?_) (tA rfl) (by kernel_rfl) (fun _ _ _ h => h) (Or.inl ⟨by rfl, ?_⟩) (by assumption) ?_
                rotate_left
                · (intro w hSw; (try dsimp only at hSw); go_simp <;> with_reducible rfl)
                simp only [Act.put, List.setIfInBounds_toArray, List.set_cons_zero, List.set_cons_succ]
                refine tk (i := 3) (v := ?_) (tA rfl) (by kernel_rfl) (fun _ _ _ h => h) (Or.inl ⟨by rfl, ?_⟩) (by assumption) ?_
                rotate_left
                · (intro w hSw; (try dsimp only at hSw); go_simp <;> with_reducible rfl)
                simp only [Act.put, List.setIfInBounds_toArray, List.set_cons_zero, List.set_cons_succ]
                refine tk (i := 4) (v := ?_) (tA rfl) (by kernel_rfl) (fun _ _ _ h => h) (Or.inl ⟨by rfl, ?_⟩) (by assumption) ?_
                rotate_left
                · (intro w hSw; (try dsimp only at hSw); go_simp <;> with_reducible rfl)
                simp only [Act.put, List.setIfInBounds_toArray, List.set_cons_zero, List.set_cons_succ]
                refine tk (i := 5) (v := undef) (tA rfl) (by kernel_rfl) (fun _ _ _ h => h) (Or.inr ⟨by rfl, rfl⟩) (by assumption) ?_
                simp only [Act.put, List.setIfInBounds_toArray, List.set_cons_zero, List.set_cons_succ]
                refine tk (i := 6) (v := undef) (tA rfl) (by kernel_rfl) (fun _ _ _ h => h) (Or.inr ⟨by rfl, rfl⟩) (by assumption) ?_
                simp only [Act.put, List.setIfInBounds_toArray, List.set_cons_zero, List.set_cons_succ]
                refine tk (i := 7) (v := undef) (tA rfl) (by kernel_rfl) (fun _ _ _ h => h) (Or.inr ⟨by rfl, rfl⟩) (by assumption) ?_
                simp only [Act.put, List.setIfInBounds_toArray, List.set_cons_zero, List.set_cons_succ]
                refine tk (i := 8) (v := undef) (tA rfl) (by kernel_rfl) (fun _ _ _ h => h) (Or.inr ⟨by rfl, rfl⟩) (by assumption) ?_
                simp only [Act.put, List.setIfInBounds_toArray, List.set_cons_zero, List.set_cons_succ]
                refine tk (i := 9) (v := undef) (tA rfl) (by kernel_rfl) (fun _ _ _ h => h) (Or.inr ⟨by rfl, rfl⟩) (by assumption) ?_
                simp only [Act.put, List.setIfInBounds_toArray, List.set_cons_zero, List.set_cons_succ]
                refine tk (i := 10) (v := undef) (tA rfl) (by kernel_rfl) (fun _ _ _ h => h) (Or.inr ⟨by rfl, rfl⟩) (by assumption) ?_
                simp only [Act.put, List.setIfInBounds_toArray, List.set_cons_zero, List.set_cons_succ]
                refine tk (i := 11) (v := undef) (tA rfl) (by kernel_rfl) (fun _ _ _ h => h) (Or.inr ⟨by rfl, rfl⟩) (by assumption) ?_
                simp only [Act.put, List.setIfInBounds_toArray, List.set_cons_zero, List.set_cons_succ]
                refine tk (i := 12) (v := undef) (tA rfl) (by kernel_rfl) (fun _ _ _ h => h) (Or.inr ⟨by rfl, rfl⟩) (by assumption) ?_
                simp only [Act.put, List.setIfInBounds_toArray, List.set_cons_zero, List.set_cons_succ]
                refine tk (i := 13) (v := undef) (tA rfl) (by kernel_rfl) (fun _ _ _ h => h) (Or.inr ⟨by rfl, rfl⟩) (by assumption) ?_
                simp only [Act.put, List.setIfInBounds_toArray, List.set_cons_zero, List.set_cons_succ]
                refine tk (i := 14) (v := undef) (tA rfl) (by kernel_rfl) (fun _ _ _ h => h) (Or.inr ⟨by rfl, rfl⟩) (by assumption) ?_
                simp only [Act.put, List.setIfInBounds_toArray, List.set_cons_zero, List.set_cons_succ]
                refine tk (i := 15) (v := undef) (tA rfl) (by kernel_rfl) (fun _ _ _ h => h) (Or.inr ⟨by rfl, rfl⟩) (by assumption) ?_
                simp only [Act.put, List.setIfInBounds_toArray, List.set_cons_zero, List.set_cons_succ]
                refine tk (i := 16) (v := undef) (tA rfl) (by kernel_rfl) (fun _ _ _ h => h) (Or.inr ⟨by rfl, rfl⟩) (by assumption) ?_
                simp only [Act.put, List.setIfInBounds_toArray, List.set_cons_zero, List.set_cons_succ]
                refine tk (i := 17) (v := undef) (tA rfl) (by kernel_rfl) (fun _ _ _ h => h) (Or.inr ⟨by rfl, rfl⟩) (by assumption) ?_
                simp only [Act.put, List.setIfInBounds_toArray, List.set_cons_zero, List.set_cons_succ]
                refine tk (i := 18) (v := ?_) (tA rfl) (by kernel_rfl) (fun _ _ _ h => h) (Or.inl ⟨by rfl, ?_⟩) (by assumption) ?_
                rotate_left
                · (intro w hSw; (try dsimp only at hSw); go_simp <;> with_reducible rfl)
                simp only [Act.put, List.setIfInBounds_toArray, List.set_cons_zero, List.set_cons_succ]
                refine wpAnyH_done (by kernel_rfl) ?_ _
                clear hHeld HST
                go_wp2_with fail
                go_meet
                case rel => exact ⟨rfl, HSN⟩
            case rest =>
              obtain ⟨rfl, HSN⟩ := hcut
              obtain ⟨M1, hM1⟩ : ∃ M1, T.runs M0 (ps.take (k + 1)) = M1 := ⟨_, rfl⟩
              have HM1 : Hid (T.runs M0 (ps.take (k + 1)) = M1) := hM1
              have HO1 : Hid (MOk M1) := by show MOk _; rw [← hM1]; exact MOk.runs _ HMO.out HML.out.1
              rw [hM1] at HSN
              obtain ⟨n, hn⟩ : ∃ n, M1.ts.length = n := ⟨_, rfl⟩
              have HL1 : Hid (M1.ts.length = n) := hn
              have hn4 : n ≤ 4 ∧ 0 < n := by rw [← hn, ← hM1, T.runs_len _ _ HML.out.1]; have := HML.out; omega
              clear hM1 hn
              go_wp2_with fail
              go_loopg [14] (n + 2) (fun r tv wq => ∃ (j : Nat), tv = .int .i64 ((j : Int) - 1) ∧ j ≤ n + 2 ∧ n + 2 - j ≤ r ∧ Hid (Below wc.heap.size wc wq))
              case atStart => exact ⟨0, rfl, Nat.zero_le _, by omega, Below.refl _ _⟩
              case round =>
                obtain ⟨j, rfl, hj, hr3, HB3⟩ := hrel
                obtain ⟨p1, ev1, us1, t1, D1, S1, evx1, usx1, htv0, hxv0, hdis, hbw, htb⟩ := HSN.out
                have htv := htv0.below HB3.out
                have hxv := hxv0.below HB3.out
                have c3 := hxv.c3
                rw [HL1.out] at c3
                obtain ⟨z, hz⟩ : ∃ z, (j : Int) - 1 = z := ⟨_, rfl⟩
                have hro := hxv.room
                rw [HL1.out] at hro
                have hcx := hro.2.1
                have hncx := hro.1
                unfold maxLen at hcx
                clear hro
                by_cases hj1 : j ≤ n + 1
                · have hde : decide (z ≤ (n : Int)) = true := decide_eq_true (by omega)
                  have hzb : -1 ≤ z ∧ z ≤ 4 := by omega
                  by_cases hmid : 1 ≤ j ∧ j ≤ n
                  · obtain ⟨q, rfl⟩ : ∃ q, j = q + 1 := ⟨j - 1, by omega⟩
                    obtain rfl : z = (q : Int) := by omega
                    have hqn : q < n := by omega
                    have hqM : q < M1.ts.length := by rw [HL1.out]; exact hqn
                    have HTH : Hid (Calls Tryd.prog 16 #[.pointer (some ⟨b, 0, none⟩), .int .i64 q] wr fun e w' => ThIs wr.heap.size e w' (M1.th q) ∧ Below wr.heap.size wr w') := thread_any htv hqM (Nat.le_trans (HO1.out q hqM).2 (by decide))
                    obtain ⟨ux, hux⟩ := hxv.u hqM
                    have x11 := hxv.cell hqM hux 11 _ rfl
                    have hxw := hxv.ws q _ ux (T.th_at hqM) hux
                    have e0 : wr.cell? ⟨gx, q * 12, none⟩ = some (.int .i64 (M1.th q).c.r0) := hxv.cell hqM hux 0 _ rfl
                    have e1 : wr.cell? ⟨gx, q * 12 + 1, none⟩ = some (.int .i64 (M1.th q).c.r1) := hxv.cell hqM hux 1 _ rfl
                    have e2 : wr.cell? ⟨gx, q * 12 + 2, none⟩ = some (.int .i64 (M1.th q).c.r2) := hxv.cell hqM hux 2 _ rfl
                    have e3 : wr.cell? ⟨gx, q * 12 + 3, none⟩ = some (.int .i64 (M1.th q).c.r3) := hxv.cell hqM hux 3 _ rfl
                    have e4 : wr.cell? ⟨gx, q * 12 + 4, none⟩ = some (.int .i64 (M1.th q).c.r4) := hxv.cell hqM hux 4 _ rfl
                    have e5 : wr.cell? ⟨gx, q * 12 + 5, none⟩ = some (.int .i64 (M1.th q).c.r5) := hxv.cell hqM hux 5 _ rfl
                    have e6 : wr.cell? ⟨gx, q * 12 + 6, none⟩ = some (.int .i64 (M1.th q).c.r6) := hxv.cell hqM hux 6 _ rfl
                    have e7 : wr.cell? ⟨gx, q * 12 + 7, none⟩ = some (.int .i64 (M1.th q).c.r7) := hxv.cell hqM hux 7 _ rfl
                    have e8 : wr.cell? ⟨gx, q * 12 + 8, none⟩ = some (.int .i64 (M1.th q).c.pc) := hxv.cell hqM hux 8 _ rfl
                    have e9 : wr.cell? ⟨gx, q * 12 + 9, none⟩ = some (.int .i64 (M1.th q).c.st) := hxv.cell hqM hux 9 _ rfl
                    have e10 : wr.cell? ⟨gx, q * 12 + 10, none⟩ = some (.int .i64 (M1.th q).c.tr) := hxv.cell hqM hux 10 _ rfl
                    have HCC : Hid ((M1.th q).c = (M1.th q).c) := rfl
                    obtain ⟨th, hth⟩ : ∃ th, M1.th q = th := ⟨_, rfl⟩
                    rw [hth] at HTH hxw e0 e1 e2 e3 e4 e5 e6 e7 e8 e9 e10
                    obtain ⟨⟨cc, ws⟩, hcw⟩ : ∃ t', th = t' := ⟨_, rfl⟩
                    subst hcw
                    obtain ⟨nw, hnw⟩ : ∃ nw, ws.length = nw := ⟨_, rfl⟩
                    obtain ⟨xa, xc, hxe, hxW⟩ := wa_own hxw rfl
                    simp only at hxe x11 hxw
                    rw [hxe] at x11
                    rw [hnw] at x11 hxW
                    have HXW2 : Hid (WaV wr xa nw xc ws) := hxW
                    have HNW : Hid (ws.length = nw) := hnw
                    have j0 : decide ((q : Int) < 0) = false := decide_eq_false (by omega)
                    have j1 : ((q : Int) == (n : Int)) = false := by simp; omega
                    have i2 : (q : Int) < (n : Int) := by omega
                    have i3 : (0 : Int) ≤ (q : Int) := by omega
                    have hq5 : (q : Int) ≤ 4 := by omega
                    rw [hz]
                    clear htv hxv hth hux hxw hxW hxe hnw htv0 hxv0 hdis hbw htb HCC hqM hz hmid
                    go_wp2_with fail
                    refine HTH.out.mono ?_
                    rintro e y2 ⟨⟨v2, rfl, ho2⟩, hb2⟩
                    obtain ⟨Z3, hZ3⟩ : ∃ Z3, (y2.alloc (.cells #[.int .i64 cc.r0, .int .i64 cc.r1, .int .i64 cc.r2, .int .i64 cc.r3, .int .i64 cc.r4, .int .i64 cc.r5, .int .i64 cc.r6, .int .i64 cc.r7, .int .i64 cc.pc, .int .i64 cc.st, .int .i64 cc.tr] 44)) = Z3 := ⟨_, rfl⟩
                    have b23 : Below y2.heap.size y2 Z3 := by rw [← hZ3]; exact bl_one _ _
                    have HB2' : Hid (Below wr.heap.size wr Z3) := hb2.trans (b23.mono hb2.size)
                    have hrw9 : Z3.ownsRow wr.heap.size 52 2 v2 ws.length (ws.flatMap wC) := own_below ho2 b23
                    obtain ⟨ra, rc, hre, hrW⟩ := wa_own hrw9 rfl
                    subst hre
                    rw [HNW.out] at hrW hrw9
                    have HRW : Hid (Z3.ownsRow wr.heap.size 52 2 (.slice ra nw rc) nw (ws.flatMap wC)) := hrw9
                    have HRV : Hid (WaV Z3 ra nw rc ws) := hrW
                    have c3a := cell_up HB2'.out c3
                    have x11a := cell_up HB2'.out x11
                    have e0a := cell_up HB2'.out e0
                    have o0 : Z3.cell? ⟨y2.heap.size, 0, none⟩ = some (.int .i64 cc.r0) := by rw [← hZ3]; exact cell_last _ _ _ _ _ rfl rfl
                    have e1a := cell_up HB2'.out e1
                    have o1 : Z3.cell? ⟨y2.heap.size, 1, none⟩ = some (.int .i64 cc.r1) := by rw [← hZ3]; exact cell_last _ _ _ _ _ rfl rfl
                    have e2a := cell_up HB2'.out e2
                    have o2 : Z3.cell? ⟨y2.heap.size, 2, none⟩ = some (.int .i64 cc.r2) := by rw [← hZ3]; exact cell_last _ _ _ _ _ rfl rfl
                    have e3a := cell_up HB2'.out e3
                    have o3 : Z3.cell? ⟨y2.heap.size, 3, none⟩ = some (.int .i64 cc.r3) := by rw [← hZ3]; exact cell_last _ _ _ _ _ rfl rfl
                    have e4a := cell_up HB2'.out e4
                    have o4 : Z3.cell? ⟨y2.heap.size, 4, none⟩ = some (.int .i64 cc.r4) := by rw [← hZ3]; exact cell_last _ _ _ _ _ rfl rfl
                    have e5a := cell_up HB2'.out e5
                    have o5 : Z3.cell? ⟨y2.heap.size, 5, none⟩ = some (.int .i64 cc.r5) := by rw [← hZ3]; exact cell_last _ _ _ _ _ rfl rfl
                    have e6a := cell_up HB2'.out e6
                    have o6 : Z3.cell? ⟨y2.heap.size, 6, none⟩ = some (.int .i64 cc.r6) := by rw [← hZ3]; exact cell_last _ _ _ _ _ rfl rfl
                    have e7a := cell_up HB2'.out e7
                    have o7 : Z3.cell? ⟨y2.heap.size, 7, none⟩ = some (.int .i64 cc.r7) := by rw [← hZ3]; exact cell_last _ _ _ _ _ rfl rfl
                    have e8a := cell_up HB2'.out e8
                    have o8 : Z3.cell? ⟨y2.heap.size, 8, none⟩ = some (.int .i64 cc.pc) := by rw [← hZ3]; exact cell_last _ _ _ _ _ rfl rfl
                    have e9a := cell_up HB2'.out e9
                    have o9 : Z3.cell? ⟨y2.heap.size, 9, none⟩ = some (.int .i64 cc.st) := by rw [← hZ3]; exact cell_last _ _ _ _ _ rfl rfl
                    have e10a := cell_up HB2'.out e10
                    have o10 : Z3.cell? ⟨y2.heap.size, 10, none⟩ = some (.int .i64 cc.tr) := by rw [← hZ3]; exact cell_last _ _ _ _ _ rfl rfl
                    have HSK : Hid (∀ zq : World, Below Z3.heap.size Z3 zq → (fun w' : World => w'.cell? ⟨bx, 3, none⟩ = some (.slice (some ⟨gx, 0, none⟩) n cx) ∧ w'.cell? ⟨gx, q * 12 + 11, none⟩ = some (.slice xa nw xc) ∧ w'.cell? ⟨y2.heap.size, 0, none⟩ = some (.int .i64 cc.r0) ∧ w'.cell? ⟨y2.heap.size, 1, none⟩ = some (.int .i64 cc.r1) ∧ w'.cell? ⟨y2.heap.size, 2, none⟩ = some (.int .i64 cc.r2) ∧ w'.cell? ⟨y2.heap.size, 3, none⟩ = some (.int .i64 cc.r3) ∧ w'.cell? ⟨y2.heap.size, 4, none⟩ = some (.int .i64 cc.r4) ∧ w'.cell? ⟨y2.heap.size, 5, none⟩ = some (.int .i64 cc.r5) ∧ w'.cell? ⟨y2.heap.size, 6, none⟩ = some (.int .i64 cc.r6) ∧ w'.cell? ⟨y2.heap.size, 7, none⟩ = some (.int .i64 cc.r7) ∧ w'.cell? ⟨y2.heap.size, 8, none⟩ = some (.int .i64 cc.pc) ∧ w'.cell? ⟨y2.heap.size, 9, none⟩ = some (.int .i64 cc.st) ∧ w'.cell? ⟨y2.heap.size, 10, none⟩ = some (.int .i64 cc.tr) ∧ w'.cell? ⟨gx, q * 12, none⟩ = some (.int .i64 cc.r0) ∧ w'.cell? ⟨gx, q * 12 + 1, none⟩ = some (.int .i64 cc.r1) ∧ w'.cell? ⟨gx, q * 12 + 2, none⟩ = some (.int .i64 cc.r2) ∧ w'.cell? ⟨gx, q * 12 + 3, none⟩ = some (.int .i64 cc.r3) ∧ w'.cell? ⟨gx, q * 12 + 4, none⟩ = some (.int .i64 cc.r4) ∧ w'.cell? ⟨gx, q * 12 + 5, none⟩ = some (.int .i64 cc.r5) ∧ w'.cell? ⟨gx, q * 12 + 6, none⟩ = some (.int .i64 cc.r6) ∧ w'.cell? ⟨gx, q * 12 + 7, none⟩ = some (.int .i64 cc.r7) ∧ w'.cell? ⟨gx, q * 12 + 8, none⟩ = some (.int .i64 cc.pc) ∧ w'.cell? ⟨gx, q * 12 + 9, none⟩ = some (.int .i64 cc.st) ∧ w'.cell? ⟨gx, q * 12 + 10, none⟩ = some (.int .i64 cc.tr)) zq) := fun zq hz => ⟨cell_up hz c3a, cell_up hz x11a, cell_up hz o0, cell_up hz o1, cell_up hz o2, cell_up hz o3, cell_up hz o4, cell_up hz o5, cell_up hz o6, cell_up hz o7, cell_up hz o8, cell_up hz o9, cell_up hz o10, cell_up hz e0a, cell_up hz e1a, cell_up hz e2a, cell_up hz e3a, cell_up hz e4a, cell_up hz e5a, cell_up hz e6a, cell_up hz e7a, cell_up hz e8a, cell_up hz e9a, cell_up hz e10a⟩
                    have HSW : Hid (Calls Tryd.prog 17 #[.slice ra nw rc, .slice xa nw xc] Z3.drew fun e w' => e = .returned (.bool (decide (ws = ws))) ∧ Below Z3.drew.heap.size Z3.drew w') := sameW_any (HRV.out.below (Below.refl _ _).drew) ((HXW2.out.below HB2'.out).below (Below.refl _ _).drew)
                    rw [decide_eq_true rfl] at HSW
                    rw [HNW.out]
                    clear hb2 ho2 hrW hrw9 b23 c3 x11 e0 e1 e2 e3 e4 e5 e6 e7 e8 e9 e10 x11a e0a e1a e2a e3a e4a e5a e6a e7a e8a e9a e10a o0 o1 o2 o3 o4 o5 o6 o7 o8 o9 o10
                    go_wp2_with fail
                    have h8 := fun W : World => eq8 cc W
                    clear hZ3 c3a
                    refine wp_region_held_drew (S := (fun w' : World => w'.cell? ⟨bx, 3, none⟩ = some (.slice (some ⟨gx, 0, none⟩) n cx) ∧ w'.cell? ⟨gx, q * 12 + 11, none⟩ = some (.slice xa nw xc) ∧ w'.cell? ⟨y2.heap.size, 0, none⟩ = some (.int .i64 cc.r0) ∧ w'.cell? ⟨y2.heap.size, 1, none⟩ = some (.int .i64 cc.r1) ∧ w'.cell? ⟨y2.heap.size, 2, none⟩ = some (.int .i64 cc.r2) ∧ w'.cell? ⟨y2.heap.size, 3, none⟩ = some (.int .i64 cc.r3) ∧ w'.cell? ⟨y2.heap.size, 4, none⟩ = some (.int .i64 cc.r4) ∧ w'.cell? ⟨y2.heap.size, 5, none⟩ = some (.int .i64 cc.r5) ∧ w'.cell? ⟨y2.heap.size, 6, none⟩ = some (.int .i64 cc.r6) ∧ w'.cell? ⟨y2.heap.size, 7, none⟩ = some (.int .i64 cc.r7) ∧ w'.cell? ⟨y2.heap.size, 8, none⟩ = some (.int .i64 cc.pc) ∧ w'.cell? ⟨y2.heap.size, 9, none⟩ = some (.int .i64 cc.st) ∧ w'.cell? ⟨y2.heap.size, 10, none⟩ = some (.int .i64 cc.tr) ∧ w'.cell? ⟨gx, q * 12, none⟩ = some (.int .i64 cc.r0) ∧ w'.cell? ⟨gx, q * 12 + 1, none⟩ = some (.int .i64 cc.r1) ∧ w'.cell? ⟨gx, q * 12 + 2, none⟩ = some (.int .i64 cc.r2) ∧ w'.cell? ⟨gx, q * 12 + 3, none⟩ = some (.int .i64 cc.r3) ∧ w'.cell? ⟨gx, q * 12 + 4, none⟩ = some (.int .i64 cc.r4) ∧ w'.cell? ⟨gx, q * 12 + 5, none⟩ = some (.int .i64 cc.r5) ∧ w'.cell? ⟨gx, q * 12 + 6, none⟩ = some (.int .i64 cc.r6) ∧ w'.cell? ⟨gx, q * 12 + 7, none⟩ = some (.int .i64 cc.r7) ∧ w'.cell? ⟨gx, q * 12 + 8, none⟩ = some (.int .i64 cc.pc) ∧ w'.cell? ⟨gx, q * 12 + 9, none⟩ = some (.int .i64 cc.st) ∧ w'.cell? ⟨gx, q * 12 + 10, none⟩ = some (.int .i64 cc.tr))) (by kernel_rfl) (HSK.out _ (Below.refl _ _).drew) (fun hHeld => ?_)
                    refine tk (i := 0) (v := ?_) (tA rfl) (by kernel_rfl) (fun _ _ _ h => h) (Or.inl ⟨by rfl, ?_⟩) (by assumption) ?_
                    rotate_left
                    · (intro w hSw; (try dsimp only at hSw); go_simp <;> with_reducible rfl)
                    simp only [Act.put, List.setIfInBounds_toArray, List.set_cons_zero, List.set_cons_succ]
                    refine tk (i := 1) (v := ?_) (tA rfl) (by kernel_rfl) (fun _ _ _ h => h) (Or.inl ⟨by rfl, ?_⟩) (by assumption) ?_
                    rotate_left
                    · (intro w hSw; (try dsimp only at hSw); go_simp <;> with_reducible rfl)
                    simp only [Act.put, List.setIfInBounds_toArray, List.set_cons_zero, List.set_cons_succ]
                    refine tk (i := 2) (v := ?_) (tA rfl) (by kernel_rfl) (fun _ _ _ h => h) (Or.inl ⟨by rfl, ?_⟩) (by assumption) ?_
                    rotate_left
                    · (intro w hSw; (try dsimp only at hSw); go_simp <;> with_reducible rfl)
                    simp only [Act.put, List.setIfInBounds_toArray, List.set_cons_zero, List.set_cons_succ]
                    refine tk (i := 3) (v := ?_) (tA rfl) (by kernel_rfl) (fun _ _ _ h => h) (Or.inl ⟨by rfl, ?_⟩) (by assumption) ?_
                    rotate_left
                    · (intro w hSw; (try dsimp only at hSw); go_simp <;> with_reducible rfl)
                    simp only [Act.put, List.setIfInBounds_toArray, List.set_cons_zero, List.set_cons_succ]
                    refine tk (i := 4) (v := ?_) (tA rfl) (by kernel_rfl) (fun _ _ _ h => h) (Or.inl ⟨by rfl, ?_⟩) (by assumption) ?_
                    rotate_left
                    · (intro w hSw; (try dsimp only at hSw); go_simp <;> with_reducible rfl)
                    simp only [Act.put, List.setIfInBounds_toArray, List.set_cons_zero, List.set_cons_succ]
                    refine tk (i := 5) (v := ?_) (tA rfl) (by kernel_rfl) (fun _ _ _ h => h) (Or.inl ⟨by rfl, ?_⟩) (by assumption) ?_
                    rotate_left
                    · (intro w hSw; (try dsimp only at hSw); go_simp <;> with_reducible rfl)
                    simp only [Act.put, List.setIfInBounds_toArray, List.set_cons_zero, List.set_cons_succ]
                    refine tk (i := 6) (v := ?_) (tA rfl) (by kernel_rfl) (fun _ _ _ h => h) (Or.inl ⟨by rfl, ?_⟩) (by assumption) ?_
                    rotate_left
                    · (intro w hSw; (try dsimp only at hSw); go_simp <;> with_reducible rfl)
                    simp only [Act.put, List.setIfInBounds_toArray, List.set_cons_zero, List.set_cons_succ]
                    refine tk (i := 7) (v := ?_) (tA rfl) (by kernel_rfl) (fun _ _ _ h => h) (Or.inl ⟨by rfl, ?_⟩) (by assumption) ?_
                    rotate_left
                    · (intro w hSw; (try dsimp only at hSw); go_simp <;> with_reducible rfl)
                    simp only [Act.put, List.setIfInBounds_toArray, List.set_cons_zero, List.set_cons_succ]
                    refine tk (i := 8) (v := ?_) (tA rfl) (by kernel_rfl) (fun _ _ _ h => h) (Or.inl ⟨by rfl, ?_⟩) (by assumption) ?_
                    rotate_left
                    · (intro w hSw; (try dsimp only at hSw); go_simp <;> with_reducible rfl)
                    simp only [Act.put, List.setIfInBounds_toArray, List.set_cons_zero, List.set_cons_succ]
                    refine tk (i := 9) (v := ?_) (tA rfl) (by kernel_rfl) (fun _ _ _ h => h) (Or.inl ⟨by rfl, ?_⟩) (by assumption) ?_
                    rotate_left
                    · (intro w hSw; (try dsimp only at hSw); go_simp <;> with_reducible rfl)
                    simp only [Act.put, List.setIfInBounds_toArray, List.set_cons_zero, List.set_cons_succ]
                    refine tk (i := 10) (v := ?_) (tA rfl) (by kernel_rfl) (fun _ _ _ h => h) (Or.inl ⟨by rfl, ?_⟩) (by assumption) ?_
                    rotate_left
                    · (intro w hSw; (try dsimp only at hSw); go_simp <;> with_reducible rfl)
                    simp only [Act.put, List.setIfInBounds_toArray, List.set_cons_zero, List.set_cons_succ]
                    refine tk (i := 11) (v := ?_) (tA rfl) (by kernel_rfl) (fun _ _ _ h => h) (Or.inl ⟨by rfl, ?_⟩) (by assumption) ?_
                    rotate_left
                    · (intro w hSw; (try dsimp only at hSw); go_simp <;> with_reducible rfl)
                    simp only [Act.put, List.setIfInBounds_toArray, List.set_cons_zero, List.set_cons_succ]
                    refine tk (i := 12) (v := ?_) (tA rfl) (by kernel_rfl) (fun _ _ _ h => h) (Or.inl ⟨by rfl, ?_⟩) (by assumption) ?_
                    rotate_left
                    · (intro w hSw; (try dsimp only at hSw); go_simp <;> with_reducible rfl)
                    simp only [Act.put, List.setIfInBounds_toArray, List.set_cons_zero, List.set_cons_succ]
                    refine tk (i := 13) (v := ?_) (tA rfl) (by kernel_rfl) (fun _ _ _ h => h) (Or.inl ⟨by rfl, ?_⟩) (by assumption) ?_
                    rotate_left
                    · (intro w hSw; (try dsimp only at hSw); go_simp <;> with_reducible rfl)
                    simp only [Act.put, List.setIfInBounds_toArray, List.set_cons_zero, List.set_cons_succ]
                    refine tk (i := 14) (v := ?_) (tA rfl) (by kernel_rfl) (fun _ _ _ h => h) (Or.inl ⟨by rfl, ?_⟩) (by assumption) ?_
                    rotate_left
                    · (intro w hSw; (try dsimp only at hSw); go_simp <;> with_reducible rfl)
                    simp only [Act.put, List.setIfInBounds_toArray, List.set_cons_zero, List.set_cons_succ]
                    refine tk (i := 15) (v := ?_) (tA rfl) (by kernel_rfl) (fun _ _ _ h => h) (Or.inl ⟨by rfl, ?_⟩) (by assumption) ?_
                    rotate_left
                    · (intro w hSw; (try dsimp only at hSw); go_simp <;> with_reducible rfl)
                    simp only [Act.put, List.setIfInBounds_toArray, List.set_cons_zero, List.set_cons_succ]
                    refine tk (i := 16) (v := ?_) (tA rfl) (by kernel_rfl) (fun _ _ _ h => h) (Or.inl ⟨by rfl, ?_⟩) (by assumption) ?_
                    rotate_left
                    · (intro w hSw; (try dsimp only at hSw); go_simp <;> with_reducible rfl)
                    simp only [Act.put, List.setIfInBounds_toArray, List.set_cons_zero, List.set_cons_succ]
                    refine tk (i := 17) (v := ?_) (tA rfl) (by kernel_rfl) (fun _ _ _ h => h) (Or.inl ⟨by rfl, ?_⟩) (by assumption) ?_
                    rotate_left
                    · (intro w hSw; (try dsimp only at hSw); go_simp <;> with_reducible rfl)
                    simp only [Act.put, List.setIfInBounds_toArray, List.set_cons_zero, List.set_cons_succ]
                    refine tk (i := 18) (v := ?_) (tA rfl) (by kernel_rfl) (fun _ _ _ h => h) (Or.inl ⟨by rfl, ?_⟩) (by assumption) ?_
                    rotate_left
                    · (intro w hSw; (try dsimp only at hSw); go_simp <;> with_reducible rfl)
                    simp only [Act.put, List.setIfInBounds_toArray, List.set_cons_zero, List.set_cons_succ]
                    refine tk (i := 19) (v := ?_) (tA rfl) (by kernel_rfl) (fun _ _ _ h => h) (Or.inl ⟨by rfl, ?_⟩) (by assumption) ?_
                    rotate_left
                    · (intro w hSw; (try dsimp only at hSw); go_simp <;> with_reducible rfl)
                    simp only [Act.put, List.setIfInBounds_toArray, List.set_cons_zero, List.set_cons_succ]
                    refine wpAnyH_ready (rs := [20]) (by kernel_rfl) (by simp) ?_
                    refine AllReadyH.cons (tA rfl) (fun K hK => ?_) AllReadyH.nil
                    go_simp
                    refine HSW.out.mono ?_
                    rintro e y3 ⟨rfl, hb3⟩
                    have hb3' : Below Z3.heap.size Z3 y3 := (Below.refl _ _).drew.trans hb3
                    try go_wp2_with fail
                    refine hK.out _ _ (HSK.out _ hb3') (fun hHeld => ?_)
                    clear hK K
                    try simp only [Act.put, List.setIfInBounds_toArray, List.set_cons_zero, List.set_cons_succ]
                    refine tk (i := 21) (v := ?_) (tA rfl) (by kernel_rfl) (fun _ _ _ h => h) (Or.inl ⟨by rfl, ?_⟩) (by assumption) ?_
                    rotate_left
                    · (intro w hSw; (try dsimp only at hSw); go_simp <;> with_reducible rfl)
                    simp only [Act.put, List.setIfInBounds_toArray, List.set_cons_zero, List.set_cons_succ]
                    refine tk (i := 22) (v := ?_) (tA rfl) (by kernel_rfl) (fun _ _ _ h => h) (Or.inl ⟨by rfl, ?_⟩) (by assumption) ?_
                    rotate_left
                    · (intro w hSw; (try dsimp only at hSw); go_simp <;> with_reducible rfl)
                    simp only [Act.put, List.setIfInBounds_toArray, List.set_cons_zero, List.set_cons_succ]
                    refine wpAnyH_done (by kernel_rfl) ?_ _
                    have HB4 : Hid (Below wc.heap.size wc y3) := HB3.out.trans ((HB2'.out.trans (hb3'.mono HB2'.out.size)).mono HB3.out.size)
                    have HRO : Hid (y3.ownsRow wr.heap.size 52 2 (.slice ra nw rc) nw (ws.flatMap wC)) := own_below HRW.out hb3'
                    have hyw : wc.heap.size ≤ wr.heap.size := HB3.out.size
                    have HYW : Hid (wc.heap.size ≤ wr.heap.size) := hyw
                    obtain ⟨WR, hWR⟩ : ∃ WR, wr = WR := ⟨_, rfl⟩
                    rw [hWR] at HRO HYW
                    clear hHeld hb3 hb3' HSK HSW HRW HRV HB2' h8 hyw
                    go_wp2_with fail
                    go_loopg [17] nw (fun r kv wq => ∃ (i : Nat) (cs : List Value), kv = .int .i64 i ∧ i ≤ nw ∧ nw - i ≤ r ∧ Hid (wq.ownsRow WR.heap.size 52 2 (.slice ra nw rc) nw cs) ∧ Hid (Below wc.heap.size wc wq))
                    case atStart => exact ⟨0, _, rfl, Nat.zero_le _, by omega, HRO, HB4⟩
                    case round =>
                      obtain ⟨i, cs, rfl, hi, hr4, HRO4, HB5⟩ := hrel
                      by_cases hil : i < nw
                      · rcases HRO4.out.2 with ⟨-, e0⟩ | ⟨rb, rcap, cur, hrv, hrb, hrh, hrn, hrm, hrs, hrt⟩
                        · omega
                        cases hrv
                        have hcl : i * 2 + 1 < nw * 2 := by omega
                        have x1 := HRO4.out.cellAt (i * 2 + 1) hcl
                        have hcsl : i * 2 + 1 < cs.length := by rw [HRO4.out.1]; exact hcl
                        obtain ⟨ux1, hux1⟩ : ∃ ux1, cs[i * 2 + 1]? = some ux1 := ⟨_, List.getElem?_eq_getElem hcsl⟩
                        rw [hux1] at x1
                        have f1 := HRO4.out.frozenAt (i * 2 + 1)
                        have HRO5 : Hid _ := (HRO4.out.stored (i * 2 + 1) (.int .i64 (-7))).1
                        have HB6 : Hid (Below wc.heap.size wc (_root_.Go.World.setCell _ ⟨rb, i * 2 + 1, none⟩ (.int .i64 (-7)))) := HB5.out.setCell (Nat.le_trans HYW.out hrb) _
                        have k1 : (i : Int) < (nw : Int) := by omega
                        have k0 : (0 : Int) ≤ (i : Int) := by omega
                        unfold maxLen at hrm
                        clear hrh hrs hrt hux1 hcsl hcl
                        go_wp2
                        go_roundg (nw - (i + 1))
                        · exact ⟨i + 1, _, rfl, by omega, Nat.le_refl _, HRO5, HB6⟩
                        · omega
                      · obtain rfl : i = nw := by omega
                        go_wp2_with fail
                        go_roundg (n + 2 - (q + 1 + 1))
                        · exact ⟨q + 1 + 1, by congr 1; omega, by omega, Nat.le_refl _, HB5⟩
                        · omega
                  · have HTH : Hid (Calls Tryd.prog 16 #[.pointer (some ⟨b, 0, none⟩), .int .i64 z] wr fun e w' => e = .returned (.tuple #[T.noC.v, .slice none 0 0]) ∧ Below wr.heap.size wr w') := thread_no htv (by rw [HL1.out]; omega)
                    have h8 : ∀ W : World, (Op.equalIn 9999 42 (.agg #[.int .i64 0, .int .i64 0, .int .i64 0, .int .i64 0, .int .i64 0, .int .i64 0, .int .i64 0, .int .i64 0]) (.agg #[.int .i64 0, .int .i64 0, .int .i64 0, .int .i64 0, .int .i64 0, .int .i64 0, .int .i64 0, .int .i64 0])).run Tryd.prog W = .ok true W := fun W => eq8 T.noC W
                    have hzj : (j : Int) = z + 1 := by omega
                    have HZJ : Hid ((j : Int) = z + 1) := hzj
                    rw [hz]
                    have hzz : z < 0 ∨ z = (n : Int) := by omega
                    clear htv hxv htv0 hxv0 hdis hbw htb hz hzj
                    rcases hzz with hz0 | hz0
                    · have j0 : decide (z < 0) = true := decide_eq_true hz0
                      obtain ⟨hz1, hz2⟩ := hzb
                      go_wp2_with fail
                      refine HTH.out.mono ?_
                      rintro e y2 ⟨rfl, hb2⟩
                      have HB6 : Hid (Below wc.heap.size wc (y2.alloc (.cells #[.int .i64 0, .int .i64 0, .int .i64 0, .int .i64 0, .int .i64 0, .int .i64 0, .int .i64 0, .int .i64 0, .int .i64 0, .int .i64 0, .int .i64 0] 44))) := HB3.out.trans ((hb2.trans ((bl_one _ _).mono hb2.size)).mono HB3.out.size)
                      have c32 := cell_up hb2 c3
                      clear hb2
                      simp only [T.noC]
                      go_wp2_with fail
                      go_roundg (n + 2 - (j + 1))
                      · exact ⟨j + 1, by have := HZJ.out; congr 1; omega, by omega, Nat.le_refl _, HB6⟩
                      · omega
                    · have j0 : decide (z < 0) = false := decide_eq_false (by omega)
                      have j1 : (z == (n : Int)) = true := by simp; omega
                      obtain ⟨hz1, hz2⟩ := hzb
                      have c3b : ∀ zq : World, Below wr.heap.size wr zq → zq.cell? ⟨bx, 3, none⟩ = some (.slice (some ⟨gx, 0, none⟩) n cx) := fun zq hz => cell_up hz c3
                      have HC3B : Hid _ := c3b
                      clear c3b hz0
                      go_wp2_with fail
                      refine HTH.out.mono ?_
                      rintro e y2 ⟨rfl, hb2⟩
                      have hb3 : Below wr.heap.size wr (y2.alloc (.cells #[.int .i64 0, .int .i64 0, .int .i64 0, .int .i64 0, .int .i64 0, .int .i64 0, .int .i64 0, .int .i64 0, .int .i64 0, .int .i64 0, .int .i64 0] 44)) := hb2.trans ((bl_one _ _).mono hb2.size)
                      have HB6 : Hid (Below wc.heap.size wc (y2.alloc (.cells #[.int .i64 0, .int .i64 0, .int .i64 0, .int .i64 0, .int .i64 0, .int .i64 0, .int .i64 0, .int .i64 0, .int .i64 0, .int .i64 0, .int .i64 0] 44))) := HB3.out.trans (hb3.mono HB3.out.size)
                      have c32 := HC3B.out _ hb3
                      clear hb2 hb3
                      simp only [T.noC]
                      go_wp2_with fail
                      go_roundg (n + 2 - (j + 1))
                      · exact ⟨j + 1, by have := HZJ.out; congr 1; omega, by omega, Nat.le_refl _, HB6⟩
                      · omega
                · have hde : decide (z ≤ (n : Int)) = false := decide_eq_false (by omega)
                  have HSE : Hid (DXR W2.heap.size w.heap.size w wr b (T.runs M0 (ps.take (k + 1))) (11 * (k + 1)) bm g cap bx (T.runs M0 (ps.take (k + 1))) vd vs gx cx) := by rw [HM1.out]; exact HSN.out.below hWw HB3.out
                  rw [hz]
                  clear htv hxv htv0 hxv0 hdis hbw htb hz
                  go_wp2_with fail
                  go_roundg (l' + 1 - (k + 1))
                  · exact ⟨k + 1, rfl, by omega, Nat.le_refl _, HSE⟩
                  · omega
          · obtain rfl : k = l' + 1 := by omega
            have hde : decide (((l' + 1 : Nat) : Int) ≤ (l' : Int)) = false := decide_eq_false (by omega)
            obtain ⟨M1, hM1⟩ : ∃ M1, T.runs M0 (ps.take (l' + 1)) = M1 := ⟨_, rfl⟩
            obtain ⟨K1, hK1⟩ : ∃ K1, 11 * (l' + 1) = K1 := ⟨_, rfl⟩
            have hK1b : K1 ≤ 4000 := by omega
            have hes1 : M1.es.length ≤ 800000 := by
              rw [← hM1]
              obtain ⟨xs, hxs, hxl⟩ := T.runs_es (ps.take (l' + 1)) M0 HML.out.1
              rw [hxs, HE0.out, List.nil_append]
              rw [List.length_take] at hxl
              omega
            have HES : Hid (M1.es.length ≤ 800000) := hes1
            rw [hM1, hK1] at HST
            obtain ⟨p1, ev1, us1, t1, D1, S1, evx1, usx1, htv, hxv, hdis, hbw, htb⟩ := HST.out
            obtain ⟨xd, xcd, hvd, -, hxcm⟩ := own_sl hxv.dat
            obtain ⟨dn, hdn⟩ : ∃ dn, D1.length = dn := ⟨_, rfl⟩
            rw [hdn] at hvd
            have hdn4 : dn ≤ 4096 := by rw [← hdn]; exact hxv.dl
            have HVD : Hid (vd = .slice xd dn xcd) := hvd
            obtain ⟨z1, hz1⟩ : ∃ z1, (M1.mem x).getD 0 = z1 := ⟨_, rfl⟩
            obtain ⟨z2, hz2⟩ : ∃ z2, T.er (M1.mem x) = z2 := ⟨_, rfl⟩
            have HZ1 : Hid ((M1.mem x).getD 0 = z1) := hz1
            have HZ2 : Hid (T.er (M1.mem x) = z2) := hz2
            have HW1 : Hid _ := word_any htv x HXW.out (by unfold maxLen; omega)
            rw [hz1, hz2] at HW1
            have HTV : Hid (TV W2.heap.size wr b M1 K1 p1 bm g cap ev1 us1) := htv
            have HXV : Hid (XV W2.heap.size wr bx M1 t1 D1 S1 vd vs gx cx evx1 usx1) := hxv
            have HDI : Hid (∀ k, p1 k ≠ 0 → t1 k = 0) := hdis
            have HBW : Hid (Below w.heap.size w wr) := hbw
            have HTB : Hid (Tab wr) := htb
            clear htv hxv hdis hbw htb hM1 hK1 hes1 hz1 hz2 hvd hdn hxcm
            go_wp2_with fail
            refine Calls.mono HW1.out ?_
            rintro e y6 ⟨rfl, htv6, hs6⟩
            have HD6 : Hid (DXR W2.heap.size w.heap.size w y6 b M1 (K1 + 1 + 0) bm g cap bx M1 vd vs gx cx) := DXR.left HTV.out HXV.out HDI.out HBW.out HTB.out hWw hB2 ⟨p1, ev1, us1, htv6, hs6⟩
            have HW2 : Hid (Calls Tryd.prog 19 #[.pointer (some ⟨bx, 0, none⟩), .int .i64 x] y6 fun e w' => e = .returned (.tuple #[.int .i64 z1, .int .i64 z2]) ∧ w' = y6) := by
              obtain ⟨_, _, _, _, _, _, _, _, _, hxv6, _, _, _⟩ := HD6.out
              have h9 := xword_any hxv6 HXW.out
              rw [HZ1.out, HZ2.out] at h9
              exact h9
            clear htv6 hs6 HTV HXV HDI HBW HTB HW1 HST
            go_wp2_with fail
            refine HW2.out.mono ?_
            rintro e y7 ⟨rfl, rfl⟩
            go_wp2_with fail
            go_loopg [22] dn (fun r iv wq => ∃ (i : Nat), iv = .int .i64 i ∧ i ≤ dn ∧ dn - i ≤ r ∧ Hid (DXR W2.heap.size w.heap.size w wq b M1 (K1 + 1 + i) bm g cap bx M1 vd vs gx cx))
            case atStart => exact ⟨0, rfl, Nat.zero_le _, by omega, HD6⟩
            case round =>
              obtain ⟨i, rfl, hi, hr5, HDI5⟩ := hrel
              obtain ⟨p2, ev2, us2, t2, D2, S2, evx2, usx2, htv, hxv, hdis, hbw, htb⟩ := HDI5.out
              have c1 := hxv.c1
              rw [HVD.out] at c1
              have hD2 : D2.length = dn := by
                obtain ⟨a', c', e, -⟩ := own_sl hxv.dat
                rw [HVD.out] at e
                cases e
                rfl
              by_cases hil : i < dn
              · obtain ⟨az, haz⟩ : ∃ az : Int, 1048576 + 8 * (i : Int) = az := ⟨_, rfl⟩
                obtain ⟨i8, hi8⟩ : ∃ i8 : Int, 8 * (i : Int) = i8 := ⟨_, rfl⟩
                have hi8b : 0 ≤ i8 ∧ i8 ≤ 32768 := by omega
                have haz2 : 1048576 + i8 = az := by omega
                have hazw : (Lit.int .i64 az).wf = true := by rw [wf_iff]; omega
                have hmz : M1.mem az = some (D2.getD i 0) := by rw [hxv.mem, ← haz]; exact T.memoOf_D (by rw [hD2]; exact hil)
                obtain ⟨dz, hdz⟩ : ∃ dz, D2.getD i 0 = dz := ⟨_, rfl⟩
                have HW5 := word_any htv az hazw (by unfold maxLen; omega)
                rw [hmz, hdz] at HW5
                have HW6 : Hid (Calls Tryd.prog 18 #[.pointer (some ⟨b, 0, none⟩), .int .i64 az] wr fun e w' => e = .returned (.tuple #[.int .i64 dz, .int .i64 0]) ∧ TV W2.heap.size w' b M1 (K1 + 1 + i + 1) p2 bm g cap ev2 us2 ∧ St p2 p2 wr w') := HW5
                have HTV : Hid (TV W2.heap.size wr b M1 (K1 + 1 + i) p2 bm g cap ev2 us2) := htv
                have HXV : Hid (XV W2.heap.size wr bx M1 t2 D2 S2 vd vs gx cx evx2 usx2) := hxv
                have HDS : Hid (∀ k, p2 k ≠ 0 → t2 k = 0) := hdis
                have HBW : Hid (Below w.heap.size w wr) := hbw
                have HTB : Hid (Tab wr) := htb
                have HDZ : Hid (D2.getD i 0 = dz) := hdz
                have HD2 : Hid (D2.length = dn) := hD2
                have i1 : (i : Int) < (dn : Int) := by omega
                have i0 : (0 : Int) ≤ (i : Int) := by omega
                have hwz : IntKind.i64.wrap i8 = i8 := by rw [IntKind.wrap_i64]; omega
                obtain ⟨hi8l, hi8h⟩ := hi8b
                clear htv hxv hdis hbw htb HW5 hmz hazw hdz hD2 haz
                go_wp2_with fail
                refine HW6.out.mono ?_
                rintro e y8 ⟨rfl, htv8, hs8⟩
                have HD8 : Hid (DXR W2.heap.size w.heap.size w y8 b M1 (K1 + 1 + (i + 1)) bm g cap bx M1 vd vs gx cx) := DXR.left HTV.out HXV.out HDS.out HBW.out HTB.out hWw hB2 ⟨p2, ev2, us2, htv8, hs8⟩
                have hxv8 := HXV.out.frame hs8 (fun k hk => Classical.byContradiction fun e => hk (HDS.out k e))
                have c18 := hxv8.c1
                obtain ⟨xq, xqc, hxe, hxq1, hxq2, w8, -⟩ := row_word hxv8.dat rfl (i := i) (by rw [HD2.out]; exact hil)
                rw [HDZ.out] at w8
                rw [hxe] at c18
                rw [HD2.out] at c18 hxq1
                unfold maxLen at hxq2
                clear htv8 hs8 hxv8 hxe c1
                go_wp2_with fail
                go_roundg (dn - (i + 1))
                · exact ⟨i + 1, rfl, by omega, Nat.le_refl _, HD8⟩
                · omega
              · obtain rfl : i = dn := by omega
                have HTH : Hid (∀ y, Below wr.heap.size wr y → Calls Tryd.prog 20 #[.pointer (some ⟨b, 0, none⟩)] y fun e w' => e = .returned (.int .i64 M1.ts.length) ∧ w' = y) := fun y hy => threads_any (htv.below hy)
                have HEV : Hid (∀ y, Below wr.heap.size wr y → Calls Tryd.prog 22 #[.pointer (some ⟨b, 0, none⟩)] y fun e w' => RowIs y.heap.size 81 3 e w' M1.es.length (M1.es.flatMap eC) ∧ Below y.heap.size y w') := fun y hy => events_any (htv.below hy) (Nat.le_trans HES.out (by decide))
                have HXE : Hid (wr.ownsRow W2.heap.size 81 3 evx2 M1.es.length (M1.es.flatMap eC)) := hxv.evs
                have c3 := hxv.c3
                have c4 := hxv.c4
                obtain ⟨n, hn⟩ : ∃ n, M1.ts.length = n := ⟨_, rfl⟩
                rw [hn] at c3 HTH
                have hnn : ((n : Int) == (n : Int)) = true := by simp
                have hzz1 : (z1 == z1) = true := by simp
                have hzz2 : (z2 == z2) = true := by simp
                have HBW : Hid (Below w.heap.size w wr) := hbw
                have HSK : Hid (∀ zq : World, Below wr.heap.size wr zq → (fun w' : World => w'.cell? ⟨bx, 3, none⟩ = some (.slice (some ⟨gx, 0, none⟩) n cx) ∧ w'.cell? ⟨bx, 4, none⟩ = some evx2) zq) := fun zq hz => ⟨cell_up hz c3, cell_up hz c4⟩
                clear htv hxv hdis hbw htb hn
                go_wp2_with fail
                clear c3 c4 c1
                refine wp_region_held_drew (S := (fun w' : World => w'.cell? ⟨bx, 3, none⟩ = some (.slice (some ⟨gx, 0, none⟩) n cx) ∧ w'.cell? ⟨bx, 4, none⟩ = some evx2)) (by kernel_rfl) (HSK.out _ (Below.refl _ _).drew) (fun hHeld => ?_)
                refine tk (i := 0) (v := ?_) (tA rfl) (by kernel_rfl) (fun _ _ _ h => h) (Or.inl ⟨by rfl, ?_⟩) (by assumption) ?_
                rotate_left
                · (intro w hSw; (try dsimp only at hSw); go_simp <;> with_reducible rfl)
                simp only [Act.put, List.setIfInBounds_toArray, List.set_cons_zero, List.set_cons_succ]
                refine tk (i := 1) (v := ?_) (tA rfl) (by kernel_rfl) (fun _ _ _ h => h) (Or.inl ⟨by rfl, ?_⟩) (by assumption) ?_
                rotate_left
                · (intro w hSw; (try dsimp only at hSw); go_simp <;> with_reducible rfl)
                simp only [Act.put, List.setIfInBounds_toArray, List.set_cons_zero, List.set_cons_succ]
                refine tk (i := 2) (v := ?_) (tA rfl) (by kernel_rfl) (fun _ _ _ h => h) (Or.inl ⟨by rfl, ?_⟩) (by assumption) ?_
                rotate_left
                · (intro w hSw; (try dsimp only at hSw); go_simp <;> with_reducible rfl)
                simp only [Act.put, List.setIfInBounds_toArray, List.set_cons_zero, List.set_cons_succ]
                refine tk (i := 3) (v := ?_) (tA rfl) (by kernel_rfl) (fun _ _ _ h => h) (Or.inl ⟨by rfl, ?_⟩) (by assumption) ?_
                rotate_left
                · (intro w hSw; (try dsimp only at hSw); go_simp <;> with_reducible rfl)
                simp only [Act.put, List.setIfInBounds_toArray, List.set_cons_zero, List.set_cons_succ]
                refine tk (i := 4) (v := ?_) (tA rfl) (by kernel_rfl) (fun _ _ _ h => h) (Or.inl ⟨by rfl, ?_⟩) (by assumption) ?_
                rotate_left
                · (intro w hSw; (try dsimp only at hSw); go_simp <;> with_reducible rfl)
                simp only [Act.put, List.setIfInBounds_toArray, List.set_cons_zero, List.set_cons_succ]
                refine tk (i := 5) (v := ?_) (tA rfl) (by kernel_rfl) (fun _ _ _ h => h) (Or.inl ⟨by rfl, ?_⟩) (by assumption) ?_
                rotate_left
                · (intro w hSw; (try dsimp only at hSw); go_simp <;> with_reducible rfl)
                simp only [Act.put, List.setIfInBounds_toArray, List.set_cons_zero, List.set_cons_succ]
                refine tk (i := 6) (v := ?_) (tA rfl) (by kernel_rfl) (fun _ _ _ h => h) (Or.inl ⟨by rfl, ?_⟩) (by assumption) ?_
                rotate_left
                · (intro w hSw; (try dsimp only at hSw); go_simp <;> with_reducible rfl)
                simp only [Act.put, List.setIfInBounds_toArray, List.set_cons_zero, List.set_cons_succ]
                refine tk (i := 7) (v := ?_) (tA rfl) (by kernel_rfl) (fun _ _ _ h => h) (Or.inl ⟨by rfl, ?_⟩) (by assumption) ?_
                rotate_left
                · (intro w hSw; (try dsimp only at hSw); go_simp <;> with_reducible rfl)
                simp only [Act.put, List.setIfInBounds_toArray, List.set_cons_zero, List.set_cons_succ]
                refine tk (i := 8) (v := ?_) (tA rfl) (by kernel_rfl) (fun _ _ _ h => h) (Or.inl ⟨by rfl, ?_⟩) (by assumption) ?_
                rotate_left
                · (intro w hSw; (try dsimp only at hSw); go_simp <;> with_reducible rfl)
                simp only [Act.put, List.setIfInBounds_toArray, List.set_cons_zero, List.set_cons_succ]
                refine tk (i := 9) (v := ?_) (tA rfl) (by kernel_rfl) (fun _ _ _ h => h) (Or.inl ⟨by rfl, ?_⟩) (by assumption) ?_
                rotate_left
                · (intro w hSw; (try dsimp only at hSw); go_simp <;> with_reducible rfl)
                simp only [Act.put, List.setIfInBounds_toArray, List.set_cons_zero, List.set_cons_succ]
                refine tk (i := 11) (v := ?_) (tA rfl) (by kernel_rfl) (fun _ _ _ h => h) (Or.inl ⟨by rfl, ?_⟩) (by assumption) ?_
                rotate_left
                · (intro w hSw; (try dsimp only at hSw); go_simp <;> with_reducible rfl)
                simp only [Act.put, List.setIfInBounds_toArray, List.set_cons_zero, List.set_cons_succ]
                refine tk (i := 12) (v := ?_) (tA rfl) (by kernel_rfl) (fun _ _ _ h => h) (Or.inl ⟨by rfl, ?_⟩) (by assumption) ?_
                rotate_left
                · (intro w hSw; (try dsimp only at hSw); go_simp <;> with_reducible rfl)
                simp only [Act.put, List.setIfInBounds_toArray, List.set_cons_zero, List.set_cons_succ]
                refine tk (i := 13) (v := ?_) (tA rfl) (by kernel_rfl) (fun _ _ _ h => h) (Or.inl ⟨by rfl, ?_⟩) (by assumption) ?_
                rotate_left
                · (intro w hSw; (try dsimp only at hSw); go_simp <;> with_reducible rfl)
                simp only [Act.put, List.setIfInBounds_toArray, List.set_cons_zero, List.set_cons_succ]
                refine tk (i := 14) (v := ?_) (tA rfl) (by kernel_rfl) (fun _ _ _ h => h) (Or.inl ⟨by rfl, ?_⟩) (by assumption) ?_
                rotate_left
                · (intro w hSw; (try dsimp only at hSw); go_simp <;> with_reducible rfl)
                simp only [Act.put, List.setIfInBounds_toArray, List.set_cons_zero, List.set_cons_succ]
                refine tk (i := 15) (v := ?_) (tA rfl) (by kernel_rfl) (fun _ _ _ h => h) (Or.inl ⟨by rfl, ?_⟩) (by assumption) ?_
                rotate_left
                · (intro w hSw; (try dsimp only at hSw); go_simp <;> with_reducible rfl)
                simp only [Act.put, List.setIfInBounds_toArray, List.set_cons_zero, List.set_cons_succ]
                refine wpAnyH_ready (rs := [10]) (by kernel_rfl) (by simp) ?_
                refine AllReadyH.cons (tA rfl) (fun K hK => ?_) AllReadyH.nil
                go_simp
                refine (HTH.out _ (Below.refl _ _).drew).mono ?_
                rintro e y8 ⟨rfl, rfl⟩
                try go_wp2_with fail
                refine hK.out _ _ (HSK.out _ (Below.refl _ _).drew) (fun hHeld => ?_)
                clear hK K
                try simp only [Act.put, List.setIfInBounds_toArray, List.set_cons_zero, List.set_cons_succ]
                refine tk (i := 16) (v := ?_) (tA rfl) (by kernel_rfl) (fun _ _ _ h => h) (Or.inl ⟨by rfl, ?_⟩) (by assumption) ?_
                rotate_left
                · (intro w hSw; (try dsimp only at hSw); go_simp <;> with_reducible rfl)
                simp only [Act.put, List.setIfInBounds_toArray, List.set_cons_zero, List.set_cons_succ]
                refine tk (i := 17) (v := ?_) (tA rfl) (by kernel_rfl) (fun _ _ _ h => h) (Or.inl ⟨by rfl, ?_⟩) (by assumption) ?_
                rotate_left
                · (intro w hSw; (try dsimp only at hSw); go_simp <;> with_reducible rfl)
                simp only [Act.put, List.setIfInBounds_toArray, List.set_cons_zero, List.set_cons_succ]
                refine tk (i := 18) (v := ?_) (tA rfl) (by kernel_rfl) (fun _ _ _ h => h) (Or.inl ⟨by rfl, ?_⟩) (by assumption) ?_
                rotate_left
                · (intro w hSw; (try dsimp only at hSw); go_simp <;> with_reducible rfl)
                simp only [Act.put, List.setIfInBounds_toArray, List.set_cons_zero, List.set_cons_succ]
                refine tk (i := 19) (v := ?_) (tA rfl) (by kernel_rfl) (fun _ _ _ h => h) (Or.inl ⟨by rfl, ?_⟩) (by assumption) ?_
                rotate_left
                · (intro w hSw; (try dsimp only at hSw); go_simp <;> with_reducible rfl)
                simp only [Act.put, List.setIfInBounds_toArray, List.set_cons_zero, List.set_cons_succ]
                refine tk (i := 21) (v := ?_) (tA rfl) (by kernel_rfl) (fun _ _ _ h => h) (Or.inl ⟨by rfl, ?_⟩) (by assumption) ?_
                rotate_left
                · (intro w hSw; (try dsimp only at hSw); go_simp <;> with_reducible rfl)
                simp only [Act.put, List.setIfInBounds_toArray, List.set_cons_zero, List.set_cons_succ]
                refine tk (i := 22) (v := ?_) (tA rfl) (by kernel_rfl) (fun _ _ _ h => h) (Or.inl ⟨by rfl, ?_⟩) (by assumption) ?_
                rotate_left
                · (intro w hSw; (try dsimp only at hSw); go_simp <;> with_reducible rfl)
                simp only [Act.put, List.setIfInBounds_toArray, List.set_cons_zero, List.set_cons_succ]
                refine tk (i := 23) (v := ?_) (tA rfl) (by kernel_rfl) (fun _ _ _ h => h) (Or.inl ⟨by rfl, ?_⟩) (by assumption) ?_
                rotate_left
                · (intro w hSw; (try dsimp only at hSw); go_simp <;> with_reducible rfl)
                simp only [Act.put, List.setIfInBounds_toArray, List.set_cons_zero, List.set_cons_succ]
                refine tk (i := 24) (v := ?_) (tA rfl) (by kernel_rfl) (fun _ _ _ h => h) (Or.inl ⟨by rfl, ?_⟩) (by assumption) ?_
                rotate_left
                · (intro w hSw; (try dsimp only at hSw); go_simp <;> with_reducible rfl)
                simp only [Act.put, List.setIfInBounds_toArray, List.set_cons_zero, List.set_cons_succ]
                refine wpAnyH_ready (rs := [20]) (by kernel_rfl) (by simp) ?_
                refine AllReadyH.cons (tA rfl) (fun K hK => ?_) AllReadyH.nil
                go_simp
                refine (HEV.out _ (Below.refl _ _).drew).mono ?_
                rintro e y9 ⟨⟨v9, rfl, ho9⟩, hb9⟩
                have hb9' : Below wr.heap.size wr y9 := (Below.refl _ _).drew.trans hb9
                have HSE : Hid (Calls Tryd.prog 21 #[v9, evx2] y9 fun e w' => e = .returned (.bool true) ∧ Below y9.heap.size y9 w') := sameE_any ho9 (own_below HXE.out hb9')
                have HB9 : Hid (Below wr.heap.size wr y9) := hb9'
                clear ho9 hb9 hb9'
                try go_wp2_with fail
                refine hK.out _ _ (HSK.out _ HB9.out) (fun hHeld => ?_)
                clear hK K
                try simp only [Act.put, List.setIfInBounds_toArray, List.set_cons_zero, List.set_cons_succ]
                refine wpAnyH_ready (rs := [25]) (by kernel_rfl) (by simp) ?_
                refine AllReadyH.cons (tA rfl) (fun K hK => ?_) AllReadyH.nil
                go_simp
                refine HSE.out.mono ?_
                rintro e y10 ⟨rfl, hb10⟩
                have HB10 : Hid (Below wr.heap.size wr y10) := HB9.out.trans (hb10.mono HB9.out.size)
                clear hb10
                try go_wp2_with fail
                refine hK.out _ _ (HSK.out _ HB10.out) (fun hHeld => ?_)
                clear hK K
                try simp only [Act.put, List.setIfInBounds_toArray, List.set_cons_zero, List.set_cons_succ]
                refine tk (i := 26) (v := ?_) (tA rfl) (by kernel_rfl) (fun _ _ _ h => h) (Or.inl ⟨by rfl, ?_⟩) (by assumption) ?_
                rotate_left
                · (intro w hSw; (try dsimp only at hSw); go_simp <;> with_reducible rfl)
                simp only [Act.put, List.setIfInBounds_toArray, List.set_cons_zero, List.set_cons_succ]
                refine tk (i := 27) (v := ?_) (tA rfl) (by kernel_rfl) (fun _ _ _ h => h) (Or.inl ⟨by rfl, ?_⟩) (by assumption) ?_
                rotate_left
                · (intro w hSw; (try dsimp only at hSw); go_simp <;> with_reducible rfl)
                simp only [Act.put, List.setIfInBounds_toArray, List.set_cons_zero, List.set_cons_succ]
                refine wpAnyH_done (by kernel_rfl) ?_ _
                clear hHeld
                go_wp2
                go_ret
                exact ⟨rfl, HBW.out.trans (HB10.out.mono HBW.out.size)⟩

end Go.Proofs.YtneclfaamgfoeaaDoor

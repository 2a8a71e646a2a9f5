/- The walk of LinkLinks. -/
import Derived.Test.YtaoklmphcgigeaaLinkRefLink
import Derived.Test.YtaoklmphcgigeaaLinkNamesS
import Derived.Test.YtaoklmphcgigeaaLinkKeepM
import Derived.Deep.RegionHeld3
namespace Go.Proofs.Ytaoklmphcgigeaa
open Go.RowKit Go.Lib
set_option linter.unusedVariables false
set_option linter.unusedSimpArgs false

/-- An answer, as what was made since. -/
theorem ImgR.bs {x y : World} {v1 v2 : Value} {ds : List Int} {ss : List Sym} (h : ImgR x y v1 v2 ds ss) : BS x y [⟨36, 3, v2, ss.length, ss.flatMap symC⟩, ⟨2, 1, v1, ds.length, ds.flatMap intC⟩] [] := by
  refine { low := h.low, own := fun k r hr => ?_, dis := fun k l r q hr hq hkl b hb => ?_, box := by simp, far := by simp, nd := by simp }
  · rcases k with - | - | k
    · simp at hr; subst hr; exact h.s
    · simp at hr; subst hr; exact h.d
    · simp at hr
  · rcases k with - | - | k
    · rcases l with - | - | l
      · exact absurd rfl hkl
      · simp at hr hq
        subst hr hq
        exact fun e => h.ap b e hb
      · simp at hq
    · rcases l with - | - | l
      · simp at hr hq
        subst hr hq
        exact h.ap b hb
      · exact absurd rfl hkl
      · simp at hq
    · simp at hr
/-- What is answered, whatever its rows hold by now. -/
structure AN (x y : World) (bi : Nat) (CA : ByteArray) (v1 v2 : Value) (na ns : Nat) : Prop where
  ex : ∃ c1 c2, BS x y [⟨36, 3, v2, ns, c2⟩, ⟨2, 1, v1, na, c1⟩] [(bi, [.string CA, v1, v2])]
theorem AN.low {x y : World} {bi : Nat} {CA : ByteArray} {v1 v2 : Value} {na ns : Nat} (h : AN x y bi CA v1 v2 na ns) : Below x.heap.size x y := by
  obtain ⟨c1, c2, h⟩ := h.ex
  exact h.low
theorem AN.below {x y z : World} {bi : Nat} {CA : ByteArray} {v1 v2 : Value} {na ns : Nat} (h : AN x y bi CA v1 v2 na ns) (hb : Below y.heap.size y z) : AN x z bi CA v1 v2 na ns := by
  obtain ⟨c1, c2, h⟩ := h.ex
  exact ⟨c1, c2, h.below hb⟩
theorem AN.cells {x y : World} {bi : Nat} {CA : ByteArray} {v1 v2 : Value} {na ns : Nat} (h : AN x y bi CA v1 v2 na ns) : y.cell? ⟨bi, 0, none⟩ = some (.string CA) ∧ y.cell? ⟨bi, 1, none⟩ = some v1 ∧ y.cell? ⟨bi, 2, none⟩ = some v2 := by
  obtain ⟨c1, c2, h⟩ := h.ex
  obtain ⟨h1, -⟩ := h.box 0 _ rfl
  exact ⟨h1 0 _ rfl, h1 1 _ rfl, h1 2 _ rfl⟩
theorem AN.data {x y : World} {bi : Nat} {CA : ByteArray} {a : Option Addr} {c : Nat} {v2 : Value} {na ns : Nat} (h : AN x y bi CA (.slice a na c) v2 na ns) {j : Nat} (hj : j < na) : ∃ g u, a = some ⟨g, 0, none⟩ ∧ y.cell? ⟨g, j, none⟩ = some u ∧ y.frozen? ⟨g, j, none⟩ = false ∧ ∀ u', AN x (y.setCell ⟨g, j, none⟩ u') bi CA (.slice a na c) v2 na ns := by
  obtain ⟨c1, c2, h⟩ := h.ex
  have ho := h.own 1 _ rfl
  simp only at ho
  obtain ⟨g, cap, e, -, -⟩ := ho.form (by omega)
  simp only [Value.slice.injEq] at e
  obtain ⟨rfl, -, rfl⟩ := e
  have hl : c1.length = na * 1 := ho.1
  have hc := ho.cellAt j (by omega)
  have hst := fun u' => ho.stored j u'
  refine ⟨g, c1[j]'(by omega), rfl, by rw [hc]; simp [show j < c1.length by omega], ho.frozenAt j, fun u' => ⟨_, _, h.push (k := 1) rfl (hst u').1 (hst u').2 (fun q hq => .inl hq)⟩⟩
theorem AN.syms {x y : World} {bi : Nat} {CA : ByteArray} {a : Option Addr} {c : Nat} {v1 : Value} {na ns : Nat} (h : AN x y bi CA v1 (.slice a ns c) na ns) {j : Nat} (hj : j < ns) : ∃ g u, a = some ⟨g, 0, none⟩ ∧ y.cell? ⟨g, j * 3 + 2, none⟩ = some u ∧ y.frozen? ⟨g, j * 3 + 2, none⟩ = false ∧ ∀ u', AN x (y.setCell ⟨g, j * 3 + 2, none⟩ u') bi CA v1 (.slice a ns c) na ns := by
  obtain ⟨c1, c2, h⟩ := h.ex
  have ho := h.own 0 _ rfl
  simp only at ho
  obtain ⟨g, cap, e, -, -⟩ := ho.form (by omega)
  simp only [Value.slice.injEq] at e
  obtain ⟨rfl, -, rfl⟩ := e
  have hl : c2.length = ns * 3 := ho.1
  have hc := ho.cellAt (j * 3 + 2) (by omega)
  have hst := fun u' => ho.stored (j * 3 + 2) u'
  refine ⟨g, c2[j * 3 + 2]'(by omega), rfl, by rw [hc]; simp [show j * 3 + 2 < c2.length by omega], ho.frozenAt _, fun u' => ⟨_, _, h.push (k := 0) rfl (hst u').1 (hst u').2 (fun q hq => .inl hq)⟩⟩

set_option maxRecDepth 100000 in
set_option maxHeartbeats 8000000 in
theorem links_any {w : World} {a : Option Addr} {l c : Nat} {os : List ObjD} (h : ObjsV w a l c os) (hL : ∀ o ∈ os, Len 140737488351232 o) :
    Calls Try.prog 3 #[.slice a l c] w fun e w' => e = .returned (.bool true) ∧ Below w.heap.size w w' := by
  have HV : Hid _ := h
  have hcnt := h.count
  have HFT : Hid (∀ o ∈ os, FitO o) := fun o ho => by
    obtain ⟨pl, rfl, hP⟩ := objs_p h
    obtain ⟨p, hp, rfl⟩ := List.mem_map.1 ho
    exact (hP.ov p hp).fit
  have HLM : Hid (∀ p ∈ os, Len 140737488355328 p) := fun p hp => by
    have h1 := hL p hp
    unfold Len at *
    omega
  have hmx : maxLen = 9223372036854775807 := rfl
  clear h hL
  go_enter Try.func3, Try.ntmps3
  go_wp2_with fail
  refine (small_any HV.out HLM.out).mono ?_
  rintro e x1 ⟨rfl, b1⟩
  cases hsm : smallB os with
  | false =>
    clear hsm
    go_wp2_with (go_at_call 10; refine (live_any _).mono ?_; rintro e y ⟨rfl, hb⟩)
    go_ret
    exact ⟨rfl, b1.trans (hb.mono b1.size)⟩
  | true =>
    have hl20 : l ≤ 20 := by have := (smallB_each hsm).1; omega
    clear hsm
    go_wp2_with fail
    refine (copies_any (HV.out.below b1) hl20 HLM.out).mono ?_
    rintro e x2 ⟨v, pl, rfl, hpl, hbs⟩
    have hOS : OwnSt x1 x2 v os := ⟨pl, hpl, hbs⟩
    obtain ⟨e0, f0, hv, hVo⟩ := hOS.objs HFT.out (by omega)
    subst hv
    rw [hcnt] at hVo ⊢
    have bw2 : Below w.heap.size w x2 := b1.trans (hbs.low.mono b1.size)
    have HVo : Hid (ObjsV x2 e0 l f0 os) := hVo
    clear hVo hOS hbs hpl
    go_wp2_with fail
    refine (link_any HVo.out).mono ?_
    rintro e x4 ⟨v1, v2, rfl, hR4⟩
    obtain ⟨p1, q1, p2, q2, rfl, rfl, hI4, hS4⟩ := imgR_view hR4 (link_fits HV.out).1 (link_fits HV.out).2
    obtain ⟨CA, hCA⟩ : ∃ CA : ByteArray, (⟨(linkC os).toArray⟩ : ByteArray) = CA := ⟨_, rfl⟩
    obtain ⟨EA, hEA⟩ : ∃ EA, linkE os = EA := ⟨_, rfl⟩
    obtain ⟨na, hna⟩ : ∃ na, (linkD os).length = na := ⟨_, rfl⟩
    obtain ⟨ma, hma⟩ : ∃ ma, (linkS os).length = ma := ⟨_, rfl⟩
    have hm5 : ma ≤ 1000 ∧ na ≤ 4096 := by
      by_cases h0 : linkE os = 0
      · have := link_sizes h0
        omega
      · have := link_bad h0
        rw [this.2.2] at hma
        rw [this.2.1] at hna
        simp at hma hna
        omega
    have hBS := hR4.bs
    rw [hna, hma] at hBS
    rw [hma] at hS4
    rw [hna] at hI4
    rw [hCA, hEA, hna, hma]
    obtain ⟨Y4, hY4⟩ : ∃ Y, x4.alloc (.cells #[.string CA, .slice p1 na q1, .slice p2 ma q2] 29) = Y := ⟨_, rfl⟩
    have bY4 : Below x4.heap.size x4 Y4 := by subst hY4; exact bl_one _ _
    obtain ⟨bi, hbi⟩ : ∃ bi, x4.heap.size = bi := ⟨_, rfl⟩
    have HAN4 : Hid (AN x2 Y4 bi CA (.slice p1 na q1) (.slice p2 ma q2) na ma) := ⟨_, _, by subst hY4 hbi; exact hBS.alloc _ _⟩
    have HS4 : Hid (SymsV Y4 p2 ma q2 (linkS os)) := hS4.below bY4
    have HI4 : Hid (IntsV Y4 p1 na q1 (linkD os)) := hI4.below bY4
    have b24 : Below x2.heap.size x2 Y4 := HAN4.out.low
    have bw4 : Below w.heap.size w Y4 := bw2.trans (b24.mono bw2.size)
    clear hBS hR4 hS4 hI4
    go_wp2_with fail
    refine (rlink_any (HV.out.below bw4)).mono ?_
    rintro e x5 ⟨v1, v2, rfl, hR5⟩
    obtain ⟨r1, t1, r2, t2, rfl, rfl, hI5, hS5⟩ := imgR_view hR5 (link_fits HV.out).1 (link_fits HV.out).2
    have hb5 := hR5.low
    rw [hma] at hS5
    rw [hna] at hI5
    rw [hCA, hEA, hna, hma]
    obtain ⟨Y5, hY5⟩ : ∃ Y, x5.alloc (.cells #[.string CA, .slice r1 na t1, .slice r2 ma t2] 29) = Y := ⟨_, rfl⟩
    have bY5 : Below x5.heap.size x5 Y5 := by subst hY5; exact bl_one _ _
    have b45 : Below Y4.heap.size Y4 Y5 := hb5.trans (bY5.mono hb5.size)
    have HAN5 : Hid (AN x2 Y5 bi CA (.slice p1 na q1) (.slice p2 ma q2) na ma) := HAN4.out.below b45
    have HS5 : Hid (SymsV Y5 r2 ma t2 (linkS os)) := hS5.below bY5
    have HI5 : Hid (IntsV Y5 r1 na t1 (linkD os)) := hI5.below bY5
    have HS4' : Hid (SymsV Y5 p2 ma q2 (linkS os)) := HS4.out.below b45
    have HI4' : Hid (IntsV Y5 p1 na q1 (linkD os)) := HI4.out.below b45
    have g0 := HAN5.out.cells.1
    have g1 := HAN5.out.cells.2.1
    have g2 := HAN5.out.cells.2.2
    have k0 : Y5.cell? ⟨x5.heap.size, 0, none⟩ = some (.string CA) := by subst hY5; exact cell_last rfl rfl
    have k1 : Y5.cell? ⟨x5.heap.size, 1, none⟩ = some (.slice r1 na t1) := by subst hY5; exact cell_last rfl rfl
    have k2 : Y5.cell? ⟨x5.heap.size, 2, none⟩ = some (.slice r2 ma t2) := by subst hY5; exact cell_last rfl rfl
    have hna6 : na ≤ 1048576 := by omega
    have hma6 : ma ≤ 1048576 := by omega
    clear hR5 hS5 hI5 hEA hCA hna hma hY4 hbi
    go_wp2_with (go_at_call 14; refine (sameI_any HI4'.out HS4'.out HI5.out HS5.out hna6 hma6).mono ?_; rintro e y1 ⟨rfl, hb1⟩)
    have HAN6 : Hid (AN x2 y1 bi CA (.slice p1 na q1) (.slice p2 ma q2) na ma) := HAN5.out.below hb1
    clear hY5 g0 g1 g2 k0 k1 k2
    go_loopg [8] na (fun r iv wq => ∃ (i : Nat), iv = .int .i64 i ∧ i ≤ na ∧ na - i ≤ r ∧ Hid (AN x2 wq bi CA (.slice p1 na q1) (.slice p2 ma q2) na ma))
    case atStart => exact ⟨0, rfl, Nat.zero_le _, by omega, HAN6.out⟩
    case round =>
      obtain ⟨i, rfl, hi, hr, HA⟩ := hrel
      have g1 := HA.out.cells.2.1
      by_cases hil : i < na
      · obtain ⟨g, u, hg, hu, hf, hst⟩ := HA.out.data hil
        have HN : Hid (AN x2 (wr.setCell ⟨g, i, none⟩ (.int .i64 (-7))) bi CA (.slice p1 na q1) (.slice p2 ma q2) na ma) := hst _
        subst hg
        have hii : (i : Int) < na := by omega
        have hin : 0 ≤ (i : Int) := by omega
        clear hst
        go_wp2_with fail
        go_roundg (na - (i + 1))
        case measure => omega
        case rel => exact ⟨i + 1, by go_num, by omega, Nat.le_refl _, HN.out⟩
      · obtain rfl : i = na := by omega
        have hii : ¬ (i : Int) < i := by omega
        generalize wr = U at *
        go_wp2_with fail
        clear g1
        go_loopg [9] ma (fun r iv wq => ∃ (j : Nat), iv = .int .i64 j ∧ j ≤ ma ∧ ma - j ≤ r ∧ Hid (AN x2 wq bi CA (.slice p1 i q1) (.slice p2 ma q2) i ma))
        case atStart => exact ⟨0, rfl, Nat.zero_le _, by omega, HA.out⟩
        case round =>
          obtain ⟨j, rfl, hj, hr2, HA2⟩ := hrel
          have g2 := HA2.out.cells.2.2
          by_cases hjl : j < ma
          · obtain ⟨g, u, hg, hu, hf, hst⟩ := HA2.out.syms hjl
            have HN : Hid (AN x2 (wr.setCell ⟨g, j * 3 + 2, none⟩ (.int .i64 (-7))) bi CA (.slice p1 i q1) (.slice p2 ma q2) i ma) := hst _
            subst hg
            have hjj : (j : Int) < ma := by omega
            have hjn : 0 ≤ (j : Int) := by omega
            clear hst
            go_wp2_with fail
            go_roundg (ma - (j + 1))
            case measure => omega
            case rel => exact ⟨j + 1, by go_num, by omega, Nat.le_refl _, HN.out⟩
          · obtain rfl : j = ma := by omega
            have hjj : ¬ (j : Int) < j := by omega
            have B2 : Below x2.heap.size x2 wr := HA2.out.low
            generalize wr = V at *
            go_wp2_with fail
            clear g2
            go_loopg [10] l (fun r iv wq => ∃ (k : Nat), iv = .int .i64 k ∧ k ≤ l ∧ l - k ≤ r ∧ Hid (Below x2.heap.size x2 wq))
            case atStart => exact ⟨0, rfl, Nat.zero_le _, by omega, B2⟩
            case round =>
              obtain ⟨k, rfl, hk, hr3, HB⟩ := hrel
              have bw6 : Below w.heap.size w wr := bw2.trans (HB.out.mono bw2.size)
              by_cases hkl : k < l
              · have hkk : (k : Int) < l := by omega
                have hkn : 0 ≤ (k : Int) := by omega
                rcases HV.out.cells with hx | ⟨ob, off, hA, hc⟩
                · omega
                rcases HVo.out.cells with hx | ⟨pb, poff, hA', hc'⟩
                · omega
                obtain ⟨s, hC, hO⟩ := hc k hkl
                obtain ⟨s', hC', hO'⟩ := hc' k hkl
                have hdf := HFT.out (os.getD k noObj) (by simp [List.getD, show k < os.length by omega])
                have hln := HLM.out (os.getD k noObj) (by simp [List.getD, show k < os.length by omega])
                generalize os.getD k noObj = d at *
                obtain ⟨a1, l1, c1, a2, l2, c2, a3, l3, c3⟩ := s
                obtain ⟨b1', m1, d1, b2', m2, d2, b3', m3, d3⟩ := s'
                subst hA hA'
                have HK : Hid (∀ y : World, Below wr.heap.size wr y → (fun w' : World => ((w'.cell? ⟨ob, off + k * 4, none⟩ = some (.string d.code) ∧ w'.cell? ⟨ob, off + k * 4 + 1, none⟩ = some (.slice a1 l1 c1) ∧ w'.cell? ⟨ob, off + k * 4 + 2, none⟩ = some (.slice a2 l2 c2) ∧ w'.cell? ⟨ob, off + k * 4 + 3, none⟩ = some (.slice a3 l3 c3)) ∧ (w'.cell? ⟨pb, poff + k * 4, none⟩ = some (.string d.code) ∧ w'.cell? ⟨pb, poff + k * 4 + 1, none⟩ = some (.slice b1' m1 d1) ∧ w'.cell? ⟨pb, poff + k * 4 + 2, none⟩ = some (.slice b2' m2 d2) ∧ w'.cell? ⟨pb, poff + k * 4 + 3, none⟩ = some (.slice b3' m3 d3)))) y) := fun y hb => by
                  have h1 := hC.below (bw6.trans (hb.mono bw6.size))
                  have h2 := hC'.below (HB.out.trans (hb.mono HB.out.size))
                  exact ⟨⟨h1.k0, h1.k1, h1.k2, h1.k3⟩, h2.k0, h2.k1, h2.k2, h2.k3⟩
                have HO1 : Hid (OV wr d ⟨a1, l1, c1, a2, l2, c2, a3, l3, c3⟩) := hO.below bw6
                have HO2 : Hid (OV wr d ⟨b1', m1, d1, b2', m2, d2, b3', m3, d3⟩) := hO'.below HB.out
                have hd1 : d.data.length ≤ maxLen := by have := hln.1; omega
                have hd2 : d.syms.length ≤ maxLen := by have := hln.2.1; omega
                have hd3 : d.rels.length ≤ maxLen := by have := hln.2.2; omega
                have HOV1 : Hid (ObjV wr (.agg #[.string d.code, .slice a1 l1 c1, .slice a2 l2 c2, .slice a3 l3 c3]) d) := HO1.out.objV
                have HOV2 : Hid (ObjV wr (.agg #[.string d.code, .slice b1' m1 d1, .slice b2' m2 d2, .slice b3' m3 d3]) d) := HO2.out.objV
                have hbd : Below wr.heap.size wr wr.drew := (Below.refl _ _).drew
                clear hc hc' hC hC' hO hO' hdf hln
                go_wp2_with fail
                go_region_held3 (fun w' : World => ((w'.cell? ⟨ob, off + k * 4, none⟩ = some (.string d.code) ∧ w'.cell? ⟨ob, off + k * 4 + 1, none⟩ = some (.slice a1 l1 c1) ∧ w'.cell? ⟨ob, off + k * 4 + 2, none⟩ = some (.slice a2 l2 c2) ∧ w'.cell? ⟨ob, off + k * 4 + 3, none⟩ = some (.slice a3 l3 c3)) ∧ (w'.cell? ⟨pb, poff + k * 4, none⟩ = some (.string d.code) ∧ w'.cell? ⟨pb, poff + k * 4 + 1, none⟩ = some (.slice b1' m1 d1) ∧ w'.cell? ⟨pb, poff + k * 4 + 2, none⟩ = some (.slice b2' m2 d2) ∧ w'.cell? ⟨pb, poff + k * 4 + 3, none⟩ = some (.slice b3' m3 d3)))) (first | (exact HK.out _ (Below.refl _ _).drew) | (exact HK.out _ hB9)) ((go_at_call 15; refine (same_any (HOV2.out.below hbd) (HOV1.out.below hbd) hd1 hd2 hd3 true (by simp)).mono ?_; rintro e y9 ⟨rfl, hb9⟩; have hB9 : Below wr.heap.size wr y9 := hbd.trans (hb9.mono hbd.size)))
                have HB9 : Hid (Below x2.heap.size x2 y9) := HB.out.trans (hB9.mono HB.out.size)
                clear HK HOV1 HOV2 HO1 HO2
                go_wp2_with fail
                go_roundg (l - (k + 1))
                case measure => omega
                case rel => exact ⟨k + 1, by go_num, by omega, Nat.le_refl _, HB9.out⟩
              · obtain rfl : k = l := by omega
                have hkk : ¬ (k : Int) < k := by omega
                go_wp2_with (go_at_call 10; refine (live_any _).mono ?_; rintro e y ⟨rfl, hb⟩)
                go_ret
                exact ⟨rfl, bw6.trans (hb.mono bw6.size)⟩
end Go.Proofs.Ytaoklmphcgigeaa

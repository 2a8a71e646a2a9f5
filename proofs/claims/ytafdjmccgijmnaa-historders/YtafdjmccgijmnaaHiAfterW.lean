/- After: the objects behind an order, or that it is none. -/
import Derived.Test.YtafdjmccgijmnaaHiOb
import Derived.Test.YtafdjmccgijmnaaHiAfterM
import Derived.Test.YtafdjmccgijmnaaHiOrder
namespace Go.Proofs.Ytafdjmccgijmnaa
open Go.RowKit A Go.Maps
set_option linter.unusedVariables false
set_option linter.unusedSimpArgs false
def H.aft (os : List At) (ts : List H.Ac) (ks : List Int) : Option (List At) := if mayAll os = true ∧ H.mayH ts = true then H.afterA os ts ks else none
def AftOut (w : World) (lo : Nat) (r : Option (List At)) (e : Ending) (w' : World) : Prop := Below w.heap.size w w' ∧ match r with
  | none => e = .returned (.tuple #[.slice none 0 0, .int .i64 1])
  | some s => ∃ g, e = .returned (.tuple #[.slice (some ⟨g, 0, none⟩) lo lo, .int .i64 0]) ∧ Stay w.heap.size w' (some ⟨g, 0, none⟩) lo lo s
theorem H.nowA_none {os : List At} {ts : List H.Ac} {ks : List Int} {k : Nat} (h : H.nowA os ts ks k = none) : ∀ {j : Nat}, k ≤ j → H.nowA os ts ks j = none
  | 0, hj => by obtain rfl : k = 0 := by omega
                exact h
  | j + 1, hj => by
    by_cases e : k = j + 1
    · rw [← e]; exact h
    · rw [H.nowA, H.nowA_none h (by omega : k ≤ j)]
theorem NumsV.nat {w : World} {a : Option Addr} {l c : Nat} {ks : List Int} (h : NumsV w a l c ks) (h0 : ∀ i, i < l → 0 ≤ ks.getD i 0) : NV w a l c (ks.map Int.toNat) := by
  refine ⟨by rw [List.length_map]; exact h.count, h.room, h.cells.imp id fun ⟨b, off, e, hc⟩ => ⟨b, off, e, fun i hi => ?_⟩⟩
  rw [hc i hi, H.map_toNat]
  show _ = some (Value.int .i64 ((ks.getD i 0).toNat : Int))
  rw [Int.toNat_of_nonneg (h0 i hi)]
set_option maxRecDepth 100000 in
set_option maxHeartbeats 8000000 in
theorem after_any {w : World} {a aa an : Option Addr} {lo c l cc m cn : Nat} {os : List At} {ts : List H.Ac} {ks : List Int} (hO : AtsV w a lo c os) (hlo : lo ≤ 1048576) (hA : ActsV w aa l cc ts) (hl60 : l ≤ 60) (hN : NumsV w an m cn ks) (hargs : ∀ x ∈ ts, (Lit.int .i64 x.arg).wf = true) :
    Calls Try.prog 18 #[.slice a lo c, .slice aa l cc, .slice an m cn] w (AftOut w lo (H.aft os ts ks)) := by
  have HO : Hid (AtsV w a lo c os) := hO
  have HA : Hid (ActsV w aa l cc ts) := hA
  have HN : Hid (NumsV w an m cn ks) := hN
  have HTC : Hid (ts.length = l) := hA.count
  have HKC : Hid (ks.length = m) := hN.count
  have HARG : Hid (∀ x ∈ ts, (Lit.int .i64 x.arg).wf = true) := hargs
  have hmax : maxLen = 9223372036854775807 := rfl
  have hmx := hN.room
  have hac := A.check_any hO
  have HR : Hid (H.aft os ts ks = if mayAll os = true ∧ H.mayH ts = true then H.afterA os ts ks else none) := rfl
  obtain ⟨R, hR⟩ : ∃ R, H.aft os ts ks = R := ⟨_, rfl⟩
  rw [hR] at HR
  rw [hR]
  clear hO hA hargs hN hR
  cases hm : mayAll os with
  | false =>
    rw [if_neg (by rw [hm]; decide)] at hac
    have HRN : R = none := by rw [HR.out, if_neg (by rw [hm]; simp)]
    subst HRN
    clear hm HR
    go_enter Try.func18, Try.ntmps18
    go_wp2_with fail
    refine hac.mono ?_
    rintro e y1 ⟨rfl, hy1⟩
    have HY1 : Hid (Below w.heap.size w y1) := hy1
    clear hac hy1
    go_wp2_with fail
    go_ret2
    exact ⟨HY1.out, rfl⟩
  | true =>
    rw [if_pos hm] at hac
    have HM : Hid (mayAll os = true) := hm
    cases hh : H.mayH ts with
    | false =>
      have HRN : R = none := by rw [HR.out, if_neg (by rw [hh]; simp)]
      subst HRN
      have HCH : Hid (∀ W, Below w.heap.size w W → Calls Try.prog 15 #[.slice aa l cc] W fun e w' => e = .returned (.int .i64 1) ∧ Below W.heap.size W w') := fun W hW => by
        have := check_any (HA.out.below hW)
        rw [if_neg (by rw [hh]; decide)] at this
        exact this
      clear hh HR hm
      go_enter Try.func18, Try.ntmps18
      go_wp2_with fail
      refine hac.mono ?_
      rintro e y1 ⟨rfl, hy1⟩
      have HY1 : Hid (Below w.heap.size w y1) := hy1
      have hch := HCH.out y1 HY1.out
      clear hac hy1
      go_wp2_with fail
      refine hch.mono ?_
      rintro e y2 ⟨rfl, hy2⟩
      have HY2 : Hid (Below w.heap.size w y2) := HY1.out.trans (hy2.mono HY1.out.size)
      clear hch hy2
      go_wp2_with fail
      go_ret2
      exact ⟨HY2.out, rfl⟩
    | true =>
      have HCH : Hid (∀ W, Below w.heap.size w W → Calls Try.prog 15 #[.slice aa l cc] W fun e w' => e = .returned (.int .i64 0) ∧ Below W.heap.size W w') := fun W hW => by
        have := check_any (HA.out.below hW)
        rw [if_pos hh] at this
        exact this
      have HHA : Hid (∀ W, Below w.heap.size w W → Calls Try.prog 33 #[.slice aa l cc, .slice an m cn] W fun e w' => e = .returned (.bool (H.hasAllB ts ks)) ∧ Below W.heap.size W w') := fun W hW => ohasAll_any (HA.out.below hW) hl60 (HN.out.below hW)
      cases hb : H.hasAllB ts ks with
      | false =>
        have HRN : R = none := by rw [HR.out, if_pos ⟨hm, hh⟩]; unfold H.afterA; rw [if_neg (by rw [hb]; simp)]
        subst HRN
        rw [hb] at HHA
        clear hb hh HR hm
        go_enter Try.func18, Try.ntmps18
        go_wp2_with fail
        refine hac.mono ?_
        rintro e y1 ⟨rfl, hy1⟩
        have HY1 : Hid (Below w.heap.size w y1) := hy1
        have hch := HCH.out y1 HY1.out
        clear hac hy1
        go_wp2_with fail
        refine hch.mono ?_
        rintro e y2 ⟨rfl, hy2⟩
        have HY2 : Hid (Below w.heap.size w y2) := HY1.out.trans (hy2.mono HY1.out.size)
        have hha := HHA.out y2 HY2.out
        clear hch hy2
        go_wp2_with fail
        refine hha.mono ?_
        rintro e y3 ⟨rfl, hy3⟩
        have HY3 : Hid (Below w.heap.size w y3) := HY2.out.trans (hy3.mono HY2.out.size)
        clear hha hy3
        go_wp2_with fail
        go_ret2
        exact ⟨HY3.out, rfl⟩
      | true =>
        obtain ⟨dd, htook⟩ : ∃ d, H.took ts.length ks ks.length = some d := by
          unfold H.hasAllB at hb
          cases ht : H.took ts.length ks ks.length with
          | none => rw [ht] at hb; cases hb
          | some d => exact ⟨d, rfl⟩
        have HIN : Hid (∀ i, i < m → 0 ≤ ks.getD i 0 ∧ ks.getD i 0 < l) := fun i hi => by
          have := H.took_in htook (i := i) (by rw [HKC.out]; exact hi)
          rw [HTC.out] at this
          exact this
        have HKE : Hid (∀ W, Below w.heap.size w W → Calls Try.prog 34 #[.slice aa l cc, .slice an m cn] W fun e w' => e = .returned (.bool (H.keepsB ts (ks.map Int.toNat))) ∧ Below W.heap.size W w') := fun W hW => keeps_any (HA.out.below hW) ((HN.out.below hW).nat fun i hi => (HIN.out i hi).1) (fun x hx => by
          obtain ⟨z, hz, rfl⟩ := List.mem_map.1 hx
          obtain ⟨i, hi, rfl⟩ := List.mem_iff_getElem.1 hz
          have := HIN.out i (by rw [← HKC.out]; exact hi)
          rw [show ks.getD i 0 = ks[i] from by simp [List.getD, hi]] at this
          omega)
        rw [hb] at HHA
        clear htook
        cases hk : H.keepsB ts (ks.map Int.toNat) with
        | false =>
          have HRN : R = none := by rw [HR.out, if_pos ⟨hm, hh⟩]; unfold H.afterA; rw [if_neg (by rw [hk]; simp)]
          subst HRN
          rw [hk] at HKE
          clear hb hh HR hm hk
          go_enter Try.func18, Try.ntmps18
          go_wp2_with fail
          refine hac.mono ?_
          rintro e y1 ⟨rfl, hy1⟩
          have HY1 : Hid (Below w.heap.size w y1) := hy1
          have hch := HCH.out y1 HY1.out
          clear hac hy1
          go_wp2_with fail
          refine hch.mono ?_
          rintro e y2 ⟨rfl, hy2⟩
          have HY2 : Hid (Below w.heap.size w y2) := HY1.out.trans (hy2.mono HY1.out.size)
          have hha := HHA.out y2 HY2.out
          clear hch hy2
          go_wp2_with fail
          refine hha.mono ?_
          rintro e y3 ⟨rfl, hy3⟩
          have HY3 : Hid (Below w.heap.size w y3) := HY2.out.trans (hy3.mono HY2.out.size)
          have hke := HKE.out y3 HY3.out
          clear hha hy3
          go_wp2_with fail
          refine hke.mono ?_
          rintro e y4 ⟨rfl, hy4⟩
          have HY4 : Hid (Below w.heap.size w y4) := HY3.out.trans (hy4.mono HY3.out.size)
          clear hke hy4
          go_wp2_with fail
          go_ret2
          exact ⟨HY4.out, rfl⟩
        | true =>
          have HRS : Hid (H.nowA os ts ks m = R) := by rw [HR.out, if_pos ⟨hm, hh⟩]; unfold H.afterA; rw [if_pos ⟨hb, hk⟩, HKC.out]; exact rfl
          rw [hk] at HKE
          have HCL : Hid (∀ W, Below w.heap.size w W → Calls Try.prog 35 #[.slice a lo c] W fun e w' => e = .returned (.slice (some ⟨W.heap.size, 0, none⟩) lo lo) ∧ OB W.heap.size w' W.heap.size lo os ∧ Below W.heap.size W w') := fun W hW => by
            refine (A.hclone_any (HO.out.below hW) hlo (may_items HM.out)).mono ?_
            rintro e y ⟨he, ⟨vs, hx⟩, hb⟩
            exact ⟨he, OB.of hx HO.out.count HO.out.fits (Nat.le_refl _), hb⟩
          clear hb hh HR hm hk
          go_enter Try.func18, Try.ntmps18
          go_wp2_with fail
          refine hac.mono ?_
          rintro e y1 ⟨rfl, hy1⟩
          have HY1 : Hid (Below w.heap.size w y1) := hy1
          have hch := HCH.out y1 HY1.out
          clear hac hy1
          go_wp2_with fail
          refine hch.mono ?_
          rintro e y2 ⟨rfl, hy2⟩
          have HY2 : Hid (Below w.heap.size w y2) := HY1.out.trans (hy2.mono HY1.out.size)
          have hha := HHA.out y2 HY2.out
          clear hch hy2
          go_wp2_with fail
          refine hha.mono ?_
          rintro e y3 ⟨rfl, hy3⟩
          have HY3 : Hid (Below w.heap.size w y3) := HY2.out.trans (hy3.mono HY2.out.size)
          have hke := HKE.out y3 HY3.out
          clear hha hy3
          go_wp2_with fail
          refine hke.mono ?_
          rintro e y4 ⟨rfl, hy4⟩
          have HY4 : Hid (Below w.heap.size w y4) := HY3.out.trans (hy4.mono HY3.out.size)
          have hcl := HCL.out y4 HY4.out
          clear hke hy4
          go_wp2_with fail
          refine hcl.mono ?_
          rintro e Y5 ⟨rfl, hob, hy5⟩
          have HOB5 : Hid _ := hob
          have HY5 : Hid (Below w.heap.size w Y5) := HY4.out.trans (hy5.mono HY4.out.size)
          have HG : Hid (w.heap.size ≤ y4.heap.size) := HY4.out.size
          clear hcl hy5 hob HCL HKE HHA HCH
          obtain ⟨g, hg⟩ : ∃ g, y4.heap.size = g := ⟨_, rfl⟩
          rw [hg] at HOB5 HG
          try rw [hg]
          clear HY4 HY3 HY2 HY1
          go_wp2_with fail
          go_loopg [10, 11, 12, 13, 38] m (fun r z10 z11 z12 z13 iv wq => ∃ (k : Nat) (s : List At), r = m - k ∧ iv = .int .i64 k ∧ k ≤ m ∧ Hid (H.nowA os ts ks k = some s) ∧ Hid (mayAll s = true) ∧ Hid (OB g wq g lo s) ∧ Hid (Below w.heap.size w wq))
          case atStart => exact ⟨0, os, rfl, rfl, Nat.zero_le _, rfl, HM, HOB5, HY5⟩
          case round =>
            obtain ⟨k, s, rfl, rfl, hk, HNOW, HMAY, HOB, HB⟩ := hrel
            by_cases hkm : k < m
            · have hki : (k : Int) < m := by omega
              have hk0 : 0 ≤ (k : Int) := by omega
              obtain ⟨bn, on, hab, ci⟩ := (HN.out.below HB.out).at hkm
              subst hab
              have hin := HIN.out k hkm
              obtain ⟨q, hqq⟩ : ∃ q : Nat, ks.getD k 0 = q := ⟨(ks.getD k 0).toNat, by omega⟩
              have HQ : Hid (ks.getD k 0 = q) := hqq
              rw [hqq] at ci hin
              clear hqq
              have hql : q < l := by omega
              have hqi : (q : Int) < l := by omega
              have hq0 : 0 ≤ (q : Int) := by omega
              clear hin
              obtain ⟨b, off, hab, p0, p1, p2, p3, p4, p5, p6⟩ := (HA.out.below HB.out).at hql
              subst hab
              have HX : Hid ((Lit.int .i64 (ts.getD q H.noAc).arg).wf = true) := HARG.out _ (by simp [List.getD, show q < ts.length by rw [HTC.out]; exact hql])
              have HNX : Hid (H.nowA os ts ks (k + 1) = if H.goes s (ts.getD q H.noAc) = true then some (H.made s (ts.getD q H.noAc)).1 else none) := by
                show H.nowA os ts ks (k + 1) = _
                rw [H.nowA, HNOW.out, HQ.out]
                rfl
              obtain ⟨x, hx⟩ : ∃ x, ts.getD q H.noAc = x := ⟨_, rfl⟩
              rw [hx] at p0 p1 p2 p3 p4 p5 p6 HX HNX
              clear hx
              have hobj := objectOf_any HOB.out.view x
              have HP : Hid (∀ y, Below wr.heap.size wr y → y.cell? ⟨b, off + q * 7, none⟩ = some (.int .i64 x.th) ∧ y.cell? ⟨b, off + q * 7 + 1, none⟩ = some (.int .i64 x.dd) ∧ y.cell? ⟨b, off + q * 7 + 2, none⟩ = some (.string x.nm) ∧ y.cell? ⟨b, off + q * 7 + 3, none⟩ = some (.int .i64 x.arg) ∧ y.cell? ⟨b, off + q * 7 + 4, none⟩ = some (.int .i64 x.call) ∧ y.cell? ⟨b, off + q * 7 + 5, none⟩ = some (.int .i64 x.back) ∧ y.cell? ⟨b, off + q * 7 + 6, none⟩ = some (.int .i64 x.ans)) := fun y hy => ⟨hcell_thru hy p0, hcell_thru hy p1, hcell_thru hy p2, hcell_thru hy p3, hcell_thru hy p4, hcell_thru hy p5, hcell_thru hy p6⟩
              have hgl := H.goes_local HMAY.out x
              have hdl := (H.do_local HMAY.out x).2
              have HJ : Hid (∀ j, H.obAt s x = some j → j < lo) := fun j e => by
                rw [← HOB.out.len]
                unfold H.obAt at e
                split at e
                · next hh => cases e; exact hh.1
                · cases e
              cases hob : H.obAt s x with
              | none =>
                rw [hob] at hobj hgl hdl
                have HGL : Hid (H.goes s x = H.goes [] x) := hgl
                have HDL : Hid ((H.made s x).1 = s) := hdl
                have HV : Hid (AtsV wr none 0 0 []) := (⟨rfl, by simp, fun _ => ⟨rfl, rfl⟩, ⟨Nat.le_refl _, Nat.zero_le _⟩, .inl rfl⟩ : AtsV wr none 0 0 [])
                have HIT : Hid (∀ x ∈ ([] : List At), x.items.length * 8 ≤ 140737488355328) := fun z hz => by cases hz
                have HDO : Hid (∀ W, Below wr.heap.size wr W → Calls Try.prog 37 #[.slice none 0 0, x.v] W fun e w' => ∃ g2, e = .returned (.tuple #[.slice (some ⟨g2, 0, none⟩) 0 0, .bool (H.goes s x)]) ∧ Stay W.heap.size w' (some ⟨g2, 0, none⟩) 0 0 (H.made [] x).1 ∧ W.heap.size ≤ g2 ∧ Below W.heap.size W w') := fun W hW => by
                  rw [HGL.out]
                  exact hdo_any (HV.out.below hW) (by decide) HIT.out x HX.out
                clear hgl hdl hob HIT HV HJ
                unfold H.obSl at hobj
                unfold H.Ac.v at hobj HDO
                simp only [Option.map, Nat.zero_add] at hobj
                go_wp2_with fail
                refine hobj.mono ?_
                rintro e V1 ⟨rfl, hv1⟩
                have HV1 : Hid (Below wr.heap.size wr V1) := hv1
                have hdo := HDO.out V1 hv1
                obtain ⟨r0, r1, r2, r3, r4, r5, r6⟩ := HP.out V1 hv1
                clear hobj hv1 HDO p0 p1 p2 p3 p4 p5 p6 ci
                go_wp2_with fail
                refine hdo.mono ?_
                rintro e V2 ⟨g2, rfl, hst, hg2, hv2⟩
                have HV2 : Hid (Below wr.heap.size wr V2) := HV1.out.trans (hv2.mono HV1.out.size)
                have HST : Hid _ := hst
                have HG2 : Hid (V1.heap.size ≤ g2) := hg2
                clear hdo hst hg2 hv2 r0 r1 r2 r3 r4 r5 r6
                cases hgo : H.goes s x with
                | false =>
                  have HRN : R = none := by
                    rw [← HRS.out]
                    refine H.nowA_none (k := k + 1) ?_ hkm
                    rw [HNX.out, hgo]; rfl
                  subst HRN
                  clear hgo
                  go_wp2_with fail
                  go_ret2
                  exact ⟨HB.out.trans (HV2.out.mono HB.out.size), rfl⟩
                | true =>
                  have HNN : Hid (H.nowA os ts ks (k + 1) = some (H.made s x).1) := by rw [HNX.out, hgo]; rfl
                  have HMN : Hid (mayAll (H.made s x).1 = true) := H.made_may HMAY.out x
                  clear hgo
                  have hcp : ∀ ty, (Builtin.copy_ #[22, 22] ty #[.slice none 0 0, .slice (some ⟨g2, 0, none⟩) 0 0]).run Try.prog V2 = .ok (goInt 0) V2 := fun ty => run_copy_wide0 V2 _ _ ty 49 none _ 0 0 0 0 Try.underlying22 (by kernel_rfl) rfl
                  have HOB3 : Hid (OB g V2 g lo (H.made s x).1) := by rw [HDL.out]; exact HOB.out.below HV2.out
                  go_wp2_with fail
                  go_roundg (m - (k + 1))
                  case measure => omega
                  case rel => exact ⟨k + 1, _, rfl, by go_num, by omega, HNN, HMN, HOB3, HB.out.trans (HV2.out.mono HB.out.size)⟩
              | some j =>
                rw [hob] at hobj hgl hdl
                have HGL : Hid (H.goes s x = H.goes [s.getD j noAt] x) := hgl
                have HDL : Hid ((H.made s x).1 = s.set j ((H.made [s.getD j noAt] x).1.getD 0 noAt)) := hdl
                have HV : Hid (AtsV wr (some ⟨g, j * 4, none⟩) 1 (lo - j) [s.getD j noAt]) := by have := HOB.out.view.one (HJ.out j hob); simp only [Option.map, Nat.zero_add] at this; exact this
                have HJL : Hid (j < lo) := HJ.out j hob
                have HIT : Hid (∀ x ∈ ([s.getD j noAt] : List At), x.items.length * 8 ≤ 140737488355328) := fun z hz => by rw [List.mem_singleton.1 hz]; exact may_items HMAY.out _ (by simp [List.getD, show j < s.length by rw [HOB.out.len]; exact HJL.out])
                have HDO : Hid (∀ W, Below wr.heap.size wr W → Calls Try.prog 37 #[.slice (some ⟨g, j * 4, none⟩) 1 (lo - j), x.v] W fun e w' => ∃ g2, e = .returned (.tuple #[.slice (some ⟨g2, 0, none⟩) 1 1, .bool (H.goes s x)]) ∧ Stay W.heap.size w' (some ⟨g2, 0, none⟩) 1 1 (H.made [s.getD j noAt] x).1 ∧ W.heap.size ≤ g2 ∧ Below W.heap.size W w') := fun W hW => by
                  rw [HGL.out]
                  exact hdo_any (HV.out.below hW) (by decide) HIT.out x HX.out
                clear hgl hdl hob HIT HV HJ
                unfold H.obSl at hobj
                unfold H.Ac.v at hobj HDO
                simp only [Option.map, Nat.zero_add] at hobj
                go_wp2_with fail
                refine hobj.mono ?_
                rintro e V1 ⟨rfl, hv1⟩
                have HV1 : Hid (Below wr.heap.size wr V1) := hv1
                have hdo := HDO.out V1 hv1
                obtain ⟨r0, r1, r2, r3, r4, r5, r6⟩ := HP.out V1 hv1
                clear hobj hv1 HDO p0 p1 p2 p3 p4 p5 p6 ci
                go_wp2_with fail
                refine hdo.mono ?_
                rintro e V2 ⟨g2, rfl, hst, hg2, hv2⟩
                have HV2 : Hid (Below wr.heap.size wr V2) := HV1.out.trans (hv2.mono HV1.out.size)
                have HST : Hid _ := hst
                have HG2 : Hid (V1.heap.size ≤ g2) := hg2
                clear hdo hst hg2 hv2 r0 r1 r2 r3 r4 r5 r6
                cases hgo : H.goes s x with
                | false =>
                  have HRN : R = none := by
                    rw [← HRS.out]
                    refine H.nowA_none (k := k + 1) ?_ hkm
                    rw [HNX.out, hgo]; rfl
                  subst HRN
                  clear hgo
                  go_wp2_with fail
                  go_ret2
                  exact ⟨HB.out.trans (HV2.out.mono HB.out.size), rfl⟩
                | true =>
                  have HNN : Hid (H.nowA os ts ks (k + 1) = some (H.made s x).1) := by rw [HNX.out, hgo]; rfl
                  have HMN : Hid (mayAll (H.made s x).1 = true) := H.made_may HMAY.out x
                  clear hgo
                  obtain ⟨z, hz⟩ : ∃ z, (H.made [s.getD j noAt] x).1 = [z] := by
                    have hlen := ((H.Like.refl [s.getD j noAt]).made x).len
                    match hm : (H.made [s.getD j noAt] x).1, hlen with
                    | [z], _ => exact ⟨z, rfl⟩
                  rw [hz] at HST HDL
                  rw [List.getD_cons_zero] at HDL
                  obtain ⟨V3, hcp, hob3, hb3⟩ := (HOB.out.below HV2.out).copy HJL.out HST.out (Nat.le_trans (Nat.le_of_lt HOB.out.lt) HV1.out.size) (Nat.lt_of_lt_of_le HOB.out.lt HV1.out.size) HG2.out (lo - j)
                  simp only [Nat.zero_add] at hcp
                  rw [← HDL.out] at hob3
                  have HOB3 : Hid (OB g V3 g lo (H.made s x).1) := hob3
                  have HB3 : Hid (Below w.heap.size w V3) := (HB.out.trans (HV2.out.mono HB.out.size)).trans (hb3.mono HG.out)
                  clear hob3 hb3
                  go_wp2_with fail
                  go_roundg (m - (k + 1))
                  case measure => omega
                  case rel => exact ⟨k + 1, _, rfl, by go_num, by omega, HNN, HMN, HOB3, HB3⟩
            · have hkk : k = m := by omega
              subst hkk
              have hki : ¬ (k : Int) < k := by omega
              have HRR : R = some s := by rw [← HRS.out]; exact HNOW.out
              subst HRR
              go_wp2_with fail
              go_ret2
              exact ⟨HB.out, g, rfl, HOB.out.stay.base HG.out⟩
end Go.Proofs.Ytafdjmccgijmnaa

/- Whether a history may be: the document's way. -/
import Derived.Test.YtafdjmccgijmnaaHiMayM
import Derived.Test.YtafdjmccgijmnaaHiRefDo
import Derived.Deep.CutRange
namespace Go.Proofs.Ytafdjmccgijmnaa
open Go.RowKit A Go.Maps
set_option linter.unusedVariables false
set_option linter.unusedSimpArgs false
theorem ncell_at {w : World} {cs : Array Value} {t : TypeId} {j : Nat} {u : Value} (h : cs[j]? = some u) : (w.alloc (.cells cs t)).cell? ⟨w.heap.size, j, none⟩ = some u := A.cell_last rfl h
set_option maxRecDepth 100000 in
set_option maxHeartbeats 8000000 in
theorem rMayBe_any {w : World} {a : Option Addr} {l c : Nat} {ts : List H.Ac} (h : ActsV w a l c ts) :
    Calls Try.prog 26 #[.slice a l c] w fun e w' => e = .returned (.bool (H.mayH ts)) ∧ Below w.heap.size w w' := by
  rw [← H.mayD_eq]
  have HV : Hid (ActsV w a l c ts) := h
  have HC : Hid (ts.length = l) := h.count
  have hm := h.room
  have hmax : maxLen = 9223372036854775807 := rfl
  obtain ⟨R, hR⟩ : ∃ R, H.mayD ts = R := ⟨_, rfl⟩
  have HR : Hid (H.mayD ts = R) := hR
  rw [hR]
  clear h hR
  by_cases h60 : l ≤ 60
  rotate_left
  · have HR1 : Hid (R = false) := by
      show _ = _
      rw [← HR.out]
      unfold H.mayD
      rw [HC.out, decide_eq_false h60]
      rfl
    have hgt : (60 : Int) < l := by omega
    go_enter Try.func26, Try.ntmps26
    go_wp2_with fail
    go_ret
    exact ⟨by rw [HR1.out]; rfl, Below.refl _ _⟩
  have HNO : Hid (∀ i, i < l → H.rowD ts i = false → R = false) := fun i hi e => by
    rw [← HR.out]
    unfold H.mayD
    rw [HC.out, A.all_range_no hi e, Bool.and_false]
  have HYES : Hid ((∀ i, i < l → H.rowD ts i = true) → R = true) := fun e => by
    rw [← HR.out]
    unfold H.mayD
    rw [HC.out, A.all_range_yes e, decide_eq_true h60]
    rfl
  have hgt : ¬ (60 : Int) < l := by omega
  go_enter Try.func26, Try.ntmps26
  go_wp2_with fail
  go_loopg [3, 4, 5, 6] l (fun r iv z4 z5 z6 wq => ∃ (i : Nat), r = l - i ∧ iv = .int .i64 i ∧ i ≤ l ∧ Hid (∀ i', i' < i → H.rowD ts i' = true) ∧ Hid (Below w.heap.size w wq))
  case atStart => exact ⟨0, rfl, rfl, Nat.zero_le _, (fun i hi => by omega : ∀ i', i' < 0 → H.rowD ts i' = true), Below.refl _ _⟩
  case round =>
    obtain ⟨i, rfl, rfl, hi, HAL, HB⟩ := hrel
    by_cases him : i < l
    · have hii : (i : Int) < l := by omega
      have hin : 0 ≤ (i : Int) := by omega
      obtain ⟨b, off, hab, p0, p1, p2, p3, p4, p5, p6⟩ := (HV.out.below HB.out).at him
      subst hab
      have HNR : Hid (H.rowD ts i = false → R = false) := HNO.out i him
      have HRW : Hid (H.rowD ts i = ((ts.getD i H.noAc).may && (List.range l).all (H.okD ts i))) := by show _ = _; rw [← HC.out]; rfl
      have HOK : Hid (∀ k, H.okD ts i k = (decide (i = k) || (!decide ((ts.getD i H.noAc).th = (ts.getD k H.noAc).th) || !((ts.getD i H.noAc).badD (ts.getD k H.noAc))))) := fun k => rfl
      obtain ⟨x, hx⟩ : ∃ x, ts.getD i H.noAc = x := ⟨_, rfl⟩
      rw [hx] at p0 p1 p2 p3 p4 p5 p6 HRW HOK
      clear hx
      obtain ⟨th, dd, nm, arg, call, back, ans⟩ := x
      have HMAY : Hid (H.Ac.may ⟨th, dd, nm, arg, call, back, ans⟩ = (decide (0 ≤ th) && (decide (th < 4) && (decide (0 ≤ call) && (decide (back = -1) || decide (call < back)))))) := rfl
      simp only at p0 p1 p2 p3 p4 p5 p6
      have HW1 : Hid (∀ y, Below wr.heap.size wr y → Below w.heap.size w y) := fun y hy => HB.out.trans (hy.mono HB.out.size)
      obtain ⟨W1, hW1⟩ : ∃ q, q = wr := ⟨_, rfl⟩
      subst hW1
      obtain ⟨Y, hY⟩ : ∃ Y, W1.alloc (.cells #[.int .i64 th, .int .i64 dd, .string nm, .int .i64 arg, .int .i64 call, .int .i64 back, .int .i64 ans] 42) = Y := ⟨_, rfl⟩
      have HBY : Hid (Below W1.heap.size W1 Y) := by show Below _ _ _; rw [← hY]; exact hbl1 _ _
      have d0 : Y.cell? ⟨W1.heap.size, 0, none⟩ = some (.int .i64 th) := by rw [← hY]; exact ncell_at rfl
      have d4 : Y.cell? ⟨W1.heap.size, 4, none⟩ = some (.int .i64 call) := by rw [← hY]; exact ncell_at rfl
      have d5 : Y.cell? ⟨W1.heap.size, 5, none⟩ = some (.int .i64 back) := by rw [← hY]; exact ncell_at rfl
      have HFAIL : Hid (H.Ac.may ⟨th, dd, nm, arg, call, back, ans⟩ = false → R = false) := fun e => HNR.out (by rw [HRW.out, e]; rfl)
      by_cases c1 : th < 0
      · have HRF := HFAIL.out (by rw [HMAY.out, decide_eq_false (by omega : ¬ 0 ≤ th)]; rfl)
        subst HRF
        go_wp2_with fail
        go_ret
        exact ⟨rfl, HW1.out _ HBY.out⟩
      by_cases c2 : 3 < th
      · have HRF := HFAIL.out (by rw [HMAY.out, decide_eq_false (by omega : ¬ th < 4)]; simp)
        subst HRF
        go_wp2_with fail
        go_ret
        exact ⟨rfl, HW1.out _ HBY.out⟩
      by_cases c3 : call < 0
      · have HRF := HFAIL.out (by rw [HMAY.out, decide_eq_false (by omega : ¬ 0 ≤ call)]; simp)
        subst HRF
        go_wp2_with fail
        go_ret
        exact ⟨rfl, HW1.out _ HBY.out⟩
      by_cases c4 : (back != -1) = true ∧ back ≤ call
      · obtain ⟨c4, c5⟩ := c4
        have HRF := HFAIL.out (by rw [HMAY.out, decide_eq_false (by omega : ¬ call < back), decide_eq_false (show ¬ back = -1 by simpa using c4)]; simp)
        subst HRF
        go_wp2_with fail
        go_ret
        exact ⟨rfl, HW1.out _ HBY.out⟩
      have HMT : Hid (H.Ac.may ⟨th, dd, nm, arg, call, back, ans⟩ = true) := by
        show _ = _
        rw [HMAY.out, decide_eq_true (by omega : 0 ≤ th), decide_eq_true (by omega : th < 4), decide_eq_true (by omega : 0 ≤ call)]
        by_cases e : back = -1
        · rw [decide_eq_true e]; rfl
        · rw [decide_eq_true (show call < back from by have : ¬ back ≤ call := fun h => c4 ⟨by simpa using e, h⟩
                                                       omega)]; simp
      have hc4 : (back != -1) = false ∨ (back != -1) = true ∧ ¬ back ≤ call := by
        cases hb : (back != -1) with
        | false => exact .inl rfl
        | true => exact .inr ⟨rfl, fun h => c4 ⟨hb, h⟩⟩
      clear c4
      go_upto_region 7 with fail
      go_cut [44] from 10 to 88 (fun v wx => v = .bool false ∧ wx = Y)
      case first =>
        rcases hc4 with c4 | ⟨c4, c5⟩
        · go_wp2_with fail
          go_meet
          exact ⟨rfl, rfl⟩
        · go_wp2_with fail
          go_meet
          exact ⟨rfl, rfl⟩
      obtain ⟨rfl, hwc⟩ := hcut
      have hwc2 := hwc.symm
      subst hwc2
      have HD : Hid (∀ y, Below Y.heap.size Y y → y.cell? ⟨W1.heap.size, 0, none⟩ = some (.int .i64 th) ∧ y.cell? ⟨W1.heap.size, 4, none⟩ = some (.int .i64 call) ∧ y.cell? ⟨W1.heap.size, 5, none⟩ = some (.int .i64 back)) := fun y hy => ⟨hcell_thru hy d0, hcell_thru hy d4, hcell_thru hy d5⟩
      clear d0 d4 d5 p0 p1 p2 p3 p4 p5 p6 hY c1 c2 c3 hc4
      go_wp2_with fail
      go_loopg [5, 6] l (fun r iv z6 wq => ∃ (k : Nat), r = l - k ∧ iv = .int .i64 k ∧ k ≤ l ∧ Hid (∀ k', k' < k → H.okD ts i k' = true) ∧ Hid (Below Y.heap.size Y wq))
      case atStart => exact ⟨0, rfl, rfl, Nat.zero_le _, (fun k hk => by omega : ∀ k', k' < 0 → H.okD ts i k' = true), Below.refl _ _⟩
      case round =>
        obtain ⟨k, rfl, rfl, hk, HAK, HBK⟩ := hrel
        have HBW : Hid (Below w.heap.size w wr) := HW1.out _ (HBY.out.trans (HBK.out.mono HBY.out.size))
        by_cases hkl : k < l
        · have hki : (k : Int) < l := by omega
          have hkn : 0 ≤ (k : Int) := by omega
          obtain ⟨b', off', e, p0, p1, p2, p3, p4, p5, p6⟩ := (HV.out.below HBW.out).at hkl
          cases e
          have HOKK := HOK.out k
          have HNX : Hid (H.okD ts i k = true → ∀ k', k' < k + 1 → H.okD ts i k' = true) := fun e k' hk' => by
            by_cases e2 : k' = k
            · subst e2; exact e
            · exact HAK.out k' (by omega)
          have HBAD : Hid (H.okD ts i k = false → R = false) := fun e => HNR.out (by rw [HRW.out, A.all_range_no hkl e, Bool.and_false])
          obtain ⟨z, hz⟩ : ∃ z, ts.getD k H.noAc = z := ⟨_, rfl⟩
          rw [hz] at p0 p1 p2 p3 p4 p5 p6 HOKK
          clear hz
          obtain ⟨th2, dd2, nm2, arg2, call2, back2, ans2⟩ := z
          have HOKK : Hid (H.okD ts i k = (decide (i = k) || (!decide (th = th2) || !(decide (call = call2) || (decide (call < call2) && (decide (back < 0) || decide (call2 ≤ back))))))) := HOKK
          simp only at p0 p1 p2 p3 p4 p5 p6
          obtain ⟨d0, d4, d5⟩ := HD.out wr HBK.out
          obtain ⟨Z, hZ⟩ : ∃ Y, wr.alloc (.cells #[.int .i64 th2, .int .i64 dd2, .string nm2, .int .i64 arg2, .int .i64 call2, .int .i64 back2, .int .i64 ans2] 42) = Y := ⟨_, rfl⟩
          have hbz : Below wr.heap.size wr Z := by rw [← hZ]; exact hbl1 _ _
          have HBZ : Hid (Below Y.heap.size Y Z) := HBK.out.trans (hbz.mono HBK.out.size)
          have HBWZ : Hid (Below w.heap.size w Z) := HBW.out.trans (hbz.mono HBW.out.size)
          have d0 := hcell_thru hbz d0
          have d4 := hcell_thru hbz d4
          have d5 := hcell_thru hbz d5
          have f0 : Z.cell? ⟨wr.heap.size, 0, none⟩ = some (.int .i64 th2) := by rw [← hZ]; exact ncell_at rfl
          have f4 : Z.cell? ⟨wr.heap.size, 4, none⟩ = some (.int .i64 call2) := by rw [← hZ]; exact ncell_at rfl
          clear hbz
          by_cases hik : i = k
          · have HN2 : Hid _ := HNX.out (by rw [HOKK.out, decide_eq_true hik]; rfl)
            have e1 : ((i : Int) == (k : Int)) = true := by rw [hik]; simp
            clear hik
            go_wp2_with fail
            go_roundg (l - (k + 1))
            case measure => omega
            case rel => exact ⟨k + 1, rfl, by go_num, by omega, HN2, HBZ⟩
          have e1 : ((i : Int) == (k : Int)) = false := by have : ¬ (i : Int) = k := by omega
                                                           simpa using this
          rw [decide_eq_false hik] at HOKK
          clear hik
          by_cases hth : th = th2
          rotate_left
          · have HN2 : Hid _ := HNX.out (by rw [HOKK.out, decide_eq_false hth]; rfl)
            have e2 : (th != th2) = true := by simpa using hth
            clear hth
            go_wp2_with fail
            go_roundg (l - (k + 1))
            case measure => omega
            case rel => exact ⟨k + 1, rfl, by go_num, by omega, HN2, HBZ⟩
          have e2 : (th != th2) = false := by simpa using hth
          rw [decide_eq_true hth] at HOKK
          clear hth
          by_cases hc : call = call2
          · have HRF := HBAD.out (by rw [HOKK.out, decide_eq_true hc]; rfl)
            subst HRF
            have e3 : (call == call2) = true := by simpa using hc
            clear hc
            go_wp2_with fail
            go_ret
            exact ⟨rfl, HBWZ.out⟩
          have e3 : (call == call2) = false := by simpa using hc
          rw [decide_eq_false hc] at HOKK
          clear hc
          by_cases hlt : call < call2
          rotate_left
          · have HN2 : Hid _ := HNX.out (by rw [HOKK.out, decide_eq_false hlt]; rfl)
            go_wp2_with fail
            go_roundg (l - (k + 1))
            case measure => omega
            case rel => exact ⟨k + 1, rfl, by go_num, by omega, HN2, HBZ⟩
          rw [decide_eq_true hlt] at HOKK
          by_cases hb0 : back < 0
          · have HRF := HBAD.out (by rw [HOKK.out, decide_eq_true hb0]; rfl)
            subst HRF
            go_wp2_with fail
            go_ret
            exact ⟨rfl, HBWZ.out⟩
          rw [decide_eq_false hb0] at HOKK
          by_cases hge : call2 ≤ back
          · have HRF := HBAD.out (by rw [HOKK.out, decide_eq_true hge]; rfl)
            subst HRF
            go_wp2_with fail
            go_ret
            exact ⟨rfl, HBWZ.out⟩
          · have HN2 : Hid _ := HNX.out (by rw [HOKK.out, decide_eq_false hge]; rfl)
            go_wp2_with fail
            go_roundg (l - (k + 1))
            case measure => omega
            case rel => exact ⟨k + 1, rfl, by go_num, by omega, HN2, HBZ⟩
        · have hkk2 : k = l := by omega
          subst hkk2
          have hkk : ¬ (k : Int) < k := by omega
          have HRT : H.rowD ts i = true := by rw [HRW.out, HMT.out, A.all_range_yes HAK.out]; rfl
          have HN3 : Hid (∀ i', i' < i + 1 → H.rowD ts i' = true) := fun i' hi' => by
            by_cases e2 : i' = i
            · subst e2; exact HRT
            · exact HAL.out i' (by omega)
          clear HRT
          go_wp2_with fail
          go_roundg (k - (i + 1))
          case measure => omega
          case rel => exact ⟨i + 1, rfl, by go_num, by omega, HN3, HBW⟩
    · have hii2 : i = l := by omega
      subst hii2
      have hii : ¬ (i : Int) < i := by omega
      have HRT : R = true := HYES.out HAL.out
      subst HRT
      go_wp2_with fail
      go_ret
      exact ⟨rfl, HB.out⟩
end Go.Proofs.Ytafdjmccgijmnaa

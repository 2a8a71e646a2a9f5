/- What atom.Check comes to. -/
import Derived.Test.YtafdjmccgijmnaaAtSmall
namespace Go.Proofs.Ytafdjmccgijmnaa.A
open Go.RowKit Go.Maps
set_option linter.unusedVariables false

theorem lawS : Keyed Try.prog 9 := string_keyed Try.underlying9
theorem zeroI (w : World) : (zeroValue 3).run Try.prog w = .ok (.int .i64 0) w := by kernel_rfl
theorem take_snocA (os : List At) (k : Nat) (h : k < os.length) : (os.map At.name).take (k + 1) = (os.map At.name).take k ++ [(os.getD k noAt).name] := by
  rw [List.take_succ_eq_append_getElem (by simpa using h)]; congr 1; simp [List.getD, h]
theorem free_any {os : List At} {k : Nat} (hk : k < os.length) : freeName os k = !(((os.map At.name).take k).any (fun y => decide (y = (os.getD k noAt).name))) := by
  unfold freeName
  cases h : ((os.map At.name).take k).any (fun y => decide (y = (os.getD k noAt).name)) with
  | true =>
    rw [List.any_eq_true] at h
    obtain ⟨y, hy, e⟩ := h
    rw [← List.map_take] at hy
    obtain ⟨s, hs, rfl⟩ := List.mem_map.1 hy
    obtain ⟨i, hi, rfl⟩ := List.getElem_of_mem hs
    rw [List.length_take] at hi
    rw [List.getElem_take] at e
    refine all_range_no (i := i) (by omega) ?_
    simp only [decide_eq_true_eq] at e
    simp [List.getD, show i < os.length by omega, hk] at e ⊢
    exact e
  | false =>
    refine all_range_yes (fun i hi => ?_)
    rw [← Bool.not_eq_true, List.any_eq_true] at h
    rw [decide_eq_true_eq]
    intro e
    apply h
    refine ⟨(os.getD i noAt).name, ?_, decide_eq_true e⟩
    rw [← List.map_take]
    refine List.mem_map.2 ⟨os.getD i noAt, ?_, rfl⟩
    rw [show os.getD i noAt = (os.take k)[i]'(by rw [List.length_take]; omega) by simp [List.getD, show i < os.length by omega]]
    exact List.getElem_mem _

theorem lit_inj {c d : Int} (h : (DataW.lit (.int .i64 c) : DataW Unit) = .lit (.int .i64 d)) : c = d := by injection h with h; injection h
theorem elemI (c : Int) (h : (Lit.int .i64 c).wf = true) : plainElem (H := Unit) Try.prog 3 (.int .i64 c) = some (.lit (.int .i64 c), []) := plainElem_int Try.underlying3 h
theorem below_grown {n : Nat} {w x y : World} {b : Nat} (h : Below n w x) (g : x.grownBy y (some b)) (hb : n ≤ b) (hn : n ≤ w.heap.size) : Below n w y :=
  ⟨by rw [g.os, h.os], by rw [g.tape, h.tape], by rw [g.output, h.output], Nat.le_trans h.size g.size, fun k hk => (g.block k (by have := h.size; omega) (by simp; omega)).trans (h.block k hk)⟩

set_option maxRecDepth 100000 in
set_option maxHeartbeats 8000000 in
theorem check_any {w : World} {a : Option Addr} {l c : Nat} {os : List At} (h : AtsV w a l c os) :
    Calls Try.prog 22 #[.slice a l c] w fun e w' => e = .returned (.int .i64 (if mayAll os = true then 0 else 1)) ∧ Below w.heap.size w w' := by
  have hmm := @run_makeMap Try.prog
  have HV : Hid _ := h
  have hc := h.count
  have hm := h.room
  have hmax : maxLen = 9223372036854775807 := rfl
  clear h
  generalize hR : (if mayAll os = true then (0 : Int) else 1) = R
  have HR : Hid _ := hR
  clear hR
  obtain ⟨W2, hW2⟩ : ∃ W2, w.alloc (.map #[] 0) = W2 := ⟨_, rfl⟩
  have zW2 : w.heap.size + 1 ≤ W2.heap.size := by subst hW2; simp
  have b2 : Below w.heap.size w W2 := by subst hW2; exact bl_one _ _
  have HOW : Hid (W2.ownsMap Try.prog 9 (plainElem Try.prog 3) w.heap.size 0 (nset [])) := by
    show World.ownsMap _ _ _ _ _ _ _
    rw [← hW2]
    exact World.ownsMap_made _ _ _ _
  go_enter Try.func22, Try.ntmps22
  go_wp2_with fail
  go_loopg [9] l (fun r iv wq => ∃ (k : Nat), iv = .int .i64 k ∧ k ≤ l ∧ l - k ≤ r ∧ Hid (wq.ownsMap Try.prog 9 (plainElem Try.prog 3) w.heap.size k (nset ((os.map At.name).take k))) ∧ Hid (∀ i, i < k → atOk os i = true) ∧ Hid (Below w.heap.size w wq))
  case atStart => exact ⟨0, rfl, Nat.zero_le _, by omega, HOW.out, (fun i hi => by omega : ∀ i, i < 0 → atOk os i = true), b2⟩
  case round =>
    obtain ⟨k, rfl, hk, hr, HMP, HAL, HBL⟩ := hrel
    by_cases hlt : k < l
    · rcases HV.out.cells with h0 | ⟨b, off, hA, hcl⟩
      · omega
      obtain ⟨q0, q1, q2, a1, l1, c1, q3, V⟩ := hcl k hlt
      have HVW : Hid _ := V
      have q0 := cell_thru HBL.out q0
      have q1 := cell_thru HBL.out q1
      have q2 := cell_thru HBL.out q2
      have q3 := cell_thru HBL.out q3
      have HTK : Hid _ := take_snocA os k (by omega)
      have HFR : Hid _ := free_any (os := os) (k := k) (by omega)
      have HFIT : Hid _ := HV.out.fit hlt
      have HNO : Hid (atOk os k = false → R = 1) := fun hz => by rw [← HR.out, may_no (by omega) hz]; rfl
      have HAT : Hid (atOk os k = (freeName os k && (decide ((os.getD k noAt).name.size ≠ 0) && kindOk (os.getD k noAt)))) := rfl
      have HAL2 : Hid (atOk os k = true → ∀ i, i < k + 1 → atOk os i = true) := fun hz i hi => by
        by_cases e : i = k
        · subst e; exact hz
        · exact HAL.out i (by omega)
      obtain ⟨x, hx⟩ : ∃ x, os.getD k noAt = x := ⟨_, rfl⟩
      rw [hx] at q0 q1 q2 HVW HTK HFR HFIT HAT
      subst hA
      have hii : (k : Int) < l := by omega
      have hin : 0 ≤ (k : Int) := by omega
      clear hcl hx V
      have hkey : keyOf Try.prog 9 (.string x.name) = some (.string x.name.data.toList) := Go.WideMaps.keyOf_string_mk Try.underlying9 HFIT.out.1
      have HC : Hid _ := at_nset ((os.map At.name).take k) x.name
      obtain ⟨Y1, hY1⟩ : ∃ Y1, wr.alloc (.cells #[.string x.name, .int .i64 x.cap, .int .i64 x.owner, .slice a1 l1 c1] 49) = Y1 := ⟨_, rfl⟩
      have bY : Below wr.heap.size wr Y1 := by subst hY1; exact bl_one _ _
      have HBY : Hid (Below w.heap.size w Y1) := HBL.out.trans (bY.mono HBL.out.size)
      have zw : w.heap.size < wr.heap.size := HMP.out.lt
      clear bY
      have g0 : Y1.cell? ⟨wr.heap.size, 0, none⟩ = some (.string x.name) := by subst hY1; exact cell_last rfl rfl
      have g1 : Y1.cell? ⟨wr.heap.size, 1, none⟩ = some (.int .i64 x.cap) := by subst hY1; exact cell_last rfl rfl
      have g2 : Y1.cell? ⟨wr.heap.size, 2, none⟩ = some (.int .i64 x.owner) := by subst hY1; exact cell_last rfl rfl
      have g3 : Y1.cell? ⟨wr.heap.size, 3, none⟩ = some (.slice a1 l1 c1) := by subst hY1; exact cell_last rfl rfl
      have HMY : Hid (Y1.ownsMap Try.prog 9 (plainElem (H := Unit) Try.prog 3) w.heap.size k (nset ((os.map At.name).take k))) := by subst hY1; exact HMP.out.alloc _
      cases hdup : ((os.map At.name).take k).any (fun y => decide (y = x.name)) with
      | true =>
        have HC1 : Hid ((nset ((os.map At.name).take k)).atKey (.string x.name.data.toList) (.lit (.int .i64 0)) = .lit (.int .i64 1)) := by
          show _ = _
          rw [HC.out, hdup]; rfl
        have HC2 : Hid (((nset ((os.map At.name).take k)).put (.string x.name.data.toList) (.lit (.int .i64 2))).atKey (.string x.name.data.toList) (.lit (.int .i64 0)) = .lit (.int .i64 2)) := atKey_put_same (isMap_nset _) (show WideAt.IsKeyLit (.string x.name.data.toList) from trivial) _ _
        rw [hdup] at HFR
        clear hdup HC
        have HNOX : Hid (R = 1) := HNO.out (by rw [HAT.out, HFR.out]; rfl)
        go_wp2_with (first | (at_lookup; refine wpList_lookup_own_int _ rfl _ _ 66 rfl 9 3 .i64 lawS Try.underlying66 Try.underlying3 (zeroI _) w.heap.size k _ rfl HMY.out _ _ rfl hkey ?_; intro cc hat hwc; obtain rfl : cc = 1 := lit_inj (hat.symm.trans HC1.out)) | (at_mapUpdate; refine wpList_mapUpdate_own _ rfl _ _ _ 66 rfl 9 3 lawS Try.underlying66 _ w.heap.size k _ rfl HMY.out (by omega) _ _ (.string x.name.data.toList) rfl rfl hkey (.lit (.int .i64 2)) [] (elemI _ (by decide)) ?_; intro w1 hown1 hgrow1; have q0 := hgrow1.cell g0 (by simp; omega); have q1 := hgrow1.cell g1 (by simp; omega); have q2 := hgrow1.cell g2 (by simp; omega); have q3 := hgrow1.cell g3 (by simp; omega); have HO1 : Hid _ := hown1; have HG1 : Hid _ := hgrow1; clear hown1 hgrow1) | (at_lookup; refine wpList_lookup_own_int _ rfl _ _ 66 rfl 9 3 .i64 lawS Try.underlying66 Try.underlying3 (zeroI _) w.heap.size (k + 1) _ rfl HO1.out _ _ rfl hkey ?_; intro cc hat hwc; obtain rfl : cc = 2 := lit_inj (hat.symm.trans HC2.out)) | fail)
        have B1 : Hid (Below w.heap.size w w1) := below_grown HBY.out HG1.out (Nat.le_refl _) (Nat.le_refl _)
        go_ret
        exact ⟨by rw [HNOX.out]; rfl, B1.out⟩
      | false =>
        have HC1 : Hid ((nset ((os.map At.name).take k)).atKey (.string x.name.data.toList) (.lit (.int .i64 0)) = .lit (.int .i64 0)) := by
          show _ = _
          rw [HC.out, hdup]; rfl
        have HC2 : Hid (((nset ((os.map At.name).take k)).put (.string x.name.data.toList) (.lit (.int .i64 1))).atKey (.string x.name.data.toList) (.lit (.int .i64 0)) = .lit (.int .i64 1)) := atKey_put_same (isMap_nset _) (show WideAt.IsKeyLit (.string x.name.data.toList) from trivial) _ _
        rw [hdup] at HFR
        clear hdup HC
        have HAT2 : Hid (atOk os k = (decide (x.name.size ≠ 0) && kindOk x)) := by show _ = _; rw [HAT.out, HFR.out]; rfl
        have HTN : Hid _ := toList_nil x.name
        by_cases hz : x.name.size = 0
        · have hem : x.name.toList.isEmpty = true := by rw [HTN.out]; exact decide_eq_true hz
          have HNOX : Hid (R = 1) := HNO.out (by rw [HAT2.out, hz]; rfl)
          clear hz
          go_wp2_with (first | (at_lookup; refine wpList_lookup_own_int _ rfl _ _ 66 rfl 9 3 .i64 lawS Try.underlying66 Try.underlying3 (zeroI _) w.heap.size k _ rfl HMY.out _ _ rfl hkey ?_; intro cc hat hwc; obtain rfl : cc = 0 := lit_inj (hat.symm.trans HC1.out)) | (at_mapUpdate; refine wpList_mapUpdate_own _ rfl _ _ _ 66 rfl 9 3 lawS Try.underlying66 _ w.heap.size k _ rfl HMY.out (by omega) _ _ (.string x.name.data.toList) rfl rfl hkey (.lit (.int .i64 1)) [] (elemI _ (by decide)) ?_; intro w1 hown1 hgrow1; have q0 := hgrow1.cell g0 (by simp; omega); have q1 := hgrow1.cell g1 (by simp; omega); have q2 := hgrow1.cell g2 (by simp; omega); have q3 := hgrow1.cell g3 (by simp; omega); have HO1 : Hid _ := hown1; have HG1 : Hid _ := hgrow1; clear hown1 hgrow1) | (at_lookup; refine wpList_lookup_own_int _ rfl _ _ 66 rfl 9 3 .i64 lawS Try.underlying66 Try.underlying3 (zeroI _) w.heap.size (k + 1) _ rfl HO1.out _ _ rfl hkey ?_; intro cc hat hwc; obtain rfl : cc = 1 := lit_inj (hat.symm.trans HC2.out)) | fail)
          have B1 : Hid (Below w.heap.size w w1) := below_grown HBY.out HG1.out (Nat.le_refl _) (Nat.le_refl _)
          go_ret
          exact ⟨by rw [HNOX.out]; rfl, B1.out⟩
        · have hem : x.name.toList.isEmpty = false := by rw [HTN.out]; exact decide_eq_false hz
          have HZ : Hid _ := hz
          clear hz
          go_wp2_with (first | (at_lookup; refine wpList_lookup_own_int _ rfl _ _ 66 rfl 9 3 .i64 lawS Try.underlying66 Try.underlying3 (zeroI _) w.heap.size k _ rfl HMY.out _ _ rfl hkey ?_; intro cc hat hwc; obtain rfl : cc = 0 := lit_inj (hat.symm.trans HC1.out)) | (at_mapUpdate; refine wpList_mapUpdate_own _ rfl _ _ _ 66 rfl 9 3 lawS Try.underlying66 _ w.heap.size k _ rfl HMY.out (by omega) _ _ (.string x.name.data.toList) rfl rfl hkey (.lit (.int .i64 1)) [] (elemI _ (by decide)) ?_; intro w1 hown1 hgrow1; have q0 := hgrow1.cell g0 (by simp; omega); have q1 := hgrow1.cell g1 (by simp; omega); have q2 := hgrow1.cell g2 (by simp; omega); have q3 := hgrow1.cell g3 (by simp; omega); have HO1 : Hid _ := hown1; have HG1 : Hid _ := hgrow1; clear hown1 hgrow1) | (at_lookup; refine wpList_lookup_own_int _ rfl _ _ 66 rfl 9 3 .i64 lawS Try.underlying66 Try.underlying3 (zeroI _) w.heap.size (k + 1) _ rfl HO1.out _ _ rfl hkey ?_; intro cc hat hwc; obtain rfl : cc = 1 := lit_inj (hat.symm.trans HC2.out)) | fail)
          have B1 : Hid (Below w.heap.size w w1) := below_grown HBY.out HG1.out (Nat.le_refl _) (Nat.le_refl _)
          have HV1 : Hid _ := HVW.out.below B1.out
          have HO2 : Hid (w1.ownsMap Try.prog 9 (plainElem (H := Unit) Try.prog 3) w.heap.size (k + 1) (nset ((os.map At.name).take (k + 1)))) := by
            show World.ownsMap _ _ _ _ _ _ _
            rw [HTK.out, nset_snoc]
            exact HO1.out
          refine (kind_any x HV1.out).mono ?_
          rintro e y ⟨rfl, hy⟩
          have BY1 : Hid (Below w.heap.size w y) := B1.out.trans (hy.mono B1.out.size)
          have HO3 : Hid (y.ownsMap Try.prog 9 (plainElem (H := Unit) Try.prog 3) w.heap.size (k + 1) (nset ((os.map At.name).take (k + 1)))) := HO2.out.kept (row := none) ⟨hy.os, hy.tape, hy.output, hy.size, fun k hk _ => hy.block k hk⟩ (by simp)
          cases hkd : kindOk x with
          | false =>
            have HNOX : Hid (R = 1) := HNO.out (by rw [HAT2.out, hkd, Bool.and_false])
            clear hy
            go_wp2
            go_ret
            exact ⟨by rw [HNOX.out]; rfl, BY1.out⟩
          | true =>
            have HYES : Hid (∀ i, i < k + 1 → atOk os i = true) := HAL2.out (by rw [HAT2.out, hkd, Bool.and_true]; exact decide_eq_true HZ.out)
            clear hy
            go_wp2_with fail
            go_roundg (l - (k + 1))
            case measure => omega
            case rel => exact ⟨k + 1, by first | rfl | (congr 1; omega), by omega, Nat.le_refl _, HO3.out, HYES.out, BY1.out⟩
    · have hii : ¬ (k : Int) < l := by omega
      have HNO : Hid (R = 0) := by
        show _ = _
        rw [← HR.out, if_pos]
        exact all_range_yes (fun i hi => HAL.out i (by omega))
      go_wp2
      go_ret
      exact ⟨by rw [HNO.out]; rfl, HBL.out⟩
end Go.Proofs.Ytafdjmccgijmnaa.A

/- A history that is cut short has an order still. -/
import Derived.Test.YtafdjmccgijmnaaHiPend
namespace Go.Proofs.Ytafdjmccgijmnaa
open Go.RowKit A Go.Maps
set_option linter.unusedVariables false
set_option linter.unusedSimpArgs false
namespace H
def cut1 (at_ : Int) (a : Ac) : Ac := if at_ ≤ a.back then { a with back := -1 } else a
def cutIx (ts : List Ac) (at_ : Int) (k : Nat) : List Nat := (List.range k).filter fun i => decide ((ts.getD i noAc).call < at_)
def cutN (ts : List Ac) (at_ : Int) (k : Nat) : List Ac := (cutIx ts at_ k).map fun i => cut1 at_ (ts.getD i noAc)
theorem cutN_yes {ts : List Ac} {at_ : Int} {k : Nat} (h : (ts.getD k noAc).call < at_) : cutN ts at_ (k + 1) = cutN ts at_ k ++ [cut1 at_ (ts.getD k noAc)] := by
  unfold cutN cutIx
  rw [List.range_succ, List.filter_append, List.map_append]
  congr 1
  have e : decide ((ts.getD k noAc).call < at_) = true := decide_eq_true h
  simp only [List.filter_cons, List.filter_nil, e, if_true, List.map_cons, List.map_nil]
theorem cutN_no {ts : List Ac} {at_ : Int} {k : Nat} (h : ¬ (ts.getD k noAc).call < at_) : cutN ts at_ (k + 1) = cutN ts at_ k := by
  unfold cutN cutIx
  rw [List.range_succ, List.filter_append, List.map_append]
  have e : decide ((ts.getD k noAc).call < at_) = false := decide_eq_false h
  simp only [List.filter_cons, List.filter_nil, e, Bool.false_eq_true, if_false, List.map_nil, List.append_nil]
theorem cutN_len (ts : List Ac) (at_ : Int) (k : Nat) : (cutN ts at_ k).length ≤ k := by
  unfold cutN cutIx
  rw [List.length_map]
  exact Nat.le_trans (List.length_filter_le _ _) (by simp)
theorem cut_call (at_ : Int) (a : Ac) : (cut1 at_ a).call = a.call ∧ (cut1 at_ a).th = a.th ∧ (cut1 at_ a).arg = a.arg := by
  unfold cut1
  split <;> exact ⟨rfl, rfl, rfl⟩
theorem cut_back {at_ : Int} {a : Ac} (h : 0 ≤ (cut1 at_ a).back) : (cut1 at_ a).back = a.back ∧ a.back < at_ := by
  unfold cut1 at h ⊢
  split at h
  · have h' : (0 : Int) ≤ -1 := h
    omega
  · next e => rw [if_neg e]; exact ⟨rfl, by omega⟩
theorem cut_made (s : List At) (at_ : Int) (a : Ac) : made s (cut1 at_ a) = made s a := by
  unfold cut1
  split <;> rfl
theorem cut_goes {s : List At} {at_ : Int} {a : Ac} (h : goes s a = true) : goes s (cut1 at_ a) = true := by
  unfold cut1
  split
  · unfold goes at h ⊢
    rw [Bool.and_eq_true] at h ⊢
    refine ⟨h.1, ?_⟩
    have : Ac.isBack { a with back := -1 } = false := by show decide ((0 : Int) ≤ -1) = false; decide
    rw [this]
    simp
  · exact h
theorem cut_at {ts : List Ac} {at_ : Int} {j : Nat} (hj : j < (cutIx ts at_ ts.length).length) : (cutN ts at_ ts.length).getD j noAc = cut1 at_ (ts.getD ((cutIx ts at_ ts.length).getD j 0) noAc) := by
  unfold cutN
  simp [List.getD, hj]
theorem cut_mem {ts : List Ac} {at_ : Int} {k : Nat} : k ∈ cutIx ts at_ ts.length ↔ k < ts.length ∧ (ts.getD k noAc).call < at_ := by
  unfold cutIx
  rw [List.mem_filter, List.mem_range, decide_eq_true_eq]
theorem cut_lt {ts : List Ac} {at_ : Int} {i j : Nat} (hij : i < j) (hj : j < (cutIx ts at_ ts.length).length) : (cutIx ts at_ ts.length).getD i 0 < (cutIx ts at_ ts.length).getD j 0 := by
  have hp : (cutIx ts at_ ts.length).Pairwise (· < ·) := List.Pairwise.filter _ List.pairwise_lt_range
  have := List.pairwise_iff_getElem.1 hp i j (by omega) hj hij
  simpa [List.getD, hj, show i < (cutIx ts at_ ts.length).length by omega] using this
theorem cut_len (ts : List Ac) (at_ : Int) : (cutN ts at_ ts.length).length = (cutIx ts at_ ts.length).length := by unfold cutN; rw [List.length_map]
/-- What is behind the cut takes nothing that must be with it. -/
theorem cut_go {ts : List Ac} {at_ : Int} : ∀ (o : List Nat) (D d : Nat) (s : List At), (Pf ts).Ok D s o → (∀ j, j < (cutIx ts at_ ts.length).length → d.testBit j = D.testBit ((cutIx ts at_ ts.length).getD j 0)) → ∃ o', (Pf (cutN ts at_ ts.length)).Ok d s o'
  | [], D, d, s, h, hb => by
    refine ⟨[], ?_⟩
    have h' : (Pf ts).all D = true := h
    show (Pf (cutN ts at_ ts.length)).all d = true
    rw [all_iff] at h' ⊢
    intro j hj hm
    have hj' : j < (cutIx ts at_ ts.length).length := by rw [← cut_len]; exact hj
    have hm' : ((cutN ts at_ ts.length).getD j noAc).isBack = true := hm
    rw [cut_at hj'] at hm'
    have hbk := cut_back (of_decide_eq_true hm')
    rw [hb j hj']
    refine h' _ (cut_mem.1 (getD_mem hj')).1 ?_
    show Ac.isBack _ = true
    unfold Ac.isBack
    have : 0 ≤ (cut1 at_ (ts.getD ((cutIx ts at_ ts.length).getD j 0) noAc)).back := of_decide_eq_true hm'
    rw [hbk.1] at this
    exact decide_eq_true this
  | k :: r, D, d, s, h, hb => by
    obtain ⟨hk, hf, s', hs, hr⟩ := h
    have hk' : k < ts.length := hk
    rw [free_iff] at hf
    by_cases hc : (ts.getD k noAc).call < at_
    · obtain ⟨j, hj, hjk⟩ := in_at (cut_mem.2 ⟨hk', hc⟩)
      obtain ⟨o', ho'⟩ := cut_go r (wth D k) (wth d j) s' hr (fun i hi => by
        rw [has_wth, has_wth, hb i hi]
        congr 1
        rw [decide_eq_decide, ← hjk]
        constructor
        · intro e; rw [e]
        · intro e
          rcases Nat.lt_trichotomy j i with h1 | h1 | h1
          · have := cut_lt (ts := ts) (at_ := at_) h1 hi; omega
          · exact h1
          · have := cut_lt (ts := ts) (at_ := at_) h1 hj; omega)
      refine ⟨j :: o', by show j < (cutN ts at_ ts.length).length; rw [cut_len]; exact hj, ?_, s', ?_, ho'⟩
      · rw [free_iff]
        refine ⟨by rw [hb j hj, hjk]; exact hf.1, fun i hi he => ?_⟩
        have hi' : i < (cutIx ts at_ ts.length).length := by rw [← cut_len]; exact hi
        have he' : ((cutN ts at_ ts.length).getD i noAc).ahead ((cutN ts at_ ts.length).getD j noAc) = true := he
        rw [cut_at hi', cut_at hj, hjk] at he'
        unfold Ac.ahead at he'
        rw [Bool.and_eq_true, decide_eq_true_eq, decide_eq_true_eq, (cut_call at_ _).1] at he'
        have hbk := cut_back he'.1
        rw [hb i hi']
        refine hf.2 _ (cut_mem.1 (getD_mem hi')).1 ?_
        show Ac.ahead _ _ = true
        unfold Ac.ahead
        rw [Bool.and_eq_true, decide_eq_true_eq, decide_eq_true_eq]
        omega
      · have hs' : stp ts s k = some s' := hs
        show stp (cutN ts at_ ts.length) s j = some s'
        unfold stp at hs' ⊢
        rw [cut_at hj, hjk, cut_made]
        have hg : goes s (ts.getD k noAc) = true := by
          cases hg : goes s (ts.getD k noAc) with
          | true => rfl
          | false => rw [hg] at hs'; cases hs'
        rw [hg] at hs'
        rw [cut_goes hg]
        exact hs'
    · refine ⟨[], ?_⟩
      show (Pf (cutN ts at_ ts.length)).all d = true
      rw [all_iff]
      intro j hj hm
      have hj' : j < (cutIx ts at_ ts.length).length := by rw [← cut_len]; exact hj
      have hm' : ((cutN ts at_ ts.length).getD j noAc).isBack = true := hm
      rw [cut_at hj'] at hm'
      have h0 : 0 ≤ (cut1 at_ (ts.getD ((cutIx ts at_ ts.length).getD j 0) noAc)).back := of_decide_eq_true hm'
      have hbk := cut_back h0
      rw [hb j hj']
      refine hf.2 _ (cut_mem.1 (getD_mem hj')).1 ?_
      show Ac.ahead _ _ = true
      unfold Ac.ahead
      rw [Bool.and_eq_true, decide_eq_true_eq, decide_eq_true_eq]
      omega
theorem cut_may {ts : List Ac} {at_ : Int} (h : mayH ts = true) : mayH (cutN ts at_ ts.length) = true := by
  unfold mayH at h ⊢
  rw [Bool.and_eq_true, decide_eq_true_eq, List.all_eq_true] at h
  have hlen := cutN_len ts at_ ts.length
  rw [Bool.and_eq_true, decide_eq_true_eq]
  refine ⟨by omega, ?_⟩
  rw [List.all_eq_true]
  intro j hj
  have hj' : j < (cutIx ts at_ ts.length).length := by rw [← cut_len]; exact List.mem_range.1 hj
  have hkj := cut_mem.1 (getD_mem hj')
  have hok := h.2 _ (List.mem_range.2 hkj.1)
  unfold okAt at hok ⊢
  rw [Bool.and_eq_true, Bool.not_eq_true', List.any_eq_false] at hok
  rw [Bool.and_eq_true, Bool.not_eq_true', List.any_eq_false, cut_at hj']
  refine ⟨?_, fun i hi => ?_⟩
  · have hm := hok.1
    unfold cut1
    split
    · unfold Ac.may at hm ⊢
      simp only [Bool.and_eq_true, decide_eq_true_eq] at hm ⊢
      exact ⟨hm.1, hm.2.1, hm.2.2.1, by simp⟩
    · exact hm
  · have hij := List.mem_range.1 hi
    have hi' : i < (cutIx ts at_ ts.length).length := by omega
    have hki := cut_mem.1 (getD_mem hi')
    have hcl := hok.2 _ (List.mem_range.2 (cut_lt hij hj'))
    rw [cut_at hi']
    have hkeep : ∀ x y : Ac, y.call < at_ → x.ahead y = true → (cut1 at_ x).ahead (cut1 at_ y) = true := fun x y hy ha => by
      unfold Ac.ahead at ha ⊢
      rw [Bool.and_eq_true, decide_eq_true_eq, decide_eq_true_eq] at ha ⊢
      have : cut1 at_ x = x := by unfold cut1; rw [if_neg (by omega)]
      rw [this, (cut_call at_ y).1]
      exact ha
    intro hc
    apply hcl
    unfold Ac.clash at hc ⊢
    rw [Bool.and_eq_true, Bool.and_eq_true, decide_eq_true_eq, Bool.not_eq_true', Bool.not_eq_true', (cut_call at_ _).2.1, (cut_call at_ _).2.1] at hc
    rw [Bool.and_eq_true, Bool.and_eq_true, decide_eq_true_eq, Bool.not_eq_true', Bool.not_eq_true']
    refine ⟨hc.1, ?_, ?_⟩
    · cases e : (ts.getD ((cutIx ts at_ ts.length).getD j 0) noAc).ahead (ts.getD ((cutIx ts at_ ts.length).getD i 0) noAc) with
      | false => rfl
      | true =>
        have := hkeep _ _ hki.2 e
        rw [hc.2.1] at this
        cases this
    · cases e : (ts.getD ((cutIx ts at_ ts.length).getD i 0) noAc).ahead (ts.getD ((cutIx ts at_ ts.length).getD j 0) noAc) with
      | false => rfl
      | true =>
        have := hkeep _ _ hkj.2 e
        rw [hc.2.2] at this
        cases this
end H
theorem args_cut {ts : List H.Ac} {at_ : Int} (h : ∀ r ∈ ts, (Lit.int .i64 r.arg).wf = true) (k : Nat) : ∀ r ∈ H.cutN ts at_ k, (Lit.int .i64 r.arg).wf = true := fun r hr => by
  unfold H.cutN at hr
  obtain ⟨i, -, rfl⟩ := List.mem_map.1 hr
  rw [(H.cut_call at_ _).2.2]
  by_cases hi : i < ts.length
  · exact h _ (by simp [List.getD, hi])
  · rw [show ts.getD i H.noAc = H.noAc by simp [List.getD, hi]]; decide
set_option maxRecDepth 100000 in
set_option maxHeartbeats 16000000 in
theorem cut_any {w : World} {a aa : Option Addr} {lo c l cc : Nat} {os : List At} {ts : List H.Ac} (hO : AtsV w a lo c os) (hA : ActsV w aa l cc ts) (hf : ∀ r ∈ ts, AcFit r) (at_ : Int) :
    Calls Try.prog 6 #[.slice a lo c, .slice aa l cc, .int .i64 at_] w fun e w' => e = .returned (.bool true) ∧ Below w.heap.size w w' := by
  have HO : Hid (AtsV w a lo c os) := hO
  have HA : Hid (ActsV w aa l cc ts) := hA
  have HTC : Hid (ts.length = l) := hA.count
  have HARG : Hid (∀ r ∈ ts, (Lit.int .i64 r.arg).wf = true) := fun r hr => (hf r hr).2.2.2.1
  have hmx := hA.room
  have hmax : maxLen = 9223372036854775807 := rfl
  have HL : Hid (∀ W, Calls Try.prog 9 #[] W fun e w' => e = .returned (.bool true) ∧ Below W.heap.size W w') := fun W => live_any W
  obtain ⟨i7, hi7, hz70, hz71, hz72⟩ := hinfo infoAct
  clear hO hA hf
  have hfew := few_any (w := w) (a := a) (aa := aa) (lo := lo) (c := c) (l := l) (cc := cc)
  by_cases hsm : lo ≤ 10 ∧ l ≤ 12
  rotate_left
  · have e1 : (decide (lo ≤ 10) && decide (l ≤ 12)) = false := by
      rw [Bool.and_eq_false_iff, decide_eq_false_iff_not, decide_eq_false_iff_not]
      omega
    rw [e1] at hfew
    clear hsm e1
    go_enter Try.func6, Try.ntmps6
    go_wp2_with fail
    refine hfew.mono ?_
    rintro e y ⟨rfl, hy⟩
    rw [hy]
    clear hy hfew
    go_wp2_with fail
    refine (HL.out _).mono ?_
    rintro e y ⟨rfl, hy⟩
    have HY : Hid (Below w.heap.size w y) := hy
    clear hy
    go_wp2_with fail
    go_ret
    exact ⟨rfl, HY.out⟩
  rw [decide_eq_true hsm.1, decide_eq_true hsm.2] at hfew
  have hl12 : l ≤ 12 := hsm.2
  have ho := Order_any HO.out HA.out hl12 HARG.out
  clear hsm
  go_enter Try.func6, Try.ntmps6
  go_wp2_with fail
  refine hfew.mono ?_
  rintro e y ⟨rfl, hy⟩
  rw [hy]
  clear hy hfew
  go_wp2_with fail
  refine ho.mono ?_
  rintro e y5 ⟨r, v, ord, rfl, -, hb5, hyes, hno⟩
  have HB5 : Hid (Below w.heap.size w y5) := hb5
  have HYES : Hid (r = true → mayAll os = true ∧ H.mayH ts = true ∧ (H.Pf ts).Ok 0 os ord) := hyes
  clear ho hyes hno hb5
  cases r with
  | false =>
    clear HYES
    go_wp2_with fail
    refine (HL.out _).mono ?_
    rintro e y ⟨rfl, hy⟩
    have HY : Hid (Below w.heap.size w y) := HB5.out.trans (hy.mono HB5.out.size)
    clear hy
    go_wp2_with fail
    go_ret
    exact ⟨rfl, HY.out⟩
  | true =>
    obtain ⟨hm, hh, hok⟩ := HYES.out rfl
    have HMM : Hid (mayAll os = true) := hm
    have HCM : Hid (H.mayH (H.cutN ts at_ l) = true) := by
      have := H.cut_may (at_ := at_) hh
      rw [HTC.out] at this
      exact this
    have HCO : Hid (∃ o', (H.Pf (H.cutN ts at_ l)).Ok 0 os o') := by
      have := H.cut_go (at_ := at_) ord 0 0 os hok (fun j hj => by simp)
      rw [HTC.out] at this
      exact this
    clear HYES hm hh hok
    go_wp2_with fail
    go_loopg [9, 10, 11] l (fun r v9 iv z11 wq => ∃ (k : Nat) (ma : Option Addr) (mc : Nat), r = l - k ∧ iv = .int .i64 k ∧ k ≤ l ∧ v9 = .slice ma (H.cutN ts at_ k).length mc ∧ Hid (wq.ownsRow y5.heap.size 42 7 (.slice ma (H.cutN ts at_ k).length mc) (H.cutN ts at_ k).length ((H.cutN ts at_ k).flatMap H.Ac.cs)) ∧ Hid (Below y5.heap.size y5 wq))
    case atStart => exact ⟨0, none, 0, rfl, rfl, Nat.zero_le _, rfl, World.ownsRow_nil _ _ _ _, Below.refl _ _⟩
    case round =>
      obtain ⟨k, ma, mc, rfl, rfl, hk, rfl, HR, HB⟩ := hrel
      have HBW : Hid (Below w.heap.size w wr) := HB5.out.trans (HB.out.mono HB5.out.size)
      have hcl := H.cutN_len ts at_ k
      by_cases hlt : k < l
      · have hii : (k : Int) < l := by omega
        have hin : 0 ≤ (k : Int) := by omega
        obtain ⟨b, off, rfl, c0, c1, c2, c3, c4, c5, c6⟩ := (HA.out.below HBW.out).at hlt
        have HYS : Hid ((ts.getD k H.noAc).call < at_ → H.cutN ts at_ (k + 1) = H.cutN ts at_ k ++ [H.cut1 at_ (ts.getD k H.noAc)]) := fun e => H.cutN_yes e
        have HNS : Hid (¬ (ts.getD k H.noAc).call < at_ → H.cutN ts at_ (k + 1) = H.cutN ts at_ k) := fun e => H.cutN_no e
        obtain ⟨x, hx⟩ : ∃ x, ts.getD k H.noAc = x := ⟨_, rfl⟩
        rw [hx] at c0 c1 c2 c3 c4 c5 c6 HYS HNS
        clear hx
        obtain ⟨th, dd, nm, arg, call, back, ans⟩ := x
        simp only at c0 c1 c2 c3 c4 c5 c6 HYS HNS
        obtain ⟨Y1, hY1⟩ : ∃ Y, wr.alloc (.cells #[.int .i64 th, .int .i64 dd, .string nm, .int .i64 arg, .int .i64 call, .int .i64 back, .int .i64 ans] 42) = Y := ⟨_, rfl⟩
        have hb1 : Below wr.heap.size wr Y1 := by rw [← hY1]; exact hbl1 _ _
        have HB1 : Hid (Below y5.heap.size y5 Y1) := HB.out.trans (hb1.mono HB.out.size)
        have HR1 : Hid (Y1.ownsRow y5.heap.size 42 7 (.slice ma (H.cutN ts at_ k).length mc) (H.cutN ts at_ k).length ((H.cutN ts at_ k).flatMap H.Ac.cs)) := hown_thru HR.out hb1
        have d0 : Y1.cell? ⟨wr.heap.size, 0, none⟩ = some (.int .i64 th) := by rw [← hY1]; simp
        have d1 : Y1.cell? ⟨wr.heap.size, 1, none⟩ = some (.int .i64 dd) := by rw [← hY1]; simp
        have d2 : Y1.cell? ⟨wr.heap.size, 2, none⟩ = some (.string nm) := by rw [← hY1]; simp
        have d3 : Y1.cell? ⟨wr.heap.size, 3, none⟩ = some (.int .i64 arg) := by rw [← hY1]; simp
        have d4 : Y1.cell? ⟨wr.heap.size, 4, none⟩ = some (.int .i64 call) := by rw [← hY1]; simp
        have d5 : Y1.cell? ⟨wr.heap.size, 5, none⟩ = some (.int .i64 back) := by rw [← hY1]; simp
        have d6 : Y1.cell? ⟨wr.heap.size, 6, none⟩ = some (.int .i64 ans) := by rw [← hY1]; simp
        have f5 : Y1.frozen? ⟨wr.heap.size, 5, none⟩ = false := by rw [← hY1]; exact World.frozen?_alloc_at _ _ _ _ rfl
        have HWY : Hid (y5.heap.size ≤ wr.heap.size) := HB.out.size
        by_cases hcall : at_ ≤ call
        · have HEQ := HNS.out (by omega)
          have HEQH : Hid (H.cutN ts at_ (k + 1) = H.cutN ts at_ k) := HEQ
          clear HEQ hb1
          go_wp2_with fail
          go_roundg (l - (k + 1))
          case measure => omega
          case rel => exact ⟨k + 1, ma, mc, rfl, by go_num, by omega, by rw [HEQH.out], by rw [HEQH.out]; exact HR1.out, HB1.out⟩
        · have hcal2 : call < at_ := by omega
          have HEQ := HYS.out hcal2
          by_cases hbk : at_ ≤ back
          · obtain ⟨Y2, hY2⟩ : ∃ Y, Y1.setCell ⟨wr.heap.size, 5, none⟩ (.int .i64 (-1)) = Y := ⟨_, rfl⟩
            have HBX : Hid (Below y5.heap.size y5 Y2) := by show Below _ _ _; rw [← hY2]; exact HB1.out.setCell HWY.out _
            have HRW : Hid (Y2.ownsRow y5.heap.size 42 7 (.slice ma (H.cutN ts at_ k).length mc) (H.cutN ts at_ k).length ((H.cutN ts at_ k).flatMap H.Ac.cs)) := by
              show World.ownsRow _ _ _ _ _ _ _
              rw [← hY2]
              exact HR1.out.kept (gb_setO Y1 ⟨wr.heap.size, 5, none⟩ _) (.inr fun e => by have := (HR.out.lt _ e).2; simp at this)
            have g0 : Y2.cell? ⟨wr.heap.size, 0, none⟩ = some (.int .i64 th) := by rw [← hY2, World.cell?_setCell_other _ _ _ _ (by simp)]; exact d0
            have g1 : Y2.cell? ⟨wr.heap.size, 1, none⟩ = some (.int .i64 dd) := by rw [← hY2, World.cell?_setCell_other _ _ _ _ (by simp)]; exact d1
            have g2 : Y2.cell? ⟨wr.heap.size, 2, none⟩ = some (.string nm) := by rw [← hY2, World.cell?_setCell_other _ _ _ _ (by simp)]; exact d2
            have g3 : Y2.cell? ⟨wr.heap.size, 3, none⟩ = some (.int .i64 arg) := by rw [← hY2, World.cell?_setCell_other _ _ _ _ (by simp)]; exact d3
            have g4 : Y2.cell? ⟨wr.heap.size, 4, none⟩ = some (.int .i64 call) := by rw [← hY2, World.cell?_setCell_other _ _ _ _ (by simp)]; exact d4
            have g5 : Y2.cell? ⟨wr.heap.size, 5, none⟩ = some (.int .i64 (-1)) := by rw [← hY2]; exact World.cell?_setCell_same' _ _ _ (by rw [d5]; rfl)
            have g6 : Y2.cell? ⟨wr.heap.size, 6, none⟩ = some (.int .i64 ans) := by rw [← hY2, World.cell?_setCell_other _ _ _ _ (by simp)]; exact d6
            obtain ⟨Z, hZ⟩ : ∃ Y, Y2.alloc (.cells #[.int .i64 th, .int .i64 dd, .string nm, .int .i64 arg, .int .i64 call, .int .i64 (-1), .int .i64 ans] 42) = Y := ⟨_, rfl⟩
            have hbZ : Below Y2.heap.size Y2 Z := by rw [← hZ]; exact hbl1 _ _
            have HRZ : Hid (Z.ownsRow y5.heap.size 42 7 (.slice ma (H.cutN ts at_ k).length mc) (H.cutN ts at_ k).length ((H.cutN ts at_ k).flatMap H.Ac.cs)) := hown_thru HRW.out hbZ
            have HBZ : Hid (Below y5.heap.size y5 Z) := HBX.out.trans (hbZ.mono HBX.out.size)
            have HNC : Hid (∀ j u, (H.Ac.cs ⟨th, dd, nm, arg, call, (-1), ans⟩)[j]? = some u → Z.cell? ((⟨Y2.heap.size, 0, none⟩ : Addr).add j) = some u) := by
              intro j u hu
              rw [Addr.add_lit, Nat.zero_add, ← hZ]
              exact A.cell_last rfl (by simpa [H.Ac.cs] using hu)
            have HEQH : Hid (H.cutN ts at_ (k + 1) = H.cutN ts at_ k ++ [⟨th, dd, nm, arg, call, (-1), ans⟩]) := by
              show _ = _
              rw [HEQ]
              unfold H.cut1
              rw [if_pos hbk]
            have hyz : y5.heap.size ≤ Z.heap.size := HBZ.out.size
            obtain ⟨nn, hnn⟩ : ∃ q, (H.cutN ts at_ k).length = q := ⟨_, rfl⟩
            have HNN : Hid ((H.cutN ts at_ k).length = nn) := hnn
            rw [hnn] at HRZ hcl ⊢
            clear hbZ HEQ hnn hb1
            go_wp2_with (first | (at_builtin; go_loud (refine wpList_append_lies _ rfl _ _ 23 rfl y5.heap.size 42 i7 _ 7 64 Try.underlying23 hi7 hz70 hz71 hz72 rfl (by decide) (.slice ma nn mc) nn ((H.cutN ts at_ k).flatMap H.Ac.cs) rfl HRZ.out ⟨Y2.heap.size, 0, none⟩ 1 1 (H.Ac.cs ⟨th, dd, nm, arg, call, (-1), ans⟩) rfl rfl HNC.out (by intro u hu; simp [H.Ac.cs] at hu; rcases hu with rfl | rfl | rfl | rfl | rfl | rfl | rfl <;> rfl) (by decide) (by unfold maxLen; omega) (by omega) hyz Z.heap.size rfl ?_; intro ga ca y4 ho4 hg4 hat4 hlt4; have HO4 : Hid _ := ho4; have HG4 : Hid _ := hg4; clear ho4 hg4 hat4 hlt4)) | fail)
            go_roundg (l - (k + 1))
            case measure => omega
            case rel =>
              have hlen : (H.cutN ts at_ (k + 1)).length = nn + 1 := by rw [HEQH.out, List.length_append, HNN.out]; rfl
              refine ⟨k + 1, some ⟨ga, 0, none⟩, ca, rfl, by go_num, by omega, by rw [hlen], ?_, ?_⟩
              · show World.ownsRow _ _ _ _ _ _ _
                rw [hlen, HEQH.out, List.flatMap_append, List.flatMap_cons, List.flatMap_nil, List.append_nil]
                exact HO4.out
              · show Below _ _ _
                refine ⟨HG4.out.os.trans HBZ.out.os, HG4.out.tape.trans HBZ.out.tape, HG4.out.output.trans HBZ.out.output, Nat.le_trans HBZ.out.size HG4.out.size, fun i hi => (HG4.out.block i (by have := HBZ.out.size; omega) (fun e => ?_)).trans (HBZ.out.block i hi)⟩
                have := (HRZ.out.lt i e.symm).1
                omega
          · have HBX : Hid (Below y5.heap.size y5 Y1) := HB1.out
            have HRW : Hid (Y1.ownsRow y5.heap.size 42 7 (.slice ma (H.cutN ts at_ k).length mc) (H.cutN ts at_ k).length ((H.cutN ts at_ k).flatMap H.Ac.cs)) := HR1.out
            obtain ⟨Z, hZ⟩ : ∃ Y, Y1.alloc (.cells #[.int .i64 th, .int .i64 dd, .string nm, .int .i64 arg, .int .i64 call, .int .i64 back, .int .i64 ans] 42) = Y := ⟨_, rfl⟩
            have hbZ : Below Y1.heap.size Y1 Z := by rw [← hZ]; exact hbl1 _ _
            have HRZ : Hid (Z.ownsRow y5.heap.size 42 7 (.slice ma (H.cutN ts at_ k).length mc) (H.cutN ts at_ k).length ((H.cutN ts at_ k).flatMap H.Ac.cs)) := hown_thru HRW.out hbZ
            have HBZ : Hid (Below y5.heap.size y5 Z) := HBX.out.trans (hbZ.mono HBX.out.size)
            have HNC : Hid (∀ j u, (H.Ac.cs ⟨th, dd, nm, arg, call, back, ans⟩)[j]? = some u → Z.cell? ((⟨Y1.heap.size, 0, none⟩ : Addr).add j) = some u) := by
              intro j u hu
              rw [Addr.add_lit, Nat.zero_add, ← hZ]
              exact A.cell_last rfl (by simpa [H.Ac.cs] using hu)
            have HEQH : Hid (H.cutN ts at_ (k + 1) = H.cutN ts at_ k ++ [⟨th, dd, nm, arg, call, back, ans⟩]) := by
              show _ = _
              rw [HEQ]
              unfold H.cut1
              rw [if_neg hbk]
            have hyz : y5.heap.size ≤ Z.heap.size := HBZ.out.size
            obtain ⟨nn, hnn⟩ : ∃ q, (H.cutN ts at_ k).length = q := ⟨_, rfl⟩
            have HNN : Hid ((H.cutN ts at_ k).length = nn) := hnn
            rw [hnn] at HRZ hcl ⊢
            clear hbZ HEQ hnn hb1
            go_wp2_with (first | (at_builtin; go_loud (refine wpList_append_lies _ rfl _ _ 23 rfl y5.heap.size 42 i7 _ 7 64 Try.underlying23 hi7 hz70 hz71 hz72 rfl (by decide) (.slice ma nn mc) nn ((H.cutN ts at_ k).flatMap H.Ac.cs) rfl HRZ.out ⟨Y1.heap.size, 0, none⟩ 1 1 (H.Ac.cs ⟨th, dd, nm, arg, call, back, ans⟩) rfl rfl HNC.out (by intro u hu; simp [H.Ac.cs] at hu; rcases hu with rfl | rfl | rfl | rfl | rfl | rfl | rfl <;> rfl) (by decide) (by unfold maxLen; omega) (by omega) hyz Z.heap.size rfl ?_; intro ga ca y4 ho4 hg4 hat4 hlt4; have HO4 : Hid _ := ho4; have HG4 : Hid _ := hg4; clear ho4 hg4 hat4 hlt4)) | fail)
            go_roundg (l - (k + 1))
            case measure => omega
            case rel =>
              have hlen : (H.cutN ts at_ (k + 1)).length = nn + 1 := by rw [HEQH.out, List.length_append, HNN.out]; rfl
              refine ⟨k + 1, some ⟨ga, 0, none⟩, ca, rfl, by go_num, by omega, by rw [hlen], ?_, ?_⟩
              · show World.ownsRow _ _ _ _ _ _ _
                rw [hlen, HEQH.out, List.flatMap_append, List.flatMap_cons, List.flatMap_nil, List.append_nil]
                exact HO4.out
              · show Below _ _ _
                refine ⟨HG4.out.os.trans HBZ.out.os, HG4.out.tape.trans HBZ.out.tape, HG4.out.output.trans HBZ.out.output, Nat.le_trans HBZ.out.size HG4.out.size, fun i hi => (HG4.out.block i (by have := HBZ.out.size; omega) (fun e => ?_)).trans (HBZ.out.block i hi)⟩
                have := (HRZ.out.lt i e.symm).1
                omega
      · have hkk : k = l := by omega
        subst hkk
        have hii : ¬ (k : Int) < k := by omega
        have hAC := acts_own HR.out rfl
        have ho2 := Order_any (HO.out.below HBW.out) hAC (by omega) (args_cut HARG.out k)
        clear hAC
        go_wp2_with fail
        refine ho2.mono ?_
        rintro e y7 ⟨r2, v2, ord2, rfl, -, hb7, hyes2, hno2⟩
        have HB7 : Hid (Below w.heap.size w y7) := HBW.out.trans (hb7.mono HBW.out.size)
        have hr2 : r2 = true := by
          cases r2 with
          | true => rfl
          | false =>
            obtain ⟨o', ho'⟩ := HCO.out
            exact absurd ho' ((hno2 rfl).2 HMM.out HCM.out _)
        subst hr2
        clear ho2 hyes2 hno2 hb7
        go_wp2_with fail
        refine (HL.out _).mono ?_
        rintro e y ⟨rfl, hy⟩
        have HY : Hid (Below w.heap.size w y) := HB7.out.trans (hy.mono HB7.out.size)
        clear hy
        go_wp2_with fail
        go_ret
        exact ⟨rfl, HY.out⟩
end Go.Proofs.Ytafdjmccgijmnaa

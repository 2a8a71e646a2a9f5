/- An act more that has not come back takes nothing away. -/
import Derived.Test.YtafdjmccgijmnaaHiLive
import Derived.Test.YtafdjmccgijmnaaHiOpen
namespace Go.Proofs.Ytafdjmccgijmnaa
open Go.RowKit A Go.Maps
set_option linter.unusedVariables false
set_option linter.unusedSimpArgs false
namespace H
theorem snoc_old {ts : List Ac} {a : Ac} {k : Nat} (hk : k < ts.length) : (ts ++ [a]).getD k noAc = ts.getD k noAc := by simp only [List.getD]; rw [List.getElem?_append_left hk]
theorem snoc_new {ts : List Ac} {a : Ac} : (ts ++ [a]).getD ts.length noAc = a := by simp [List.getD]
theorem pend_ok {ts : List Ac} {a : Ac} (ha : a.back = -1) : ∀ (o : List Nat) (d : Nat) (s : List At), (Pf ts).Ok d s o → (Pf (ts ++ [a])).Ok d s o
  | [], d, s, h => by
    have h' : (Pf ts).all d = true := h
    show (Pf (ts ++ [a])).all d = true
    rw [all_iff] at h' ⊢
    intro k hk hm
    have hk' : k < ts.length + 1 := by have : k < (ts ++ [a]).length := hk; simpa using this
    have hm' : ((ts ++ [a]).getD k noAc).isBack = true := hm
    by_cases e : k < ts.length
    · rw [snoc_old e] at hm'
      exact h' k e hm'
    · obtain rfl : k = ts.length := by omega
      rw [snoc_new] at hm'
      unfold Ac.isBack at hm'
      rw [ha] at hm'
      exact absurd hm' (by decide)
  | k :: o, d, s, h => by
    obtain ⟨hk, hf, s', hs, hr⟩ := h
    have hk' : k < ts.length := hk
    refine ⟨by show k < (ts ++ [a]).length; simp; omega, ?_, s', ?_, pend_ok ha o _ _ hr⟩
    · rw [free_iff] at hf ⊢
      refine ⟨hf.1, fun j hj he => ?_⟩
      have hj' : j < ts.length + 1 := by have : j < (ts ++ [a]).length := hj; simpa using this
      have he' : ((ts ++ [a]).getD j noAc).ahead ((ts ++ [a]).getD k noAc) = true := he
      rw [snoc_old hk'] at he'
      by_cases e : j < ts.length
      · rw [snoc_old e] at he'
        exact hf.2 j e he'
      · obtain rfl : j = ts.length := by omega
        rw [snoc_new] at he'
        unfold Ac.ahead at he'
        rw [ha] at he'
        simp at he'
    · have hs' : stp ts s k = some s' := hs
      show stp (ts ++ [a]) s k = some s'
      unfold stp at hs' ⊢
      rw [snoc_old hk']
      exact hs'
end H
set_option maxRecDepth 100000 in
theorem few_any {w : World} {a aa : Option Addr} {lo c l cc : Nat} : Calls Try.prog 8 #[.slice a lo c, .slice aa l cc] w fun e w' => e = .returned (.bool (decide (lo ≤ 10) && decide (l ≤ 12))) ∧ w' = w := by
  by_cases h1 : lo ≤ 10
  · have e1 : (lo : Int) ≤ 10 := by omega
    by_cases h2 : l ≤ 12
    · have e2 : (l : Int) ≤ 12 := by omega
      rw [decide_eq_true h1, decide_eq_true h2]
      go_enter Try.func8, Try.ntmps8
      go_wp2_with fail
      go_ret
      exact ⟨by simp [e2]; try rfl, rfl⟩
    · have e2 : ¬ (l : Int) ≤ 12 := by omega
      rw [decide_eq_true h1, decide_eq_false h2]
      go_enter Try.func8, Try.ntmps8
      go_wp2_with fail
      go_ret
      exact ⟨by simp [e2]; try rfl, rfl⟩
  · have e1 : ¬ (lo : Int) ≤ 10 := by omega
    rw [decide_eq_false h1]
    go_enter Try.func8, Try.ntmps8
    go_wp2_with fail
    go_ret
    exact ⟨rfl, rfl⟩
theorem acts_src {w : World} {a : Option Addr} {l c : Nat} {ts : List H.Ac} (h : ActsV w a l c ts) : (ts.flatMap H.Ac.cs).length = l * 7 ∧ (∀ ad, a = some ad → ∀ j u, (ts.flatMap H.Ac.cs)[j]? = some u → w.cell? (ad.add j) = some u) ∧ ∀ u ∈ ts.flatMap H.Ac.cs, u.oneCell' = true := by
  refine ⟨by rw [A.flat_len' (m := 7) (fun _ => rfl), h.count], fun ad hA j u hu => ?_, fun u hu => ?_⟩
  · rcases h.cells with h0 | ⟨b, off, e, hc⟩
    · have : ts = [] := List.length_eq_zero_iff.1 (by rw [h.count]; exact h0)
      subst this
      simp at hu
    · rw [hA] at e
      cases e
      rw [Addr.add_lit]
      exact A.flat_cells (f := H.Ac.cs) (m := 7) (d := H.noAc) (fun _ => rfl) (by decide) (fun i hi q u _ hu => hc i (by rw [← h.count]; exact hi) q u hu) j u hu
  · obtain ⟨x, -, hx⟩ := List.mem_flatMap.1 hu
    simp [H.Ac.cs] at hx
    rcases hx with rfl | rfl | rfl | rfl | rfl | rfl | rfl <;> rfl
theorem acts_own {W : World} {B : Nat} {a : Option Addr} {n c : Nat} {ts : List H.Ac} (h : W.ownsRow B 42 7 (.slice a n c) n (ts.flatMap H.Ac.cs)) (hn : ts.length = n) : ActsV W a n c ts := by
  refine ⟨hn, A.own_room h, ?_⟩
  by_cases h0 : n = 0
  · exact .inl h0
  · right
    rcases h.2 with ⟨e, e2⟩ | ⟨g, cap, cur, e, -⟩
    · omega
    · simp only [Value.slice.injEq, true_and] at e
      obtain ⟨rfl, rfl⟩ := e
      refine ⟨g, 0, rfl, fun i hi j u hu => ?_⟩
      have hj : j < 7 := by
        have := (List.getElem?_eq_some_iff.1 hu).1
        simpa [H.Ac.cs] using this
      rw [Nat.zero_add, h.cellAt (i * 7 + j) (by omega), A.flat_at H.Ac.cs 7 H.noAc (fun _ => rfl) _ _ _ (by omega) hj]
      exact hu
set_option maxRecDepth 100000 in
set_option maxHeartbeats 16000000 in
theorem pend_any {w : World} {a aa : Option Addr} {lo c l cc : Nat} {os : List At} {ts : List H.Ac} (hO : AtsV w a lo c os) (hA : ActsV w aa l cc ts) (hf : ∀ r ∈ ts, AcFit r) (hnil : aa = none → l = 0 ∧ cc = 0) (x : H.Ac) (hx : AcFit x) :
    Calls Try.prog 7 #[.slice a lo c, .slice aa l cc, x.v] w fun e w' => e = .returned (.bool true) ∧ Below w.heap.size w w' := by
  have HO : Hid (AtsV w a lo c os) := hO
  have HA : Hid (ActsV w aa l cc ts) := hA
  have HTC : Hid (ts.length = l) := hA.count
  have HNIL : Hid (aa = none → l = 0 ∧ cc = 0) := hnil
  have HARG : Hid (∀ r ∈ ts, (Lit.int .i64 r.arg).wf = true) := fun r hr => (hf r hr).2.2.2.1
  have HXA : Hid ((Lit.int .i64 x.arg).wf = true) := hx.2.2.2.1
  have hmx := hA.room
  have hmax : maxLen = 9223372036854775807 := rfl
  have HL : Hid (∀ W, Calls Try.prog 9 #[] W fun e w' => e = .returned (.bool true) ∧ Below W.heap.size W w') := fun W => live_any W
  obtain ⟨i7, hi7, hz70, hz71, hz72⟩ := hinfo infoAct
  clear hO hA hf hnil hx
  obtain ⟨th, dd, nm, arg, call, back, ans⟩ := x
  unfold H.Ac.v
  simp only at HXA ⊢
  obtain ⟨Y1, hY1⟩ : ∃ Y, w.alloc (.cells #[.int .i64 th, .int .i64 dd, .string nm, .int .i64 arg, .int .i64 call, .int .i64 back, .int .i64 ans] 42) = Y := ⟨_, rfl⟩
  have hb1 : Below w.heap.size w Y1 := by rw [← hY1]; exact hbl1 _ _
  have HB1 : Hid (Below w.heap.size w Y1) := hb1
  have hfew := few_any (w := Y1) (a := a) (aa := aa) (lo := lo) (c := c) (l := l) (cc := cc)
  by_cases hsm : lo ≤ 10 ∧ l ≤ 11
  rotate_left
  · by_cases hfw : lo ≤ 10 ∧ l ≤ 12
    · rw [decide_eq_true hfw.1, decide_eq_true hfw.2] at hfew
      have h11 : (11 : Int) < l := by omega
      clear hsm hfw hb1
      go_enter Try.func7, Try.ntmps7
      go_wp2_with fail
      refine hfew.mono ?_
      rintro e y ⟨rfl, hy⟩
      rw [hy]
      clear hy hfew
      go_wp2_with fail
      refine (HL.out _).mono ?_
      rintro e y ⟨rfl, hy⟩
      have HY : Hid (Below w.heap.size w y) := HB1.out.trans (hy.mono HB1.out.size)
      clear hy
      go_wp2_with fail
      go_ret
      exact ⟨rfl, HY.out⟩
    · have e1 : (decide (lo ≤ 10) && decide (l ≤ 12)) = false := by
        rw [Bool.and_eq_false_iff, decide_eq_false_iff_not, decide_eq_false_iff_not]
        omega
      rw [e1] at hfew
      clear hsm hfw e1 hb1
      go_enter Try.func7, Try.ntmps7
      go_wp2_with fail
      refine hfew.mono ?_
      rintro e y ⟨rfl, hy⟩
      rw [hy]
      clear hy hfew
      go_wp2_with fail
      refine (HL.out _).mono ?_
      rintro e y ⟨rfl, hy⟩
      have HY : Hid (Below w.heap.size w y) := HB1.out.trans (hy.mono HB1.out.size)
      clear hy
      go_wp2_with fail
      go_ret
      exact ⟨rfl, HY.out⟩
  rw [decide_eq_true hsm.1, decide_eq_true (by omega : l ≤ 12)] at hfew
  have hl11 : l ≤ 11 := hsm.2
  have h11 : ¬ (11 : Int) < l := by omega
  have d0 : Y1.cell? ⟨w.heap.size, 0, none⟩ = some (.int .i64 th) := by rw [← hY1]; simp
  have d1 : Y1.cell? ⟨w.heap.size, 1, none⟩ = some (.int .i64 dd) := by rw [← hY1]; simp
  have d2 : Y1.cell? ⟨w.heap.size, 2, none⟩ = some (.string nm) := by rw [← hY1]; simp
  have d3 : Y1.cell? ⟨w.heap.size, 3, none⟩ = some (.int .i64 arg) := by rw [← hY1]; simp
  have d4 : Y1.cell? ⟨w.heap.size, 4, none⟩ = some (.int .i64 call) := by rw [← hY1]; simp
  have d5 : Y1.cell? ⟨w.heap.size, 5, none⟩ = some (.int .i64 back) := by rw [← hY1]; simp
  have d6 : Y1.cell? ⟨w.heap.size, 6, none⟩ = some (.int .i64 ans) := by rw [← hY1]; simp
  have f5 : Y1.frozen? ⟨w.heap.size, 5, none⟩ = false := by rw [← hY1]; exact World.frozen?_alloc_at _ _ _ _ rfl
  obtain ⟨Y2, hY2⟩ : ∃ Y, Y1.setCell ⟨w.heap.size, 5, none⟩ (.int .i64 (-1)) = Y := ⟨_, rfl⟩
  have hb2 : Below w.heap.size w Y2 := by rw [← hY2]; exact hb1.setCell (Nat.le_refl _) _
  have HB2 : Hid (Below w.heap.size w Y2) := hb2
  have hws : w.heap.size < Y2.heap.size := by rw [← hY2, World.size_setCell, ← hY1]; simp
  have g0 : Y2.cell? ⟨w.heap.size, 0, none⟩ = some (.int .i64 th) := by rw [← hY2, World.cell?_setCell_other _ _ _ _ (by simp)]; exact d0
  have g1 : Y2.cell? ⟨w.heap.size, 1, none⟩ = some (.int .i64 dd) := by rw [← hY2, World.cell?_setCell_other _ _ _ _ (by simp)]; exact d1
  have g2 : Y2.cell? ⟨w.heap.size, 2, none⟩ = some (.string nm) := by rw [← hY2, World.cell?_setCell_other _ _ _ _ (by simp)]; exact d2
  have g3 : Y2.cell? ⟨w.heap.size, 3, none⟩ = some (.int .i64 arg) := by rw [← hY2, World.cell?_setCell_other _ _ _ _ (by simp)]; exact d3
  have g4 : Y2.cell? ⟨w.heap.size, 4, none⟩ = some (.int .i64 call) := by rw [← hY2, World.cell?_setCell_other _ _ _ _ (by simp)]; exact d4
  have g5 : Y2.cell? ⟨w.heap.size, 5, none⟩ = some (.int .i64 (-1)) := by rw [← hY2]; exact World.cell?_setCell_same' _ _ _ (by rw [d5]; rfl)
  have g6 : Y2.cell? ⟨w.heap.size, 6, none⟩ = some (.int .i64 ans) := by rw [← hY2, World.cell?_setCell_other _ _ _ _ (by simp)]; exact d6
  have HG : Hid (Y2.cell? ⟨w.heap.size, 0, none⟩ = some (.int .i64 th) ∧ Y2.cell? ⟨w.heap.size, 1, none⟩ = some (.int .i64 dd) ∧ Y2.cell? ⟨w.heap.size, 2, none⟩ = some (.string nm) ∧ Y2.cell? ⟨w.heap.size, 3, none⟩ = some (.int .i64 arg) ∧ Y2.cell? ⟨w.heap.size, 4, none⟩ = some (.int .i64 call) ∧ Y2.cell? ⟨w.heap.size, 5, none⟩ = some (.int .i64 (-1)) ∧ Y2.cell? ⟨w.heap.size, 6, none⟩ = some (.int .i64 ans)) := ⟨g0, g1, g2, g3, g4, g5, g6⟩
  have hsrc := acts_src (HA.out.below hb2)
  clear g0 g1 g2 g3 g4 g5 g6 hsm hb1 hb2
  go_enter Try.func7, Try.ntmps7
  go_wp2_with fail
  refine hfew.mono ?_
  rintro e y ⟨rfl, hy⟩
  rw [hy]
  clear hy hfew
  go_upto_region 6 with (first | (at_builtin; go_loud (refine A.wpList_append_copy rfl _ _ 23 rfl 42 i7 _ 7 64 Try.underlying23 hi7 hz70 hz71 hz72 rfl (by decide) (cs := ts.flatMap H.Ac.cs) (a := aa) (l := l) (c := cc) rfl rfl HNIL.out hsrc.1 hsrc.2.1 hsrc.2.2 (by omega) (by omega) ?_; intro ma mc y3 ho3 hb3)) | fail)
  obtain ⟨x0, x1, x2, x3, x4, x5, x6⟩ := HG.out
  have x0 := hcell_thru hb3 x0
  have x1 := hcell_thru hb3 x1
  have x2 := hcell_thru hb3 x2
  have x3 := hcell_thru hb3 x3
  have x4 := hcell_thru hb3 x4
  have x5 := hcell_thru hb3 x5
  have x6 := hcell_thru hb3 x6
  have HB3 : Hid (Below w.heap.size w y3) := HB2.out.trans (hb3.mono HB2.out.size)
  obtain ⟨Z, hZ⟩ : ∃ Y, y3.alloc (.cells #[.int .i64 th, .int .i64 dd, .string nm, .int .i64 arg, .int .i64 call, .int .i64 (-1), .int .i64 ans] 42) = Y := ⟨_, rfl⟩
  have hbZ : Below y3.heap.size y3 Z := by rw [← hZ]; exact hbl1 _ _
  have HROWZ : Hid (Z.ownsRow Y2.heap.size 42 7 (.slice ma l mc) l (ts.flatMap H.Ac.cs)) := hown_thru ho3 hbZ
  have HNC : Hid (∀ j u, (H.Ac.cs ⟨th, dd, nm, arg, call, -1, ans⟩)[j]? = some u → Z.cell? ((⟨y3.heap.size, 0, none⟩ : Addr).add j) = some u) := by
    intro j u hu
    rw [Addr.add_lit, Nat.zero_add, ← hZ]
    exact A.cell_last rfl (by simpa [H.Ac.cs] using hu)
  have hyz : Y2.heap.size ≤ Z.heap.size := Nat.le_trans hb3.size hbZ.size
  have HBZ : Hid (Below w.heap.size w Z) := HB3.out.trans (hbZ.mono HB3.out.size)
  have HMF : Hid (∀ g, (Value.slice ma l mc).ownBlock = some g → w.heap.size ≤ g) := fun g hg => by have := (ho3.lt g hg).1; omega
  clear ho3 hb3 hsrc
  go_upto_region 7 with (first | (at_builtin; go_loud (refine wpList_append_lies _ rfl _ _ 23 rfl Y2.heap.size 42 i7 _ 7 64 Try.underlying23 hi7 hz70 hz71 hz72 rfl (by decide) (.slice ma l mc) l (ts.flatMap H.Ac.cs) rfl HROWZ.out ⟨y3.heap.size, 0, none⟩ 1 1 (H.Ac.cs ⟨th, dd, nm, arg, call, -1, ans⟩) rfl rfl HNC.out (by intro u hu; simp [H.Ac.cs] at hu; rcases hu with rfl | rfl | rfl | rfl | rfl | rfl | rfl <;> rfl) (by decide) (by unfold maxLen; omega) (by omega) hyz Z.heap.size rfl ?_; intro ga ca y4 ho4 hg4 hat4 hlt4)) | fail)
  have hb4 : Below w.heap.size w y4 := ⟨hg4.os.trans HBZ.out.os, hg4.tape.trans HBZ.out.tape, hg4.output.trans HBZ.out.output, Nat.le_trans HBZ.out.size hg4.size, fun i hi => (hg4.block i (by have := HBZ.out.size; omega) (fun e => by have := HMF.out i e.symm; omega)).trans (HBZ.out.block i hi)⟩
  have HB4 : Hid (Below w.heap.size w y4) := hb4
  have hAM : ActsV y4 (some ⟨ga, 0, none⟩) (l + 1) ca (ts ++ [⟨th, dd, nm, arg, call, -1, ans⟩]) := acts_own (by rw [List.flatMap_append]; simpa using ho4) (by rw [List.length_append, HTC.out]; rfl)
  have HAM : Hid (ActsV y4 (some ⟨ga, 0, none⟩) (l + 1) ca (ts ++ [⟨th, dd, nm, arg, call, -1, ans⟩])) := hAM
  have HARM : Hid (∀ r ∈ ts ++ [(⟨th, dd, nm, arg, call, -1, ans⟩ : H.Ac)], (Lit.int .i64 r.arg).wf = true) := fun r hr => by
    rcases List.mem_append.1 hr with h | h
    · exact HARG.out r h
    · rw [List.mem_singleton.1 h]; exact HXA.out
  have ho := Order_any (HO.out.below hb4) (HA.out.below hb4) (by omega) HARG.out
  clear ho4 hg4 hat4 hlt4 hb4 hAM x0 x1 x2 x3 x4 x5 x6
  go_wp2_with fail
  refine ho.mono ?_
  rintro e y5 ⟨r, v, ord, rfl, -, hb5, hyes, hno⟩
  have HB5 : Hid (Below w.heap.size w y5) := HB4.out.trans (hb5.mono HB4.out.size)
  have HYES : Hid (r = true → mayAll os = true ∧ H.mayH ts = true ∧ (H.Pf ts).Ok 0 os ord) := hyes
  have HAM5 : Hid (ActsV y5 (some ⟨ga, 0, none⟩) (l + 1) ca (ts ++ [⟨th, dd, nm, arg, call, -1, ans⟩])) := HAM.out.below hb5
  clear ho hyes hno hb5
  cases r with
  | false =>
    clear HYES
    go_wp2_with fail
    refine (HL.out _).mono ?_
    rintro e y ⟨rfl, hy⟩
    have HY : Hid (Below w.heap.size w y) := HB5.out.trans (hy.mono HB5.out.size)
    clear hy
    go_wp2_with fail
    go_ret
    exact ⟨rfl, HY.out⟩
  | true =>
    obtain ⟨hm, -, hok⟩ := HYES.out rfl
    have HMM : Hid (mayAll os = true) := hm
    have HOKM : Hid ((H.Pf (ts ++ [⟨th, dd, nm, arg, call, -1, ans⟩])).Ok 0 os ord) := H.pend_ok rfl _ _ _ hok
    have hch := check_any HAM5.out
    clear HYES hm hok
    cases hh : H.mayH (ts ++ [⟨th, dd, nm, arg, call, -1, ans⟩]) with
    | false =>
      rw [if_neg (by rw [hh]; decide)] at hch
      clear hh
      go_wp2_with fail
      refine hch.mono ?_
      rintro e y6 ⟨rfl, hy6⟩
      have HB6 : Hid (Below w.heap.size w y6) := HB5.out.trans (hy6.mono HB5.out.size)
      clear hy6 hch
      go_wp2_with fail
      refine (HL.out _).mono ?_
      rintro e y ⟨rfl, hy⟩
      have HY : Hid (Below w.heap.size w y) := HB6.out.trans (hy.mono HB6.out.size)
      clear hy
      go_wp2_with fail
      go_ret
      exact ⟨rfl, HY.out⟩
    | true =>
      rw [if_pos hh] at hch
      have HHH : Hid (H.mayH (ts ++ [⟨th, dd, nm, arg, call, -1, ans⟩]) = true) := hh
      clear hh
      go_wp2_with fail
      refine hch.mono ?_
      rintro e y6 ⟨rfl, hy6⟩
      have HB6 : Hid (Below w.heap.size w y6) := HB5.out.trans (hy6.mono HB5.out.size)
      have ho2 := Order_any (HO.out.below HB6.out) (HAM5.out.below hy6) (by omega) HARM.out
      clear hy6 hch
      go_wp2_with fail
      refine ho2.mono ?_
      rintro e y7 ⟨r2, v2, ord2, rfl, -, hb7, hyes2, hno2⟩
      have HB7 : Hid (Below w.heap.size w y7) := HB6.out.trans (hb7.mono HB6.out.size)
      have hr2 : r2 = true := by
        cases r2 with
        | true => rfl
        | false => exact absurd HOKM.out ((hno2 rfl).2 HMM.out HHH.out _)
      subst hr2
      clear ho2 hyes2 hno2 hb7
      go_wp2_with fail
      refine (HL.out _).mono ?_
      rintro e y ⟨rfl, hy⟩
      have HY : Hid (Below w.heap.size w y) := HB7.out.trans (hy.mono HB7.out.size)
      clear hy
      go_wp2_with fail
      go_ret
      exact ⟨rfl, HY.out⟩
end Go.Proofs.Ytafdjmccgijmnaa

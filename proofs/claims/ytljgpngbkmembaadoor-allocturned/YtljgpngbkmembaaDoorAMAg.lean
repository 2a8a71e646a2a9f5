/- Lives: the worklist. -/
import Derived.Test.YtljgpngbkmembaaDoorAMAe
import Derived.Test.YtljgpngbkmembaaDoorAMAf
import Derived.Deep.LoopGhost
import Derived.Deep.RegionHeld3
import Derived.Deep.CutRange
namespace Go.Proofs.YtljgpngbkmembaaDoor
open Go.RowKit Go.Maps
set_option linter.unusedVariables false
set_option linter.unusedSimpArgs false
theorem infoSet : (Tryd.prog.info? 54).map (fun i => (i.zero, i.size, i.bytes)) = some (some (.agg #[.int .u64 0, .int .u64 0, .int .u64 0, .int .u64 0, .int .u64 0, .int .u64 0, .int .u64 0]), 7, 56) := by kernel_rfl
theorem infoInt : (Tryd.prog.info? 3).map (fun i => (i.zero, i.size, i.bytes)) = some (some (.int .i64 0), 1, 8) := by kernel_rfl
set_option maxRecDepth 100000 in
theorem makeSet (w : World) (N : Nat) (hN : N ≤ 65536) :
    (Instr.makeSlice 71 (.int .i64 N) (.int .i64 N)).run Tryd.prog w = .ok (.slice (some ⟨w.heap.size, 0, none⟩) N N) (w.alloc (.cells (Array.replicate (N * 7) (.int .u64 0)) 54)) := by
  obtain ⟨i, hi, h0, h1, h2⟩ := ainfo infoSet
  have := run_make (P := Tryd.prog) w 71 54 i _ Tryd.underlying71 hi h0 .i64 .i64 N N (by omega) (by omega) (by rw [h2]; omega) (by omega)
  rw [this, h1, Int.toNat_natCast]
  congr 3
  unfold madeCells
  apply Array.ext
  · simp
  · intro i h1 h2
    simp only [Array.getElem_map, Array.getElem_range, Array.getElem_replicate]
    have hz : (Value.agg #[.int .u64 0, .int .u64 0, .int .u64 0, .int .u64 0, .int .u64 0, .int .u64 0, .int .u64 0]).cells = #[.int .u64 0, .int .u64 0, .int .u64 0, .int .u64 0, .int .u64 0, .int .u64 0, .int .u64 0] := by simp [Value.cells]
    rw [hz]
    have h7 : i % 7 < 7 := Nat.mod_lt _ (by decide)
    show (#[Value.int .u64 0, .int .u64 0, .int .u64 0, .int .u64 0, .int .u64 0, .int .u64 0, .int .u64 0] : Array Value)[i % 7]! = _
    generalize i % 7 = q at h7
    rcases (show q = 0 ∨ q = 1 ∨ q = 2 ∨ q = 3 ∨ q = 4 ∨ q = 5 ∨ q = 6 by omega) with rfl | rfl | rfl | rfl | rfl | rfl | rfl <;> rfl
set_option maxRecDepth 100000 in
theorem makeInt (w : World) (N : Nat) (hN : N ≤ 65536) :
    (Instr.makeSlice 30 (.int .i64 N) (.int .i64 N)).run Tryd.prog w = .ok (.slice (some ⟨w.heap.size, 0, none⟩) N N) (w.alloc (.cells (Array.replicate N (.int .i64 0)) 3)) := by
  obtain ⟨i, hi, h0, h1, h2⟩ := ainfo infoInt
  have := run_make (P := Tryd.prog) w 30 3 i (.int .i64 0) Tryd.underlying30 hi h0 .i64 .i64 N N (by omega) (by omega) (by rw [h2]; omega) (by omega)
  rw [this, h1, Int.toNat_natCast]
  congr 3
  unfold madeCells
  apply Array.ext
  · simp
  · intro i h1 h2
    simp [Value.cells, Nat.mod_one]
theorem makeBool (w : World) (N : Nat) (hN : N ≤ 65536) :
    (Instr.makeSlice 61 (.int .i64 N) (.int .i64 N)).run Tryd.prog w = .ok (.slice (some ⟨w.heap.size, 0, none⟩) N N) (w.alloc (.cells (Array.replicate N (.bool false)) 4)) := by
  rw [makeBl w N hN, List.toArray_replicate]
theorem int_fit {q : Nat} (h : q ≤ 9223372036854775807) : (Lit.int .i64 (q : Int)).wf = true := by
  show (decide (IntKind.i64.min ≤ (q : Int)) && decide ((q : Int) ≤ IntKind.i64.max)) = true
  rw [show IntKind.i64.min = -9223372036854775808 from rfl, show IntKind.i64.max = 9223372036854775807 from rfl]
  simp
  omega
/-- The worklist's beginning. -/
structure LvJ (M1 : World) (n gs gw j : Nat) (W : World) : Prop where
  low : Below M1.heap.size M1 W
  bs : ∃ cs, W.heap[gs]? = some (.cells cs 4)
  bw : ∃ cs, W.heap[gw]? = some (.cells cs 3) ∧ cs.size = n
  k : ∀ i, i < j → W.cell? ⟨gw, i, none⟩ = some (iV (i : Int))
  ke : ∀ i, i < n → (W.cell? ⟨gw, i, none⟩).isSome = true
  s : ∀ i, i < j → W.cell? ⟨gs, i, none⟩ = some (.bool true)
  se : ∀ i, i < n → (W.cell? ⟨gs, i, none⟩).isSome = true
  gs_ge : M1.heap.size ≤ gs
  gw_ge : M1.heap.size ≤ gw
theorem blk_set_size {W : World} {g i : Nat} {T : TypeId} {cs : Array Value} {fr : Nat × Nat} (h : W.heap[g]? = some (.cells cs T fr)) (u : Value) : ∃ cs', (W.setCell ⟨g, i, none⟩ u).heap[g]? = some (.cells cs' T fr) ∧ cs'.size = cs.size := by
  have hlt := (Array.getElem?_eq_some_iff.1 h).1
  refine ⟨cs.setIfInBounds i u, ?_, by simp⟩
  show (W.heap.modify g _)[g]? = _
  rw [Array.getElem?_eq_getElem (by rw [Array.size_modify]; exact hlt), Array.getElem_modify_self]
  have h2 := (Array.getElem?_eq_some_iff.1 h).2
  rw [h2]
  rfl
theorem LvJ.step {M1 W : World} {n gs gw j : Nat} (h : LvJ M1 n gs gw j W) (hj : j < n) : LvJ M1 n gs gw (j + 1) ((W.setCell ⟨gw, j, none⟩ (.int .i64 (j : Int))).setCell ⟨gs, j, none⟩ (.bool true)) := by
  obtain ⟨c1, h1⟩ := h.bs
  obtain ⟨c2, h2, h3⟩ := h.bw
  have hne : gw ≠ gs := blk_ne h2 h1 (by decide)
  obtain ⟨c3, h4, h5⟩ := blk_set_size h2 (i := j) (.int .i64 (j : Int))
  have h6 : (W.setCell ⟨gw, j, none⟩ (.int .i64 (j : Int))).heap[gs]? = some (.cells c1 4) := (set_blk_far (Ne.symm hne)).trans h1
  have fs : ∀ (Z : World) (q : Nat) (x : Value) (i : Nat), (Z.setCell ⟨gs, q, none⟩ x).cell? ⟨gw, i, none⟩ = Z.cell? ⟨gw, i, none⟩ := fun Z q x i => World.cell?_setCell_far _ ⟨gs, q, none⟩ ⟨gw, i, none⟩ _ (Ne.symm hne)
  have fw : ∀ (Z : World) (q : Nat) (x : Value) (i : Nat), (Z.setCell ⟨gw, q, none⟩ x).cell? ⟨gs, i, none⟩ = Z.cell? ⟨gs, i, none⟩ := fun Z q x i => World.cell?_setCell_far _ ⟨gw, q, none⟩ ⟨gs, i, none⟩ _ hne
  have ot : ∀ (Z : World) (b q i : Nat) (x : Value), q ≠ i → (Z.setCell ⟨b, q, none⟩ x).cell? ⟨b, i, none⟩ = Z.cell? ⟨b, i, none⟩ := fun Z b q i x hz => World.cell?_setCell_other _ _ _ _ (fun e' => hz (by have := congrArg Addr.off e'; simpa using this))
  have sm : ∀ (Z : World) (p : Addr) (x : Value), (Z.cell? p).isSome = true → (Z.setCell p x).cell? p = some x := fun Z p x hz => World.cell?_setCell_same' _ _ _ hz
  have hs := h.gs_ge
  have hw := h.gw_ge
  refine ⟨(h.low.setCell (p := ⟨gw, j, none⟩) hw _).setCell (p := ⟨gs, j, none⟩) hs _, blk_set h6 _, ⟨c3, (set_blk_far hne).trans h4, by rw [h5, h3]⟩, fun i hi => ?_, fun i hi => ?_, fun i hi => ?_, fun i hi => ?_, hs, hw⟩
  · rw [fs]
    by_cases e : j = i
    · subst e; exact sm _ _ _ (h.ke j hj)
    · rw [ot _ _ _ _ _ e]; exact h.k i (by omega)
  · rw [fs]
    by_cases e : j = i
    · subst e; rw [sm _ _ _ (h.ke j hj)]; rfl
    · rw [ot _ _ _ _ _ e]; exact h.ke i hi
  · by_cases e : j = i
    · subst e; exact sm _ _ _ (by rw [fw]; exact h.se j hj)
    · rw [ot _ _ _ _ _ e, fw]; exact h.s i (by omega)
  · by_cases e : j = i
    · subst e; rw [sm _ _ _ (by rw [fw]; exact h.se j hj)]; rfl
    · rw [ot _ _ _ _ _ e, fw]; exact h.se i hi
theorem LvJ.start {w M1 W : World} {n ga gs gw : Nat} (h : LvJ M1 n gs gw n W) (hn : n ≤ maxLen) (hl : Below w.heap.size w M1) (hga : w.heap.size ≤ ga) (hb : ∃ cs, M1.heap[ga]? = some (.cells cs 54)) (ha : ∀ i, i < n → SetAt M1 ga (i * 7) F.zero7) : LvM w M1 n ga gs gw n (fun _ => F.zero7) (fun _ => true) (List.range n) W := by
  obtain ⟨cs, hcs⟩ := hb
  obtain ⟨c2, h2, h3⟩ := h.bw
  have up : ∀ {k : Nat} {o : Obj}, M1.heap[k]? = some o → W.heap[k]? = some o := fun hk => (h.low.block _ (Array.getElem?_eq_some_iff.1 hk).1).trans hk
  refine ⟨hl.trans (h.low.mono hl.size), fun k c T f hk _ => up hk, ⟨cs, up hcs⟩, h.bs, fun i hi j hj => ?_, fun i hi => h.s i hi, ?_, hga, h.gs_ge, hl.size⟩
  · exact (h.low.cell (p := ⟨ga, _, none⟩) (Array.getElem?_eq_some_iff.1 hcs).1).trans (ha i hi j hj)
  · rw [List.length_range]
    refine own_of_cells h.gw_ge h2 h3 (Nat.le_refl _) hn (by simp) (fun j hj => ?_)
    rw [h.k j hj]
    simp [hj]
def LvsOut (w : World) (f : F.Fn) (n : Nat) (e : Ending) (W : World) : Prop := ∃ (ga : Nat) (U : Nat → Nat → Nat), e = .returned (.slice (some ⟨ga, 0, none⟩) n n) ∧ w.heap.size ≤ ga ∧ (∃ cs, W.heap[ga]? = some (.cells cs 54)) ∧ (∀ i, i < n → SetAt W ga (i * 7) (U i)) ∧ (∀ i, i < n → F.Set7 (U i)) ∧ (∀ i, i < n → ∀ t, t < 448 → (F.mem (U i) t = true ↔ F.Lv f i (t : Int))) ∧ Below w.heap.size w W
set_option maxRecDepth 100000 in
set_option maxHeartbeats 16000000 in
theorem lives_any {w : World} {f : F.Fn} {a : Option Addr} {n c : Nat} (h : OpsV w a n c f.code) (hm : F.mayF f = true) (ht : Shp w) :
    Calls Tryd.prog 40 #[.slice a n c, .func (.func 39) #[] #[]] w (LvsOut w f n) := by
  have hC := h.count
  have hhd := F.may_head hm
  have hn2 : n ≤ 20000 := by omega
  have hn1 : 1 ≤ n := by omega
  have HC : Hid (f.code.length = n) := hC
  have HT4 : Hid (f.temps ≤ 400) := hhd.2.2.1
  have HM : Hid (F.mayF f = true) := hm
  have HO : Hid _ := h
  have HT : Hid _ := ht
  have HMS := makeSet w n (by omega)
  clear h ht hm hhd hC
  go_enter Tryd.func40, Tryd.ntmps40
  go_wp2_with fail
  obtain ⟨A0, hA0⟩ : ∃ A0, w.alloc (.cells (Array.replicate (n * 7) (.int .u64 0)) 54) = A0 := ⟨_, rfl⟩
  have hb0 : Below w.heap.size w A0 := by rw [← hA0]; exact bl1 _ _
  have HA : Hid (A0.heap[w.heap.size]? = some (.cells (Array.replicate (n * 7) (.int .u64 0)) 54)) := by show _ = _; rw [← hA0]; exact World.alloc_heap_new _ _
  have HB0 : Hid _ := hb0
  rw [hA0]
  clear hA0 HMS hb0
  refine (come_any (HO.out.below HB0.out) HM.out (HT.out.below HB0.out)).mono ?_
  rintro e M1 ⟨gf, vs, L, rfl, hfr, hmem, hbm⟩
  have HFR : Hid _ := hfr
  have HMEM : Hid _ := hmem
  have HBM : Hid (Below w.heap.size w M1) := HB0.out.trans (hbm.mono HB0.out.size)
  have HAM : Hid (M1.heap[w.heap.size]? = some (.cells (Array.replicate (n * 7) (.int .u64 0)) 54)) := (hbm.block _ (Array.getElem?_eq_some_iff.1 HA.out).1).trans HA.out
  clear hfr hmem hbm HA HB0
  go_wp2_with fail
  have HMI : ∀ W : World, (Instr.makeSlice 30 (.int .i64 n) (.int .i64 n)).run Tryd.prog W = .ok (.slice (some ⟨W.heap.size, 0, none⟩) n n) (W.alloc (.cells (Array.replicate n (.int .i64 0)) 3)) := fun W => makeInt W n (by omega)
  have HMB : ∀ W : World, (Instr.makeSlice 61 (.int .i64 n) (.int .i64 n)).run Tryd.prog W = .ok (.slice (some ⟨W.heap.size, 0, none⟩) n n) (W.alloc (.cells (Array.replicate n (.bool false)) 4)) := fun W => makeBool W n (by omega)
  have HJ1 : Hid (LvJ M1 n (M1.heap.size + 1) M1.heap.size 0 ((M1.drew.alloc (.cells (Array.replicate n (.int .i64 0)) 3)).alloc (.cells (Array.replicate n (.bool false)) 4))) := by
    obtain ⟨A1, hA1⟩ : ∃ A1, M1.drew.alloc (.cells (Array.replicate n (.int .i64 0)) 3) = A1 := ⟨_, rfl⟩
    have e1 : A1.heap[M1.heap.size]? = some (.cells (Array.replicate n (.int .i64 0)) 3) := by rw [← hA1]; exact World.alloc_heap_new M1.drew _
    have b1 : Below M1.heap.size M1 A1 := by rw [← hA1]; exact (Below.refl _ M1).drew.alloc (Nat.le_refl _) _
    have s1 : A1.heap.size = M1.heap.size + 1 := by rw [← hA1]; simp
    rw [hA1]
    have e2 : (A1.alloc (.cells (Array.replicate n (.bool false)) 4)).heap[M1.heap.size + 1]? = some (.cells (Array.replicate n (.bool false)) 4) := by rw [← s1]; exact World.alloc_heap_new A1 _
    have e3 := (Below.heap_alloc A1 (.cells (Array.replicate n (.bool false)) 4) M1.heap.size (by omega)).trans e1
    exact ⟨b1.alloc b1.size _, ⟨_, e2⟩, ⟨_, e3, by simp⟩, fun i hi => by omega, fun i hi => by rw [cell_blk e3 i (v := .int .i64 0) (by simp [hi])]; rfl, fun i hi => by omega, fun i hi => by rw [cell_blk e2 i (v := .bool false) (by simp [hi])]; rfl, Nat.le_succ _, Nat.le_refl _⟩
  have HJ2 : Hid (LvJ M1 n M1.heap.size (M1.heap.size + 1) 0 ((M1.drew.alloc (.cells (Array.replicate n (.bool false)) 4)).alloc (.cells (Array.replicate n (.int .i64 0)) 3))) := by
    obtain ⟨A1, hA1⟩ : ∃ A1, M1.drew.alloc (.cells (Array.replicate n (.bool false)) 4) = A1 := ⟨_, rfl⟩
    have e1 : A1.heap[M1.heap.size]? = some (.cells (Array.replicate n (.bool false)) 4) := by rw [← hA1]; exact World.alloc_heap_new M1.drew _
    have b1 : Below M1.heap.size M1 A1 := by rw [← hA1]; exact (Below.refl _ M1).drew.alloc (Nat.le_refl _) _
    have s1 : A1.heap.size = M1.heap.size + 1 := by rw [← hA1]; simp
    rw [hA1]
    have e2 : (A1.alloc (.cells (Array.replicate n (.int .i64 0)) 3)).heap[M1.heap.size + 1]? = some (.cells (Array.replicate n (.int .i64 0)) 3) := by rw [← s1]; exact World.alloc_heap_new A1 _
    have e3 := (Below.heap_alloc A1 (.cells (Array.replicate n (.int .i64 0)) 3) M1.heap.size (by omega)).trans e1
    exact ⟨b1.alloc b1.size _, ⟨_, e3⟩, ⟨_, e2, by simp⟩, fun i hi => by omega, fun i hi => by rw [cell_blk e2 i (v := .int .i64 0) (by simp [hi])]; rfl, fun i hi => by omega, fun i hi => by rw [cell_blk e3 i (v := .bool false) (by simp [hi])]; rfl, Nat.le_refl _, Nat.le_succ _⟩
  go_cut [7, 8] from 19 to 24 (fun v7 v8 wx => ∃ gw gs : Nat, v7 = .slice (some ⟨gw, 0, none⟩) n n ∧ v8 = .slice (some ⟨gs, 0, none⟩) n n ∧ Hid (LvJ M1 n gs gw 0 wx))
  · go_region
    · go_wp2_with fail
      go_meet
      exact ⟨M1.heap.size, M1.heap.size + 1, rfl, rfl, HJ1⟩
    · go_wp2_with fail
      go_meet
      exact ⟨M1.heap.size + 1, M1.heap.size, rfl, rfl, HJ2⟩
  case rest =>
    obtain ⟨gw, gs, rfl, rfl, HJ⟩ := hcut
    clear HMI HMB HJ1 HJ2
    go_wp2_with fail
    go_loopg [9, 27] n (fun g z9 iv wq => ∃ (j : Nat), g = n - j ∧ iv = .int .i64 j ∧ j ≤ n ∧ Hid (LvJ M1 n gs gw j wq))
    case atStart => exact ⟨0, rfl, rfl, Nat.zero_le _, HJ⟩
    case round =>
      obtain ⟨j, rfl, rfl, hj, HJ⟩ := hrel
      by_cases hjn : j < n
      · have hjl : (j : Int) < n := by omega
        have hj0 : 0 ≤ (j : Int) := by omega
        have HN : Hid (LvJ M1 n gs gw (j + 1) ((wr.setCell ⟨gw, j, none⟩ (.int .i64 (j : Int))).setCell ⟨gs, j, none⟩ (.bool true))) := HJ.out.step hjn
        obtain ⟨v1, hv1⟩ := Option.isSome_iff_exists.1 (HJ.out.ke j hjn)
        obtain ⟨v2, hv2⟩ := Option.isSome_iff_exists.1 (HJ.out.se j hjn)
        have hne : gw ≠ gs := by
          obtain ⟨c1, h1⟩ := HJ.out.bs
          obtain ⟨c2, h2, -⟩ := HJ.out.bw
          exact blk_ne h2 h1 (by decide)
        have f1 : wr.frozen? ⟨gw, j, none⟩ = false := by
          obtain ⟨c2, h2, -⟩ := HJ.out.bw
          exact blk_fro h2
        have f2 : wr.frozen? ⟨gs, j, none⟩ = false := by
          obtain ⟨c2, h2⟩ := HJ.out.bs
          exact blk_fro h2
        have g2 : (wr.setCell ⟨gw, j, none⟩ (.int .i64 (j : Int))).cell? ⟨gs, j, none⟩ = some v2 := (World.cell?_setCell_far _ ⟨gw, j, none⟩ ⟨gs, j, none⟩ _ hne).trans hv2
        go_wp2_with fail
        go_roundg (n - (j + 1))
        case measure => omega
        case rel => exact ⟨j + 1, rfl, by go_num, by omega, HN⟩
      · have hjn2 : ¬ (j : Int) < n := by omega
        have HL : Hid (LvM w M1 n w.heap.size gs gw n (fun _ => F.zero7) (fun _ => true) (List.range n) wr) := by
          have hjn3 : j = n := by omega
          have h1 := HJ.out
          rw [hjn3] at h1
          refine LvJ.start h1 (by unfold maxLen; omega) HBM.out (Nat.le_refl _) ⟨_, HAM.out⟩ (fun i hi q hq => cell_blk HAM.out _ ?_)
          rw [Array.getElem?_replicate, if_pos (by omega)]
          rfl
        have HWI : Hid (F.WI f n (fun _ => F.zero7) (List.range n) (fun _ => true) []) := F.WI.start HM.out HC.out
        clear HJ HAM
        go_wp2_with fail
        have hlr : (List.range n).length = n := List.length_range
        go_loopg [7] (F.cntF n 448 (fun _ t => F.mem F.zero7 t) * (n + 1) + n) (fun g v7 wq => ∃ (gw cp : Nat) (U : Nat → Nat → Nat) (wt : Nat → Bool) (wk : List Nat), g = F.cntF n 448 (fun k t => F.mem (U k) t) * (n + 1) + wk.length ∧ v7 = .slice (some ⟨gw, 0, none⟩) wk.length cp ∧ Hid (F.WI f n U wk wt []) ∧ Hid (LvM w M1 n w.heap.size gs gw cp U wt wk wq))
        case atStart => exact ⟨gw, n, fun _ => F.zero7, fun _ => true, List.range n, by rw [hlr], by rw [hlr], HWI, HL⟩
        case round =>
          obtain ⟨gw, cp, U, wt, wk, rfl, rfl, HWI, HL⟩ := hrel
          rcases List.eq_nil_or_concat wk with rfl | ⟨wk', i, rfl⟩
          · go_wp2_with fail
            go_ret
            exact ⟨w.heap.size, U, rfl, Nat.le_refl _, HL.out.ba, HL.out.a, HWI.out.s7, HWI.out.done HM.out HC.out, HL.out.low⟩
          · obtain ⟨l, hl⟩ : ∃ l, wk'.length = l := ⟨_, rfl⟩
            have hl2 : (wk'.concat i).length = l + 1 := by simp [hl]
            rw [hl2]
            have hin : i < n := HWI.out.lt i (by simp)
            rw [List.concat_eq_append] at HWI HL
            have HWP := HWI.out.pop
            have HW1 : Hid (F.WI f n U wk' (F.updB wt i false) [i]) := HWP
            have hcw : wr.cell? ⟨gw, l, none⟩ = some (.int .i64 (i : Int)) := by
              have h1 := HL.out.k
              have h2 := h1.cellAt l (by simp [hl])
              rw [h2, List.map_append, List.getElem?_append_right (by simp [hl])]
              simp [hl, iV]
            have hcs : wr.cell? ⟨gs, i, none⟩ = some (.bool (wt i)) := HL.out.s i hin
            have hfs : wr.frozen? ⟨gs, i, none⟩ = false := HL.out.fs _
            have HLZ : Hid (LvM w M1 n w.heap.size gs gw cp U (F.updB wt i false) wk' (wr.setCell ⟨gs, i, none⟩ (.bool false))) := HL.out.pop.flag hin false
            have HCP : Hid (l + 1 ≤ cp ∧ cp ≤ maxLen) := by
              have h1 := HL.out.k
              rcases h1.2 with ⟨e, -⟩ | ⟨g', cap', cur, e, hb, hh, h1, h2, h3, h4⟩
              · cases e
              · cases e
                simp [hl] at h1
                exact ⟨h1, h2⟩
            have hcp : (l : Int) + 1 ≤ cp := by have := HCP.out.1; omega
            have hcp2 : (cp : Int) ≤ 9223372036854775807 := by have := HCP.out.2; unfold maxLen at this; omega
            have hil : (i : Int) < n := by omega
            have hi0 : 0 ≤ (i : Int) := by omega
            have hl0 : 0 ≤ (l : Int) := by omega
            have hl1 : 0 < (l : Int) + 1 := by omega
            clear HWP
            go_wp2_with fail
            have hx := HO.out.at hin
            obtain ⟨bc, offc, r, rfl, hat, hnum⟩ := hx
            obtain ⟨x, hxx⟩ : ∃ x, f.code.getD i F.noOp = x := ⟨_, rfl⟩
            rw [hxx] at hat hnum
            obtain ⟨Z, hZ⟩ : ∃ Z, wr.setCell ⟨gs, i, none⟩ (.bool false) = Z := ⟨_, rfl⟩
            rw [hZ] at HLZ ⊢
            have hzl : Below w.heap.size w Z := HLZ.out.low
            have hopk : F.opOk f.temps f.code.length x = true := by
              have h1 := F.may_op HM.out (i := i) (by rw [HC.out]; exact hin)
              unfold F.at_ at h1
              rw [hxx] at h1
              exact h1
            have HSV : Hid (∀ z, Below Z.heap.size Z z → SetsV z (some ⟨w.heap.size, 0, none⟩) n n U) := fun z hz =>
              ⟨(fun e => by cases e), ⟨Nat.le_refl _, by unfold maxLen; omega⟩, .inr ⟨w.heap.size, 0, rfl, fun q hq => by rw [Nat.zero_add]; exact (HLZ.out.a q hq).sub (below_sub hz)⟩⟩
            have HBH : Hid (∀ z, Below Z.heap.size Z z → Calls Tryd.prog 42 #[.slice (some ⟨bc, offc, none⟩) n c, .slice (some ⟨w.heap.size, 0, none⟩) n n, .int .i64 i] z fun e w' => e = .returned (.agg (setCs (F.orAll U (F.nxt x i)))) ∧ Below z.heap.size z w') := fun z hz => by
              have h1 := behind_any (i := i) (HO.out.below (hzl.trans (hz.mono hzl.size))) HM.out hin (HSV.out z hz) HW1.out.s7 (HT.out.below (hzl.trans (hz.mono hzl.size)))
              unfold F.at_ at h1
              rw [hxx] at h1
              exact h1
            obtain ⟨v, hv⟩ : ∃ v, F.orAll U (F.nxt x i) = v := ⟨_, rfl⟩
            have hv7 : F.Set7 v := by
              rw [← hv]
              refine F.orAll_set7 fun q hq => HW1.out.s7 q ?_
              have := F.nxt_in HM.out (i := i) (by rw [HC.out]; exact hin) q (by unfold F.at_; rw [hxx]; exact hq)
              rw [HC.out] at this
              exact this
            have HAH : Hid (∀ z, Below Z.heap.size Z z → Calls Tryd.prog 57 #[opV x r, .agg (setCs v), .func (.func 39) #[] #[]] z fun e w' => e = .returned (.agg (setCs (F.aheadS x v))) ∧ Below z.heap.size z w') := fun z hz =>
              ahead_any hopk HT4.out (hnum.below (hzl.trans (hz.mono hzl.size))) hv7 (HT.out.below (hzl.trans (hz.mono hzl.size)))
            obtain ⟨nw, hnw⟩ : ∃ nw, F.aheadS x v = nw := ⟨_, rfl⟩
            have HNW : Hid (F.nowS f U i = nw) := by show F.nowS f U i = nw; unfold F.nowS F.at_; rw [hxx, hv, hnw]
            rw [hv] at HBH
            rw [hnw] at HAH
            have HSK : Hid (∀ z : World, Below Z.heap.size Z z → (fun w' : World => w'.cell? ⟨bc, offc + i * 9, none⟩ = some (.int .i64 x.op) ∧ w'.cell? ⟨bc, offc + i * 9 + 1, none⟩ = some (.int .i64 x.what) ∧ w'.cell? ⟨bc, offc + i * 9 + 2, none⟩ = some (.string x.nm) ∧ w'.cell? ⟨bc, offc + i * 9 + 3, none⟩ = some (.int .i64 x.d) ∧ w'.cell? ⟨bc, offc + i * 9 + 4, none⟩ = some (.int .i64 x.a) ∧ w'.cell? ⟨bc, offc + i * 9 + 5, none⟩ = some (.int .i64 x.b) ∧ w'.cell? ⟨bc, offc + i * 9 + 6, none⟩ = some (.int .i64 x.n) ∧ w'.cell? ⟨bc, offc + i * 9 + 7, none⟩ = some (.slice r.a r.l r.c) ∧ w'.cell? ⟨bc, offc + i * 9 + 8, none⟩ = some (.int .i64 x.dest)) z) := fun z hz => by
              obtain ⟨o0, o1, o2, o3, o4, o5, o6, o7, o8⟩ := hat.sub (below_sub (hzl.trans (hz.mono hzl.size)))
              exact ⟨o0, o1, o2, o3, o4, o5, o6, o7, o8⟩
            unfold opV at HAH
            unfold setCs at HAH HBH
            clear hZ hcw hcs hfs hzl hopk hv hnw hat hnum hv7
            go_cut [11] from 38 to 96 (fun v11 wx => ∃ b11 : Nat, v11 = .pointer (some ⟨b11, 0, none⟩) ∧ Hid (Bx wx b11 (setCs nw).toList ∧ Below Z.heap.size Z wx))
            case first =>
              refine wp_region_held_drew (S := (fun w' : World => w'.cell? ⟨bc, offc + i * 9, none⟩ = some (.int .i64 x.op) ∧ w'.cell? ⟨bc, offc + i * 9 + 1, none⟩ = some (.int .i64 x.what) ∧ w'.cell? ⟨bc, offc + i * 9 + 2, none⟩ = some (.string x.nm) ∧ w'.cell? ⟨bc, offc + i * 9 + 3, none⟩ = some (.int .i64 x.d) ∧ w'.cell? ⟨bc, offc + i * 9 + 4, none⟩ = some (.int .i64 x.a) ∧ w'.cell? ⟨bc, offc + i * 9 + 5, none⟩ = some (.int .i64 x.b) ∧ w'.cell? ⟨bc, offc + i * 9 + 6, none⟩ = some (.int .i64 x.n) ∧ w'.cell? ⟨bc, offc + i * 9 + 7, none⟩ = some (.slice r.a r.l r.c) ∧ w'.cell? ⟨bc, offc + i * 9 + 8, none⟩ = some (.int .i64 x.dest))) (by kernel_rfl) (HSK.out _ (Below.refl _ _).drew) (fun hHeld => ?_)
              refine tkr (i := 0) (v := ?_) (tA rfl) (by kernel_rfl) (fun _ _ _ h => h) (Or.inl ⟨by rfl, ?_⟩) (by assumption) ?_
              rotate_left
              · (intro w hSw; (try dsimp only at hSw); go_simp <;> with_reducible rfl)
              simp only [Act.put, List.setIfInBounds_toArray, List.set_cons_zero, List.set_cons_succ]
              refine tkr (i := 1) (v := ?_) (tA rfl) (by kernel_rfl) (fun _ _ _ h => h) (Or.inl ⟨by rfl, ?_⟩) (by assumption) ?_
              rotate_left
              · (intro w hSw; (try dsimp only at hSw); go_simp <;> with_reducible rfl)
              simp only [Act.put, List.setIfInBounds_toArray, List.set_cons_zero, List.set_cons_succ]
              refine tkr (i := 2) (v := ?_) (tA rfl) (by kernel_rfl) (fun _ _ _ h => h) (Or.inl ⟨by rfl, ?_⟩) (by assumption) ?_
              rotate_left
              · (intro w hSw; (try dsimp only at hSw); go_simp <;> with_reducible rfl)
              simp only [Act.put, List.setIfInBounds_toArray, List.set_cons_zero, List.set_cons_succ]
              refine tkr (i := 3) (v := ?_) (tA rfl) (by kernel_rfl) (fun _ _ _ h => h) (Or.inl ⟨by rfl, ?_⟩) (by assumption) ?_
              rotate_left
              · (intro w hSw; (try dsimp only at hSw); go_simp <;> with_reducible rfl)
              simp only [Act.put, List.setIfInBounds_toArray, List.set_cons_zero, List.set_cons_succ]
              refine tkr (i := 4) (v := ?_) (tA rfl) (by kernel_rfl) (fun _ _ _ h => h) (Or.inl ⟨by rfl, ?_⟩) (by assumption) ?_
              rotate_left
              · (intro w hSw; (try dsimp only at hSw); go_simp <;> with_reducible rfl)
              simp only [Act.put, List.setIfInBounds_toArray, List.set_cons_zero, List.set_cons_succ]
              refine tkr (i := 5) (v := ?_) (tA rfl) (by kernel_rfl) (fun _ _ _ h => h) (Or.inl ⟨by rfl, ?_⟩) (by assumption) ?_
              rotate_left
              · (intro w hSw; (try dsimp only at hSw); go_simp <;> with_reducible rfl)
              simp only [Act.put, List.setIfInBounds_toArray, List.set_cons_zero, List.set_cons_succ]
              refine tkr (i := 6) (v := ?_) (tA rfl) (by kernel_rfl) (fun _ _ _ h => h) (Or.inl ⟨by rfl, ?_⟩) (by assumption) ?_
              rotate_left
              · (intro w hSw; (try dsimp only at hSw); go_simp <;> with_reducible rfl)
              simp only [Act.put, List.setIfInBounds_toArray, List.set_cons_zero, List.set_cons_succ]
              refine tkr (i := 8) (v := ?_) (tA rfl) (by kernel_rfl) (fun _ _ _ h => h) (Or.inl ⟨by rfl, ?_⟩) (by assumption) ?_
              rotate_left
              · (intro w hSw; (try dsimp only at hSw); go_simp <;> with_reducible rfl)
              simp only [Act.put, List.setIfInBounds_toArray, List.set_cons_zero, List.set_cons_succ]
              refine wpAnyH_ready (rs := [7, 10]) (by kernel_rfl) (by simp) ?_
              refine AllReadyH.cons (tA rfl) (fun K hK => ?_) (AllReadyH.cons (tA rfl) (fun K hK => ?_) AllReadyH.nil)
              · go_simp
                refine Calls.mono (HBH.out _ (Below.refl Z.heap.size Z).drew) ?_
                rintro e z1 ⟨rfl, hb1⟩
                have HZ1 : Hid (Below Z.heap.size Z z1) := ((Below.refl Z.heap.size Z).drew).trans (hb1.mono ((Below.refl Z.heap.size Z).drew).size)
                clear hb1
                try go_wp2_with fail
                refine hK.out _ _ (HSK.out _ HZ1.out) (fun hHeld => ?_)
                clear hK K
                try simp only [Act.put, List.setIfInBounds_toArray, List.set_cons_zero, List.set_cons_succ]
                refine wpAnyH_ready (rs := [9, 10]) (by kernel_rfl) (by simp) ?_
                refine AllReadyH.cons (tA rfl) (fun K hK => ?_) (AllReadyH.cons (tA rfl) (fun K hK => ?_) AllReadyH.nil)
                · go_simp
                  refine Calls.mono (HAH.out _ HZ1.out) ?_
                  rintro e z2 ⟨rfl, hb2⟩
                  have HZ2 : Hid (Below Z.heap.size Z z2) := (HZ1.out).trans (hb2.mono (HZ1.out).size)
                  clear hb2
                  try go_wp2_with fail
                  refine hK.out _ _ (HSK.out _ HZ2.out) (fun hHeld => ?_)
                  clear hK K
                  try simp only [Act.put, List.setIfInBounds_toArray, List.set_cons_zero, List.set_cons_succ]
                  refine wpAnyH_ready (rs := [10]) (by kernel_rfl) (by simp) ?_
                  refine AllReadyH.cons (tA rfl) (fun K hK => ?_) AllReadyH.nil
                  · go_simp
                    have HZ3 : Hid (Below Z.heap.size Z (z2.alloc (.cells #[.int .u64 0, .int .u64 0, .int .u64 0, .int .u64 0, .int .u64 0, .int .u64 0, .int .u64 0] 54))) := (HZ2.out).alloc (HZ2.out).size _
                    have HX3 : Hid (Bx (z2.alloc (.cells #[.int .u64 0, .int .u64 0, .int .u64 0, .int .u64 0, .int .u64 0, .int .u64 0, .int .u64 0] 54)) z2.heap.size (setCs F.zero7).toList) := Bx.new z2 (setCs F.zero7) _
                    refine hK.out _ _ (HSK.out _ HZ3.out) (fun hHeld => ?_)
                    clear hK K
                    try simp only [Act.put, List.setIfInBounds_toArray, List.set_cons_zero, List.set_cons_succ]
                    obtain ⟨b11, hb11⟩ : ∃ b11, z2.heap.size = b11 := ⟨_, rfl⟩
                    have HB11 : Hid (Z.heap.size ≤ b11) := by show Z.heap.size ≤ b11; rw [← hb11]; first | exact Nat.le_refl _ | exact (HZ2.out).size
                    rw [hb11] at HX3 ⊢
                    generalize (z2.alloc (.cells #[.int .u64 0, .int .u64 0, .int .u64 0, .int .u64 0, .int .u64 0, .int .u64 0, .int .u64 0] 54)) = z3 at HZ3 HX3 hHeld ⊢
                    have e0 := HX3.out.c 0 _ rfl
                    have f0 := HX3.out.f 0
                    have e1 := HX3.out.c 1 _ rfl
                    have f1 := HX3.out.f 1
                    have e2 := HX3.out.c 2 _ rfl
                    have f2 := HX3.out.f 2
                    have e3 := HX3.out.c 3 _ rfl
                    have f3 := HX3.out.f 3
                    have e4 := HX3.out.c 4 _ rfl
                    have f4 := HX3.out.f 4
                    have e5 := HX3.out.c 5 _ rfl
                    have f5 := HX3.out.f 5
                    have e6 := HX3.out.c 6 _ rfl
                    have f6 := HX3.out.f 6
                    have HBB : Hid (Bx (put7 z3 b11 nw) b11 (setCs nw).toList ∧ Below Z.heap.size Z (put7 z3 b11 nw)) := ⟨put7_bx HX3.out, (HZ3.out).trans (put7_below _ HB11.out)⟩
                    refine wpAnyH_ready (rs := [11]) (by kernel_rfl) (by simp) ?_
                    refine AllReadyH.cons (tA rfl) (fun K hK => ?_) AllReadyH.nil
                    clear hHeld
                    go_simp
                    refine hK.out _ _ (HSK.out _ HBB.out.2) (fun hHeld => ?_)
                    clear hK K hHeld
                    try simp only [Act.put, List.setIfInBounds_toArray, List.set_cons_zero, List.set_cons_succ]
                    refine wpAnyH_done (by kernel_rfl) ?_ _
                    go_wp2_with fail
                    go_meet
                    exact ⟨b11, rfl, HBB⟩
                · go_simp
                  have HZ2 : Hid (Below Z.heap.size Z (z1.alloc (.cells #[.int .u64 0, .int .u64 0, .int .u64 0, .int .u64 0, .int .u64 0, .int .u64 0, .int .u64 0] 54))) := (HZ1.out).alloc (HZ1.out).size _
                  have HX2 : Hid (Bx (z1.alloc (.cells #[.int .u64 0, .int .u64 0, .int .u64 0, .int .u64 0, .int .u64 0, .int .u64 0, .int .u64 0] 54)) z1.heap.size (setCs F.zero7).toList) := Bx.new z1 (setCs F.zero7) _
                  refine hK.out _ _ (HSK.out _ HZ2.out) (fun hHeld => ?_)
                  clear hK K
                  try simp only [Act.put, List.setIfInBounds_toArray, List.set_cons_zero, List.set_cons_succ]
                  obtain ⟨b11, hb11⟩ : ∃ b11, z1.heap.size = b11 := ⟨_, rfl⟩
                  have HB11 : Hid (Z.heap.size ≤ b11) := by show Z.heap.size ≤ b11; rw [← hb11]; first | exact Nat.le_refl _ | exact (HZ1.out).size
                  rw [hb11] at HX2 ⊢
                  generalize (z1.alloc (.cells #[.int .u64 0, .int .u64 0, .int .u64 0, .int .u64 0, .int .u64 0, .int .u64 0, .int .u64 0] 54)) = z2 at HZ2 HX2 hHeld ⊢
                  refine wpAnyH_ready (rs := [9]) (by kernel_rfl) (by simp) ?_
                  refine AllReadyH.cons (tA rfl) (fun K hK => ?_) AllReadyH.nil
                  · go_simp
                    refine Calls.mono (HAH.out _ HZ2.out) ?_
                    rintro e z3 ⟨rfl, hb3⟩
                    have HZ3 : Hid (Below Z.heap.size Z z3) := (HZ2.out).trans (hb3.mono (HZ2.out).size)
                    have HX3 : Hid (Bx z3 b11 (setCs F.zero7).toList) := HX2.out.below hb3
                    clear hb3
                    try go_wp2_with fail
                    refine hK.out _ _ (HSK.out _ HZ3.out) (fun hHeld => ?_)
                    clear hK K
                    try simp only [Act.put, List.setIfInBounds_toArray, List.set_cons_zero, List.set_cons_succ]
                    have e0 := HX3.out.c 0 _ rfl
                    have f0 := HX3.out.f 0
                    have e1 := HX3.out.c 1 _ rfl
                    have f1 := HX3.out.f 1
                    have e2 := HX3.out.c 2 _ rfl
                    have f2 := HX3.out.f 2
                    have e3 := HX3.out.c 3 _ rfl
                    have f3 := HX3.out.f 3
                    have e4 := HX3.out.c 4 _ rfl
                    have f4 := HX3.out.f 4
                    have e5 := HX3.out.c 5 _ rfl
                    have f5 := HX3.out.f 5
                    have e6 := HX3.out.c 6 _ rfl
                    have f6 := HX3.out.f 6
                    have HBB : Hid (Bx (put7 z3 b11 nw) b11 (setCs nw).toList ∧ Below Z.heap.size Z (put7 z3 b11 nw)) := ⟨put7_bx HX3.out, (HZ3.out).trans (put7_below _ HB11.out)⟩
                    refine wpAnyH_ready (rs := [11]) (by kernel_rfl) (by simp) ?_
                    refine AllReadyH.cons (tA rfl) (fun K hK => ?_) AllReadyH.nil
                    clear hHeld
                    go_simp
                    refine hK.out _ _ (HSK.out _ HBB.out.2) (fun hHeld => ?_)
                    clear hK K hHeld
                    try simp only [Act.put, List.setIfInBounds_toArray, List.set_cons_zero, List.set_cons_succ]
                    refine wpAnyH_done (by kernel_rfl) ?_ _
                    go_wp2_with fail
                    go_meet
                    exact ⟨b11, rfl, HBB⟩
              · go_simp
                have HZ1 : Hid (Below Z.heap.size Z (Z.alloc (.cells #[.int .u64 0, .int .u64 0, .int .u64 0, .int .u64 0, .int .u64 0, .int .u64 0, .int .u64 0] 54)).drew) := (bl1 _ _).drew
                have HX1 : Hid (Bx (Z.alloc (.cells #[.int .u64 0, .int .u64 0, .int .u64 0, .int .u64 0, .int .u64 0, .int .u64 0, .int .u64 0] 54)).drew Z.heap.size (setCs F.zero7).toList) := (Bx.new Z (setCs F.zero7) _).drew
                refine hK.out _ _ (HSK.out _ HZ1.out) (fun hHeld => ?_)
                clear hK K
                try simp only [Act.put, List.setIfInBounds_toArray, List.set_cons_zero, List.set_cons_succ]
                obtain ⟨b11, hb11⟩ : ∃ b11, Z.heap.size = b11 := ⟨_, rfl⟩
                have HB11 : Hid (Z.heap.size ≤ b11) := by show Z.heap.size ≤ b11; rw [← hb11]; first | exact Nat.le_refl _ | exact ((Below.refl Z.heap.size Z).drew).size
                rw [hb11] at HX1 ⊢
                generalize (Z.alloc (.cells #[.int .u64 0, .int .u64 0, .int .u64 0, .int .u64 0, .int .u64 0, .int .u64 0, .int .u64 0] 54)).drew = z1 at HZ1 HX1 hHeld ⊢
                refine wpAnyH_ready (rs := [7]) (by kernel_rfl) (by simp) ?_
                refine AllReadyH.cons (tA rfl) (fun K hK => ?_) AllReadyH.nil
                · go_simp
                  refine Calls.mono (HBH.out _ HZ1.out) ?_
                  rintro e z2 ⟨rfl, hb2⟩
                  have HZ2 : Hid (Below Z.heap.size Z z2) := (HZ1.out).trans (hb2.mono (HZ1.out).size)
                  have HX2 : Hid (Bx z2 b11 (setCs F.zero7).toList) := HX1.out.below hb2
                  clear hb2
                  try go_wp2_with fail
                  refine hK.out _ _ (HSK.out _ HZ2.out) (fun hHeld => ?_)
                  clear hK K
                  try simp only [Act.put, List.setIfInBounds_toArray, List.set_cons_zero, List.set_cons_succ]
                  refine wpAnyH_ready (rs := [9]) (by kernel_rfl) (by simp) ?_
                  refine AllReadyH.cons (tA rfl) (fun K hK => ?_) AllReadyH.nil
                  · go_simp
                    refine Calls.mono (HAH.out _ HZ2.out) ?_
                    rintro e z3 ⟨rfl, hb3⟩
                    have HZ3 : Hid (Below Z.heap.size Z z3) := (HZ2.out).trans (hb3.mono (HZ2.out).size)
                    have HX3 : Hid (Bx z3 b11 (setCs F.zero7).toList) := HX2.out.below hb3
                    clear hb3
                    try go_wp2_with fail
                    refine hK.out _ _ (HSK.out _ HZ3.out) (fun hHeld => ?_)
                    clear hK K
                    try simp only [Act.put, List.setIfInBounds_toArray, List.set_cons_zero, List.set_cons_succ]
                    have e0 := HX3.out.c 0 _ rfl
                    have f0 := HX3.out.f 0
                    have e1 := HX3.out.c 1 _ rfl
                    have f1 := HX3.out.f 1
                    have e2 := HX3.out.c 2 _ rfl
                    have f2 := HX3.out.f 2
                    have e3 := HX3.out.c 3 _ rfl
                    have f3 := HX3.out.f 3
                    have e4 := HX3.out.c 4 _ rfl
                    have f4 := HX3.out.f 4
                    have e5 := HX3.out.c 5 _ rfl
                    have f5 := HX3.out.f 5
                    have e6 := HX3.out.c 6 _ rfl
                    have f6 := HX3.out.f 6
                    have HBB : Hid (Bx (put7 z3 b11 nw) b11 (setCs nw).toList ∧ Below Z.heap.size Z (put7 z3 b11 nw)) := ⟨put7_bx HX3.out, (HZ3.out).trans (put7_below _ HB11.out)⟩
                    refine wpAnyH_ready (rs := [11]) (by kernel_rfl) (by simp) ?_
                    refine AllReadyH.cons (tA rfl) (fun K hK => ?_) AllReadyH.nil
                    clear hHeld
                    go_simp
                    refine hK.out _ _ (HSK.out _ HBB.out.2) (fun hHeld => ?_)
                    clear hK K hHeld
                    try simp only [Act.put, List.setIfInBounds_toArray, List.set_cons_zero, List.set_cons_succ]
                    refine wpAnyH_done (by kernel_rfl) ?_ _
                    go_wp2_with fail
                    go_meet
                    exact ⟨b11, rfl, HBB⟩
            case rest =>
              obtain ⟨b11, rfl, HB⟩ := hcut
              have HLc : Hid (LvM w M1 n w.heap.size gs gw cp U (F.updB wt i false) wk' wc) := HLZ.out.below HB.out.2
              clear HSV HBH HAH HSK HLZ
              have e0 := HB.out.1.c 0 _ rfl
              have e1 := HB.out.1.c 1 _ rfl
              have e2 := HB.out.1.c 2 _ rfl
              have e3 := HB.out.1.c 3 _ rfl
              have e4 := HB.out.1.c 4 _ rfl
              have e5 := HB.out.1.c 5 _ rfl
              have e6 := HB.out.1.c 6 _ rfl
              have s0 := HLc.out.a i hin 0 (by decide)
              have s1 := HLc.out.a i hin 1 (by decide)
              have s2 := HLc.out.a i hin 2 (by decide)
              have s3 := HLc.out.a i hin 3 (by decide)
              have s4 := HLc.out.a i hin 4 (by decide)
              have s5 := HLc.out.a i hin 5 (by decide)
              have s6 := HLc.out.a i hin 6 (by decide)
              rw [Nat.add_zero] at s0
              have HEQ : ∀ W : World, (Op.equalIn 10000 54 (.agg (setCs nw)) (.agg (setCs (U i)))).run Tryd.prog W = .ok (eqS nw (U i)) W := set_eq nw (U i)
              have HN7 : Hid (F.Set7 nw) := by show F.Set7 nw; rw [← HNW.out]; exact F.now_set7 HM.out HC.out HW1.out.s7 hin
              have HEI : Hid (eqS nw (U i) = true ↔ ∀ j, j < 7 → nw j = U i j) := eqS_iff _ _
              obtain ⟨eq, heq⟩ : ∃ b, eqS nw (U i) = b := ⟨_, rfl⟩
              rw [heq] at HEQ HEI
              unfold setCs at HEQ
              clear heq
              cases eq with
              | true =>
                have HW2 : Hid (F.WI f n U wk' (F.updB wt i false) []) := HW1.out.same (fun t ht => by rw [HNW.out]; exact F.mem_congr (HEI.out.1 rfl) ht)
                go_wp2_with fail
                go_region
                all_goals
                  go_wp2_with fail
                  go_roundg (F.cntF n 448 (fun k t => F.mem (U k) t) * (n + 1) + wk'.length)
                  case measure => simp
                  case rel => exact ⟨gw, cp, U, F.updB wt i false, wk', rfl, by rw [hl], HW2, HLc.out.below (Below.refl _ _).drew⟩
              | false =>
                have HLu : Hid (LvM w M1 n w.heap.size gs gw cp (F.upd U i nw) (F.updB wt i false) wk' (putS wc w.heap.size (i * 7) nw).drew) := (HLc.out.put hin nw).below (Below.refl _ _).drew
                have HW3 : Hid (F.WI f n (F.upd U i nw) wk' (F.updB wt i false) ((L i).map Int.toNat)) := by
                  have h1 := HW1.out.set HM.out HC.out hin (L := (L i).map Int.toNat) (fun k hk hik => by
                    rw [List.mem_map]
                    exact ⟨(k : Int), (HMEM.out i hin _).2 ⟨k, rfl, hk, hik⟩, by simp⟩)
                  rw [HNW.out] at h1
                  exact h1
                have HCNT : Hid (F.cntF n 448 (fun k t => F.mem (F.upd U i nw k) t) < F.cntF n 448 (fun k t => F.mem (U k) t)) := by
                  refine F.cnt_set hin (fun t ht hmt => by rw [← HNW.out]; exact HW1.out.pre i hin t ht hmt) ?_
                  apply Classical.byContradiction
                  intro hno
                  have := HEI.out.2 (F.set_ext HN7.out (HW1.out.s7 i hin) (fun t ht => Classical.byContradiction fun hd => hno ⟨t, ht, hd⟩))
                  cases this
                have hff : ∀ z ∈ L i, (Lit.int .i64 z).wf = true := fun z hz => by
                  obtain ⟨q, rfl, hq, -⟩ := (HMEM.out i hin z).1 hz
                  exact int_fit (by omega)
                have hfr := HLu.out.rows HFR.out
                obtain ⟨ra, rc, hvs, hnum⟩ := hfr.num hin hff
                have hcf := hfr.cell i hin
                rw [hvs] at hcf
                have HNUM0 : Hid (NumV (putS wc w.heap.size (i * 7) nw).drew ra (L i).length rc (L i)) := hnum
                have HRB : Hid (∀ W', LvM w M1 n w.heap.size gs gw cp U wt wk' W' → True) := fun _ _ => trivial
                have HROW : Hid (∀ gw cp U wt wk W', LvM w M1 n w.heap.size gs gw cp U wt wk W' → NumV W' ra (L i).length rc (L i)) := fun gw cp U wt wk W' hW => by
                  obtain ⟨ra2, rc2, hvs2, hn2⟩ := (hW.rows HFR.out).num hin hff
                  rw [hvs] at hvs2
                  cases hvs2
                  exact hn2
                obtain ⟨rl, hrl⟩ : ∃ rl, (L i).length = rl := ⟨_, rfl⟩
                rw [hrl] at hcf hnum HROW
                have HRL : Hid ((L i).length = rl) := hrl
                have hrm := hnum.room
                obtain ⟨ZZ, hZZ⟩ : ∃ ZZ, (putS wc w.heap.size (i * 7) nw).drew = ZZ := ⟨_, rfl⟩
                rw [hZZ] at hcf HLu
                unfold putS at hZZ
                have HZZ : Hid _ := hZZ
                clear hZZ
                have fz0 := HLc.out.fa (i * 7 + 0)
                have fz1 := HLc.out.fa (i * 7 + 1)
                have fz2 := HLc.out.fa (i * 7 + 2)
                have fz3 := HLc.out.fa (i * 7 + 3)
                have fz4 := HLc.out.fa (i * 7 + 4)
                have fz5 := HLc.out.fa (i * 7 + 5)
                have fz6 := HLc.out.fa (i * 7 + 6)
                rw [Nat.add_zero] at fz0
                have HIZ : Hid (LvM w M1 n w.heap.size gs gw cp (F.upd U i nw) (F.updB wt i false) wk' ZZ) := HLu.out
                have hrl3 : (rl : Int) ≤ 9223372036854775807 := by have h1 := hrm.1; have h2 := hrm.2; unfold maxLen at h2; omega
                have HL2 : Hid ((wk'.concat i).length = l + 1) := hl2
                clear hnum hvs hff hfr hrl HW1 HEI HN7 HLu HLc
                go_wp2_with fail
                go_region
                go_upto_region 15 with fail
                rw [HZZ.out]
                clear HZZ
                go_wp2_with fail
                obtain ⟨Ln, hLn⟩ : ∃ Ln, (L i).map Int.toNat = Ln := ⟨_, rfl⟩
                have HLN : Hid (∀ k, k < rl → ∃ e, Ln[k]? = some e ∧ (L i).getD k 0 = (e : Int) ∧ e < n) := fun k hk => by
                  have hk2 : k < (L i).length := by rw [HRL.out]; exact hk
                  have hmm := (HMEM.out i hin ((L i)[k])).1 (List.getElem_mem hk2)
                  obtain ⟨q, hq, hqn, -⟩ := hmm
                  refine ⟨q, ?_, ?_, hqn⟩
                  · rw [← hLn, List.getElem?_map, List.getElem?_eq_getElem hk2, hq]; simp
                  · rw [List.getD, List.getElem?_eq_getElem hk2, ← hq]; rfl
                have HLL : Hid (Ln.length = rl) := by show Ln.length = rl; rw [← hLn, List.length_map, HRL.out]
                rw [hLn] at HW3
                have HU : Hid (F.WI f n (F.upd U i nw) wk' (F.updB wt i false) (Ln.drop 0)) := by show F.WI _ _ _ _ _ _; rw [List.drop_zero]; exact HW3.out
                clear hLn HW3 hcf
                go_loopg [7, 13, 80] rl (fun g v7 z13 iv wq => ∃ (k gw cp : Nat) (wt : Nat → Bool) (wk : List Nat), g = rl - k ∧ iv = .int .i64 k ∧ k ≤ rl ∧ v7 = .slice (some ⟨gw, 0, none⟩) wk.length cp ∧ Hid (F.WI f n (F.upd U i nw) wk wt (Ln.drop k)) ∧ Hid (LvM w M1 n w.heap.size gs gw cp (F.upd U i nw) wt wk wq))
                case atStart => exact ⟨0, gw, cp, F.updB wt i false, wk', rfl, rfl, Nat.zero_le _, by rw [hl], HU, HIZ⟩
                case round =>
                  obtain ⟨k, gw, cp, wt, wk, rfl, rfl, hkr, rfl, HW, HLq⟩ := hrel
                  by_cases hkl : k < rl
                  · have hkl2 : (k : Int) < rl := by omega
                    have hk0 : 0 ≤ (k : Int) := by omega
                    obtain ⟨e, hLe, hge, hen⟩ := HLN.out k hkl
                    obtain ⟨br, offr, hra, hce⟩ := (HROW.out _ _ _ _ _ _ HLq.out).at hkl
                    rw [hge] at hce
                    subst hra
                    have hdk : Ln.drop k = e :: Ln.drop (k + 1) := by
                      obtain ⟨hlt, he⟩ := List.getElem?_eq_some_iff.1 hLe
                      rw [List.drop_eq_getElem_cons hlt, he]
                    have HWe : Hid (F.WI f n (F.upd U i nw) wk wt (e :: Ln.drop (k + 1))) := by show F.WI _ _ _ _ _ _; rw [← hdk]; exact HW.out
                    have hes : wr.cell? ⟨gs, e, none⟩ = some (.bool (wt e)) := HLq.out.s e hen
                    have hel : (e : Int) < n := by omega
                    have he0 : 0 ≤ (e : Int) := by omega
                    have hwl := HW.out.len
                    clear hLe hge hdk HW
                    cases hwt : wt e with
                    | true =>
                      rw [hwt] at hes
                      have HN : Hid (F.WI f n (F.upd U i nw) wk wt (Ln.drop (k + 1))) := HWe.out.skip hwt
                      clear hwt hwl
                      go_wp2_with fail
                      go_roundg (rl - (k + 1))
                      case measure => omega
                      case rel => exact ⟨k + 1, gw, cp, wt, wk, rfl, by go_num, by omega, rfl, HN, HLq⟩
                    | false =>
                      rw [hwt] at hes
                      have HN : Hid (F.WI f n (F.upd U i nw) (wk ++ [e]) (F.updB wt e true) (Ln.drop (k + 1))) := HWe.out.push hen hwt
                      obtain ⟨ii, hii, hz0, hz1, hz2⟩ := ainfo infoN
                      have HA1 : Hid (LvM w M1 n w.heap.size gs gw cp (F.upd U i nw) wt wk (wr.alloc (.cells #[.int .i64 e] 3))) := HLq.out.below (bl1 _ _)
                      have HNC : Hid (∀ (q : Nat) u, ([iV (e : Int)] : List Value)[q]? = some u → (wr.alloc (.cells #[.int .i64 e] 3)).cell? ((⟨wr.heap.size, 0, none⟩ : Addr).add q) = some u) := fun q u hu => by
                        rw [Addr.add_lit, Nat.zero_add]
                        exact ncell_at (by simpa [iV] using hu)
                      have HBS : Hid (M1.heap.size ≤ (wr.alloc (.cells #[.int .i64 e] 3)).heap.size) := by
                        obtain ⟨cs, hcs⟩ := HA1.out.bs
                        have := (Array.getElem?_eq_some_iff.1 hcs).1
                        have := HA1.out.gs_ge
                        show _ ≤ _
                        omega
                      clear hwt
                      go_wp2_with (first | (at_builtin; refine wpList_append_lies _ rfl _ _ 30 rfl M1.heap.size 3 ii _ 1 8 Tryd.underlying30 hii hz0 hz1 hz2 rfl (by decide) (.slice (some ⟨gw, 0, none⟩) wk.length cp) wk.length (wk.map fun (i : Nat) => iV (i : Int)) rfl HA1.out.k _ 1 1 [iV (e : Int)] rfl rfl HNC.out (by intro u hu; simp at hu; subst hu; rfl) (by decide) (by unfold maxLen; omega) (by omega) HBS.out _ rfl ?_) | fail)
                      intro g2 c2 w2 ho2 hg2 hat2 hlt2
                      have HP : Hid (LvM w M1 n w.heap.size gs g2 c2 (F.upd U i nw) wt (wk ++ [e]) w2) := HA1.out.push hg2 ho2
                      have hes2 : w2.cell? ⟨gs, e, none⟩ = some (.bool (wt e)) := HP.out.s e hen
                      have hfs2 : w2.frozen? ⟨gs, e, none⟩ = false := HP.out.fs _
                      have HQ : Hid (LvM w M1 n w.heap.size gs g2 c2 (F.upd U i nw) (F.updB wt e true) (wk ++ [e]) (w2.setCell ⟨gs, e, none⟩ (.bool true))) := HP.out.flag hen true
                      have hln : (wk ++ [e]).length = wk.length + 1 := by simp
                      clear ho2 hg2 hat2 hlt2 HA1 HNC HBS
                      go_wp2_with fail
                      go_roundg (rl - (k + 1))
                      case measure => omega
                      case rel => exact ⟨k + 1, g2, c2, F.updB wt e true, wk ++ [e], rfl, by go_num, by omega, by rw [hln], HN, HQ⟩
                  · have hkr2 : ¬ (k : Int) < rl := by omega
                    have hk3 : k = rl := by omega
                    have HN : Hid (F.WI f n (F.upd U i nw) wk wt []) := by
                      have h1 := HW.out
                      rw [hk3, List.drop_eq_nil_iff.2 (by rw [HLL.out]; exact Nat.le_refl _)] at h1
                      exact h1
                    have HLEN : Hid (wk.length ≤ n) := HN.out.len
                    clear HW hk3
                    go_wp2_with fail
                    go_roundg (F.cntF n 448 (fun k t => F.mem (F.upd U i nw k) t) * (n + 1) + wk.length)
                    case measure =>
                      have h1 := HCNT.out
                      have h2 := HLEN.out
                      have h3 : (F.cntF n 448 (fun k t => F.mem (F.upd U i nw k) t) + 1) * (n + 1) ≤ F.cntF n 448 (fun k t => F.mem (U k) t) * (n + 1) := Nat.mul_le_mul_right _ h1
                      rw [Nat.add_mul, Nat.one_mul] at h3
                      have h4 := HL2.out
                      first | omega | (rw [h4]; omega)
                    case rel => exact ⟨gw, cp, F.upd U i nw, wt, wk, rfl, rfl, HN, HLq⟩
end Go.Proofs.YtljgpngbkmembaaDoor

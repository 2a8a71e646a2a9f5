/- The memory's calls, with marks. (Written by gen_memx.py.) -/
import Derived.Test.YtfkpbmopneleiaaMemFar
import Derived.Test.YtfkpbmopneleiaaMemRefOps
namespace Go.Proofs.Ytfkpbmopneleiaa
open Go.RowKit Go.Maps
set_option linter.unusedVariables false

set_option maxRecDepth 100000 in
set_option maxHeartbeats 4000000 in
theorem store_far {B : Nat} {w : World} {bm : Nat} {rs : List Reg} {R W : List Int} {br bw nr nw : Nat} {lv : Value} {bs : List Nat} (h : MemV B w bm rs R W br bw nr nw lv bs) (ho : AllOk rs) (x n : Int) (hx : (Lit.int .i64 x).wf = true) (hw : (Lit.int .i64 n).wf = true) (hn : nw < maxLen) (hB : B ≤ w.heap.size) :
    Calls Try.prog 12 #[.pointer (some ⟨bm, 0, none⟩), .int .i64 x, .int .i64 n] w fun e w' => Below B w w' ∧ (∀ k, k < w.heap.size → k ≠ bw → k ∉ bs → w'.heap[k]? = w.heap[k]?) ∧ ((∃ i j : Nat, Loc rs x i j ∧ (rs.getD i noReg).write = true ∧ e = .returned (.int .i64 0) ∧ MemV B w' bm (putWord rs i j n) R (W ++ [x]) br bw nr (nw + 1) lv bs) ∨ ((NoLoc rs x ∨ ∃ i j, Loc rs x i j ∧ (rs.getD i noReg).write = false) ∧ e = .returned (.int .i64 11) ∧ MemV B w' bm rs R W br bw nr nw lv bs)) := by
  have HM : Hid _ := h
  clear h
  go_enter Try.func12, Try.ntmps12
  go_wp2_with fail
  refine (find_mem HM.out ho x).mono ?_
  rintro e w1 ⟨hb1, ⟨i, j, hl, rfl⟩ | ⟨hl, rfl⟩⟩
  · have H1 : Hid _ := HM.out.below hb1
    have hl' := hl
    obtain ⟨-, hi, -, -, -, hj⟩ := hl'
    have HL : Hid (Loc rs x i j) := hl
    have zz := hb1.size
    clear hl
    have i0 : (0 : Int) ≤ (i : Int) := by omega
    have i1 : (i : Int) < (rs.length : Int) := by omega
    obtain ⟨a, cap, hlv, -, hcs⟩ := H1.out.form
    rcases hcs with h0 | ⟨g, rfl, hgz, hgo, hc⟩
    · omega
    obtain ⟨k0, k1, k2⟩ := hc i hi
    have m1 := H1.out.c2
    rw [hlv] at m1
    cases hwr : (rs.getD i noReg).write with
    | false =>
      rw [hwr] at k2
      have HWR : Hid _ := hwr
      clear hwr hc
      go_wp2
      go_ret
      exact ⟨hb1.mono hB, fun k hk _ _ => hb1.block k hk, .inr ⟨.inr ⟨i, j, HL.out, HWR.out⟩, rfl, H1.out⟩⟩
    | true =>
      rw [hwr] at k2
      have HWR : Hid _ := hwr
      clear hwr hc
      go_wp2_with fail
      refine (wrote_any H1.out.touch x hx hn).mono ?_
      rintro e w2 ⟨rfl, ht2, hg2⟩
      have H2 : Hid _ := H1.out.kept hg2 (.inr rfl) ht2
      have ngb : some g ≠ some bw := by rw [← hgo]; exact H1.out.rowApart.2.2
      have nmb : some bm ≠ some bw := by simpa using H1.out.touch.nt.2
      have k12 : w2.cell? ⟨g, i * 3 + 1, none⟩ = _ := hg2.cell k1 ngb
      have m2 : w2.cell? ⟨bm, 2, none⟩ = _ := hg2.cell m1 nmb
      have hwb := (H2.out.words i hi).1
      have hwc := heap_cell hwb j
      have hwf : w2.frozen? ⟨bs.getD i 0, j, none⟩ = false := heap_froz hwb j
      have hput : Hid _ := H2.out.put i j hi hj n hw
      have hwc' : w2.cell? ⟨bs.getD i 0, j, none⟩ = some (.int .i64 ((rs.getD i noReg).words.getD j 0)) := hwc.trans (map_at hj)
      have hblo := (H2.out.words i hi).2
      clear hwc hwb k0 k1 k2 m1
      generalize (rs.getD i noReg).words.getD j 0 = wv at *
      generalize hbq : bs.getD i 0 = bq at *
      generalize hln : (rs.getD i noReg).words.length = ln at *
      have j0 : (0 : Int) ≤ (j : Int) := by omega
      have j1 : (j : Int) < (ln : Int) := by omega
      have hbz := grown_below hg2 (B := B) (by omega) HM.out.lo.2.2
      have hb2 : Below B w w2 := (hb1.mono hB).trans hbz
      have hbm : bs.getD i 0 ∈ bs := by rw [getD_at (by have := H1.out.len; omega)]; exact List.getElem_mem _
      have HF : Hid (∀ k, k < w.heap.size → k ≠ bw → k ∉ bs → (w2.setCell ⟨bq, j, none⟩ (.int .i64 n)).heap[k]? = w.heap[k]?) := fun k hk h1 h2 => by
        have e2 : w2.heap[k]? = w.heap[k]? := (hg2.block k (Nat.lt_of_lt_of_le hk zz) (fun e => h1 (by simpa using e))).trans (hb1.block k hk)
        rw [← e2]
        exact Below.heap_setCell _ _ _ _ (by show k ≠ bq; rintro rfl; rw [← hbq] at h2; exact h2 hbm)
      clear ht2 hg2 hbm
      go_wp2
      go_ret
      exact ⟨hb2.setCell hblo _, HF.out, .inl ⟨i, j, HL.out, HWR.out, rfl, hput.out⟩⟩
  · have H1 : Hid _ := HM.out.below hb1
    have HL : Hid (NoLoc rs x) := hl
    clear hl
    go_wp2
    go_ret
    exact ⟨hb1.mono hB, fun k hk _ _ => hb1.block k hk, .inr ⟨.inl HL.out, rfl, H1.out⟩⟩

set_option maxRecDepth 100000 in
set_option maxHeartbeats 4000000 in
theorem foot_far2 {B : Nat} {w : World} {bm : Nat} {rs : List Reg} {R W : List Int} {br bw nr nw : Nat} {lv : Value} {bs : List Nat} (h : MemV B w bm rs R W br bw nr nw lv bs) (hB : B ≤ w.heap.size) (h1 : nr * 8 ≤ 140737488355328) (h2 : nw * 8 ≤ 140737488355328) :
    Calls Try.prog 14 #[.pointer (some ⟨bm, 0, none⟩)] w fun e w' => ∃ a c L a' c' L' x y, e = .returned (.agg #[.slice a L.length c, .slice a' L'.length c']) ∧ M.Ris L (· ∈ R) ∧ M.Ris L' (· ∈ W) ∧ (∀ n ∈ L, (Lit.int .i64 n).wf = true) ∧ (∀ n ∈ L', (Lit.int .i64 n).wf = true) ∧ w'.ownsRow w.heap.size 2 1 (.slice a L.length c) L.length (L.map (Value.int .i64)) ∧ w'.ownsRow w.heap.size 2 1 (.slice a' L'.length c') L'.length (L'.map (Value.int .i64)) ∧ MemV B w' bm rs [] [] x y 0 0 lv bs ∧ Below B w w' ∧ Far w w' bm ∧ w.heap.size ≤ x ∧ w.heap.size ≤ y := by
  have HM : Hid _ := h
  have zm : bm < w.heap.size := touch_lt h.touch
  have hlo := h.lo.1
  clear h
  go_enter Try.func14, Try.ntmps14
  go_wp2_with fail
  have HA : Hid _ := HM.out.below (bl_one w (.cells #[.slice none 0 0, .slice none 0 0] 40))
  refine (listed_any HA.out.touch h1 h2).mono ?_
  rintro e w1 ⟨a, c, L, a', c', L', rfl, r1, r2, f1, f2, o1, o2, hb1⟩
  have H1 : Hid _ := HA.out.below hb1
  have k0 : w1.cell? ⟨w.heap.size, 0, none⟩ = some (.slice none 0 0) := (hb1.cell (p := ⟨w.heap.size, 0, none⟩) (by simp)).trans (by simp)
  have k1 : w1.cell? ⟨w.heap.size, 1, none⟩ = some (.slice none 0 0) := (hb1.cell (p := ⟨w.heap.size, 1, none⟩) (by simp)).trans (by simp)
  have g0 : ∀ o, w1.frozen? ⟨w.heap.size, o, none⟩ = false := fun o => (hb1.frozen (p := ⟨w.heap.size, o, none⟩) (by simp)).trans (World.frozen?_alloc_at _ _ _ _ rfl)
  have z0 : w.heap.size < w1.heap.size := World.block_lt_of_cell? w1 ⟨w.heap.size, 0, none⟩ k0
  have HO1 : Hid (w1.ownsRow w.heap.size 2 1 (.slice a L.length c) L.length (L.map (Value.int .i64))) := own_base o1 (by simp; omega)
  have HO2 : Hid (w1.ownsRow w.heap.size 2 1 (.slice a' L'.length c') L'.length (L'.map (Value.int .i64))) := own_base o2 (by simp; omega)
  have bq1 : Below w.heap.size w w1 := (bl_one w _).trans (hb1.mono (by simp))
  have HR1 : Hid (M.Ris L (· ∈ R)) := r1
  have HR2 : Hid (M.Ris L' (· ∈ W)) := r2
  have NB1 : Hid (∀ k, (Value.slice a L.length c).ownBlock = some k → w.heap.size + 1 < k + 1 ∧ k ≠ w.heap.size) := fun k hk => by
    have := (o1.lt k hk).1; simp at this; omega
  have NB2 : Hid (∀ k, (Value.slice a' L'.length c').ownBlock = some k → w.heap.size + 1 < k + 1 ∧ k ≠ w.heap.size) := fun k hk => by
    have := (o2.lt k hk).1; simp at this; omega
  clear o1 o2 hb1 r1 r2
  go_wp2_with fail
  refine (forget_any (H1.out.below (bl_one w1 (.cells #[.slice a L.length c, .slice a' L'.length c'] 40))) (by simp; omega)).mono ?_
  rintro e w2 ⟨rfl, hg2, x, y, hzx, hzy, hm2⟩
  simp at hzx hzy
  have nb : ∀ k, bm ≠ k → some k ≠ some bm := fun k hk e => hk (by simpa using e.symm)
  have p0 : w2.cell? ⟨w1.heap.size, 0, none⟩ = some (.slice a L.length c) := hg2.cell (by simp) (nb w1.heap.size (by omega))
  have p1 : w2.cell? ⟨w1.heap.size, 1, none⟩ = some (.slice a' L'.length c') := hg2.cell (by simp) (nb w1.heap.size (by omega))
  have l0 : w2.cell? ⟨w.heap.size, 0, none⟩ = some (.slice none 0 0) := hg2.cell (by rw [World.cell?_alloc_past _ _ _ z0]; exact k0) (nb w.heap.size (by omega))
  have l1 : w2.cell? ⟨w.heap.size, 1, none⟩ = some (.slice none 0 0) := hg2.cell (by rw [World.cell?_alloc_past _ _ _ z0]; exact k1) (nb w.heap.size (by omega))
  have lf : ∀ o, w2.frozen? ⟨w.heap.size, o, none⟩ = false := fun o => (hg2.frozen_far ⟨w.heap.size, o, none⟩ (by simp; omega) (nb w.heap.size (by omega))).trans ((World.frozen?_alloc_past (w := w1) _ _ _ z0).trans (g0 o))
  have HM2 : Hid _ := hm2
  have ow1 := (HO1.out.alloc (.cells #[.slice a L.length c, .slice a' L'.length c'] 40)).kept hg2 (.inr (fun e => by have := (HO1.out.lt _ e).1; omega))
  have ow2 := (HO2.out.alloc (.cells #[.slice a L.length c, .slice a' L'.length c'] 40)).kept hg2 (.inr (fun e => by have := (HO2.out.lt _ e).1; omega))
  have HW1 : Hid (w2.ownsRow w.heap.size 2 1 (.slice a L.length c) L.length (L.map (Value.int .i64))) := ow1
  have HW2 : Hid (w2.ownsRow w.heap.size 2 1 (.slice a' L'.length c') L'.length (L'.map (Value.int .i64))) := ow2
  have bq2 : Below B w w2 := ((bq1.mono hB).alloc (by omega) _).grown hg2 (by simp; omega) (fun k hk => by cases hk; exact hlo)
  have HF : Hid (Far w w2 bm) := fun b hb hne => ((hg2.block b (by simp; omega) (fun e => hne (by simpa using e))).trans (Below.heap_alloc _ _ _ (by omega))).trans (bq1.block b hb)
  clear hm2 hg2 ow1 ow2
  go_wp2
  refine bodyPost_ret (v := .agg #[.slice a L.length c, .slice a' L'.length c']) (by simp [results, Try.results14, go_sem, l0, l1]) rfl ?_
  have s1 := gb_set w2 ⟨w.heap.size, 0, none⟩ (.slice a L.length c)
  have s2 := gb_set (w2.setCell ⟨w.heap.size, 0, none⟩ (.slice a L.length c)) ⟨w.heap.size, 1, none⟩ (.slice a' L'.length c')
  refine ⟨a, c, L, a', c', L', x, y, rfl, HR1.out, HR2.out, f1, f2, World.ownsRow.kept (World.ownsRow.kept HW1.out s1 (.inr fun e => (NB1.out _ e).2 rfl)) s2 (.inr fun e => (NB1.out _ e).2 rfl), World.ownsRow.kept (World.ownsRow.kept HW2.out s1 (.inr fun e => (NB2.out _ e).2 rfl)) s2 (.inr fun e => (NB2.out _ e).2 rfl), ?_, ?_, ?_, by omega, by omega⟩
  · have hl := HM.out.lt
    have hz : w.heap.size ≠ bm ∧ w.heap.size ≠ x ∧ w.heap.size ≠ y ∧ lv.ownBlock ≠ some w.heap.size ∧ w.heap.size ∉ bs := ⟨by omega, by omega, by omega, fun e => by have := hl.2.2.2.1 _ e; omega, fun e => by have := hl.2.2.2.2 _ e; omega⟩
    exact (HM2.out.far s1 hz).far s2 hz
  · exact (bq2.setCell (by show B ≤ w.heap.size; exact hB) _).setCell (by show B ≤ w.heap.size; exact hB) _
  · intro b hb hne
    rw [Below.heap_setCell _ _ _ _ (by show b ≠ w.heap.size; omega), Below.heap_setCell _ _ _ _ (by show b ≠ w.heap.size; omega)]
    exact HF.out b hb hne

def FpM (bm br bw : Nat) (lv : Value) (bs : List Nat) (k : Nat) : Prop := k = bm ∨ k = br ∨ k = bw ∨ lv.ownBlock = some k ∨ k ∈ bs
def MemX (B : Nat) (w : World) (bm : Nat) (rs : List Reg) (R W : List Int) (p : Nat → Nat) : Prop := ∃ br bw lv bs, MemV B w bm rs R W br bw R.length W.length lv bs ∧ (∀ k, FpM bm br bw lv bs k → p k ≠ 0) ∧ (∀ k, p k ≠ 0 → B ≤ k ∧ k < w.heap.size)

theorem MemV.conv {B : Nat} {w w' : World} {bm : Nat} {rs : List Reg} {R W : List Int} {br bw nr nw : Nat} {lv : Value} {bs : List Nat} (h : MemV B w bm rs R W br bw nr nw lv bs) (hb : ∀ k, FpM bm br bw lv bs k → w'.heap[k]? = w.heap[k]?) : MemV B w' bm rs R W br bw nr nw lv bs := by
  have hm := hb bm (.inl rfl)
  have hr := hb br (.inr (.inl rfl))
  have hw := hb bw (.inr (.inr (.inl rfl)))
  refine { touch := ⟨(World.cell?_of_block (a := ⟨bm, 0, none⟩) hm).trans h.touch.c0, (World.cell?_of_block (a := ⟨bm, 1, none⟩) hm).trans h.touch.c1, h.touch.ne, h.touch.nt, ?_, ?_⟩, c2 := (World.cell?_of_block (a := ⟨bm, 2, none⟩) hm).trans h.c2, f2 := fun o => (World.frozen?_of_block (a := ⟨bm, o, none⟩) hm).trans (h.f2 o), lo := h.lo, len := h.len, row := row_cong h.row (fun g hg => hb g (.inr (.inr (.inr (.inl hg))))), words := ?_, nodup := h.nodup, apart := h.apart, rowApart := h.rowApart, fits := h.fits }
  · obtain ⟨es, clock, h1, h2⟩ := h.touch.r
    exact ⟨es, clock, hr.trans h1, h2⟩
  · obtain ⟨es, clock, h1, h2⟩ := h.touch.w'
    exact ⟨es, clock, hw.trans h1, h2⟩
  · intro i hi
    obtain ⟨h1, h2⟩ := h.words i hi
    have hmem : bs.getD i 0 ∈ bs := by rw [getD_at (by have := h.len; omega)]; exact List.getElem_mem _
    exact ⟨(hb _ (.inr (.inr (.inr (.inr hmem))))).trans h1, h2⟩
theorem MemX.frame {B : Nat} {w w' : World} {bm : Nat} {rs : List Reg} {R W : List Int} {p q q' : Nat → Nat} (h : MemX B w bm rs R W p) (hs : St q q' w w') (hd : ∀ k, p k ≠ 0 → q k = 0) : MemX B w' bm rs R W p := by
  obtain ⟨br, bw, lv, bs, h1, h2, h3⟩ := h
  exact ⟨br, bw, lv, bs, h1.conv (fun k hk => hs.block k (h3 k (h2 k hk)).2 (hd k (h2 k hk))), h2, fun k hk => ⟨(h3 k hk).1, Nat.lt_of_lt_of_le (h3 k hk).2 hs.size⟩⟩
theorem MemX.lt {B : Nat} {w : World} {bm : Nat} {rs : List Reg} {R W : List Int} {p : Nat → Nat} (h : MemX B w bm rs R W p) : ∀ k, p k ≠ 0 → B ≤ k ∧ k < w.heap.size := by
  obtain ⟨br, bw, lv, bs, h1, h2, h3⟩ := h
  exact h3

open Classical in
theorem mem_marks {B : Nat} {w : World} {bm : Nat} {rs : List Reg} {br bw : Nat} {lv : Value} {bs : List Nat} (h : MemV B w bm rs [] [] br bw 0 0 lv bs) : ∃ p, MemX B w bm rs [] [] p := by
  refine ⟨fun k => if FpM bm br bw lv bs k then 1 else 0, br, bw, lv, bs, h, fun k hk => by simp [hk], fun k hk => ?_⟩
  have hl := h.lt
  by_cases c : FpM bm br bw lv bs k
  · rcases c with rfl | rfl | rfl | c | c
    · exact ⟨h.lo.1, hl.1⟩
    · exact ⟨h.lo.2.1, hl.2.1⟩
    · exact ⟨h.lo.2.2, hl.2.2.1⟩
    · exact h.row.lt k c
    · obtain ⟨i, hi, rfl⟩ := List.getElem_of_mem c
      have hwi := (h.words i (by have := h.len; omega)).2
      rw [getD_at hi] at hwi
      exact ⟨hwi, hl.2.2.2.2 _ c⟩
  · simp [c] at hk

theorem mload_any {B : Nat} {w : World} {bm : Nat} {rs : List Reg} {R W : List Int} {p : Nat → Nat} (h : MemX B w bm rs R W p) (ho : AllOk rs) (x : Int) (hx : (Lit.int .i64 x).wf = true) (hn : R.length ≤ 1000) (hB : B ≤ w.heap.size) :
    Calls Try.prog 20 #[.pointer (some ⟨bm, 0, none⟩), .int .i64 x] w fun e w' => ∃ a f R', e = .returned (.tuple #[.int .i64 a, .int .i64 f]) ∧ LdA rs R x a f R' ∧ MemX B w' bm rs R' W p ∧ St p p w w' := by
  obtain ⟨br, bw, lv, bs, h1, h2, h3⟩ := h
  refine (load_far h1 ho x hx (by unfold maxLen; omega) hB).mono ?_
  rintro e w' ⟨hb, hf, hc⟩
  have hS : St p p w w' := ⟨fun _ _ => rfl, fun k hk hz => hf k hk (fun e => h2 k (.inr (.inl e)) hz), hb.size, hb.os, hb.tape, hb.output⟩
  have hlt : ∀ k, p k ≠ 0 → B ≤ k ∧ k < w'.heap.size := fun k hk => ⟨(h3 k hk).1, Nat.lt_of_lt_of_le (h3 k hk).2 hb.size⟩
  rcases hc with ⟨i, j, hl, rfl, hm⟩ | ⟨hl, rfl, hm⟩
  · exact ⟨_, _, R ++ [x], rfl, .inl ⟨i, j, hl, rfl, rfl, rfl⟩, ⟨br, bw, lv, bs, by simpa using hm, h2, hlt⟩, hS⟩
  · exact ⟨_, _, R, rfl, .inr ⟨hl, rfl, rfl, rfl⟩, ⟨br, bw, lv, bs, hm, h2, hlt⟩, hS⟩
theorem mstore_any {B : Nat} {w : World} {bm : Nat} {rs : List Reg} {R W : List Int} {p : Nat → Nat} (h : MemX B w bm rs R W p) (ho : AllOk rs) (x n : Int) (hx : (Lit.int .i64 x).wf = true) (hw : (Lit.int .i64 n).wf = true) (hn : W.length ≤ 1000) (hB : B ≤ w.heap.size) :
    Calls Try.prog 12 #[.pointer (some ⟨bm, 0, none⟩), .int .i64 x, .int .i64 n] w fun e w' => ∃ g rs' W', e = .returned (.int .i64 g) ∧ StA rs W x n g rs' W' ∧ MemX B w' bm rs' R W' p ∧ St p p w w' := by
  obtain ⟨br, bw, lv, bs, h1, h2, h3⟩ := h
  refine (store_far h1 ho x n hx hw (by unfold maxLen; omega) hB).mono ?_
  rintro e w' ⟨hb, hf, hc⟩
  have hS : St p p w w' := ⟨fun _ _ => rfl, fun k hk hz => hf k hk (fun e => h2 k (.inr (.inr (.inl e))) hz) (fun e => h2 k (.inr (.inr (.inr (.inr e)))) hz), hb.size, hb.os, hb.tape, hb.output⟩
  have hlt : ∀ k, p k ≠ 0 → B ≤ k ∧ k < w'.heap.size := fun k hk => ⟨(h3 k hk).1, Nat.lt_of_lt_of_le (h3 k hk).2 hb.size⟩
  rcases hc with ⟨i, j, hl, hwr, rfl, hm⟩ | ⟨hl, rfl, hm⟩
  · exact ⟨_, putWord rs i j n, W ++ [x], rfl, .inl ⟨i, j, hl, hwr, rfl, rfl, rfl⟩, ⟨br, bw, lv, bs, by simpa using hm, h2, hlt⟩, hS⟩
  · exact ⟨_, rs, W, rfl, .inr ⟨hl, rfl, rfl, rfl⟩, ⟨br, bw, lv, bs, hm, h2, hlt⟩, hS⟩
theorem mfoot_any {B : Nat} {w : World} {bm : Nat} {rs : List Reg} {R W : List Int} {p : Nat → Nat} (h : MemX B w bm rs R W p) (h1 : R.length ≤ 1000) (h2 : W.length ≤ 1000) (hB : B ≤ w.heap.size) :
    Calls Try.prog 14 #[.pointer (some ⟨bm, 0, none⟩)] w fun e w' => ∃ a c L a' c' L' p', e = .returned (.agg #[.slice a L.length c, .slice a' L'.length c']) ∧ M.Ris L (· ∈ R) ∧ M.Ris L' (· ∈ W) ∧ (∀ n ∈ L, (Lit.int .i64 n).wf = true) ∧ (∀ n ∈ L', (Lit.int .i64 n).wf = true) ∧ w'.ownsRow w.heap.size 2 1 (.slice a L.length c) L.length (intsR L) ∧ w'.ownsRow w.heap.size 2 1 (.slice a' L'.length c') L'.length (intsR L') ∧ (∀ k, w.heap.size ≤ k → w'.heap[k]? ≠ none → (∀ es cl, w'.heap[k]? ≠ some (.map es cl)) → p' k = 0) ∧ MemX B w' bm rs [] [] p' ∧ St p p' w w' := by
  obtain ⟨br, bw, lv, bs, hm, h3, h4⟩ := h
  refine (foot_far2 hm hB (by omega) (by omega)).mono ?_
  rintro e w' ⟨a, c, L, a', c', L', x, y, rfl, r1, r2, f1, f2, o1, o2, hm', hb, hf, hx, hy⟩
  have hlt' := hm'.lt
  refine ⟨a, c, L, a', c', L', fun k => if k = x ∨ k = y then 1 else p k, rfl, r1, r2, f1, f2, o1, o2, ?_, ⟨x, y, lv, bs, hm', ?_, ?_⟩, ?_⟩
  · intro k hk hn hne
    have n1 : ¬ (k = x ∨ k = y) := by
      rintro (rfl | rfl)
      · obtain ⟨es, cl, q, -⟩ := hm'.touch.r
        exact hne es cl q
      · obtain ⟨es, cl, q, -⟩ := hm'.touch.w'
        exact hne es cl q
    show (if _ then 1 else p k) = 0
    rw [if_neg n1]
    cases Nat.eq_zero_or_pos (p k) with
    | inl h0 => exact h0
    | inr h0 => have := (h4 k (by omega)).2; omega
  · intro k hk
    show (if _ then 1 else p k) ≠ 0
    by_cases c1 : k = x ∨ k = y
    · rw [if_pos c1]; decide
    · rw [if_neg c1]
      rcases hk with hk | hk | hk | hk | hk
      · exact h3 k (.inl hk)
      · exact absurd (.inl hk) c1
      · exact absurd (.inr hk) c1
      · exact h3 k (.inr (.inr (.inr (.inl hk))))
      · exact h3 k (.inr (.inr (.inr (.inr hk))))
  · intro k hk
    by_cases c1 : k = x ∨ k = y
    · rcases c1 with rfl | rfl
      · exact ⟨hm'.lo.2.1, hlt'.2.1⟩
      · exact ⟨hm'.lo.2.2, hlt'.2.2.1⟩
    · have hk' : p k ≠ 0 := by
        have : (if k = x ∨ k = y then 1 else p k) ≠ 0 := hk
        rwa [if_neg c1] at this
      exact ⟨(h4 k hk').1, Nat.lt_of_lt_of_le (h4 k hk').2 hb.size⟩
  · exact ⟨fun k hk => if_neg (by omega), fun k hk hz => hf k hk (fun e => h3 k (.inl e) hz), hb.size, hb.os, hb.tape, hb.output⟩
theorem mwords_no {B : Nat} {w : World} {bm : Nat} {rs : List Reg} {R W : List Int} {p : Nat → Nat} (h : MemX B w bm rs R W p) (z : Int) (hz : z < 0 ∨ (rs.length : Int) ≤ z) :
    Calls Try.prog 17 #[.pointer (some ⟨bm, 0, none⟩), .int .i64 z] w fun e w' => e = .returned (.slice none 0 0) ∧ w' = w := by
  obtain ⟨br, bw, lv, bs, hm, -, -⟩ := h
  obtain ⟨a, cap, rfl, -, -⟩ := hm.form
  exact words_no hm.c2 z hz
theorem mwords_yes {B : Nat} {w : World} {bm : Nat} {rs : List Reg} {R W : List Int} {p : Nat → Nat} (h : MemX B w bm rs R W p) (i : Nat) (hi : i < rs.length) (hl : (rs.getD i noReg).words.length ≤ 65536) :
    Calls Try.prog 17 #[.pointer (some ⟨bm, 0, none⟩), .int .i64 i] w fun e w' => e = .returned (.slice (some ⟨w.heap.size, 0, none⟩) (rs.getD i noReg).words.length (rs.getD i noReg).words.length) ∧ w'.heap[w.heap.size]? = some (.cells ((rs.getD i noReg).words.map (Value.int .i64)).toArray 2 (0, 0)) ∧ (∀ n ∈ (rs.getD i noReg).words, (Lit.int .i64 n).wf = true) ∧ Below w.heap.size w w' := by
  obtain ⟨br, bw, lv, bs, hm, -, -⟩ := h
  refine (words_yes hm i hi hl).mono ?_
  rintro e w' ⟨rfl, h1, h2⟩
  exact ⟨rfl, h1, (hm.fits _ (getD_mem rs hi)).2, h2⟩

end Go.Proofs.Ytfkpbmopneleiaa

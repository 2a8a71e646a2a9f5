/- Foot and Words. -/
import Derived.Test.YtfkpbmopneleiaaMemLoad
import Derived.Test.YtfkpbmopneleiaaMemSame
namespace Go.Proofs.Ytfkpbmopneleiaa
open Go.RowKit Go.Maps
set_option linter.unusedVariables false

theorem bl_one (w : World) (x : Obj) : Below w.heap.size w (w.alloc x) := (Below.refl _ _).alloc (Nat.le_refl _) _
/-- A block that is none of the memory's was written. -/
theorem MemV.far {B : Nat} {w w' : World} {bm : Nat} {rs : List Reg} {R W : List Int} {br bw nr nw : Nat} {lv : Value} {bs : List Nat} (h : MemV B w bm rs R W br bw nr nw lv bs) {z : Nat} (hg : w.grownBy w' (some z)) (hz : z ≠ bm ∧ z ≠ br ∧ z ≠ bw ∧ lv.ownBlock ≠ some z ∧ z ∉ bs) : MemV B w' bm rs R W br bw nr nw lv bs := by
  have zm : bm < w.heap.size := touch_lt h.touch
  have nm : some bm ≠ some z := by simpa using hz.1.symm
  refine { touch := ⟨hg.cell h.touch.c0 nm, hg.cell h.touch.c1 nm, h.touch.ne, h.touch.nt, h.touch.r.kept hg (by simpa using hz.2.1.symm), h.touch.w'.kept hg (by simpa using hz.2.2.1.symm)⟩, c2 := hg.cell h.c2 nm, f2 := ?_, lo := h.lo, len := h.len, row := h.row.kept hg (.inr hz.2.2.2.1), words := ?_, nodup := h.nodup, apart := h.apart, rowApart := h.rowApart, fits := h.fits }
  · intro o; rw [hg.frozen_far ⟨bm, o, none⟩ zm nm]; exact h.f2 o
  · intro i hi
    obtain ⟨h1, h2⟩ := h.words i hi
    have hm : bs.getD i 0 ∈ bs := by rw [getD_at (by have := h.len; omega)]; exact List.getElem_mem _
    refine ⟨grown_heap hg h1 ?_, h2⟩
    intro e
    have e' : bs.getD i 0 = z := by simpa using e
    rw [e'] at hm
    exact hz.2.2.2.2 hm
/-- All blocks of a memory lie ahead of the heap's end. -/
theorem MemV.lt {B : Nat} {w : World} {bm : Nat} {rs : List Reg} {R W : List Int} {br bw nr nw : Nat} {lv : Value} {bs : List Nat} (h : MemV B w bm rs R W br bw nr nw lv bs) : bm < w.heap.size ∧ br < w.heap.size ∧ bw < w.heap.size ∧ (∀ b, lv.ownBlock = some b → b < w.heap.size) ∧ ∀ b ∈ bs, b < w.heap.size := by
  refine ⟨touch_lt h.touch, map_lt h.touch.r, map_lt h.touch.w', fun b hb => (h.row.lt b hb).2, fun b hb => ?_⟩
  obtain ⟨i, hi, rfl⟩ := List.getElem_of_mem hb
  have hwi := (h.words i (by have := h.len; omega)).1
  rw [getD_at hi] at hwi
  exact (Array.getElem?_eq_some_iff.1 hwi).1
/-- What was touched, forgotten. -/
theorem MemV.forget {B : Nat} {w w1 : World} {bm : Nat} {rs : List Reg} {R W : List Int} {br bw nr nw : Nat} {lv : Value} {bs : List Nat} (h : MemV B w bm rs R W br bw nr nw lv bs) (hb : Below w.heap.size w w1) {x y : Nat} (hx : w.heap.size ≤ x) (hy : w.heap.size ≤ y) (hne : x ≠ y) (hB : B ≤ w.heap.size)
    (hr : w1.ownsMap Try.prog 2 unitElem x 0 (M.set [])) (hw : w1.ownsMap Try.prog 2 unitElem y 0 (M.set [])) :
    MemV B ((w1.setCell ⟨bm, 0, none⟩ (.map (some x))).setCell ⟨bm, 1, none⟩ (.map (some y))) bm rs [] [] x y 0 0 lv bs := by
  have h1 := h.below hb
  have zm : bm < w.heap.size := touch_lt h.touch
  have s1 := gb_set w1 ⟨bm, 0, none⟩ (.map (some x))
  have s2 := gb_set (w1.setCell ⟨bm, 0, none⟩ (.map (some x))) ⟨bm, 1, none⟩ (.map (some y))
  have hlt : ∀ b, lv.ownBlock = some b → b < w.heap.size := fun b hb => (h.row.lt b hb).2
  have c1 : (w1.setCell ⟨bm, 0, none⟩ (.map (some x))).cell? ⟨bm, 1, none⟩ = some (.map (some bw)) := by rw [World.cell?_setCell_other _ _ _ _ (by simp)]; exact h1.touch.c1
  refine { touch := ⟨?_, ?_, hne, ⟨by omega, by omega⟩, ?_, ?_⟩, c2 := ?_, f2 := ?_, lo := ⟨h.lo.1, by omega, by omega⟩, len := h.len, row := ?_, words := ?_, nodup := h.nodup, apart := ?_, rowApart := ?_, fits := h.fits }
  · rw [World.cell?_setCell_other _ _ _ _ (by simp)]; exact World.cell?_setCell_same _ _ _ h1.touch.c0
  · exact World.cell?_setCell_same _ _ _ c1
  · exact (hr.kept s1 (by simp; omega)).kept s2 (by simp; omega)
  · exact (hw.kept s1 (by simp; omega)).kept s2 (by simp; omega)
  · rw [World.cell?_setCell_other _ _ _ _ (by simp), World.cell?_setCell_other _ _ _ _ (by simp)]; exact h1.c2
  · intro o; rw [World.frozen?_setCell, World.frozen?_setCell]; exact h1.f2 o
  · exact (h1.row.kept s1 (.inr h.rowApart.1)).kept s2 (.inr h.rowApart.1)
  · intro i hi
    obtain ⟨p1, p2⟩ := h1.words i hi
    have hm : bs.getD i 0 ∈ bs := by rw [getD_at (by have := h.len; omega)]; exact List.getElem_mem _
    obtain ⟨q1, -⟩ := h.apart _ hm
    exact ⟨grown_heap s2 (grown_heap s1 p1 (by simpa using q1)) (by simpa using q1), p2⟩
  · intro b hb
    obtain ⟨q1, q2, q3, q4⟩ := h.apart b hb
    obtain ⟨i, hi, rfl⟩ := List.getElem_of_mem hb
    have hwi := (h.words i (by have := h.len; omega)).1
    rw [getD_at hi] at hwi
    have := (Array.getElem?_eq_some_iff.1 hwi).1
    exact ⟨q1, by omega, by omega, q4⟩
  · exact ⟨h.rowApart.1, fun e => by have := hlt _ e; omega, fun e => by have := hlt _ e; omega⟩

set_option maxRecDepth 100000 in
set_option maxHeartbeats 4000000 in
theorem forget_any {B : Nat} {w : World} {bm : Nat} {rs : List Reg} {R W : List Int} {br bw nr nw : Nat} {lv : Value} {bs : List Nat} (h : MemV B w bm rs R W br bw nr nw lv bs) (hB : B ≤ w.heap.size) :
    Calls Try.prog 36 #[.pointer (some ⟨bm, 0, none⟩)] w fun e w' => e = .returned (.tuple #[]) ∧ w.grownBy w' (some bm) ∧ ∃ x y, w.heap.size ≤ x ∧ w.heap.size ≤ y ∧ MemV B w' bm rs [] [] x y 0 0 lv bs := by
  have HM : Hid _ := h
  clear h
  go_enter Try.func36, Try.ntmps36
  go_wp2_with fail
  refine (new_touched w).mono ?_
  rintro e w1 ⟨rfl, hr2, hw2, hz2, hb2⟩
  have h1 := HM.out.below hb2
  have c0 := h1.touch.c0
  have c1 := h1.touch.c1
  have f0 := h1.f2 0
  have f1 := h1.f2 1
  have HP : Hid _ := HM.out.forget hb2 (x := w.heap.size + 1) (y := w.heap.size + 2) (by omega) (by omega) (by omega) hB hr2 hw2
  have HG : Hid (w.grownBy ((w1.setCell ⟨bm, 0, none⟩ (.map (some (w.heap.size + 1)))).setCell ⟨bm, 1, none⟩ (.map (some (w.heap.size + 2)))) (some bm)) := by
    show World.grownBy _ _ _
    have g1 : w.grownBy w1 (some bm) := ⟨hb2.os, hb2.tape, hb2.output, hb2.size, fun k hk _ => hb2.block k hk⟩
    exact (g1.trans (gb_set _ _ _)).trans (gb_set _ _ _)
  clear h1 hr2 hw2 hb2
  go_wp2
  go_end0
  exact ⟨rfl, HG.out, _, _, by omega, by omega, HP.out⟩

set_option maxRecDepth 100000 in
set_option maxHeartbeats 4000000 in
theorem foot_any {B : Nat} {w : World} {bm : Nat} {rs : List Reg} {R W : List Int} {br bw nr nw : Nat} {lv : Value} {bs : List Nat} (h : MemV B w bm rs R W br bw nr nw lv bs) (hB : B ≤ w.heap.size) (h1 : nr * 8 ≤ 140737488355328) (h2 : nw * 8 ≤ 140737488355328) :
    Calls Try.prog 14 #[.pointer (some ⟨bm, 0, none⟩)] w fun e w' => ∃ a c L a' c' L' x y, e = .returned (.agg #[.slice a L.length c, .slice a' L'.length c']) ∧ M.Ris L (· ∈ R) ∧ M.Ris L' (· ∈ W) ∧ (∀ n ∈ L, (Lit.int .i64 n).wf = true) ∧ (∀ n ∈ L', (Lit.int .i64 n).wf = true) ∧ w'.ownsRow w.heap.size 2 1 (.slice a L.length c) L.length (L.map (Value.int .i64)) ∧ w'.ownsRow w.heap.size 2 1 (.slice a' L'.length c') L'.length (L'.map (Value.int .i64)) ∧ MemV B w' bm rs [] [] x y 0 0 lv bs ∧ Below B w w' := by
  have HM : Hid _ := h
  have zm : bm < w.heap.size := touch_lt h.touch
  have hlo := h.lo.1
  clear h
  go_enter Try.func14, Try.ntmps14
  go_wp2_with fail
  have HA : Hid _ := HM.out.below (bl_one w (.cells #[.slice none 0 0, .slice none 0 0] 40))
  refine (listed_any HA.out.touch h1 h2).mono ?_
  rintro e w1 ⟨a, c, L, a', c', L', rfl, r1, r2, f1, f2, o1, o2, hb1⟩
  have H1 : Hid _ := HA.out.below hb1
  have k0 : w1.cell? ⟨w.heap.size, 0, none⟩ = some (.slice none 0 0) := (hb1.cell (p := ⟨w.heap.size, 0, none⟩) (by simp)).trans (by simp)
  have k1 : w1.cell? ⟨w.heap.size, 1, none⟩ = some (.slice none 0 0) := (hb1.cell (p := ⟨w.heap.size, 1, none⟩) (by simp)).trans (by simp)
  have g0 : ∀ o, w1.frozen? ⟨w.heap.size, o, none⟩ = false := fun o => (hb1.frozen (p := ⟨w.heap.size, o, none⟩) (by simp)).trans (World.frozen?_alloc_at _ _ _ _ rfl)
  have z0 : w.heap.size < w1.heap.size := World.block_lt_of_cell? w1 ⟨w.heap.size, 0, none⟩ k0
  have HO1 : Hid (w1.ownsRow w.heap.size 2 1 (.slice a L.length c) L.length (L.map (Value.int .i64))) := own_base o1 (by simp; omega)
  have HO2 : Hid (w1.ownsRow w.heap.size 2 1 (.slice a' L'.length c') L'.length (L'.map (Value.int .i64))) := own_base o2 (by simp; omega)
  have bq1 : Below w.heap.size w w1 := (bl_one w _).trans (hb1.mono (by simp))
  have HR1 : Hid (M.Ris L (· ∈ R)) := r1
  have HR2 : Hid (M.Ris L' (· ∈ W)) := r2
  have NB1 : Hid (∀ k, (Value.slice a L.length c).ownBlock = some k → w.heap.size + 1 < k + 1 ∧ k ≠ w.heap.size) := fun k hk => by
    have := (o1.lt k hk).1; simp at this; omega
  have NB2 : Hid (∀ k, (Value.slice a' L'.length c').ownBlock = some k → w.heap.size + 1 < k + 1 ∧ k ≠ w.heap.size) := fun k hk => by
    have := (o2.lt k hk).1; simp at this; omega
  clear o1 o2 hb1 r1 r2
  go_wp2_with fail
  refine (forget_any (H1.out.below (bl_one w1 (.cells #[.slice a L.length c, .slice a' L'.length c'] 40))) (by simp; omega)).mono ?_
  rintro e w2 ⟨rfl, hg2, x, y, hzx, hzy, hm2⟩
  simp at hzx hzy
  have nb : ∀ k, bm ≠ k → some k ≠ some bm := fun k hk e => hk (by simpa using e.symm)
  have p0 : w2.cell? ⟨w1.heap.size, 0, none⟩ = some (.slice a L.length c) := hg2.cell (by simp) (nb w1.heap.size (by omega))
  have p1 : w2.cell? ⟨w1.heap.size, 1, none⟩ = some (.slice a' L'.length c') := hg2.cell (by simp) (nb w1.heap.size (by omega))
  have l0 : w2.cell? ⟨w.heap.size, 0, none⟩ = some (.slice none 0 0) := hg2.cell (by rw [World.cell?_alloc_past _ _ _ z0]; exact k0) (nb w.heap.size (by omega))
  have l1 : w2.cell? ⟨w.heap.size, 1, none⟩ = some (.slice none 0 0) := hg2.cell (by rw [World.cell?_alloc_past _ _ _ z0]; exact k1) (nb w.heap.size (by omega))
  have lf : ∀ o, w2.frozen? ⟨w.heap.size, o, none⟩ = false := fun o => (hg2.frozen_far ⟨w.heap.size, o, none⟩ (by simp; omega) (nb w.heap.size (by omega))).trans ((World.frozen?_alloc_past (w := w1) _ _ _ z0).trans (g0 o))
  have HM2 : Hid _ := hm2
  have ow1 := (HO1.out.alloc (.cells #[.slice a L.length c, .slice a' L'.length c'] 40)).kept hg2 (.inr (fun e => by have := (HO1.out.lt _ e).1; omega))
  have ow2 := (HO2.out.alloc (.cells #[.slice a L.length c, .slice a' L'.length c'] 40)).kept hg2 (.inr (fun e => by have := (HO2.out.lt _ e).1; omega))
  have HW1 : Hid (w2.ownsRow w.heap.size 2 1 (.slice a L.length c) L.length (L.map (Value.int .i64))) := ow1
  have HW2 : Hid (w2.ownsRow w.heap.size 2 1 (.slice a' L'.length c') L'.length (L'.map (Value.int .i64))) := ow2
  have bq2 : Below B w w2 := ((bq1.mono hB).alloc (by omega) _).grown hg2 (by simp; omega) (fun k hk => by cases hk; exact hlo)
  clear hm2 hg2 ow1 ow2
  go_wp2
  refine bodyPost_ret (v := .agg #[.slice a L.length c, .slice a' L'.length c']) (by simp [results, Try.results14, go_sem, l0, l1]) rfl ?_
  have s1 := gb_set w2 ⟨w.heap.size, 0, none⟩ (.slice a L.length c)
  have s2 := gb_set (w2.setCell ⟨w.heap.size, 0, none⟩ (.slice a L.length c)) ⟨w.heap.size, 1, none⟩ (.slice a' L'.length c')
  refine ⟨a, c, L, a', c', L', x, y, rfl, HR1.out, HR2.out, f1, f2, World.ownsRow.kept (World.ownsRow.kept HW1.out s1 (.inr fun e => (NB1.out _ e).2 rfl)) s2 (.inr fun e => (NB1.out _ e).2 rfl), World.ownsRow.kept (World.ownsRow.kept HW2.out s1 (.inr fun e => (NB2.out _ e).2 rfl)) s2 (.inr fun e => (NB2.out _ e).2 rfl), ?_, ?_⟩
  · have hl := HM.out.lt
    have hz : w.heap.size ≠ bm ∧ w.heap.size ≠ x ∧ w.heap.size ≠ y ∧ lv.ownBlock ≠ some w.heap.size ∧ w.heap.size ∉ bs := ⟨by omega, by omega, by omega, fun e => by have := hl.2.2.2.1 _ e; omega, fun e => by have := hl.2.2.2.2 _ e; omega⟩
    exact (HM2.out.far s1 hz).far s2 hz
  · exact (bq2.setCell (by show B ≤ w.heap.size; exact hB) _).setCell (by show B ≤ w.heap.size; exact hB) _

set_option maxRecDepth 100000 in
set_option maxHeartbeats 4000000 in
theorem words_no {w : World} {bm : Nat} {a : Option Addr} {len cap : Nat} (hc : w.cell? ⟨bm, 2, none⟩ = some (.slice a len cap)) (z : Int) (hz : z < 0 ∨ (len : Int) ≤ z) :
    Calls Try.prog 17 #[.pointer (some ⟨bm, 0, none⟩), .int .i64 z] w fun e w' => e = .returned (.slice none 0 0) ∧ w' = w := by
  rcases (show z < 0 ∨ (0 ≤ z ∧ (len : Int) ≤ z) by omega) with h | ⟨h, h'⟩
  all_goals
    go_enter Try.func17, Try.ntmps17
    go_wp2
    go_ret
    exact ⟨rfl, rfl⟩

set_option maxRecDepth 100000 in
set_option maxHeartbeats 4000000 in
theorem words_yes {B : Nat} {w : World} {bm : Nat} {rs : List Reg} {R W : List Int} {br bw nr nw : Nat} {lv : Value} {bs : List Nat} (h : MemV B w bm rs R W br bw nr nw lv bs) (i : Nat) (hi : i < rs.length) (hl : (rs.getD i noReg).words.length ≤ 65536) :
    Calls Try.prog 17 #[.pointer (some ⟨bm, 0, none⟩), .int .i64 i] w fun e w' => e = .returned (.slice (some ⟨w.heap.size, 0, none⟩) (rs.getD i noReg).words.length (rs.getD i noReg).words.length) ∧ w'.heap[w.heap.size]? = some (.cells ((rs.getD i noReg).words.map (Value.int .i64)).toArray 2 (0, 0)) ∧ Below w.heap.size w w' := by
  obtain ⟨a, cap, rfl, -, hcs⟩ := h.form
  rcases hcs with h0 | ⟨g, rfl, hgz, -, hc⟩
  · omega
  obtain ⟨k0, k1, k2⟩ := hc i hi
  have m2 := h.c2
  have HV : Hid _ := h.view i hi
  have i0 : (0 : Int) ≤ (i : Int) := by omega
  have i1 : (i : Int) < (rs.length : Int) := by omega
  have i2 : ¬ (rs.length : Int) ≤ (i : Int) := by omega
  clear hc h
  generalize (rs.getD i noReg).words = ws at *
  go_enter Try.func17, Try.ntmps17
  go_wp2_with fail
  refine (copied_any HV.out (by omega)).mono ?_
  rintro e w1 ⟨rfl, hg1, hlt, hb1⟩
  have HG : Hid _ := hg1
  clear hg1
  go_wp2
  go_ret
  exact ⟨rfl, HG.out, hb1⟩

end Go.Proofs.Ytfkpbmopneleiaa

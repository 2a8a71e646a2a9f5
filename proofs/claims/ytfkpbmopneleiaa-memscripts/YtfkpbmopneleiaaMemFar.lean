/- Load and Foot, with what they leave as it was. (Written by gen_far.py.) -/
import Derived.Test.YtfkpbmopneleiaaMemFoot
namespace Go.Proofs.Ytfkpbmopneleiaa
open Go.RowKit Go.Maps
set_option linter.unusedVariables false

/-- Every block but one is as it was. -/
def Far (w w' : World) (k : Nat) : Prop := ∀ b, b < w.heap.size → b ≠ k → w'.heap[b]? = w.heap[b]?

set_option maxRecDepth 100000 in
set_option maxHeartbeats 4000000 in
theorem load_far {B : Nat} {w : World} {bm : Nat} {rs : List Reg} {R W : List Int} {br bw nr nw : Nat} {lv : Value} {bs : List Nat} (h : MemV B w bm rs R W br bw nr nw lv bs) (ho : AllOk rs) (x : Int) (hx : (Lit.int .i64 x).wf = true) (hn : nr < maxLen) (hB : B ≤ w.heap.size) :
    Calls Try.prog 20 #[.pointer (some ⟨bm, 0, none⟩), .int .i64 x] w fun e w' => Below B w w' ∧ Far w w' br ∧ ((∃ i j : Nat, Loc rs x i j ∧ e = .returned (.tuple #[.int .i64 (wordAt rs i j), .int .i64 0]) ∧ MemV B w' bm rs (R ++ [x]) W br bw (nr + 1) nw lv bs) ∨ (NoLoc rs x ∧ e = .returned (.tuple #[.int .i64 0, .int .i64 11]) ∧ MemV B w' bm rs R W br bw nr nw lv bs)) := by
  have HM : Hid _ := h
  clear h
  go_enter Try.func20, Try.ntmps20
  go_wp2_with fail
  refine (find_mem HM.out ho x).mono ?_
  rintro e w1 ⟨hb1, ⟨i, j, hl, rfl⟩ | ⟨hl, rfl⟩⟩
  · have H1 : Hid _ := HM.out.below hb1
    have hl' := hl
    obtain ⟨-, hi, -, -, -, hj⟩ := hl'
    have HL : Hid (Loc rs x i j) := hl
    have zz := hb1.size
    clear hl
    go_wp2_with fail
    refine (read_any H1.out.touch x hx hn).mono ?_
    rintro e w2 ⟨rfl, ht2, hg2⟩
    have H2 : Hid _ := H1.out.kept hg2 (.inl rfl) ht2
    obtain ⟨a, cap, hlv, -, hcs⟩ := H2.out.form
    rcases hcs with h0 | ⟨g, rfl, hgz, -, hc⟩
    · omega
    obtain ⟨k0, k1, k2⟩ := hc i hi
    have hv := H2.out.view i hi
    have m2 := H2.out.c2
    rw [hlv] at m2
    rcases hv.cells with h0 | ⟨bq, off, hq, hcw⟩
    · omega
    have hw := hcw j hj
    simp only [Option.some.injEq, Addr.mk.injEq, and_true] at hq
    obtain ⟨rfl, rfl⟩ := hq
    rw [Nat.zero_add] at hw
    have HW : Hid (wordAt rs i j = (rs.getD i noReg).words.getD j 0) := rfl
    generalize (rs.getD i noReg).words.getD j 0 = wv at *
    generalize hbq : bs.getD i 0 = bq at *
    have HLN : Hid ((rs.getD i noReg).words.length ≤ (rs.getD i noReg).words.length) := Nat.le_refl _
    generalize hln : (rs.getD i noReg).words.length = ln at *
    have i0 : (0 : Int) ≤ (i : Int) := by omega
    have i1 : (i : Int) < (rs.length : Int) := by omega
    have j0 : (0 : Int) ≤ (j : Int) := by omega
    have j1 : (j : Int) < (ln : Int) := by omega
    have hbz := grown_below hg2 (B := B) (by omega) HM.out.lo.2.1
    have hb2 : Below B w w2 := (hb1.mono hB).trans hbz
    have HF : Hid (Far w w2 br) := fun b hb hne => (hg2.block b (Nat.lt_of_lt_of_le hb zz) (fun e => hne (by simpa using e))).trans (hb1.block b hb)
    clear hcw hc hv ht2 hg2
    go_wp2
    go_ret2
    refine ⟨hb2, HF.out, .inl ⟨i, j, HL.out, ?_, H2.out⟩⟩
    rw [HW.out]
    rfl
  · have H1 : Hid _ := HM.out.below hb1
    have HL : Hid (NoLoc rs x) := hl
    clear hl
    go_wp2
    go_ret2
    exact ⟨hb1.mono hB, fun b hb _ => hb1.block b hb, .inr ⟨HL.out, rfl, H1.out⟩⟩

set_option maxRecDepth 100000 in
set_option maxHeartbeats 4000000 in
theorem foot_far {B : Nat} {w : World} {bm : Nat} {rs : List Reg} {R W : List Int} {br bw nr nw : Nat} {lv : Value} {bs : List Nat} (h : MemV B w bm rs R W br bw nr nw lv bs) (hB : B ≤ w.heap.size) (h1 : nr * 8 ≤ 140737488355328) (h2 : nw * 8 ≤ 140737488355328) :
    Calls Try.prog 14 #[.pointer (some ⟨bm, 0, none⟩)] w fun e w' => ∃ a c L a' c' L' x y, e = .returned (.agg #[.slice a L.length c, .slice a' L'.length c']) ∧ M.Ris L (· ∈ R) ∧ M.Ris L' (· ∈ W) ∧ (∀ n ∈ L, (Lit.int .i64 n).wf = true) ∧ (∀ n ∈ L', (Lit.int .i64 n).wf = true) ∧ w'.ownsRow w.heap.size 2 1 (.slice a L.length c) L.length (L.map (Value.int .i64)) ∧ w'.ownsRow w.heap.size 2 1 (.slice a' L'.length c') L'.length (L'.map (Value.int .i64)) ∧ MemV B w' bm rs [] [] x y 0 0 lv bs ∧ Below B w w' ∧ Far w w' bm ∧ w.heap.size ≤ x := by
  have HM : Hid _ := h
  have zm : bm < w.heap.size := touch_lt h.touch
  have hlo := h.lo.1
  clear h
  go_enter Try.func14, Try.ntmps14
  go_wp2_with fail
  have HA : Hid _ := HM.out.below (bl_one w (.cells #[.slice none 0 0, .slice none 0 0] 40))
  refine (listed_any HA.out.touch h1 h2).mono ?_
  rintro e w1 ⟨a, c, L, a', c', L', rfl, r1, r2, f1, f2, o1, o2, hb1⟩
  have H1 : Hid _ := HA.out.below hb1
  have k0 : w1.cell? ⟨w.heap.size, 0, none⟩ = some (.slice none 0 0) := (hb1.cell (p := ⟨w.heap.size, 0, none⟩) (by simp)).trans (by simp)
  have k1 : w1.cell? ⟨w.heap.size, 1, none⟩ = some (.slice none 0 0) := (hb1.cell (p := ⟨w.heap.size, 1, none⟩) (by simp)).trans (by simp)
  have g0 : ∀ o, w1.frozen? ⟨w.heap.size, o, none⟩ = false := fun o => (hb1.frozen (p := ⟨w.heap.size, o, none⟩) (by simp)).trans (World.frozen?_alloc_at _ _ _ _ rfl)
  have z0 : w.heap.size < w1.heap.size := World.block_lt_of_cell? w1 ⟨w.heap.size, 0, none⟩ k0
  have HO1 : Hid (w1.ownsRow w.heap.size 2 1 (.slice a L.length c) L.length (L.map (Value.int .i64))) := own_base o1 (by simp; omega)
  have HO2 : Hid (w1.ownsRow w.heap.size 2 1 (.slice a' L'.length c') L'.length (L'.map (Value.int .i64))) := own_base o2 (by simp; omega)
  have bq1 : Below w.heap.size w w1 := (bl_one w _).trans (hb1.mono (by simp))
  have HR1 : Hid (M.Ris L (· ∈ R)) := r1
  have HR2 : Hid (M.Ris L' (· ∈ W)) := r2
  have NB1 : Hid (∀ k, (Value.slice a L.length c).ownBlock = some k → w.heap.size + 1 < k + 1 ∧ k ≠ w.heap.size) := fun k hk => by
    have := (o1.lt k hk).1; simp at this; omega
  have NB2 : Hid (∀ k, (Value.slice a' L'.length c').ownBlock = some k → w.heap.size + 1 < k + 1 ∧ k ≠ w.heap.size) := fun k hk => by
    have := (o2.lt k hk).1; simp at this; omega
  clear o1 o2 hb1 r1 r2
  go_wp2_with fail
  refine (forget_any (H1.out.below (bl_one w1 (.cells #[.slice a L.length c, .slice a' L'.length c'] 40))) (by simp; omega)).mono ?_
  rintro e w2 ⟨rfl, hg2, x, y, hzx, hzy, hm2⟩
  simp at hzx hzy
  have nb : ∀ k, bm ≠ k → some k ≠ some bm := fun k hk e => hk (by simpa using e.symm)
  have p0 : w2.cell? ⟨w1.heap.size, 0, none⟩ = some (.slice a L.length c) := hg2.cell (by simp) (nb w1.heap.size (by omega))
  have p1 : w2.cell? ⟨w1.heap.size, 1, none⟩ = some (.slice a' L'.length c') := hg2.cell (by simp) (nb w1.heap.size (by omega))
  have l0 : w2.cell? ⟨w.heap.size, 0, none⟩ = some (.slice none 0 0) := hg2.cell (by rw [World.cell?_alloc_past _ _ _ z0]; exact k0) (nb w.heap.size (by omega))
  have l1 : w2.cell? ⟨w.heap.size, 1, none⟩ = some (.slice none 0 0) := hg2.cell (by rw [World.cell?_alloc_past _ _ _ z0]; exact k1) (nb w.heap.size (by omega))
  have lf : ∀ o, w2.frozen? ⟨w.heap.size, o, none⟩ = false := fun o => (hg2.frozen_far ⟨w.heap.size, o, none⟩ (by simp; omega) (nb w.heap.size (by omega))).trans ((World.frozen?_alloc_past (w := w1) _ _ _ z0).trans (g0 o))
  have HM2 : Hid _ := hm2
  have ow1 := (HO1.out.alloc (.cells #[.slice a L.length c, .slice a' L'.length c'] 40)).kept hg2 (.inr (fun e => by have := (HO1.out.lt _ e).1; omega))
  have ow2 := (HO2.out.alloc (.cells #[.slice a L.length c, .slice a' L'.length c'] 40)).kept hg2 (.inr (fun e => by have := (HO2.out.lt _ e).1; omega))
  have HW1 : Hid (w2.ownsRow w.heap.size 2 1 (.slice a L.length c) L.length (L.map (Value.int .i64))) := ow1
  have HW2 : Hid (w2.ownsRow w.heap.size 2 1 (.slice a' L'.length c') L'.length (L'.map (Value.int .i64))) := ow2
  have bq2 : Below B w w2 := ((bq1.mono hB).alloc (by omega) _).grown hg2 (by simp; omega) (fun k hk => by cases hk; exact hlo)
  have HF : Hid (Far w w2 bm) := fun b hb hne => ((hg2.block b (by simp; omega) (fun e => hne (by simpa using e))).trans (Below.heap_alloc _ _ _ (by omega))).trans (bq1.block b hb)
  clear hm2 hg2 ow1 ow2
  go_wp2
  refine bodyPost_ret (v := .agg #[.slice a L.length c, .slice a' L'.length c']) (by simp [results, Try.results14, go_sem, l0, l1]) rfl ?_
  have s1 := gb_set w2 ⟨w.heap.size, 0, none⟩ (.slice a L.length c)
  have s2 := gb_set (w2.setCell ⟨w.heap.size, 0, none⟩ (.slice a L.length c)) ⟨w.heap.size, 1, none⟩ (.slice a' L'.length c')
  refine ⟨a, c, L, a', c', L', x, y, rfl, HR1.out, HR2.out, f1, f2, World.ownsRow.kept (World.ownsRow.kept HW1.out s1 (.inr fun e => (NB1.out _ e).2 rfl)) s2 (.inr fun e => (NB1.out _ e).2 rfl), World.ownsRow.kept (World.ownsRow.kept HW2.out s1 (.inr fun e => (NB2.out _ e).2 rfl)) s2 (.inr fun e => (NB2.out _ e).2 rfl), ?_, ?_, ?_, by omega⟩
  · have hl := HM.out.lt
    have hz : w.heap.size ≠ bm ∧ w.heap.size ≠ x ∧ w.heap.size ≠ y ∧ lv.ownBlock ≠ some w.heap.size ∧ w.heap.size ∉ bs := ⟨by omega, by omega, by omega, fun e => by have := hl.2.2.2.1 _ e; omega, fun e => by have := hl.2.2.2.2 _ e; omega⟩
    exact (HM2.out.far s1 hz).far s2 hz
  · exact (bq2.setCell (by show B ≤ w.heap.size; exact hB) _).setCell (by show B ≤ w.heap.size; exact hB) _
  · intro b hb hne
    rw [Below.heap_setCell _ _ _ _ (by show b ≠ w.heap.size; omega), Below.heap_setCell _ _ _ _ (by show b ≠ w.heap.size; omega)]
    exact HF.out b hb hne

end Go.Proofs.Ytfkpbmopneleiaa

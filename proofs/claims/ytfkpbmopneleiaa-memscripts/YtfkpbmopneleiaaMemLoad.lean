/- Load and Store. -/
import Derived.Test.YtfkpbmopneleiaaMemLocs
import Derived.Test.YtfkpbmopneleiaaMemNew
namespace Go.Proofs.Ytfkpbmopneleiaa
open Go.RowKit Go.Maps
set_option linter.unusedVariables false

set_option maxRecDepth 100000 in
set_option maxHeartbeats 4000000 in
theorem find_odd {w : World} {bm : Nat} {x : Int} (hx : ¬ x.tmod 8 = 0) :
    Calls Try.prog 31 #[.pointer (some ⟨bm, 0, none⟩), .int .i64 x] w fun e w' => e = .returned (.tuple #[.int .i64 0, .int .i64 0, .bool false]) ∧ w' = w := by
  go_enter Try.func31, Try.ntmps31
  go_wp2
  go_ret3
  exact ⟨rfl, rfl⟩

/-- find, of a memory. -/
theorem find_mem {B : Nat} {w : World} {bm : Nat} {rs : List Reg} {R W : List Int} {br bw nr nw : Nat} {lv : Value} {bs : List Nat} (h : MemV B w bm rs R W br bw nr nw lv bs) (ho : AllOk rs) (x : Int) :
    Calls Try.prog 31 #[.pointer (some ⟨bm, 0, none⟩), .int .i64 x] w fun e w' => Below w.heap.size w w' ∧ ((∃ i j : Nat, Loc rs x i j ∧ e = .returned (.tuple #[.int .i64 i, .int .i64 j, .bool true])) ∨ (NoLoc rs x ∧ e = .returned (.tuple #[.int .i64 0, .int .i64 0, .bool false]))) := by
  by_cases hx : x.tmod 8 = 0
  · obtain ⟨a, cap, rfl, hv, -⟩ := h.form
    refine (find_any hx h.c2 hv ho).mono ?_
    rintro e w' ⟨hb, ⟨i, hi, h1, h2, rfl⟩ | ⟨h1, rfl⟩⟩
    · obtain ⟨j, hj⟩ := loc_j hx hi h1 h2
      refine ⟨hb, .inl ⟨i, j, hj, ?_⟩⟩
      rw [hj.2.2.2.2.1]
    · exact ⟨hb, .inr ⟨.inr h1, rfl⟩⟩
  · refine (find_odd hx).mono ?_
    rintro e w' ⟨rfl, rfl⟩
    exact ⟨Below.refl _ _, .inr ⟨.inl hx, rfl⟩⟩

theorem heap_froz {w : World} {b : Nat} {cs : Array Value} {t : TypeId} (h : w.heap[b]? = some (.cells cs t (0, 0))) (i : Nat) : w.frozen? ⟨b, i, none⟩ = false := by
  simp [World.frozen?, h]
theorem map_at {zs : List Int} {j : Nat} (h : j < zs.length) : (zs.map (Value.int .i64)).toArray[j]? = some (.int .i64 (zs.getD j 0)) := by
  simp [List.getD, h]
/-- What is loaded. -/
def wordAt (rs : List Reg) (i j : Nat) : Int := (rs.getD i noReg).words.getD j 0

theorem grown_below {B : Nat} {w w' : World} {x : Nat} (hg : w.grownBy w' (some x)) (hB : B ≤ w.heap.size) (hx : B ≤ x) : Below B w w' :=
  (Below.refl B w).grown hg hB (fun k hk => by cases hk; exact hx)

set_option maxRecDepth 100000 in
set_option maxHeartbeats 4000000 in
theorem load_any {B : Nat} {w : World} {bm : Nat} {rs : List Reg} {R W : List Int} {br bw nr nw : Nat} {lv : Value} {bs : List Nat} (h : MemV B w bm rs R W br bw nr nw lv bs) (ho : AllOk rs) (x : Int) (hx : (Lit.int .i64 x).wf = true) (hn : nr < maxLen) (hB : B ≤ w.heap.size) :
    Calls Try.prog 20 #[.pointer (some ⟨bm, 0, none⟩), .int .i64 x] w fun e w' => Below B w w' ∧ ((∃ i j : Nat, Loc rs x i j ∧ e = .returned (.tuple #[.int .i64 (wordAt rs i j), .int .i64 0]) ∧ MemV B w' bm rs (R ++ [x]) W br bw (nr + 1) nw lv bs) ∨ (NoLoc rs x ∧ e = .returned (.tuple #[.int .i64 0, .int .i64 11]) ∧ MemV B w' bm rs R W br bw nr nw lv bs)) := by
  have HM : Hid _ := h
  clear h
  go_enter Try.func20, Try.ntmps20
  go_wp2_with fail
  refine (find_mem HM.out ho x).mono ?_
  rintro e w1 ⟨hb1, ⟨i, j, hl, rfl⟩ | ⟨hl, rfl⟩⟩
  · have H1 : Hid _ := HM.out.below hb1
    have hl' := hl
    obtain ⟨-, hi, -, -, -, hj⟩ := hl'
    have HL : Hid (Loc rs x i j) := hl
    have zz := hb1.size
    clear hl
    go_wp2_with fail
    refine (read_any H1.out.touch x hx hn).mono ?_
    rintro e w2 ⟨rfl, ht2, hg2⟩
    have H2 : Hid _ := H1.out.kept hg2 (.inl rfl) ht2
    obtain ⟨a, cap, hlv, -, hcs⟩ := H2.out.form
    rcases hcs with h0 | ⟨g, rfl, hgz, -, hc⟩
    · omega
    obtain ⟨k0, k1, k2⟩ := hc i hi
    have hv := H2.out.view i hi
    have m2 := H2.out.c2
    rw [hlv] at m2
    rcases hv.cells with h0 | ⟨bq, off, hq, hcw⟩
    · omega
    have hw := hcw j hj
    simp only [Option.some.injEq, Addr.mk.injEq, and_true] at hq
    obtain ⟨rfl, rfl⟩ := hq
    rw [Nat.zero_add] at hw
    have HW : Hid (wordAt rs i j = (rs.getD i noReg).words.getD j 0) := rfl
    generalize (rs.getD i noReg).words.getD j 0 = wv at *
    generalize hbq : bs.getD i 0 = bq at *
    have HLN : Hid ((rs.getD i noReg).words.length ≤ (rs.getD i noReg).words.length) := Nat.le_refl _
    generalize hln : (rs.getD i noReg).words.length = ln at *
    have i0 : (0 : Int) ≤ (i : Int) := by omega
    have i1 : (i : Int) < (rs.length : Int) := by omega
    have j0 : (0 : Int) ≤ (j : Int) := by omega
    have j1 : (j : Int) < (ln : Int) := by omega
    have hbz := grown_below hg2 (B := B) (by omega) HM.out.lo.2.1
    have hb2 : Below B w w2 := (hb1.mono hB).trans hbz
    clear hcw hc hv ht2 hg2
    go_wp2
    go_ret2
    refine ⟨hb2, .inl ⟨i, j, HL.out, ?_, H2.out⟩⟩
    rw [HW.out]
    rfl
  · have H1 : Hid _ := HM.out.below hb1
    have HL : Hid (NoLoc rs x) := hl
    clear hl
    go_wp2
    go_ret2
    exact ⟨hb1.mono hB, .inr ⟨HL.out, rfl, H1.out⟩⟩

set_option maxRecDepth 100000 in
set_option maxHeartbeats 4000000 in
theorem store_any {B : Nat} {w : World} {bm : Nat} {rs : List Reg} {R W : List Int} {br bw nr nw : Nat} {lv : Value} {bs : List Nat} (h : MemV B w bm rs R W br bw nr nw lv bs) (ho : AllOk rs) (x n : Int) (hx : (Lit.int .i64 x).wf = true) (hw : (Lit.int .i64 n).wf = true) (hn : nw < maxLen) (hB : B ≤ w.heap.size) :
    Calls Try.prog 12 #[.pointer (some ⟨bm, 0, none⟩), .int .i64 x, .int .i64 n] w fun e w' => Below B w w' ∧ ((∃ i j : Nat, Loc rs x i j ∧ (rs.getD i noReg).write = true ∧ e = .returned (.int .i64 0) ∧ MemV B w' bm (putWord rs i j n) R (W ++ [x]) br bw nr (nw + 1) lv bs) ∨ ((NoLoc rs x ∨ ∃ i j, Loc rs x i j ∧ (rs.getD i noReg).write = false) ∧ e = .returned (.int .i64 11) ∧ MemV B w' bm rs R W br bw nr nw lv bs)) := by
  have HM : Hid _ := h
  clear h
  go_enter Try.func12, Try.ntmps12
  go_wp2_with fail
  refine (find_mem HM.out ho x).mono ?_
  rintro e w1 ⟨hb1, ⟨i, j, hl, rfl⟩ | ⟨hl, rfl⟩⟩
  · have H1 : Hid _ := HM.out.below hb1
    have hl' := hl
    obtain ⟨-, hi, -, -, -, hj⟩ := hl'
    have HL : Hid (Loc rs x i j) := hl
    have zz := hb1.size
    clear hl
    have i0 : (0 : Int) ≤ (i : Int) := by omega
    have i1 : (i : Int) < (rs.length : Int) := by omega
    obtain ⟨a, cap, hlv, -, hcs⟩ := H1.out.form
    rcases hcs with h0 | ⟨g, rfl, hgz, hgo, hc⟩
    · omega
    obtain ⟨k0, k1, k2⟩ := hc i hi
    have m1 := H1.out.c2
    rw [hlv] at m1
    cases hwr : (rs.getD i noReg).write with
    | false =>
      rw [hwr] at k2
      have HWR : Hid _ := hwr
      clear hwr hc
      go_wp2
      go_ret
      exact ⟨hb1.mono hB, .inr ⟨.inr ⟨i, j, HL.out, HWR.out⟩, rfl, H1.out⟩⟩
    | true =>
      rw [hwr] at k2
      have HWR : Hid _ := hwr
      clear hwr hc
      go_wp2_with fail
      refine (wrote_any H1.out.touch x hx hn).mono ?_
      rintro e w2 ⟨rfl, ht2, hg2⟩
      have H2 : Hid _ := H1.out.kept hg2 (.inr rfl) ht2
      have ngb : some g ≠ some bw := by rw [← hgo]; exact H1.out.rowApart.2.2
      have nmb : some bm ≠ some bw := by simpa using H1.out.touch.nt.2
      have k12 : w2.cell? ⟨g, i * 3 + 1, none⟩ = _ := hg2.cell k1 ngb
      have m2 : w2.cell? ⟨bm, 2, none⟩ = _ := hg2.cell m1 nmb
      have hwb := (H2.out.words i hi).1
      have hwc := heap_cell hwb j
      have hwf : w2.frozen? ⟨bs.getD i 0, j, none⟩ = false := heap_froz hwb j
      have hput : Hid _ := H2.out.put i j hi hj n hw
      have hwc' : w2.cell? ⟨bs.getD i 0, j, none⟩ = some (.int .i64 ((rs.getD i noReg).words.getD j 0)) := hwc.trans (map_at hj)
      have hblo := (H2.out.words i hi).2
      clear hwc hwb k0 k1 k2 m1
      generalize (rs.getD i noReg).words.getD j 0 = wv at *
      generalize hbq : bs.getD i 0 = bq at *
      generalize hln : (rs.getD i noReg).words.length = ln at *
      have j0 : (0 : Int) ≤ (j : Int) := by omega
      have j1 : (j : Int) < (ln : Int) := by omega
      have hbz := grown_below hg2 (B := B) (by omega) HM.out.lo.2.2
      have hb2 : Below B w w2 := (hb1.mono hB).trans hbz
      clear ht2 hg2
      go_wp2
      go_ret
      exact ⟨hb2.setCell hblo _, .inl ⟨i, j, HL.out, HWR.out, rfl, hput.out⟩⟩
  · have H1 : Hid _ := HM.out.below hb1
    have HL : Hid (NoLoc rs x) := hl
    clear hl
    go_wp2
    go_ret
    exact ⟨hb1.mono hB, .inr ⟨.inl HL.out, rfl, H1.out⟩⟩

end Go.Proofs.Ytfkpbmopneleiaa

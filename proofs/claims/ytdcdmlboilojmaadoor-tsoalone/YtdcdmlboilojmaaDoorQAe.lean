/- Load and Store. -/
import Derived.Test.YtdcdmlboilojmaaDoorQAd
import Derived.Test.YtdcdmlboilojmaaDoorQAb
import Derived.Deep.AppendLies
import Derived.Laws.OwnMore
import Derived.Deep.RegionLaw
import Derived.Deep.RegionHeld3
import Derived.Deep.DeepAppendRoom
import Derived.Deep.LoopGhost
import Derived.OwnWalk
import Derived.WalkSpells
import Derived.WalkLawsBesides
namespace Go.Proofs.YtdcdmlboilojmaaDoor
open Go.RowKit Go.Maps
set_option linter.unusedVariables false

set_option maxRecDepth 100000 in
set_option maxHeartbeats 4000000 in
theorem find_odd {w : World} {bm : Nat} {x : Int} (hx : ¬ x.tmod 8 = 0) :
    Calls Tryd.prog 52 #[.pointer (some ⟨bm, 0, none⟩), .int .i64 x] w fun e w' => e = .returned (.tuple #[.int .i64 0, .int .i64 0, .bool false]) ∧ w' = w := by
  go_enter Tryd.func52, Tryd.ntmps52
  go_wp2
  go_ret3
  exact ⟨rfl, rfl⟩

/-- find, of a memory. -/
theorem find_mem {B : Nat} {w : World} {bm : Nat} {rs : List Reg} {R W : List Int} {br bw nr nw : Nat} {lv : Value} {bs : List Nat} (h : MemV B w bm rs R W br bw nr nw lv bs) (ho : AllOk rs) (x : Int) :
    Calls Tryd.prog 52 #[.pointer (some ⟨bm, 0, none⟩), .int .i64 x] w fun e w' => Below w.heap.size w w' ∧ ((∃ i j : Nat, Loc rs x i j ∧ e = .returned (.tuple #[.int .i64 i, .int .i64 j, .bool true])) ∨ (NoLoc rs x ∧ e = .returned (.tuple #[.int .i64 0, .int .i64 0, .bool false]))) := by
  by_cases hx : x.tmod 8 = 0
  · obtain ⟨a, cap, rfl, hv, -⟩ := h.form
    refine (find_any hx h.c2 hv ho).mono ?_
    rintro e w' ⟨hb, ⟨i, hi, h1, h2, rfl⟩ | ⟨h1, rfl⟩⟩
    · obtain ⟨j, hj⟩ := loc_j hx hi h1 h2
      refine ⟨hb, .inl ⟨i, j, hj, ?_⟩⟩
      rw [hj.2.2.2.2.1]
    · exact ⟨hb, .inr ⟨.inr h1, rfl⟩⟩
  · refine (find_odd hx).mono ?_
    rintro e w' ⟨rfl, rfl⟩
    exact ⟨Below.refl _ _, .inr ⟨.inl hx, rfl⟩⟩

theorem heap_froz {w : World} {b : Nat} {cs : Array Value} {t : TypeId} (h : w.heap[b]? = some (.cells cs t (0, 0))) (i : Nat) : w.frozen? ⟨b, i, none⟩ = false := by
  simp [World.frozen?, h]
theorem map_at {zs : List Int} {j : Nat} (h : j < zs.length) : (zs.map (Value.int .i64)).toArray[j]? = some (.int .i64 (zs.getD j 0)) := by
  simp [List.getD, h]
/-- What is loaded. -/
def wordAt (rs : List Reg) (i j : Nat) : Int := (rs.getD i noReg).words.getD j 0

theorem grown_below {B : Nat} {w w' : World} {x : Nat} (hg : w.grownBy w' (some x)) (hB : B ≤ w.heap.size) (hx : B ≤ x) : Below B w w' :=
  (Below.refl B w).grown hg hB (fun k hk => by cases hk; exact hx)

set_option maxRecDepth 100000 in
set_option maxHeartbeats 4000000 in
theorem load_any {B : Nat} {w : World} {bm : Nat} {rs : List Reg} {R W : List Int} {br bw nr nw : Nat} {lv : Value} {bs : List Nat} (h : MemV B w bm rs R W br bw nr nw lv bs) (ho : AllOk rs) (x : Int) (hx : (Lit.int .i64 x).wf = true) (hn : nr < maxLen) (hB : B ≤ w.heap.size) :
    Calls Tryd.prog 37 #[.pointer (some ⟨bm, 0, none⟩), .int .i64 x] w fun e w' => Below B w w' ∧ ((∃ i j : Nat, Loc rs x i j ∧ e = .returned (.tuple #[.int .i64 (wordAt rs i j), .int .i64 0]) ∧ MemV B w' bm rs (R ++ [x]) W br bw (nr + 1) nw lv bs) ∨ (NoLoc rs x ∧ e = .returned (.tuple #[.int .i64 0, .int .i64 11]) ∧ MemV B w' bm rs R W br bw nr nw lv bs)) := by
  have HM : Hid _ := h
  clear h
  go_enter Tryd.func37, Tryd.ntmps37
  go_wp2_with fail
  refine (find_mem HM.out ho x).mono ?_
  rintro e w1 ⟨hb1, ⟨i, j, hl, rfl⟩ | ⟨hl, rfl⟩⟩
  · have H1 : Hid _ := HM.out.below hb1
    have hl' := hl
    obtain ⟨-, hi, -, -, -, hj⟩ := hl'
    have HL : Hid (Loc rs x i j) := hl
    have zz := hb1.size
    clear hl
    go_wp2_with fail
    refine (read_any H1.out.touch x hx hn).mono ?_
    rintro e w2 ⟨rfl, ht2, hg2⟩
    have H2 : Hid _ := H1.out.kept hg2 (.inl rfl) ht2
    obtain ⟨a, cap, hlv, -, hcs⟩ := H2.out.form
    rcases hcs with h0 | ⟨g, rfl, hgz, -, hc⟩
    · omega
    obtain ⟨k0, k1, k2⟩ := hc i hi
    have hv := H2.out.view i hi
    have m2 := H2.out.c2
    rw [hlv] at m2
    rcases hv.cells with h0 | ⟨bq, off, hq, hcw⟩
    · omega
    have hw := hcw j hj
    simp only [Option.some.injEq, Addr.mk.injEq, and_true] at hq
    obtain ⟨rfl, rfl⟩ := hq
    rw [Nat.zero_add] at hw
    have HW : Hid (wordAt rs i j = (rs.getD i noReg).words.getD j 0) := rfl
    generalize (rs.getD i noReg).words.getD j 0 = wv at *
    generalize hbq : bs.getD i 0 = bq at *
    have HLN : Hid ((rs.getD i noReg).words.length ≤ (rs.getD i noReg).words.length) := Nat.le_refl _
    generalize hln : (rs.getD i noReg).words.length = ln at *
    have i0 : (0 : Int) ≤ (i : Int) := by omega
    have i1 : (i : Int) < (rs.length : Int) := by omega
    have j0 : (0 : Int) ≤ (j : Int) := by omega
    have j1 : (j : Int) < (ln : Int) := by omega
    have hbz := grown_below hg2 (B := B) (by omega) HM.out.lo.2.1
    have hb2 : Below B w w2 := (hb1.mono hB).trans hbz
    clear hcw hc hv ht2 hg2
    go_wp2
    go_ret2
    refine ⟨hb2, .inl ⟨i, j, HL.out, ?_, H2.out⟩⟩
    rw [HW.out]
    rfl
  · have H1 : Hid _ := HM.out.below hb1
    have HL : Hid (NoLoc rs x) := hl
    clear hl
    go_wp2
    go_ret2
    exact ⟨hb1.mono hB, .inr ⟨HL.out, rfl, H1.out⟩⟩

set_option maxRecDepth 100000 in
set_option maxHeartbeats 4000000 in
theorem store_any {B : Nat} {w : World} {bm : Nat} {rs : List Reg} {R W : List Int} {br bw nr nw : Nat} {lv : Value} {bs : List Nat} (h : MemV B w bm rs R W br bw nr nw lv bs) (ho : AllOk rs) (x n : Int) (hx : (Lit.int .i64 x).wf = true) (hw : (Lit.int .i64 n).wf = true) (hn : nw < maxLen) (hB : B ≤ w.heap.size) :
    Calls Tryd.prog 47 #[.pointer (some ⟨bm, 0, none⟩), .int .i64 x, .int .i64 n] w fun e w' => Below B w w' ∧ ((∃ i j : Nat, Loc rs x i j ∧ (rs.getD i noReg).write = true ∧ e = .returned (.int .i64 0) ∧ MemV B w' bm (putWord rs i j n) R (W ++ [x]) br bw nr (nw + 1) lv bs) ∨ ((NoLoc rs x ∨ ∃ i j, Loc rs x i j ∧ (rs.getD i noReg).write = false) ∧ e = .returned (.int .i64 11) ∧ MemV B w' bm rs R W br bw nr nw lv bs)) := by
  have HM : Hid _ := h
  clear h
  go_enter Tryd.func47, Tryd.ntmps47
  go_wp2_with fail
  refine (find_mem HM.out ho x).mono ?_
  rintro e w1 ⟨hb1, ⟨i, j, hl, rfl⟩ | ⟨hl, rfl⟩⟩
  · have H1 : Hid _ := HM.out.below hb1
    have hl' := hl
    obtain ⟨-, hi, -, -, -, hj⟩ := hl'
    have HL : Hid (Loc rs x i j) := hl
    have zz := hb1.size
    clear hl
    have i0 : (0 : Int) ≤ (i : Int) := by omega
    have i1 : (i : Int) < (rs.length : Int) := by omega
    obtain ⟨a, cap, hlv, -, hcs⟩ := H1.out.form
    rcases hcs with h0 | ⟨g, rfl, hgz, hgo, hc⟩
    · omega
    obtain ⟨k0, k1, k2⟩ := hc i hi
    have m1 := H1.out.c2
    rw [hlv] at m1
    cases hwr : (rs.getD i noReg).write with
    | false =>
      rw [hwr] at k2
      have HWR : Hid _ := hwr
      clear hwr hc
      go_wp2
      go_ret
      exact ⟨hb1.mono hB, .inr ⟨.inr ⟨i, j, HL.out, HWR.out⟩, rfl, H1.out⟩⟩
    | true =>
      rw [hwr] at k2
      have HWR : Hid _ := hwr
      clear hwr hc
      go_wp2_with fail
      refine (wrote_any H1.out.touch x hx hn).mono ?_
      rintro e w2 ⟨rfl, ht2, hg2⟩
      have H2 : Hid _ := H1.out.kept hg2 (.inr rfl) ht2
      have ngb : some g ≠ some bw := by rw [← hgo]; exact H1.out.rowApart.2.2
      have nmb : some bm ≠ some bw := by simpa using H1.out.touch.nt.2
      have k12 : w2.cell? ⟨g, i * 3 + 1, none⟩ = _ := hg2.cell k1 ngb
      have m2 : w2.cell? ⟨bm, 2, none⟩ = _ := hg2.cell m1 nmb
      have hwb := (H2.out.words i hi).1
      have hwc := heap_cell hwb j
      have hwf : w2.frozen? ⟨bs.getD i 0, j, none⟩ = false := heap_froz hwb j
      have hput : Hid _ := H2.out.put i j hi hj n hw
      have hwc' : w2.cell? ⟨bs.getD i 0, j, none⟩ = some (.int .i64 ((rs.getD i noReg).words.getD j 0)) := hwc.trans (map_at hj)
      have hblo := (H2.out.words i hi).2
      clear hwc hwb k0 k1 k2 m1
      generalize (rs.getD i noReg).words.getD j 0 = wv at *
      generalize hbq : bs.getD i 0 = bq at *
      generalize hln : (rs.getD i noReg).words.length = ln at *
      have j0 : (0 : Int) ≤ (j : Int) := by omega
      have j1 : (j : Int) < (ln : Int) := by omega
      have hbz := grown_below hg2 (B := B) (by omega) HM.out.lo.2.2
      have hb2 : Below B w w2 := (hb1.mono hB).trans hbz
      clear ht2 hg2
      go_wp2
      go_ret
      exact ⟨hb2.setCell hblo _, .inl ⟨i, j, HL.out, HWR.out, rfl, hput.out⟩⟩
  · have H1 : Hid _ := HM.out.below hb1
    have HL : Hid (NoLoc rs x) := hl
    clear hl
    go_wp2
    go_ret
    exact ⟨hb1.mono hB, .inr ⟨.inl HL.out, rfl, H1.out⟩⟩

end Go.Proofs.YtdcdmlboilojmaaDoor

/- Load and Foot, with what they leave as it was. (Written by gen_far.py.) -/
namespace Go.Proofs.YtdcdmlboilojmaaDoor
open Go.RowKit Go.Maps
set_option linter.unusedVariables false

/-- Every block but one is as it was. -/
def Far (w w' : World) (k : Nat) : Prop := ∀ b, b < w.heap.size → b ≠ k → w'.heap[b]? = w.heap[b]?

set_option maxRecDepth 100000 in
set_option maxHeartbeats 4000000 in
theorem load_far {B : Nat} {w : World} {bm : Nat} {rs : List Reg} {R W : List Int} {br bw nr nw : Nat} {lv : Value} {bs : List Nat} (h : MemV B w bm rs R W br bw nr nw lv bs) (ho : AllOk rs) (x : Int) (hx : (Lit.int .i64 x).wf = true) (hn : nr < maxLen) (hB : B ≤ w.heap.size) :
    Calls Tryd.prog 37 #[.pointer (some ⟨bm, 0, none⟩), .int .i64 x] w fun e w' => Below B w w' ∧ Far w w' br ∧ ((∃ i j : Nat, Loc rs x i j ∧ e = .returned (.tuple #[.int .i64 (wordAt rs i j), .int .i64 0]) ∧ MemV B w' bm rs (R ++ [x]) W br bw (nr + 1) nw lv bs) ∨ (NoLoc rs x ∧ e = .returned (.tuple #[.int .i64 0, .int .i64 11]) ∧ MemV B w' bm rs R W br bw nr nw lv bs)) := by
  have HM : Hid _ := h
  clear h
  go_enter Tryd.func37, Tryd.ntmps37
  go_wp2_with fail
  refine (find_mem HM.out ho x).mono ?_
  rintro e w1 ⟨hb1, ⟨i, j, hl, rfl⟩ | ⟨hl, rfl⟩⟩
  · have H1 : Hid _ := HM.out.below hb1
    have hl' := hl
    obtain ⟨-, hi, -, -, -, hj⟩ := hl'
    have HL : Hid (Loc rs x i j) := hl
    have zz := hb1.size
    clear hl
    go_wp2_with fail
    refine (read_any H1.out.touch x hx hn).mono ?_
    rintro e w2 ⟨rfl, ht2, hg2⟩
    have H2 : Hid _ := H1.out.kept hg2 (.inl rfl) ht2
    obtain ⟨a, cap, hlv, -, hcs⟩ := H2.out.form
    rcases hcs with h0 | ⟨g, rfl, hgz, -, hc⟩
    · omega
    obtain ⟨k0, k1, k2⟩ := hc i hi
    have hv := H2.out.view i hi
    have m2 := H2.out.c2
    rw [hlv] at m2
    rcases hv.cells with h0 | ⟨bq, off, hq, hcw⟩
    · omega
    have hw := hcw j hj
    simp only [Option.some.injEq, Addr.mk.injEq, and_true] at hq
    obtain ⟨rfl, rfl⟩ := hq
    rw [Nat.zero_add] at hw
    have HW : Hid (wordAt rs i j = (rs.getD i noReg).words.getD j 0) := rfl
    generalize (rs.getD i noReg).words.getD j 0 = wv at *
    generalize hbq : bs.getD i 0 = bq at *
    have HLN : Hid ((rs.getD i noReg).words.length ≤ (rs.getD i noReg).words.length) := Nat.le_refl _
    generalize hln : (rs.getD i noReg).words.length = ln at *
    have i0 : (0 : Int) ≤ (i : Int) := by omega
    have i1 : (i : Int) < (rs.length : Int) := by omega
    have j0 : (0 : Int) ≤ (j : Int) := by omega
    have j1 : (j : Int) < (ln : Int) := by omega
    have hbz := grown_below hg2 (B := B) (by omega) HM.out.lo.2.1
    have hb2 : Below B w w2 := (hb1.mono hB).trans hbz
    have HF : Hid (Far w w2 br) := fun b hb hne => (hg2.block b (Nat.lt_of_lt_of_le hb zz) (fun e => hne (by simpa using e))).trans (hb1.block b hb)
    clear hcw hc hv ht2 hg2
    go_wp2
    go_ret2
    refine ⟨hb2, HF.out, .inl ⟨i, j, HL.out, ?_, H2.out⟩⟩
    rw [HW.out]
    rfl
  · have H1 : Hid _ := HM.out.below hb1
    have HL : Hid (NoLoc rs x) := hl
    clear hl
    go_wp2
    go_ret2
    exact ⟨hb1.mono hB, fun b hb _ => hb1.block b hb, .inr ⟨HL.out, rfl, H1.out⟩⟩

end Go.Proofs.YtdcdmlboilojmaaDoor

/- What is loaded and stored, one behind the other: no walk. -/
namespace Go.Proofs.YtdcdmlboilojmaaDoor
open Go.RowKit Go.Maps
set_option linter.unusedVariables false

/-- What Load answers. -/
def Ans (rs : List Reg) (x v e : Int) : Prop := (∃ i j, Loc rs x i j ∧ v = wordAt rs i j ∧ e = 0) ∨ (NoLoc rs x ∧ v = 0 ∧ e = 11)
/-- What Store answers, and what the regions are then. -/
def StAns (rs : List Reg) (x n g : Int) (rs' : List Reg) : Prop := (∃ i j, Loc rs x i j ∧ g = 0 ∧ rs' = putWord rs i j n) ∨ (g = 11 ∧ rs' = rs)

theorem loc_excl {rs : List Reg} {x : Int} {i j : Nat} (h : Loc rs x i j) (k : NoLoc rs x) : False := by
  rcases k with k | k
  · exact k h.1
  · have := k i h.2.1
    rw [h.2.2.1] at this
    cases this
theorem loc_uniq {rs : List Reg} {x : Int} {i j i' j' : Nat} (h : Loc rs x i j) (k : Loc rs x i' j') : i = i' ∧ j = j' := by
  have e : i = i' := by
    rcases Nat.lt_trichotomy i i' with c | c | c
    · have := k.2.2.2.1 i c
      rw [h.2.2.1] at this
      cases this
    · exact c
    · have := h.2.2.2.1 i' c
      rw [k.2.2.1] at this
      cases this
  subst e
  refine ⟨rfl, ?_⟩
  have h1 := h.2.2.2.2.1
  have h2 := k.2.2.2.2.1
  omega
theorem put_base (rs : List Reg) (i j k : Nat) (n : Int) : ((putWord rs i j n).getD k noReg).base = (rs.getD k noReg).base ∧ ((putWord rs i j n).getD k noReg).words.length = (rs.getD k noReg).words.length ∧ ((putWord rs i j n).getD k noReg).write = (rs.getD k noReg).write := by
  by_cases hi : i < rs.length
  · by_cases c : i = k
    · subst c
      rw [putWord_same rs i j n hi]
      simp
    · rw [putWord_other rs i j k n c]
      exact ⟨rfl, rfl, rfl⟩
  · unfold putWord
    rw [List.set_eq_of_length_le (by omega)]
    exact ⟨rfl, rfl, rfl⟩
theorem put_in (rs : List Reg) (i j k : Nat) (n x : Int) : inReg ((putWord rs i j n).getD k noReg) x = inReg (rs.getD k noReg) x := by
  obtain ⟨h1, h2, -⟩ := put_base rs i j k n
  unfold inReg
  rw [h1, h2]
theorem put_none (rs : List Reg) (i j : Nat) (n x : Int) (m : Nat) : noneTo (putWord rs i j n) x m ↔ noneTo rs x m := by
  unfold noneTo
  constructor
  · intro h k hk; rw [← put_in rs i j k n x]; exact h k hk
  · intro h k hk; rw [put_in rs i j k n x]; exact h k hk
theorem put_loc (rs : List Reg) (i j : Nat) (n x : Int) (a b : Nat) : Loc (putWord rs i j n) x a b ↔ Loc rs x a b := by
  obtain ⟨h1, h2, -⟩ := put_base rs i j a n
  unfold Loc
  rw [putWord_len, put_in, put_none, h1, h2]
theorem put_noloc (rs : List Reg) (i j : Nat) (n x : Int) : NoLoc (putWord rs i j n) x ↔ NoLoc rs x := by
  unfold NoLoc
  rw [putWord_len, put_none]
theorem put_ok {rs : List Reg} (h : AllOk rs) (i j : Nat) (n : Int) : AllOk (putWord rs i j n) := by
  intro k hk
  rw [putWord_len] at hk
  obtain ⟨h1, h2, -⟩ := put_base rs i j k n
  have := h k hk
  unfold regOk at *
  rw [h1, h2]
  exact this
theorem word_same {rs : List Reg} {i j : Nat} (hi : i < rs.length) (hj : j < (rs.getD i noReg).words.length) (n : Int) : wordAt (putWord rs i j n) i j = n := by
  unfold wordAt
  rw [putWord_same rs i j n hi]
  generalize (rs.getD i noReg).words = ws at *
  simp [List.getD, hj]
theorem word_other {rs : List Reg} {i j a b : Nat} (hne : ¬ (i = a ∧ j = b)) (n : Int) : wordAt (putWord rs i j n) a b = wordAt rs a b := by
  unfold wordAt
  by_cases hi : i < rs.length
  · by_cases c : i = a
    · subst c
      rw [putWord_same rs i j n hi]
      have : j ≠ b := fun e => hne ⟨rfl, e⟩
      simp [List.getD, List.getElem?_set_ne this]
    · rw [putWord_other rs i j a n c]
  · unfold putWord
    rw [List.set_eq_of_length_le (by omega)]
/-- Two addresses of one word are one. -/
theorem loc_addr {rs : List Reg} (ok : AllOk rs) {x y : Int} {i j : Nat} (h : Loc rs x i j) (k : Loc rs y i j) : x = y := by
  have hr := ok i h.2.1
  have hb := regOk_bd _ hr
  have ht : (rs.getD i noReg).base.tmod 8 = 0 := by
    unfold regOk at hr
    simp only [Bool.and_eq_true, decide_eq_true_eq] at hr
    exact hr.1.1.1
  have hx := h.1
  have hy := k.1
  have h1 := h.2.2.2.2.1
  have h2 := k.2.2.2.2.1
  have i1 := h.2.2.1
  have i2 := k.2.2.1
  unfold inReg at i1 i2
  simp only [Bool.and_eq_true, decide_eq_true_eq] at i1 i2
  rw [Int.tmod_eq_emod_of_nonneg (by omega)] at hx hy ht
  omega

theorem stays {rs rs' : List Reg} {x y n a f g b h d k : Int} (ok : AllOk rs) (h1 : Ans rs y a f) (h2 : StAns rs x n g rs') (h3 : Ans rs' y b h) (h4 : Ans rs' x d k) : f = h ∧ (g = 0 → k = 0 ∧ d = n) ∧ (¬ x = y → a = b) := by
  rcases h2 with ⟨i, j, hl, rfl, rfl⟩ | ⟨rfl, rfl⟩
  · refine ⟨?_, fun _ => ?_, fun hne => ?_⟩
    · rcases h1 with ⟨i1, j1, l1, -, rfl⟩ | ⟨n1, -, rfl⟩ <;> rcases h3 with ⟨i3, j3, l3, -, rfl⟩ | ⟨n3, -, rfl⟩
      · rfl
      · exact (loc_excl l1 ((put_noloc _ _ _ _ _).1 n3)).elim
      · exact (loc_excl ((put_loc _ _ _ _ _ _ _).1 l3) n1).elim
      · rfl
    · rcases h4 with ⟨i4, j4, l4, rfl, rfl⟩ | ⟨n4, -, -⟩
      · obtain ⟨rfl, rfl⟩ := loc_uniq hl ((put_loc _ _ _ _ _ _ _).1 l4)
        exact ⟨rfl, word_same hl.2.1 hl.2.2.2.2.2 n⟩
      · exact (loc_excl hl ((put_noloc _ _ _ _ _).1 n4)).elim
    · rcases h1 with ⟨i1, j1, l1, rfl, -⟩ | ⟨n1, rfl, -⟩ <;> rcases h3 with ⟨i3, j3, l3, rfl, -⟩ | ⟨n3, rfl, -⟩
      · obtain ⟨rfl, rfl⟩ := loc_uniq l1 ((put_loc _ _ _ _ _ _ _).1 l3)
        rw [word_other]
        rintro ⟨rfl, rfl⟩
        exact hne (loc_addr ok hl l1)
      · exact (loc_excl l1 ((put_noloc _ _ _ _ _).1 n3)).elim
      · exact (loc_excl ((put_loc _ _ _ _ _ _ _).1 l3) n1).elim
      · rfl
  · refine ⟨?_, fun e => absurd e (by decide), fun _ => ?_⟩
    · rcases h1 with ⟨i1, j1, l1, -, rfl⟩ | ⟨n1, -, rfl⟩ <;> rcases h3 with ⟨i3, j3, l3, -, rfl⟩ | ⟨n3, -, rfl⟩
      · rfl
      · exact (loc_excl l1 n3).elim
      · exact (loc_excl l3 n1).elim
      · rfl
    · rcases h1 with ⟨i1, j1, l1, rfl, -⟩ | ⟨n1, rfl, -⟩ <;> rcases h3 with ⟨i3, j3, l3, rfl, -⟩ | ⟨n3, rfl, -⟩
      · obtain ⟨rfl, rfl⟩ := loc_uniq l1 l3
        rfl
      · exact (loc_excl l1 n3).elim
      · exact (loc_excl l3 n1).elim
      · rfl

/-- Load and Store, with their answers in one form. -/
theorem load_ans {B : Nat} {w : World} {bm : Nat} {rs : List Reg} {R W : List Int} {br bw nr nw : Nat} {lv : Value} {bs : List Nat} (h : MemV B w bm rs R W br bw nr nw lv bs) (ho : AllOk rs) (x : Int) (hx : (Lit.int .i64 x).wf = true) (hn : nr < maxLen) (hB : B ≤ w.heap.size) :
    Calls Tryd.prog 37 #[.pointer (some ⟨bm, 0, none⟩), .int .i64 x] w fun e w' => Below B w w' ∧ ∃ v er R' nr', e = .returned (.tuple #[.int .i64 v, .int .i64 er]) ∧ Ans rs x v er ∧ nr' ≤ nr + 1 ∧ MemV B w' bm rs R' W br bw nr' nw lv bs := by
  refine (load_any h ho x hx hn hB).mono ?_
  rintro e w' ⟨hb, ⟨i, j, hl, rfl, hm⟩ | ⟨hl, rfl, hm⟩⟩
  · exact ⟨hb, _, _, _, _, rfl, .inl ⟨i, j, hl, rfl, rfl⟩, Nat.le_refl _, hm⟩
  · exact ⟨hb, _, _, _, _, rfl, .inr ⟨hl, rfl, rfl⟩, Nat.le_succ _, hm⟩
theorem store_ans {B : Nat} {w : World} {bm : Nat} {rs : List Reg} {R W : List Int} {br bw nr nw : Nat} {lv : Value} {bs : List Nat} (h : MemV B w bm rs R W br bw nr nw lv bs) (ho : AllOk rs) (x n : Int) (hx : (Lit.int .i64 x).wf = true) (hw : (Lit.int .i64 n).wf = true) (hn : nw < maxLen) (hB : B ≤ w.heap.size) :
    Calls Tryd.prog 47 #[.pointer (some ⟨bm, 0, none⟩), .int .i64 x, .int .i64 n] w fun e w' => Below B w w' ∧ ∃ g rs' W' nw', e = .returned (.int .i64 g) ∧ StAns rs x n g rs' ∧ AllOk rs' ∧ nw' ≤ nw + 1 ∧ MemV B w' bm rs' R W' br bw nr nw' lv bs := by
  refine (store_any h ho x n hx hw hn hB).mono ?_
  rintro e w' ⟨hb, ⟨i, j, hl, -, rfl, hm⟩ | ⟨-, rfl, hm⟩⟩
  · exact ⟨hb, _, _, _, _, rfl, .inl ⟨i, j, hl, rfl, rfl⟩, put_ok ho i j n, Nat.le_refl _, hm⟩
  · exact ⟨hb, _, _, _, _, rfl, .inr ⟨rfl, rfl⟩, ho, Nat.le_succ _, hm⟩

end Go.Proofs.YtdcdmlboilojmaaDoor

/- The memory's Store, with what it leaves as it was; a memory whose blocks are as they were. -/
namespace Go.Proofs.YtdcdmlboilojmaaDoor
open Go.RowKit Go.Maps
set_option linter.unusedVariables false

set_option maxRecDepth 100000 in
set_option maxHeartbeats 4000000 in
theorem store_far {B : Nat} {w : World} {bm : Nat} {rs : List Reg} {R W : List Int} {br bw nr nw : Nat} {lv : Value} {bs : List Nat} (h : MemV B w bm rs R W br bw nr nw lv bs) (ho : AllOk rs) (x n : Int) (hx : (Lit.int .i64 x).wf = true) (hw : (Lit.int .i64 n).wf = true) (hn : nw < maxLen) (hB : B ≤ w.heap.size) :
    Calls Tryd.prog 47 #[.pointer (some ⟨bm, 0, none⟩), .int .i64 x, .int .i64 n] w fun e w' => Below B w w' ∧ (∀ k, k < w.heap.size → k ≠ bw → k ∉ bs → w'.heap[k]? = w.heap[k]?) ∧ ((∃ i j : Nat, Loc rs x i j ∧ (rs.getD i noReg).write = true ∧ e = .returned (.int .i64 0) ∧ MemV B w' bm (putWord rs i j n) R (W ++ [x]) br bw nr (nw + 1) lv bs) ∨ ((NoLoc rs x ∨ ∃ i j, Loc rs x i j ∧ (rs.getD i noReg).write = false) ∧ e = .returned (.int .i64 11) ∧ MemV B w' bm rs R W br bw nr nw lv bs)) := by
  have HM : Hid _ := h
  clear h
  go_enter Tryd.func47, Tryd.ntmps47
  go_wp2_with fail
  refine (find_mem HM.out ho x).mono ?_
  rintro e w1 ⟨hb1, ⟨i, j, hl, rfl⟩ | ⟨hl, rfl⟩⟩
  · have H1 : Hid _ := HM.out.below hb1
    have hl' := hl
    obtain ⟨-, hi, -, -, -, hj⟩ := hl'
    have HL : Hid (Loc rs x i j) := hl
    have zz := hb1.size
    clear hl
    have i0 : (0 : Int) ≤ (i : Int) := by omega
    have i1 : (i : Int) < (rs.length : Int) := by omega
    obtain ⟨a, cap, hlv, -, hcs⟩ := H1.out.form
    rcases hcs with h0 | ⟨g, rfl, hgz, hgo, hc⟩
    · omega
    obtain ⟨k0, k1, k2⟩ := hc i hi
    have m1 := H1.out.c2
    rw [hlv] at m1
    cases hwr : (rs.getD i noReg).write with
    | false =>
      rw [hwr] at k2
      have HWR : Hid _ := hwr
      clear hwr hc
      go_wp2
      go_ret
      exact ⟨hb1.mono hB, fun k hk _ _ => hb1.block k hk, .inr ⟨.inr ⟨i, j, HL.out, HWR.out⟩, rfl, H1.out⟩⟩
    | true =>
      rw [hwr] at k2
      have HWR : Hid _ := hwr
      clear hwr hc
      go_wp2_with fail
      refine (wrote_any H1.out.touch x hx hn).mono ?_
      rintro e w2 ⟨rfl, ht2, hg2⟩
      have H2 : Hid _ := H1.out.kept hg2 (.inr rfl) ht2
      have ngb : some g ≠ some bw := by rw [← hgo]; exact H1.out.rowApart.2.2
      have nmb : some bm ≠ some bw := by simpa using H1.out.touch.nt.2
      have k12 : w2.cell? ⟨g, i * 3 + 1, none⟩ = _ := hg2.cell k1 ngb
      have m2 : w2.cell? ⟨bm, 2, none⟩ = _ := hg2.cell m1 nmb
      have hwb := (H2.out.words i hi).1
      have hwc := heap_cell hwb j
      have hwf : w2.frozen? ⟨bs.getD i 0, j, none⟩ = false := heap_froz hwb j
      have hput : Hid _ := H2.out.put i j hi hj n hw
      have hwc' : w2.cell? ⟨bs.getD i 0, j, none⟩ = some (.int .i64 ((rs.getD i noReg).words.getD j 0)) := hwc.trans (map_at hj)
      have hblo := (H2.out.words i hi).2
      clear hwc hwb k0 k1 k2 m1
      generalize (rs.getD i noReg).words.getD j 0 = wv at *
      generalize hbq : bs.getD i 0 = bq at *
      generalize hln : (rs.getD i noReg).words.length = ln at *
      have j0 : (0 : Int) ≤ (j : Int) := by omega
      have j1 : (j : Int) < (ln : Int) := by omega
      have hbz := grown_below hg2 (B := B) (by omega) HM.out.lo.2.2
      have hb2 : Below B w w2 := (hb1.mono hB).trans hbz
      have hbm : bs.getD i 0 ∈ bs := by rw [getD_at (by have := H1.out.len; omega)]; exact List.getElem_mem _
      have HF : Hid (∀ k, k < w.heap.size → k ≠ bw → k ∉ bs → (w2.setCell ⟨bq, j, none⟩ (.int .i64 n)).heap[k]? = w.heap[k]?) := fun k hk h1 h2 => by
        have e2 : w2.heap[k]? = w.heap[k]? := (hg2.block k (Nat.lt_of_lt_of_le hk zz) (fun e => h1 (by simpa using e))).trans (hb1.block k hk)
        rw [← e2]
        exact Below.heap_setCell _ _ _ _ (by show k ≠ bq; rintro rfl; rw [← hbq] at h2; exact h2 hbm)
      clear ht2 hg2 hbm
      go_wp2
      go_ret
      exact ⟨hb2.setCell hblo _, HF.out, .inl ⟨i, j, HL.out, HWR.out, rfl, hput.out⟩⟩
  · have H1 : Hid _ := HM.out.below hb1
    have HL : Hid (NoLoc rs x) := hl
    clear hl
    go_wp2
    go_ret
    exact ⟨hb1.mono hB, fun k hk _ _ => hb1.block k hk, .inr ⟨.inl HL.out, rfl, H1.out⟩⟩


theorem row_cong {w w' : World} {B : Nat} {v : Value} {e : TypeId} {size n : Nat} {xs : List Value} (o : w.ownsRow B e size v n xs) (h : ∀ g, v.ownBlock = some g → w'.heap[g]? = w.heap[g]?) : w'.ownsRow B e size v n xs := by
  refine ⟨o.1, ?_⟩
  rcases o.2 with h0 | ⟨g, cap, cur, rfl, hb, hg, r1, r2, r3, r4⟩
  · exact .inl h0
  · exact .inr ⟨g, cap, cur, rfl, hb, (h g rfl).trans hg, r1, r2, r3, r4⟩

def FpM (bm br bw : Nat) (lv : Value) (bs : List Nat) (k : Nat) : Prop := k = bm ∨ k = br ∨ k = bw ∨ lv.ownBlock = some k ∨ k ∈ bs

theorem MemV.conv {B : Nat} {w w' : World} {bm : Nat} {rs : List Reg} {R W : List Int} {br bw nr nw : Nat} {lv : Value} {bs : List Nat} (h : MemV B w bm rs R W br bw nr nw lv bs) (hb : ∀ k, FpM bm br bw lv bs k → w'.heap[k]? = w.heap[k]?) : MemV B w' bm rs R W br bw nr nw lv bs := by
  have hm := hb bm (.inl rfl)
  have hr := hb br (.inr (.inl rfl))
  have hw := hb bw (.inr (.inr (.inl rfl)))
  refine { touch := ⟨(World.cell?_of_block (a := ⟨bm, 0, none⟩) hm).trans h.touch.c0, (World.cell?_of_block (a := ⟨bm, 1, none⟩) hm).trans h.touch.c1, h.touch.ne, h.touch.nt, ?_, ?_⟩, c2 := (World.cell?_of_block (a := ⟨bm, 2, none⟩) hm).trans h.c2, f2 := fun o => (World.frozen?_of_block (a := ⟨bm, o, none⟩) hm).trans (h.f2 o), lo := h.lo, len := h.len, row := row_cong h.row (fun g hg => hb g (.inr (.inr (.inr (.inl hg))))), words := ?_, nodup := h.nodup, apart := h.apart, rowApart := h.rowApart, fits := h.fits }
  · obtain ⟨es, clock, h1, h2⟩ := h.touch.r
    exact ⟨es, clock, hr.trans h1, h2⟩
  · obtain ⟨es, clock, h1, h2⟩ := h.touch.w'
    exact ⟨es, clock, hw.trans h1, h2⟩
  · intro i hi
    obtain ⟨h1, h2⟩ := h.words i hi
    have hmem : bs.getD i 0 ∈ bs := by rw [getD_at (by have := h.len; omega)]; exact List.getElem_mem _
    exact ⟨(hb _ (.inr (.inr (.inr (.inr hmem))))).trans h1, h2⟩

end Go.Proofs.YtdcdmlboilojmaaDoor

/- The machine's memory, as it lies: Load and Store as a function of addresses. -/
namespace Go.Proofs.YtdcdmlboilojmaaDoor
open Go.RowKit Go.Maps
set_option linter.unusedVariables false

/-- These words are these regions'. -/
structure MemIs (rs : List Reg) (m : T.Memo) : Prop where
  yes : ∀ x i j, Loc rs x i j → m x = some (wordAt rs i j)
  no : ∀ x, NoLoc rs x → m x = none
theorem loc_or (rs : List Reg) (x : Int) : (∃ i j, Loc rs x i j) ∨ NoLoc rs x := by
  by_cases hx : x.tmod 8 = 0
  · have key : ∀ k, k ≤ rs.length → (∃ i j, Loc rs x i j) ∨ noneTo rs x k := by
      intro k
      induction k with
      | zero => intro _; exact .inr fun i hi => absurd hi (by omega)
      | succ k ih =>
        intro hk
        rcases ih (by omega) with h | h
        · exact .inl h
        · cases e : inReg (rs.getD k noReg) x with
          | true => obtain ⟨j, hj⟩ := loc_j hx (by omega) e h; exact .inl ⟨k, j, hj⟩
          | false => exact .inr (noneTo_snoc h e)
    rcases key rs.length (Nat.le_refl _) with h | h
    · exact .inl h
    · exact .inr (.inr h)
  · exact .inr (.inl hx)
theorem MemIs.put {rs : List Reg} {m : T.Memo} (ok : AllOk rs) (h : MemIs rs m) {x : Int} {i j : Nat} (hl : Loc rs x i j) (n : Int) : MemIs (putWord rs i j n) (T.upd m x n) := by
  have hx := h.yes x i j hl
  refine ⟨fun y a b hy => ?_, fun y hy => ?_⟩
  · have hy' := (put_loc rs i j n y a b).1 hy
    unfold T.upd
    by_cases e : y = x
    · subst e
      obtain ⟨rfl, rfl⟩ := loc_uniq hl hy'
      rw [if_pos rfl, hx, word_same hl.2.1 hl.2.2.2.2.2]
      simp
    · rw [if_neg e, h.yes y a b hy', word_other (fun q => e (by obtain ⟨rfl, rfl⟩ := q; exact loc_addr ok hy' hl))]
  · have hy' := (put_noloc rs i j n y).1 hy
    unfold T.upd
    by_cases e : y = x
    · subst e; exact (loc_excl hl hy').elim
    · rw [if_neg e]; exact h.no y hy'
theorem T.upd_none {m : T.Memo} {x : Int} (h : m x = none) (n : Int) : T.upd m x n = m := by
  funext y
  unfold T.upd
  by_cases e : y = x
  · subst e; rw [if_pos rfl, h]; simp
  · rw [if_neg e]

/-- Blocks of one mark alone were turned. -/
structure On (t : Nat → Nat) (c : Nat) (w w' : World) : Prop where
  block : ∀ k, k < w.heap.size → t k ≠ c → w'.heap[k]? = w.heap[k]?
  size : w.heap.size ≤ w'.heap.size
  os : w'.os = w.os
  tape : w'.tape = w.tape
  output : w'.output = w.output

def MP (B : Nat) (w : World) (bm : Nat) (m : T.Memo) (K : Nat) (t : Nat → Nat) : Prop :=
  ∃ rs R W br bw nr nw lv bs, MemV B w bm rs R W br bw nr nw lv bs ∧ AllOk rs ∧ (∀ i, i < rs.length → (rs.getD i noReg).write = true) ∧ MemIs rs m ∧ nr ≤ K ∧ nw ≤ K ∧ (∀ k, FpM bm br bw lv bs k → t k = 2)

theorem MP.mono {B : Nat} {w : World} {bm : Nat} {m : T.Memo} {K L : Nat} {t : Nat → Nat} (h : MP B w bm m K t) (hl : K ≤ L) : MP B w bm m L t := by
  obtain ⟨rs, R, W, br, bw, nr, nw, lv, bs, h1, h2, h3, h4, h5, h6, h7⟩ := h
  exact ⟨rs, R, W, br, bw, nr, nw, lv, bs, h1, h2, h3, h4, Nat.le_trans h5 hl, Nat.le_trans h6 hl, h7⟩
theorem MemV.lt {B : Nat} {w : World} {bm : Nat} {rs : List Reg} {R W : List Int} {br bw nr nw : Nat} {lv : Value} {bs : List Nat} (h : MemV B w bm rs R W br bw nr nw lv bs) : ∀ k, FpM bm br bw lv bs k → k < w.heap.size := by
  intro k hk
  rcases hk with rfl | rfl | rfl | hk | hk
  · exact touch_lt h.touch
  · exact map_lt h.touch.r
  · exact map_lt h.touch.w'
  · exact (h.row.lt _ hk).2
  · obtain ⟨i, hi, rfl⟩ := List.mem_iff_getElem.1 hk
    have := (h.words i (by have := h.len; omega)).1
    rw [getD_at hi] at this
    exact (Array.getElem?_eq_some_iff.1 this).1
theorem MP.bm {B : Nat} {w : World} {bm : Nat} {m : T.Memo} {K : Nat} {t : Nat → Nat} (h : MP B w bm m K t) : t bm = 2 ∧ bm < w.heap.size := by
  obtain ⟨rs, R, W, br, bw, nr, nw, lv, bs, h1, h2, h3, h4, h5, h6, h7⟩ := h
  exact ⟨h7 bm (.inl rfl), h1.lt bm (.inl rfl)⟩
/-- In a world whose marked blocks are as they were. -/
theorem MP.conv {B : Nat} {w w' : World} {bm : Nat} {m : T.Memo} {K : Nat} {t t' : Nat → Nat} (h : MP B w bm m K t) (hb : ∀ k, k < w.heap.size → t k = 2 → w'.heap[k]? = w.heap[k]?) (ht : ∀ k, k < w.heap.size → t k = 2 → t' k = 2) : MP B w' bm m K t' := by
  obtain ⟨rs, R, W, br, bw, nr, nw, lv, bs, h1, h2, h3, h4, h5, h6, h7⟩ := h
  exact ⟨rs, R, W, br, bw, nr, nw, lv, bs, h1.conv (fun k hk => hb k (h1.lt k hk) (h7 k hk)), h2, h3, h4, h5, h6, fun k hk => ht k (h1.lt k hk) (h7 k hk)⟩
theorem MP.fits {B : Nat} {w : World} {bm : Nat} {m : T.Memo} {K : Nat} {t : Nat → Nat} (h : MP B w bm m K t) (x n : Int) (hx : m x = some n) : (Lit.int .i64 n).wf = true := by
  obtain ⟨rs, R, W, br, bw, nr, nw, lv, bs, h1, h2, h3, h4, h5, h6, h7⟩ := h
  rcases loc_or rs x with ⟨i, j, hl⟩ | hl
  · rw [h4.yes x i j hl] at hx
    cases hx
    have hi := hl.2.1
    have hj := hl.2.2.2.2.2
    refine (h1.fits (rs.getD i noReg) (by rw [List.getD_eq_getElem?_getD, List.getElem?_eq_getElem hi]; exact List.getElem_mem _)).2 _ ?_
    unfold wordAt
    revert hj
    generalize (rs.getD i noReg).words = l
    intro hj
    simp [List.getD, hj]
  · rw [h4.no x hl] at hx
    cases hx

theorem mp_load {B : Nat} {w : World} {bm : Nat} {m : T.Memo} {K : Nat} {t : Nat → Nat} (h : MP B w bm m K t) (x : Int) (hx : (Lit.int .i64 x).wf = true) (hK : K < maxLen) (hB : B ≤ w.heap.size) :
    Calls Tryd.prog 37 #[.pointer (some ⟨bm, 0, none⟩), .int .i64 x] w fun e w' => e = .returned (.tuple #[.int .i64 ((m x).getD 0), .int .i64 (T.er (m x))]) ∧ MP B w' bm m (K + 1) t ∧ On t 2 w w' := by
  obtain ⟨rs, R, W, br, bw, nr, nw, lv, bs, h1, h2, h3, h4, h5, h6, h7⟩ := h
  refine (load_far h1 h2 x hx (by omega) hB).mono ?_
  rintro e w' ⟨hb, hf, hc⟩
  have hon : On t 2 w w' := ⟨fun k hk hne => hf k hk (fun e => hne (by rw [e]; exact h7 br (.inr (.inl rfl)))), hb.size, hb.os, hb.tape, hb.output⟩
  rcases hc with ⟨i, j, hl, rfl, hv⟩ | ⟨hl, rfl, hv⟩
  · rw [h4.yes x i j hl]
    exact ⟨rfl, ⟨rs, _, W, br, bw, _, nw, lv, bs, hv, h2, h3, h4, by omega, by omega, h7⟩, hon⟩
  · rw [h4.no x hl]
    exact ⟨rfl, ⟨rs, _, W, br, bw, _, nw, lv, bs, hv, h2, h3, h4, by omega, by omega, h7⟩, hon⟩
theorem mp_store {B : Nat} {w : World} {bm : Nat} {m : T.Memo} {K : Nat} {t : Nat → Nat} (h : MP B w bm m K t) (x n : Int) (hx : (Lit.int .i64 x).wf = true) (hw : (Lit.int .i64 n).wf = true) (hK : K < maxLen) (hB : B ≤ w.heap.size) :
    Calls Tryd.prog 47 #[.pointer (some ⟨bm, 0, none⟩), .int .i64 x, .int .i64 n] w fun e w' => e = .returned (.int .i64 (T.er (m x))) ∧ MP B w' bm (T.upd m x n) (K + 1) t ∧ On t 2 w w' := by
  obtain ⟨rs, R, W, br, bw, nr, nw, lv, bs, h1, h2, h3, h4, h5, h6, h7⟩ := h
  refine (store_far h1 h2 x n hx hw (by omega) hB).mono ?_
  rintro e w' ⟨hb, hf, hc⟩
  have hon : On t 2 w w' := ⟨fun k hk hne => hf k hk (fun e => hne (by rw [e]; exact h7 bw (.inr (.inr (.inl rfl))))) (fun e => hne (h7 k (.inr (.inr (.inr (.inr e)))))), hb.size, hb.os, hb.tape, hb.output⟩
  rcases hc with ⟨i, j, hl, hwr, rfl, hv⟩ | ⟨hl, rfl, hv⟩
  · rw [h4.yes x i j hl]
    refine ⟨rfl, ⟨_, R, _, br, bw, nr, _, lv, bs, hv, put_ok h2 i j n, fun k hk => ?_, h4.put h2 hl n, by omega, by omega, h7⟩, hon⟩
    rw [putWord_len] at hk
    rw [(put_base rs i j k n).2.2]
    exact h3 k hk
  · have hno : NoLoc rs x := by
      rcases hl with hl | ⟨i, j, hl, hf⟩
      · exact hl
      · rw [h3 i hl.2.1] at hf; cases hf
    rw [h4.no x hno, T.upd_none (h4.no x hno)]
    exact ⟨rfl, ⟨rs, R, _, br, bw, nr, _, lv, bs, hv, h2, h3, h4, by omega, by omega, h7⟩, hon⟩

end Go.Proofs.YtdcdmlboilojmaaDoor

/- A machine, as it lies in memory. -/
namespace Go.Proofs.YtdcdmlboilojmaaDoor
open Go.RowKit Go.Maps
set_option linter.unusedVariables false

/-- What was done turned marked blocks alone; what was there bears the marks that it bore. -/
structure St (t t' : Nat → Nat) (w w' : World) : Prop where
  tag : ∀ k, k < w.heap.size → t' k = t k
  block : ∀ k, k < w.heap.size → t k = 0 → w'.heap[k]? = w.heap[k]?
  size : w.heap.size ≤ w'.heap.size
  os : w'.os = w.os
  tape : w'.tape = w.tape
  output : w'.output = w.output
theorem St.refl (t : Nat → Nat) (w : World) : St t t w w := ⟨fun _ _ => rfl, fun _ _ _ => rfl, Nat.le_refl _, rfl, rfl, rfl⟩
theorem St.ofBelow {w w' : World} (t : Nat → Nat) (h : Below w.heap.size w w') : St t t w w' := ⟨fun _ _ => rfl, fun k hk _ => h.block k hk, h.size, h.os, h.tape, h.output⟩
theorem St.trans {t t' t'' : Nat → Nat} {w w' w'' : World} (h : St t t' w w') (k : St t' t'' w' w'') : St t t'' w w'' :=
  ⟨fun x hx => (k.tag x (Nat.lt_of_lt_of_le hx h.size)).trans (h.tag x hx), fun x hx h0 => (k.block x (Nat.lt_of_lt_of_le hx h.size) ((h.tag x hx).trans h0)).trans (h.block x hx h0), Nat.le_trans h.size k.size, k.os.trans h.os, k.tape.trans h.tape, k.output.trans h.output⟩
theorem St.toBelow {t t' : Nat → Nat} {w w' : World} {B : Nat} (h : St t t' w w') (hlo : ∀ k, t k ≠ 0 → B ≤ k) (hB : B ≤ w.heap.size) : Below B w w' :=
  ⟨h.os, h.tape, h.output, h.size, fun k hk => h.block k (by omega) (Classical.byContradiction fun e => by have := hlo k e; omega)⟩
theorem On.st {t : Nat → Nat} {c : Nat} {w w' : World} (h : On t c w w') (hc : c ≠ 0) : St t t w w' := ⟨fun _ _ => rfl, fun k hk h0 => h.block k hk (fun e => hc (by rw [← e, h0])), h.size, h.os, h.tape, h.output⟩
theorem St.ofGrown {w w' : World} {x : Nat} {t t' : Nat → Nat} (h : w.grownBy w' (some x)) (hx : t x ≠ 0) (ht : ∀ k, k < w.heap.size → t' k = t k) : St t t' w w' :=
  ⟨ht, fun k hk h0 => h.block k hk (fun e => by cases e; exact hx h0), h.size, h.os, h.tape, h.output⟩

def thC (i : Nat) (h : T.Th) (u : Value) : List Value := [.int .i64 h.c.r0, .int .i64 h.c.r1, .int .i64 h.c.r2, .int .i64 h.c.r3, .int .i64 h.c.r4, .int .i64 h.c.r5, .int .i64 h.c.r6, .int .i64 h.c.r7, .int .i64 h.c.pc, .int .i64 h.c.st, .int .i64 h.c.tr, .int .i64 i, u]
def wC (p : T.Wait) : List Value := [.int .i64 p.1, .int .i64 p.2]
def eC (e : T.Ev) : List Value := [.int .i64 e.1, .int .i64 e.2.1, .int .i64 e.2.2]

/-- A machine: its block, its memory, the row of its threads, each with a row of its own, its events. Marks: 1 the block, 2 the memory, 3 the threads, 4 the events, 5 and on the stores that wait. -/
structure TV (B : Nat) (w : World) (b : Nat) (M : T.Mach) (K : Nat) (t : Nat → Nat) (bm g cap : Nat) (ev : Value) (us : List Value) : Prop where
  c0 : w.cell? ⟨b, 0, none⟩ = some (.string M.code)
  c1 : w.cell? ⟨b, 1, none⟩ = some (.pointer (some ⟨bm, 0, none⟩))
  c2 : w.cell? ⟨b, 2, none⟩ = some (.slice (some ⟨g, 0, none⟩) M.ts.length cap)
  c3 : w.cell? ⟨b, 3, none⟩ = some ev
  fz : ∀ o, w.frozen? ⟨b, o, none⟩ = false
  tb : t b = 1
  room : M.ts.length ≤ cap ∧ cap ≤ maxLen ∧ 0 < M.ts.length
  mem : MP B w bm M.mem K t
  tg : t g = 3
  gz : ∀ o, w.frozen? ⟨g, o, none⟩ = false
  len : us.length = M.ts.length
  tc : ∀ (k : Nat) (h : T.Th) (u : Value), M.ts[k]? = some h → us[k]? = some u → ∀ (j : Nat) (x : Value), (thC k h u)[j]? = some x → w.cell? ⟨g, k * 13 + j, none⟩ = some x
  ws : ∀ (k : Nat) (h : T.Th) (u : Value), M.ts[k]? = some h → us[k]? = some u → w.ownsRow B 52 2 u h.ws.length (h.ws.flatMap wC)
  tw : ∀ (k : Nat) (u : Value) (x : Nat), us[k]? = some u → u.ownBlock = some x → t x = 5 + k
  evs : w.ownsRow B 81 3 ev M.es.length (M.es.flatMap eC)
  te : ∀ x, ev.ownBlock = some x → t x = 4
  lt : ∀ k, t k ≠ 0 → B ≤ k ∧ k < w.heap.size

section
variable {B : Nat} {w w' : World} {b : Nat} {M : T.Mach} {K : Nat} {t t' : Nat → Nat} {bm g cap : Nat} {ev : Value} {us : List Value}
theorem TV.bl (h : TV B w b M K t bm g cap ev us) : b < w.heap.size := World.block_lt_of_cell? w ⟨b, 0, none⟩ h.c0
theorem TV.gl (h : TV B w b M K t bm g cap ev us) : g < w.heap.size := (h.lt g (by rw [h.tg]; decide)).2
theorem TV.hB (h : TV B w b M K t bm g cap ev us) : B ≤ w.heap.size := by have := h.bl; have := (h.lt b (by rw [h.tb]; decide)).1; omega
theorem blk_cell {w w' : World} {p : Addr} {v : Value} (e : w'.heap[p.block]? = w.heap[p.block]?) (h : w.cell? p = some v) : w'.cell? p = some v := (World.cell?_of_block e).trans h
theorem blk_froz {w w' : World} {p : Addr} {v : Bool} (e : w'.heap[p.block]? = w.heap[p.block]?) (h : w.frozen? p = v) : w'.frozen? p = v := (World.frozen?_of_block e).trans h
theorem own_lt {w : World} {B : Nat} {v : Value} {e : TypeId} {size n : Nat} {xs : List Value} (o : w.ownsRow B e size v n xs) {x : Nat} (h : v.ownBlock = some x) : x < w.heap.size := (o.lt x h).2

/-- All marked blocks are as they were. -/
theorem TV.keep (h : TV B w b M K t bm g cap ev us) (hb : ∀ k, k < w.heap.size → t k ≠ 0 → w'.heap[k]? = w.heap[k]?) (ht : ∀ k, k < w.heap.size → t k ≠ 0 → t' k = t k) (hlt : ∀ k, t' k ≠ 0 → B ≤ k ∧ k < w'.heap.size) : TV B w' b M K t' bm g cap ev us := by
  have eb := hb b h.bl (by rw [h.tb]; decide)
  have eg := hb g h.gl (by rw [h.tg]; decide)
  refine { c0 := blk_cell eb h.c0, c1 := blk_cell eb h.c1, c2 := blk_cell eb h.c2, c3 := blk_cell eb h.c3, fz := fun o => blk_froz eb (h.fz o), tb := (ht b h.bl (by rw [h.tb]; decide)).trans h.tb, room := h.room, mem := h.mem.conv (fun k hk e => hb k hk (by rw [e]; decide)) (fun k hk e => (ht k hk (by rw [e]; decide)).trans e), tg := (ht g h.gl (by rw [h.tg]; decide)).trans h.tg, gz := fun o => blk_froz eg (h.gz o), len := h.len, tc := fun k x u h1 h2 j v h3 => blk_cell eg (h.tc k x u h1 h2 j v h3), ws := fun k x u h1 h2 => row_cong (h.ws k x u h1 h2) (fun q hq => hb q (own_lt (h.ws k x u h1 h2) hq) (by rw [h.tw k u q h2 hq]; omega)), tw := fun k u x h1 h2 => ?_, evs := row_cong h.evs (fun q hq => hb q (own_lt h.evs hq) (by rw [h.te q hq]; decide)), te := fun x h1 => (ht x (own_lt h.evs h1) (by rw [h.te x h1]; decide)).trans (h.te x h1), lt := hlt }
  have hk : k < M.ts.length := by rw [← h.len]; exact (List.getElem?_eq_some_iff.1 h1).1
  exact (ht x (own_lt (h.ws k _ u (T.th_at hk) h1) h2) (by rw [h.tw k u x h1 h2]; omega)).trans (h.tw k u x h1 h2)
theorem TV.below (h : TV B w b M K t bm g cap ev us) (hb : Below w.heap.size w w') : TV B w' b M K t bm g cap ev us :=
  h.keep (fun k hk _ => hb.block k hk) (fun _ _ _ => rfl) (fun k hk => ⟨(h.lt k hk).1, Nat.lt_of_lt_of_le (h.lt k hk).2 hb.size⟩)
theorem TV.frame {p p' : Nat → Nat} (h : TV B w b M K t bm g cap ev us) (hs : St p p' w w') (hd : ∀ k, t k ≠ 0 → p k = 0) : TV B w' b M K t bm g cap ev us :=
  h.keep (fun k hk e => hs.block k hk (hd k e)) (fun _ _ _ => rfl) (fun k hk => ⟨(h.lt k hk).1, Nat.lt_of_lt_of_le (h.lt k hk).2 hs.size⟩)
theorem TV.mono {L : Nat} (h : TV B w b M K t bm g cap ev us) (hl : K ≤ L) : TV B w b M L t bm g cap ev us :=
  { h with mem := h.mem.mono hl }
/-- The memory did something. -/
theorem TV.memop {m' : T.Memo} {K' : Nat} (h : TV B w b M K t bm g cap ev us) (hon : On t 2 w w') (hm : MP B w' bm m' K' t) : TV B w' b { M with mem := m' } K' t bm g cap ev us := by
  have eb := hon.block b h.bl (by rw [h.tb]; decide)
  have eg := hon.block g h.gl (by rw [h.tg]; decide)
  exact { c0 := blk_cell eb h.c0, c1 := blk_cell eb h.c1, c2 := blk_cell eb h.c2, c3 := blk_cell eb h.c3, fz := fun o => blk_froz eb (h.fz o), tb := h.tb, room := h.room, mem := hm, tg := h.tg, gz := fun o => blk_froz eg (h.gz o), len := h.len, tc := fun k x u h1 h2 j v h3 => blk_cell eg (h.tc k x u h1 h2 j v h3), ws := fun k x u h1 h2 => row_cong (h.ws k x u h1 h2) (fun q hq => hon.block q (own_lt (h.ws k x u h1 h2) hq) (by rw [h.tw k u q h2 hq]; omega)), tw := h.tw, evs := row_cong h.evs (fun q hq => hon.block q (own_lt h.evs hq) (by rw [h.te q hq]; decide)), te := h.te, lt := fun k hk => ⟨(h.lt k hk).1, Nat.lt_of_lt_of_le (h.lt k hk).2 hon.size⟩ }
/-- A thread's cells were stored over: its registers, or where its stores wait; those in a row that is its own. -/
theorem TV.thr {k : Nat} {h' : T.Th} {u' : Value} (h : TV B w b M K t bm g cap ev us) (hk : k < M.ts.length)
    (hb : ∀ q, q < w.heap.size → t q ≠ 3 → t q ≠ 5 + k → w'.heap[q]? = w.heap[q]?) (hs : w.heap.size ≤ w'.heap.size)
    (hc : ∀ (j : Nat) (x : Value), (thC k h' u')[j]? = some x → w'.cell? ⟨g, k * 13 + j, none⟩ = some x) (ho : ∀ o, o < k * 13 ∨ k * 13 + 13 ≤ o → w'.cell? ⟨g, o, none⟩ = w.cell? ⟨g, o, none⟩) (hz : ∀ o, w'.frozen? ⟨g, o, none⟩ = false)
    (hw : w'.ownsRow B 52 2 u' h'.ws.length (h'.ws.flatMap wC)) (hu : ∀ x, u'.ownBlock = some x → t' x = 5 + k)
    (ht : ∀ q, q < w.heap.size → t' q = t q) (hlt : ∀ q, t' q ≠ 0 → B ≤ q ∧ q < w'.heap.size) : TV B w' b (M.put k M.mem h') K t' bm g cap ev (us.set k u') := by
  have eb := hb b h.bl (by rw [h.tb]; decide) (by rw [h.tb]; omega)
  have hkl : k < us.length := by rw [h.len]; exact hk
  have at' : ∀ i x, (M.ts.set k h')[i]? = some x → (i = k ∧ x = h') ∨ (i ≠ k ∧ M.ts[i]? = some x) := fun i x hx => by
    by_cases e : k = i
    · subst e
      rw [List.getElem?_set_self hk] at hx
      exact .inl ⟨rfl, by simpa using hx.symm⟩
    · rw [List.getElem?_set_ne e] at hx
      exact .inr ⟨fun q => e q.symm, hx⟩
  have au : ∀ i x, (us.set k u')[i]? = some x → (i = k ∧ x = u') ∨ (i ≠ k ∧ us[i]? = some x) := fun i x hx => by
    by_cases e : k = i
    · subst e
      rw [List.getElem?_set_self hkl] at hx
      exact .inl ⟨rfl, by simpa using hx.symm⟩
    · rw [List.getElem?_set_ne e] at hx
      exact .inr ⟨fun q => e q.symm, hx⟩
  refine { c0 := blk_cell eb h.c0, c1 := blk_cell eb h.c1, c2 := ?_, c3 := blk_cell eb h.c3, fz := fun o => blk_froz eb (h.fz o), tb := (ht b h.bl).trans h.tb, room := by rw [T.len_put]; exact h.room, mem := h.mem.conv (fun q hq e => hb q hq (by rw [e]; decide) (by rw [e]; omega)) (fun q hq e => (ht q hq).trans e), tg := (ht g h.gl).trans h.tg, gz := hz, len := by rw [T.len_put, List.length_set]; exact h.len, tc := fun i x u h1 h2 j v h3 => ?_, ws := fun i x u h1 h2 => ?_, tw := fun i u x h1 h2 => ?_, evs := row_cong h.evs (fun q hq => hb q (own_lt h.evs hq) (by rw [h.te q hq]; decide) (by rw [h.te q hq]; omega)), te := fun x h1 => (ht x (own_lt h.evs h1)).trans (h.te x h1), lt := hlt }
  · rw [T.len_put]; exact blk_cell eb h.c2
  · rcases at' i x h1 with ⟨rfl, rfl⟩ | ⟨hne, h1'⟩
    · rcases au i u h2 with ⟨-, rfl⟩ | ⟨hne, h2'⟩
      · exact hc j v h3
      · exact absurd rfl hne
    · rcases au i u h2 with ⟨rfl, rfl⟩ | ⟨hne, h2'⟩
      · exact absurd rfl hne
      · have hj : j < 13 := (List.getElem?_eq_some_iff.1 h3).1
        rw [ho _ (by omega)]
        exact h.tc i x u h1' h2' j v h3
  · rcases at' i x h1 with ⟨rfl, rfl⟩ | ⟨hne, h1'⟩
    · rcases au i u h2 with ⟨-, rfl⟩ | ⟨hne, h2'⟩
      · exact hw
      · exact absurd rfl hne
    · rcases au i u h2 with ⟨rfl, rfl⟩ | ⟨hne, h2'⟩
      · exact absurd rfl hne
      · exact row_cong (h.ws i x u h1' h2') (fun q hq => hb q (own_lt (h.ws i x u h1' h2') hq) (by rw [h.tw i u q h2' hq]; omega) (by rw [h.tw i u q h2' hq]; omega))
  · rcases au i u h1 with ⟨rfl, rfl⟩ | ⟨hne, h1'⟩
    · exact hu x h2
    · have hil : i < M.ts.length := by rw [← h.len]; exact (List.getElem?_eq_some_iff.1 h1').1
      exact (ht x (own_lt (h.ws i _ u (T.th_at hil) h1') h2)).trans (h.tw i u x h1' h2)
/-- An event more. -/
theorem TV.event {k : Nat} {a n : Int} {ev' : Value} (h : TV B w b M K t bm g cap ev us)
    (hb : ∀ q, q < w.heap.size → t q ≠ 1 → t q ≠ 4 → w'.heap[q]? = w.heap[q]?) (hs : w.heap.size ≤ w'.heap.size)
    (h3 : w'.cell? ⟨b, 3, none⟩ = some ev') (ho : ∀ o, o ≠ 3 → w'.cell? ⟨b, o, none⟩ = w.cell? ⟨b, o, none⟩) (hz : ∀ o, w'.frozen? ⟨b, o, none⟩ = false)
    (hw : w'.ownsRow B 81 3 ev' (M.es.length + 1) (M.es.flatMap eC ++ eC ((k : Int), a, n))) (hu : ∀ x, ev'.ownBlock = some x → t' x = 4)
    (ht : ∀ q, q < w.heap.size → t' q = t q) (hlt : ∀ q, t' q ≠ 0 → B ≤ q ∧ q < w'.heap.size) : TV B w' b (M.see k a n) K t' bm g cap ev' us := by
  have eg := hb g h.gl (by rw [h.tg]; decide) (by rw [h.tg]; decide)
  refine { c0 := (ho 0 (by decide)).trans h.c0, c1 := (ho 1 (by decide)).trans h.c1, c2 := (ho 2 (by decide)).trans h.c2, c3 := h3, fz := hz, tb := (ht b h.bl).trans h.tb, room := h.room, mem := h.mem.conv (fun q hq e => hb q hq (by rw [e]; decide) (by rw [e]; omega)) (fun q hq e => (ht q hq).trans e), tg := (ht g h.gl).trans h.tg, gz := fun o => blk_froz eg (h.gz o), len := h.len, tc := fun i x u h1 h2 j v h3 => blk_cell eg (h.tc i x u h1 h2 j v h3), ws := fun i x u h1 h2 => row_cong (h.ws i x u h1 h2) (fun q hq => hb q (own_lt (h.ws i x u h1 h2) hq) (by rw [h.tw i u q h2 hq]; omega) (by rw [h.tw i u q h2 hq]; omega)), tw := fun i u x h1 h2 => ?_, evs := ?_, te := hu, lt := hlt }
  · have hil : i < M.ts.length := by rw [← h.len]; exact (List.getElem?_eq_some_iff.1 h1).1
    exact (ht x (own_lt (h.ws i _ u (T.th_at hil) h1) h2)).trans (h.tw i u x h1 h2)
  · show w'.ownsRow B _ 3 ev' (M.es ++ [((k : Int), a, n)]).length ((M.es ++ [((k : Int), a, n)]).flatMap eC)
    rw [List.length_append, List.flatMap_append]
    simpa using hw
end

end Go.Proofs.YtdcdmlboilojmaaDoor

/- Lists in rows of their own; append of a whole list, nil or not, onto such a row. -/
namespace Go.Proofs.YtdcdmlboilojmaaDoor
open Go.RowKit Go.Maps
set_option linter.unusedVariables false

theorem gb_of_below {w x : World} (h : Below w.heap.size w x) (r : Option Nat) : w.grownBy x r := ⟨h.os, h.tape, h.output, h.size, fun k hk _ => h.block k hk⟩

theorem bl_one (w : World) (x : Obj) : Below w.heap.size w (w.alloc x) := (Below.refl _ _).alloc (Nat.le_refl _) _

theorem info_partsL {P : Program} {t : TypeId} {z : Option Value} {k m : Nat} (h : (P.info? t).map (fun i => (i.zero, i.size, i.bytes)) = some (z, k, m)) : ∃ i, P.info? t = some i ∧ i.zero = z ∧ i.size = k ∧ i.bytes = m := by
  cases e : P.info? t with
  | none => rw [e] at h; simp at h
  | some i => rw [e] at h; simp at h; exact ⟨i, rfl, h.1, h.2.1, h.2.2⟩

theorem flat_at {α : Type} (f : α → List Value) (m : Nat) (d : α) (hm : ∀ x, (f x).length = m) : ∀ (l : List α) (i j : Nat), i < l.length → j < m → (l.flatMap f)[i * m + j]? = (f (l.getD i d))[j]?
  | [], i, j, hi, _ => by simp at hi
  | x :: l, 0, j, hi, hj => by
    rw [List.flatMap_cons, Nat.zero_mul, Nat.zero_add, List.getElem?_append_left (by rw [hm]; exact hj)]
    rfl
  | x :: l, i + 1, j, hi, hj => by
    rw [List.flatMap_cons, List.getElem?_append_right (by rw [hm, Nat.succ_mul]; omega), hm, show (i + 1) * m + j - m = i * m + j by rw [Nat.succ_mul]; omega, flat_at f m d hm l i j (by simpa using hi) hj]
    rfl
theorem row_at {w : World} {B : Nat} {ty : TypeId} {m n : Nat} {v : Value} {α : Type} {f : α → List Value} {l : List α} (d : α) (hm : ∀ x, (f x).length = m) (h : w.ownsRow B ty m v n (l.flatMap f)) (hn : l.length = n) :
    ∃ a c, v = .slice a n c ∧ (a = none → n = 0 ∧ c = 0) ∧ (n = 0 ∨ ∃ b off, a = some ⟨b, off, none⟩ ∧ ∀ i, i < n → ∀ j u, j < m → (f (l.getD i d))[j]? = some u → w.cell? ⟨b, off + i * m + j, none⟩ = some u) := by
  rcases h.2 with ⟨rfl, rfl⟩ | ⟨g, cap, cur, rfl, hb, hh, h1, h2, h3, h4⟩
  · exact ⟨none, 0, rfl, fun _ => ⟨rfl, rfl⟩, .inl rfl⟩
  · refine ⟨_, _, rfl, fun e => (by cases e), .inr ⟨g, 0, rfl, fun i hi j u hj hu => ?_⟩⟩
    have hlt : i * m + j < n * m := by
      have : (i + 1) * m ≤ n * m := Nat.mul_le_mul_right m hi
      rw [Nat.succ_mul] at this
      omega
    rw [Nat.zero_add, h.cellAt _ hlt, flat_at f m d hm l i j (by omega) hj]
    exact hu

/-- append of a whole list, nil or not, onto a row of one's own. -/
theorem run_append_more (w : World) (B : Nat) (t e : TypeId) (i0 : TypeInfo) (z : Value) (size bytes : Nat) (ht : Tryd.prog.underlying t = some (.slice e)) (hi : Tryd.prog.info? e = some i0) (hz : i0.zero = some z) (hsize : i0.size = size) (hby : i0.bytes = bytes) (hzs : z.cells.size = size) (hsz : 0 < size)
    {v : Value} {n : Nat} {xs : List Value} (hown : w.ownsRow B e size v n xs) (hB : B ≤ w.heap.size)
    {a : Option Addr} {l c : Nat} {cs : List Value} (hnil : a = none → l = 0 ∧ c = 0) (hlen : cs.length = l * size) (hcells : ∀ ad, a = some ad → ∀ j u, cs[j]? = some u → w.cell? (ad.add j) = some u) (h1 : ∀ u ∈ cs, u.oneCell' = true) (hb : (n + l) * bytes ≤ 140737488355328) (hm : n + l ≤ 140737488355328) (ty : TypeId) :
    ∃ v' w', (Builtin.append_ #[t, t] ty #[v, .slice a l c]).run Tryd.prog w = .ok v' w' ∧ w'.ownsRow B e size v' (n + l) (xs ++ cs) ∧ w.grownBy w' v.ownBlock ∧ ∀ g, v'.ownBlock = some g → v.ownBlock = some g ∨ w.heap.size ≤ g := by
  cases a with
  | none =>
    obtain ⟨rfl, rfl⟩ := hnil rfl
    obtain rfl : cs = [] := List.eq_nil_of_length_eq_zero (by simpa using hlen)
    exact ⟨_, _, run_append_owned_none (P := Tryd.prog) w B t ty e i0 size ht hi v n xs hown, by simpa using hown, gb_of_below (Below.refl _ _) _, fun g hg => .inl hg⟩
  | some ad =>
    obtain ⟨v', w', hr, ho, hg, -, h5⟩ := run_append_own_at (P := Tryd.prog) w B t ty e i0 z size bytes ht hi hz hsize hby hzs hsz v n xs hown ad l c cs hlen (hcells ad rfl) h1 (by unfold maxLen; omega) hb hB
    refine ⟨v', w', hr, ho, hg, fun g hg' => ?_⟩
    rcases h5 with h5 | h5
    · exact .inl (h5 ▸ hg')
    · rw [h5] at hg'
      cases hg'
      exact .inr (Nat.le_refl _)
theorem wpList_append_more {ops : Array Oper} {rest : List Oper} {o : Oper} {ac : Act} {w : World} {Q : Exit → Act → World → Prop} (hgd : o.guard = none) (s x : Operand) (t : TypeId)
    (ho : o.op = .call { callee := .builtin .append, args := #[s, x], argTypes := #[t, t] }) (B : Nat) (e : TypeId) (i0 : TypeInfo) (z : Value) (size bytes : Nat) (ht : Tryd.prog.underlying t = some (.slice e)) (hi : Tryd.prog.info? e = some i0) (hz : i0.zero = some z) (hsize : i0.size = size) (hby : i0.bytes = bytes) (hzs : z.cells.size = size) (hsz : 0 < size)
    {v : Value} {n : Nat} {xs : List Value} (hs : ac.eval s = v) (hown : w.ownsRow B e size v n xs) (hB : B ≤ w.heap.size)
    {a : Option Addr} {l c : Nat} {cs : List Value} (hx : ac.eval x = .slice a l c) (hnil : a = none → l = 0 ∧ c = 0) (hlen : cs.length = l * size) (hcells : ∀ ad, a = some ad → ∀ j u, cs[j]? = some u → w.cell? (ad.add j) = some u) (h1 : ∀ u ∈ cs, u.oneCell' = true) (hb : (n + l) * bytes ≤ 140737488355328) (hm : n + l ≤ 140737488355328)
    (hk : ∀ v' w', w'.ownsRow B e size v' (n + l) (xs ++ cs) → w.grownBy w' v.ownBlock → (∀ g, v'.ownBlock = some g → v.ownBlock = some g ∨ w.heap.size ≤ g) → wpList Tryd.prog ops Q rest (ac.put o.dst v') w') : wpList Tryd.prog ops Q (o :: rest) ac w := by
  refine wpList_plain hgd fun K hK => ?_
  obtain ⟨v', w', hr, h2, h3, h4⟩ := run_append_more w B t e i0 z size bytes ht hi hz hsize hby hzs hsz hown hB hnil hlen hcells h1 hb hm o.type
  unfold Oper.wp execOp
  simp only [ho, resolve, invoke, builtin, Sem.run_bind, Sem.run_pure, Result.andThen_ok, List.map_toArray, List.map_cons, List.map_nil, hs, hx, hr]
  exact hK _ _ (hk v' w' h2 h3 h4)

theorem flat_cells {α : Type} {w : World} {f : α → List Value} {m : Nat} {l : List α} {d : α} {b off : Nat} (hm : ∀ x, (f x).length = m) (hm0 : 0 < m) (h : ∀ i, i < l.length → ∀ j u, j < m → (f (l.getD i d))[j]? = some u → w.cell? ⟨b, off + i * m + j, none⟩ = some u) : ∀ q u, (l.flatMap f)[q]? = some u → w.cell? ⟨b, off + q, none⟩ = some u := by
  intro q u hu
  have hl : (l.flatMap f).length = l.length * m := by
    clear h hu
    induction l with
    | nil => simp
    | cons x l ih => rw [List.flatMap_cons, List.length_append, hm, ih, List.length_cons, Nat.succ_mul]; omega
  have hq : q < l.length * m := by rw [← hl]; exact (List.getElem?_eq_some_iff.1 hu).1
  have hqd : q / m * m + q % m = q := by rw [Nat.mul_comm]; exact Nat.div_add_mod q m
  have hi : q / m < l.length := Nat.div_lt_of_lt_mul (by rw [Nat.mul_comm]; exact hq)
  have hj : q % m < m := Nat.mod_lt _ hm0
  have h2 := h (q / m) hi (q % m) u hj (by rw [← flat_at f m d hm l _ _ hi hj, hqd]; exact hu)
  rwa [Nat.add_assoc, hqd] at h2
theorem flat_len' {α : Type} {f : α → List Value} {m : Nat} (hm : ∀ x, (f x).length = m) (l : List α) : (l.flatMap f).length = l.length * m := by
  induction l with
  | nil => simp
  | cons x l ih => rw [List.flatMap_cons, List.length_append, hm, ih, List.length_cons, Nat.succ_mul]; omega

theorem step_append_more {ops : Array Oper} {o : Oper} {ac : Act} {w : World} {K : Act → World → Prop} {Q : Exit → Act → World → Prop} {E : Prop} (hgd : o.guard = none) (s x : Operand) (t : TypeId)
    (ho : o.op = .call { callee := .builtin .append, args := #[s, x], argTypes := #[t, t] }) (B : Nat) (e : TypeId) (i0 : TypeInfo) (z : Value) (size bytes : Nat) (ht : Tryd.prog.underlying t = some (.slice e)) (hi : Tryd.prog.info? e = some i0) (hz : i0.zero = some z) (hsize : i0.size = size) (hby : i0.bytes = bytes) (hzs : z.cells.size = size) (hsz : 0 < size)
    {v : Value} {n : Nat} {xs : List Value} (hs : ac.eval s = v) (hown : w.ownsRow B e size v n xs) (hB : B ≤ w.heap.size)
    {a : Option Addr} {l c : Nat} {cs : List Value} (hx : ac.eval x = .slice a l c) (hnil : a = none → l = 0 ∧ c = 0) (hlen : cs.length = l * size) (hcells : ∀ ad, a = some ad → ∀ j u, cs[j]? = some u → w.cell? (ad.add j) = some u) (h1 : ∀ u ∈ cs, u.oneCell' = true) (hb : (n + l) * bytes ≤ 140737488355328) (hm : n + l ≤ 140737488355328)
    (hk : ∀ v' w', w'.ownsRow B e size v' (n + l) (xs ++ cs) → w.grownBy w' v.ownBlock → (∀ g, v'.ownBlock = some g → v.ownBlock = some g ∨ w.heap.size ≤ g) → K (ac.put o.dst v') w') : if Region.wanted o (yielded ops ac.tmps) = true then Oper.wp Tryd.prog o ac w K Q else E := by
  have hw : Region.wanted o (yielded ops ac.tmps) = true := by simp [Region.wanted, hgd]
  rw [if_pos hw]
  obtain ⟨v', w', hr, h2, h3, h4⟩ := run_append_more w B t e i0 z size bytes ht hi hz hsize hby hzs hsz hown hB hnil hlen hcells h1 hb hm o.type
  unfold Oper.wp execOp
  simp only [ho, resolve, invoke, builtin, Sem.run_bind, Sem.run_pure, Result.andThen_ok, List.map_toArray, List.map_cons, List.map_nil, hs, hx, hr]
  exact hk v' w' h2 h3 h4

end Go.Proofs.YtdcdmlboilojmaaDoor

/- The newest store that waits; a trap; what is seen. -/
namespace Go.Proofs.YtdcdmlboilojmaaDoor
open Go.RowKit Go.Maps
set_option linter.unusedVariables false
set_option linter.unusedSimpArgs false

def TW (B : Nat) (w : World) (b : Nat) (M : T.Mach) (K : Nat) (t : Nat → Nat) (bm g cap : Nat) : Prop := ∃ ev us, TV B w b M K t bm g cap ev us

theorem cell_up {w w' : World} {p : Addr} {v : Value} (hb : Below w.heap.size w w') (h : w.cell? p = some v) : w'.cell? p = some v := (hb.cell (p := p) (World.block_lt_of_cell? w p h)).trans h
theorem T.newest_snoc (l : List T.Wait) (p : T.Wait) (x : Int) : T.newest (l ++ [p]) x = if p.1 = x then some p.2 else T.newest l x := by
  unfold T.newest
  rw [List.reverse_append, List.reverse_singleton, List.singleton_append, List.find?_cons]
  by_cases e : p.1 = x
  · rw [if_pos e, show (p.1 == x) = true by simpa using e]; rfl
  · rw [if_neg e, show (p.1 == x) = false by simpa using e]
theorem own_sl {x : World} {B : Nat} {ty : TypeId} {m n : Nat} {v : Value} {cs : List Value} (h : x.ownsRow B ty m v n cs) : ∃ a c, v = .slice a n c ∧ n ≤ c ∧ c ≤ maxLen := by
  rcases h.2 with ⟨rfl, rfl⟩ | ⟨g, cap, cur, rfl, -, -, h1, h2, -⟩
  · exact ⟨none, 0, rfl, Nat.le_refl _, Nat.zero_le _⟩
  · exact ⟨_, cap, rfl, h1, h2⟩

set_option maxRecDepth 100000 in
set_option maxHeartbeats 4000000 in
theorem newest_any {B : Nat} {w : World} {g q : Nat} {u : Value} {ws : List T.Wait} (h12 : w.cell? ⟨g, q + 12, none⟩ = some u) (ho : w.ownsRow B 52 2 u ws.length (ws.flatMap wC)) (hn : ws.length ≤ 1000) (x : Int) :
    Calls Tryd.prog 96 #[.pointer (some ⟨g, q, none⟩), .int .i64 x] w fun e w' => e = .returned (.tuple #[.int .i64 ((T.newest ws x).getD 0), .bool (T.newest ws x).isSome]) ∧ w' = w := by
  obtain ⟨a, c, rfl, -, hat⟩ := row_at (m := 2) (f := wC) (0, 0) (fun _ => rfl) ho rfl
  obtain ⟨hnc, hcm⟩ : ws.length ≤ c ∧ c ≤ maxLen := by obtain ⟨a', c', e, h1, h2⟩ := own_sl ho; cases e; exact ⟨h1, h2⟩
  unfold maxLen at hcm
  have HAT : Hid _ := hat
  obtain ⟨n, hN⟩ : ∃ n, ws.length = n := ⟨_, rfl⟩
  have HT : Hid (ws.take n = ws) := by show _ = _; rw [← hN, List.take_length]
  have HG : Hid (∀ k, k < n → T.newest (ws.take (k + 1)) x = if (ws.getD k (0, 0)).1 = x then some (ws.getD k (0, 0)).2 else T.newest (ws.take k) x) := fun k hk => by
    have hk' : k < ws.length := by omega
    rw [List.take_succ_eq_append_getElem hk', T.newest_snoc]
    simp [List.getD, hk']
  have HE : Hid (T.newest ws x = T.newest (ws.take n) x) := by show _ = _; rw [HT.out]
  rw [hN] at h12 hn hnc HAT
  clear ho hat hN
  go_enter Tryd.func96, Tryd.ntmps96
  go_wp2
  go_loopw [6] (fun i wr => ∃ k : Nat, k ≤ n ∧ i = .int .i64 ((k : Int) - 1) ∧ Hid (T.newest ws x = T.newest (ws.take k) x) ∧ wr = w) (fun i _ => (RowKit.intOf i + 1).toNat)
  case atStart => exact ⟨n, Nat.le_refl _, rfl, HE, rfl⟩
  case round =>
    obtain ⟨k, hk, rfl, HN, rfl⟩ := hrel
    cases k with
    | zero =>
      go_wp2
      go_ret2
      have := HN.out
      rw [this]
      exact ⟨rfl, rfl⟩
    | succ k =>
      rcases HAT.out with h0 | ⟨gb, off, rfl, hc⟩
      · omega
      have d0 := hc k (by omega) 0 _ (by decide) rfl
      have d1 := hc k (by omega) 1 _ (by decide) rfl
      have e2 := HG.out k (by omega)
      obtain ⟨y, v, hp⟩ : ∃ y v, ws.getD k (0, 0) = (y, v) := ⟨_, _, rfl⟩
      rw [hp] at d0 d1 e2
      simp only [Nat.add_zero] at d0 d1 e2
      have HE2 : Hid _ := e2
      have HN2 : Hid _ := HN.out
      clear hc hp e2 HN
      have i0 : (0 : Int) ≤ (k : Int) := by omega
      have i2 : (k : Int) < (n : Int) := by omega
      have e1 : (((k + 1 : Nat) : Int) - 1) = (k : Int) := by omega
      rw [e1]
      by_cases e : y = x
      · subst e
        go_wp2
        go_ret2
        rw [HN2.out, HE2.out, if_pos trivial]
        exact ⟨rfl, rfl⟩
      · go_wp2
        go_roundw
        case rel => exact ⟨k, by omega, rfl, (by show _ = _; rw [HN2.out, HE2.out, if_neg e] : Hid _), trivial⟩
        case measure => simp [RowKit.intOf]

section
variable {B : Nat} {w w' : World} {b : Nat} {M : T.Mach} {K : Nat} {t t' : Nat → Nat} {bm g cap : Nat} {ev : Value} {us : List Value}
theorem TV.u {k : Nat} (h : TV B w b M K t bm g cap ev us) (hk : k < M.ts.length) : ∃ u, us[k]? = some u := ⟨_, List.getElem?_eq_getElem (by rw [h.len]; exact hk)⟩
theorem TV.cell {k : Nat} {u : Value} (h : TV B w b M K t bm g cap ev us) (hk : k < M.ts.length) (hu : us[k]? = some u) (j : Nat) (x : Value) (hj : (thC k (M.th k) u)[j]? = some x) : w.cell? ⟨g, k * 13 + j, none⟩ = some x := h.tc k _ u (T.th_at hk) hu j x hj
theorem set_same {α : Type} {l : List α} {k : Nat} {x : α} (h : l[k]? = some x) : l.set k x = l := by
  apply List.ext_getElem?
  intro i
  by_cases e : k = i
  · subst e; rw [List.getElem?_set_self (List.getElem?_eq_some_iff.1 h).1, h]
  · rw [List.getElem?_set_ne e]
theorem thC_len (k : Nat) (h : T.Th) (u : Value) : (thC k h u).length = 13 := rfl
theorem off_ne {g a b : Nat} (h : a ≠ b) : (⟨g, a, none⟩ : Addr) ≠ ⟨g, b, none⟩ := fun e => h (by have := congrArg Addr.off e; simpa using this)
/-- One of a thread's registers was stored over. -/
theorem TV.reg {k : Nat} {u : Value} {h' : T.Th} (h : TV B w b M K t bm g cap ev us) (hk : k < M.ts.length) (hu : us[k]? = some u) (j : Nat) (v : Value) (hj : j < 13) (hw : h'.ws = (M.th k).ws) (hc : thC k h' u = (thC k (M.th k) u).set j v) :
    TV B (w.setCell ⟨g, k * 13 + j, none⟩ v) b (M.put k M.mem h') K t bm g cap ev us ∧ St t t w (w.setCell ⟨g, k * 13 + j, none⟩ v) := by
  have hg := gb_set w ⟨g, k * 13 + j, none⟩ v
  have hne : ∀ q, q < w.heap.size → t q ≠ 3 → (w.setCell ⟨g, k * 13 + j, none⟩ v).heap[q]? = w.heap[q]? := fun q hq h3 => hg.block q hq (fun e => h3 (by cases e; exact h.tg))
  have H := h.thr (w' := w.setCell ⟨g, k * 13 + j, none⟩ v) (t' := t) (h' := h') (u' := u) hk (fun q hq h3 _ => hne q hq h3) hg.size ?_ ?_ ?_ ?_ (fun x hx => h.tw k u x hu hx) (fun _ _ => rfl) (fun q hq => ⟨(h.lt q hq).1, by rw [World.size_setCell]; exact (h.lt q hq).2⟩)
  · rw [set_same hu] at H
    exact ⟨H, St.ofGrown hg (by show t g ≠ 0; rw [h.tg]; decide) (fun _ _ => rfl)⟩
  · intro i x hx
    rw [hc] at hx
    by_cases e : j = i
    · subst e
      rw [List.getElem?_set_self (by rw [thC_len]; exact hj)] at hx
      cases hx
      refine World.cell?_setCell_same' _ _ _ ?_
      obtain ⟨y, hy⟩ : ∃ y, (thC k (M.th k) u)[j]? = some y := ⟨_, List.getElem?_eq_getElem (by rw [thC_len]; exact hj)⟩
      rw [h.cell hk hu j y hy]
      rfl
    · rw [List.getElem?_set_ne e] at hx
      rw [World.cell?_setCell_other _ _ _ _ (off_ne (by omega))]
      exact h.cell hk hu i x hx
  · intro o ho
    exact World.cell?_setCell_other _ _ _ _ (off_ne (by omega))
  · intro o
    rw [World.frozen?_setCell]
    exact h.gz o
  · rw [hw]
    exact (h.ws k _ u (T.th_at hk) hu).kept hg (.inr fun e => by have h1 := h.tw k u _ hu e; have h2 := h.tg; simp only at h1; omega)
end

set_option maxRecDepth 100000 in
set_option maxHeartbeats 4000000 in
theorem trap_any {B : Nat} {w : World} {b : Nat} {M : T.Mach} {K : Nat} {t : Nat → Nat} {bm g cap : Nat} {ev : Value} {us : List Value} (h : TV B w b M K t bm g cap ev us) {k q : Nat} (hk : k < M.ts.length) (hq : q = k * 13) (n : Int) :
    Calls Tryd.prog 57 #[.pointer (some ⟨g, q, none⟩), .int .i64 n] w fun e w' => e = .returned (.tuple #[]) ∧ TV B w' b (T.setC M k (T.trapC (M.th k).c n)) K t bm g cap ev us ∧ St t t w w' := by
  subst hq
  obtain ⟨u, hu⟩ := h.u hk
  have d9 := h.cell hk hu 9 _ rfl
  have d10 := h.cell hk hu 10 _ rfl
  have f9 := h.gz (k * 13 + 9)
  have f10 := h.gz (k * 13 + 10)
  obtain ⟨p1, s1⟩ := h.reg (h' := ⟨{ (M.th k).c with st := 2 }, (M.th k).ws⟩) hk hu 9 (.int .i64 2) (by decide) rfl rfl
  have hk1 : k < (M.put k M.mem ⟨{ (M.th k).c with st := 2 }, (M.th k).ws⟩).ts.length := by rw [T.len_put]; exact hk
  have e1 := T.th_put hk M.mem ⟨{ (M.th k).c with st := 2 }, (M.th k).ws⟩
  obtain ⟨p2, s2⟩ := p1.reg (h' := ⟨T.trapC (M.th k).c n, (M.th k).ws⟩) hk1 hu 10 (.int .i64 n) (by decide) (by rw [e1]) (by rw [e1]; rfl)
  rw [T.put_put] at p2
  have HP : Hid _ := p2
  have HS : Hid _ := s1.trans s2
  clear p1 p2 s1 s2 e1 hk1
  go_enter Tryd.func57, Tryd.ntmps57
  go_wp2
  go_end0
  exact ⟨rfl, HP.out, HS.out⟩

end Go.Proofs.YtdcdmlboilojmaaDoor

/- What is seen. -/
namespace Go.Proofs.YtdcdmlboilojmaaDoor
open Go.RowKit Go.Maps
set_option linter.unusedVariables false
set_option linter.unusedSimpArgs false

theorem infoE : (Tryd.prog.info? 81).map (fun i => (i.zero, i.size, i.bytes)) = some (some (.agg #[.int .i64 0, .int .i64 0, .int .i64 0]), 3, 24) := by kernel_rfl
theorem infoW : (Tryd.prog.info? 52).map (fun i => (i.zero, i.size, i.bytes)) = some (some (.agg #[.int .i64 0, .int .i64 0]), 2, 16) := by kernel_rfl
def mark (t : Nat → Nat) (x c : Nat) : Nat → Nat := fun k => if k = x then c else t k
theorem mark_at (t : Nat → Nat) (x c : Nat) : mark t x c x = c := if_pos rfl

theorem TV.saw {B : Nat} {w : World} {b : Nat} {M : T.Mach} {K : Nat} {t : Nat → Nat} {bm g cap : Nat} {ev : Value} {us : List Value} (h : TV B w b M K t bm g cap ev us) {X Y : World} {k x cp : Nat} {a n : Int} (hb1 : Below w.heap.size w X)
    (ho : Y.ownsRow B 81 3 (.slice (some ⟨x, 0, none⟩) (M.es.length + 1) cp) (M.es.length + 1) (M.es.flatMap eC ++ eC ((k : Int), a, n))) (hg : X.grownBy Y ev.ownBlock) (hat : ev.ownBlock = some x ∨ w.heap.size ≤ x) :
    TV B (Y.setCell ⟨b, 3, none⟩ (.slice (some ⟨x, 0, none⟩) (M.es.length + 1) cp)) b (M.see k a n) K (mark t x 4) bm g cap (.slice (some ⟨x, 0, none⟩) (M.es.length + 1) cp) us ∧ St t (mark t x 4) w (Y.setCell ⟨b, 3, none⟩ (.slice (some ⟨x, 0, none⟩) (M.es.length + 1) cp)) := by
  have hxl := ho.lt x rfl
  have hs : w.heap.size ≤ Y.heap.size := Nat.le_trans hb1.size hg.size
  have hbl := h.bl
  have htag : ∀ q, q < w.heap.size → mark t x 4 q = t q := fun q hq => by
    unfold mark
    by_cases e : q = x
    · subst e
      rw [if_pos rfl]
      rcases hat with h1 | h1
      · exact (h.te q h1).symm
      · omega
    · rw [if_neg e]
  have evb : ev.ownBlock ≠ some b := fun e => by have h1 := h.te b e; have h2 := h.tb; omega
  have hgs := gb_set Y ⟨b, 3, none⟩ (.slice (some ⟨x, 0, none⟩) (M.es.length + 1) cp)
  have hold : ∀ q, q < w.heap.size → t q ≠ 1 → t q ≠ 4 → (Y.setCell ⟨b, 3, none⟩ (.slice (some ⟨x, 0, none⟩) (M.es.length + 1) cp)).heap[q]? = w.heap[q]? := fun q hq h1 h4 =>
    (hgs.block q (Nat.lt_of_lt_of_le hq hs) (fun e => h1 (by cases e; exact h.tb))).trans ((hg.block q (Nat.lt_of_lt_of_le hq hb1.size) (fun e => h4 (h.te q e.symm))).trans (hb1.block q hq))
  have hYb : Y.heap[b]? = w.heap[b]? := (hg.block b (Nat.lt_of_lt_of_le hbl hb1.size) (fun e => evb e.symm)).trans (hb1.block b hbl)
  have hcY : ∀ o, Y.cell? ⟨b, o, none⟩ = w.cell? ⟨b, o, none⟩ := fun o => World.cell?_of_block (a := ⟨b, o, none⟩) hYb
  have hxb : x ≠ b := by
    rintro rfl
    rcases hat with h1 | h1
    · exact evb h1
    · omega
  refine ⟨h.event hold (by rw [World.size_setCell]; exact hs) ?_ ?_ ?_ ?_ ?_ htag ?_, ⟨htag, fun q hq h0 => hold q hq (by rw [h0]; decide) (by rw [h0]; decide), by rw [World.size_setCell]; exact hs, hg.os.trans hb1.os, hg.tape.trans hb1.tape, hg.output.trans hb1.output⟩⟩
  · exact World.cell?_setCell_same' _ _ _ (by rw [hcY, h.c3]; rfl)
  · intro o ho
    rw [World.cell?_setCell_other _ _ _ _ (off_ne (fun e => ho e.symm))]
    exact hcY o
  · intro o
    rw [World.frozen?_setCell]
    exact blk_froz (p := ⟨b, o, none⟩) hYb (h.fz o)
  · exact ho.kept hgs (.inr fun e => by cases e; exact hxb rfl)
  · intro y hy
    cases hy
    exact mark_at _ _ _
  · intro q hq
    rw [World.size_setCell]
    unfold mark at hq
    by_cases e : q = x
    · subst e; exact hxl
    · rw [if_neg e] at hq
      exact ⟨(h.lt q hq).1, Nat.lt_of_lt_of_le (h.lt q hq).2 hs⟩

set_option maxRecDepth 100000 in
set_option maxHeartbeats 4000000 in
theorem see_any {B : Nat} {w : World} {b : Nat} {M : T.Mach} {K : Nat} {t : Nat → Nat} {bm g cap : Nat} {ev : Value} {us : List Value} (h : TV B w b M K t bm g cap ev us) {k q : Nat} (hk : k < M.ts.length) (hq : q = k * 13) (a n : Int) (hes : M.es.length ≤ 1000000) :
    Calls Tryd.prog 46 #[.pointer (some ⟨b, 0, none⟩), .pointer (some ⟨g, q, none⟩), .int .i64 a, .int .i64 n] w fun e w' => e = .returned (.tuple #[]) ∧ ∃ t' ev', TV B w' b (M.see k a n) K t' bm g cap ev' us ∧ St t t' w w' := by
  subst hq
  obtain ⟨u, hu⟩ := h.u hk
  have d11 := h.cell hk hu 11 _ rfl
  have c3 := h.c3
  obtain ⟨ie, hie, hp0, hp1, hp2⟩ := info_partsL infoE
  have hbl := h.bl
  have hgl := h.gl
  have hBB := h.hB
  have HV : Hid _ := h
  have HB1 : Hid (Below w.heap.size w (w.alloc (.cells #[.int .i64 k, .int .i64 a, .int .i64 n] 81)).drew) := (bl_one _ _).drew
  have HW1 : Hid ((w.alloc (.cells #[.int .i64 k, .int .i64 a, .int .i64 n] 81)).drew.ownsRow B 81 3 ev M.es.length (M.es.flatMap eC)) := h.evs.kept (gb_of_below HB1.out (some w.heap.size)) (.inr fun e => by have := own_lt h.evs e; omega)
  have HNC : Hid (∀ j u, (eC ((k : Int), a, n))[j]? = some u → (w.alloc (.cells #[.int .i64 k, .int .i64 a, .int .i64 n] 81)).drew.cell? ((⟨w.heap.size, 0, none⟩ : Addr).add j) = some u) := fun j u hu => by
    rw [Addr.add_lit, Nat.zero_add]
    exact cell_last _ _ _ _ _ rfl (by simpa [eC] using hu)
  have hvb : ev.ownBlock ≠ some b := fun e => by have h1 := h.te b e; have h2 := h.tb; omega
  have F3a : (w.alloc (.cells #[.int .i64 k, .int .i64 a, .int .i64 n] 81)).drew.cell? ⟨b, 3, none⟩ = some ev := cell_up HB1.out c3
  clear h
  go_enter Tryd.func46, Tryd.ntmps46
  go_wp2_with fail
  go_region_law ((refine step_append_lies _ (by rfl) _ _ 39 (by rfl) B 81 ie _ 3 24 Tryd.underlying39 hie hp0 hp1 hp2 (by rfl) (by decide) ev M.es.length _ (by rfl) HW1.out ⟨w.heap.size, 0, none⟩ 1 1 (eC ((k : Int), a, n)) (by rfl) (by rfl) HNC.out (by intro u hu; simp [eC] at hu; rcases hu with rfl | rfl | rfl <;> rfl) (by decide) (by unfold maxLen; omega) (by omega) (by simp; omega) (w.heap.size + 1) (by simp) ?_; intro x cp Y6 ho6 hg6 hat6 hlt6; have m6 : Y6.cell? ⟨b, 3, none⟩ = some ev := hg6.cell F3a (fun e => hvb e.symm); have z6 : Y6.frozen? ⟨b, 3, none⟩ = false := (hg6.frozen_far ⟨b, 3, none⟩ (by show b < _; simp; omega) (fun e => hvb e.symm)).trans ((HB1.out.frozen (p := ⟨b, 3, none⟩) (by show b < _; omega)).trans (HV.out.fz 3))))
  all_goals
    go_wp2
    go_end0
    obtain ⟨r1, r2⟩ := HV.out.saw HB1.out ho6 hg6 (hat6.imp id (fun e => by omega))
    exact ⟨rfl, _, _, r1, r2⟩

end Go.Proofs.YtdcdmlboilojmaaDoor

/- A thread's oldest store leaves. -/
namespace Go.Proofs.YtdcdmlboilojmaaDoor
open Go.RowKit Go.Maps
set_option linter.unusedVariables false
set_option linter.unusedSimpArgs false

/-- append onto a row with room, of cells that lie wherever. -/
theorem step_append_spare {ops : Array Oper} {o : Oper} {ac : Act} {w : World} {K : Act → World → Prop} {Q : Exit → Act → World → Prop} {E : Prop} (hgd : o.guard = none) (s x : Operand) (t : TypeId)
    (ho : o.op = .call { callee := .builtin .append, args := #[s, x], argTypes := #[t, t] })
    (base : Nat) (e : TypeId) (i : TypeInfo) (size : Nat) (ht : Tryd.prog.underlying t = some (.slice e)) (hi : Tryd.prog.info? e = some i) (hsize : i.size = size)
    (g n cap : Nat) (xs : List Value) (hs : ac.eval s = .slice (some ⟨g, 0, none⟩) n cap) (hown : w.ownsRow base e size (.slice (some ⟨g, 0, none⟩) n cap) n xs)
    (ad : Addr) (m c : Nat) (news : List Value) (hx : ac.eval x = .slice (some ad) m c) (hl : news.length = m * size) (hnews : ∀ j u, news[j]? = some u → w.cell? (ad.add j) = some u) (h1 : ∀ u ∈ news, u.oneCell' = true)
    (hroom : n + m ≤ cap)
    (hk : ∀ w', w'.ownsRow base e size (.slice (some ⟨g, 0, none⟩) (n + m) cap) (n + m) (xs ++ news) → w.grownBy w' (some g) → K (ac.put o.dst (.slice (some ⟨g, 0, none⟩) (n + m) cap)) w') : if Region.wanted o (yielded ops ac.tmps) = true then Oper.wp Tryd.prog o ac w K Q else E := by
  have hw : Region.wanted o (yielded ops ac.tmps) = true := by simp [Region.wanted, hgd]
  rw [if_pos hw]
  exact wp_append_own_spare w s x t ho base e i size ht hi hsize g n cap xs hs hown ad m c news hx hl hnews h1 hroom hk

def markO (t : Nat → Nat) (u : Value) (c : Nat) : Nat → Nat := fun q => if u.ownBlock = some q then c else t q
/-- A thread's row of waiting stores is another one, or has others in it. -/
theorem TV.wait {B : Nat} {w : World} {b : Nat} {M : T.Mach} {K : Nat} {t : Nat → Nat} {bm g cap : Nat} {ev : Value} {us : List Value} (h : TV B w b M K t bm g cap ev us) {k : Nat} (hk : k < M.ts.length) {u u' : Value} (hu : us[k]? = some u) {X Y : World} (hb1 : Below w.heap.size w X) {ws' : List T.Wait}
    (ho : Y.ownsRow B 52 2 u' ws'.length (ws'.flatMap wC)) (hg : X.grownBy Y u.ownBlock) (hat : ∀ x, u'.ownBlock = some x → u.ownBlock = some x ∨ w.heap.size ≤ x) :
    TV B (Y.setCell ⟨g, k * 13 + 12, none⟩ u') b (M.put k M.mem ⟨(M.th k).c, ws'⟩) K (markO t u' (5 + k)) bm g cap ev (us.set k u') ∧ St t (markO t u' (5 + k)) w (Y.setCell ⟨g, k * 13 + 12, none⟩ u') := by
  have hs : w.heap.size ≤ Y.heap.size := Nat.le_trans hb1.size hg.size
  have hgl := h.gl
  have htag : ∀ q, q < w.heap.size → markO t u' (5 + k) q = t q := fun q hq => by
    unfold markO
    by_cases e : u'.ownBlock = some q
    · rw [if_pos e]
      rcases hat q e with h1 | h1
      · exact (h.tw k u q hu h1).symm
      · omega
    · rw [if_neg e]
  have evb : u.ownBlock ≠ some g := fun e => by have h1 := h.tw k u g hu e; have h2 := h.tg; omega
  have evb' : u'.ownBlock ≠ some g := fun e => by
    rcases hat g e with h1 | h1
    · exact evb h1
    · omega
  have hgs := gb_set Y ⟨g, k * 13 + 12, none⟩ u'
  have hold : ∀ q, q < w.heap.size → t q ≠ 3 → t q ≠ 5 + k → (Y.setCell ⟨g, k * 13 + 12, none⟩ u').heap[q]? = w.heap[q]? := fun q hq h1 h4 =>
    (hgs.block q (Nat.lt_of_lt_of_le hq hs) (fun e => h1 (by cases e; exact h.tg))).trans ((hg.block q (Nat.lt_of_lt_of_le hq hb1.size) (fun e => h4 (h.tw k u q hu e.symm))).trans (hb1.block q hq))
  have hYb : Y.heap[g]? = w.heap[g]? := (hg.block g (Nat.lt_of_lt_of_le hgl hb1.size) (fun e => evb e.symm)).trans (hb1.block g hgl)
  have hcY : ∀ o, Y.cell? ⟨g, o, none⟩ = w.cell? ⟨g, o, none⟩ := fun o => World.cell?_of_block (a := ⟨g, o, none⟩) hYb
  refine ⟨h.thr hk hold (by rw [World.size_setCell]; exact hs) ?_ ?_ ?_ ?_ ?_ htag ?_, ⟨htag, fun q hq h0 => hold q hq (by rw [h0]; decide) (by rw [h0]; omega), by rw [World.size_setCell]; exact hs, hg.os.trans hb1.os, hg.tape.trans hb1.tape, hg.output.trans hb1.output⟩⟩
  · intro i x hx
    by_cases e : i = 12
    · subst e
      have : x = u' := by simpa [thC] using hx.symm
      subst this
      exact World.cell?_setCell_same' _ _ _ (by rw [hcY, h.cell hk hu 12 _ rfl]; rfl)
    · have hi : i < 13 := (List.getElem?_eq_some_iff.1 hx).1
      rw [World.cell?_setCell_other _ _ _ _ (off_ne (by omega)), hcY]
      refine h.cell hk hu i x ?_
      rw [← hx]
      match i, hi, e with
      | 0, _, _ => rfl
      | 1, _, _ => rfl
      | 2, _, _ => rfl
      | 3, _, _ => rfl
      | 4, _, _ => rfl
      | 5, _, _ => rfl
      | 6, _, _ => rfl
      | 7, _, _ => rfl
      | 8, _, _ => rfl
      | 9, _, _ => rfl
      | 10, _, _ => rfl
      | 11, _, _ => rfl
      | 12, _, e => exact absurd rfl e
  · intro o ho
    rw [World.cell?_setCell_other _ _ _ _ (off_ne (by omega))]
    exact hcY o
  · intro o
    rw [World.frozen?_setCell]
    exact blk_froz (p := ⟨g, o, none⟩) hYb (h.gz o)
  · exact ho.kept hgs (.inr evb')
  · intro y hy
    exact if_pos hy
  · intro q hq
    rw [World.size_setCell]
    unfold markO at hq
    by_cases e : u'.ownBlock = some q
    · exact ho.lt q e
    · rw [if_neg e] at hq
      exact ⟨(h.lt q hq).1, Nat.lt_of_lt_of_le (h.lt q hq).2 hs⟩

set_option maxRecDepth 100000 in
set_option maxHeartbeats 4000000 in
theorem leave_no {B : Nat} {w : World} {b : Nat} {M : T.Mach} {K : Nat} {t : Nat → Nat} {bm g cap : Nat} {ev : Value} {us : List Value} (h : TV B w b M K t bm g cap ev us) {k q : Nat} (hk : k < M.ts.length) (hq : q = k * 13) (he : (M.th k).ws = []) :
    Calls Tryd.prog 33 #[.pointer (some ⟨b, 0, none⟩), .pointer (some ⟨g, q, none⟩)] w fun e w' => e = .returned (.bool false) ∧ w' = w := by
  subst hq
  obtain ⟨u, hu⟩ := h.u hk
  have d12 := h.cell hk hu 12 _ rfl
  have hr := h.ws k _ u (T.th_at hk) hu
  rw [he] at hr
  obtain ⟨a, c, rfl, hnc, hcm⟩ := own_sl hr
  simp only [List.length_nil] at d12
  clear h hr
  go_enter Tryd.func33, Tryd.ntmps33
  go_wp2
  go_ret
  exact ⟨rfl, rfl⟩

set_option maxRecDepth 100000 in
set_option maxHeartbeats 4000000 in
theorem leave_yes {B : Nat} {w : World} {b : Nat} {M : T.Mach} {K : Nat} {t : Nat → Nat} {bm g cap : Nat} {ev : Value} {us : List Value} (h : TV B w b M K t bm g cap ev us) {k q : Nat} (hk : k < M.ts.length) (hq : q = k * 13) {y v : Int} {r : List T.Wait} (he : (M.th k).ws = (y, v) :: r) (hy : (Lit.int .i64 y).wf = true) (hv : (Lit.int .i64 v).wf = true) (hK : K < maxLen) (hr8 : r.length ≤ 1000) :
    Calls Tryd.prog 33 #[.pointer (some ⟨b, 0, none⟩), .pointer (some ⟨g, q, none⟩)] w fun e w' => e = .returned (.bool true) ∧ ∃ t' us', TV B w' b (M.put k (T.upd M.mem y v) ⟨(M.th k).c, r⟩) (K + 1) t' bm g cap ev us' ∧ St t t' w w' := by
  subst hq
  obtain ⟨u, hu⟩ := h.u hk
  have d12 := h.cell hk hu 12 _ rfl
  have hr := h.ws k _ u (T.th_at hk) hu
  rw [he] at hr
  obtain ⟨a, c, rfl, hnc, hcm⟩ := own_sl hr
  rcases hr.2 with ⟨hn, -⟩ | ⟨x, c', cur, hsl, -⟩
  · cases hn
  obtain ⟨rfl, -, rfl⟩ : a = some ⟨x, 0, none⟩ ∧ True ∧ c = c' := by cases hsl; exact ⟨rfl, trivial, rfl⟩
  have x0 := hr.cellAt 0 (by simp)
  have x1 := hr.cellAt 1 (by simp; omega)
  simp only [List.length_cons, List.flatMap_cons, wC] at d12 x0 x1 hnc hr
  simp at x0 x1
  have c1 := h.c1
  have HV : Hid _ := h
  have HR : Hid (w.ownsRow B 52 2 (.slice (some ⟨x, 0, none⟩) (r.length + 1) c) (r.length + 1) ([.int .i64 y, .int .i64 v] ++ r.flatMap wC)) := hr
  obtain ⟨iw, hiw, hp0, hp1, hp2⟩ := info_partsL infoW
  clear h hr hsl
  unfold maxLen at hcm
  obtain ⟨X1, hX1⟩ : ∃ X1, w.alloc (.cells #[.int .i64 y, .int .i64 v] 52) = X1 := ⟨_, rfl⟩
  have b1 : Below w.heap.size w X1 := by subst hX1; exact bl_one _ _
  have o0 : X1.cell? ⟨w.heap.size, 0, none⟩ = some (.int .i64 y) := by subst hX1; exact cell_last _ _ _ _ _ rfl rfl
  have o1 : X1.cell? ⟨w.heap.size, 1, none⟩ = some (.int .i64 v) := by subst hX1; exact cell_last _ _ _ _ _ rfl rfl
  have c11 := cell_up b1 c1
  have HV1 : Hid (TV B X1.drew b M K t bm g cap ev us) := HV.out.below b1.drew
  have HX1 : Hid _ := hX1
  go_enter Tryd.func33, Tryd.ntmps33
  go_wp2_with fail
  have z1 : X1.heap.size = w.heap.size + 1 := by subst hX1; simp
  have HT0 : Hid (t w.heap.size = 0) := Classical.byContradiction fun e => by have := (HV.out.lt _ e).2; omega
  have HKK : Hid (∀ y2 : World, On t 2 X1.drew y2 → y2.cell? ⟨b, 1, none⟩ = some (.pointer (some ⟨bm, 0, none⟩)) ∧ y2.cell? ⟨w.heap.size, 0, none⟩ = some (.int .i64 y) ∧ y2.cell? ⟨w.heap.size, 1, none⟩ = some (.int .i64 v)) := fun y2 hon => by
    have e1 := hon.block b HV1.out.bl (by rw [HV.out.tb]; decide)
    have e2 := hon.block w.heap.size (by show _ < X1.heap.size; omega) (by rw [HT0.out]; decide)
    exact ⟨blk_cell (p := ⟨b, 1, none⟩) e1 c11, blk_cell (p := ⟨w.heap.size, 0, none⟩) e2 o0, blk_cell (p := ⟨w.heap.size, 1, none⟩) e2 o1⟩
  have h0 := mp_store HV1.out.mem y v hy hv hK HV1.out.hB
  generalize (T.er (M.mem y)) = z at h0
  have HST : Hid (Calls Tryd.prog 47 #[.pointer (some ⟨bm, 0, none⟩), .int .i64 y, .int .i64 v] X1.drew fun e w' => e = .returned (.int .i64 z) ∧ MP B w' bm (T.upd M.mem y v) (K + 1) t ∧ On t 2 X1.drew w') := h0
  clear h0
  go_region_held3 (fun w' : World => w'.cell? ⟨b, 1, none⟩ = some (.pointer (some ⟨bm, 0, none⟩)) ∧ w'.cell? ⟨w.heap.size, 0, none⟩ = some (.int .i64 y) ∧ w'.cell? ⟨w.heap.size, 1, none⟩ = some (.int .i64 v)) (first | exact ⟨c11, o0, o1⟩ | exact HKK.out _ hon2) ((go_at_call 47; refine HST.out.mono ?_; rintro e y2 ⟨rfl, hm2, hon2⟩))
  have hv2 := HV1.out.memop hon2 hm2
  have hr2 : y2.ownsRow B 52 2 (.slice (some ⟨x, 0, none⟩) (r.length + 1) c) (r.length + 1) ([.int .i64 y, .int .i64 v] ++ r.flatMap wC) := by
    have := hv2.ws k (M.th k) _ (T.th_at hk) hu
    rw [he] at this
    exact this
  have d2 : y2.cell? ⟨g, k * 13 + 12, none⟩ = some (.slice (some ⟨x, 0, none⟩) (r.length + 1) c) := hv2.tc k (M.th k) _ (T.th_at hk) hu 12 _ rfl
  have g2 := hv2.gz (k * 13 + 12)
  have HRD : Hid (y2.drew.ownsRow B 52 2 (.slice (some ⟨x, 0, none⟩) 0 c) 0 []) := by
    have := hr2.drew
    rcases this.2 with ⟨hn, -⟩ | ⟨x', c', cur, hsl, q1, q2, q3, q4, q5, q6⟩
    · cases hn
    · cases hsl
      exact ⟨rfl, .inr ⟨x, c, cur, rfl, q1, q2, Nat.zero_le _, q4, q5, by simp⟩⟩
  have hone : (1 : Int) ≤ (r.length : Int) + 1 := by omega
  obtain ⟨o, hif, ho2⟩ : ∃ o : Nat, (if c = 1 then (some ⟨x, 0, none⟩ : Option Addr) else some ⟨x, 2, none⟩) = some ⟨x, o, none⟩ ∧ (r = [] ∨ o = 2) := by
    by_cases e : c = 1
    · refine ⟨0, if_pos e, .inl (List.eq_nil_of_length_eq_zero (by omega))⟩
    · exact ⟨2, if_neg e, .inr rfl⟩
  have HNC : Hid (∀ j u, (r.flatMap wC)[j]? = some u → y2.drew.cell? ((⟨x, o, none⟩ : Addr).add j) = some u) := fun j u hj => by
    rcases ho2 with rfl | rfl
    · simp at hj
    · have hjl := (List.getElem?_eq_some_iff.1 hj).1
      rw [flat_len' (m := 2) (fun _ => rfl)] at hjl
      have := hr2.cellAt (2 + j) (by omega)
      rw [Addr.add_lit]
      refine this.trans ?_
      rw [List.getElem?_append_right (by simp)]
      simpa using hj
  have HLN : Hid ((r.flatMap wC).length = r.length * 2) := flat_len' (m := 2) (fun _ => rfl) r
  have HON : Hid (∀ u ∈ r.flatMap wC, u.oneCell' = true) := fun u hu => by
    obtain ⟨p, -, hp⟩ := List.mem_flatMap.1 hu
    simp [wC] at hp
    rcases hp with rfl | rfl <;> rfl
  have HV2 : Hid (TV B y2 b { M with mem := T.upd M.mem y v } (K + 1) t bm g cap ev us) := hv2
  have HR2 : Hid (y2.ownsRow B 52 2 (.slice (some ⟨x, 0, none⟩) (r.length + 1) c) (r.length + 1) ([.int .i64 y, .int .i64 v] ++ r.flatMap wC)) := hr2
  have hxg : g ≠ x := by
    have h1 := HV.out.tw k _ x hu rfl
    have h2 := HV.out.tg
    rintro rfl
    omega
  clear hv2 hr2 x0 x1 o0 o1 c1 c11 d12 HST HKK
  go_wp2_with fail
  go_region_law ((refine step_append_spare (by rfl) _ _ 45 (by rfl) B 52 iw 2 Tryd.underlying45 hiw hp1 x 0 c [] (by rfl) HRD.out _ r.length _ (r.flatMap wC) (by rfl) HLN.out HNC.out HON.out (by omega) ?_; intro Y6 ho6 hg6; have m6 : Y6.cell? ⟨g, k * 13 + 12, none⟩ = some (.slice (some ⟨x, 0, none⟩) (r.length + 1) c) := hg6.cell d2 (by simpa using hxg); have z6 : Y6.frozen? ⟨g, k * 13 + 12, none⟩ = false := (hg6.frozen_far ⟨g, k * 13 + 12, none⟩ HV2.out.gl (by simpa using hxg)).trans g2))
  all_goals
    go_wp2
    go_ret
    rw [Nat.zero_add, List.nil_append] at ho6
    obtain ⟨r1, r2⟩ := HV2.out.wait hk hu (X := y2.drew) (Below.refl _ _).drew ho6 hg6 (fun x hx => .inl hx)
    exact ⟨rfl, _, _, r1, (St.ofBelow t b1).trans (St.trans ⟨fun _ _ => rfl, fun k hk h0 => hon2.block k hk (by rw [h0]; decide), hon2.size, hon2.os, hon2.tape, hon2.output⟩ r2)⟩

end Go.Proofs.YtdcdmlboilojmaaDoor

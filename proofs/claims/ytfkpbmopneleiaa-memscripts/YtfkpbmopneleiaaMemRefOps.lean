/- The document's Load, Store, Foot and Words. -/
import Derived.Test.YtfkpbmopneleiaaMemRefX
import Derived.Test.YtfkpbmopneleiaaMemRefFind
import Derived.Test.YtfkpbmopneleiaaMemStaysMath
import Derived.Test.YtfkpbmopneleiaaMemFoot
namespace Go.Proofs.Ytfkpbmopneleiaa
open Go.RowKit Go.Maps
set_option linter.unusedVariables false

/-- What Load answers, and what was read then. -/
def LdA (rs : List Reg) (R : List Int) (x a f : Int) (R' : List Int) : Prop := (∃ i j, Loc rs x i j ∧ a = wordAt rs i j ∧ f = 0 ∧ R' = R ++ [x]) ∨ (NoLoc rs x ∧ a = 0 ∧ f = 11 ∧ R' = R)
theorem LdA.uniq {rs : List Reg} {R R1 R2 : List Int} {x a f b g : Int} (h : LdA rs R x a f R1) (k : LdA rs R x b g R2) : a = b ∧ f = g ∧ R1 = R2 := by
  rcases h with ⟨i, j, h1, rfl, rfl, rfl⟩ | ⟨h1, rfl, rfl, rfl⟩ <;> rcases k with ⟨i', j', k1, rfl, rfl, rfl⟩ | ⟨k1, rfl, rfl, rfl⟩
  · obtain ⟨rfl, rfl⟩ := loc_uniq h1 k1; exact ⟨rfl, rfl, rfl⟩
  · exact (loc_excl h1 k1).elim
  · exact (loc_excl k1 h1).elim
  · exact ⟨rfl, rfl, rfl⟩
theorem LdA.len {rs : List Reg} {R R1 : List Int} {x a f : Int} (h : LdA rs R x a f R1) : R1.length ≤ R.length + 1 := by
  rcases h with ⟨i, j, h1, rfl, rfl, rfl⟩ | ⟨h1, rfl, rfl, rfl⟩ <;> simp
/-- What Store answers, and what the regions are, and what was written then. -/
def StA (rs : List Reg) (W : List Int) (x n g : Int) (rs' : List Reg) (W' : List Int) : Prop := (∃ i j, Loc rs x i j ∧ (rs.getD i noReg).write = true ∧ g = 0 ∧ rs' = putWord rs i j n ∧ W' = W ++ [x]) ∨ ((NoLoc rs x ∨ ∃ i j, Loc rs x i j ∧ (rs.getD i noReg).write = false) ∧ g = 11 ∧ rs' = rs ∧ W' = W)
theorem StA.uniq {rs r1 r2 : List Reg} {W W1 W2 : List Int} {x n f g : Int} (h : StA rs W x n f r1 W1) (k : StA rs W x n g r2 W2) : f = g ∧ r1 = r2 ∧ W1 = W2 := by
  rcases h with ⟨i, j, h1, h2, rfl, rfl, rfl⟩ | ⟨h1, rfl, rfl, rfl⟩ <;> rcases k with ⟨i', j', k1, k2, rfl, rfl, rfl⟩ | ⟨k1, rfl, rfl, rfl⟩
  · obtain ⟨rfl, rfl⟩ := loc_uniq h1 k1; exact ⟨rfl, rfl, rfl⟩
  · rcases k1 with k1 | ⟨i', j', k1, k2⟩
    · exact (loc_excl h1 k1).elim
    · obtain ⟨rfl, rfl⟩ := loc_uniq h1 k1
      rw [h2] at k2
      cases k2
  · rcases h1 with h1 | ⟨i, j, h1, h2⟩
    · exact (loc_excl k1 h1).elim
    · obtain ⟨rfl, rfl⟩ := loc_uniq h1 k1
      rw [h2] at k2
      cases k2
  · exact ⟨rfl, rfl, rfl⟩
theorem StA.ok {rs rs' : List Reg} {W W' : List Int} {x n g : Int} (h : StA rs W x n g rs' W') (ho : AllOk rs) : AllOk rs' ∧ rs'.length = rs.length ∧ W'.length ≤ W.length + 1 := by
  rcases h with ⟨i, j, h1, h2, rfl, rfl, rfl⟩ | ⟨h1, rfl, rfl, rfl⟩
  · exact ⟨put_ok ho i j n, putWord_len rs i j n, by simp⟩
  · exact ⟨ho, rfl, by simp⟩

set_option maxRecDepth 100000 in
set_option maxHeartbeats 4000000 in
theorem rload_any {B : Nat} {w : World} {bx : Nat} {rs : List Reg} {R W : List Int} {t : Nat → Nat} (h : RefX B w bx rs R W t) (ho : AllOk rs) (x : Int) (hx : (Lit.int .i64 x).wf = true) (hn : R.length ≤ 1000) (hl : rs.length ≤ 1000000) (hB : B ≤ w.heap.size) :
    Calls Try.prog 21 #[.pointer (some ⟨bx, 0, none⟩), .int .i64 x] w fun e w' => ∃ a f R' t', e = .returned (.tuple #[.int .i64 a, .int .i64 f]) ∧ LdA rs R x a f R' ∧ RefX B w' bx rs R' W t' ∧ St t t' w w' := by
  obtain ⟨lv, v1, v2, us, L1, L2, h⟩ := h
  have HM : Hid _ := h
  obtain ⟨fa, fc, hlv, -, -, -⟩ := h.reg.form
  subst hlv
  have m0 := h.c0
  have HR : Hid _ := h.reg.regs
  have hL1 : L1.length ≤ 1000 := by have := ris_len h.i1; omega
  have HOK : Hid _ := ho
  clear h ho
  go_enter Try.func21, Try.ntmps21
  go_wp2_with fail
  refine (rfind_any m0 HR.out HOK.out hl hx).mono ?_
  rintro e w1 ⟨hb1, ⟨i, j, hl, rfl⟩ | ⟨hl, rfl⟩⟩
  · have H1 : Hid _ := HM.out.below hb1
    have hl' := hl
    obtain ⟨-, hi, -, -, -, hj⟩ := hl'
    have HL : Hid (Loc rs x i j) := hl
    have zz := hb1.size
    obtain ⟨pa, pc, hv1, PV⟩ := view_own H1.out.f1 H1.out.o1
    subst hv1
    have HPV : Hid _ := PV
    have m1 := H1.out.c1
    have HH : Hid (B ≤ w1.heap.size) := Nat.le_trans hB zz
    clear hl PV m0 HR
    go_wp2_with fail
    refine (rput_any x HPV.out (by omega)).mono ?_
    rintro e w2 ⟨v', rfl, ho2, hb2⟩
    obtain ⟨qa, qc, hv', -⟩ := view_own (fits_put H1.out.i1 H1.out.f1 hx) ho2
    subst hv'
    obtain ⟨t', hX, hS⟩ := H1.out.read hb2 ho2 hx HH.out
    have c1 := (hb2.cell (p := ⟨bx, 1, none⟩) H1.out.lt).trans m1
    have z1 := (hb2.frozen (p := ⟨bx, 1, none⟩) H1.out.lt).trans (H1.out.fz 1)
    obtain ⟨Y, hY⟩ : ∃ Y, w2.setCell ⟨bx, 1, none⟩ (.slice qa (putL x L1).length qc) = Y := ⟨_, rfl⟩
    rw [hY] at hX hS
    have HX : Hid _ := hX
    have HS : Hid (St t t' w Y) := (St.ofBelow t hb1).trans hS
    obtain ⟨lv', v1', v2', us', L1', L2', hV⟩ := hX
    obtain ⟨fa', fc', hlv', -, -, hcs⟩ := hV.reg.form
    have d0 := hV.c0
    rw [hlv'] at d0
    rcases hcs with h0 | ⟨g, rfl, hgz, -, hc⟩
    · omega
    obtain ⟨-, k1, -⟩ := hc i hi
    obtain ⟨a1, cc, e1, Vw⟩ := hV.reg.view i hi
    rw [e1] at k1
    rcases Vw.cells with h0 | ⟨bq, off, hq, hcw⟩
    · omega
    have hw := hcw j hj
    subst hq
    have HW : Hid (wordAt rs i j = (rs.getD i noReg).words.getD j 0) := rfl
    generalize (rs.getD i noReg).words.getD j 0 = wv at *
    generalize hln : (rs.getD i noReg).words.length = ln at *
    have i0 : (0 : Int) ≤ (i : Int) := by omega
    have i1 : (i : Int) < (rs.length : Int) := by omega
    have j0 : (0 : Int) ≤ (j : Int) := by omega
    have j1 : (j : Int) < (ln : Int) := by omega
    clear hcw hc hV ho2 hb2 hS Vw
    go_wp2
    go_ret2
    refine ⟨wv, 0, R ++ [x], t', rfl, .inl ⟨i, j, HL.out, HW.out.symm, rfl, rfl⟩, HX.out, HS.out⟩
  · have H1 : Hid _ := HM.out.below hb1
    have HL : Hid (NoLoc rs x) := hl
    have HS : Hid (St t t w w1) := St.ofBelow t hb1
    clear hl
    go_wp2
    go_ret2
    exact ⟨0, 11, R, t, rfl, .inr ⟨HL.out, rfl, rfl, rfl⟩, ⟨_, _, _, _, _, _, H1.out⟩, HS.out⟩

set_option maxRecDepth 100000 in
set_option maxHeartbeats 4000000 in
theorem rstore_any {B : Nat} {w : World} {bx : Nat} {rs : List Reg} {R W : List Int} {t : Nat → Nat} (h : RefX B w bx rs R W t) (ho : AllOk rs) (x n : Int) (hx : (Lit.int .i64 x).wf = true) (hnw : (Lit.int .i64 n).wf = true) (hn : W.length ≤ 1000) (hl : rs.length ≤ 1000000) (hB : B ≤ w.heap.size) :
    Calls Try.prog 13 #[.pointer (some ⟨bx, 0, none⟩), .int .i64 x, .int .i64 n] w fun e w' => ∃ g rs' W' t', e = .returned (.int .i64 g) ∧ StA rs W x n g rs' W' ∧ RefX B w' bx rs' R W' t' ∧ St t t' w w' := by
  obtain ⟨lv, v1, v2, us, L1, L2, h⟩ := h
  have HM : Hid _ := h
  obtain ⟨fa, fc, hlv, -, -, -⟩ := h.reg.form
  subst hlv
  have m0 := h.c0
  have HR : Hid _ := h.reg.regs
  have hL1 : L2.length ≤ 1000 := by have := ris_len h.i2; omega
  have HOK : Hid _ := ho
  clear h ho
  go_enter Try.func13, Try.ntmps13
  go_wp2_with fail
  refine (rfind_any m0 HR.out HOK.out hl hx).mono ?_
  rintro e w1 ⟨hb1, ⟨i, j, hl, rfl⟩ | ⟨hl, rfl⟩⟩
  · have H1 : Hid _ := HM.out.below hb1
    have hl' := hl
    obtain ⟨-, hi, -, -, -, hj⟩ := hl'
    have HL : Hid (Loc rs x i j) := hl
    have zz := hb1.size
    have i0 : (0 : Int) ≤ (i : Int) := by omega
    have i1 : (i : Int) < (rs.length : Int) := by omega
    have n0 := H1.out.c0
    obtain ⟨fa', fc', e', -, -, hcs⟩ := H1.out.reg.form
    rcases hcs with h0 | ⟨g, hfa, hgz, -, hc⟩
    · omega
    cases e'
    subst hfa
    obtain ⟨-, -, k2⟩ := hc i hi
    clear hl m0 HR hc
    cases hwr : (rs.getD i noReg).write with
    | false =>
      rw [hwr] at k2
      have HWR : Hid _ := hwr
      have HS : Hid (St t t w w1) := St.ofBelow t hb1
      clear hwr
      go_wp2
      go_ret
      exact ⟨11, rs, W, t, rfl, .inr ⟨.inr ⟨i, j, HL.out, HWR.out⟩, rfl, rfl, rfl⟩, ⟨_, _, _, _, _, _, H1.out⟩, HS.out⟩
    | true =>
      rw [hwr] at k2
      have HWR : Hid _ := hwr
      obtain ⟨pa, pc, hv1, PV⟩ := view_own H1.out.f2 H1.out.o2
      subst hv1
      have HPV : Hid _ := PV
      have m1 := H1.out.c2
      have HH : Hid (B ≤ w1.heap.size) := Nat.le_trans hB zz
      clear hwr PV
      go_wp2_with fail
      refine (rput_any x HPV.out (by omega)).mono ?_
      rintro e w2 ⟨v', rfl, ho2, hb2⟩
      obtain ⟨qa, qc, hv', -⟩ := view_own (fits_put H1.out.i2 H1.out.f2 hx) ho2
      subst hv'
      obtain ⟨t', hX, hS⟩ := H1.out.wrote hb2 ho2 hx HH.out
      have c1 := (hb2.cell (p := ⟨bx, 2, none⟩) H1.out.lt).trans m1
      have z1 := (hb2.frozen (p := ⟨bx, 2, none⟩) H1.out.lt).trans (H1.out.fz 2)
      obtain ⟨Y, hY⟩ : ∃ Y, w2.setCell ⟨bx, 2, none⟩ (.slice qa (putL x L2).length qc) = Y := ⟨_, rfl⟩
      rw [hY] at hX hS
      have d0 := hX.c0
      obtain ⟨fa', fc', e', -, -, hcs⟩ := hX.reg.form
      rcases hcs with h0 | ⟨g', hfa, hgz', -, hc⟩
      · omega
      cases e'
      cases hfa
      obtain ⟨-, k1, -⟩ := hc i hi
      obtain ⟨gw, gc, e1, hwc, hwf, HXP, HSP⟩ := hX.putW i j hi hj n hnw
      rw [e1] at k1
      have HX2 : Hid _ := HXP
      have HS : Hid (St t t' w (Y.setCell ⟨gw, j, none⟩ (.int .i64 n))) := ((St.ofBelow t hb1).trans hS).trans HSP
      generalize (rs.getD i noReg).words.getD j 0 = wv at *
      generalize hln : (rs.getD i noReg).words.length = ln at *
      have j0 : (0 : Int) ≤ (j : Int) := by omega
      have j1 : (j : Int) < (ln : Int) := by omega
      clear hc hX ho2 hb2 hS HXP HSP
      go_wp2
      go_ret
      exact ⟨0, putWord rs i j n, W ++ [x], t', rfl, .inl ⟨i, j, HL.out, HWR.out, rfl, rfl, rfl⟩, HX2.out, HS.out⟩
  · have H1 : Hid _ := HM.out.below hb1
    have HL : Hid (NoLoc rs x) := hl
    have HS : Hid (St t t w w1) := St.ofBelow t hb1
    clear hl
    go_wp2
    go_ret
    exact ⟨11, rs, W, t, rfl, .inr ⟨.inl HL.out, rfl, rfl, rfl⟩, ⟨_, _, _, _, _, _, H1.out⟩, HS.out⟩

end Go.Proofs.Ytfkpbmopneleiaa

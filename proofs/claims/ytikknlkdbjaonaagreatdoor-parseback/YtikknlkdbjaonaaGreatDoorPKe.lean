/- The document's comparisons: lists of numbers. -/
import Derived.Test.YtikknlkdbjaonaaGreatDoorPBAv
namespace Go.Proofs.YtikknlkdbjaonaaGreatDoor.Y
open Go.RowKit Go.Maps Go.Lib
set_option linter.unusedVariables false
set_option linter.unusedSimpArgs false
set_option maxRecDepth 100000 in
set_option maxHeartbeats 4000000 in
theorem ints_any {C D : Nat} {w : World} {a b : Option Addr} {c d : Nat} {l m : List Int} (hl : w.ownsRow C 3 1 (.slice a l.length c) l.length (l.map iZ)) (hm : w.ownsRow D 3 1 (.slice b m.length d) m.length (m.map iZ)) : Calls Tryz.prog 35 #[.slice a l.length c, .slice b m.length d] w fun e w' => e = .returned (.bool (decide (l = m))) ∧ Below w.heap.size w w' := by
  have hm2 : maxLen = 9223372036854775807 := rfl
  have hlm : l.length ≤ maxLen := by rcases hl.2 with ⟨e1, e2⟩ | ⟨g, cap, cur, e1, e2, e3, e4, e5, -⟩ <;> omega
  have hmm : m.length ≤ maxLen := by rcases hm.2 with ⟨e1, e2⟩ | ⟨g, cap, cur, e1, e2, e3, e4, e5, -⟩ <;> omega
  have HL : Hid (∀ y, Below w.heap.size w y → y.ownsRow C 3 1 (.slice a l.length c) l.length (l.map iZ)) := fun y hy => row_thru' hl hy
  have HM : Hid (∀ y, Below w.heap.size w y → y.ownsRow D 3 1 (.slice b m.length d) m.length (m.map iZ)) := fun y hy => row_thru' hm hy
  clear hl hm
  go_enter Tryz.func35, Tryz.ntmps35
  by_cases hlen : l.length = m.length
  case neg =>
    have e0 : ((l.length : Int) != (m.length : Int)) = true := by
      have : (l.length : Int) ≠ m.length := fun e => hlen (by omega)
      simpa using this
    have HF : Hid (decide (l = m) = false) := decide_eq_false fun e => hlen (by rw [e])
    clear hlen
    go_wp2_with fail
    go_ret
    exact ⟨by rw [HF.out]; rfl, Below.refl _ _⟩
  have e0 : ((l.length : Int) != (m.length : Int)) = false := by rw [hlen]; simp
  have HLE : Hid (l.length = m.length) := hlen
  clear hlen
  go_wp2_with fail
  go_loopg [5] l.length (fun gg v5 wq => ∃ (k : Nat), gg = l.length - k ∧ v5 = .int .i64 (k : Int) ∧ k ≤ l.length ∧ Hid (∀ j, j < k → l[j]? = m[j]?) ∧ Hid (Below w.heap.size w wq))
  case atStart => exact ⟨0, rfl, rfl, Nat.zero_le _, (fun j hj => by omega : ∀ j, j < 0 → l[j]? = m[j]?), Below.refl _ _⟩
  case round =>
    obtain ⟨k, rfl, rfl, hk, HE, HB⟩ := hrel
    by_cases hkl : k < l.length
    · have hkm : k < m.length := by have := HLE.out; omega
      have hki : (k : Int) < l.length := by omega
      have hkj : (k : Int) < m.length := by omega
      have hk0 : 0 ≤ (k : Int) := by omega
      obtain ⟨x, hx⟩ : ∃ x, l[k] = x := ⟨_, rfl⟩
      obtain ⟨y, hy⟩ : ∃ y, m[k] = y := ⟨_, rfl⟩
      have HXY : Hid (l[k]? = some x ∧ m[k]? = some y) := ⟨by rw [List.getElem?_eq_getElem hkl, hx], by rw [List.getElem?_eq_getElem hkm, hy]⟩
      obtain ⟨g, rfl, hc1⟩ := row_at (HL.out _ HB.out) hkl
      obtain ⟨g2, rfl, hc2⟩ := row_at (HM.out _ HB.out) hkm
      rw [hx] at hc1
      rw [hy] at hc2
      clear hx hy
      by_cases hxy : x = y
      · subst hxy
        have e1 : (x != x) = false := by simp
        go_wp2_with fail
        go_quiet (fail)
        go_wp2
        go_roundg (l.length - (k + 1))
        case measure => omega
        case rel =>
          refine ⟨k + 1, rfl, by go_num, by omega, ?_, below_drew' HB.out _⟩
          intro j hj
          by_cases e : j = k
          · subst e; rw [HXY.out.1, HXY.out.2]
          · exact HE.out j (by omega)
      · have HF : Hid (decide (l = m) = false) := decide_eq_false fun e => hxy (by
          have h1 := HXY.out.1
          rw [e, HXY.out.2] at h1
          injection h1 with h1
          exact h1.symm)
        have e1 : (x != y) = true := by simpa using hxy
        clear hxy
        go_wp2_with fail
        go_quiet (fail)
        go_wp2
        go_ret
        exact ⟨by rw [HF.out]; rfl, below_drew' HB.out _⟩
    · obtain rfl : k = l.length := by omega
      have HF : Hid (decide (l = m) = true) := decide_eq_true (List.ext_getElem? fun j => by
        rcases Nat.lt_or_ge j l.length with h | h
        · exact HE.out j h
        · rw [List.getElem?_eq_none h, List.getElem?_eq_none (by rw [← HLE.out]; exact h)])
      have hii : ¬ (l.length : Int) < (l.length : Int) := by omega
      go_wp2_with fail
      go_ret
      exact ⟨by rw [HF.out]; rfl, HB.out⟩
end Go.Proofs.YtikknlkdbjaonaaGreatDoor.Y

/- The document's comparisons: statements, declarations. -/
namespace Go.Proofs.YtikknlkdbjaonaaGreatDoor.Y
open Go.RowKit Go.Maps Go.Lib
set_option linter.unusedVariables false
set_option linter.unusedSimpArgs false
set_option maxRecDepth 100000 in
set_option maxHeartbeats 8000000 in
theorem rsameStmt_any {C D : Nat} {w : World} (p q : Sx) (hp : SxR C w p) (hq : SxR D w q) : Calls Tryz.prog 20 #[stV p, stV q] w fun e w' => e = .returned (.bool (decide (p.s = q.s))) ∧ Below w.heap.size w w' := by
  obtain ⟨⟨kd1, nm1, fn1, e1, i1, la1, lb1, ll1⟩, vla1, vlb1, vll1⟩ := p
  obtain ⟨rla1, rlb1, rll1⟩ := hp
  dsimp only at rla1 rlb1 rll1
  obtain ⟨pla1, cla1, hv⟩ := row_form rla1
  subst hv
  obtain ⟨plb1, clb1, hv⟩ := row_form rlb1
  subst hv
  obtain ⟨pll1, cll1, hv⟩ := row_form rll1
  subst hv
  obtain ⟨⟨kd2, nm2, fn2, e2, i2, la2, lb2, ll2⟩, vla2, vlb2, vll2⟩ := q
  obtain ⟨rla2, rlb2, rll2⟩ := hq
  dsimp only at rla2 rlb2 rll2
  obtain ⟨pla2, cla2, hv⟩ := row_form rla2
  subst hv
  obtain ⟨plb2, clb2, hv⟩ := row_form rlb2
  subst hv
  obtain ⟨pll2, cll2, hv⟩ := row_form rll2
  subst hv
  unfold stV
  dsimp only
  obtain ⟨R, hR⟩ : ∃ R, decide (((⟨kd1, nm1, fn1, e1, i1, la1, lb1, ll1⟩ : Stmt) = ⟨kd2, nm2, fn2, e2, i2, la2, lb2, ll2⟩)) = R := ⟨_, rfl⟩
  rw [hR]
  have HR : Hid (_ = R) := hR
  obtain ⟨Y1, hY1⟩ : ∃ Y, w.alloc (.cells #[.int .i64 kd1, .string (X.str nm1), .string (X.str fn1), .int .i64 e1, .int .i64 i1, .slice pla1 la1.length cla1, .slice plb1 lb1.length clb1, .slice pll1 ll1.length cll1] 35) = Y := ⟨_, rfl⟩
  have b1 : Below w.heap.size w Y1 := by rw [← hY1]; exact bl1 _ _
  obtain ⟨y0, hY2⟩ : ∃ Y, Y1.alloc (.cells #[.int .i64 kd2, .string (X.str nm2), .string (X.str fn2), .int .i64 e2, .int .i64 i2, .slice pla2 la2.length cla2, .slice plb2 lb2.length clb2, .slice pll2 ll2.length cll2] 35) = Y := ⟨_, rfl⟩
  have b2 : Below Y1.heap.size Y1 y0 := by rw [← hY2]; exact bl1 _ _
  have HB0 : Hid (Below w.heap.size w y0) := b1.trans (b2.mono b1.size)
  have HP0 : Hid (y0.heap[w.heap.size]? = some (.cells #[.int .i64 kd1, .string (X.str nm1), .string (X.str fn1), .int .i64 e1, .int .i64 i1, .slice pla1 la1.length cla1, .slice plb1 lb1.length clb1, .slice pll1 ll1.length cll1] 35)) := by show _ = _; rw [b2.block _ (by rw [← hY1]; simp), ← hY1]; exact heap_new _ _
  have HQ0 : Hid (y0.heap[Y1.heap.size]? = some (.cells #[.int .i64 kd2, .string (X.str nm2), .string (X.str fn2), .int .i64 e2, .int .i64 i2, .slice pla2 la2.length cla2, .slice plb2 lb2.length clb2, .slice pll2 ll2.length cll2] 35)) := by show _ = _; rw [← hY2]; exact heap_new _ _
  have HRWla1 : Hid (∀ y, Below w.heap.size w y → y.ownsRow C 3 1 (.slice pla1 la1.length cla1) la1.length (la1.map iZ)) := fun y hy => row_thru' rla1 hy
  have HRWla2 : Hid (∀ y, Below w.heap.size w y → y.ownsRow D 3 1 (.slice pla2 la2.length cla2) la2.length (la2.map iZ)) := fun y hy => row_thru' rla2 hy
  have HRWlb1 : Hid (∀ y, Below w.heap.size w y → y.ownsRow C 3 1 (.slice plb1 lb1.length clb1) lb1.length (lb1.map iZ)) := fun y hy => row_thru' rlb1 hy
  have HRWlb2 : Hid (∀ y, Below w.heap.size w y → y.ownsRow D 3 1 (.slice plb2 lb2.length clb2) lb2.length (lb2.map iZ)) := fun y hy => row_thru' rlb2 hy
  have HRWll1 : Hid (∀ y, Below w.heap.size w y → y.ownsRow C 3 1 (.slice pll1 ll1.length cll1) ll1.length (ll1.map iZ)) := fun y hy => row_thru' rll1 hy
  have HRWll2 : Hid (∀ y, Below w.heap.size w y → y.ownsRow D 3 1 (.slice pll2 ll2.length cll2) ll2.length (ll2.map iZ)) := fun y hy => row_thru' rll2 hy
  have x0 := cell_blk HP0.out 0 rfl
  have x1 := cell_blk HP0.out 1 rfl
  have x2 := cell_blk HP0.out 2 rfl
  have x3 := cell_blk HP0.out 3 rfl
  have x4 := cell_blk HP0.out 4 rfl
  have x5 := cell_blk HP0.out 5 rfl
  have x6 := cell_blk HP0.out 6 rfl
  have x7 := cell_blk HP0.out 7 rfl
  have z0 := cell_blk HQ0.out 0 rfl
  have z1 := cell_blk HQ0.out 1 rfl
  have z2 := cell_blk HQ0.out 2 rfl
  have z3 := cell_blk HQ0.out 3 rfl
  have z4 := cell_blk HQ0.out 4 rfl
  have z5 := cell_blk HQ0.out 5 rfl
  have z6 := cell_blk HQ0.out 6 rfl
  have z7 := cell_blk HQ0.out 7 rfl
  clear hR b1 b2 rla1 rla2 rlb1 rlb2 rll1 rll2
  have ssnm := str_self nm1
  have ssfn := str_self fn1
  go_enter Tryz.func20, Tryz.ntmps20
  by_cases ekd : kd1 = kd2
  case neg =>
    have HF : Hid (R = false) := by
      show _ = _
      rw [← HR.out]
      exact decide_eq_false fun e => ekd (congrArg Stmt.kind e)
    have d : (kd1 == kd2) = false := by simpa using ekd
    go_wp2_with fail
    go_ret
    exact ⟨by rw [HF.out]; rfl, HB0.out⟩
  subst ekd
  by_cases enm : nm1 = nm2
  case neg =>
    have HF : Hid (R = false) := by
      show _ = _
      rw [← HR.out]
      exact decide_eq_false fun e => enm (congrArg Stmt.name e)
    have d := str_beq nm1 nm2
    rw [decide_eq_false enm] at d
    go_wp2_with fail
    go_ret
    exact ⟨by rw [HF.out]; rfl, HB0.out⟩
  subst enm
  by_cases efn : fn1 = fn2
  case neg =>
    have HF : Hid (R = false) := by
      show _ = _
      rw [← HR.out]
      exact decide_eq_false fun e => efn (congrArg Stmt.fn e)
    have d := str_beq fn1 fn2
    rw [decide_eq_false efn] at d
    go_wp2_with fail
    go_ret
    exact ⟨by rw [HF.out]; rfl, HB0.out⟩
  subst efn
  by_cases ee : e1 = e2
  case neg =>
    have HF : Hid (R = false) := by
      show _ = _
      rw [← HR.out]
      exact decide_eq_false fun e => ee (congrArg Stmt.e e)
    have d : (e1 == e2) = false := by simpa using ee
    go_wp2_with fail
    go_ret
    exact ⟨by rw [HF.out]; rfl, HB0.out⟩
  subst ee
  by_cases ei : i1 = i2
  case neg =>
    have HF : Hid (R = false) := by
      show _ = _
      rw [← HR.out]
      exact decide_eq_false fun e => ei (congrArg Stmt.i e)
    have d : (i1 == i2) = false := by simpa using ei
    go_wp2_with fail
    go_ret
    exact ⟨by rw [HF.out]; rfl, HB0.out⟩
  subst ei
  have HE : Hid _ := ints_any (HRWla1.out _ HB0.out) (HRWla2.out _ HB0.out)
  go_wp2_with fail
  refine Calls.mono HE.out ?_
  rintro e y1 ⟨rfl, hb⟩
  have HB1 : Hid (Below w.heap.size w y1) := HB0.out.trans (hb.mono HB0.out.size)
  have HP1 : Hid _ := blk_thru hb HP0.out
  have HQ1 : Hid _ := blk_thru hb HQ0.out
  clear hb HE HB0 HP0 HQ0 x0 x1 x2 x3 x4 x5 x6 x7 z0 z1 z2 z3 z4 z5 z6 z7
  have x0 := cell_blk HP1.out 0 rfl
  have x1 := cell_blk HP1.out 1 rfl
  have x2 := cell_blk HP1.out 2 rfl
  have x3 := cell_blk HP1.out 3 rfl
  have x4 := cell_blk HP1.out 4 rfl
  have x5 := cell_blk HP1.out 5 rfl
  have x6 := cell_blk HP1.out 6 rfl
  have x7 := cell_blk HP1.out 7 rfl
  have z0 := cell_blk HQ1.out 0 rfl
  have z1 := cell_blk HQ1.out 1 rfl
  have z2 := cell_blk HQ1.out 2 rfl
  have z3 := cell_blk HQ1.out 3 rfl
  have z4 := cell_blk HQ1.out 4 rfl
  have z5 := cell_blk HQ1.out 5 rfl
  have z6 := cell_blk HQ1.out 6 rfl
  have z7 := cell_blk HQ1.out 7 rfl
  by_cases ela : la1 = la2
  case neg =>
    have HF : Hid (R = false) := by
      show _ = _
      rw [← HR.out]
      exact decide_eq_false fun e => ela (congrArg Stmt.args e)
    rw [decide_eq_false ela]
    go_wp2_with fail
    go_ret
    exact ⟨by rw [HF.out]; rfl, HB1.out⟩
  rw [decide_eq_true ela]
  subst ela
  have HE : Hid _ := ints_any (HRWlb1.out _ HB1.out) (HRWlb2.out _ HB1.out)
  go_wp2_with fail
  refine Calls.mono HE.out ?_
  rintro e y2 ⟨rfl, hb⟩
  have HB2 : Hid (Below w.heap.size w y2) := HB1.out.trans (hb.mono HB1.out.size)
  have HP2 : Hid _ := blk_thru hb HP1.out
  have HQ2 : Hid _ := blk_thru hb HQ1.out
  clear hb HE HB1 HP1 HQ1 x0 x1 x2 x3 x4 x5 x6 x7 z0 z1 z2 z3 z4 z5 z6 z7
  have x0 := cell_blk HP2.out 0 rfl
  have x1 := cell_blk HP2.out 1 rfl
  have x2 := cell_blk HP2.out 2 rfl
  have x3 := cell_blk HP2.out 3 rfl
  have x4 := cell_blk HP2.out 4 rfl
  have x5 := cell_blk HP2.out 5 rfl
  have x6 := cell_blk HP2.out 6 rfl
  have x7 := cell_blk HP2.out 7 rfl
  have z0 := cell_blk HQ2.out 0 rfl
  have z1 := cell_blk HQ2.out 1 rfl
  have z2 := cell_blk HQ2.out 2 rfl
  have z3 := cell_blk HQ2.out 3 rfl
  have z4 := cell_blk HQ2.out 4 rfl
  have z5 := cell_blk HQ2.out 5 rfl
  have z6 := cell_blk HQ2.out 6 rfl
  have z7 := cell_blk HQ2.out 7 rfl
  by_cases elb : lb1 = lb2
  case neg =>
    have HF : Hid (R = false) := by
      show _ = _
      rw [← HR.out]
      exact decide_eq_false fun e => elb (congrArg Stmt.body e)
    rw [decide_eq_false elb]
    go_wp2_with fail
    go_ret
    exact ⟨by rw [HF.out]; rfl, HB2.out⟩
  rw [decide_eq_true elb]
  subst elb
  have HE : Hid _ := ints_any (HRWll1.out _ HB2.out) (HRWll2.out _ HB2.out)
  go_wp2_with fail
  refine Calls.mono HE.out ?_
  rintro e y3 ⟨rfl, hb⟩
  have HB3 : Hid (Below w.heap.size w y3) := HB2.out.trans (hb.mono HB2.out.size)
  have HP3 : Hid _ := blk_thru hb HP2.out
  have HQ3 : Hid _ := blk_thru hb HQ2.out
  clear hb HE HB2 HP2 HQ2 x0 x1 x2 x3 x4 x5 x6 x7 z0 z1 z2 z3 z4 z5 z6 z7
  have x0 := cell_blk HP3.out 0 rfl
  have x1 := cell_blk HP3.out 1 rfl
  have x2 := cell_blk HP3.out 2 rfl
  have x3 := cell_blk HP3.out 3 rfl
  have x4 := cell_blk HP3.out 4 rfl
  have x5 := cell_blk HP3.out 5 rfl
  have x6 := cell_blk HP3.out 6 rfl
  have x7 := cell_blk HP3.out 7 rfl
  have z0 := cell_blk HQ3.out 0 rfl
  have z1 := cell_blk HQ3.out 1 rfl
  have z2 := cell_blk HQ3.out 2 rfl
  have z3 := cell_blk HQ3.out 3 rfl
  have z4 := cell_blk HQ3.out 4 rfl
  have z5 := cell_blk HQ3.out 5 rfl
  have z6 := cell_blk HQ3.out 6 rfl
  have z7 := cell_blk HQ3.out 7 rfl
  by_cases ell : ll1 = ll2
  case neg =>
    have HF : Hid (R = false) := by
      show _ = _
      rw [← HR.out]
      exact decide_eq_false fun e => ell (congrArg Stmt.els e)
    rw [decide_eq_false ell]
    go_wp2_with fail
    go_ret
    exact ⟨by rw [HF.out]; rfl, HB3.out⟩
  rw [decide_eq_true ell]
  subst ell
  have HF : Hid (R = true) := by
    show _ = _
    rw [← HR.out]
    exact decide_eq_true rfl
  go_wp2_with fail
  go_ret
  exact ⟨by rw [HF.out]; rfl, HB3.out⟩
set_option maxRecDepth 100000 in
set_option maxHeartbeats 8000000 in
theorem rsameDecl_any {C D : Nat} {w : World} (p q : Dx) (hp : DxR C w p) (hq : DxR D w q) : Calls Tryz.prog 19 #[dcV p, dcV q] w fun e w' => e = .returned (.bool (decide (p.d = q.d))) ∧ Below w.heap.size w w' := by
  obtain ⟨⟨kd1, nm1, ex1, n1, bs1, ps1, ct1, rk1, bd1⟩, vps1, vbd1⟩ := p
  obtain ⟨rps1, rbd1⟩ := hp
  dsimp only at rps1 rbd1
  obtain ⟨pps1, cps1, hv⟩ := row_form rps1
  subst hv
  obtain ⟨pbd1, cbd1, hv⟩ := row_form rbd1
  subst hv
  obtain ⟨⟨kd2, nm2, ex2, n2, bs2, ps2, ct2, rk2, bd2⟩, vps2, vbd2⟩ := q
  obtain ⟨rps2, rbd2⟩ := hq
  dsimp only at rps2 rbd2
  obtain ⟨pps2, cps2, hv⟩ := row_form rps2
  subst hv
  obtain ⟨pbd2, cbd2, hv⟩ := row_form rbd2
  subst hv
  unfold dcV
  dsimp only
  obtain ⟨R, hR⟩ : ∃ R, decide (((⟨kd1, nm1, ex1, n1, bs1, ps1, ct1, rk1, bd1⟩ : Decl) = ⟨kd2, nm2, ex2, n2, bs2, ps2, ct2, rk2, bd2⟩)) = R := ⟨_, rfl⟩
  rw [hR]
  have HR : Hid (_ = R) := hR
  obtain ⟨Y1, hY1⟩ : ∃ Y, w.alloc (.cells #[.int .i64 kd1, .string (X.str nm1), .bool ex1, .int .i64 n1, .string (X.str bs1), .slice pps1 ps1.length cps1, .int .i64 ct1, .int .i64 rk1, .slice pbd1 bd1.length cbd1] 54) = Y := ⟨_, rfl⟩
  have b1 : Below w.heap.size w Y1 := by rw [← hY1]; exact bl1 _ _
  obtain ⟨y0, hY2⟩ : ∃ Y, Y1.alloc (.cells #[.int .i64 kd2, .string (X.str nm2), .bool ex2, .int .i64 n2, .string (X.str bs2), .slice pps2 ps2.length cps2, .int .i64 ct2, .int .i64 rk2, .slice pbd2 bd2.length cbd2] 54) = Y := ⟨_, rfl⟩
  have b2 : Below Y1.heap.size Y1 y0 := by rw [← hY2]; exact bl1 _ _
  have HB0 : Hid (Below w.heap.size w y0) := b1.trans (b2.mono b1.size)
  have HP0 : Hid (y0.heap[w.heap.size]? = some (.cells #[.int .i64 kd1, .string (X.str nm1), .bool ex1, .int .i64 n1, .string (X.str bs1), .slice pps1 ps1.length cps1, .int .i64 ct1, .int .i64 rk1, .slice pbd1 bd1.length cbd1] 54)) := by show _ = _; rw [b2.block _ (by rw [← hY1]; simp), ← hY1]; exact heap_new _ _
  have HQ0 : Hid (y0.heap[Y1.heap.size]? = some (.cells #[.int .i64 kd2, .string (X.str nm2), .bool ex2, .int .i64 n2, .string (X.str bs2), .slice pps2 ps2.length cps2, .int .i64 ct2, .int .i64 rk2, .slice pbd2 bd2.length cbd2] 54)) := by show _ = _; rw [← hY2]; exact heap_new _ _
  have HRWps1 : Hid (∀ y, Below w.heap.size w y → y.ownsRow C 9 1 (.slice pps1 ps1.length cps1) ps1.length (ps1.map sZ)) := fun y hy => row_thru' rps1 hy
  have HRWps2 : Hid (∀ y, Below w.heap.size w y → y.ownsRow D 9 1 (.slice pps2 ps2.length cps2) ps2.length (ps2.map sZ)) := fun y hy => row_thru' rps2 hy
  have HRWbd1 : Hid (∀ y, Below w.heap.size w y → y.ownsRow C 3 1 (.slice pbd1 bd1.length cbd1) bd1.length (bd1.map iZ)) := fun y hy => row_thru' rbd1 hy
  have HRWbd2 : Hid (∀ y, Below w.heap.size w y → y.ownsRow D 3 1 (.slice pbd2 bd2.length cbd2) bd2.length (bd2.map iZ)) := fun y hy => row_thru' rbd2 hy
  have x0 := cell_blk HP0.out 0 rfl
  have x1 := cell_blk HP0.out 1 rfl
  have x2 := cell_blk HP0.out 2 rfl
  have x3 := cell_blk HP0.out 3 rfl
  have x4 := cell_blk HP0.out 4 rfl
  have x5 := cell_blk HP0.out 5 rfl
  have x6 := cell_blk HP0.out 6 rfl
  have x7 := cell_blk HP0.out 7 rfl
  have x8 := cell_blk HP0.out 8 rfl
  have z0 := cell_blk HQ0.out 0 rfl
  have z1 := cell_blk HQ0.out 1 rfl
  have z2 := cell_blk HQ0.out 2 rfl
  have z3 := cell_blk HQ0.out 3 rfl
  have z4 := cell_blk HQ0.out 4 rfl
  have z5 := cell_blk HQ0.out 5 rfl
  have z6 := cell_blk HQ0.out 6 rfl
  have z7 := cell_blk HQ0.out 7 rfl
  have z8 := cell_blk HQ0.out 8 rfl
  clear hR b1 b2 rps1 rps2 rbd1 rbd2
  have ssnm := str_self nm1
  have ssbs := str_self bs1
  go_enter Tryz.func19, Tryz.ntmps19
  by_cases ekd : kd1 = kd2
  case neg =>
    have HF : Hid (R = false) := by
      show _ = _
      rw [← HR.out]
      exact decide_eq_false fun e => ekd (congrArg Decl.kind e)
    have d : (kd1 != kd2) = true := by simpa using ekd
    go_wp2_with fail
    go_ret
    exact ⟨by rw [HF.out]; rfl, HB0.out⟩
  subst ekd
  by_cases enm : nm1 = nm2
  case neg =>
    have HF : Hid (R = false) := by
      show _ = _
      rw [← HR.out]
      exact decide_eq_false fun e => enm (congrArg Decl.name e)
    have d := str_beq nm1 nm2
    rw [decide_eq_false enm] at d
    go_wp2_with fail
    go_ret
    exact ⟨by rw [HF.out]; rfl, HB0.out⟩
  subst enm
  by_cases eex : ex1 = ex2
  case neg =>
    have HF : Hid (R = false) := by
      show _ = _
      rw [← HR.out]
      exact decide_eq_false fun e => eex (congrArg Decl.ext e)
    have d : (ex1 != ex2) = true := by simpa using eex
    go_wp2_with fail
    go_ret
    exact ⟨by rw [HF.out]; rfl, HB0.out⟩
  subst eex
  by_cases en : n1 = n2
  case neg =>
    have HF : Hid (R = false) := by
      show _ = _
      rw [← HR.out]
      exact decide_eq_false fun e => en (congrArg Decl.n e)
    have d : (n1 != n2) = true := by simpa using en
    go_wp2_with fail
    go_ret
    exact ⟨by rw [HF.out]; rfl, HB0.out⟩
  subst en
  by_cases ebs : bs1 = bs2
  case neg =>
    have HF : Hid (R = false) := by
      show _ = _
      rw [← HR.out]
      exact decide_eq_false fun e => ebs (congrArg Decl.by' e)
    have d := str_beq bs1 bs2
    rw [decide_eq_false ebs] at d
    go_wp2_with fail
    go_ret
    exact ⟨by rw [HF.out]; rfl, HB0.out⟩
  subst ebs
  by_cases ect : ct1 = ct2
  case neg =>
    have HF : Hid (R = false) := by
      show _ = _
      rw [← HR.out]
      exact decide_eq_false fun e => ect (congrArg Decl.count e)
    have d : (ct1 != ct2) = true := by simpa using ect
    go_wp2_with fail
    go_ret
    exact ⟨by rw [HF.out]; rfl, HB0.out⟩
  subst ect
  by_cases erk : rk1 = rk2
  case neg =>
    have HF : Hid (R = false) := by
      show _ = _
      rw [← HR.out]
      exact decide_eq_false fun e => erk (congrArg Decl.rank e)
    have d : (rk1 != rk2) = true := by simpa using erk
    go_wp2_with fail
    go_ret
    exact ⟨by rw [HF.out]; rfl, HB0.out⟩
  subst erk
  have hmm : maxLen = 9223372036854775807 := rfl
  have hl1 : ps1.length ≤ maxLen := by rcases (HRWps1.out _ HB0.out).2 with ⟨e1, e2⟩ | ⟨g, cap, cur, e1, e2, e3, e4, e5, -⟩ <;> omega
  have hl2 : ps2.length ≤ maxLen := by rcases (HRWps2.out _ HB0.out).2 with ⟨e1, e2⟩ | ⟨g, cap, cur, e1, e2, e3, e4, e5, -⟩ <;> omega
  by_cases hlen : ps1.length = ps2.length
  case neg =>
    have HF : Hid (R = false) := by
      show _ = _
      rw [← HR.out]
      exact decide_eq_false fun e => hlen (congrArg List.length (congrArg Decl.params e))
    have d : ((ps1.length : Int) != (ps2.length : Int)) = true := by
      have : (ps1.length : Int) ≠ ps2.length := fun e => hlen (by omega)
      simpa using this
    go_wp2_with fail
    go_ret
    exact ⟨by rw [HF.out]; rfl, HB0.out⟩
  have e0 : ((ps1.length : Int) != (ps2.length : Int)) = false := by rw [hlen]; simp
  have HLE : Hid (ps1.length = ps2.length) := hlen
  clear hlen
  go_wp2_with fail
  clear x0 x1 x2 x3 x4 x5 x6 x7 x8 z0 z1 z2 z3 z4 z5 z6 z7 z8 e0
  go_loopg [5] ps1.length (fun gg v5 wq => ∃ (k : Nat), gg = ps1.length - k ∧ v5 = .int .i64 (k : Int) ∧ k ≤ ps1.length ∧ Hid (∀ j, j < k → ps1[j]? = ps2[j]?) ∧ Hid (Below y0.heap.size y0 wq))
  case atStart => exact ⟨0, rfl, rfl, Nat.zero_le _, (fun j hj => by omega : ∀ j, j < 0 → ps1[j]? = ps2[j]?), Below.refl _ _⟩
  case round =>
    obtain ⟨k, rfl, rfl, hk, HE, HB⟩ := hrel
    have HBw : Hid (Below w.heap.size w wr) := HB0.out.trans (HB.out.mono HB0.out.size)
    have HP1 : Hid _ := blk_thru HB.out HP0.out
    have HQ1 : Hid _ := blk_thru HB.out HQ0.out
    have x5 := cell_blk HP1.out 5 rfl
    have z5 := cell_blk HQ1.out 5 rfl
    by_cases hkl : k < ps1.length
    · have hkm : k < ps2.length := by have := HLE.out; omega
      have hki : (k : Int) < ps1.length := by omega
      have hkj : (k : Int) < ps2.length := by omega
      have hk0 : 0 ≤ (k : Int) := by omega
      obtain ⟨x, hx⟩ : ∃ x, ps1[k] = x := ⟨_, rfl⟩
      obtain ⟨y, hy⟩ : ∃ y, ps2[k] = y := ⟨_, rfl⟩
      have HXY : Hid (ps1[k]? = some x ∧ ps2[k]? = some y) := ⟨by rw [List.getElem?_eq_getElem hkl, hx], by rw [List.getElem?_eq_getElem hkm, hy]⟩
      obtain ⟨g, rfl, hc1⟩ := row_at (HRWps1.out _ HBw.out) hkl
      obtain ⟨g2, rfl, hc2⟩ := row_at (HRWps2.out _ HBw.out) hkm
      rw [hx] at hc1
      rw [hy] at hc2
      clear hx hy
      by_cases hxy : x = y
      · subst hxy
        have ss := str_self x
        go_wp2_with fail
        go_quiet (fail)
        go_wp2
        go_roundg (ps1.length - (k + 1))
        case measure => omega
        case rel =>
          refine ⟨k + 1, rfl, by go_num, by omega, ?_, below_drew' HB.out _⟩
          intro j hj
          by_cases e : j = k
          · subst e; rw [HXY.out.1, HXY.out.2]
          · exact HE.out j (by omega)
      · have HF : Hid (R = false) := by
          show _ = _
          rw [← HR.out]
          refine decide_eq_false fun e => hxy ?_
          have h1 := HXY.out.1
          have h9 : ps1 = ps2 := congrArg Decl.params e
          rw [h9, HXY.out.2] at h1
          injection h1 with h1
          exact h1.symm
        have d := str_beq x y
        rw [decide_eq_false hxy] at d
        clear hxy
        go_wp2_with fail
        go_quiet (fail)
        go_wp2
        go_ret
        exact ⟨by rw [HF.out]; rfl, below_drew' HBw.out _⟩
    · obtain rfl : k = ps1.length := by omega
      have hps : ps1 = ps2 := List.ext_getElem? fun j => by
        rcases Nat.lt_or_ge j ps1.length with h | h
        · exact HE.out j h
        · rw [List.getElem?_eq_none h, List.getElem?_eq_none (by rw [← HLE.out]; exact h)]
      have hii : ¬ (ps1.length : Int) < (ps1.length : Int) := by omega
      have x8 := cell_blk HP1.out 8 rfl
      have z8 := cell_blk HQ1.out 8 rfl
      have HI : Hid _ := ints_any (HRWbd1.out _ HBw.out) (HRWbd2.out _ HBw.out)
      go_wp2_with fail
      refine Calls.mono HI.out ?_
      rintro e y3 ⟨rfl, hb⟩
      have HRR : Hid (decide (bd1 = bd2) = R) := by
        show _ = _
        rw [← HR.out]
        by_cases eb : bd1 = bd2
        · rw [decide_eq_true eb, hps, eb, decide_eq_true rfl]
        · rw [decide_eq_false eb]
          exact (decide_eq_false fun e => eb (congrArg Decl.body e)).symm
      rw [HRR.out]
      go_wp2_with fail
      go_ret
      exact ⟨rfl, HBw.out.trans (hb.mono HBw.out.size)⟩
end Go.Proofs.YtikknlkdbjaonaaGreatDoor.Y

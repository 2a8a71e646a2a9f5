/- Lists of expressions, compared. -/
import Derived.Test.YtikknlkdbjaonaaGreatDoorPBAu
import Derived.Laws.StructEq
import Derived.Test.YtikknlkdbjaonaaGreatDoorPBAn
import Derived.Test.YtikknlkdbjaonaaGreatDoorRows
import Derived.OpenShut
import Derived.Deep.Strs
import Derived.Lib.LaidTab
import Derived.Lib.SmallJoins
import Derived.Stop.LaidErr
import Derived.Shelf.Vars
namespace Go.Proofs.YtikknlkdbjaonaaGreatDoor.Y
open Go.RowKit Go.Maps Go.Lib
set_option linter.unusedVariables false
set_option linter.unusedSimpArgs false
theorem rowE_at {C : Nat} {w : World} {a : Option Addr} {c : Nat} {l : List Exp} (h : w.ownsRow C 32 6 (.slice a l.length c) l.length (l.flatMap expC)) {k : Nat} (hk : k < l.length) : ∃ g, a = some ⟨g, 0, none⟩ ∧ ∀ j u, (expC l[k])[j]? = some u → w.cell? ⟨g, k * 6 + j, none⟩ = some u := by
  rcases h.2 with ⟨e1, e2⟩ | ⟨g, cap, cur, e1, e2⟩
  · omega
  · injection e1 with e1 _ e3
    subst e1 e3
    refine ⟨g, rfl, fun j u hu => ?_⟩
    have hj : j < 6 := by
      have := (List.getElem?_eq_some_iff.1 hu).1
      rw [expC_len] at this
      exact this
    have hf := h.cellAt (k * 6 + j) (by omega)
    rw [flat_at expC 6 noE expC_len l k j hk hj, List.getD_eq_getElem?_getD, List.getElem?_eq_getElem hk, Option.getD_some, hu] at hf
    exact hf
theorem beq_int (a b : Int) : (a == b) = decide (a = b) := by rw [Bool.eq_iff_iff]; simp
def expEq (x y : Exp) : Bool := decide (x.kind = y.kind) && (decide (x.op = y.op) && (decide (x.name = y.name) && (decide (x.n = y.n) && (decide (x.l = y.l) && decide (x.r = y.r)))))
theorem expEq_dec (x y : Exp) : expEq x y = decide (x = y) := by
  rw [Bool.eq_iff_iff]
  cases x; cases y; simp [expEq]
set_option maxRecDepth 100000 in
theorem eqExp (x y : Exp) (w : World) : (Op.equalIn 10000 32 (.agg #[.int .i64 x.kind, .string (X.str x.op), .string (X.str x.name), .int .i64 x.n, .int .i64 x.l, .int .i64 x.r]) (.agg #[.int .i64 y.kind, .string (X.str y.op), .string (X.str y.name), .int .i64 y.n, .int .i64 y.l, .int .i64 y.r])).run Tryz.prog w = .ok (decide (x = y)) w := by
  rw [← expEq_dec]
  unfold expEq
  rw [← beq_int, ← beq_int, ← beq_int, ← beq_int, ← str_beq, ← str_beq]
  cases h1 : (x.kind == y.kind)
  · go_simp
  cases h2 : ((X.str x.op).toList == (X.str y.op).toList)
  · go_simp
  cases h3 : ((X.str x.name).toList == (X.str y.name).toList)
  · go_simp
  cases h4 : (x.n == y.n)
  · go_simp
  cases h5 : (x.l == y.l)
  · go_simp
  cases h6 : (x.r == y.r)
  · go_simp
  · go_simp
set_option maxRecDepth 100000 in
set_option maxHeartbeats 4000000 in
theorem eqE_any {C D : Nat} {w : World} {a b : Option Addr} {c d : Nat} {l m : List Exp} (hl : w.ownsRow C 32 6 (.slice a l.length c) l.length (l.flatMap expC)) (hm : w.ownsRow D 32 6 (.slice b m.length d) m.length (m.flatMap expC)) : Calls Tryz.prog 42 #[.slice a l.length c, .slice b m.length d] w fun e w' => e = .returned (.bool (decide (l = m))) ∧ Below w.heap.size w w' := by
  have hm2 : maxLen = 9223372036854775807 := rfl
  have hlm : l.length ≤ maxLen := by rcases hl.2 with ⟨e1, e2⟩ | ⟨g, cap, cur, e1, e2, e3, e4, e5, -⟩ <;> omega
  have hmm : m.length ≤ maxLen := by rcases hm.2 with ⟨e1, e2⟩ | ⟨g, cap, cur, e1, e2, e3, e4, e5, -⟩ <;> omega
  have HL : Hid (∀ y, Below w.heap.size w y → y.ownsRow C 32 6 (.slice a l.length c) l.length (l.flatMap expC)) := fun y hy => row_thru' hl hy
  have HM : Hid (∀ y, Below w.heap.size w y → y.ownsRow D 32 6 (.slice b m.length d) m.length (m.flatMap expC)) := fun y hy => row_thru' hm hy
  clear hl hm
  go_enter Tryz.func42, Tryz.ntmps42
  by_cases hlen : l.length = m.length
  case neg =>
    have e0 : ((l.length : Int) != (m.length : Int)) = true := by
      have : (l.length : Int) ≠ m.length := fun e => hlen (by omega)
      simpa using this
    have HF : Hid (decide (l = m) = false) := decide_eq_false fun e => hlen (by rw [e])
    clear hlen
    go_wp2_with fail
    go_ret
    exact ⟨by rw [HF.out]; rfl, Below.refl _ _⟩
  have e0 : ((l.length : Int) != (m.length : Int)) = false := by rw [hlen]; simp
  have HLE : Hid (l.length = m.length) := hlen
  clear hlen
  go_wp2_with fail
  go_loopg [5, 13] l.length (fun gg v5 v13 wq => ∃ (k : Nat), gg = l.length - k ∧ v13 = .int .i64 (k : Int) ∧ k ≤ l.length ∧ Hid (∀ j, j < k → l[j]? = m[j]?) ∧ Hid (Below w.heap.size w wq))
  case atStart => exact ⟨0, rfl, rfl, Nat.zero_le _, (fun j hj => by omega : ∀ j, j < 0 → l[j]? = m[j]?), Below.refl _ _⟩
  case round =>
    obtain ⟨k, rfl, rfl, hk, HE, HB⟩ := hrel
    by_cases hkl : k < l.length
    · have hkm : k < m.length := by have := HLE.out; omega
      have hki : (k : Int) < l.length := by omega
      have hkj : (k : Int) < m.length := by omega
      have hk0 : 0 ≤ (k : Int) := by omega
      obtain ⟨x, hx⟩ : ∃ x, l[k] = x := ⟨_, rfl⟩
      obtain ⟨y, hy⟩ : ∃ y, m[k] = y := ⟨_, rfl⟩
      have HXY : Hid (l[k]? = some x ∧ m[k]? = some y) := ⟨by rw [List.getElem?_eq_getElem hkl, hx], by rw [List.getElem?_eq_getElem hkm, hy]⟩
      obtain ⟨Z, hZ⟩ : ∃ Z, wr.drew = Z := ⟨_, rfl⟩
      have HBZ : Hid (Below w.heap.size w Z) := by show Below _ _ _; rw [← hZ]; exact HB.out.drew
      obtain ⟨g, rfl, hc1⟩ := rowE_at (HL.out _ HBZ.out) hkl
      obtain ⟨g2, rfl, hc2⟩ := rowE_at (HM.out _ HBZ.out) hkm
      rw [hx] at hc1
      rw [hy] at hc2
      clear hx hy
      go_wp2_with fail
      refine wp_region_held_drew (S := (fun w' : World => w'.cell? ⟨g, k * 6, none⟩ = some (.int .i64 x.kind) ∧ w'.cell? ⟨g, k * 6 + 1, none⟩ = some (.string (X.str x.op)) ∧ w'.cell? ⟨g, k * 6 + 2, none⟩ = some (.string (X.str x.name)) ∧ w'.cell? ⟨g, k * 6 + 3, none⟩ = some (.int .i64 x.n) ∧ w'.cell? ⟨g, k * 6 + 4, none⟩ = some (.int .i64 x.l) ∧ w'.cell? ⟨g, k * 6 + 5, none⟩ = some (.int .i64 x.r) ∧ w'.cell? ⟨g2, k * 6, none⟩ = some (.int .i64 y.kind) ∧ w'.cell? ⟨g2, k * 6 + 1, none⟩ = some (.string (X.str y.op)) ∧ w'.cell? ⟨g2, k * 6 + 2, none⟩ = some (.string (X.str y.name)) ∧ w'.cell? ⟨g2, k * 6 + 3, none⟩ = some (.int .i64 y.n) ∧ w'.cell? ⟨g2, k * 6 + 4, none⟩ = some (.int .i64 y.l) ∧ w'.cell? ⟨g2, k * 6 + 5, none⟩ = some (.int .i64 y.r))) (by kernel_rfl) (by rw [hZ]; exact ⟨hc1 0 _ rfl, hc1 1 _ rfl, hc1 2 _ rfl, hc1 3 _ rfl, hc1 4 _ rfl, hc1 5 _ rfl, hc2 0 _ rfl, hc2 1 _ rfl, hc2 2 _ rfl, hc2 3 _ rfl, hc2 4 _ rfl, hc2 5 _ rfl⟩) (fun hHeld => ?_)
      rw [hZ]
      rw [hZ] at hHeld
      clear hZ
      refine tj 0 ?_
      simp only [Act.put, zA, zB, zC]
      refine tj 1 ?_
      simp only [Act.put, zA, zB, zC]
      refine tj 2 ?_
      simp only [Act.put, zA, zB, zC]
      refine tj 3 ?_
      simp only [Act.put, zA, zB, zC]
      refine tj 4 ?_
      simp only [Act.put, zA, zB, zC]
      refine tj 5 ?_
      simp only [Act.put, zA, zB, zC]
      refine tj 6 ?_
      simp only [Act.put, zA, zB, zC]
      refine tj 7 ?_
      simp only [Act.put, zA, zB, zC]
      have hq := eqExp x y
      have hS := hHeld
      refine tr [8] ?_
      refine AllReadyH.cons (tA rfl) (fun K hK => ?_) AllReadyH.nil
      go_simp
      try simp only [hq, Result.andThen_ok]
      refine hK.out _ _ hS (fun hHeld => ?_)
      clear hK K
      try simp only [Act.put, zA, zB, zC]
      refine wpAnyH_done (by kernel_rfl) ?_ _
      clear hS hq
      clear hHeld hc1 hc2
      by_cases hxy : x = y
      · subst hxy
        rw [decide_eq_true rfl]
        go_wp2_with fail
        go_roundg (l.length - (k + 1))
        case measure => omega
        case rel =>
          refine ⟨k + 1, rfl, by go_num, by omega, ?_, HBZ⟩
          intro j hj
          by_cases e : j = k
          · subst e; rw [HXY.out.1, HXY.out.2]
          · exact HE.out j (by omega)
      · have HF : Hid (decide (l = m) = false) := decide_eq_false fun e => hxy (by
          have h1 := HXY.out.1
          rw [e, HXY.out.2] at h1
          injection h1 with h1
          exact h1.symm)
        rw [decide_eq_false hxy]
        clear hxy
        go_wp2_with fail
        go_ret
        exact ⟨by rw [HF.out]; rfl, HBZ.out⟩
    · obtain rfl : k = l.length := by omega
      have HF : Hid (decide (l = m) = true) := decide_eq_true (List.ext_getElem? fun j => by
        by_cases hj : j < l.length
        · exact HE.out j hj
        · rw [List.getElem?_eq_none (by omega), List.getElem?_eq_none (by have := HLE.out; omega)])
      go_wp2_with fail
      go_ret
      exact ⟨by rw [HF.out]; rfl, HB.out⟩
end Go.Proofs.YtikknlkdbjaonaaGreatDoor.Y

/- Statements and declarations, compared. -/
namespace Go.Proofs.YtikknlkdbjaonaaGreatDoor.Y
open Go.RowKit Go.Maps Go.Lib
set_option linter.unusedVariables false
set_option linter.unusedSimpArgs false
theorem str_self (a : By) : ((X.str a).toList == (X.str a).toList) = true := by rw [str_beq]; simp
set_option maxRecDepth 100000 in
set_option maxHeartbeats 8000000 in
theorem sameStmt_any {C D : Nat} {w : World} (p q : Sx) (hp : SxR C w p) (hq : SxR D w q) : Calls Tryz.prog 41 #[stV p, stV q] w fun e w' => e = .returned (.bool (decide (p.s = q.s))) ∧ Below w.heap.size w w' := by
  obtain ⟨⟨kd1, nm1, fn1, e1, i1, la1, lb1, ll1⟩, vla1, vlb1, vll1⟩ := p
  obtain ⟨rla1, rlb1, rll1⟩ := hp
  dsimp only at rla1 rlb1 rll1
  obtain ⟨pla1, cla1, hv⟩ := row_form rla1
  subst hv
  obtain ⟨plb1, clb1, hv⟩ := row_form rlb1
  subst hv
  obtain ⟨pll1, cll1, hv⟩ := row_form rll1
  subst hv
  obtain ⟨⟨kd2, nm2, fn2, e2, i2, la2, lb2, ll2⟩, vla2, vlb2, vll2⟩ := q
  obtain ⟨rla2, rlb2, rll2⟩ := hq
  dsimp only at rla2 rlb2 rll2
  obtain ⟨pla2, cla2, hv⟩ := row_form rla2
  subst hv
  obtain ⟨plb2, clb2, hv⟩ := row_form rlb2
  subst hv
  obtain ⟨pll2, cll2, hv⟩ := row_form rll2
  subst hv
  unfold stV
  dsimp only
  obtain ⟨R, hR⟩ : ∃ R, decide (((⟨kd1, nm1, fn1, e1, i1, la1, lb1, ll1⟩ : Stmt) = ⟨kd2, nm2, fn2, e2, i2, la2, lb2, ll2⟩)) = R := ⟨_, rfl⟩
  rw [hR]
  have HR : Hid (_ = R) := hR
  obtain ⟨Y1, hY1⟩ : ∃ Y, w.alloc (.cells #[.int .i64 kd1, .string (X.str nm1), .string (X.str fn1), .int .i64 e1, .int .i64 i1, .slice pla1 la1.length cla1, .slice plb1 lb1.length clb1, .slice pll1 ll1.length cll1] 35) = Y := ⟨_, rfl⟩
  have b1 : Below w.heap.size w Y1 := by rw [← hY1]; exact bl1 _ _
  obtain ⟨y0, hY2⟩ : ∃ Y, Y1.alloc (.cells #[.int .i64 kd2, .string (X.str nm2), .string (X.str fn2), .int .i64 e2, .int .i64 i2, .slice pla2 la2.length cla2, .slice plb2 lb2.length clb2, .slice pll2 ll2.length cll2] 35) = Y := ⟨_, rfl⟩
  have b2 : Below Y1.heap.size Y1 y0 := by rw [← hY2]; exact bl1 _ _
  have HB0 : Hid (Below w.heap.size w y0) := b1.trans (b2.mono b1.size)
  have HP0 : Hid (y0.heap[w.heap.size]? = some (.cells #[.int .i64 kd1, .string (X.str nm1), .string (X.str fn1), .int .i64 e1, .int .i64 i1, .slice pla1 la1.length cla1, .slice plb1 lb1.length clb1, .slice pll1 ll1.length cll1] 35)) := by show _ = _; rw [b2.block _ (by rw [← hY1]; simp), ← hY1]; exact heap_new _ _
  have HQ0 : Hid (y0.heap[Y1.heap.size]? = some (.cells #[.int .i64 kd2, .string (X.str nm2), .string (X.str fn2), .int .i64 e2, .int .i64 i2, .slice pla2 la2.length cla2, .slice plb2 lb2.length clb2, .slice pll2 ll2.length cll2] 35)) := by show _ = _; rw [← hY2]; exact heap_new _ _
  have HRWla1 : Hid (∀ y, Below w.heap.size w y → y.ownsRow C 3 1 (.slice pla1 la1.length cla1) la1.length (la1.map iZ)) := fun y hy => row_thru' rla1 hy
  have HRWla2 : Hid (∀ y, Below w.heap.size w y → y.ownsRow D 3 1 (.slice pla2 la2.length cla2) la2.length (la2.map iZ)) := fun y hy => row_thru' rla2 hy
  have HRWlb1 : Hid (∀ y, Below w.heap.size w y → y.ownsRow C 3 1 (.slice plb1 lb1.length clb1) lb1.length (lb1.map iZ)) := fun y hy => row_thru' rlb1 hy
  have HRWlb2 : Hid (∀ y, Below w.heap.size w y → y.ownsRow D 3 1 (.slice plb2 lb2.length clb2) lb2.length (lb2.map iZ)) := fun y hy => row_thru' rlb2 hy
  have HRWll1 : Hid (∀ y, Below w.heap.size w y → y.ownsRow C 3 1 (.slice pll1 ll1.length cll1) ll1.length (ll1.map iZ)) := fun y hy => row_thru' rll1 hy
  have HRWll2 : Hid (∀ y, Below w.heap.size w y → y.ownsRow D 3 1 (.slice pll2 ll2.length cll2) ll2.length (ll2.map iZ)) := fun y hy => row_thru' rll2 hy
  have x0 := cell_blk HP0.out 0 rfl
  have x1 := cell_blk HP0.out 1 rfl
  have x2 := cell_blk HP0.out 2 rfl
  have x3 := cell_blk HP0.out 3 rfl
  have x4 := cell_blk HP0.out 4 rfl
  have x5 := cell_blk HP0.out 5 rfl
  have x6 := cell_blk HP0.out 6 rfl
  have x7 := cell_blk HP0.out 7 rfl
  have z0 := cell_blk HQ0.out 0 rfl
  have z1 := cell_blk HQ0.out 1 rfl
  have z2 := cell_blk HQ0.out 2 rfl
  have z3 := cell_blk HQ0.out 3 rfl
  have z4 := cell_blk HQ0.out 4 rfl
  have z5 := cell_blk HQ0.out 5 rfl
  have z6 := cell_blk HQ0.out 6 rfl
  have z7 := cell_blk HQ0.out 7 rfl
  clear hR b1 b2 rla1 rla2 rlb1 rlb2 rll1 rll2
  have ssnm := str_self nm1
  have ssfn := str_self fn1
  go_enter Tryz.func41, Tryz.ntmps41
  by_cases ekd : kd1 = kd2
  case neg =>
    have HF : Hid (R = false) := by
      show _ = _
      rw [← HR.out]
      exact decide_eq_false fun e => ekd (congrArg Stmt.kind e)
    have d : (kd1 == kd2) = false := by simpa using ekd
    go_wp2_with fail
    go_ret
    exact ⟨by rw [HF.out]; rfl, HB0.out⟩
  subst ekd
  by_cases enm : nm1 = nm2
  case neg =>
    have HF : Hid (R = false) := by
      show _ = _
      rw [← HR.out]
      exact decide_eq_false fun e => enm (congrArg Stmt.name e)
    have d := str_beq nm1 nm2
    rw [decide_eq_false enm] at d
    go_wp2_with fail
    go_ret
    exact ⟨by rw [HF.out]; rfl, HB0.out⟩
  subst enm
  by_cases efn : fn1 = fn2
  case neg =>
    have HF : Hid (R = false) := by
      show _ = _
      rw [← HR.out]
      exact decide_eq_false fun e => efn (congrArg Stmt.fn e)
    have d := str_beq fn1 fn2
    rw [decide_eq_false efn] at d
    go_wp2_with fail
    go_ret
    exact ⟨by rw [HF.out]; rfl, HB0.out⟩
  subst efn
  by_cases ee : e1 = e2
  case neg =>
    have HF : Hid (R = false) := by
      show _ = _
      rw [← HR.out]
      exact decide_eq_false fun e => ee (congrArg Stmt.e e)
    have d : (e1 == e2) = false := by simpa using ee
    go_wp2_with fail
    go_ret
    exact ⟨by rw [HF.out]; rfl, HB0.out⟩
  subst ee
  by_cases ei : i1 = i2
  case neg =>
    have HF : Hid (R = false) := by
      show _ = _
      rw [← HR.out]
      exact decide_eq_false fun e => ei (congrArg Stmt.i e)
    have d : (i1 == i2) = false := by simpa using ei
    go_wp2_with fail
    go_ret
    exact ⟨by rw [HF.out]; rfl, HB0.out⟩
  subst ei
  have HE : Hid _ := eqI_any (HRWla1.out _ HB0.out) (HRWla2.out _ HB0.out)
  go_wp2_with fail
  refine Calls.mono HE.out ?_
  rintro e y1 ⟨rfl, hb⟩
  have HB1 : Hid (Below w.heap.size w y1) := HB0.out.trans (hb.mono HB0.out.size)
  have HP1 : Hid _ := blk_thru hb HP0.out
  have HQ1 : Hid _ := blk_thru hb HQ0.out
  clear hb HE HB0 HP0 HQ0 x0 x1 x2 x3 x4 x5 x6 x7 z0 z1 z2 z3 z4 z5 z6 z7
  have x0 := cell_blk HP1.out 0 rfl
  have x1 := cell_blk HP1.out 1 rfl
  have x2 := cell_blk HP1.out 2 rfl
  have x3 := cell_blk HP1.out 3 rfl
  have x4 := cell_blk HP1.out 4 rfl
  have x5 := cell_blk HP1.out 5 rfl
  have x6 := cell_blk HP1.out 6 rfl
  have x7 := cell_blk HP1.out 7 rfl
  have z0 := cell_blk HQ1.out 0 rfl
  have z1 := cell_blk HQ1.out 1 rfl
  have z2 := cell_blk HQ1.out 2 rfl
  have z3 := cell_blk HQ1.out 3 rfl
  have z4 := cell_blk HQ1.out 4 rfl
  have z5 := cell_blk HQ1.out 5 rfl
  have z6 := cell_blk HQ1.out 6 rfl
  have z7 := cell_blk HQ1.out 7 rfl
  by_cases ela : la1 = la2
  case neg =>
    have HF : Hid (R = false) := by
      show _ = _
      rw [← HR.out]
      exact decide_eq_false fun e => ela (congrArg Stmt.args e)
    rw [decide_eq_false ela]
    go_wp2_with fail
    go_ret
    exact ⟨by rw [HF.out]; rfl, HB1.out⟩
  rw [decide_eq_true ela]
  subst ela
  have HE : Hid _ := eqI_any (HRWlb1.out _ HB1.out) (HRWlb2.out _ HB1.out)
  go_wp2_with fail
  refine Calls.mono HE.out ?_
  rintro e y2 ⟨rfl, hb⟩
  have HB2 : Hid (Below w.heap.size w y2) := HB1.out.trans (hb.mono HB1.out.size)
  have HP2 : Hid _ := blk_thru hb HP1.out
  have HQ2 : Hid _ := blk_thru hb HQ1.out
  clear hb HE HB1 HP1 HQ1 x0 x1 x2 x3 x4 x5 x6 x7 z0 z1 z2 z3 z4 z5 z6 z7
  have x0 := cell_blk HP2.out 0 rfl
  have x1 := cell_blk HP2.out 1 rfl
  have x2 := cell_blk HP2.out 2 rfl
  have x3 := cell_blk HP2.out 3 rfl
  have x4 := cell_blk HP2.out 4 rfl
  have x5 := cell_blk HP2.out 5 rfl
  have x6 := cell_blk HP2.out 6 rfl
  have x7 := cell_blk HP2.out 7 rfl
  have z0 := cell_blk HQ2.out 0 rfl
  have z1 := cell_blk HQ2.out 1 rfl
  have z2 := cell_blk HQ2.out 2 rfl
  have z3 := cell_blk HQ2.out 3 rfl
  have z4 := cell_blk HQ2.out 4 rfl
  have z5 := cell_blk HQ2.out 5 rfl
  have z6 := cell_blk HQ2.out 6 rfl
  have z7 := cell_blk HQ2.out 7 rfl
  by_cases elb : lb1 = lb2
  case neg =>
    have HF : Hid (R = false) := by
      show _ = _
      rw [← HR.out]
      exact decide_eq_false fun e => elb (congrArg Stmt.body e)
    rw [decide_eq_false elb]
    go_wp2_with fail
    go_ret
    exact ⟨by rw [HF.out]; rfl, HB2.out⟩
  rw [decide_eq_true elb]
  subst elb
  have HE : Hid _ := eqI_any (HRWll1.out _ HB2.out) (HRWll2.out _ HB2.out)
  go_wp2_with fail
  refine Calls.mono HE.out ?_
  rintro e y3 ⟨rfl, hb⟩
  have HB3 : Hid (Below w.heap.size w y3) := HB2.out.trans (hb.mono HB2.out.size)
  have HP3 : Hid _ := blk_thru hb HP2.out
  have HQ3 : Hid _ := blk_thru hb HQ2.out
  clear hb HE HB2 HP2 HQ2 x0 x1 x2 x3 x4 x5 x6 x7 z0 z1 z2 z3 z4 z5 z6 z7
  have x0 := cell_blk HP3.out 0 rfl
  have x1 := cell_blk HP3.out 1 rfl
  have x2 := cell_blk HP3.out 2 rfl
  have x3 := cell_blk HP3.out 3 rfl
  have x4 := cell_blk HP3.out 4 rfl
  have x5 := cell_blk HP3.out 5 rfl
  have x6 := cell_blk HP3.out 6 rfl
  have x7 := cell_blk HP3.out 7 rfl
  have z0 := cell_blk HQ3.out 0 rfl
  have z1 := cell_blk HQ3.out 1 rfl
  have z2 := cell_blk HQ3.out 2 rfl
  have z3 := cell_blk HQ3.out 3 rfl
  have z4 := cell_blk HQ3.out 4 rfl
  have z5 := cell_blk HQ3.out 5 rfl
  have z6 := cell_blk HQ3.out 6 rfl
  have z7 := cell_blk HQ3.out 7 rfl
  by_cases ell : ll1 = ll2
  case neg =>
    have HF : Hid (R = false) := by
      show _ = _
      rw [← HR.out]
      exact decide_eq_false fun e => ell (congrArg Stmt.els e)
    rw [decide_eq_false ell]
    go_wp2_with fail
    go_ret
    exact ⟨by rw [HF.out]; rfl, HB3.out⟩
  rw [decide_eq_true ell]
  subst ell
  have HF : Hid (R = true) := by
    show _ = _
    rw [← HR.out]
    exact decide_eq_true rfl
  go_wp2_with fail
  go_ret
  exact ⟨by rw [HF.out]; rfl, HB3.out⟩
set_option maxRecDepth 100000 in
set_option maxHeartbeats 8000000 in
theorem sameDecl_any {C D : Nat} {w : World} (p q : Dx) (hp : DxR C w p) (hq : DxR D w q) : Calls Tryz.prog 39 #[dcV p, dcV q] w fun e w' => e = .returned (.bool (decide (p.d = q.d))) ∧ Below w.heap.size w w' := by
  obtain ⟨⟨kd1, nm1, ex1, n1, bs1, ps1, ct1, rk1, bd1⟩, vps1, vbd1⟩ := p
  obtain ⟨rps1, rbd1⟩ := hp
  dsimp only at rps1 rbd1
  obtain ⟨pps1, cps1, hv⟩ := row_form rps1
  subst hv
  obtain ⟨pbd1, cbd1, hv⟩ := row_form rbd1
  subst hv
  obtain ⟨⟨kd2, nm2, ex2, n2, bs2, ps2, ct2, rk2, bd2⟩, vps2, vbd2⟩ := q
  obtain ⟨rps2, rbd2⟩ := hq
  dsimp only at rps2 rbd2
  obtain ⟨pps2, cps2, hv⟩ := row_form rps2
  subst hv
  obtain ⟨pbd2, cbd2, hv⟩ := row_form rbd2
  subst hv
  unfold dcV
  dsimp only
  obtain ⟨R, hR⟩ : ∃ R, decide (((⟨kd1, nm1, ex1, n1, bs1, ps1, ct1, rk1, bd1⟩ : Decl) = ⟨kd2, nm2, ex2, n2, bs2, ps2, ct2, rk2, bd2⟩)) = R := ⟨_, rfl⟩
  rw [hR]
  have HR : Hid (_ = R) := hR
  obtain ⟨Y1, hY1⟩ : ∃ Y, w.alloc (.cells #[.int .i64 kd1, .string (X.str nm1), .bool ex1, .int .i64 n1, .string (X.str bs1), .slice pps1 ps1.length cps1, .int .i64 ct1, .int .i64 rk1, .slice pbd1 bd1.length cbd1] 54) = Y := ⟨_, rfl⟩
  have b1 : Below w.heap.size w Y1 := by rw [← hY1]; exact bl1 _ _
  obtain ⟨y0, hY2⟩ : ∃ Y, Y1.alloc (.cells #[.int .i64 kd2, .string (X.str nm2), .bool ex2, .int .i64 n2, .string (X.str bs2), .slice pps2 ps2.length cps2, .int .i64 ct2, .int .i64 rk2, .slice pbd2 bd2.length cbd2] 54) = Y := ⟨_, rfl⟩
  have b2 : Below Y1.heap.size Y1 y0 := by rw [← hY2]; exact bl1 _ _
  have HB0 : Hid (Below w.heap.size w y0) := b1.trans (b2.mono b1.size)
  have HP0 : Hid (y0.heap[w.heap.size]? = some (.cells #[.int .i64 kd1, .string (X.str nm1), .bool ex1, .int .i64 n1, .string (X.str bs1), .slice pps1 ps1.length cps1, .int .i64 ct1, .int .i64 rk1, .slice pbd1 bd1.length cbd1] 54)) := by show _ = _; rw [b2.block _ (by rw [← hY1]; simp), ← hY1]; exact heap_new _ _
  have HQ0 : Hid (y0.heap[Y1.heap.size]? = some (.cells #[.int .i64 kd2, .string (X.str nm2), .bool ex2, .int .i64 n2, .string (X.str bs2), .slice pps2 ps2.length cps2, .int .i64 ct2, .int .i64 rk2, .slice pbd2 bd2.length cbd2] 54)) := by show _ = _; rw [← hY2]; exact heap_new _ _
  have HRWps1 : Hid (∀ y, Below w.heap.size w y → y.ownsRow C 9 1 (.slice pps1 ps1.length cps1) ps1.length (ps1.map sZ)) := fun y hy => row_thru' rps1 hy
  have HRWps2 : Hid (∀ y, Below w.heap.size w y → y.ownsRow D 9 1 (.slice pps2 ps2.length cps2) ps2.length (ps2.map sZ)) := fun y hy => row_thru' rps2 hy
  have HRWbd1 : Hid (∀ y, Below w.heap.size w y → y.ownsRow C 3 1 (.slice pbd1 bd1.length cbd1) bd1.length (bd1.map iZ)) := fun y hy => row_thru' rbd1 hy
  have HRWbd2 : Hid (∀ y, Below w.heap.size w y → y.ownsRow D 3 1 (.slice pbd2 bd2.length cbd2) bd2.length (bd2.map iZ)) := fun y hy => row_thru' rbd2 hy
  have x0 := cell_blk HP0.out 0 rfl
  have x1 := cell_blk HP0.out 1 rfl
  have x2 := cell_blk HP0.out 2 rfl
  have x3 := cell_blk HP0.out 3 rfl
  have x4 := cell_blk HP0.out 4 rfl
  have x5 := cell_blk HP0.out 5 rfl
  have x6 := cell_blk HP0.out 6 rfl
  have x7 := cell_blk HP0.out 7 rfl
  have x8 := cell_blk HP0.out 8 rfl
  have z0 := cell_blk HQ0.out 0 rfl
  have z1 := cell_blk HQ0.out 1 rfl
  have z2 := cell_blk HQ0.out 2 rfl
  have z3 := cell_blk HQ0.out 3 rfl
  have z4 := cell_blk HQ0.out 4 rfl
  have z5 := cell_blk HQ0.out 5 rfl
  have z6 := cell_blk HQ0.out 6 rfl
  have z7 := cell_blk HQ0.out 7 rfl
  have z8 := cell_blk HQ0.out 8 rfl
  clear hR b1 b2 rps1 rps2 rbd1 rbd2
  have ssnm := str_self nm1
  have ssbs := str_self bs1
  go_enter Tryz.func39, Tryz.ntmps39
  by_cases ekd : kd1 = kd2
  case neg =>
    have HF : Hid (R = false) := by
      show _ = _
      rw [← HR.out]
      exact decide_eq_false fun e => ekd (congrArg Decl.kind e)
    have d : (kd1 == kd2) = false := by simpa using ekd
    go_wp2_with fail
    go_ret
    exact ⟨by rw [HF.out]; rfl, HB0.out⟩
  subst ekd
  by_cases enm : nm1 = nm2
  case neg =>
    have HF : Hid (R = false) := by
      show _ = _
      rw [← HR.out]
      exact decide_eq_false fun e => enm (congrArg Decl.name e)
    have d := str_beq nm1 nm2
    rw [decide_eq_false enm] at d
    go_wp2_with fail
    go_ret
    exact ⟨by rw [HF.out]; rfl, HB0.out⟩
  subst enm
  by_cases eex : ex1 = ex2
  case neg =>
    have HF : Hid (R = false) := by
      show _ = _
      rw [← HR.out]
      exact decide_eq_false fun e => eex (congrArg Decl.ext e)
    have d : (ex1 == ex2) = false := by simpa using eex
    go_wp2_with fail
    go_ret
    exact ⟨by rw [HF.out]; rfl, HB0.out⟩
  subst eex
  by_cases en : n1 = n2
  case neg =>
    have HF : Hid (R = false) := by
      show _ = _
      rw [← HR.out]
      exact decide_eq_false fun e => en (congrArg Decl.n e)
    have d : (n1 == n2) = false := by simpa using en
    go_wp2_with fail
    go_ret
    exact ⟨by rw [HF.out]; rfl, HB0.out⟩
  subst en
  by_cases ebs : bs1 = bs2
  case neg =>
    have HF : Hid (R = false) := by
      show _ = _
      rw [← HR.out]
      exact decide_eq_false fun e => ebs (congrArg Decl.by' e)
    have d := str_beq bs1 bs2
    rw [decide_eq_false ebs] at d
    go_wp2_with fail
    go_ret
    exact ⟨by rw [HF.out]; rfl, HB0.out⟩
  subst ebs
  have HE : Hid _ := eqS_any (HRWps1.out _ HB0.out) (HRWps2.out _ HB0.out)
  go_wp2_with fail
  refine Calls.mono HE.out ?_
  rintro e y1 ⟨rfl, hb⟩
  have HB1 : Hid (Below w.heap.size w y1) := HB0.out.trans (hb.mono HB0.out.size)
  have HP1 : Hid _ := blk_thru hb HP0.out
  have HQ1 : Hid _ := blk_thru hb HQ0.out
  clear hb HE HB0 HP0 HQ0 x0 x1 x2 x3 x4 x5 x6 x7 x8 z0 z1 z2 z3 z4 z5 z6 z7 z8
  have x0 := cell_blk HP1.out 0 rfl
  have x1 := cell_blk HP1.out 1 rfl
  have x2 := cell_blk HP1.out 2 rfl
  have x3 := cell_blk HP1.out 3 rfl
  have x4 := cell_blk HP1.out 4 rfl
  have x5 := cell_blk HP1.out 5 rfl
  have x6 := cell_blk HP1.out 6 rfl
  have x7 := cell_blk HP1.out 7 rfl
  have x8 := cell_blk HP1.out 8 rfl
  have z0 := cell_blk HQ1.out 0 rfl
  have z1 := cell_blk HQ1.out 1 rfl
  have z2 := cell_blk HQ1.out 2 rfl
  have z3 := cell_blk HQ1.out 3 rfl
  have z4 := cell_blk HQ1.out 4 rfl
  have z5 := cell_blk HQ1.out 5 rfl
  have z6 := cell_blk HQ1.out 6 rfl
  have z7 := cell_blk HQ1.out 7 rfl
  have z8 := cell_blk HQ1.out 8 rfl
  by_cases eps : ps1 = ps2
  case neg =>
    have HF : Hid (R = false) := by
      show _ = _
      rw [← HR.out]
      exact decide_eq_false fun e => eps (congrArg Decl.params e)
    rw [decide_eq_false eps]
    go_wp2_with fail
    go_ret
    exact ⟨by rw [HF.out]; rfl, HB1.out⟩
  rw [decide_eq_true eps]
  subst eps
  by_cases ect : ct1 = ct2
  case neg =>
    have HF : Hid (R = false) := by
      show _ = _
      rw [← HR.out]
      exact decide_eq_false fun e => ect (congrArg Decl.count e)
    have d : (ct1 == ct2) = false := by simpa using ect
    go_wp2_with fail
    go_ret
    exact ⟨by rw [HF.out]; rfl, HB1.out⟩
  subst ect
  by_cases erk : rk1 = rk2
  case neg =>
    have HF : Hid (R = false) := by
      show _ = _
      rw [← HR.out]
      exact decide_eq_false fun e => erk (congrArg Decl.rank e)
    have d : (rk1 == rk2) = false := by simpa using erk
    go_wp2_with fail
    go_ret
    exact ⟨by rw [HF.out]; rfl, HB1.out⟩
  subst erk
  have HE : Hid _ := eqI_any (HRWbd1.out _ HB1.out) (HRWbd2.out _ HB1.out)
  go_wp2_with fail
  refine Calls.mono HE.out ?_
  rintro e y2 ⟨rfl, hb⟩
  have HB2 : Hid (Below w.heap.size w y2) := HB1.out.trans (hb.mono HB1.out.size)
  have HP2 : Hid _ := blk_thru hb HP1.out
  have HQ2 : Hid _ := blk_thru hb HQ1.out
  clear hb HE HB1 HP1 HQ1 x0 x1 x2 x3 x4 x5 x6 x7 x8 z0 z1 z2 z3 z4 z5 z6 z7 z8
  have x0 := cell_blk HP2.out 0 rfl
  have x1 := cell_blk HP2.out 1 rfl
  have x2 := cell_blk HP2.out 2 rfl
  have x3 := cell_blk HP2.out 3 rfl
  have x4 := cell_blk HP2.out 4 rfl
  have x5 := cell_blk HP2.out 5 rfl
  have x6 := cell_blk HP2.out 6 rfl
  have x7 := cell_blk HP2.out 7 rfl
  have x8 := cell_blk HP2.out 8 rfl
  have z0 := cell_blk HQ2.out 0 rfl
  have z1 := cell_blk HQ2.out 1 rfl
  have z2 := cell_blk HQ2.out 2 rfl
  have z3 := cell_blk HQ2.out 3 rfl
  have z4 := cell_blk HQ2.out 4 rfl
  have z5 := cell_blk HQ2.out 5 rfl
  have z6 := cell_blk HQ2.out 6 rfl
  have z7 := cell_blk HQ2.out 7 rfl
  have z8 := cell_blk HQ2.out 8 rfl
  by_cases ebd : bd1 = bd2
  case neg =>
    have HF : Hid (R = false) := by
      show _ = _
      rw [← HR.out]
      exact decide_eq_false fun e => ebd (congrArg Decl.body e)
    rw [decide_eq_false ebd]
    go_wp2_with fail
    go_ret
    exact ⟨by rw [HF.out]; rfl, HB2.out⟩
  rw [decide_eq_true ebd]
  subst ebd
  have HF : Hid (R = true) := by
    show _ = _
    rw [← HR.out]
    exact decide_eq_true rfl
  go_wp2_with fail
  go_ret
  exact ⟨by rw [HF.out]; rfl, HB2.out⟩
end Go.Proofs.YtikknlkdbjaonaaGreatDoor.Y

/- Lists of statements, compared. -/
namespace Go.Proofs.YtikknlkdbjaonaaGreatDoor.Y
open Go.RowKit Go.Maps Go.Lib
set_option linter.unusedVariables false
set_option linter.unusedSimpArgs false
theorem MS.bel {C : Nat} {w y : World} {vs : Value} {XS : List Sx} (h : MS C w vs XS) (hb : Below w.heap.size w y) : MS C y vs XS := h.kp (B := w.heap.size) (Kp.of hb (Nat.le_refl _))
set_option maxRecDepth 100000 in
set_option maxHeartbeats 8000000 in
theorem eqfS_any {C D : Nat} {w : World} {a b : Option Addr} {c d : Nat} {XS YS : List Sx} (hl : MS C w (.slice a XS.length c) XS) (hm : MS D w (.slice b YS.length d) YS) : Calls Tryz.prog 40 #[.slice a XS.length c, .slice b YS.length d, .func (.func 41) #[] #[]] w fun e w' => e = .returned (.bool (decide (XS.map (·.s) = YS.map (·.s)))) ∧ Below w.heap.size w w' := by
  have hm2 : maxLen = 9223372036854775807 := rfl
  have hlm : XS.length ≤ maxLen := by rcases hl.rs.2 with ⟨e1, e2⟩ | ⟨g, cap, cur, e1, e2, e3, e4, e5, -⟩ <;> omega
  have hmm : YS.length ≤ maxLen := by rcases hm.rs.2 with ⟨e1, e2⟩ | ⟨g, cap, cur, e1, e2, e3, e4, e5, -⟩ <;> omega
  have HL : Hid (∀ y, Below w.heap.size w y → MS C y (.slice a XS.length c) XS) := fun y hy => hl.bel hy
  have HM : Hid (∀ y, Below w.heap.size w y → MS D y (.slice b YS.length d) YS) := fun y hy => hm.bel hy
  clear hl hm
  go_enter Tryz.func40, Tryz.ntmps40
  by_cases hlen : XS.length = YS.length
  case neg =>
    have e0 : ((XS.length : Int) != (YS.length : Int)) = true := by
      have : (XS.length : Int) ≠ YS.length := fun e => hlen (by omega)
      simpa using this
    have HF : Hid (decide (XS.map (·.s) = YS.map (·.s)) = false) := decide_eq_false fun e => hlen (by have := congrArg List.length e; simpa using this)
    clear hlen
    go_wp2_with fail
    go_ret
    exact ⟨by rw [HF.out]; rfl, Below.refl _ _⟩
  have e0 : ((XS.length : Int) != (YS.length : Int)) = false := by rw [hlen]; simp
  have HLE : Hid (XS.length = YS.length) := hlen
  clear hlen
  go_wp2_with fail
  go_loopg [7, 8, 9, 17] XS.length (fun gg v7 v8 v9 v17 wq => ∃ (k : Nat), gg = XS.length - k ∧ v17 = .int .i64 (k : Int) ∧ k ≤ XS.length ∧ Hid (∀ j, j < k → (XS.map (·.s))[j]? = (YS.map (·.s))[j]?) ∧ Hid (Below w.heap.size w wq))
  case atStart => exact ⟨0, rfl, rfl, Nat.zero_le _, (fun j hj => by omega : ∀ j, j < 0 → (XS.map (·.s))[j]? = (YS.map (·.s))[j]?), Below.refl _ _⟩
  case round =>
    obtain ⟨k, rfl, rfl, hk, HE, HB⟩ := hrel
    by_cases hkl : k < XS.length
    · have hkm : k < YS.length := by have := HLE.out; omega
      have hki : (k : Int) < XS.length := by omega
      have hkj : (k : Int) < YS.length := by omega
      have hk0 : 0 ≤ (k : Int) := by omega
      obtain ⟨p, hp1⟩ : ∃ p, XS[k]? = some p := ⟨_, List.getElem?_eq_getElem (by assumption)⟩
      obtain ⟨ra, rb, rl⟩ := (HL.out _ HB.out).sr p (List.mem_of_getElem? hp1)
      obtain ⟨d1, va, vb, vl⟩ := p
      dsimp only at ra rb rl
      obtain ⟨pa1, ca1, hv⟩ := row_form ra
      subst hv
      obtain ⟨pb1, cb1, hv⟩ := row_form rb
      subst hv
      obtain ⟨pl1, cl1, hv⟩ := row_form rl
      subst hv
      clear ra rb rl
      obtain ⟨g, cs, hv, hc1⟩ := (HL.out _ HB.out).cells hp1
      injection hv with hv1 _ hv2
      subst hv1 hv2
      have HP1 : Hid (XS[k]? = some (⟨d1, .slice pa1 d1.args.length ca1, .slice pb1 d1.body.length cb1, .slice pl1 d1.els.length cl1⟩ : Sx)) := hp1
      clear hp1
      obtain ⟨p, hp2⟩ : ∃ p, YS[k]? = some p := ⟨_, List.getElem?_eq_getElem (by assumption)⟩
      obtain ⟨ra, rb, rl⟩ := (HM.out _ HB.out).sr p (List.mem_of_getElem? hp2)
      obtain ⟨d2, va, vb, vl⟩ := p
      dsimp only at ra rb rl
      obtain ⟨pa2, ca2, hv⟩ := row_form ra
      subst hv
      obtain ⟨pb2, cb2, hv⟩ := row_form rb
      subst hv
      obtain ⟨pl2, cl2, hv⟩ := row_form rl
      subst hv
      clear ra rb rl
      obtain ⟨g2, cs, hv, hc2⟩ := (HM.out _ HB.out).cells hp2
      injection hv with hv1 _ hv2
      subst hv1 hv2
      have HP2 : Hid (YS[k]? = some (⟨d2, .slice pa2 d2.args.length ca2, .slice pb2 d2.body.length cb2, .slice pl2 d2.els.length cl2⟩ : Sx)) := hp2
      clear hp2
      have x0 : wr.cell? ⟨g, k * 8, none⟩ = some (.int .i64 d1.kind) := hc1 0 _ rfl
      have x1 := hc1 1 _ rfl
      have x2 := hc1 2 _ rfl
      have x3 := hc1 3 _ rfl
      have x4 := hc1 4 _ rfl
      have x5 := hc1 5 _ rfl
      have x6 := hc1 6 _ rfl
      have x7 := hc1 7 _ rfl
      obtain ⟨Y1, hY1⟩ : ∃ Y, wr.alloc (.cells #[.int .i64 d1.kind, .string (X.str d1.name), .string (X.str d1.fn), .int .i64 d1.e, .int .i64 d1.i, .slice pa1 d1.args.length ca1, .slice pb1 d1.body.length cb1, .slice pl1 d1.els.length cl1] 35) = Y := ⟨_, rfl⟩
      have HBY : Hid (Below wr.heap.size wr Y1) := by show Below _ _ _; rw [← hY1]; exact bl1 _ _
      have HBX1 : Hid (Y1.heap[wr.heap.size]? = some (.cells #[.int .i64 d1.kind, .string (X.str d1.name), .string (X.str d1.fn), .int .i64 d1.e, .int .i64 d1.i, .slice pa1 d1.args.length ca1, .slice pb1 d1.body.length cb1, .slice pl1 d1.els.length cl1] 35)) := by show _ = _; rw [← hY1]; exact heap_new _ _
      have HY1 : Hid (wr.alloc (.cells #[.int .i64 d1.kind, .string (X.str d1.name), .string (X.str d1.fn), .int .i64 d1.e, .int .i64 d1.i, .slice pa1 d1.args.length ca1, .slice pb1 d1.body.length cb1, .slice pl1 d1.els.length cl1] 35) = Y1) := hY1
      have HZ : Hid (∀ (o : Obj) (j : Nat) (u : Value), (stC (⟨d2, .slice pa2 d2.args.length ca2, .slice pb2 d2.body.length cb2, .slice pl2 d2.els.length cl2⟩ : Sx))[j]? = some u → (wr.alloc o).cell? ⟨g2, k * 8 + j, none⟩ = some u) := fun o j u hu => cell_thru (bl1 _ _) (hc2 j u hu)
      have z0 : ∀ o, (wr.alloc o).cell? ⟨g2, k * 8, none⟩ = some (.int .i64 d2.kind) := fun o => HZ.out o 0 _ rfl
      have z1 := fun o => HZ.out o 1 _ rfl
      have z2 := fun o => HZ.out o 2 _ rfl
      have z3 := fun o => HZ.out o 3 _ rfl
      have z4 := fun o => HZ.out o 4 _ rfl
      have z5 := fun o => HZ.out o 5 _ rfl
      have z6 := fun o => HZ.out o 6 _ rfl
      have z7 := fun o => HZ.out o 7 _ rfl
      obtain ⟨Z, hZ⟩ : ∃ Z, (wr.alloc (.cells #[.int .i64 d1.kind, .string (X.str d1.name), .string (X.str d1.fn), .int .i64 d1.e, .int .i64 d1.i, .slice pa1 d1.args.length ca1, .slice pb1 d1.body.length cb1, .slice pl1 d1.els.length cl1] 35)).alloc (.cells #[.int .i64 d2.kind, .string (X.str d2.name), .string (X.str d2.fn), .int .i64 d2.e, .int .i64 d2.i, .slice pa2 d2.args.length ca2, .slice pb2 d2.body.length cb2, .slice pl2 d2.els.length cl2] 35) = Z := ⟨_, rfl⟩
      have HBZ : Hid (Below w.heap.size w Z) := by show Below _ _ _; rw [← hZ]; exact (HB.out.alloc HB.out.size _).alloc (by have := HB.out.size; simp; omega) _
      have hp1' := (HL.out _ HBZ.out).sr _ (List.mem_of_getElem? HP1.out)
      have hp2' := (HM.out _ HBZ.out).sr _ (List.mem_of_getElem? HP2.out)
      have HSS : Hid _ := sameStmt_any _ _ hp1' hp2'
      have HZ2 : Hid ((wr.alloc (.cells #[.int .i64 d1.kind, .string (X.str d1.name), .string (X.str d1.fn), .int .i64 d1.e, .int .i64 d1.i, .slice pa1 d1.args.length ca1, .slice pb1 d1.body.length cb1, .slice pl1 d1.els.length cl1] 35)).alloc (.cells #[.int .i64 d2.kind, .string (X.str d2.name), .string (X.str d2.fn), .int .i64 d2.e, .int .i64 d2.i, .slice pa2 d2.args.length ca2, .slice pb2 d2.body.length cb2, .slice pl2 d2.els.length cl2] 35) = Z) := hZ
      clear hY1 hc1 hc2 HZ hZ hp1' hp2' HBY HBX1 HY1
      go_wp2_with fail
      rw [HZ2.out]
      refine Calls.mono HSS.out ?_
      rintro e y1 ⟨rfl, hb⟩
      have HB1 : Hid (Below w.heap.size w y1) := HBZ.out.trans (hb.mono HBZ.out.size)
      clear hb HSS
      dsimp only
      by_cases hxy : d1 = d2
      · rw [decide_eq_true hxy]
        go_wp2_with fail
        go_roundg (XS.length - (k + 1))
        case measure => omega
        case rel =>
          refine ⟨k + 1, rfl, by go_num, by omega, ?_, HB1⟩
          intro j hj
          by_cases e : j = k
          · subst e; rw [List.getElem?_map, List.getElem?_map, HP1.out, HP2.out, hxy]; rfl
          · exact HE.out j (by omega)
      · have HF : Hid (decide (XS.map (·.s) = YS.map (·.s)) = false) := decide_eq_false fun e => hxy (by
          have h1 : (XS.map (·.s))[k]? = some d1 := by rw [List.getElem?_map, HP1.out]; rfl
          have h2 : (YS.map (·.s))[k]? = some d2 := by rw [List.getElem?_map, HP2.out]; rfl
          rw [e, h2] at h1
          injection h1 with h1
          exact h1.symm)
        rw [decide_eq_false hxy]
        go_wp2_with fail
        go_ret
        exact ⟨by rw [HF.out]; rfl, HB1.out⟩
    · obtain rfl : k = XS.length := by omega
      have HF : Hid (decide (XS.map (·.s) = YS.map (·.s)) = true) := decide_eq_true (List.ext_getElem? fun j => by
        by_cases hj : j < XS.length
        · exact HE.out j hj
        · rw [List.getElem?_eq_none (by rw [List.length_map]; omega), List.getElem?_eq_none (by rw [List.length_map]; have := HLE.out; omega)])
      go_wp2_with fail
      go_ret
      exact ⟨by rw [HF.out]; rfl, HB.out⟩
end Go.Proofs.YtikknlkdbjaonaaGreatDoor.Y

/- Lists of declarations, compared. -/
namespace Go.Proofs.YtikknlkdbjaonaaGreatDoor.Y
open Go.RowKit Go.Maps Go.Lib
set_option linter.unusedVariables false
set_option linter.unusedSimpArgs false
theorem MDs.bel {C : Nat} {w y : World} {vs : Value} {XS : List Dx} (h : MDs C w vs XS) (hb : Below w.heap.size w y) : MDs C y vs XS := h.kp (B := w.heap.size) (Kp.of hb (Nat.le_refl _))
set_option maxRecDepth 100000 in
set_option maxHeartbeats 8000000 in
theorem eqfD_any {C D : Nat} {w : World} {a b : Option Addr} {c d : Nat} {XS YS : List Dx} (hl : MDs C w (.slice a XS.length c) XS) (hm : MDs D w (.slice b YS.length d) YS) : Calls Tryz.prog 38 #[.slice a XS.length c, .slice b YS.length d, .func (.func 39) #[] #[]] w fun e w' => e = .returned (.bool (decide (XS.map (·.d) = YS.map (·.d)))) ∧ Below w.heap.size w w' := by
  have hm2 : maxLen = 9223372036854775807 := rfl
  have hlm : XS.length ≤ maxLen := by rcases hl.rd.2 with ⟨e1, e2⟩ | ⟨g, cap, cur, e1, e2, e3, e4, e5, -⟩ <;> omega
  have hmm : YS.length ≤ maxLen := by rcases hm.rd.2 with ⟨e1, e2⟩ | ⟨g, cap, cur, e1, e2, e3, e4, e5, -⟩ <;> omega
  have HL : Hid (∀ y, Below w.heap.size w y → MDs C y (.slice a XS.length c) XS) := fun y hy => hl.bel hy
  have HM : Hid (∀ y, Below w.heap.size w y → MDs D y (.slice b YS.length d) YS) := fun y hy => hm.bel hy
  clear hl hm
  go_enter Tryz.func38, Tryz.ntmps38
  by_cases hlen : XS.length = YS.length
  case neg =>
    have e0 : ((XS.length : Int) != (YS.length : Int)) = true := by
      have : (XS.length : Int) ≠ YS.length := fun e => hlen (by omega)
      simpa using this
    have HF : Hid (decide (XS.map (·.d) = YS.map (·.d)) = false) := decide_eq_false fun e => hlen (by have := congrArg List.length e; simpa using this)
    clear hlen
    go_wp2_with fail
    go_ret
    exact ⟨by rw [HF.out]; rfl, Below.refl _ _⟩
  have e0 : ((XS.length : Int) != (YS.length : Int)) = false := by rw [hlen]; simp
  have HLE : Hid (XS.length = YS.length) := hlen
  clear hlen
  go_wp2_with fail
  go_loopg [7, 8, 9, 17] XS.length (fun gg v7 v8 v9 v17 wq => ∃ (k : Nat), gg = XS.length - k ∧ v17 = .int .i64 (k : Int) ∧ k ≤ XS.length ∧ Hid (∀ j, j < k → (XS.map (·.d))[j]? = (YS.map (·.d))[j]?) ∧ Hid (Below w.heap.size w wq))
  case atStart => exact ⟨0, rfl, rfl, Nat.zero_le _, (fun j hj => by omega : ∀ j, j < 0 → (XS.map (·.d))[j]? = (YS.map (·.d))[j]?), Below.refl _ _⟩
  case round =>
    obtain ⟨k, rfl, rfl, hk, HE, HB⟩ := hrel
    by_cases hkl : k < XS.length
    · have hkm : k < YS.length := by have := HLE.out; omega
      have hki : (k : Int) < XS.length := by omega
      have hkj : (k : Int) < YS.length := by omega
      have hk0 : 0 ≤ (k : Int) := by omega
      obtain ⟨p, hp1⟩ : ∃ p, XS[k]? = some p := ⟨_, List.getElem?_eq_getElem (by assumption)⟩
      obtain ⟨ra, rb⟩ := (HL.out _ HB.out).dr p (List.mem_of_getElem? hp1)
      obtain ⟨d1, va, vb⟩ := p
      dsimp only at ra rb
      obtain ⟨pa1, ca1, hv⟩ := row_form ra
      subst hv
      obtain ⟨pb1, cb1, hv⟩ := row_form rb
      subst hv
      clear ra rb
      obtain ⟨g, cs, hv, hc1⟩ := (HL.out _ HB.out).cells hp1
      injection hv with hv1 _ hv2
      subst hv1 hv2
      have HP1 : Hid (XS[k]? = some (⟨d1, .slice pa1 d1.params.length ca1, .slice pb1 d1.body.length cb1⟩ : Dx)) := hp1
      clear hp1
      obtain ⟨p, hp2⟩ : ∃ p, YS[k]? = some p := ⟨_, List.getElem?_eq_getElem (by assumption)⟩
      obtain ⟨ra, rb⟩ := (HM.out _ HB.out).dr p (List.mem_of_getElem? hp2)
      obtain ⟨d2, va, vb⟩ := p
      dsimp only at ra rb
      obtain ⟨pa2, ca2, hv⟩ := row_form ra
      subst hv
      obtain ⟨pb2, cb2, hv⟩ := row_form rb
      subst hv
      clear ra rb
      obtain ⟨g2, cs, hv, hc2⟩ := (HM.out _ HB.out).cells hp2
      injection hv with hv1 _ hv2
      subst hv1 hv2
      have HP2 : Hid (YS[k]? = some (⟨d2, .slice pa2 d2.params.length ca2, .slice pb2 d2.body.length cb2⟩ : Dx)) := hp2
      clear hp2
      have x0 : wr.cell? ⟨g, k * 9, none⟩ = some (.int .i64 d1.kind) := hc1 0 _ rfl
      have x1 := hc1 1 _ rfl
      have x2 := hc1 2 _ rfl
      have x3 := hc1 3 _ rfl
      have x4 := hc1 4 _ rfl
      have x5 := hc1 5 _ rfl
      have x6 := hc1 6 _ rfl
      have x7 := hc1 7 _ rfl
      have x8 := hc1 8 _ rfl
      obtain ⟨Y1, hY1⟩ : ∃ Y, wr.alloc (.cells #[.int .i64 d1.kind, .string (X.str d1.name), .bool d1.ext, .int .i64 d1.n, .string (X.str d1.by'), .slice pa1 d1.params.length ca1, .int .i64 d1.count, .int .i64 d1.rank, .slice pb1 d1.body.length cb1] 54) = Y := ⟨_, rfl⟩
      have HBY : Hid (Below wr.heap.size wr Y1) := by show Below _ _ _; rw [← hY1]; exact bl1 _ _
      have HBX1 : Hid (Y1.heap[wr.heap.size]? = some (.cells #[.int .i64 d1.kind, .string (X.str d1.name), .bool d1.ext, .int .i64 d1.n, .string (X.str d1.by'), .slice pa1 d1.params.length ca1, .int .i64 d1.count, .int .i64 d1.rank, .slice pb1 d1.body.length cb1] 54)) := by show _ = _; rw [← hY1]; exact heap_new _ _
      have HY1 : Hid (wr.alloc (.cells #[.int .i64 d1.kind, .string (X.str d1.name), .bool d1.ext, .int .i64 d1.n, .string (X.str d1.by'), .slice pa1 d1.params.length ca1, .int .i64 d1.count, .int .i64 d1.rank, .slice pb1 d1.body.length cb1] 54) = Y1) := hY1
      have HZ : Hid (∀ (o : Obj) (j : Nat) (u : Value), (dcC (⟨d2, .slice pa2 d2.params.length ca2, .slice pb2 d2.body.length cb2⟩ : Dx))[j]? = some u → (wr.alloc o).cell? ⟨g2, k * 9 + j, none⟩ = some u) := fun o j u hu => cell_thru (bl1 _ _) (hc2 j u hu)
      have z0 : ∀ o, (wr.alloc o).cell? ⟨g2, k * 9, none⟩ = some (.int .i64 d2.kind) := fun o => HZ.out o 0 _ rfl
      have z1 := fun o => HZ.out o 1 _ rfl
      have z2 := fun o => HZ.out o 2 _ rfl
      have z3 := fun o => HZ.out o 3 _ rfl
      have z4 := fun o => HZ.out o 4 _ rfl
      have z5 := fun o => HZ.out o 5 _ rfl
      have z6 := fun o => HZ.out o 6 _ rfl
      have z7 := fun o => HZ.out o 7 _ rfl
      have z8 := fun o => HZ.out o 8 _ rfl
      obtain ⟨Z, hZ⟩ : ∃ Z, (wr.alloc (.cells #[.int .i64 d1.kind, .string (X.str d1.name), .bool d1.ext, .int .i64 d1.n, .string (X.str d1.by'), .slice pa1 d1.params.length ca1, .int .i64 d1.count, .int .i64 d1.rank, .slice pb1 d1.body.length cb1] 54)).alloc (.cells #[.int .i64 d2.kind, .string (X.str d2.name), .bool d2.ext, .int .i64 d2.n, .string (X.str d2.by'), .slice pa2 d2.params.length ca2, .int .i64 d2.count, .int .i64 d2.rank, .slice pb2 d2.body.length cb2] 54) = Z := ⟨_, rfl⟩
      have HBZ : Hid (Below w.heap.size w Z) := by show Below _ _ _; rw [← hZ]; exact (HB.out.alloc HB.out.size _).alloc (by have := HB.out.size; simp; omega) _
      have hp1' := (HL.out _ HBZ.out).dr _ (List.mem_of_getElem? HP1.out)
      have hp2' := (HM.out _ HBZ.out).dr _ (List.mem_of_getElem? HP2.out)
      have HSS : Hid _ := sameDecl_any _ _ hp1' hp2'
      have HZ2 : Hid ((wr.alloc (.cells #[.int .i64 d1.kind, .string (X.str d1.name), .bool d1.ext, .int .i64 d1.n, .string (X.str d1.by'), .slice pa1 d1.params.length ca1, .int .i64 d1.count, .int .i64 d1.rank, .slice pb1 d1.body.length cb1] 54)).alloc (.cells #[.int .i64 d2.kind, .string (X.str d2.name), .bool d2.ext, .int .i64 d2.n, .string (X.str d2.by'), .slice pa2 d2.params.length ca2, .int .i64 d2.count, .int .i64 d2.rank, .slice pb2 d2.body.length cb2] 54) = Z) := hZ
      clear hY1 hc1 hc2 HZ hZ hp1' hp2' HBY HBX1 HY1
      go_wp2_with fail
      rw [HZ2.out]
      refine Calls.mono HSS.out ?_
      rintro e y1 ⟨rfl, hb⟩
      have HB1 : Hid (Below w.heap.size w y1) := HBZ.out.trans (hb.mono HBZ.out.size)
      clear hb HSS
      dsimp only
      by_cases hxy : d1 = d2
      · rw [decide_eq_true hxy]
        go_wp2_with fail
        go_roundg (XS.length - (k + 1))
        case measure => omega
        case rel =>
          refine ⟨k + 1, rfl, by go_num, by omega, ?_, HB1⟩
          intro j hj
          by_cases e : j = k
          · subst e; rw [List.getElem?_map, List.getElem?_map, HP1.out, HP2.out, hxy]; rfl
          · exact HE.out j (by omega)
      · have HF : Hid (decide (XS.map (·.d) = YS.map (·.d)) = false) := decide_eq_false fun e => hxy (by
          have h1 : (XS.map (·.d))[k]? = some d1 := by rw [List.getElem?_map, HP1.out]; rfl
          have h2 : (YS.map (·.d))[k]? = some d2 := by rw [List.getElem?_map, HP2.out]; rfl
          rw [e, h2] at h1
          injection h1 with h1
          exact h1.symm)
        rw [decide_eq_false hxy]
        go_wp2_with fail
        go_ret
        exact ⟨by rw [HF.out]; rfl, HB1.out⟩
    · obtain rfl : k = XS.length := by omega
      have HF : Hid (decide (XS.map (·.d) = YS.map (·.d)) = true) := decide_eq_true (List.ext_getElem? fun j => by
        by_cases hj : j < XS.length
        · exact HE.out j hj
        · rw [List.getElem?_eq_none (by rw [List.length_map]; omega), List.getElem?_eq_none (by rw [List.length_map]; have := HLE.out; omega)])
      go_wp2_with fail
      go_ret
      exact ⟨by rw [HF.out]; rfl, HB.out⟩
end Go.Proofs.YtikknlkdbjaonaaGreatDoor.Y

/- Two modules, compared. -/
namespace Go.Proofs.YtikknlkdbjaonaaGreatDoor.Y
open Go.RowKit Go.Maps Go.Lib
set_option linter.unusedVariables false
set_option linter.unusedSimpArgs false
/-- A module as it lies, to be read. -/
structure MV (C : Nat) (w : World) (vd vs ve : Value) (DX : List Dx) (XS : List Sx) (E : List Exp) : Prop where
  d : MDs C w vd DX
  s : MS C w vs XS
  e : w.ownsRow C 32 6 ve E.length (E.flatMap expC)
theorem MV.bel {C : Nat} {w y : World} {vd vs ve : Value} {DX : List Dx} {XS : List Sx} {E : List Exp} (h : MV C w vd vs ve DX XS E) (hb : Below w.heap.size w y) : MV C y vd vs ve DX XS E := ⟨h.d.bel hb, h.s.bel hb, row_thru' h.e hb⟩
set_option maxRecDepth 100000 in
set_option maxHeartbeats 8000000 in
theorem same_any {C D : Nat} {w : World} {vd1 vs1 ve1 vd2 vs2 ve2 : Value} {DX1 DX2 : List Dx} {XS1 XS2 : List Sx} {E1 E2 : List Exp} (h1 : MV C w vd1 vs1 ve1 DX1 XS1 E1) (h2 : MV D w vd2 vs2 ve2 DX2 XS2 E2) : Calls Tryz.prog 23 #[.agg #[vd1, vs1, ve1], .agg #[vd2, vs2, ve2]] w fun e w' => e = .returned (.bool (decide ((⟨DX1.map (·.d), XS1.map (·.s), E1⟩ : Mod) = ⟨DX2.map (·.d), XS2.map (·.s), E2⟩))) ∧ Below w.heap.size w w' := by
  obtain ⟨ad1, cd1, hv⟩ := row_form h1.d.rd
  subst hv
  obtain ⟨as1, cs1, hv⟩ := row_form h1.s.rs
  subst hv
  obtain ⟨ae1, ce1, hv⟩ := row_form h1.e
  subst hv
  obtain ⟨ad2, cd2, hv⟩ := row_form h2.d.rd
  subst hv
  obtain ⟨as2, cs2, hv⟩ := row_form h2.s.rs
  subst hv
  obtain ⟨ae2, ce2, hv⟩ := row_form h2.e
  subst hv
  obtain ⟨R, hR⟩ : ∃ R, decide ((⟨DX1.map (·.d), XS1.map (·.s), E1⟩ : Mod) = ⟨DX2.map (·.d), XS2.map (·.s), E2⟩) = R := ⟨_, rfl⟩
  rw [hR]
  have HR : Hid (_ = R) := hR
  obtain ⟨Y1, hY1⟩ : ∃ Y, w.alloc (.cells #[.slice ad1 DX1.length cd1, .slice as1 XS1.length cs1, .slice ae1 E1.length ce1] 26) = Y := ⟨_, rfl⟩
  have b1 : Below w.heap.size w Y1 := by rw [← hY1]; exact bl1 _ _
  obtain ⟨y0, hY2⟩ : ∃ Y, Y1.alloc (.cells #[.slice ad2 DX2.length cd2, .slice as2 XS2.length cs2, .slice ae2 E2.length ce2] 26) = Y := ⟨_, rfl⟩
  have b2 : Below Y1.heap.size Y1 y0 := by rw [← hY2]; exact bl1 _ _
  have HB0 : Hid (Below w.heap.size w y0) := b1.trans (b2.mono b1.size)
  have HP0 : Hid (y0.heap[w.heap.size]? = some (.cells #[.slice ad1 DX1.length cd1, .slice as1 XS1.length cs1, .slice ae1 E1.length ce1] 26)) := by show _ = _; rw [b2.block _ (by rw [← hY1]; simp), ← hY1]; exact heap_new _ _
  have HQ0 : Hid (y0.heap[Y1.heap.size]? = some (.cells #[.slice ad2 DX2.length cd2, .slice as2 XS2.length cs2, .slice ae2 E2.length ce2] 26)) := by show _ = _; rw [← hY2]; exact heap_new _ _
  have H1 : Hid (∀ y, Below w.heap.size w y → MV C y (.slice ad1 DX1.length cd1) (.slice as1 XS1.length cs1) (.slice ae1 E1.length ce1) DX1 XS1 E1) := fun y hy => h1.bel hy
  have H2 : Hid (∀ y, Below w.heap.size w y → MV D y (.slice ad2 DX2.length cd2) (.slice as2 XS2.length cs2) (.slice ae2 E2.length ce2) DX2 XS2 E2) := fun y hy => h2.bel hy
  have x0 := cell_blk HP0.out 0 rfl
  have x1 := cell_blk HP0.out 1 rfl
  have x2 := cell_blk HP0.out 2 rfl
  have z0 := cell_blk HQ0.out 0 rfl
  have z1 := cell_blk HQ0.out 1 rfl
  have z2 := cell_blk HQ0.out 2 rfl
  clear hR b1 b2 h1 h2
  go_enter Tryz.func23, Tryz.ntmps23
  have HE : Hid _ := eqfD_any (H1.out _ HB0.out).d (H2.out _ HB0.out).d
  go_wp2_with fail
  refine Calls.mono HE.out ?_
  rintro e y1 ⟨rfl, hb⟩
  have HB1 : Hid (Below w.heap.size w y1) := HB0.out.trans (hb.mono HB0.out.size)
  have HP1 : Hid _ := blk_thru hb HP0.out
  have HQ1 : Hid _ := blk_thru hb HQ0.out
  clear hb HE HB0 HP0 HQ0 x0 x1 x2 z0 z1 z2
  have x0 := cell_blk HP1.out 0 rfl
  have x1 := cell_blk HP1.out 1 rfl
  have x2 := cell_blk HP1.out 2 rfl
  have z0 := cell_blk HQ1.out 0 rfl
  have z1 := cell_blk HQ1.out 1 rfl
  have z2 := cell_blk HQ1.out 2 rfl
  dsimp only
  by_cases q1 : DX1.map (·.d) = DX2.map (·.d)
  case neg =>
    have HF : Hid (R = false) := by
      show _ = _
      rw [← HR.out]
      exact decide_eq_false fun e => q1 (congrArg Mod.decls e)
    rw [decide_eq_false q1]
    go_wp2_with fail
    go_ret
    exact ⟨by rw [HF.out]; rfl, HB1.out⟩
  rw [decide_eq_true q1]
  have Q1 : Hid (DX1.map (·.d) = DX2.map (·.d)) := q1
  clear q1
  have HE : Hid _ := eqfS_any (H1.out _ HB1.out).s (H2.out _ HB1.out).s
  go_wp2_with fail
  refine Calls.mono HE.out ?_
  rintro e y2 ⟨rfl, hb⟩
  have HB2 : Hid (Below w.heap.size w y2) := HB1.out.trans (hb.mono HB1.out.size)
  have HP2 : Hid _ := blk_thru hb HP1.out
  have HQ2 : Hid _ := blk_thru hb HQ1.out
  clear hb HE HB1 HP1 HQ1 x0 x1 x2 z0 z1 z2
  have x0 := cell_blk HP2.out 0 rfl
  have x1 := cell_blk HP2.out 1 rfl
  have x2 := cell_blk HP2.out 2 rfl
  have z0 := cell_blk HQ2.out 0 rfl
  have z1 := cell_blk HQ2.out 1 rfl
  have z2 := cell_blk HQ2.out 2 rfl
  dsimp only
  by_cases q2 : XS1.map (·.s) = XS2.map (·.s)
  case neg =>
    have HF : Hid (R = false) := by
      show _ = _
      rw [← HR.out]
      exact decide_eq_false fun e => q2 (congrArg Mod.stmts e)
    rw [decide_eq_false q2]
    go_wp2_with fail
    go_ret
    exact ⟨by rw [HF.out]; rfl, HB2.out⟩
  rw [decide_eq_true q2]
  have Q2 : Hid (XS1.map (·.s) = XS2.map (·.s)) := q2
  clear q2
  have HE : Hid _ := eqE_any (H1.out _ HB2.out).e (H2.out _ HB2.out).e
  go_wp2_with fail
  refine Calls.mono HE.out ?_
  rintro e y3 ⟨rfl, hb⟩
  have HB3 : Hid (Below w.heap.size w y3) := HB2.out.trans (hb.mono HB2.out.size)
  have HP3 : Hid _ := blk_thru hb HP2.out
  have HQ3 : Hid _ := blk_thru hb HQ2.out
  clear hb HE HB2 HP2 HQ2 x0 x1 x2 z0 z1 z2
  have x0 := cell_blk HP3.out 0 rfl
  have x1 := cell_blk HP3.out 1 rfl
  have x2 := cell_blk HP3.out 2 rfl
  have z0 := cell_blk HQ3.out 0 rfl
  have z1 := cell_blk HQ3.out 1 rfl
  have z2 := cell_blk HQ3.out 2 rfl
  dsimp only
  by_cases q3 : E1 = E2
  case neg =>
    have HF : Hid (R = false) := by
      show _ = _
      rw [← HR.out]
      exact decide_eq_false fun e => q3 (congrArg Mod.exps e)
    rw [decide_eq_false q3]
    go_wp2_with fail
    go_ret
    exact ⟨by rw [HF.out]; rfl, HB3.out⟩
  rw [decide_eq_true q3]
  have Q3 : Hid (E1 = E2) := q3
  clear q3
  have HF : Hid (R = true) := by
    show _ = _
    rw [← HR.out, Q1.out, Q2.out, Q3.out]
    exact decide_eq_true rfl
  go_wp2_with fail
  go_ret
  exact ⟨by rw [HF.out]; rfl, HB3.out⟩
end Go.Proofs.YtikknlkdbjaonaaGreatDoor.Y

/- The program's Print, told whole. -/
namespace Go.Proofs.YtikknlkdbjaonaaGreatDoor.Y
open Go.RowKit Go.Maps Go.Lib
set_option linter.unusedVariables false
set_option linter.unusedSimpArgs false
/-- What the program prints of a module. -/
def prt (M : Mod) : Option By := (wall M []).bind fun T => if (parse T).1 = some M then some T else none
def PrOut (w : World) (r : Option By) (e : Ending) (w' : World) : Prop :=
  Below w.heap.size w w' ∧ match r with
    | none => e = .returned (.tuple #[.string { data := #[] }, .int .i64 1])
    | some T => e = .returned (.tuple #[.string (X.str T), .int .i64 0])
theorem parse_code {l : By} (h : (parse l).1 = none) : ((parse l).2 : Int) ≠ 0 := by
  unfold parse at h ⊢
  by_cases e : (X.lex l).2 = 0
  · rw [if_pos e] at h ⊢
    cases hm : modOf (X.lex l).1 with
    | none => simp
    | some M => rw [hm] at h; cases h
  · rw [if_neg e]
    exact fun h => e (by exact_mod_cast h)
set_option maxRecDepth 100000 in
set_option maxHeartbeats 4000000 in
theorem print_any {C : Nat} {vd vs ve : Value} {E : List Exp} {XS : List Sx} {DX : List Dx} {w : World} (hV : MV C w vd vs ve DX XS E) (hE : E.length ≤ 4000 → EOk E) (hS : SOk XS) (hd : ∀ p ∈ DX, D1 p.d) (he : Env w) (hpw : Lib.TabIs Tryz.prog w "internal/strconv.uint64pow10" .u64 Lib.pow10Tab) : Calls Tryz.prog 13 #[.agg #[vd, vs, ve]] w (PrOut w (prt ⟨DX.map (·.d), XS.map (·.s), E⟩)) := by
  obtain ⟨ad, cd, hv⟩ := row_form hV.d.rd
  subst hv
  obtain ⟨as', cs, hv⟩ := row_form hV.s.rs
  subst hv
  obtain ⟨ae, ce, hv⟩ := row_form hV.e
  subst hv
  have hz := he.hz
  obtain ⟨R, hR⟩ : ∃ R, prt ⟨DX.map (·.d), XS.map (·.s), E⟩ = R := ⟨_, rfl⟩
  rw [hR]
  have HR : Hid (((wall ⟨DX.map (·.d), XS.map (·.s), E⟩ []).bind fun T => if (parse T).1 = some ⟨DX.map (·.d), XS.map (·.s), E⟩ then some T else none) = R) := hR
  obtain ⟨y0, hY⟩ : ∃ Y, w.alloc (.cells #[.slice ad DX.length cd, .slice as' XS.length cs, .slice ae E.length ce] 26) = Y := ⟨_, rfl⟩
  have hb0 : Below w.heap.size w y0 := by rw [← hY]; exact bl1 _ _
  have HB0 : Hid (Below w.heap.size w y0) := hb0
  have HP0 : Hid (y0.heap[w.heap.size]? = some (.cells #[.slice ad DX.length cd, .slice as' XS.length cs, .slice ae E.length ce] 26)) := by show _ = _; rw [← hY]; exact heap_new _ _
  have HV : Hid (∀ y, Below w.heap.size w y → MV C y (.slice ad DX.length cd) (.slice as' XS.length cs) (.slice ae E.length ce) DX XS E) := fun y hy => hV.bel hy
  have HEV : Hid (∀ y, Below w.heap.size w y → Env y) := fun y hy => he.below (hy.mono hz)
  have HW : Hid _ := write_any (HV.out _ hb0).e (HV.out _ hb0).s (HV.out _ hb0).d hE hS hd (HEV.out _ hb0) (pw_below hpw hb0 hz)
  have x0 := cell_blk HP0.out 0 rfl
  have x1 := cell_blk HP0.out 1 rfl
  have x2 := cell_blk HP0.out 2 rfl
  clear hV hE hS hd he hpw hb0 hR
  go_enter Tryz.func13, Tryz.ntmps13
  go_wp2_with fail
  refine Calls.mono HW.out ?_
  intro e y1 hy
  have HY : Hid _ := hy
  clear hy HW
  cases hw : wall ⟨DX.map (·.d), XS.map (·.s), E⟩ [] with
  | none =>
    have h2 := HY.out
    rw [hw] at h2
    obtain ⟨hb, h3⟩ := h2
    have h3' : e = _ := h3
    subst h3'
    obtain rfl : none = R := by have := HR.out; rw [hw] at this; exact this
    have HB1 : Hid (Below w.heap.size w y1) := HB0.out.trans (hb.mono HB0.out.size)
    clear hb h3 HY HR
    go_wp2_with fail
    go_ret2
    exact ⟨HB1.out, rfl⟩
  | some T =>
    have h2 := HY.out
    rw [hw] at h2
    obtain ⟨hb, hlen, h3⟩ := h2
    subst h3
    have hr1 := HR.out
    rw [hw] at hr1
    simp only [Option.bind_some] at hr1
    have HR1 : Hid (_ = R) := hr1
    have HB1 : Hid (Below w.heap.size w y1) := HB0.out.trans (hb.mono HB0.out.size)
    have HP1 : Hid _ := blk_thru hb HP0.out
    have HPA : Hid _ := parse_any (X.str T) (by rw [str_len]; unfold maxLen; omega) y1 (HEV.out _ HB1.out)
    clear hb HY HR hr1 HB0 HP0 x0 x1 x2
    have x0 := cell_blk HP1.out 0 rfl
    have x1 := cell_blk HP1.out 1 rfl
    have x2 := cell_blk HP1.out 2 rfl
    go_wp2_with fail
    refine Calls.mono HPA.out ?_
    intro e y2 hy
    have hT : (X.str T).data.toList = T := by simp [X.str]
    rw [hT] at hy
    have HY : Hid _ := hy
    clear hy HPA hT
    cases hp : (parse T).1 with
    | none =>
      have h2 := HY.out
      have h3 := h2.2
      rw [hp] at h3
      have h3' : e = _ := h3
      subst h3'
      obtain rfl : none = R := by have := HR1.out; rw [hp] at this; exact this
      have hc : (((parse T).2 : Int) != 0) = true := by simpa using parse_code hp
      have HB2 : Hid (Below w.heap.size w y2) := HB1.out.trans (h2.1.mono HB1.out.size)
      clear h2 h3 HY HR1
      unfold noMod
      generalize ((parse T).2 : Int) = cc at *
      go_wp2_with fail
      go_ret2
      exact ⟨HB2.out.trans ((bl1 _ _).mono HB2.out.size), rfl⟩
    | some M =>
      have h2 := HY.out
      have h3 := h2.2
      rw [hp] at h3
      obtain ⟨vd2, vs2, ve2, DX2, XS2, h4, hmd⟩ := h3
      subst h4
      have HB2 : Hid (Below w.heap.size w y2) := HB1.out.trans (h2.1.mono HB1.out.size)
      have HP2 := blk_thru h2.1 HP1.out
      obtain ⟨a2, c2, hv⟩ := row_form hmd.rd
      subst hv
      obtain ⟨a3, c3, hv⟩ := row_form hmd.rs
      subst hv
      obtain ⟨a4, c4, hv⟩ := row_form hmd.re
      subst hv
      have hMM : M = ⟨DX2.map (·.d), XS2.map (·.s), M.exps⟩ := by rw [hmd.hd, hmd.hs]
      obtain ⟨y3, hY3⟩ : ∃ Y, y2.alloc (.cells #[.slice a2 DX2.length c2, .slice a3 XS2.length c3, .slice a4 M.exps.length c4] 26) = Y := ⟨_, rfl⟩
      have hb3 : Below y2.heap.size y2 y3 := by rw [← hY3]; exact bl1 _ _
      have HB3 : Hid (Below w.heap.size w y3) := HB2.out.trans (hb3.mono HB2.out.size)
      have hv2 : MV y1.heap.size y2 (.slice a2 DX2.length c2) (.slice a3 XS2.length c3) (.slice a4 M.exps.length c4) DX2 XS2 M.exps := ⟨⟨hmd.rd, hmd.dr⟩, ⟨hmd.rs, hmd.sr⟩, hmd.re⟩
      have HSA : Hid _ := same_any (HV.out _ HB3.out) (hv2.bel hb3)
      have HP3 := blk_thru hb3 HP2
      have HQ3 : y3.heap[y2.heap.size]? = some (.cells #[.slice a2 DX2.length c2, .slice a3 XS2.length c3, .slice a4 M.exps.length c4] 26) := by rw [← hY3]; exact heap_new _ _
      have x0 := cell_blk HP3 0 rfl
      have x1 := cell_blk HP3 1 rfl
      have x2 := cell_blk HP3 2 rfl
      have z0 := cell_blk HQ3 0 rfl
      have z1 := cell_blk HQ3 1 rfl
      have z2 := cell_blk HQ3 2 rfl
      have HYY : Hid (y2.alloc (.cells #[.slice a2 DX2.length c2, .slice a3 XS2.length c3, .slice a4 M.exps.length c4] 26) = y3) := hY3
      have HMM : Hid (M = ⟨DX2.map (·.d), XS2.map (·.s), M.exps⟩) := hMM
      have HPP : Hid ((parse T).1 = some M) := hp
      clear hMM hp hv2 hmd h2 HY HP1 HP2 HP3 HQ3 hb3
      go_wp2_with fail
      try rw [HYY.out]
      refine Calls.mono HSA.out ?_
      rintro e y4 ⟨rfl, hb⟩
      have HB4 : Hid (Below w.heap.size w y4) := HB3.out.trans (hb.mono HB3.out.size)
      clear hb HSA
      dsimp only
      by_cases hs : (⟨DX.map (·.d), XS.map (·.s), E⟩ : Mod) = ⟨DX2.map (·.d), XS2.map (·.s), M.exps⟩
      · rw [decide_eq_true hs]
        obtain rfl : some T = R := by
          have := HR1.out
          rw [HPP.out, HMM.out, hs, if_pos rfl] at this
          exact this
        clear HR1 hs
        go_wp2_with fail
        go_ret2
        exact ⟨HB4.out, rfl⟩
      · rw [decide_eq_false hs]
        obtain rfl : none = R := by
          have := HR1.out
          rw [HPP.out, if_neg (fun e => hs (by injection e with e; rw [← e]; exact HMM.out))] at this
          exact this
        clear HR1 hs
        go_wp2_with fail
        go_ret2
        exact ⟨HB4.out, rfl⟩
end Go.Proofs.YtikknlkdbjaonaaGreatDoor.Y

/- What the rows' list, and the world's shape, give: the tables of words and operators and the library's variables. -/
namespace Go.Proofs.YtikknlkdbjaonaaGreatDoor.Y
open Go.ChangeShapes Go.WideShapes Go.ChangeAt Go.RowKit Go.Joins
set_option linter.unusedVariables false
set_option linter.unusedSimpArgs false
theorem gWords : Tryz.prog.globalNamed "cotter/lex.words" = some 0 := by kernel_rfl
theorem gER : Tryz.prog.globalNamed "strconv.ErrRange" = some 3 := by kernel_rfl
theorem gES : Tryz.prog.globalNamed "strconv.ErrSyntax" = some 2 := by kernel_rfl
theorem gOps : Tryz.prog.globalNamed "cotter/parse.operators" = some 5 := by kernel_rfl
theorem gB64 : Tryz.prog.globalNamed "math/bits.deBruijn64tab" = some 7 := by kernel_rfl
theorem tWords : (Tryz.prog.globals[0]?).map (·.type) = some 114 := by kernel_rfl
theorem tER : (Tryz.prog.globals[3]?).map (·.type) = some 101 := by kernel_rfl
theorem tES : (Tryz.prog.globals[2]?).map (·.type) = some 101 := by kernel_rfl
theorem tPow : (Tryz.prog.globals[4]?).map (·.type) = some 155 := by kernel_rfl
theorem tOps : (Tryz.prog.globals[5]?).map (·.type) = some 162 := by kernel_rfl
theorem cWords : Tryz.prog.cellsOf 114 = 17 := by kernel_rfl
theorem cStr : Tryz.prog.cellsOf 9 = 1 := by kernel_rfl
theorem cInt : Tryz.prog.cellsOf 3 = 1 := by kernel_rfl
theorem cES : Tryz.prog.cellsOf 153 = 1 := by kernel_rfl
theorem cPow : Tryz.prog.cellsOf 155 = 20 := by kernel_rfl
theorem cU64 : Tryz.prog.cellsOf 106 = 1 := by kernel_rfl
theorem cOps : Tryz.prog.cellsOf 162 = 36 := by kernel_rfl
theorem cOp : Tryz.prog.cellsOf 161 = 2 := by kernel_rfl
theorem star : "*" ++ "errors.errorString" = "*errors.errorString" := by decide
theorem rowES (u : TypeId) (h : Tryz.prog.typeName? 3 u = some "*errors.errorString") : u = 151 :=
  typeName_ptr_named (nm := "errors.errorString") (by rw [star]; kernel_rfl) (by kernel_rfl) (by decide) u (by rw [star]; exact h)
theorem laidPow : Rows.laid_internal_strconv_uint64pow10 (H := Unit) = Lib.tabData .u64 Lib.pow10Tab := by rfl
def rowD (r : By × Nat) : DataW Unit := .agg [.lit (.string r.1), .lit (.int .i64 r.2)]
theorem laidOps : Rows.laid_cotter_parse_operators (H := Unit) = .agg (ops.map rowD) := by rfl

theorem words_of_trod {W : World} {fuel : Nat} {cs : List Value} {p : List MemPlace} {enc : TypeId × Value → Unit} {base : Nat} {sp : Nat → Bool} {held : Bool}
    (h : DataW.trod enc Tryz.prog W base sp held fuel 114 cs = some (Rows.laid_cotter_lex_words, p)) : ∀ o : Nat, cs[o]? = X.wordsV[o]? := by
  obtain ⟨xs, m, -, hx, hl, hn, hel⟩ := DataW.trod_array Tryz.underlying114 h
  rw [cWords] at hl
  rw [cStr] at hel
  have hx1 : xs.map (·.1) = X.words.map fun l => DataW.lit (.string l) := by
    simp only [Prod.mk.injEq] at hx
    have h1 := hx.1
    unfold Rows.laid_cotter_lex_words at h1
    injection h1 with h1
    exact h1.symm
  intro o
  by_cases ho : o < 17
  · have h1 := hel o ho
    rw [Nat.mul_one] at h1
    obtain ⟨y, hy⟩ : ∃ y, xs[o]? = some y := ⟨xs[o], List.getElem?_eq_getElem (by omega)⟩
    rw [hy] at h1
    obtain ⟨s, e1, e2, -⟩ := DataW.trod_string Tryz.underlying9 h1
    obtain ⟨b, hb1, hb2⟩ := wordsV_at o ho
    have h2 : (xs.map (·.1))[o]? = some y.1 := by rw [List.getElem?_map, hy]; rfl
    rw [hx1, List.getElem?_map, hb2] at h2
    have h3 : DataW.lit (H := Unit) (.string b.data.toList) = y.1 := Option.some.inj h2
    rw [e2] at h3
    injection h3 with h3
    injection h3 with h3
    have h4 : b = s := by cases b; cases s; simp at h3; simp [h3]
    rw [hb1, h4]
    have h5 := congrArg (·[0]?) e1
    simpa [List.getElem?_take, List.getElem?_drop] using h5
  · rw [List.getElem?_eq_none (by omega), Array.getElem?_eq_none (by show 17 ≤ o; omega)]
theorem str_of (s : ByteArray) : s = X.str s.data.toList := by cases s; simp [X.str]
theorem opsC_at (k : Nat) (hk : k < 18) : ∃ r, ops[k]? = some r ∧ opsC[k * 2]? = some (.string (X.str r.1)) ∧ opsC[k * 2 + 1]? = some (.int .i64 r.2) := by
  refine cases18 (P := fun k => ∃ r, ops[k]? = some r ∧ opsC[k * 2]? = some (.string (X.str r.1)) ∧ opsC[k * 2 + 1]? = some (.int .i64 r.2)) k hk ?_ ?_ ?_ ?_ ?_ ?_ ?_ ?_ ?_ ?_ ?_ ?_ ?_ ?_ ?_ ?_ ?_ ?_ <;> exact ⟨_, rfl, rfl, rfl⟩
set_option maxRecDepth 100000 in
theorem ops_of_trod {W : World} {fuel : Nat} {cs : List Value} {p : List MemPlace} {enc : TypeId × Value → Unit} {base : Nat} {sp : Nat → Bool} {held : Bool}
    (h : DataW.trod enc Tryz.prog W base sp held fuel 162 cs = some (Rows.laid_cotter_parse_operators, p)) : ∀ o : Nat, cs[o]? = opsC[o]? := by
  obtain ⟨xs, m, -, hx, hl, hn, hel⟩ := DataW.trod_array Tryz.underlying162 h
  rw [cOps] at hl
  rw [cOp] at hel
  have hx1 : xs.map (·.1) = ops.map rowD := by
    simp only [Prod.mk.injEq] at hx
    have h1 := hx.1
    rw [laidOps] at h1
    injection h1 with h1
    exact h1.symm
  have key : ∀ k, k < 18 → cs[k * 2]? = opsC[k * 2]? ∧ cs[k * 2 + 1]? = opsC[k * 2 + 1]? := by
    intro k hk
    have h1 := hel k hk
    obtain ⟨y, hy⟩ : ∃ y, xs[k]? = some y := ⟨xs[k], List.getElem?_eq_getElem (by omega)⟩
    rw [hy] at h1
    have h2 : (xs.map (·.1))[k]? = some y.1 := by rw [List.getElem?_map, hy]; rfl
    obtain ⟨r, hrow, c0, c1⟩ := opsC_at k hk
    rw [hx1, List.getElem?_map, hrow] at h2
    have h3 : rowD r = y.1 := Option.some.inj h2
    obtain ⟨y0, y1, n, e0, hl2, g0, g1⟩ := trod_struct2 Tryz.underlying161 h1
    simp only [cStr, cInt] at g0 g1
    obtain ⟨s0, q0, d0, -⟩ := DataW.trod_string Tryz.underlying9 g0
    obtain ⟨n1, q1, d1, -⟩ := DataW.trod_int Tryz.underlying3 g1
    rw [e0, d0, d1] at h3
    simp only [rowD, DataW.agg.injEq, List.cons.injEq, DataW.lit.injEq, Lit.string.injEq, Lit.int.injEq, and_true, true_and] at h3
    obtain ⟨p0, p1⟩ := h3
    have k0 := congrArg (·[0]?) q0
    have k1 := congrArg (·[0]?) q1
    simp only [List.getElem?_take, List.getElem?_drop, List.getElem?_cons_zero] at k0 k1
    rw [c0, c1, p0, ← str_of, p1]
    exact ⟨by simpa using k0, by simpa using k1⟩
  intro o
  by_cases ho : o < 36
  · have hk := key (o / 2) (by omega)
    rcases (show o = o / 2 * 2 ∨ o = o / 2 * 2 + 1 by omega) with e | e
    · rw [e]; exact hk.1
    · rw [e]; exact hk.2
  · rw [List.getElem?_eq_none (by omega), Array.getElem?_eq_none (by show 36 ≤ o; omega)]

theorem maxlen_of {W : World} (h : W.ShapedOpen Tryz.prog) : ∃ m, W.cell? ⟨1, 0, none⟩ = some (.int .i64 m) :=
  Go.Proofs.cell_of_shapedOpen_int (zero := #[.int .i64 0]) (t := 3) h (of_decide_eq_true (by kernel_rfl)) (by kernel_rfl) rfl (by kernel_rfl) (by kernel_rfl) Tryz.underlying3
theorem size_of {W : World} {cs : Array Value} (h : W.var? Tryz.prog "math/bits.deBruijn64tab" = some cs) : 8 ≤ W.heap.size := by
  unfold World.var? at h
  rw [gB64] at h
  simp only [Option.bind_some] at h
  cases hc : W.heap[7]? with
  | none => rw [hc] at h; cases h
  | some o => have := (Array.getElem?_eq_some_iff.1 hc).1; omega
abbrev WT (W : World) : Prop := Env W ∧ Lib.TabIs Tryz.prog W "internal/strconv.uint64pow10" .u64 Lib.pow10Tab
theorem env_of_laid {W : World} (h : laidMetH Tryz.prog Rows.parseReadsRow.laid W) (hsh : W.ShapedOpen Tryz.prog) : WT W := by
  have h' : laidMet Tryz.prog Rows.parseReadsRow.laid W := h
  obtain ⟨ps6, ⟨g6, t6, cs6, f6, p6, q6, hg6, ht6, hv6, hd6, _, _⟩, _, _⟩ := h'.tail
  have h2 := h'.tail.tail
  have h3 := h2.tail
  have h4 := h3.tail
  have h5 := h4.tail
  have h6 := h5.tail
  have hp : Lib.TabIs Tryz.prog W "internal/strconv.uint64pow10" .u64 Lib.pow10Tab := by
    have e : (Rows.laid_internal_strconv_uint64pow10 (H := Unit)) = Lib.tabData .u64 Lib.pow10Tab := laidPow
    exact Lib.tabIs_of_head (rest := [("strconv.ErrRange", Rows.laid_strconv_ErrRange), ("strconv.ErrSyntax", Rows.laid_strconv_ErrSyntax), ("cotter/lex.words", Rows.laid_cotter_lex_words), ("cotter/parse.operators", Rows.laid_cotter_parse_operators)]) gPow tPow Tryz.underlying155 Tryz.underlying106 cU64 cPow (by rw [← e]; exact h2)
  obtain ⟨a0, s0, hv0, -, -, -⟩ := laid_sentinel h3 gER tER Tryz.underlying101 rowES Tryz.underlying151 Tryz.underlying153 rfl rfl Tryz.underlying9 cES cStr
  obtain ⟨a1, s1, hv1, -, -, -⟩ := laid_sentinel h4 gES tES Tryz.underlying101 rowES Tryz.underlying151 Tryz.underlying153 rfl rfl Tryz.underlying9 cES cStr
  obtain ⟨ps, ⟨g2, t2, cs2, f2, p2, q2, hg2, ht2, hv2, hd2, _, _⟩, _, _⟩ := h5
  obtain rfl := Option.some.inj (gWords.symm.trans hg2)
  obtain rfl := Option.some.inj (tWords.symm.trans ht2)
  obtain ⟨ps3, ⟨g3, t3, cs3, f3, p3, q3, hg3, ht3, hv3, hd3, _, _⟩, _, _⟩ := h6
  obtain rfl := Option.some.inj (gOps.symm.trans hg3)
  obtain rfl := Option.some.inj (tOps.symm.trans ht3)
  have k0 := World.var?_cell gER hv0 0
  have k1 := World.var?_cell gES hv1 0
  have k2 := World.var?_cell hg2 hv2
  have k3 := World.var?_cell hg3 hv3
  have e0 := words_of_trod hd2
  have e3 := ops_of_trod hd3
  have c3 : W.cell? ⟨3, 0, none⟩ = some (.iface 151 (.pointer (some a0))) := by simpa using k0
  have hz : 8 ≤ W.heap.size := size_of hv6
  exact ⟨⟨⟨fun o => by rw [k2 o, ← Array.getElem?_toList, e0 o], ⟨_, by simpa using k1, .inr ⟨_, _, rfl⟩⟩, ⟨_, c3, .inr ⟨_, _, rfl⟩⟩, maxlen_of hsh, by omega⟩, fun o => by rw [k3 o, ← Array.getElem?_toList, e3 o], hz⟩, hp⟩
end Go.Proofs.YtikknlkdbjaonaaGreatDoor.Y

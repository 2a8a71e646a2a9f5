/- live. -/
import Derived.Test.YtgjingleolhkbaaGreatDoorTAu
import Derived.Test.YtgjingleolhkbaaGreatDoorTAs
namespace Go.Proofs.YtgjingleolhkbaaGreatDoor
open Go.RowKit Go.Maps Go.Lib
set_option linter.unusedVariables false
set_option linter.unusedSimpArgs false

set_option maxRecDepth 100000 in
set_option maxHeartbeats 8000000 in
theorem live_any (w : World) (ht : Tab w) (hJ : J.Tab w) :
  Calls Tryz.prog 10 #[] w fun e w' => e = .returned (.bool true) ∧ Below w.heap.size w w' := by
 have t1 : Z.text lx1 = (⟨{ data := #[25, 254, 23, 0, 0, 0, 0] }, [], [⟨{ data := #[120] }, 1, 0⟩], [⟨3, 1, { data := #[121] }, 0⟩]⟩, 0) := by
  unfold Z.text
  rw [lp1]
  exact la1
 have t2 : Z.text lx2 = (Z.noObj, 6) := by
  unfold Z.text
  rw [lp2]
  exact la2
 have h1 := text_any { data := #[120, 58, 10, 106, 109, 112, 32, 120, 10, 99, 97, 108, 108, 32, 121, 10, 46, 103, 108, 111, 98, 97, 108, 32, 120, 10] } (by decide) w ht hJ
 have h2 := fun y (hb : Below w.heap.size w y) => text_any { data := #[106, 109, 112, 32, 121, 10] } (by decide) y (ht.below hb) (J.Tab.below hJ hb)
 rw [show (({ data := #[120, 58, 10, 106, 109, 112, 32, 120, 10, 99, 97, 108, 108, 32, 121, 10, 46, 103, 108, 111, 98, 97, 108, 32, 120, 10] } : ByteArray).data.toList) = lx1 from rfl, t1] at h1
 rw [show (({ data := #[106, 109, 112, 32, 121, 10] } : ByteArray).data.toList) = lx2 from rfl, t2] at h2
 have HQ := O.relEq_yes 3 1 { data := #[121] } 0
 clear t1 t2 ht hJ
 go_enter Tryz.func10, Tryz.ntmps10
 go_wp2_with fail
 refine h1.mono ?_
 rintro e w1 ⟨vd, vs, vr, rfl, o1, o2, o3, hb1⟩
 simp only [List.length_cons, List.length_nil, Nat.zero_add] at o1 o2 o3
 obtain ⟨ad, cd, rfl⟩ := own_slice o1
 obtain ⟨as2, cs, rfl⟩ := own_slice o2
 obtain ⟨g, cr, cur, e3, -, -, -, -, -⟩ := own_row_cells o3 (by decide)
 subst e3
 have k0 : w1.cell? ⟨g, 0, none⟩ = some (.int .i64 3) := by rw [o3.cellAt 0 (by decide)]; rfl
 have k1 : w1.cell? ⟨g, 1, none⟩ = some (.int .i64 1) := by rw [o3.cellAt 1 (by decide)]; rfl
 have k2 : w1.cell? ⟨g, 2, none⟩ = some (.string { data := #[121] }) := by rw [o3.cellAt 2 (by decide)]; rfl
 have k3 : w1.cell? ⟨g, 3, none⟩ = some (.int .i64 0) := by rw [o3.cellAt 3 (by decide)]; rfl
 obtain ⟨Y1, hY1⟩ : ∃ Y1, w1.alloc (.cells #[.string { data := #[25, 254, 23, 0, 0, 0, 0] }, .slice ad 0 cd, .slice as2 1 cs, .slice (some ⟨g, 0, none⟩) 1 cr] 30) = Y1 := ⟨_, rfl⟩
 have bY1 : Below w1.heap.size w1 Y1 := by subst hY1; exact bl1 _ _
 have m0 : Y1.cell? ⟨w1.heap.size, 0, none⟩ = some (.string { data := #[25, 254, 23, 0, 0, 0, 0] }) := by subst hY1; exact cellA rfl rfl
 have m2 : Y1.cell? ⟨w1.heap.size, 2, none⟩ = some (.slice as2 1 cs) := by subst hY1; exact cellA rfl rfl
 have m3 : Y1.cell? ⟨w1.heap.size, 3, none⟩ = some (.slice (some ⟨g, 0, none⟩) 1 cr) := by subst hY1; exact cellA rfl rfl
 have HB1 : Hid (Below w.heap.size w Y1) := hb1.trans (bY1.mono hb1.size)
 have k0 := cell_thru bY1 k0
 have k1 := cell_thru bY1 k1
 have k2 := cell_thru bY1 k2
 have k3 := cell_thru bY1 k3
 clear o1 o2 o3 hb1 h1 bY1
 go_wp2_with fail
 refine (h2 Y1 HB1.out).mono ?_
 rintro e w2 ⟨vd2, vs2, vr2, rfl, o1, o2, o3, hb2⟩
 obtain ⟨ad2, cd2, rfl⟩ := own_slice o1
 obtain ⟨as22, cs22, rfl⟩ := own_slice o2
 obtain ⟨ar2, cr2, rfl⟩ := own_slice o3
 obtain ⟨Y2, hY2⟩ : ∃ Y2, w2.alloc (.cells #[.string Z.noObj.code, .slice ad2 Z.noObj.data.length cd2, .slice as22 Z.noObj.syms.length cs22, .slice ar2 Z.noObj.rels.length cr2] 30) = Y2 := ⟨_, rfl⟩
 have bY2 : Below w2.heap.size w2 Y2 := by subst hY2; exact bl1 _ _
 have bb : Below Y1.heap.size Y1 Y2 := hb2.trans (bY2.mono hb2.size)
 have k0 := cell_thru bb k0
 have k1 := cell_thru bb k1
 have k2 := cell_thru bb k2
 have k3 := cell_thru bb k3
 have m0 := cell_thru bb m0
 have m2 := cell_thru bb m2
 have m3 := cell_thru bb m3
 have HB2 : Hid (Below w.heap.size w Y2) := HB1.out.trans (bb.mono HB1.out.size)
 clear o1 o2 o3 hb2 bY2 bb h2 hY1
 generalize Z.noObj.code = noc at *
 generalize Z.noObj.data.length = nod at *
 generalize Z.noObj.syms.length = nos at *
 generalize Z.noObj.rels.length = nor at *
 go_wp2_with fail
 go_ret
 exact ⟨rfl, HB2.out⟩

end Go.Proofs.YtgjingleolhkbaaGreatDoor

/- What the document's named, Syms, May and Check come to. (Written by gen_rmay.py.) -/
namespace Go.Proofs.YtgjingleolhkbaaGreatDoor.O
open Go.RowKit Go.Maps Go.Lib
set_option linter.unusedVariables false

set_option maxRecDepth 100000 in
theorem named_any (s : ByteArray) (w : World) : Calls Tryz.prog 40 #[.string s] w fun e w' => e = .returned (.bool (nameOk s)) ∧ w' = w := by
 have HD : Hid (nameOk s = (decide ((1 : Int) ≤ s.size) && decide ((s.size : Int) ≤ 28))) := by
  show _ = _
  unfold nameOk
  congr 1 <;> exact decide_eq_decide.2 (by omega)
 go_enter Tryz.func40, Tryz.ntmps40
 by_cases h1 : 1 ≤ s.size
 ·by_cases h2 : s.size ≤ 28
  ·have d1 : decide ((1 : Int) ≤ s.size) = true := decide_eq_true (by omega)
   have d2 : decide ((s.size : Int) ≤ 28) = true := decide_eq_true (by omega)
   go_wp2
   go_ret
   exact ⟨by rw [HD.out, d1, d2]; rfl, rfl⟩
  ·have d1 : decide ((1 : Int) ≤ s.size) = true := decide_eq_true (by omega)
   have d2 : decide ((s.size : Int) ≤ 28) = false := decide_eq_false (by omega)
   go_wp2
   go_ret
   exact ⟨by rw [HD.out, d1, d2]; rfl, rfl⟩
 ·have d1 : decide ((1 : Int) ≤ s.size) = false := decide_eq_false (by omega)
  go_wp2
  go_ret
  exact ⟨by rw [HD.out, d1]; rfl, rfl⟩

theorem room_none {cl dl : Nat} {k : Int} (h : k < 1 ∨ 3 < k) : roomOf cl dl k = 0 := by unfold roomOf; rw [if_neg (by omega), if_neg (by omega)]
theorem room_code {cl dl : Nat} {k : Int} (h : k = 1 ∨ k = 3) : roomOf cl dl k = cl := by unfold roomOf; rw [if_pos h]
theorem room_data (cl dl : Nat) : roomOf cl dl 2 = dl := by unfold roomOf; rw [if_neg (by omega), if_pos rfl]
theorem dec_no {x r : Int} (h : ¬ (0 ≤ x ∧ x < r)) : (decide (0 ≤ x) && decide (x < r)) = false := by
 rw [Bool.and_eq_false_iff, decide_eq_false_iff_not, decide_eq_false_iff_not]
 omega
theorem dec_yes {x r : Int} (h : 0 ≤ x ∧ x < r) : (decide (0 ≤ x) && decide (x < r)) = true := by
 rw [decide_eq_true h.1, decide_eq_true h.2]
 rfl
theorem symAt_parts (cl dl : Nat) (ss : List Sym) (k : Nat) {nm : ByteArray} {kd ps : Int} (h : ss.getD k noSym = ⟨nm, kd, ps⟩) :
  (symOk cl dl ⟨nm, kd, ps⟩ = false → symAt cl dl ss k = false) ∧ (∀ j, j < k → (ss.getD j noSym).name = nm → symAt cl dl ss k = false) ∧ (symOk cl dl ⟨nm, kd, ps⟩ = true → (∀ j, j < k → (ss.getD j noSym).name ≠ nm) → symAt cl dl ss k = true) := by
 unfold symAt
 rw [h]
 refine ⟨fun e => by rw [e, Bool.and_false], fun j hj e => ?_, fun e hall => ?_⟩
 ·rw [all_range_no hj (by simpa using e), Bool.false_and]
 ·rw [e, Bool.and_true]
  exact all_range_yes (fun j hj => by simpa using hall j hj)
theorem syms_not {cl dl : Nat} {ss : List Sym} {k : Nat} (hk : k < ss.length) (h : symAt cl dl ss k = false) : symsOk cl dl ss = false := by
 unfold symsOk
 rw [all_range_no hk h, Bool.and_false]

set_option maxRecDepth 100000 in
set_option maxHeartbeats 8000000 in
theorem rsyms_any {w : World} {a : Option Addr} {l c : Nat} {ss : List Sym} (cl dl : Nat) (h : SymsV w a l c ss) :
  Calls Tryz.prog 39 #[.slice a l c, .int .i64 cl, .int .i64 dl] w fun e w' => e = .returned (.bool (symsOk cl dl ss)) ∧ Below w.heap.size w w' := by
 have HV : Hid _ := h
 have hcnt := h.count
 clear h
 go_enter Tryz.func39, Tryz.ntmps39
 by_cases hl : l ≤ 1000
 rotate_left
 ·have hd : decide ((1000 : Int) < l) = true := decide_eq_true (by omega)
  have HNO : Hid (symsOk cl dl ss = false) := by show _ = _; unfold symsOk; rw [decide_eq_false (by omega), Bool.false_and]
  go_wp2
  go_ret
  exact ⟨by rw [HNO.out]; rfl, Below.refl _ _⟩
 have hd : decide ((1000 : Int) < l) = false := decide_eq_false (by omega)
 go_wp2_with fail
 go_loopg [7] l (fun r iv wq => ∃ (k : Nat), iv = .int .i64 k ∧ k ≤ l ∧ l - k ≤ r ∧ Hid (∀ i, i < k → symAt cl dl ss i = true) ∧ Hid (Below w.heap.size w wq))
 case atStart => exact ⟨0, rfl, Nat.zero_le _, by omega, (fun i hi => by omega : ∀ i, i < 0 → symAt cl dl ss i = true), Below.refl _ _⟩
 case round =>
  obtain ⟨k, rfl, hk, hr, HAL, HBL⟩ := hrel
  by_cases hlt : k < l
  ·rcases HV.out.cells with h0 | ⟨b, off, hA, hc⟩
   ·omega
   obtain ⟨k0, k1, k2⟩ := hc k hlt
   have hbl : b < w.heap.size := World.block_lt_of_cell? w ⟨b, off + k * 3, none⟩ k0
   have q0 := (HBL.out.cell (p := ⟨b, off + k * 3, none⟩) hbl).trans k0
   have q1 := (HBL.out.cell (p := ⟨b, off + k * 3 + 1, none⟩) hbl).trans k1
   have q2 := (HBL.out.cell (p := ⟨b, off + k * 3 + 2, none⟩) hbl).trans k2
   have HCN : Hid (∀ j, j < l → w.cell? ⟨b, off + j * 3, none⟩ = some (.string (ss.getD j noSym).name)) := fun j hj => (hc j hj).1
   obtain ⟨⟨xn, xk, xp⟩, hx⟩ : ∃ x, ss.getD k noSym = x := ⟨_, rfl⟩
   rw [hx] at q0 q1 q2
   simp only at q0 q1 q2
   have HPT : Hid _ := symAt_parts cl dl ss k hx
   have HKL : Hid (k < ss.length) := by show k < _; omega
   subst hA
   have hii : (k : Int) < l := by omega
   have hin : 0 ≤ (k : Int) := by omega
   clear hc k0 k1 k2 hx
   have HBY : Hid (Below w.heap.size w (wr.alloc (.cells #[.string xn, .int .i64 xk, .int .i64 xp] 69))) := HBL.out.trans ((bl_one wr _).mono HBL.out.size)
   have HOK : Hid (symOk cl dl ⟨xn, xk, xp⟩ = (nameOk xn && (decide (0 ≤ xp) && decide (xp < roomOf cl dl xk)))) := rfl
   cases hnk : nameOk xn with
   | false =>
    have HNM : Hid _ := hnk
    have HNO : Hid (symsOk cl dl ss = false) := syms_not HKL.out (HPT.out.1 (by rw [HOK.out, hnk, Bool.false_and]))
    clear hnk
    go_wp2_with (go_at_call 40; refine (named_any _ _).mono ?_; rintro e y ⟨rfl, rfl⟩; rw [HNM.out])
    go_ret
    exact ⟨by rw [HNO.out]; rfl, HBY.out⟩
   | true =>
   have HNM : Hid _ := hnk
   rw [hnk, Bool.true_and] at HOK
   clear hnk
   by_cases g1 : xk < 1
   ·have d1 : decide (xk < 1) = true := decide_eq_true g1
    have HNO : Hid (symsOk cl dl ss = false) := syms_not HKL.out (HPT.out.1 (by rw [HOK.out, room_none (by omega)]; exact dec_no (by omega)))
    go_wp2_with (go_at_call 40; refine (named_any _ _).mono ?_; rintro e y ⟨rfl, rfl⟩; rw [HNM.out])
    go_ret
    exact ⟨by rw [HNO.out]; rfl, HBY.out⟩
   have d1 : decide (xk < 1) = false := decide_eq_false g1
   by_cases g2 : 3 < xk
   ·have d2 : decide (3 < xk) = true := decide_eq_true g2
    have HNO : Hid (symsOk cl dl ss = false) := syms_not HKL.out (HPT.out.1 (by rw [HOK.out, room_none (by omega)]; exact dec_no (by omega)))
    go_wp2_with (go_at_call 40; refine (named_any _ _).mono ?_; rintro e y ⟨rfl, rfl⟩; rw [HNM.out])
    go_ret
    exact ⟨by rw [HNO.out]; rfl, HBY.out⟩
   have d2 : decide (3 < xk) = false := decide_eq_false g2
   by_cases g3 : xp < 0
   ·have d3 : decide (xp < 0) = true := decide_eq_true g3
    have HNO : Hid (symsOk cl dl ss = false) := syms_not HKL.out (HPT.out.1 (by rw [HOK.out]; exact dec_no (by omega)))
    go_wp2_with (go_at_call 40; refine (named_any _ _).mono ?_; rintro e y ⟨rfl, rfl⟩; rw [HNM.out])
    go_ret
    exact ⟨by rw [HNO.out]; rfl, HBY.out⟩
   have d3 : decide (xp < 0) = false := decide_eq_false g3
   by_cases g4 : xk = 2
   ·subst g4
    by_cases g5 : (dl : Int) ≤ xp
    ·have d5 : decide ((dl : Int) ≤ xp) = true := decide_eq_true g5
     have HNO : Hid (symsOk cl dl ss = false) := syms_not HKL.out (HPT.out.1 (by rw [HOK.out, room_data]; exact dec_no (by omega)))
     go_wp2_with (go_at_call 40; refine (named_any _ _).mono ?_; rintro e y ⟨rfl, rfl⟩; rw [HNM.out])
     go_ret
     exact ⟨by rw [HNO.out]; rfl, HBY.out⟩
    have d5 : decide ((dl : Int) ≤ xp) = false := decide_eq_false g5
    have HYES : Hid (symOk cl dl ⟨xn, 2, xp⟩ = true) := by show _ = _; rw [HOK.out, room_data]; exact dec_yes (by omega)
    go_wp2_with (go_at_call 40; refine (named_any _ _).mono ?_; rintro e y ⟨rfl, rfl⟩; rw [HNM.out])
    obtain ⟨Y1, hY1⟩ : ∃ Y, wr.alloc (.cells #[.string xn, .int .i64 2, .int .i64 xp] 69) = Y := ⟨_, rfl⟩
    have g0 : Y1.cell? ⟨wr.heap.size, 0, none⟩ = some (.string xn) := by subst hY1; exact cell_last rfl rfl
    have HBY1 : Hid (Below w.heap.size w Y1) := by subst hY1; exact HBY.out
    rw [hY1]
    clear q0 q1 q2 HBL HBY hY1
    generalize hzb : wr.heap.size = zb at *
    clear hzb
    go_loopg [9] k (fun r jv wq => ∃ (j : Nat), jv = .int .i64 j ∧ j ≤ k ∧ k - j ≤ r ∧ Hid (∀ i, i < j → (ss.getD i noSym).name ≠ xn) ∧ Hid (Below Y1.heap.size Y1 wq))
    case atStart => exact ⟨0, rfl, Nat.zero_le _, by omega, (fun i hi => by omega : ∀ i, i < 0 → (ss.getD i noSym).name ≠ xn), Below.refl _ _⟩
    case round =>
     obtain ⟨j, rfl, hj, hr2, HNE, HBI⟩ := hrel
     have HBW : Hid (Below w.heap.size w wr) := HBY1.out.trans (HBI.out.mono HBY1.out.size)
     by_cases hlj : j < k
     ·have q0 := (HBW.out.cell (p := ⟨b, off + j * 3, none⟩) hbl).trans (HCN.out j (by omega))
      have g1' := cell_thru HBI.out g0
      have HDU : Hid (∀ {y : ByteArray}, (ss.getD j noSym).name = y → y = xn → symsOk cl dl ss = false) := fun h1 h2 => syms_not HKL.out (HPT.out.2.1 j hlj (h1.trans h2))
      have HNX : Hid (∀ {y : ByteArray}, (ss.getD j noSym).name = y → ¬ y = xn → ∀ i, i < j + 1 → (ss.getD i noSym).name ≠ xn) := fun h1 h2 i hi => by
       by_cases hij : i = j
       ·rw [hij, h1]; exact h2
       ·exact HNE.out i (by omega)
      obtain ⟨yn, hyn⟩ : ∃ y, (ss.getD j noSym).name = y := ⟨_, rfl⟩
      rw [hyn] at q0
      have HYN : Hid _ := hyn
      have hji : (j : Int) < l := by omega
      have hjk : (j : Int) < k := by omega
      have hjn : 0 ≤ (j : Int) := by omega
      clear hyn
      by_cases he : yn = xn
      ·have HNO : Hid _ := HDU.out HYN.out he
       subst he
       go_wp2_with fail
       go_quiet (fail)
       go_wp2
       go_ret
       exact ⟨by rw [HNO.out]; rfl, bl_drewN HBW.out _⟩
      ·have HN2 : Hid _ := HNX.out HYN.out he
       have hde := toList_ne he
       clear he
       go_wp2_with fail
       go_quiet (fail)
       go_wp2_with fail
       go_roundg (k - (j + 1))
       case measure => omega
       case rel => exact ⟨j + 1, by first | rfl | (congr 1; omega), by omega, Nat.le_refl _, HN2.out, bl_drewN HBI.out _⟩
     ·obtain rfl : j = k := by omega
      have HALN : Hid (∀ i, i < j + 1 → symAt cl dl ss i = true) := fun i hi => by
       by_cases hij : i = j
       ·rw [hij]; exact HPT.out.2.2 HYES.out HNE.out
       ·exact HAL.out i (by omega)
      have hjn : ¬ (j : Int) < j := by omega
      go_wp2_with fail
      go_roundg (l - (j + 1))
      case measure => omega
      case rel => exact ⟨j + 1, by first | rfl | (congr 1; omega), by omega, Nat.le_refl _, HALN.out, HBW.out⟩
   ·have d4 : (xk == 2) = false := beq_eq_false_iff_ne.2 g4
    have d4' : (xk != 2) = true := by simp [g4]
    have g13 : xk = 1 ∨ xk = 3 := by omega
    by_cases g5 : (cl : Int) ≤ xp
    ·have d5 : decide ((cl : Int) ≤ xp) = true := decide_eq_true g5
     have HNO : Hid (symsOk cl dl ss = false) := syms_not HKL.out (HPT.out.1 (by rw [HOK.out, room_code g13]; exact dec_no (by omega)))
     clear g13
     go_wp2_with (go_at_call 40; refine (named_any _ _).mono ?_; rintro e y ⟨rfl, rfl⟩; rw [HNM.out])
     go_ret
     exact ⟨by rw [HNO.out]; rfl, HBY.out⟩
    have d5 : decide ((cl : Int) ≤ xp) = false := decide_eq_false g5
    have HYES : Hid (symOk cl dl ⟨xn, xk, xp⟩ = true) := by show _ = _; rw [HOK.out, room_code g13]; exact dec_yes (by omega)
    clear g13
    go_wp2_with (go_at_call 40; refine (named_any _ _).mono ?_; rintro e y ⟨rfl, rfl⟩; rw [HNM.out])
    obtain ⟨Y1, hY1⟩ : ∃ Y, wr.alloc (.cells #[.string xn, .int .i64 xk, .int .i64 xp] 69) = Y := ⟨_, rfl⟩
    have g0 : Y1.cell? ⟨wr.heap.size, 0, none⟩ = some (.string xn) := by subst hY1; exact cell_last rfl rfl
    have HBY1 : Hid (Below w.heap.size w Y1) := by subst hY1; exact HBY.out
    rw [hY1]
    clear q0 q1 q2 HBL HBY hY1
    generalize hzb : wr.heap.size = zb at *
    clear hzb
    go_loopg [9] k (fun r jv wq => ∃ (j : Nat), jv = .int .i64 j ∧ j ≤ k ∧ k - j ≤ r ∧ Hid (∀ i, i < j → (ss.getD i noSym).name ≠ xn) ∧ Hid (Below Y1.heap.size Y1 wq))
    case atStart => exact ⟨0, rfl, Nat.zero_le _, by omega, (fun i hi => by omega : ∀ i, i < 0 → (ss.getD i noSym).name ≠ xn), Below.refl _ _⟩
    case round =>
     obtain ⟨j, rfl, hj, hr2, HNE, HBI⟩ := hrel
     have HBW : Hid (Below w.heap.size w wr) := HBY1.out.trans (HBI.out.mono HBY1.out.size)
     by_cases hlj : j < k
     ·have q0 := (HBW.out.cell (p := ⟨b, off + j * 3, none⟩) hbl).trans (HCN.out j (by omega))
      have g1' := cell_thru HBI.out g0
      have HDU : Hid (∀ {y : ByteArray}, (ss.getD j noSym).name = y → y = xn → symsOk cl dl ss = false) := fun h1 h2 => syms_not HKL.out (HPT.out.2.1 j hlj (h1.trans h2))
      have HNX : Hid (∀ {y : ByteArray}, (ss.getD j noSym).name = y → ¬ y = xn → ∀ i, i < j + 1 → (ss.getD i noSym).name ≠ xn) := fun h1 h2 i hi => by
       by_cases hij : i = j
       ·rw [hij, h1]; exact h2
       ·exact HNE.out i (by omega)
      obtain ⟨yn, hyn⟩ : ∃ y, (ss.getD j noSym).name = y := ⟨_, rfl⟩
      rw [hyn] at q0
      have HYN : Hid _ := hyn
      have hji : (j : Int) < l := by omega
      have hjk : (j : Int) < k := by omega
      have hjn : 0 ≤ (j : Int) := by omega
      clear hyn
      by_cases he : yn = xn
      ·have HNO : Hid _ := HDU.out HYN.out he
       subst he
       go_wp2_with fail
       go_quiet (fail)
       go_wp2
       go_ret
       exact ⟨by rw [HNO.out]; rfl, bl_drewN HBW.out _⟩
      ·have HN2 : Hid _ := HNX.out HYN.out he
       have hde := toList_ne he
       clear he
       go_wp2_with fail
       go_quiet (fail)
       go_wp2_with fail
       go_roundg (k - (j + 1))
       case measure => omega
       case rel => exact ⟨j + 1, by first | rfl | (congr 1; omega), by omega, Nat.le_refl _, HN2.out, bl_drewN HBI.out _⟩
     ·obtain rfl : j = k := by omega
      have HALN : Hid (∀ i, i < j + 1 → symAt cl dl ss i = true) := fun i hi => by
       by_cases hij : i = j
       ·rw [hij]; exact HPT.out.2.2 HYES.out HNE.out
       ·exact HAL.out i (by omega)
      have hjn : ¬ (j : Int) < j := by omega
      go_wp2_with fail
      go_roundg (l - (j + 1))
      case measure => omega
      case rel => exact ⟨j + 1, by first | rfl | (congr 1; omega), by omega, Nat.le_refl _, HALN.out, HBW.out⟩
  ·obtain rfl : k = l := by omega
   have HYA : Hid (symsOk cl dl ss = true) := by
    show _ = _
    unfold symsOk
    rw [show decide (ss.length ≤ 1000) = true by simp; omega, all_range_yes (fun i hi => HAL.out i (by omega))]
    rfl
   go_wp2_with fail
   go_ret
   exact ⟨by rw [HYA.out]; rfl, HBL.out⟩

end Go.Proofs.YtgjingleolhkbaaGreatDoor.O

/- What the document's named, Syms, May and Check come to. (Written by gen_rmay.py.) -/
namespace Go.Proofs.YtgjingleolhkbaaGreatDoor.O
open Go.RowKit Go.Maps Go.Lib
set_option linter.unusedVariables false

theorem may_parts {o : ObjD} (h : o.may = true) : o.code.size ≤ 65536 ∧ o.data.length ≤ 4096 ∧ symsOk o.code.size o.data.length o.syms = true ∧ relsOk o.code.size o.rels = true := by
 unfold ObjD.may at h
 simp only [Bool.and_eq_true, decide_eq_true_eq] at h
 exact ⟨h.1.1, h.1.2, h.2.1, h.2.2⟩
theorem relOk_no1 {cl : Nat} {fr : Int} {r : Rel} (h : nameOk r.name = false) : relOk cl fr r = false := by unfold relOk; rw [h, Bool.false_and, Bool.and_false]
theorem relOk_no2 {cl : Nat} {fr : Int} {r : Rel} (h : ¬ (fr ≤ r.pos ∧ r.pos ≤ (cl : Int) - 4)) : relOk cl fr r = false := by
 unfold relOk
 have : (decide (fr ≤ r.pos) && decide (r.pos ≤ (cl : Int) - 4)) = false := by
  rw [Bool.and_eq_false_iff, decide_eq_false_iff_not, decide_eq_false_iff_not]
  omega
 rw [this, Bool.false_and]
theorem relOk_no3 {cl : Nat} {fr : Int} {r : Rel} (h : addOk r.kind r.add = false) : relOk cl fr r = false := by unfold relOk; rw [h, Bool.and_false, Bool.and_false]
theorem relOk_yes {cl : Nat} {fr : Int} {r : Rel} (h1 : nameOk r.name = true) (h2 : fr ≤ r.pos ∧ r.pos ≤ (cl : Int) - 4) (h3 : addOk r.kind r.add = true) : relOk cl fr r = true := by
 unfold relOk
 rw [h1, h3, decide_eq_true h2.1, decide_eq_true h2.2]
 rfl
theorem addOk_jump (n : Int) : addOk 1 n = decide (n = 0) := by unfold addOk; rw [if_pos rfl]
theorem addOk_addr (n : Int) : addOk 2 n = (decide (-2147483648 ≤ n) && decide (n ≤ 2147483647)) := by unfold addOk; rw [if_neg (by decide), if_pos rfl]
theorem addOk_else {k n : Int} (h1 : ¬ k = 1) (h2 : ¬ k = 2) : addOk k n = false := by unfold addOk; rw [if_neg h1, if_neg h2]
theorem may_no {o : ObjD} (h : ¬ (o.code.size ≤ 65536 ∧ o.data.length ≤ 4096 ∧ symsOk o.code.size o.data.length o.syms = true ∧ o.rels.length ≤ 8000)) : o.may = false := by
 cases hm : o.may with
 | false => rfl
 | true =>
  obtain ⟨h1, h2, h3, h4⟩ := may_parts hm
  unfold relsOk at h4
  simp only [Bool.and_eq_true, decide_eq_true_eq] at h4
  exact absurd ⟨h1, h2, h3, h4.1⟩ h
theorem may_is {o : ObjD} (h1 : o.code.size ≤ 65536) (h2 : o.data.length ≤ 4096) (h3 : symsOk o.code.size o.data.length o.syms = true) : o.may = relsOk o.code.size o.rels := by
 unfold ObjD.may
 rw [decide_eq_true h1, decide_eq_true h2, h3]
 rfl
theorem free_next {rs : List Rel} {k : Nat} {r : Rel} (h : rs.getD k noRel = r) : freeAt rs (k + 1) = r.pos + 4 := by
 unfold freeAt
 rw [if_neg (by omega), Nat.add_sub_cancel, h]

set_option maxRecDepth 100000 in
set_option maxHeartbeats 8000000 in
theorem rmay_any {w : World} {v : Value} {o : ObjD} (h : ObjV w v o) :
  Calls Tryz.prog 19 #[v] w fun e w' => e = .returned (.bool o.may) ∧ Below w.heap.size w w' := by
 obtain ⟨a1, l1, c1, a2, l2, c2, a3, l3, c3, rfl, hcs, h1, h2, h3⟩ := h.form
 obtain ⟨code, data, syms, rels⟩ := o
 simp only at hcs h1 h2 h3
 obtain ⟨z, hz⟩ : ∃ z : Bool, ObjD.may ⟨code, data, syms, rels⟩ = z := ⟨_, rfl⟩
 rw [hz]
 have HZN : Hid (¬ (code.size ≤ 65536 ∧ data.length ≤ 4096 ∧ symsOk code.size data.length syms = true ∧ rels.length ≤ 8000) → z = false) := fun hn => by rw [← hz]; exact may_no hn
 have HZI : Hid (code.size ≤ 65536 → data.length ≤ 4096 → symsOk code.size data.length syms = true → z = relsOk code.size rels) := fun g1 g2 g3 => by rw [← hz]; exact may_is (o := ⟨code, data, syms, rels⟩) g1 g2 g3
 have hn1 := h1.count
 have hn3 := h3.count
 have hcz : code.size ≤ 9223372036854775807 := by unfold maxLen at hcs; omega
 obtain ⟨W1, hW1⟩ : ∃ W1, w.alloc (.cells #[.string code, .slice a1 l1 c1, .slice a2 l2 c2, .slice a3 l3 c3] 30) = W1 := ⟨_, rfl⟩
 have HW : Hid (Below w.heap.size w W1) := by subst hW1; exact bl_one _ _
 have CV : Hid (Cells W1 w.heap.size [.string code, .slice a1 l1 c1, .slice a2 l2 c2, .slice a3 l3 c3]) := fun j u hu => by subst hW1; exact cell_last rfl (by simpa using hu)
 have H2 : Hid _ := h2.below HW.out
 have H3 : Hid _ := h3.below HW.out
 clear h h1 h2 h3 hz hcs
 have r0 : W1.cell? ⟨w.heap.size, 0, none⟩ = _ := CV.out 0 _ rfl
 have r1 : W1.cell? ⟨w.heap.size, 1, none⟩ = _ := CV.out 1 _ rfl
 have r2 : W1.cell? ⟨w.heap.size, 2, none⟩ = _ := CV.out 2 _ rfl
 have r3 : W1.cell? ⟨w.heap.size, 3, none⟩ = _ := CV.out 3 _ rfl
 go_enter Tryz.func19, Tryz.ntmps19
 by_cases hc : code.size ≤ 65536
 rotate_left
 ·have hd : decide ((65536 : Int) < code.size) = true := decide_eq_true (by omega)
  have HNO : Hid _ := HZN.out (by omega)
  go_wp2
  go_ret
  exact ⟨by rw [HNO.out]; rfl, HW.out⟩
 have hd : decide ((65536 : Int) < code.size) = false := decide_eq_false (by omega)
 by_cases hdl : l1 ≤ 4096
 rotate_left
 ·have hd' : decide ((4096 : Int) < l1) = true := decide_eq_true (by omega)
  have HNO : Hid _ := HZN.out (by omega)
  go_wp2
  go_ret
  exact ⟨by rw [HNO.out]; rfl, HW.out⟩
 have hd' : decide ((4096 : Int) < l1) = false := decide_eq_false (by omega)
 subst hn1
 go_wp2_with fail
 refine (rsyms_any code.size data.length H2.out).mono ?_
 rintro e x1 ⟨rfl, hx1⟩
 have HX1 : Hid _ := hx1
 have HXW : Hid (Below w.heap.size w x1) := HW.out.trans (hx1.mono HW.out.size)
 clear r0 r1 r2 r3 hx1
 cases hso : symsOk code.size data.length syms with
 | false =>
  have HNO : Hid _ := HZN.out (by rw [hso]; simp)
  clear hso
  go_wp2
  go_ret
  exact ⟨by rw [HNO.out]; rfl, HXW.out⟩
 | true =>
 have HZ : Hid _ := HZI.out hc hdl hso
 have HZ8 : Hid (¬ rels.length ≤ 8000 → z = false) := fun hn => HZN.out (fun hh => hn hh.2.2.2)
 clear hso
 have r3 := cell_thru HX1.out (CV.out 3 _ rfl)
 by_cases hl : l3 ≤ 8000
 rotate_left
 ·have hd2 : decide ((8000 : Int) < l3) = true := decide_eq_true (by omega)
  have HNO : Hid _ := HZ8.out (by omega)
  go_wp2
  go_ret
  exact ⟨by rw [HNO.out]; rfl, HXW.out⟩
 have hd2 : decide ((8000 : Int) < l3) = false := decide_eq_false (by omega)
 have HA : Hid _ := H3.out.below HX1.out
 have CX : Hid (Cells x1 w.heap.size [.string code, .slice a1 data.length c1, .slice a2 l2 c2, .slice a3 l3 c3]) := fun j u hu => cell_thru HX1.out (CV.out j u hu)
 go_wp2_with fail
 clear r3 H2 H3 CV HX1 HZN HZI HZ8
 go_loopg [3, 4] l3 (fun r fv iv wq => ∃ (k : Nat) (fr : Int), fv = .int .i64 fr ∧ iv = .int .i64 k ∧ k ≤ l3 ∧ l3 - k ≤ r ∧ Hid (fr = freeAt rels k) ∧ 0 ≤ fr ∧ fr ≤ 70000 ∧ Hid (∀ i, i < k → relOk code.size (freeAt rels i) (rels.getD i noRel) = true) ∧ Hid (Below x1.heap.size x1 wq))
 case atStart => exact ⟨0, 0, rfl, rfl, Nat.zero_le _, by omega, (rfl : (0 : Int) = freeAt rels 0), by decide, by decide, (fun i hi => by omega : ∀ i, i < 0 → relOk code.size (freeAt rels i) (rels.getD i noRel) = true), Below.refl _ _⟩
 case round =>
  obtain ⟨k, fr, rfl, rfl, hk, hr, HFR, hf0, hf1, HAL, HBL⟩ := hrel
  have t0 := cell_thru HBL.out (CX.out 0 _ rfl)
  have t3 := cell_thru HBL.out (CX.out 3 _ rfl)
  have HBW : Hid (Below w.heap.size w wr) := HXW.out.trans (HBL.out.mono HXW.out.size)
  by_cases hlt : k < l3
  ·rcases HA.out.cells with h0 | ⟨b, off, hA, hc'⟩
   ·omega
   obtain ⟨k0, k1, k2, k3⟩ := hc' k hlt
   have hbl : b < x1.heap.size := World.block_lt_of_cell? x1 ⟨b, off + k * 4, none⟩ k0
   have q0 := (HBL.out.cell (p := ⟨b, off + k * 4, none⟩) hbl).trans k0
   have q1 := (HBL.out.cell (p := ⟨b, off + k * 4 + 1, none⟩) hbl).trans k1
   have q2 := (HBL.out.cell (p := ⟨b, off + k * 4 + 2, none⟩) hbl).trans k2
   have q3 := (HBL.out.cell (p := ⟨b, off + k * 4 + 3, none⟩) hbl).trans k3
   have HNOT : Hid (∀ {r : Rel}, rels.getD k noRel = r → relOk code.size fr r = false → z = false) := fun e1 e2 => by rw [HZ.out]; exact rels_no (k := k) (by omega) (by rw [e1, ← HFR.out]; exact e2)
   have HYES : Hid (∀ {r : Rel}, rels.getD k noRel = r → relOk code.size fr r = true → ∀ i, i < k + 1 → relOk code.size (freeAt rels i) (rels.getD i noRel) = true) := fun e1 e2 i hi => by
    by_cases hik : i = k
    ·rw [hik, e1, ← HFR.out]; exact e2
    ·exact HAL.out i (by omega)
   have HFX : Hid (∀ {r : Rel}, rels.getD k noRel = r → r.pos + 4 = freeAt rels (k + 1)) := fun e => (free_next e).symm
   obtain ⟨⟨xp, xk, xn, xa⟩, hx⟩ : ∃ x, rels.getD k noRel = x := ⟨_, rfl⟩
   rw [hx] at q0 q1 q2 q3
   simp only at q0 q1 q2 q3
   have HNO : Hid (relOk code.size fr ⟨xp, xk, xn, xa⟩ = false → z = false) := HNOT.out hx
   have HYE : Hid _ := HYES.out hx
   have HFN : Hid (xp + 4 = freeAt rels (k + 1)) := HFX.out hx
   subst hA
   have hii : (k : Int) < l3 := by omega
   have hin : 0 ≤ (k : Int) := by omega
   clear hc' k0 k1 k2 k3 hx HNOT HYES HFX
   have HBY : Hid (Below w.heap.size w (wr.alloc (.cells #[.int .i64 xp, .int .i64 xk, .string xn, .int .i64 xa] 51))) := HBW.out.trans ((bl_one wr _).mono HBW.out.size)
   have HBZ : Hid (Below x1.heap.size x1 (wr.alloc (.cells #[.int .i64 xp, .int .i64 xk, .string xn, .int .i64 xa] 51))) := HBL.out.trans ((bl_one wr _).mono HBL.out.size)
   have hwz : w.heap.size < wr.heap.size := by have := World.block_lt_of_cell? wr ⟨w.heap.size, 0, none⟩ t0; exact this
   cases hnk : nameOk xn with
   | false =>
    have HNM : Hid _ := hnk
    have HZF : Hid (z = false) := HNO.out (relOk_no1 hnk)
    clear hnk
    go_wp2_with (go_at_call 40; refine (named_any _ _).mono ?_; rintro e y ⟨rfl, rfl⟩; rw [HNM.out])
    go_ret
    exact ⟨by rw [HZF.out]; rfl, HBY.out⟩
   | true =>
   have HNM : Hid _ := hnk
   clear hnk
   by_cases g1 : xp < fr
   ·have d1 : decide (xp < fr) = true := decide_eq_true g1
    have HZF : Hid (z = false) := HNO.out (relOk_no2 (by simp only; omega))
    go_wp2_with (go_at_call 40; refine (named_any _ _).mono ?_; rintro e y ⟨rfl, rfl⟩; rw [HNM.out])
    go_ret
    exact ⟨by rw [HZF.out]; rfl, HBY.out⟩
   have d1 : decide (xp < fr) = false := decide_eq_false g1
   by_cases g2 : (code.size : Int) - 4 < xp
   ·have d2 : decide ((code.size : Int) - 4 < xp) = true := decide_eq_true g2
    have HZF : Hid (z = false) := HNO.out (relOk_no2 (by simp only; omega))
    go_wp2_with (go_at_call 40; refine (named_any _ _).mono ?_; rintro e y ⟨rfl, rfl⟩; rw [HNM.out])
    go_ret
    exact ⟨by rw [HZF.out]; rfl, HBY.out⟩
   have d2 : decide ((code.size : Int) - 4 < xp) = false := decide_eq_false g2
   by_cases g3 : xk = 1
   ·subst g3
    by_cases g4 : xa = 0
    ·subst g4
     have HGO : Hid _ := HYE.out (relOk_yes HNM.out ⟨by simp only; omega, by simp only; omega⟩ (by rw [addOk_jump]; exact decide_eq_true rfl))
     go_wp2_with (go_at_call 40; refine (named_any _ _).mono ?_; rintro e y ⟨rfl, rfl⟩; rw [HNM.out])
     go_roundg (l3 - (k + 1))
     case measure => omega
     case rel => exact ⟨k + 1, xp + 4, by first | rfl | (congr 1; omega), by first | rfl | (congr 1; omega), by omega, Nat.le_refl _, HFN.out, by omega, by omega, HGO.out, HBZ.out⟩
    have d4 : (xa == 0) = false := beq_eq_false_iff_ne.2 g4
    have HZF : Hid (z = false) := HNO.out (relOk_no3 (by rw [addOk_jump]; exact decide_eq_false g4))
    go_wp2_with (go_at_call 40; refine (named_any _ _).mono ?_; rintro e y ⟨rfl, rfl⟩; rw [HNM.out])
    go_ret
    exact ⟨by rw [HZF.out]; rfl, HBY.out⟩
   have d3 : (xk == 1) = false := beq_eq_false_iff_ne.2 g3
   by_cases g5 : xk = 2
   ·subst g5
    by_cases g6 : -2147483648 ≤ xa
    ·have d6 : decide (-2147483648 ≤ xa) = true := decide_eq_true g6
     by_cases g7 : xa ≤ 2147483647
     ·have d7 : decide (xa ≤ 2147483647) = true := decide_eq_true g7
      have HGO : Hid _ := HYE.out (relOk_yes HNM.out ⟨by simp only; omega, by simp only; omega⟩ (by rw [addOk_addr, d6, d7]; rfl))
      go_wp2_with (go_at_call 40; refine (named_any _ _).mono ?_; rintro e y ⟨rfl, rfl⟩; rw [HNM.out])
      go_roundg (l3 - (k + 1))
      case measure => omega
      case rel => exact ⟨k + 1, xp + 4, by first | rfl | (congr 1; omega), by first | rfl | (congr 1; omega), by omega, Nat.le_refl _, HFN.out, by omega, by omega, HGO.out, HBZ.out⟩
     have d7 : decide (xa ≤ 2147483647) = false := decide_eq_false g7
     have HZF : Hid (z = false) := HNO.out (relOk_no3 (by rw [addOk_addr, d7, Bool.and_false]))
     go_wp2_with (go_at_call 40; refine (named_any _ _).mono ?_; rintro e y ⟨rfl, rfl⟩; rw [HNM.out])
     go_ret
     exact ⟨by rw [HZF.out]; rfl, HBY.out⟩
    have d6 : decide (-2147483648 ≤ xa) = false := decide_eq_false g6
    have HZF : Hid (z = false) := HNO.out (relOk_no3 (by rw [addOk_addr, d6, Bool.false_and]))
    go_wp2_with (go_at_call 40; refine (named_any _ _).mono ?_; rintro e y ⟨rfl, rfl⟩; rw [HNM.out])
    go_ret
    exact ⟨by rw [HZF.out]; rfl, HBY.out⟩
   have d5 : (xk == 2) = false := beq_eq_false_iff_ne.2 g5
   have HZF : Hid (z = false) := HNO.out (relOk_no3 (addOk_else g3 g5))
   go_wp2_with (go_at_call 40; refine (named_any _ _).mono ?_; rintro e y ⟨rfl, rfl⟩; rw [HNM.out])
   go_ret
   exact ⟨by rw [HZF.out]; rfl, HBY.out⟩
  ·obtain rfl : k = l3 := by omega
   have HYA : Hid (z = true) := by
    show _ = _
    rw [HZ.out]
    unfold relsOk
    rw [show decide (rels.length ≤ 8000) = true by simp; omega, all_range_yes (fun i hi => HAL.out i (by omega))]
    rfl
   go_wp2_with fail
   go_ret
   exact ⟨by rw [HYA.out]; rfl, HBW.out⟩

end Go.Proofs.YtgjingleolhkbaaGreatDoor.O

/- What Assemble leaves, as the document reads it; AsmMay walked, where what comes out may be. -/
namespace Go.Proofs.YtgjingleolhkbaaGreatDoor
open Go.RowKit Go.Maps Go.Lib
set_option linter.unusedVariables false
set_option linter.unusedSimpArgs false

structure OFit (o : O.ObjD) : Prop where
 c : o.code.size ≤ maxLen
 d : ∀ n ∈ o.data, (Lit.int .i64 n).wf = true
 s : ∀ x ∈ o.syms, x.name.size ≤ maxLen ∧ (Lit.int .i64 x.kind).wf = true ∧ (Lit.int .i64 x.pos).wf = true
 r : ∀ x ∈ o.rels, x.name.size ≤ maxLen ∧ (Lit.int .i64 x.kind).wf = true ∧ (Lit.int .i64 x.pos).wf = true ∧ (Lit.int .i64 x.add).wf = true
theorem OFit.no : OFit Z.noObj := ⟨by decide, by simp [Z.noObj], by simp [Z.noObj], by simp [Z.noObj]⟩
theorem objV_of {w : World} {B1 B2 B3 : Nat} {o : O.ObjD} {vd vs vr : Value} (hf : OFit o) (h1 : w.ownsRow B1 2 1 vd o.data.length (o.data.flatMap O.intC)) (h2 : w.ownsRow B2 69 3 vs o.syms.length (o.syms.flatMap O.symC)) (h3 : w.ownsRow B3 51 4 vr o.rels.length (o.rels.flatMap O.relC)) :
  O.ObjV w (.agg #[.string o.code, vd, vs, vr]) o := by
 obtain ⟨a1, c1, rfl, n1, k1⟩ := O.row_at (f := O.intC) (m := 1) (0 : Int) (fun _ => rfl) h1 rfl
 obtain ⟨a2, c2, rfl, n2, k2⟩ := O.row_at (f := O.symC) (m := 3) O.noSym (fun _ => rfl) h2 rfl
 obtain ⟨a3, c3, rfl, n3, k3⟩ := O.row_at (f := O.relC) (m := 4) O.noRel (fun _ => rfl) h3 rfl
 refine ⟨⟨a1, _, c1, a2, _, c2, a3, _, c3, rfl, hf.c, ⟨rfl, hf.d, n1, ?_⟩, ⟨rfl, hf.s, n2, ?_⟩, ⟨rfl, hf.r, n3, ?_⟩⟩⟩
 ·rcases k1 with e | ⟨b, off, e, hc⟩
  ·exact .inl e
  ·exact .inr ⟨b, off, e, fun i hi => by simpa using hc i hi 0 _ (by omega) rfl⟩
 ·rcases k2 with e | ⟨b, off, e, hc⟩
  ·exact .inl e
  ·exact .inr ⟨b, off, e, fun i hi => ⟨by simpa using hc i hi 0 _ (by omega) rfl, by simpa using hc i hi 1 _ (by omega) rfl, by simpa using hc i hi 2 _ (by omega) rfl⟩⟩
 ·rcases k3 with e | ⟨b, off, e, hc⟩
  ·exact .inl e
  ·exact .inr ⟨b, off, e, fun i hi => ⟨by simpa using hc i hi 0 _ (by omega) rfl, by simpa using hc i hi 1 _ (by omega) rfl, by simpa using hc i hi 2 _ (by omega) rfl, by simpa using hc i hi 3 _ (by omega) rfl⟩⟩
theorem small_any (a : Option Addr) (l c : Nat) (w : World) : Calls Tryz.prog 9 #[.slice a l c] w fun e w' => e = .returned (.bool (decide (l ≤ 400))) ∧ w' = w := by
 by_cases h : l ≤ 400
 ·have h' : (l : Int) ≤ 400 := by omega
  go_enter Tryz.func9, Tryz.ntmps9
  go_wp2
  go_ret
  exact ⟨by first | rfl | (rw [decide_eq_true h]; rfl), rfl⟩
 ·have h' : ¬ (l : Int) ≤ 400 := by omega
  go_enter Tryz.func9, Tryz.ntmps9
  go_wp2
  go_ret
  exact ⟨by first | rfl | (rw [decide_eq_false h]; rfl), rfl⟩

end Go.Proofs.YtgjingleolhkbaaGreatDoor

/- Whether an instruction's item may be. -/
import Derived.Test.YtgjingleolhkbaaGreatDoorTAb
import Derived.Deep.CutRange
namespace Go.Proofs.YtgjingleolhkbaaGreatDoor
open Go.RowKit
set_option linter.unusedVariables false
set_option linter.unusedSimpArgs false

set_option maxRecDepth 100000 in
set_option maxHeartbeats 40000000 in
theorem insMayBe_any (k : Int) (nm : ByteArray) (op a b n : Int) (aw : Option Addr) (lw cw : Nat) (ws : List Int) (hs : nm.size ≤ maxLen) (w : World) (ht : Tab w) :
  Calls Tryz.prog 69 #[.agg #[.int .i64 k, .string nm, .int .i64 op, .int .i64 a, .int .i64 b, .int .i64 n, .slice aw lw cw]] w fun e w' => e = .returned (.bool (X.insOk ⟨k, nm.data.toList, op, a, b, n, ws⟩)) ∧ Below w.heap.size w w' := by
 have hro := rowOf_any op
 have HT : Hid _ := ht
 clear ht
 have HC : Hid (∀ y, Below (w.alloc (.cells #[.int .i64 k, .string nm, .int .i64 op, .int .i64 a, .int .i64 b, .int .i64 n, .slice aw lw cw] 44)).heap.size (w.alloc (.cells #[.int .i64 k, .string nm, .int .i64 op, .int .i64 a, .int .i64 b, .int .i64 n, .slice aw lw cw] 44)) y → y.cell? ⟨w.heap.size, 1, none⟩ = some (.string nm) ∧ y.cell? ⟨w.heap.size, 2, none⟩ = some (.int .i64 op) ∧ y.cell? ⟨w.heap.size, 3, none⟩ = some (.int .i64 a) ∧ y.cell? ⟨w.heap.size, 4, none⟩ = some (.int .i64 b) ∧ y.cell? ⟨w.heap.size, 5, none⟩ = some (.int .i64 n)) := fun y hy => by
  exact ⟨cell_thru hy (row_cell rfl), cell_thru hy (row_cell rfl), cell_thru hy (row_cell rfl), cell_thru hy (row_cell rfl), cell_thru hy (row_cell rfl)⟩
 have HA : Hid (Below w.heap.size w (w.alloc (.cells #[.int .i64 k, .string nm, .int .i64 op, .int .i64 a, .int .i64 b, .int .i64 n, .slice aw lw cw] 44))) := bl1 _ _
 go_enter Tryz.func69, Tryz.ntmps69
 go_wp2_with fail
 generalize hA : (w.alloc (.cells #[.int .i64 k, .string nm, .int .i64 op, .int .i64 a, .int .i64 b, .int .i64 n, .slice aw lw cw] 44)) = A at HC HA ⊢
 clear hA
 refine (hro _ (HT.out.below HA.out)).mono ?_
 clear hro
 cases hr : X.rowOf op with
 | none =>
  rintro e w1 ⟨rfl, hb⟩
  have HB : Hid _ := hb
  have HR : Hid (X.insOk ⟨k, nm.data.toList, op, a, b, n, ws⟩ = false) := insOk_none hr
  clear hb
  go_wp2_with fail
  go_ret
  exact ⟨ret_b HR.out.symm, HA.out.trans ((HB.out.alloc HB.out.size _).mono HA.out.size)⟩
 | some p =>
  rintro e w1 ⟨rfl, hb⟩
  have HB1 : Hid (Below A.heap.size A w1) := hb
  obtain ⟨r, hr2⟩ : ∃ r, X.str p.2 = r := ⟨_, rfl⟩
  have HR : Hid (X.insOk ⟨k, nm.data.toList, op, a, b, n, ws⟩ = insQ nm.data.toList op a b n r.data.toList) := by
   show _ = _
   rw [insOk_eq (r := p) hr, ← hr2, str_list]
  rw [hr2]
  generalize X.str p.1 = m
  clear hb hr hr2 p
  go_wp2_with fail
  obtain ⟨Y, hY⟩ : ∃ Y, w1.alloc (.cells #[.string m, .string r] 125) = Y := ⟨_, rfl⟩
  rw [hY]
  have HY : Hid (Below w1.heap.size w1 Y) := by show Below _ _ _; rw [← hY]; exact bl1 _ _
  have HK : Hid (∀ y, Below Y.heap.size Y y → y.cell? ⟨w.heap.size, 1, none⟩ = some (.string nm) ∧ y.cell? ⟨w.heap.size, 2, none⟩ = some (.int .i64 op) ∧ y.cell? ⟨w.heap.size, 3, none⟩ = some (.int .i64 a) ∧ y.cell? ⟨w.heap.size, 4, none⟩ = some (.int .i64 b) ∧ y.cell? ⟨w.heap.size, 5, none⟩ = some (.int .i64 n) ∧ y.cell? ⟨w1.heap.size, 0, none⟩ = some (.string m) ∧ y.cell? ⟨w1.heap.size, 1, none⟩ = some (.string r)) := fun y hy => by
   have h1 := HC.out y (HB1.out.trans ((HY.out.trans (hy.mono HY.out.size)).mono HB1.out.size))
   refine ⟨h1.1, h1.2.1, h1.2.2.1, h1.2.2.2.1, h1.2.2.2.2, ?_, ?_⟩
   ·subst hY; exact cell_thru hy (row_cell rfl)
   ·subst hY; exact cell_thru hy (row_cell rfl)
  have HS : Hid (∀ y, Below Y.heap.size Y y → y.cell? ⟨w.heap.size, 1, none⟩ = some (.string nm) ∧ y.cell? ⟨w1.heap.size, 0, none⟩ = some (.string m) ∧ y.cell? ⟨w1.heap.size, 1, none⟩ = some (.string r)) := fun y hy => ⟨(HK.out y hy).1, (HK.out y hy).2.2.2.2.2.1, (HK.out y hy).2.2.2.2.2.2⟩
  have HW : Hid (∀ y, Below Y.heap.size Y y → Below w.heap.size w y) := fun y hy => HA.out.trans ((HB1.out.trans ((HY.out.trans (hy.mono HY.out.size)).mono HB1.out.size)).mono HA.out.size)
  clear hY
  obtain ⟨z, hz⟩ : ∃ z, (decide (X.has r.data.toList 64 = decide (nm.data.toList ≠ [])) && (decide (nm.data.toList = []) || X.name nm.data.toList)) = z := ⟨_, rfl⟩
  have HZ : Hid ((decide (X.has r.data.toList 64 = decide (nm.data.toList ≠ [])) && (decide (nm.data.toList = []) || X.name nm.data.toList)) = z) := hz
  have HR : Hid (X.insOk ⟨k, nm.data.toList, op, a, b, n, ws⟩ = (z && insR op a b n r.data.toList)) := by show _ = _; rw [HR.out, ← hz]; unfold insQ insR; rw [Bool.and_assoc]
  clear hz
  go_cut [30] from 14 to 30 (fun v wc => v = .bool (!z) ∧ Hid (Below Y.heap.size Y wc))
  case first =>
   replace HZ : Hid (z = _) := HZ.out.symm
   cases H64 : X.has r.data.toList 64
   ·have h64 : X.has r.data.toList (UInt8.ofNat (Int.toNat 64)) = false := H64
    by_cases hE : nm.data.toList = []
    ·have hE' : nm.toList.isEmpty = true := by rw [neq_empty]; simp [hE]
     refine wp_region_held_drew (S := (fun y : World => y.cell? ⟨w.heap.size, 1, none⟩ = some (.string nm) ∧ y.cell? ⟨w1.heap.size, 0, none⟩ = some (.string m) ∧ y.cell? ⟨w1.heap.size, 1, none⟩ = some (.string r))) (by kernel_rfl) (HS.out _ (Below.refl _ _).drew) (fun hHeld => ?_)
     refine tj 0 ?_
     simp only [Act.put, zA, zB, zC]
     refine tj 2 ?_
     simp only [Act.put, zA, zB, zC]
     refine tj 3 ?_
     simp only [Act.put, zA, zB, zC]
     refine tj 4 ?_
     simp only [Act.put, zA, zB, zC]
     refine tr [1] ?_
     refine AllReadyH.cons (tA rfl) (fun K hK => ?_) AllReadyH.nil
     go_simp
     refine (has_int m r 64 (by decide) (by decide) _).mono ?_
     rw [h64]
     rintro e y1 ⟨rfl, hb1⟩
     have HB : Hid (Below Y.heap.size Y y1) := (Below.refl _ _).drew.trans hb1
     clear hb1
     refine hK.out _ _ (HS.out _ HB.out) (fun hHeld => ?_)
     clear hK K
     try simp only [Act.put, zA, zB, zC]
     refine tj 5 ?_
     simp only [Act.put, zA, zB, zC]
     refine tj 6 ?_
     simp only [Act.put, zA, zB, zC]
     refine tj 7 ?_
     simp only [Act.put, zA, zB, zC]
     refine tj 8 ?_
     simp only [Act.put, zA, zB, zC]
     refine tj 9 ?_
     simp only [Act.put, zA, zB, zC]
     refine tj 10 ?_
     simp only [Act.put, zA, zB, zC]
     refine tu 11 ?_
     simp only [Act.put, zA, zB, zC]
     refine tu 12 ?_
     simp only [Act.put, zA, zB, zC]
     refine tu 13 ?_
     simp only [Act.put, zA, zB, zC]
     refine tu 14 ?_
     simp only [Act.put, zA, zB, zC]
     refine tj 15 ?_
     simp only [Act.put, zA, zB, zC]
     refine tj 16 ?_
     simp only [Act.put, zA, zB, zC]
     refine wpAnyH_done (by kernel_rfl) ?_ _
     clear hHeld
     go_wp2_with fail
     go_meet
     case rel => exact ⟨by rw [HZ.out]; simp [H64, hE], HB.out⟩
    ·have hE' : nm.toList.isEmpty = false := by rw [neq_empty]; simp [hE]
     refine wp_region_held_drew (S := (fun y : World => y.cell? ⟨w.heap.size, 1, none⟩ = some (.string nm) ∧ y.cell? ⟨w1.heap.size, 0, none⟩ = some (.string m) ∧ y.cell? ⟨w1.heap.size, 1, none⟩ = some (.string r))) (by kernel_rfl) (HS.out _ (Below.refl _ _).drew) (fun hHeld => ?_)
     refine tj 0 ?_
     simp only [Act.put, zA, zB, zC]
     refine tj 2 ?_
     simp only [Act.put, zA, zB, zC]
     refine tj 3 ?_
     simp only [Act.put, zA, zB, zC]
     refine tj 4 ?_
     simp only [Act.put, zA, zB, zC]
     refine tr [1] ?_
     refine AllReadyH.cons (tA rfl) (fun K hK => ?_) AllReadyH.nil
     go_simp
     refine (has_int m r 64 (by decide) (by decide) _).mono ?_
     rw [h64]
     rintro e y1 ⟨rfl, hb1⟩
     have HB : Hid (Below Y.heap.size Y y1) := (Below.refl _ _).drew.trans hb1
     clear hb1
     refine hK.out _ _ (HS.out _ HB.out) (fun hHeld => ?_)
     clear hK K
     try simp only [Act.put, zA, zB, zC]
     refine tj 5 ?_
     simp only [Act.put, zA, zB, zC]
     refine tj 6 ?_
     simp only [Act.put, zA, zB, zC]
     refine tu 7 ?_
     simp only [Act.put, zA, zB, zC]
     refine tu 8 ?_
     simp only [Act.put, zA, zB, zC]
     refine tu 9 ?_
     simp only [Act.put, zA, zB, zC]
     refine tu 10 ?_
     simp only [Act.put, zA, zB, zC]
     refine tu 11 ?_
     simp only [Act.put, zA, zB, zC]
     refine tu 12 ?_
     simp only [Act.put, zA, zB, zC]
     refine tu 13 ?_
     simp only [Act.put, zA, zB, zC]
     refine tu 14 ?_
     simp only [Act.put, zA, zB, zC]
     refine tu 15 ?_
     simp only [Act.put, zA, zB, zC]
     refine tj 16 ?_
     simp only [Act.put, zA, zB, zC]
     refine wpAnyH_done (by kernel_rfl) ?_ _
     clear hHeld
     go_wp2_with fail
     go_meet
     case rel => exact ⟨by rw [HZ.out]; simp [H64, hE], HB.out⟩
   ·have h64 : X.has r.data.toList (UInt8.ofNat (Int.toNat 64)) = true := H64
    by_cases hE : nm.data.toList = []
    ·have hE' : nm.toList.isEmpty = true := by rw [neq_empty]; simp [hE]
     refine wp_region_held_drew (S := (fun y : World => y.cell? ⟨w.heap.size, 1, none⟩ = some (.string nm) ∧ y.cell? ⟨w1.heap.size, 0, none⟩ = some (.string m) ∧ y.cell? ⟨w1.heap.size, 1, none⟩ = some (.string r))) (by kernel_rfl) (HS.out _ (Below.refl _ _).drew) (fun hHeld => ?_)
     refine tj 0 ?_
     simp only [Act.put, zA, zB, zC]
     refine tj 2 ?_
     simp only [Act.put, zA, zB, zC]
     refine tj 3 ?_
     simp only [Act.put, zA, zB, zC]
     refine tj 4 ?_
     simp only [Act.put, zA, zB, zC]
     refine tr [1] ?_
     refine AllReadyH.cons (tA rfl) (fun K hK => ?_) AllReadyH.nil
     go_simp
     refine (has_int m r 64 (by decide) (by decide) _).mono ?_
     rw [h64]
     rintro e y1 ⟨rfl, hb1⟩
     have HB : Hid (Below Y.heap.size Y y1) := (Below.refl _ _).drew.trans hb1
     clear hb1
     refine hK.out _ _ (HS.out _ HB.out) (fun hHeld => ?_)
     clear hK K
     try simp only [Act.put, zA, zB, zC]
     refine tj 5 ?_
     simp only [Act.put, zA, zB, zC]
     refine tj 6 ?_
     simp only [Act.put, zA, zB, zC]
     refine tu 7 ?_
     simp only [Act.put, zA, zB, zC]
     refine tu 8 ?_
     simp only [Act.put, zA, zB, zC]
     refine tu 9 ?_
     simp only [Act.put, zA, zB, zC]
     refine tu 10 ?_
     simp only [Act.put, zA, zB, zC]
     refine tu 11 ?_
     simp only [Act.put, zA, zB, zC]
     refine tu 12 ?_
     simp only [Act.put, zA, zB, zC]
     refine tu 13 ?_
     simp only [Act.put, zA, zB, zC]
     refine tu 14 ?_
     simp only [Act.put, zA, zB, zC]
     refine tu 15 ?_
     simp only [Act.put, zA, zB, zC]
     refine tj 16 ?_
     simp only [Act.put, zA, zB, zC]
     refine wpAnyH_done (by kernel_rfl) ?_ _
     clear hHeld
     go_wp2_with fail
     go_meet
     case rel => exact ⟨by rw [HZ.out]; simp [H64, hE], HB.out⟩
    ·have hE' : nm.toList.isEmpty = false := by rw [neq_empty]; simp [hE]
     cases hnm : X.name nm.data.toList
     ·skip
      refine wp_region_held_drew (S := (fun y : World => y.cell? ⟨w.heap.size, 1, none⟩ = some (.string nm) ∧ y.cell? ⟨w1.heap.size, 0, none⟩ = some (.string m) ∧ y.cell? ⟨w1.heap.size, 1, none⟩ = some (.string r))) (by kernel_rfl) (HS.out _ (Below.refl _ _).drew) (fun hHeld => ?_)
      refine tj 0 ?_
      simp only [Act.put, zA, zB, zC]
      refine tj 2 ?_
      simp only [Act.put, zA, zB, zC]
      refine tj 3 ?_
      simp only [Act.put, zA, zB, zC]
      refine tj 4 ?_
      simp only [Act.put, zA, zB, zC]
      refine tr [1] ?_
      refine AllReadyH.cons (tA rfl) (fun K hK => ?_) AllReadyH.nil
      go_simp
      refine (has_int m r 64 (by decide) (by decide) _).mono ?_
      rw [h64]
      rintro e y1 ⟨rfl, hb1⟩
      have HB : Hid (Below Y.heap.size Y y1) := (Below.refl _ _).drew.trans hb1
      clear hb1
      refine hK.out _ _ (HS.out _ HB.out) (fun hHeld => ?_)
      clear hK K
      try simp only [Act.put, zA, zB, zC]
      refine tj 5 ?_
      simp only [Act.put, zA, zB, zC]
      refine tj 6 ?_
      simp only [Act.put, zA, zB, zC]
      refine tj 7 ?_
      simp only [Act.put, zA, zB, zC]
      refine tj 8 ?_
      simp only [Act.put, zA, zB, zC]
      refine tj 9 ?_
      simp only [Act.put, zA, zB, zC]
      refine tj 10 ?_
      simp only [Act.put, zA, zB, zC]
      refine tj 11 ?_
      simp only [Act.put, zA, zB, zC]
      refine tj 12 ?_
      simp only [Act.put, zA, zB, zC]
      refine tr [13] ?_
      refine AllReadyH.cons (tA rfl) (fun K hK => ?_) AllReadyH.nil
      go_simp
      refine (nameMayBe_any nm hs _).mono ?_
      rw [hnm]
      rintro e y2 ⟨rfl, rfl⟩
      refine hK.out _ _ (HS.out _ HB.out) (fun hHeld => ?_)
      clear hK K
      try simp only [Act.put, zA, zB, zC]
      refine tj 14 ?_
      simp only [Act.put, zA, zB, zC]
      refine tj 15 ?_
      simp only [Act.put, zA, zB, zC]
      refine tj 16 ?_
      simp only [Act.put, zA, zB, zC]
      refine wpAnyH_done (by kernel_rfl) ?_ _
      clear hHeld
      go_wp2_with fail
      go_meet
      case rel => exact ⟨by rw [HZ.out]; simp [H64, hE, hnm], HB.out⟩
     ·skip
      refine wp_region_held_drew (S := (fun y : World => y.cell? ⟨w.heap.size, 1, none⟩ = some (.string nm) ∧ y.cell? ⟨w1.heap.size, 0, none⟩ = some (.string m) ∧ y.cell? ⟨w1.heap.size, 1, none⟩ = some (.string r))) (by kernel_rfl) (HS.out _ (Below.refl _ _).drew) (fun hHeld => ?_)
      refine tj 0 ?_
      simp only [Act.put, zA, zB, zC]
      refine tj 2 ?_
      simp only [Act.put, zA, zB, zC]
      refine tj 3 ?_
      simp only [Act.put, zA, zB, zC]
      refine tj 4 ?_
      simp only [Act.put, zA, zB, zC]
      refine tr [1] ?_
      refine AllReadyH.cons (tA rfl) (fun K hK => ?_) AllReadyH.nil
      go_simp
      refine (has_int m r 64 (by decide) (by decide) _).mono ?_
      rw [h64]
      rintro e y1 ⟨rfl, hb1⟩
      have HB : Hid (Below Y.heap.size Y y1) := (Below.refl _ _).drew.trans hb1
      clear hb1
      refine hK.out _ _ (HS.out _ HB.out) (fun hHeld => ?_)
      clear hK K
      try simp only [Act.put, zA, zB, zC]
      refine tj 5 ?_
      simp only [Act.put, zA, zB, zC]
      refine tj 6 ?_
      simp only [Act.put, zA, zB, zC]
      refine tj 7 ?_
      simp only [Act.put, zA, zB, zC]
      refine tj 8 ?_
      simp only [Act.put, zA, zB, zC]
      refine tj 9 ?_
      simp only [Act.put, zA, zB, zC]
      refine tj 10 ?_
      simp only [Act.put, zA, zB, zC]
      refine tj 11 ?_
      simp only [Act.put, zA, zB, zC]
      refine tj 12 ?_
      simp only [Act.put, zA, zB, zC]
      refine tr [13] ?_
      refine AllReadyH.cons (tA rfl) (fun K hK => ?_) AllReadyH.nil
      go_simp
      refine (nameMayBe_any nm hs _).mono ?_
      rw [hnm]
      rintro e y2 ⟨rfl, rfl⟩
      refine hK.out _ _ (HS.out _ HB.out) (fun hHeld => ?_)
      clear hK K
      try simp only [Act.put, zA, zB, zC]
      refine tj 14 ?_
      simp only [Act.put, zA, zB, zC]
      refine tj 15 ?_
      simp only [Act.put, zA, zB, zC]
      refine tj 16 ?_
      simp only [Act.put, zA, zB, zC]
      refine wpAnyH_done (by kernel_rfl) ?_ _
      clear hHeld
      go_wp2_with fail
      go_meet
      case rel => exact ⟨by rw [HZ.out]; simp [H64, hE, hnm], HB.out⟩
  case rest =>
   obtain ⟨rfl, HB⟩ := hcut
   obtain ⟨q1, q2, q3, q4, q5, p0, p1⟩ := HK.out _ HB.out
   clear HZ
   cases z
   ·go_wp2_with fail
    go_ret
    exact ⟨ret_b (by rw [HR.out]; rfl), HW.out _ HB.out⟩
   ·skip
    by_cases hA : a = 0
    ·have ha := eq_i hA
     have hA' : Hid (a = 0) := hA
     clear hA
     by_cases hBz : b = 0
     ·have hbz := eq_i hBz
      have hBz' : Hid (b = 0) := hBz
      clear hBz
      by_cases hNz : n = 0
      ·have hnz := eq_i hNz
       have hNz' : Hid (n = 0) := hNz
       clear hNz
       go_wp2_with (go_at_call 90; refine (has_int m r _ (by decide) (by decide) _).mono ?_; (first | rw [h64] | rw [h65] | rw [h66] | rw [h78]); rintro e y2 ⟨rfl, hb2⟩; replace HB := hid_trans HB hb2; clear hb2; obtain ⟨k1, k2, k3, k4, k5, k6, k7⟩ := HK.out _ HB.out; clear q1 q2 q3 q4 q5 p0 p1; have q1 := k1; have q2 := k2; have q3 := k3; have q4 := k4; have q5 := k5; have p0 := k6; have p1 := k7; clear k1 k2 k3 k4 k5 k6 k7)
       cases hra : X.isReg a
       ·skip
        go_wp2_with (first | (go_at_call 91; refine (isRegister_any _ _).mono ?_; (first | rw [hra] | rw [hrb]); rintro e y2 ⟨rfl, rfl⟩) | (go_at_call 92; refine (numberMayBe_any op n _).mono ?_; rw [hn9]; rintro e y2 ⟨rfl, rfl⟩))
        go_ret
        exact ⟨ret_b (by rw [HR.out]; simp only [Bool.true_or, Bool.or_true, Bool.false_or, Bool.or_self, Bool.and_true, Bool.true_and, Bool.false_and, Bool.and_false, Bool.and_self, insR, decide_eq_true hA'.out, decide_eq_true hBz'.out, decide_eq_true hNz'.out, hra]), HW.out _ HB.out⟩
       ·cases hrb : X.isReg b
        ·skip
         go_wp2_with (first | (go_at_call 91; refine (isRegister_any _ _).mono ?_; (first | rw [hra] | rw [hrb]); rintro e y2 ⟨rfl, rfl⟩) | (go_at_call 92; refine (numberMayBe_any op n _).mono ?_; rw [hn9]; rintro e y2 ⟨rfl, rfl⟩))
         go_ret
         exact ⟨ret_b (by rw [HR.out]; simp only [Bool.true_or, Bool.or_true, Bool.false_or, Bool.or_self, Bool.and_true, Bool.true_and, Bool.false_and, Bool.and_false, Bool.and_self, insR, decide_eq_true hA'.out, decide_eq_true hBz'.out, decide_eq_true hNz'.out, hra, hrb]), HW.out _ HB.out⟩
        ·cases hn9 : X.numOk op n
         ·skip
          go_wp2_with (first | (go_at_call 91; refine (isRegister_any _ _).mono ?_; (first | rw [hra] | rw [hrb]); rintro e y2 ⟨rfl, rfl⟩) | (go_at_call 92; refine (numberMayBe_any op n _).mono ?_; rw [hn9]; rintro e y2 ⟨rfl, rfl⟩))
          go_ret
          exact ⟨ret_b (by rw [HR.out]; simp only [Bool.true_or, Bool.or_true, Bool.false_or, Bool.or_self, Bool.and_true, Bool.true_and, Bool.false_and, Bool.and_false, Bool.and_self, insR, decide_eq_true hA'.out, decide_eq_true hBz'.out, decide_eq_true hNz'.out, hra, hrb, hn9]), HW.out _ HB.out⟩
         ·skip
          go_wp2_with (first | (go_at_call 91; refine (isRegister_any _ _).mono ?_; (first | rw [hra] | rw [hrb]); rintro e y2 ⟨rfl, rfl⟩) | (go_at_call 92; refine (numberMayBe_any op n _).mono ?_; rw [hn9]; rintro e y2 ⟨rfl, rfl⟩))
          go_ret
          exact ⟨ret_b (by rw [HR.out]; simp only [Bool.true_or, Bool.or_true, Bool.false_or, Bool.or_self, Bool.and_true, Bool.true_and, Bool.false_and, Bool.and_false, Bool.and_self, insR, decide_eq_true hA'.out, decide_eq_true hBz'.out, decide_eq_true hNz'.out, hra, hrb, hn9]), HW.out _ HB.out⟩
      ·have hnz := ne_i hNz
       have hNz' : Hid (¬ n = 0) := hNz
       clear hNz
       cases H78 : X.has r.data.toList 78
       ·have h78 : X.has r.data.toList (UInt8.ofNat (Int.toNat 78)) = false := H78
        go_wp2_with (go_at_call 90; refine (has_int m r _ (by decide) (by decide) _).mono ?_; (first | rw [h64] | rw [h65] | rw [h66] | rw [h78]); rintro e y2 ⟨rfl, hb2⟩; replace HB := hid_trans HB hb2; clear hb2; obtain ⟨k1, k2, k3, k4, k5, k6, k7⟩ := HK.out _ HB.out; clear q1 q2 q3 q4 q5 p0 p1; have q1 := k1; have q2 := k2; have q3 := k3; have q4 := k4; have q5 := k5; have p0 := k6; have p1 := k7; clear k1 k2 k3 k4 k5 k6 k7)
        go_ret
        exact ⟨ret_b (by rw [HR.out]; simp only [Bool.true_or, Bool.or_true, Bool.false_or, Bool.or_self, Bool.and_true, Bool.true_and, Bool.false_and, Bool.and_false, Bool.and_self, insR, decide_eq_true hA'.out, decide_eq_true hBz'.out, decide_eq_false hNz'.out, H78]), HW.out _ HB.out⟩
       ·have h78 : X.has r.data.toList (UInt8.ofNat (Int.toNat 78)) = true := H78
        go_wp2_with (go_at_call 90; refine (has_int m r _ (by decide) (by decide) _).mono ?_; (first | rw [h64] | rw [h65] | rw [h66] | rw [h78]); rintro e y2 ⟨rfl, hb2⟩; replace HB := hid_trans HB hb2; clear hb2; obtain ⟨k1, k2, k3, k4, k5, k6, k7⟩ := HK.out _ HB.out; clear q1 q2 q3 q4 q5 p0 p1; have q1 := k1; have q2 := k2; have q3 := k3; have q4 := k4; have q5 := k5; have p0 := k6; have p1 := k7; clear k1 k2 k3 k4 k5 k6 k7)
        cases hra : X.isReg a
        ·skip
         go_wp2_with (first | (go_at_call 91; refine (isRegister_any _ _).mono ?_; (first | rw [hra] | rw [hrb]); rintro e y2 ⟨rfl, rfl⟩) | (go_at_call 92; refine (numberMayBe_any op n _).mono ?_; rw [hn9]; rintro e y2 ⟨rfl, rfl⟩))
         go_ret
         exact ⟨ret_b (by rw [HR.out]; simp only [Bool.true_or, Bool.or_true, Bool.false_or, Bool.or_self, Bool.and_true, Bool.true_and, Bool.false_and, Bool.and_false, Bool.and_self, insR, decide_eq_true hA'.out, decide_eq_true hBz'.out, decide_eq_false hNz'.out, H78, hra]), HW.out _ HB.out⟩
        ·cases hrb : X.isReg b
         ·skip
          go_wp2_with (first | (go_at_call 91; refine (isRegister_any _ _).mono ?_; (first | rw [hra] | rw [hrb]); rintro e y2 ⟨rfl, rfl⟩) | (go_at_call 92; refine (numberMayBe_any op n _).mono ?_; rw [hn9]; rintro e y2 ⟨rfl, rfl⟩))
          go_ret
          exact ⟨ret_b (by rw [HR.out]; simp only [Bool.true_or, Bool.or_true, Bool.false_or, Bool.or_self, Bool.and_true, Bool.true_and, Bool.false_and, Bool.and_false, Bool.and_self, insR, decide_eq_true hA'.out, decide_eq_true hBz'.out, decide_eq_false hNz'.out, H78, hra, hrb]), HW.out _ HB.out⟩
         ·cases hn9 : X.numOk op n
          ·skip
           go_wp2_with (first | (go_at_call 91; refine (isRegister_any _ _).mono ?_; (first | rw [hra] | rw [hrb]); rintro e y2 ⟨rfl, rfl⟩) | (go_at_call 92; refine (numberMayBe_any op n _).mono ?_; rw [hn9]; rintro e y2 ⟨rfl, rfl⟩))
           go_ret
           exact ⟨ret_b (by rw [HR.out]; simp only [Bool.true_or, Bool.or_true, Bool.false_or, Bool.or_self, Bool.and_true, Bool.true_and, Bool.false_and, Bool.and_false, Bool.and_self, insR, decide_eq_true hA'.out, decide_eq_true hBz'.out, decide_eq_false hNz'.out, H78, hra, hrb, hn9]), HW.out _ HB.out⟩
          ·skip
           go_wp2_with (first | (go_at_call 91; refine (isRegister_any _ _).mono ?_; (first | rw [hra] | rw [hrb]); rintro e y2 ⟨rfl, rfl⟩) | (go_at_call 92; refine (numberMayBe_any op n _).mono ?_; rw [hn9]; rintro e y2 ⟨rfl, rfl⟩))
           go_ret
           exact ⟨ret_b (by rw [HR.out]; simp only [Bool.true_or, Bool.or_true, Bool.false_or, Bool.or_self, Bool.and_true, Bool.true_and, Bool.false_and, Bool.and_false, Bool.and_self, insR, decide_eq_true hA'.out, decide_eq_true hBz'.out, decide_eq_false hNz'.out, H78, hra, hrb, hn9]), HW.out _ HB.out⟩
     ·have hbz := ne_i hBz
      have hBz' : Hid (¬ b = 0) := hBz
      clear hBz
      cases H66 : X.has r.data.toList 66
      ·have h66 : X.has r.data.toList (UInt8.ofNat (Int.toNat 66)) = false := H66
       go_wp2_with (go_at_call 90; refine (has_int m r _ (by decide) (by decide) _).mono ?_; (first | rw [h64] | rw [h65] | rw [h66] | rw [h78]); rintro e y2 ⟨rfl, hb2⟩; replace HB := hid_trans HB hb2; clear hb2; obtain ⟨k1, k2, k3, k4, k5, k6, k7⟩ := HK.out _ HB.out; clear q1 q2 q3 q4 q5 p0 p1; have q1 := k1; have q2 := k2; have q3 := k3; have q4 := k4; have q5 := k5; have p0 := k6; have p1 := k7; clear k1 k2 k3 k4 k5 k6 k7)
       go_ret
       exact ⟨ret_b (by rw [HR.out]; simp only [Bool.true_or, Bool.or_true, Bool.false_or, Bool.or_self, Bool.and_true, Bool.true_and, Bool.false_and, Bool.and_false, Bool.and_self, insR, decide_eq_true hA'.out, decide_eq_false hBz'.out, H66]), HW.out _ HB.out⟩
      ·have h66 : X.has r.data.toList (UInt8.ofNat (Int.toNat 66)) = true := H66
       by_cases hNz : n = 0
       ·have hnz := eq_i hNz
        have hNz' : Hid (n = 0) := hNz
        clear hNz
        go_wp2_with (go_at_call 90; refine (has_int m r _ (by decide) (by decide) _).mono ?_; (first | rw [h64] | rw [h65] | rw [h66] | rw [h78]); rintro e y2 ⟨rfl, hb2⟩; replace HB := hid_trans HB hb2; clear hb2; obtain ⟨k1, k2, k3, k4, k5, k6, k7⟩ := HK.out _ HB.out; clear q1 q2 q3 q4 q5 p0 p1; have q1 := k1; have q2 := k2; have q3 := k3; have q4 := k4; have q5 := k5; have p0 := k6; have p1 := k7; clear k1 k2 k3 k4 k5 k6 k7)
        cases hra : X.isReg a
        ·skip
         go_wp2_with (first | (go_at_call 91; refine (isRegister_any _ _).mono ?_; (first | rw [hra] | rw [hrb]); rintro e y2 ⟨rfl, rfl⟩) | (go_at_call 92; refine (numberMayBe_any op n _).mono ?_; rw [hn9]; rintro e y2 ⟨rfl, rfl⟩))
         go_ret
         exact ⟨ret_b (by rw [HR.out]; simp only [Bool.true_or, Bool.or_true, Bool.false_or, Bool.or_self, Bool.and_true, Bool.true_and, Bool.false_and, Bool.and_false, Bool.and_self, insR, decide_eq_true hA'.out, decide_eq_false hBz'.out, H66, decide_eq_true hNz'.out, hra]), HW.out _ HB.out⟩
        ·cases hrb : X.isReg b
         ·skip
          go_wp2_with (first | (go_at_call 91; refine (isRegister_any _ _).mono ?_; (first | rw [hra] | rw [hrb]); rintro e y2 ⟨rfl, rfl⟩) | (go_at_call 92; refine (numberMayBe_any op n _).mono ?_; rw [hn9]; rintro e y2 ⟨rfl, rfl⟩))
          go_ret
          exact ⟨ret_b (by rw [HR.out]; simp only [Bool.true_or, Bool.or_true, Bool.false_or, Bool.or_self, Bool.and_true, Bool.true_and, Bool.false_and, Bool.and_false, Bool.and_self, insR, decide_eq_true hA'.out, decide_eq_false hBz'.out, H66, decide_eq_true hNz'.out, hra, hrb]), HW.out _ HB.out⟩
         ·cases hn9 : X.numOk op n
          ·skip
           go_wp2_with (first | (go_at_call 91; refine (isRegister_any _ _).mono ?_; (first | rw [hra] | rw [hrb]); rintro e y2 ⟨rfl, rfl⟩) | (go_at_call 92; refine (numberMayBe_any op n _).mono ?_; rw [hn9]; rintro e y2 ⟨rfl, rfl⟩))
           go_ret
           exact ⟨ret_b (by rw [HR.out]; simp only [Bool.true_or, Bool.or_true, Bool.false_or, Bool.or_self, Bool.and_true, Bool.true_and, Bool.false_and, Bool.and_false, Bool.and_self, insR, decide_eq_true hA'.out, decide_eq_false hBz'.out, H66, decide_eq_true hNz'.out, hra, hrb, hn9]), HW.out _ HB.out⟩
          ·skip
           go_wp2_with (first | (go_at_call 91; refine (isRegister_any _ _).mono ?_; (first | rw [hra] | rw [hrb]); rintro e y2 ⟨rfl, rfl⟩) | (go_at_call 92; refine (numberMayBe_any op n _).mono ?_; rw [hn9]; rintro e y2 ⟨rfl, rfl⟩))
           go_ret
           exact ⟨ret_b (by rw [HR.out]; simp only [Bool.true_or, Bool.or_true, Bool.false_or, Bool.or_self, Bool.and_true, Bool.true_and, Bool.false_and, Bool.and_false, Bool.and_self, insR, decide_eq_true hA'.out, decide_eq_false hBz'.out, H66, decide_eq_true hNz'.out, hra, hrb, hn9]), HW.out _ HB.out⟩
       ·have hnz := ne_i hNz
        have hNz' : Hid (¬ n = 0) := hNz
        clear hNz
        cases H78 : X.has r.data.toList 78
        ·have h78 : X.has r.data.toList (UInt8.ofNat (Int.toNat 78)) = false := H78
         go_wp2_with (go_at_call 90; refine (has_int m r _ (by decide) (by decide) _).mono ?_; (first | rw [h64] | rw [h65] | rw [h66] | rw [h78]); rintro e y2 ⟨rfl, hb2⟩; replace HB := hid_trans HB hb2; clear hb2; obtain ⟨k1, k2, k3, k4, k5, k6, k7⟩ := HK.out _ HB.out; clear q1 q2 q3 q4 q5 p0 p1; have q1 := k1; have q2 := k2; have q3 := k3; have q4 := k4; have q5 := k5; have p0 := k6; have p1 := k7; clear k1 k2 k3 k4 k5 k6 k7)
         go_ret
         exact ⟨ret_b (by rw [HR.out]; simp only [Bool.true_or, Bool.or_true, Bool.false_or, Bool.or_self, Bool.and_true, Bool.true_and, Bool.false_and, Bool.and_false, Bool.and_self, insR, decide_eq_true hA'.out, decide_eq_false hBz'.out, H66, decide_eq_false hNz'.out, H78]), HW.out _ HB.out⟩
        ·have h78 : X.has r.data.toList (UInt8.ofNat (Int.toNat 78)) = true := H78
         go_wp2_with (go_at_call 90; refine (has_int m r _ (by decide) (by decide) _).mono ?_; (first | rw [h64] | rw [h65] | rw [h66] | rw [h78]); rintro e y2 ⟨rfl, hb2⟩; replace HB := hid_trans HB hb2; clear hb2; obtain ⟨k1, k2, k3, k4, k5, k6, k7⟩ := HK.out _ HB.out; clear q1 q2 q3 q4 q5 p0 p1; have q1 := k1; have q2 := k2; have q3 := k3; have q4 := k4; have q5 := k5; have p0 := k6; have p1 := k7; clear k1 k2 k3 k4 k5 k6 k7)
         cases hra : X.isReg a
         ·skip
          go_wp2_with (first | (go_at_call 91; refine (isRegister_any _ _).mono ?_; (first | rw [hra] | rw [hrb]); rintro e y2 ⟨rfl, rfl⟩) | (go_at_call 92; refine (numberMayBe_any op n _).mono ?_; rw [hn9]; rintro e y2 ⟨rfl, rfl⟩))
          go_ret
          exact ⟨ret_b (by rw [HR.out]; simp only [Bool.true_or, Bool.or_true, Bool.false_or, Bool.or_self, Bool.and_true, Bool.true_and, Bool.false_and, Bool.and_false, Bool.and_self, insR, decide_eq_true hA'.out, decide_eq_false hBz'.out, H66, decide_eq_false hNz'.out, H78, hra]), HW.out _ HB.out⟩
         ·cases hrb : X.isReg b
          ·skip
           go_wp2_with (first | (go_at_call 91; refine (isRegister_any _ _).mono ?_; (first | rw [hra] | rw [hrb]); rintro e y2 ⟨rfl, rfl⟩) | (go_at_call 92; refine (numberMayBe_any op n _).mono ?_; rw [hn9]; rintro e y2 ⟨rfl, rfl⟩))
           go_ret
           exact ⟨ret_b (by rw [HR.out]; simp only [Bool.true_or, Bool.or_true, Bool.false_or, Bool.or_self, Bool.and_true, Bool.true_and, Bool.false_and, Bool.and_false, Bool.and_self, insR, decide_eq_true hA'.out, decide_eq_false hBz'.out, H66, decide_eq_false hNz'.out, H78, hra, hrb]), HW.out _ HB.out⟩
          ·cases hn9 : X.numOk op n
           ·skip
            go_wp2_with (first | (go_at_call 91; refine (isRegister_any _ _).mono ?_; (first | rw [hra] | rw [hrb]); rintro e y2 ⟨rfl, rfl⟩) | (go_at_call 92; refine (numberMayBe_any op n _).mono ?_; rw [hn9]; rintro e y2 ⟨rfl, rfl⟩))
            go_ret
            exact ⟨ret_b (by rw [HR.out]; simp only [Bool.true_or, Bool.or_true, Bool.false_or, Bool.or_self, Bool.and_true, Bool.true_and, Bool.false_and, Bool.and_false, Bool.and_self, insR, decide_eq_true hA'.out, decide_eq_false hBz'.out, H66, decide_eq_false hNz'.out, H78, hra, hrb, hn9]), HW.out _ HB.out⟩
           ·skip
            go_wp2_with (first | (go_at_call 91; refine (isRegister_any _ _).mono ?_; (first | rw [hra] | rw [hrb]); rintro e y2 ⟨rfl, rfl⟩) | (go_at_call 92; refine (numberMayBe_any op n _).mono ?_; rw [hn9]; rintro e y2 ⟨rfl, rfl⟩))
            go_ret
            exact ⟨ret_b (by rw [HR.out]; simp only [Bool.true_or, Bool.or_true, Bool.false_or, Bool.or_self, Bool.and_true, Bool.true_and, Bool.false_and, Bool.and_false, Bool.and_self, insR, decide_eq_true hA'.out, decide_eq_false hBz'.out, H66, decide_eq_false hNz'.out, H78, hra, hrb, hn9]), HW.out _ HB.out⟩
    ·have ha := ne_i hA
     have hA' : Hid (¬ a = 0) := hA
     clear hA
     cases H65 : X.has r.data.toList 65
     ·have h65 : X.has r.data.toList (UInt8.ofNat (Int.toNat 65)) = false := H65
      go_wp2_with (go_at_call 90; refine (has_int m r _ (by decide) (by decide) _).mono ?_; (first | rw [h64] | rw [h65] | rw [h66] | rw [h78]); rintro e y2 ⟨rfl, hb2⟩; replace HB := hid_trans HB hb2; clear hb2; obtain ⟨k1, k2, k3, k4, k5, k6, k7⟩ := HK.out _ HB.out; clear q1 q2 q3 q4 q5 p0 p1; have q1 := k1; have q2 := k2; have q3 := k3; have q4 := k4; have q5 := k5; have p0 := k6; have p1 := k7; clear k1 k2 k3 k4 k5 k6 k7)
      go_ret
      exact ⟨ret_b (by rw [HR.out]; simp only [Bool.true_or, Bool.or_true, Bool.false_or, Bool.or_self, Bool.and_true, Bool.true_and, Bool.false_and, Bool.and_false, Bool.and_self, insR, decide_eq_false hA'.out, H65]), HW.out _ HB.out⟩
     ·have h65 : X.has r.data.toList (UInt8.ofNat (Int.toNat 65)) = true := H65
      by_cases hBz : b = 0
      ·have hbz := eq_i hBz
       have hBz' : Hid (b = 0) := hBz
       clear hBz
       by_cases hNz : n = 0
       ·have hnz := eq_i hNz
        have hNz' : Hid (n = 0) := hNz
        clear hNz
        go_wp2_with (go_at_call 90; refine (has_int m r _ (by decide) (by decide) _).mono ?_; (first | rw [h64] | rw [h65] | rw [h66] | rw [h78]); rintro e y2 ⟨rfl, hb2⟩; replace HB := hid_trans HB hb2; clear hb2; obtain ⟨k1, k2, k3, k4, k5, k6, k7⟩ := HK.out _ HB.out; clear q1 q2 q3 q4 q5 p0 p1; have q1 := k1; have q2 := k2; have q3 := k3; have q4 := k4; have q5 := k5; have p0 := k6; have p1 := k7; clear k1 k2 k3 k4 k5 k6 k7)
        cases hra : X.isReg a
        ·skip
         go_wp2_with (first | (go_at_call 91; refine (isRegister_any _ _).mono ?_; (first | rw [hra] | rw [hrb]); rintro e y2 ⟨rfl, rfl⟩) | (go_at_call 92; refine (numberMayBe_any op n _).mono ?_; rw [hn9]; rintro e y2 ⟨rfl, rfl⟩))
         go_ret
         exact ⟨ret_b (by rw [HR.out]; simp only [Bool.true_or, Bool.or_true, Bool.false_or, Bool.or_self, Bool.and_true, Bool.true_and, Bool.false_and, Bool.and_false, Bool.and_self, insR, decide_eq_false hA'.out, H65, decide_eq_true hBz'.out, decide_eq_true hNz'.out, hra]), HW.out _ HB.out⟩
        ·cases hrb : X.isReg b
         ·skip
          go_wp2_with (first | (go_at_call 91; refine (isRegister_any _ _).mono ?_; (first | rw [hra] | rw [hrb]); rintro e y2 ⟨rfl, rfl⟩) | (go_at_call 92; refine (numberMayBe_any op n _).mono ?_; rw [hn9]; rintro e y2 ⟨rfl, rfl⟩))
          go_ret
          exact ⟨ret_b (by rw [HR.out]; simp only [Bool.true_or, Bool.or_true, Bool.false_or, Bool.or_self, Bool.and_true, Bool.true_and, Bool.false_and, Bool.and_false, Bool.and_self, insR, decide_eq_false hA'.out, H65, decide_eq_true hBz'.out, decide_eq_true hNz'.out, hra, hrb]), HW.out _ HB.out⟩
         ·cases hn9 : X.numOk op n
          ·skip
           go_wp2_with (first | (go_at_call 91; refine (isRegister_any _ _).mono ?_; (first | rw [hra] | rw [hrb]); rintro e y2 ⟨rfl, rfl⟩) | (go_at_call 92; refine (numberMayBe_any op n _).mono ?_; rw [hn9]; rintro e y2 ⟨rfl, rfl⟩))
           go_ret
           exact ⟨ret_b (by rw [HR.out]; simp only [Bool.true_or, Bool.or_true, Bool.false_or, Bool.or_self, Bool.and_true, Bool.true_and, Bool.false_and, Bool.and_false, Bool.and_self, insR, decide_eq_false hA'.out, H65, decide_eq_true hBz'.out, decide_eq_true hNz'.out, hra, hrb, hn9]), HW.out _ HB.out⟩
          ·skip
           go_wp2_with (first | (go_at_call 91; refine (isRegister_any _ _).mono ?_; (first | rw [hra] | rw [hrb]); rintro e y2 ⟨rfl, rfl⟩) | (go_at_call 92; refine (numberMayBe_any op n _).mono ?_; rw [hn9]; rintro e y2 ⟨rfl, rfl⟩))
           go_ret
           exact ⟨ret_b (by rw [HR.out]; simp only [Bool.true_or, Bool.or_true, Bool.false_or, Bool.or_self, Bool.and_true, Bool.true_and, Bool.false_and, Bool.and_false, Bool.and_self, insR, decide_eq_false hA'.out, H65, decide_eq_true hBz'.out, decide_eq_true hNz'.out, hra, hrb, hn9]), HW.out _ HB.out⟩
       ·have hnz := ne_i hNz
        have hNz' : Hid (¬ n = 0) := hNz
        clear hNz
        cases H78 : X.has r.data.toList 78
        ·have h78 : X.has r.data.toList (UInt8.ofNat (Int.toNat 78)) = false := H78
         go_wp2_with (go_at_call 90; refine (has_int m r _ (by decide) (by decide) _).mono ?_; (first | rw [h64] | rw [h65] | rw [h66] | rw [h78]); rintro e y2 ⟨rfl, hb2⟩; replace HB := hid_trans HB hb2; clear hb2; obtain ⟨k1, k2, k3, k4, k5, k6, k7⟩ := HK.out _ HB.out; clear q1 q2 q3 q4 q5 p0 p1; have q1 := k1; have q2 := k2; have q3 := k3; have q4 := k4; have q5 := k5; have p0 := k6; have p1 := k7; clear k1 k2 k3 k4 k5 k6 k7)
         go_ret
         exact ⟨ret_b (by rw [HR.out]; simp only [Bool.true_or, Bool.or_true, Bool.false_or, Bool.or_self, Bool.and_true, Bool.true_and, Bool.false_and, Bool.and_false, Bool.and_self, insR, decide_eq_false hA'.out, H65, decide_eq_true hBz'.out, decide_eq_false hNz'.out, H78]), HW.out _ HB.out⟩
        ·have h78 : X.has r.data.toList (UInt8.ofNat (Int.toNat 78)) = true := H78
         go_wp2_with (go_at_call 90; refine (has_int m r _ (by decide) (by decide) _).mono ?_; (first | rw [h64] | rw [h65] | rw [h66] | rw [h78]); rintro e y2 ⟨rfl, hb2⟩; replace HB := hid_trans HB hb2; clear hb2; obtain ⟨k1, k2, k3, k4, k5, k6, k7⟩ := HK.out _ HB.out; clear q1 q2 q3 q4 q5 p0 p1; have q1 := k1; have q2 := k2; have q3 := k3; have q4 := k4; have q5 := k5; have p0 := k6; have p1 := k7; clear k1 k2 k3 k4 k5 k6 k7)
         cases hra : X.isReg a
         ·skip
          go_wp2_with (first | (go_at_call 91; refine (isRegister_any _ _).mono ?_; (first | rw [hra] | rw [hrb]); rintro e y2 ⟨rfl, rfl⟩) | (go_at_call 92; refine (numberMayBe_any op n _).mono ?_; rw [hn9]; rintro e y2 ⟨rfl, rfl⟩))
          go_ret
          exact ⟨ret_b (by rw [HR.out]; simp only [Bool.true_or, Bool.or_true, Bool.false_or, Bool.or_self, Bool.and_true, Bool.true_and, Bool.false_and, Bool.and_false, Bool.and_self, insR, decide_eq_false hA'.out, H65, decide_eq_true hBz'.out, decide_eq_false hNz'.out, H78, hra]), HW.out _ HB.out⟩
         ·cases hrb : X.isReg b
          ·skip
           go_wp2_with (first | (go_at_call 91; refine (isRegister_any _ _).mono ?_; (first | rw [hra] | rw [hrb]); rintro e y2 ⟨rfl, rfl⟩) | (go_at_call 92; refine (numberMayBe_any op n _).mono ?_; rw [hn9]; rintro e y2 ⟨rfl, rfl⟩))
           go_ret
           exact ⟨ret_b (by rw [HR.out]; simp only [Bool.true_or, Bool.or_true, Bool.false_or, Bool.or_self, Bool.and_true, Bool.true_and, Bool.false_and, Bool.and_false, Bool.and_self, insR, decide_eq_false hA'.out, H65, decide_eq_true hBz'.out, decide_eq_false hNz'.out, H78, hra, hrb]), HW.out _ HB.out⟩
          ·cases hn9 : X.numOk op n
           ·skip
            go_wp2_with (first | (go_at_call 91; refine (isRegister_any _ _).mono ?_; (first | rw [hra] | rw [hrb]); rintro e y2 ⟨rfl, rfl⟩) | (go_at_call 92; refine (numberMayBe_any op n _).mono ?_; rw [hn9]; rintro e y2 ⟨rfl, rfl⟩))
            go_ret
            exact ⟨ret_b (by rw [HR.out]; simp only [Bool.true_or, Bool.or_true, Bool.false_or, Bool.or_self, Bool.and_true, Bool.true_and, Bool.false_and, Bool.and_false, Bool.and_self, insR, decide_eq_false hA'.out, H65, decide_eq_true hBz'.out, decide_eq_false hNz'.out, H78, hra, hrb, hn9]), HW.out _ HB.out⟩
           ·skip
            go_wp2_with (first | (go_at_call 91; refine (isRegister_any _ _).mono ?_; (first | rw [hra] | rw [hrb]); rintro e y2 ⟨rfl, rfl⟩) | (go_at_call 92; refine (numberMayBe_any op n _).mono ?_; rw [hn9]; rintro e y2 ⟨rfl, rfl⟩))
            go_ret
            exact ⟨ret_b (by rw [HR.out]; simp only [Bool.true_or, Bool.or_true, Bool.false_or, Bool.or_self, Bool.and_true, Bool.true_and, Bool.false_and, Bool.and_false, Bool.and_self, insR, decide_eq_false hA'.out, H65, decide_eq_true hBz'.out, decide_eq_false hNz'.out, H78, hra, hrb, hn9]), HW.out _ HB.out⟩
      ·have hbz := ne_i hBz
       have hBz' : Hid (¬ b = 0) := hBz
       clear hBz
       cases H66 : X.has r.data.toList 66
       ·have h66 : X.has r.data.toList (UInt8.ofNat (Int.toNat 66)) = false := H66
        go_wp2_with (go_at_call 90; refine (has_int m r _ (by decide) (by decide) _).mono ?_; (first | rw [h64] | rw [h65] | rw [h66] | rw [h78]); rintro e y2 ⟨rfl, hb2⟩; replace HB := hid_trans HB hb2; clear hb2; obtain ⟨k1, k2, k3, k4, k5, k6, k7⟩ := HK.out _ HB.out; clear q1 q2 q3 q4 q5 p0 p1; have q1 := k1; have q2 := k2; have q3 := k3; have q4 := k4; have q5 := k5; have p0 := k6; have p1 := k7; clear k1 k2 k3 k4 k5 k6 k7)
        go_ret
        exact ⟨ret_b (by rw [HR.out]; simp only [Bool.true_or, Bool.or_true, Bool.false_or, Bool.or_self, Bool.and_true, Bool.true_and, Bool.false_and, Bool.and_false, Bool.and_self, insR, decide_eq_false hA'.out, H65, decide_eq_false hBz'.out, H66]), HW.out _ HB.out⟩
       ·have h66 : X.has r.data.toList (UInt8.ofNat (Int.toNat 66)) = true := H66
        by_cases hNz : n = 0
        ·have hnz := eq_i hNz
         have hNz' : Hid (n = 0) := hNz
         clear hNz
         go_wp2_with (go_at_call 90; refine (has_int m r _ (by decide) (by decide) _).mono ?_; (first | rw [h64] | rw [h65] | rw [h66] | rw [h78]); rintro e y2 ⟨rfl, hb2⟩; replace HB := hid_trans HB hb2; clear hb2; obtain ⟨k1, k2, k3, k4, k5, k6, k7⟩ := HK.out _ HB.out; clear q1 q2 q3 q4 q5 p0 p1; have q1 := k1; have q2 := k2; have q3 := k3; have q4 := k4; have q5 := k5; have p0 := k6; have p1 := k7; clear k1 k2 k3 k4 k5 k6 k7)
         cases hra : X.isReg a
         ·skip
          go_wp2_with (first | (go_at_call 91; refine (isRegister_any _ _).mono ?_; (first | rw [hra] | rw [hrb]); rintro e y2 ⟨rfl, rfl⟩) | (go_at_call 92; refine (numberMayBe_any op n _).mono ?_; rw [hn9]; rintro e y2 ⟨rfl, rfl⟩))
          go_ret
          exact ⟨ret_b (by rw [HR.out]; simp only [Bool.true_or, Bool.or_true, Bool.false_or, Bool.or_self, Bool.and_true, Bool.true_and, Bool.false_and, Bool.and_false, Bool.and_self, insR, decide_eq_false hA'.out, H65, decide_eq_false hBz'.out, H66, decide_eq_true hNz'.out, hra]), HW.out _ HB.out⟩
         ·cases hrb : X.isReg b
          ·skip
           go_wp2_with (first | (go_at_call 91; refine (isRegister_any _ _).mono ?_; (first | rw [hra] | rw [hrb]); rintro e y2 ⟨rfl, rfl⟩) | (go_at_call 92; refine (numberMayBe_any op n _).mono ?_; rw [hn9]; rintro e y2 ⟨rfl, rfl⟩))
           go_ret
           exact ⟨ret_b (by rw [HR.out]; simp only [Bool.true_or, Bool.or_true, Bool.false_or, Bool.or_self, Bool.and_true, Bool.true_and, Bool.false_and, Bool.and_false, Bool.and_self, insR, decide_eq_false hA'.out, H65, decide_eq_false hBz'.out, H66, decide_eq_true hNz'.out, hra, hrb]), HW.out _ HB.out⟩
          ·cases hn9 : X.numOk op n
           ·skip
            go_wp2_with (first | (go_at_call 91; refine (isRegister_any _ _).mono ?_; (first | rw [hra] | rw [hrb]); rintro e y2 ⟨rfl, rfl⟩) | (go_at_call 92; refine (numberMayBe_any op n _).mono ?_; rw [hn9]; rintro e y2 ⟨rfl, rfl⟩))
            go_ret
            exact ⟨ret_b (by rw [HR.out]; simp only [Bool.true_or, Bool.or_true, Bool.false_or, Bool.or_self, Bool.and_true, Bool.true_and, Bool.false_and, Bool.and_false, Bool.and_self, insR, decide_eq_false hA'.out, H65, decide_eq_false hBz'.out, H66, decide_eq_true hNz'.out, hra, hrb, hn9]), HW.out _ HB.out⟩
           ·skip
            go_wp2_with (first | (go_at_call 91; refine (isRegister_any _ _).mono ?_; (first | rw [hra] | rw [hrb]); rintro e y2 ⟨rfl, rfl⟩) | (go_at_call 92; refine (numberMayBe_any op n _).mono ?_; rw [hn9]; rintro e y2 ⟨rfl, rfl⟩))
            go_ret
            exact ⟨ret_b (by rw [HR.out]; simp only [Bool.true_or, Bool.or_true, Bool.false_or, Bool.or_self, Bool.and_true, Bool.true_and, Bool.false_and, Bool.and_false, Bool.and_self, insR, decide_eq_false hA'.out, H65, decide_eq_false hBz'.out, H66, decide_eq_true hNz'.out, hra, hrb, hn9]), HW.out _ HB.out⟩
        ·have hnz := ne_i hNz
         have hNz' : Hid (¬ n = 0) := hNz
         clear hNz
         cases H78 : X.has r.data.toList 78
         ·have h78 : X.has r.data.toList (UInt8.ofNat (Int.toNat 78)) = false := H78
          go_wp2_with (go_at_call 90; refine (has_int m r _ (by decide) (by decide) _).mono ?_; (first | rw [h64] | rw [h65] | rw [h66] | rw [h78]); rintro e y2 ⟨rfl, hb2⟩; replace HB := hid_trans HB hb2; clear hb2; obtain ⟨k1, k2, k3, k4, k5, k6, k7⟩ := HK.out _ HB.out; clear q1 q2 q3 q4 q5 p0 p1; have q1 := k1; have q2 := k2; have q3 := k3; have q4 := k4; have q5 := k5; have p0 := k6; have p1 := k7; clear k1 k2 k3 k4 k5 k6 k7)
          go_ret
          exact ⟨ret_b (by rw [HR.out]; simp only [Bool.true_or, Bool.or_true, Bool.false_or, Bool.or_self, Bool.and_true, Bool.true_and, Bool.false_and, Bool.and_false, Bool.and_self, insR, decide_eq_false hA'.out, H65, decide_eq_false hBz'.out, H66, decide_eq_false hNz'.out, H78]), HW.out _ HB.out⟩
         ·have h78 : X.has r.data.toList (UInt8.ofNat (Int.toNat 78)) = true := H78
          go_wp2_with (go_at_call 90; refine (has_int m r _ (by decide) (by decide) _).mono ?_; (first | rw [h64] | rw [h65] | rw [h66] | rw [h78]); rintro e y2 ⟨rfl, hb2⟩; replace HB := hid_trans HB hb2; clear hb2; obtain ⟨k1, k2, k3, k4, k5, k6, k7⟩ := HK.out _ HB.out; clear q1 q2 q3 q4 q5 p0 p1; have q1 := k1; have q2 := k2; have q3 := k3; have q4 := k4; have q5 := k5; have p0 := k6; have p1 := k7; clear k1 k2 k3 k4 k5 k6 k7)
          cases hra : X.isReg a
          ·skip
           go_wp2_with (first | (go_at_call 91; refine (isRegister_any _ _).mono ?_; (first | rw [hra] | rw [hrb]); rintro e y2 ⟨rfl, rfl⟩) | (go_at_call 92; refine (numberMayBe_any op n _).mono ?_; rw [hn9]; rintro e y2 ⟨rfl, rfl⟩))
           go_ret
           exact ⟨ret_b (by rw [HR.out]; simp only [Bool.true_or, Bool.or_true, Bool.false_or, Bool.or_self, Bool.and_true, Bool.true_and, Bool.false_and, Bool.and_false, Bool.and_self, insR, decide_eq_false hA'.out, H65, decide_eq_false hBz'.out, H66, decide_eq_false hNz'.out, H78, hra]), HW.out _ HB.out⟩
          ·cases hrb : X.isReg b
           ·skip
            go_wp2_with (first | (go_at_call 91; refine (isRegister_any _ _).mono ?_; (first | rw [hra] | rw [hrb]); rintro e y2 ⟨rfl, rfl⟩) | (go_at_call 92; refine (numberMayBe_any op n _).mono ?_; rw [hn9]; rintro e y2 ⟨rfl, rfl⟩))
            go_ret
            exact ⟨ret_b (by rw [HR.out]; simp only [Bool.true_or, Bool.or_true, Bool.false_or, Bool.or_self, Bool.and_true, Bool.true_and, Bool.false_and, Bool.and_false, Bool.and_self, insR, decide_eq_false hA'.out, H65, decide_eq_false hBz'.out, H66, decide_eq_false hNz'.out, H78, hra, hrb]), HW.out _ HB.out⟩
           ·cases hn9 : X.numOk op n
            ·skip
             go_wp2_with (first | (go_at_call 91; refine (isRegister_any _ _).mono ?_; (first | rw [hra] | rw [hrb]); rintro e y2 ⟨rfl, rfl⟩) | (go_at_call 92; refine (numberMayBe_any op n _).mono ?_; rw [hn9]; rintro e y2 ⟨rfl, rfl⟩))
             go_ret
             exact ⟨ret_b (by rw [HR.out]; simp only [Bool.true_or, Bool.or_true, Bool.false_or, Bool.or_self, Bool.and_true, Bool.true_and, Bool.false_and, Bool.and_false, Bool.and_self, insR, decide_eq_false hA'.out, H65, decide_eq_false hBz'.out, H66, decide_eq_false hNz'.out, H78, hra, hrb, hn9]), HW.out _ HB.out⟩
            ·skip
             go_wp2_with (first | (go_at_call 91; refine (isRegister_any _ _).mono ?_; (first | rw [hra] | rw [hrb]); rintro e y2 ⟨rfl, rfl⟩) | (go_at_call 92; refine (numberMayBe_any op n _).mono ?_; rw [hn9]; rintro e y2 ⟨rfl, rfl⟩))
             go_ret
             exact ⟨ret_b (by rw [HR.out]; simp only [Bool.true_or, Bool.or_true, Bool.false_or, Bool.or_self, Bool.and_true, Bool.true_and, Bool.false_and, Bool.and_false, Bool.and_self, insR, decide_eq_false hA'.out, H65, decide_eq_false hBz'.out, H66, decide_eq_false hNz'.out, H78, hra, hrb, hn9]), HW.out _ HB.out⟩

end Go.Proofs.YtgjingleolhkbaaGreatDoor

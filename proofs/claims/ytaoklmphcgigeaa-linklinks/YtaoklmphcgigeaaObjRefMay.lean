/- What the document's named, Syms, May and Check come to. (Written by gen_rmay.py.) -/
import Derived.Test.YtaoklmphcgigeaaObjRefMayA
import Derived.Test.YtaoklmphcgigeaaLinkBoxes
namespace Go.Proofs.Ytaoklmphcgigeaa
open Go.RowKit Go.Maps Go.Lib
set_option linter.unusedVariables false


theorem may_parts {o : ObjD} (h : o.may = true) : o.code.size ≤ 65536 ∧ o.data.length ≤ 4096 ∧ symsOk o.code.size o.data.length o.syms = true ∧ relsOk o.code.size o.rels = true := by
  unfold ObjD.may at h
  simp only [Bool.and_eq_true, decide_eq_true_eq] at h
  exact ⟨h.1.1, h.1.2, h.2.1, h.2.2⟩
theorem relOk_no1 {cl : Nat} {fr : Int} {r : Rel} (h : nameOk r.name = false) : relOk cl fr r = false := by unfold relOk; rw [h, Bool.false_and, Bool.and_false]
theorem relOk_no2 {cl : Nat} {fr : Int} {r : Rel} (h : ¬ (fr ≤ r.pos ∧ r.pos ≤ (cl : Int) - 4)) : relOk cl fr r = false := by
  unfold relOk
  have : (decide (fr ≤ r.pos) && decide (r.pos ≤ (cl : Int) - 4)) = false := by
    rw [Bool.and_eq_false_iff, decide_eq_false_iff_not, decide_eq_false_iff_not]
    omega
  rw [this, Bool.false_and]
theorem relOk_no3 {cl : Nat} {fr : Int} {r : Rel} (h : addOk r.kind r.add = false) : relOk cl fr r = false := by unfold relOk; rw [h, Bool.and_false, Bool.and_false]
theorem relOk_yes {cl : Nat} {fr : Int} {r : Rel} (h1 : nameOk r.name = true) (h2 : fr ≤ r.pos ∧ r.pos ≤ (cl : Int) - 4) (h3 : addOk r.kind r.add = true) : relOk cl fr r = true := by
  unfold relOk
  rw [h1, h3, decide_eq_true h2.1, decide_eq_true h2.2]
  rfl
theorem addOk_jump (n : Int) : addOk 1 n = decide (n = 0) := by unfold addOk; rw [if_pos rfl]
theorem addOk_addr (n : Int) : addOk 2 n = (decide (-2147483648 ≤ n) && decide (n ≤ 2147483647)) := by unfold addOk; rw [if_neg (by decide), if_pos rfl]
theorem addOk_else {k n : Int} (h1 : ¬ k = 1) (h2 : ¬ k = 2) : addOk k n = false := by unfold addOk; rw [if_neg h1, if_neg h2]
theorem may_no {o : ObjD} (h : ¬ (o.code.size ≤ 65536 ∧ o.data.length ≤ 4096 ∧ symsOk o.code.size o.data.length o.syms = true ∧ o.rels.length ≤ 8000)) : o.may = false := by
  cases hm : o.may with
  | false => rfl
  | true =>
    obtain ⟨h1, h2, h3, h4⟩ := may_parts hm
    unfold relsOk at h4
    simp only [Bool.and_eq_true, decide_eq_true_eq] at h4
    exact absurd ⟨h1, h2, h3, h4.1⟩ h
theorem may_is {o : ObjD} (h1 : o.code.size ≤ 65536) (h2 : o.data.length ≤ 4096) (h3 : symsOk o.code.size o.data.length o.syms = true) : o.may = relsOk o.code.size o.rels := by
  unfold ObjD.may
  rw [decide_eq_true h1, decide_eq_true h2, h3]
  rfl
theorem free_next {rs : List Rel} {k : Nat} {r : Rel} (h : rs.getD k noRel = r) : freeAt rs (k + 1) = r.pos + 4 := by
  unfold freeAt
  rw [if_neg (by omega), Nat.add_sub_cancel, h]

set_option maxRecDepth 100000 in
set_option maxHeartbeats 8000000 in
theorem rmay_any {w : World} {v : Value} {o : ObjD} (h : ObjV w v o) :
    Calls Try.prog 25 #[v] w fun e w' => e = .returned (.bool o.may) ∧ Below w.heap.size w w' := by
  obtain ⟨a1, l1, c1, a2, l2, c2, a3, l3, c3, rfl, hcs, h1, h2, h3⟩ := h.form
  obtain ⟨code, data, syms, rels⟩ := o
  simp only at hcs h1 h2 h3
  obtain ⟨z, hz⟩ : ∃ z : Bool, ObjD.may ⟨code, data, syms, rels⟩ = z := ⟨_, rfl⟩
  rw [hz]
  have HZN : Hid (¬ (code.size ≤ 65536 ∧ data.length ≤ 4096 ∧ symsOk code.size data.length syms = true ∧ rels.length ≤ 8000) → z = false) := fun hn => by rw [← hz]; exact may_no hn
  have HZI : Hid (code.size ≤ 65536 → data.length ≤ 4096 → symsOk code.size data.length syms = true → z = relsOk code.size rels) := fun g1 g2 g3 => by rw [← hz]; exact may_is (o := ⟨code, data, syms, rels⟩) g1 g2 g3
  have hn1 := h1.count
  have hn3 := h3.count
  have hcz : code.size ≤ 9223372036854775807 := by unfold maxLen at hcs; omega
  obtain ⟨W1, hW1⟩ : ∃ W1, w.alloc (.cells #[.string code, .slice a1 l1 c1, .slice a2 l2 c2, .slice a3 l3 c3] 40) = W1 := ⟨_, rfl⟩
  have HW : Hid (Below w.heap.size w W1) := by subst hW1; exact bl_one _ _
  have CV : Hid (Cells W1 w.heap.size [.string code, .slice a1 l1 c1, .slice a2 l2 c2, .slice a3 l3 c3]) := fun j u hu => by subst hW1; exact cell_last rfl (by simpa using hu)
  have H2 : Hid _ := h2.below HW.out
  have H3 : Hid _ := h3.below HW.out
  clear h h1 h2 h3 hz hcs
  have r0 : W1.cell? ⟨w.heap.size, 0, none⟩ = _ := CV.out 0 _ rfl
  have r1 : W1.cell? ⟨w.heap.size, 1, none⟩ = _ := CV.out 1 _ rfl
  have r2 : W1.cell? ⟨w.heap.size, 2, none⟩ = _ := CV.out 2 _ rfl
  have r3 : W1.cell? ⟨w.heap.size, 3, none⟩ = _ := CV.out 3 _ rfl
  go_enter Try.func25, Try.ntmps25
  by_cases hc : code.size ≤ 65536
  rotate_left
  · have hd : decide ((65536 : Int) < code.size) = true := decide_eq_true (by omega)
    have HNO : Hid _ := HZN.out (by omega)
    go_wp2
    go_ret
    exact ⟨by rw [HNO.out]; rfl, HW.out⟩
  have hd : decide ((65536 : Int) < code.size) = false := decide_eq_false (by omega)
  by_cases hdl : l1 ≤ 4096
  rotate_left
  · have hd' : decide ((4096 : Int) < l1) = true := decide_eq_true (by omega)
    have HNO : Hid _ := HZN.out (by omega)
    go_wp2
    go_ret
    exact ⟨by rw [HNO.out]; rfl, HW.out⟩
  have hd' : decide ((4096 : Int) < l1) = false := decide_eq_false (by omega)
  subst hn1
  go_wp2_with fail
  refine (rsyms_any code.size data.length H2.out).mono ?_
  rintro e x1 ⟨rfl, hx1⟩
  have HX1 : Hid _ := hx1
  have HXW : Hid (Below w.heap.size w x1) := HW.out.trans (hx1.mono HW.out.size)
  clear r0 r1 r2 r3 hx1
  cases hso : symsOk code.size data.length syms with
  | false =>
    have HNO : Hid _ := HZN.out (by rw [hso]; simp)
    clear hso
    go_wp2
    go_ret
    exact ⟨by rw [HNO.out]; rfl, HXW.out⟩
  | true =>
  have HZ : Hid _ := HZI.out hc hdl hso
  have HZ8 : Hid (¬ rels.length ≤ 8000 → z = false) := fun hn => HZN.out (fun hh => hn hh.2.2.2)
  clear hso
  have r3 := cell_thru HX1.out (CV.out 3 _ rfl)
  by_cases hl : l3 ≤ 8000
  rotate_left
  · have hd2 : decide ((8000 : Int) < l3) = true := decide_eq_true (by omega)
    have HNO : Hid _ := HZ8.out (by omega)
    go_wp2
    go_ret
    exact ⟨by rw [HNO.out]; rfl, HXW.out⟩
  have hd2 : decide ((8000 : Int) < l3) = false := decide_eq_false (by omega)
  have HA : Hid _ := H3.out.below HX1.out
  have CX : Hid (Cells x1 w.heap.size [.string code, .slice a1 data.length c1, .slice a2 l2 c2, .slice a3 l3 c3]) := fun j u hu => cell_thru HX1.out (CV.out j u hu)
  go_wp2_with fail
  clear r3 H2 H3 CV HX1 HZN HZI HZ8
  go_loopg [3, 4] l3 (fun r fv iv wq => ∃ (k : Nat) (fr : Int), fv = .int .i64 fr ∧ iv = .int .i64 k ∧ k ≤ l3 ∧ l3 - k ≤ r ∧ Hid (fr = freeAt rels k) ∧ 0 ≤ fr ∧ fr ≤ 70000 ∧ Hid (∀ i, i < k → relOk code.size (freeAt rels i) (rels.getD i noRel) = true) ∧ Hid (Below x1.heap.size x1 wq))
  case atStart => exact ⟨0, 0, rfl, rfl, Nat.zero_le _, by omega, (rfl : (0 : Int) = freeAt rels 0), by decide, by decide, (fun i hi => by omega : ∀ i, i < 0 → relOk code.size (freeAt rels i) (rels.getD i noRel) = true), Below.refl _ _⟩
  case round =>
    obtain ⟨k, fr, rfl, rfl, hk, hr, HFR, hf0, hf1, HAL, HBL⟩ := hrel
    have t0 := cell_thru HBL.out (CX.out 0 _ rfl)
    have t3 := cell_thru HBL.out (CX.out 3 _ rfl)
    have HBW : Hid (Below w.heap.size w wr) := HXW.out.trans (HBL.out.mono HXW.out.size)
    by_cases hlt : k < l3
    · rcases HA.out.cells with h0 | ⟨b, off, hA, hc'⟩
      · omega
      obtain ⟨k0, k1, k2, k3⟩ := hc' k hlt
      have hbl : b < x1.heap.size := World.block_lt_of_cell? x1 ⟨b, off + k * 4, none⟩ k0
      have q0 := (HBL.out.cell (p := ⟨b, off + k * 4, none⟩) hbl).trans k0
      have q1 := (HBL.out.cell (p := ⟨b, off + k * 4 + 1, none⟩) hbl).trans k1
      have q2 := (HBL.out.cell (p := ⟨b, off + k * 4 + 2, none⟩) hbl).trans k2
      have q3 := (HBL.out.cell (p := ⟨b, off + k * 4 + 3, none⟩) hbl).trans k3
      have HNOT : Hid (∀ {r : Rel}, rels.getD k noRel = r → relOk code.size fr r = false → z = false) := fun e1 e2 => by rw [HZ.out]; exact rels_no (k := k) (by omega) (by rw [e1, ← HFR.out]; exact e2)
      have HYES : Hid (∀ {r : Rel}, rels.getD k noRel = r → relOk code.size fr r = true → ∀ i, i < k + 1 → relOk code.size (freeAt rels i) (rels.getD i noRel) = true) := fun e1 e2 i hi => by
        by_cases hik : i = k
        · rw [hik, e1, ← HFR.out]; exact e2
        · exact HAL.out i (by omega)
      have HFX : Hid (∀ {r : Rel}, rels.getD k noRel = r → r.pos + 4 = freeAt rels (k + 1)) := fun e => (free_next e).symm
      obtain ⟨⟨xp, xk, xn, xa⟩, hx⟩ : ∃ x, rels.getD k noRel = x := ⟨_, rfl⟩
      rw [hx] at q0 q1 q2 q3
      simp only at q0 q1 q2 q3
      have HNO : Hid (relOk code.size fr ⟨xp, xk, xn, xa⟩ = false → z = false) := HNOT.out hx
      have HYE : Hid _ := HYES.out hx
      have HFN : Hid (xp + 4 = freeAt rels (k + 1)) := HFX.out hx
      subst hA
      have hii : (k : Int) < l3 := by omega
      have hin : 0 ≤ (k : Int) := by omega
      clear hc' k0 k1 k2 k3 hx HNOT HYES HFX
      have HBY : Hid (Below w.heap.size w (wr.alloc (.cells #[.int .i64 xp, .int .i64 xk, .string xn, .int .i64 xa] 45))) := HBW.out.trans ((bl_one wr _).mono HBW.out.size)
      have HBZ : Hid (Below x1.heap.size x1 (wr.alloc (.cells #[.int .i64 xp, .int .i64 xk, .string xn, .int .i64 xa] 45))) := HBL.out.trans ((bl_one wr _).mono HBL.out.size)
      have hwz : w.heap.size < wr.heap.size := by have := World.block_lt_of_cell? wr ⟨w.heap.size, 0, none⟩ t0; exact this
      cases hnk : nameOk xn with
      | false =>
        have HNM : Hid _ := hnk
        have HZF : Hid (z = false) := HNO.out (relOk_no1 hnk)
        clear hnk
        go_wp2_with (go_at_call 38; refine (named_any _ _).mono ?_; rintro e y ⟨rfl, rfl⟩; rw [HNM.out])
        go_ret
        exact ⟨by rw [HZF.out]; rfl, HBY.out⟩
      | true =>
      have HNM : Hid _ := hnk
      clear hnk
      by_cases g1 : xp < fr
      · have d1 : decide (xp < fr) = true := decide_eq_true g1
        have HZF : Hid (z = false) := HNO.out (relOk_no2 (by simp only; omega))
        go_wp2_with (go_at_call 38; refine (named_any _ _).mono ?_; rintro e y ⟨rfl, rfl⟩; rw [HNM.out])
        go_ret
        exact ⟨by rw [HZF.out]; rfl, HBY.out⟩
      have d1 : decide (xp < fr) = false := decide_eq_false g1
      by_cases g2 : (code.size : Int) - 4 < xp
      · have d2 : decide ((code.size : Int) - 4 < xp) = true := decide_eq_true g2
        have HZF : Hid (z = false) := HNO.out (relOk_no2 (by simp only; omega))
        go_wp2_with (go_at_call 38; refine (named_any _ _).mono ?_; rintro e y ⟨rfl, rfl⟩; rw [HNM.out])
        go_ret
        exact ⟨by rw [HZF.out]; rfl, HBY.out⟩
      have d2 : decide ((code.size : Int) - 4 < xp) = false := decide_eq_false g2
      by_cases g3 : xk = 1
      · subst g3
        by_cases g4 : xa = 0
        · subst g4
          have HGO : Hid _ := HYE.out (relOk_yes HNM.out ⟨by simp only; omega, by simp only; omega⟩ (by rw [addOk_jump]; exact decide_eq_true rfl))
          go_wp2_with (go_at_call 38; refine (named_any _ _).mono ?_; rintro e y ⟨rfl, rfl⟩; rw [HNM.out])
          go_roundg (l3 - (k + 1))
          case measure => omega
          case rel => exact ⟨k + 1, xp + 4, by first | rfl | (congr 1; omega), by first | rfl | (congr 1; omega), by omega, Nat.le_refl _, HFN.out, by omega, by omega, HGO.out, HBZ.out⟩
        have d4 : (xa == 0) = false := beq_eq_false_iff_ne.2 g4
        have HZF : Hid (z = false) := HNO.out (relOk_no3 (by rw [addOk_jump]; exact decide_eq_false g4))
        go_wp2_with (go_at_call 38; refine (named_any _ _).mono ?_; rintro e y ⟨rfl, rfl⟩; rw [HNM.out])
        go_ret
        exact ⟨by rw [HZF.out]; rfl, HBY.out⟩
      have d3 : (xk == 1) = false := beq_eq_false_iff_ne.2 g3
      by_cases g5 : xk = 2
      · subst g5
        by_cases g6 : -2147483648 ≤ xa
        · have d6 : decide (-2147483648 ≤ xa) = true := decide_eq_true g6
          by_cases g7 : xa ≤ 2147483647
          · have d7 : decide (xa ≤ 2147483647) = true := decide_eq_true g7
            have HGO : Hid _ := HYE.out (relOk_yes HNM.out ⟨by simp only; omega, by simp only; omega⟩ (by rw [addOk_addr, d6, d7]; rfl))
            go_wp2_with (go_at_call 38; refine (named_any _ _).mono ?_; rintro e y ⟨rfl, rfl⟩; rw [HNM.out])
            go_roundg (l3 - (k + 1))
            case measure => omega
            case rel => exact ⟨k + 1, xp + 4, by first | rfl | (congr 1; omega), by first | rfl | (congr 1; omega), by omega, Nat.le_refl _, HFN.out, by omega, by omega, HGO.out, HBZ.out⟩
          have d7 : decide (xa ≤ 2147483647) = false := decide_eq_false g7
          have HZF : Hid (z = false) := HNO.out (relOk_no3 (by rw [addOk_addr, d7, Bool.and_false]))
          go_wp2_with (go_at_call 38; refine (named_any _ _).mono ?_; rintro e y ⟨rfl, rfl⟩; rw [HNM.out])
          go_ret
          exact ⟨by rw [HZF.out]; rfl, HBY.out⟩
        have d6 : decide (-2147483648 ≤ xa) = false := decide_eq_false g6
        have HZF : Hid (z = false) := HNO.out (relOk_no3 (by rw [addOk_addr, d6, Bool.false_and]))
        go_wp2_with (go_at_call 38; refine (named_any _ _).mono ?_; rintro e y ⟨rfl, rfl⟩; rw [HNM.out])
        go_ret
        exact ⟨by rw [HZF.out]; rfl, HBY.out⟩
      have d5 : (xk == 2) = false := beq_eq_false_iff_ne.2 g5
      have HZF : Hid (z = false) := HNO.out (relOk_no3 (addOk_else g3 g5))
      go_wp2_with (go_at_call 38; refine (named_any _ _).mono ?_; rintro e y ⟨rfl, rfl⟩; rw [HNM.out])
      go_ret
      exact ⟨by rw [HZF.out]; rfl, HBY.out⟩
    · obtain rfl : k = l3 := by omega
      have HYA : Hid (z = true) := by
        show _ = _
        rw [HZ.out]
        unfold relsOk
        rw [show decide (rels.length ≤ 8000) = true by simp; omega, all_range_yes (fun i hi => HAL.out i (by omega))]
        rfl
      go_wp2_with fail
      go_ret
      exact ⟨by rw [HYA.out]; rfl, HBW.out⟩

end Go.Proofs.Ytaoklmphcgigeaa

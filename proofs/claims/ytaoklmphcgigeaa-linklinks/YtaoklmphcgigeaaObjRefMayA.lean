/- What the document's named, Syms, May and Check come to. (Written by gen_rmay.py.) -/
import Derived.Test.YtaoklmphcgigeaaObjSame
namespace Go.Proofs.Ytaoklmphcgigeaa
open Go.RowKit Go.Maps Go.Lib
set_option linter.unusedVariables false

set_option maxRecDepth 100000 in
theorem named_any (s : ByteArray) (w : World) : Calls Try.prog 38 #[.string s] w fun e w' => e = .returned (.bool (nameOk s)) ∧ w' = w := by
  have HD : Hid (nameOk s = (decide ((1 : Int) ≤ s.size) && decide ((s.size : Int) ≤ 28))) := by
    show _ = _
    unfold nameOk
    congr 1 <;> exact decide_eq_decide.2 (by omega)
  go_enter Try.func38, Try.ntmps38
  by_cases h1 : 1 ≤ s.size
  · by_cases h2 : s.size ≤ 28
    · have d1 : decide ((1 : Int) ≤ s.size) = true := decide_eq_true (by omega)
      have d2 : decide ((s.size : Int) ≤ 28) = true := decide_eq_true (by omega)
      go_wp2
      go_ret
      exact ⟨by rw [HD.out, d1, d2]; rfl, rfl⟩
    · have d1 : decide ((1 : Int) ≤ s.size) = true := decide_eq_true (by omega)
      have d2 : decide ((s.size : Int) ≤ 28) = false := decide_eq_false (by omega)
      go_wp2
      go_ret
      exact ⟨by rw [HD.out, d1, d2]; rfl, rfl⟩
  · have d1 : decide ((1 : Int) ≤ s.size) = false := decide_eq_false (by omega)
    go_wp2
    go_ret
    exact ⟨by rw [HD.out, d1]; rfl, rfl⟩

theorem room_none {cl dl : Nat} {k : Int} (h : k < 1 ∨ 3 < k) : roomOf cl dl k = 0 := by unfold roomOf; rw [if_neg (by omega), if_neg (by omega)]
theorem room_code {cl dl : Nat} {k : Int} (h : k = 1 ∨ k = 3) : roomOf cl dl k = cl := by unfold roomOf; rw [if_pos h]
theorem room_data (cl dl : Nat) : roomOf cl dl 2 = dl := by unfold roomOf; rw [if_neg (by omega), if_pos rfl]
theorem dec_no {x r : Int} (h : ¬ (0 ≤ x ∧ x < r)) : (decide (0 ≤ x) && decide (x < r)) = false := by
  rw [Bool.and_eq_false_iff, decide_eq_false_iff_not, decide_eq_false_iff_not]
  omega
theorem dec_yes {x r : Int} (h : 0 ≤ x ∧ x < r) : (decide (0 ≤ x) && decide (x < r)) = true := by
  rw [decide_eq_true h.1, decide_eq_true h.2]
  rfl
theorem symAt_parts (cl dl : Nat) (ss : List Sym) (k : Nat) {nm : ByteArray} {kd ps : Int} (h : ss.getD k noSym = ⟨nm, kd, ps⟩) :
    (symOk cl dl ⟨nm, kd, ps⟩ = false → symAt cl dl ss k = false) ∧ (∀ j, j < k → (ss.getD j noSym).name = nm → symAt cl dl ss k = false) ∧ (symOk cl dl ⟨nm, kd, ps⟩ = true → (∀ j, j < k → (ss.getD j noSym).name ≠ nm) → symAt cl dl ss k = true) := by
  unfold symAt
  rw [h]
  refine ⟨fun e => by rw [e, Bool.and_false], fun j hj e => ?_, fun e hall => ?_⟩
  · rw [all_range_no hj (by simpa using e), Bool.false_and]
  · rw [e, Bool.and_true]
    exact all_range_yes (fun j hj => by simpa using hall j hj)
theorem syms_not {cl dl : Nat} {ss : List Sym} {k : Nat} (hk : k < ss.length) (h : symAt cl dl ss k = false) : symsOk cl dl ss = false := by
  unfold symsOk
  rw [all_range_no hk h, Bool.and_false]

set_option maxRecDepth 100000 in
set_option maxHeartbeats 8000000 in
theorem rsyms_any {w : World} {a : Option Addr} {l c : Nat} {ss : List Sym} (cl dl : Nat) (h : SymsV w a l c ss) :
    Calls Try.prog 37 #[.slice a l c, .int .i64 cl, .int .i64 dl] w fun e w' => e = .returned (.bool (symsOk cl dl ss)) ∧ Below w.heap.size w w' := by
  have HV : Hid _ := h
  have hcnt := h.count
  clear h
  go_enter Try.func37, Try.ntmps37
  by_cases hl : l ≤ 1000
  rotate_left
  · have hd : decide ((1000 : Int) < l) = true := decide_eq_true (by omega)
    have HNO : Hid (symsOk cl dl ss = false) := by show _ = _; unfold symsOk; rw [decide_eq_false (by omega), Bool.false_and]
    go_wp2
    go_ret
    exact ⟨by rw [HNO.out]; rfl, Below.refl _ _⟩
  have hd : decide ((1000 : Int) < l) = false := decide_eq_false (by omega)
  go_wp2_with fail
  go_loopg [7] l (fun r iv wq => ∃ (k : Nat), iv = .int .i64 k ∧ k ≤ l ∧ l - k ≤ r ∧ Hid (∀ i, i < k → symAt cl dl ss i = true) ∧ Hid (Below w.heap.size w wq))
  case atStart => exact ⟨0, rfl, Nat.zero_le _, by omega, (fun i hi => by omega : ∀ i, i < 0 → symAt cl dl ss i = true), Below.refl _ _⟩
  case round =>
    obtain ⟨k, rfl, hk, hr, HAL, HBL⟩ := hrel
    by_cases hlt : k < l
    · rcases HV.out.cells with h0 | ⟨b, off, hA, hc⟩
      · omega
      obtain ⟨k0, k1, k2⟩ := hc k hlt
      have hbl : b < w.heap.size := World.block_lt_of_cell? w ⟨b, off + k * 3, none⟩ k0
      have q0 := (HBL.out.cell (p := ⟨b, off + k * 3, none⟩) hbl).trans k0
      have q1 := (HBL.out.cell (p := ⟨b, off + k * 3 + 1, none⟩) hbl).trans k1
      have q2 := (HBL.out.cell (p := ⟨b, off + k * 3 + 2, none⟩) hbl).trans k2
      have HCN : Hid (∀ j, j < l → w.cell? ⟨b, off + j * 3, none⟩ = some (.string (ss.getD j noSym).name)) := fun j hj => (hc j hj).1
      obtain ⟨⟨xn, xk, xp⟩, hx⟩ : ∃ x, ss.getD k noSym = x := ⟨_, rfl⟩
      rw [hx] at q0 q1 q2
      simp only at q0 q1 q2
      have HPT : Hid _ := symAt_parts cl dl ss k hx
      have HKL : Hid (k < ss.length) := by show k < _; omega
      subst hA
      have hii : (k : Int) < l := by omega
      have hin : 0 ≤ (k : Int) := by omega
      clear hc k0 k1 k2 hx
      have HBY : Hid (Below w.heap.size w (wr.alloc (.cells #[.string xn, .int .i64 xk, .int .i64 xp] 36))) := HBL.out.trans ((bl_one wr _).mono HBL.out.size)
      have HOK : Hid (symOk cl dl ⟨xn, xk, xp⟩ = (nameOk xn && (decide (0 ≤ xp) && decide (xp < roomOf cl dl xk)))) := rfl
      cases hnk : nameOk xn with
      | false =>
        have HNM : Hid _ := hnk
        have HNO : Hid (symsOk cl dl ss = false) := syms_not HKL.out (HPT.out.1 (by rw [HOK.out, hnk, Bool.false_and]))
        clear hnk
        go_wp2_with (go_at_call 38; refine (named_any _ _).mono ?_; rintro e y ⟨rfl, rfl⟩; rw [HNM.out])
        go_ret
        exact ⟨by rw [HNO.out]; rfl, HBY.out⟩
      | true =>
      have HNM : Hid _ := hnk
      rw [hnk, Bool.true_and] at HOK
      clear hnk
      by_cases g1 : xk < 1
      · have d1 : decide (xk < 1) = true := decide_eq_true g1
        have HNO : Hid (symsOk cl dl ss = false) := syms_not HKL.out (HPT.out.1 (by rw [HOK.out, room_none (by omega)]; exact dec_no (by omega)))
        go_wp2_with (go_at_call 38; refine (named_any _ _).mono ?_; rintro e y ⟨rfl, rfl⟩; rw [HNM.out])
        go_ret
        exact ⟨by rw [HNO.out]; rfl, HBY.out⟩
      have d1 : decide (xk < 1) = false := decide_eq_false g1
      by_cases g2 : 3 < xk
      · have d2 : decide (3 < xk) = true := decide_eq_true g2
        have HNO : Hid (symsOk cl dl ss = false) := syms_not HKL.out (HPT.out.1 (by rw [HOK.out, room_none (by omega)]; exact dec_no (by omega)))
        go_wp2_with (go_at_call 38; refine (named_any _ _).mono ?_; rintro e y ⟨rfl, rfl⟩; rw [HNM.out])
        go_ret
        exact ⟨by rw [HNO.out]; rfl, HBY.out⟩
      have d2 : decide (3 < xk) = false := decide_eq_false g2
      by_cases g3 : xp < 0
      · have d3 : decide (xp < 0) = true := decide_eq_true g3
        have HNO : Hid (symsOk cl dl ss = false) := syms_not HKL.out (HPT.out.1 (by rw [HOK.out]; exact dec_no (by omega)))
        go_wp2_with (go_at_call 38; refine (named_any _ _).mono ?_; rintro e y ⟨rfl, rfl⟩; rw [HNM.out])
        go_ret
        exact ⟨by rw [HNO.out]; rfl, HBY.out⟩
      have d3 : decide (xp < 0) = false := decide_eq_false g3
      by_cases g4 : xk = 2
      · subst g4
        by_cases g5 : (dl : Int) ≤ xp
        · have d5 : decide ((dl : Int) ≤ xp) = true := decide_eq_true g5
          have HNO : Hid (symsOk cl dl ss = false) := syms_not HKL.out (HPT.out.1 (by rw [HOK.out, room_data]; exact dec_no (by omega)))
          go_wp2_with (go_at_call 38; refine (named_any _ _).mono ?_; rintro e y ⟨rfl, rfl⟩; rw [HNM.out])
          go_ret
          exact ⟨by rw [HNO.out]; rfl, HBY.out⟩
        have d5 : decide ((dl : Int) ≤ xp) = false := decide_eq_false g5
        have HYES : Hid (symOk cl dl ⟨xn, 2, xp⟩ = true) := by show _ = _; rw [HOK.out, room_data]; exact dec_yes (by omega)
        go_wp2_with (go_at_call 38; refine (named_any _ _).mono ?_; rintro e y ⟨rfl, rfl⟩; rw [HNM.out])
        obtain ⟨Y1, hY1⟩ : ∃ Y, wr.alloc (.cells #[.string xn, .int .i64 2, .int .i64 xp] 36) = Y := ⟨_, rfl⟩
        have g0 : Y1.cell? ⟨wr.heap.size, 0, none⟩ = some (.string xn) := by subst hY1; exact cell_last rfl rfl
        have HBY1 : Hid (Below w.heap.size w Y1) := by subst hY1; exact HBY.out
        rw [hY1]
        clear q0 q1 q2 HBL HBY hY1
        generalize hzb : wr.heap.size = zb at *
        clear hzb
        go_loopg [9] k (fun r jv wq => ∃ (j : Nat), jv = .int .i64 j ∧ j ≤ k ∧ k - j ≤ r ∧ Hid (∀ i, i < j → (ss.getD i noSym).name ≠ xn) ∧ Hid (Below Y1.heap.size Y1 wq))
        case atStart => exact ⟨0, rfl, Nat.zero_le _, by omega, (fun i hi => by omega : ∀ i, i < 0 → (ss.getD i noSym).name ≠ xn), Below.refl _ _⟩
        case round =>
          obtain ⟨j, rfl, hj, hr2, HNE, HBI⟩ := hrel
          have HBW : Hid (Below w.heap.size w wr) := HBY1.out.trans (HBI.out.mono HBY1.out.size)
          by_cases hlj : j < k
          · have q0 := (HBW.out.cell (p := ⟨b, off + j * 3, none⟩) hbl).trans (HCN.out j (by omega))
            have g1' := cell_thru HBI.out g0
            have HDU : Hid (∀ {y : ByteArray}, (ss.getD j noSym).name = y → y = xn → symsOk cl dl ss = false) := fun h1 h2 => syms_not HKL.out (HPT.out.2.1 j hlj (h1.trans h2))
            have HNX : Hid (∀ {y : ByteArray}, (ss.getD j noSym).name = y → ¬ y = xn → ∀ i, i < j + 1 → (ss.getD i noSym).name ≠ xn) := fun h1 h2 i hi => by
              by_cases hij : i = j
              · rw [hij, h1]; exact h2
              · exact HNE.out i (by omega)
            obtain ⟨yn, hyn⟩ : ∃ y, (ss.getD j noSym).name = y := ⟨_, rfl⟩
            rw [hyn] at q0
            have HYN : Hid _ := hyn
            have hji : (j : Int) < l := by omega
            have hjk : (j : Int) < k := by omega
            have hjn : 0 ≤ (j : Int) := by omega
            clear hyn
            by_cases he : yn = xn
            · have HNO : Hid _ := HDU.out HYN.out he
              subst he
              go_wp2_with fail
              go_quiet (fail)
              go_wp2
              go_ret
              exact ⟨by rw [HNO.out]; rfl, bl_drewN HBW.out _⟩
            · have HN2 : Hid _ := HNX.out HYN.out he
              have hde := toList_ne he
              clear he
              go_wp2_with fail
              go_quiet (fail)
              go_wp2_with fail
              go_roundg (k - (j + 1))
              case measure => omega
              case rel => exact ⟨j + 1, by first | rfl | (congr 1; omega), by omega, Nat.le_refl _, HN2.out, bl_drewN HBI.out _⟩
          · obtain rfl : j = k := by omega
            have HALN : Hid (∀ i, i < j + 1 → symAt cl dl ss i = true) := fun i hi => by
              by_cases hij : i = j
              · rw [hij]; exact HPT.out.2.2 HYES.out HNE.out
              · exact HAL.out i (by omega)
            have hjn : ¬ (j : Int) < j := by omega
            go_wp2_with fail
            go_roundg (l - (j + 1))
            case measure => omega
            case rel => exact ⟨j + 1, by first | rfl | (congr 1; omega), by omega, Nat.le_refl _, HALN.out, HBW.out⟩
      · have d4 : (xk == 2) = false := beq_eq_false_iff_ne.2 g4
        have d4' : (xk != 2) = true := by simp [g4]
        have g13 : xk = 1 ∨ xk = 3 := by omega
        by_cases g5 : (cl : Int) ≤ xp
        · have d5 : decide ((cl : Int) ≤ xp) = true := decide_eq_true g5
          have HNO : Hid (symsOk cl dl ss = false) := syms_not HKL.out (HPT.out.1 (by rw [HOK.out, room_code g13]; exact dec_no (by omega)))
          clear g13
          go_wp2_with (go_at_call 38; refine (named_any _ _).mono ?_; rintro e y ⟨rfl, rfl⟩; rw [HNM.out])
          go_ret
          exact ⟨by rw [HNO.out]; rfl, HBY.out⟩
        have d5 : decide ((cl : Int) ≤ xp) = false := decide_eq_false g5
        have HYES : Hid (symOk cl dl ⟨xn, xk, xp⟩ = true) := by show _ = _; rw [HOK.out, room_code g13]; exact dec_yes (by omega)
        clear g13
        go_wp2_with (go_at_call 38; refine (named_any _ _).mono ?_; rintro e y ⟨rfl, rfl⟩; rw [HNM.out])
        obtain ⟨Y1, hY1⟩ : ∃ Y, wr.alloc (.cells #[.string xn, .int .i64 xk, .int .i64 xp] 36) = Y := ⟨_, rfl⟩
        have g0 : Y1.cell? ⟨wr.heap.size, 0, none⟩ = some (.string xn) := by subst hY1; exact cell_last rfl rfl
        have HBY1 : Hid (Below w.heap.size w Y1) := by subst hY1; exact HBY.out
        rw [hY1]
        clear q0 q1 q2 HBL HBY hY1
        generalize hzb : wr.heap.size = zb at *
        clear hzb
        go_loopg [9] k (fun r jv wq => ∃ (j : Nat), jv = .int .i64 j ∧ j ≤ k ∧ k - j ≤ r ∧ Hid (∀ i, i < j → (ss.getD i noSym).name ≠ xn) ∧ Hid (Below Y1.heap.size Y1 wq))
        case atStart => exact ⟨0, rfl, Nat.zero_le _, by omega, (fun i hi => by omega : ∀ i, i < 0 → (ss.getD i noSym).name ≠ xn), Below.refl _ _⟩
        case round =>
          obtain ⟨j, rfl, hj, hr2, HNE, HBI⟩ := hrel
          have HBW : Hid (Below w.heap.size w wr) := HBY1.out.trans (HBI.out.mono HBY1.out.size)
          by_cases hlj : j < k
          · have q0 := (HBW.out.cell (p := ⟨b, off + j * 3, none⟩) hbl).trans (HCN.out j (by omega))
            have g1' := cell_thru HBI.out g0
            have HDU : Hid (∀ {y : ByteArray}, (ss.getD j noSym).name = y → y = xn → symsOk cl dl ss = false) := fun h1 h2 => syms_not HKL.out (HPT.out.2.1 j hlj (h1.trans h2))
            have HNX : Hid (∀ {y : ByteArray}, (ss.getD j noSym).name = y → ¬ y = xn → ∀ i, i < j + 1 → (ss.getD i noSym).name ≠ xn) := fun h1 h2 i hi => by
              by_cases hij : i = j
              · rw [hij, h1]; exact h2
              · exact HNE.out i (by omega)
            obtain ⟨yn, hyn⟩ : ∃ y, (ss.getD j noSym).name = y := ⟨_, rfl⟩
            rw [hyn] at q0
            have HYN : Hid _ := hyn
            have hji : (j : Int) < l := by omega
            have hjk : (j : Int) < k := by omega
            have hjn : 0 ≤ (j : Int) := by omega
            clear hyn
            by_cases he : yn = xn
            · have HNO : Hid _ := HDU.out HYN.out he
              subst he
              go_wp2_with fail
              go_quiet (fail)
              go_wp2
              go_ret
              exact ⟨by rw [HNO.out]; rfl, bl_drewN HBW.out _⟩
            · have HN2 : Hid _ := HNX.out HYN.out he
              have hde := toList_ne he
              clear he
              go_wp2_with fail
              go_quiet (fail)
              go_wp2_with fail
              go_roundg (k - (j + 1))
              case measure => omega
              case rel => exact ⟨j + 1, by first | rfl | (congr 1; omega), by omega, Nat.le_refl _, HN2.out, bl_drewN HBI.out _⟩
          · obtain rfl : j = k := by omega
            have HALN : Hid (∀ i, i < j + 1 → symAt cl dl ss i = true) := fun i hi => by
              by_cases hij : i = j
              · rw [hij]; exact HPT.out.2.2 HYES.out HNE.out
              · exact HAL.out i (by omega)
            have hjn : ¬ (j : Int) < j := by omega
            go_wp2_with fail
            go_roundg (l - (j + 1))
            case measure => omega
            case rel => exact ⟨j + 1, by first | rfl | (congr 1; omega), by omega, Nat.le_refl _, HALN.out, HBW.out⟩
    · obtain rfl : k = l := by omega
      have HYA : Hid (symsOk cl dl ss = true) := by
        show _ = _
        unfold symsOk
        rw [show decide (ss.length ≤ 1000) = true by simp; omega, all_range_yes (fun i hi => HAL.out i (by omega))]
        rfl
      go_wp2_with fail
      go_ret
      exact ⟨by rw [HYA.out]; rfl, HBL.out⟩

end Go.Proofs.Ytaoklmphcgigeaa

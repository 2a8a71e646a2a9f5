/- What the document's named, Syms, May and Check come to. (Written by gen_rmay.py.) -/
import Derived.Test.YtmplnkfjaeegdaaDoorPObjE
import Derived.Test.YtmplnkfjaeegdaaDoorPWord
import Derived.BigQuiet
namespace Go.Proofs.YtmplnkfjaeegdaaDoor
set_option maxRecDepth 100000
open Go.RowKit Go.Maps Go.Lib
set_option linter.unusedVariables false

set_option maxRecDepth 100000 in
theorem named_any (s : ByteArray) (w : World) : Calls Tryd.prog 76 #[.string s] w fun e w' => e = .returned (.bool (nameOk s)) ∧ w' = w := by
  have HD : Hid (nameOk s = (decide ((1 : Int) ≤ s.size) && decide ((s.size : Int) ≤ 28))) := by
    show _ = _
    unfold nameOk
    congr 1 <;> exact decide_eq_decide.2 (by omega)
  go_enter Tryd.func76, Tryd.ntmps76
  by_cases h1 : 1 ≤ s.size
  · by_cases h2 : s.size ≤ 28
    · have d1 : decide ((1 : Int) ≤ s.size) = true := decide_eq_true (by omega)
      have d2 : decide ((s.size : Int) ≤ 28) = true := decide_eq_true (by omega)
      go_wp2
      go_ret
      exact ⟨by rw [HD.out, d1, d2]; rfl, rfl⟩
    · have d1 : decide ((1 : Int) ≤ s.size) = true := decide_eq_true (by omega)
      have d2 : decide ((s.size : Int) ≤ 28) = false := decide_eq_false (by omega)
      go_wp2
      go_ret
      exact ⟨by rw [HD.out, d1, d2]; rfl, rfl⟩
  · have d1 : decide ((1 : Int) ≤ s.size) = false := decide_eq_false (by omega)
    go_wp2
    go_ret
    exact ⟨by rw [HD.out, d1]; rfl, rfl⟩

theorem room_none {cl dl : Nat} {k : Int} (h : k < 1 ∨ 3 < k) : roomOf cl dl k = 0 := by unfold roomOf; rw [if_neg (by omega), if_neg (by omega)]
theorem room_code {cl dl : Nat} {k : Int} (h : k = 1 ∨ k = 3) : roomOf cl dl k = cl := by unfold roomOf; rw [if_pos h]
theorem room_data (cl dl : Nat) : roomOf cl dl 2 = dl := by unfold roomOf; rw [if_neg (by omega), if_pos rfl]
theorem dec_no {x r : Int} (h : ¬ (0 ≤ x ∧ x < r)) : (decide (0 ≤ x) && decide (x < r)) = false := by
  rw [Bool.and_eq_false_iff, decide_eq_false_iff_not, decide_eq_false_iff_not]
  omega
theorem dec_yes {x r : Int} (h : 0 ≤ x ∧ x < r) : (decide (0 ≤ x) && decide (x < r)) = true := by
  rw [decide_eq_true h.1, decide_eq_true h.2]
  rfl
theorem symAt_parts (cl dl : Nat) (ss : List Sym) (k : Nat) {nm : ByteArray} {kd ps : Int} (h : ss.getD k noSym = ⟨nm, kd, ps⟩) :
    (symOk cl dl ⟨nm, kd, ps⟩ = false → symAt cl dl ss k = false) ∧ (∀ j, j < k → (ss.getD j noSym).name = nm → symAt cl dl ss k = false) ∧ (symOk cl dl ⟨nm, kd, ps⟩ = true → (∀ j, j < k → (ss.getD j noSym).name ≠ nm) → symAt cl dl ss k = true) := by
  unfold symAt
  rw [h]
  refine ⟨fun e => by rw [e, Bool.and_false], fun j hj e => ?_, fun e hall => ?_⟩
  · rw [all_range_no hj (by simpa using e), Bool.false_and]
  · rw [e, Bool.and_true]
    exact all_range_yes (fun j hj => by simpa using hall j hj)
theorem syms_not {cl dl : Nat} {ss : List Sym} {k : Nat} (hk : k < ss.length) (h : symAt cl dl ss k = false) : symsOk cl dl ss = false := by
  unfold symsOk
  rw [all_range_no hk h, Bool.and_false]

set_option maxRecDepth 100000 in
set_option maxHeartbeats 8000000 in
theorem rsyms_any {w : World} {a : Option Addr} {l c : Nat} {ss : List Sym} (cl dl : Nat) (h : SymsV w a l c ss) :
    Calls Tryd.prog 49 #[.slice a l c, .int .i64 cl, .int .i64 dl] w fun e w' => e = .returned (.bool (symsOk cl dl ss)) ∧ Below w.heap.size w w' := by
  have HV : Hid _ := h
  have hcnt := h.count
  clear h
  go_enter Tryd.func49, Tryd.ntmps49
  by_cases hl : l ≤ 1000
  rotate_left
  · have hd : decide ((1000 : Int) < l) = true := decide_eq_true (by omega)
    have HNO : Hid (symsOk cl dl ss = false) := by show _ = _; unfold symsOk; rw [decide_eq_false (by omega), Bool.false_and]
    go_wp2
    go_ret
    exact ⟨by rw [HNO.out]; rfl, Below.refl _ _⟩
  have hd : decide ((1000 : Int) < l) = false := decide_eq_false (by omega)
  go_wp2_with fail
  go_loopg [7] l (fun r iv wq => ∃ (k : Nat), iv = .int .i64 k ∧ k ≤ l ∧ l - k ≤ r ∧ Hid (∀ i, i < k → symAt cl dl ss i = true) ∧ Hid (Below w.heap.size w wq))
  case atStart => exact ⟨0, rfl, Nat.zero_le _, by omega, (fun i hi => by omega : ∀ i, i < 0 → symAt cl dl ss i = true), Below.refl _ _⟩
  case round =>
    obtain ⟨k, rfl, hk, hr, HAL, HBL⟩ := hrel
    by_cases hlt : k < l
    · rcases HV.out.cells with h0 | ⟨b, off, hA, hc⟩
      · omega
      obtain ⟨k0, k1, k2⟩ := hc k hlt
      have hbl : b < w.heap.size := World.block_lt_of_cell? w ⟨b, off + k * 3, none⟩ k0
      have q0 := (HBL.out.cell (p := ⟨b, off + k * 3, none⟩) hbl).trans k0
      have q1 := (HBL.out.cell (p := ⟨b, off + k * 3 + 1, none⟩) hbl).trans k1
      have q2 := (HBL.out.cell (p := ⟨b, off + k * 3 + 2, none⟩) hbl).trans k2
      have HCN : Hid (∀ j, j < l → w.cell? ⟨b, off + j * 3, none⟩ = some (.string (ss.getD j noSym).name)) := fun j hj => (hc j hj).1
      obtain ⟨⟨xn, xk, xp⟩, hx⟩ : ∃ x, ss.getD k noSym = x := ⟨_, rfl⟩
      rw [hx] at q0 q1 q2
      simp only at q0 q1 q2
      have HPT : Hid _ := symAt_parts cl dl ss k hx
      have HKL : Hid (k < ss.length) := by show k < _; omega
      subst hA
      have hii : (k : Int) < l := by omega
      have hin : 0 ≤ (k : Int) := by omega
      clear hc k0 k1 k2 hx
      have HBY : Hid (Below w.heap.size w (wr.alloc (.cells #[.string xn, .int .i64 xk, .int .i64 xp] 66))) := HBL.out.trans ((bl_one wr _).mono HBL.out.size)
      have HOK : Hid (symOk cl dl ⟨xn, xk, xp⟩ = (nameOk xn && (decide (0 ≤ xp) && decide (xp < roomOf cl dl xk)))) := rfl
      cases hnk : nameOk xn with
      | false =>
        have HNM : Hid _ := hnk
        have HNO : Hid (symsOk cl dl ss = false) := syms_not HKL.out (HPT.out.1 (by rw [HOK.out, hnk, Bool.false_and]))
        clear hnk
        go_wp2_with (go_at_call 76; refine (named_any _ _).mono ?_; rintro e y ⟨rfl, rfl⟩; rw [HNM.out])
        go_ret
        exact ⟨by rw [HNO.out]; rfl, HBY.out⟩
      | true =>
      have HNM : Hid _ := hnk
      rw [hnk, Bool.true_and] at HOK
      clear hnk
      by_cases g1 : xk < 1
      · have d1 : decide (xk < 1) = true := decide_eq_true g1
        have HNO : Hid (symsOk cl dl ss = false) := syms_not HKL.out (HPT.out.1 (by rw [HOK.out, room_none (by omega)]; exact dec_no (by omega)))
        go_wp2_with (go_at_call 76; refine (named_any _ _).mono ?_; rintro e y ⟨rfl, rfl⟩; rw [HNM.out])
        go_ret
        exact ⟨by rw [HNO.out]; rfl, HBY.out⟩
      have d1 : decide (xk < 1) = false := decide_eq_false g1
      by_cases g2 : 3 < xk
      · have d2 : decide (3 < xk) = true := decide_eq_true g2
        have HNO : Hid (symsOk cl dl ss = false) := syms_not HKL.out (HPT.out.1 (by rw [HOK.out, room_none (by omega)]; exact dec_no (by omega)))
        go_wp2_with (go_at_call 76; refine (named_any _ _).mono ?_; rintro e y ⟨rfl, rfl⟩; rw [HNM.out])
        go_ret
        exact ⟨by rw [HNO.out]; rfl, HBY.out⟩
      have d2 : decide (3 < xk) = false := decide_eq_false g2
      by_cases g3 : xp < 0
      · have d3 : decide (xp < 0) = true := decide_eq_true g3
        have HNO : Hid (symsOk cl dl ss = false) := syms_not HKL.out (HPT.out.1 (by rw [HOK.out]; exact dec_no (by omega)))
        go_wp2_with (go_at_call 76; refine (named_any _ _).mono ?_; rintro e y ⟨rfl, rfl⟩; rw [HNM.out])
        go_ret
        exact ⟨by rw [HNO.out]; rfl, HBY.out⟩
      have d3 : decide (xp < 0) = false := decide_eq_false g3
      by_cases g4 : xk = 2
      · subst g4
        by_cases g5 : (dl : Int) ≤ xp
        · have d5 : decide ((dl : Int) ≤ xp) = true := decide_eq_true g5
          have HNO : Hid (symsOk cl dl ss = false) := syms_not HKL.out (HPT.out.1 (by rw [HOK.out, room_data]; exact dec_no (by omega)))
          go_wp2_with (go_at_call 76; refine (named_any _ _).mono ?_; rintro e y ⟨rfl, rfl⟩; rw [HNM.out])
          go_ret
          exact ⟨by rw [HNO.out]; rfl, HBY.out⟩
        have d5 : decide ((dl : Int) ≤ xp) = false := decide_eq_false g5
        have HYES : Hid (symOk cl dl ⟨xn, 2, xp⟩ = true) := by show _ = _; rw [HOK.out, room_data]; exact dec_yes (by omega)
        go_wp2_with (go_at_call 76; refine (named_any _ _).mono ?_; rintro e y ⟨rfl, rfl⟩; rw [HNM.out])
        obtain ⟨Y1, hY1⟩ : ∃ Y, wr.alloc (.cells #[.string xn, .int .i64 2, .int .i64 xp] 66) = Y := ⟨_, rfl⟩
        have g0 : Y1.cell? ⟨wr.heap.size, 0, none⟩ = some (.string xn) := by subst hY1; exact cell_last rfl rfl
        have HBY1 : Hid (Below w.heap.size w Y1) := by subst hY1; exact HBY.out
        rw [hY1]
        clear q0 q1 q2 HBL HBY hY1
        generalize hzb : wr.heap.size = zb at *
        clear hzb
        go_loopg [9] k (fun r jv wq => ∃ (j : Nat), jv = .int .i64 j ∧ j ≤ k ∧ k - j ≤ r ∧ Hid (∀ i, i < j → (ss.getD i noSym).name ≠ xn) ∧ Hid (Below Y1.heap.size Y1 wq))
        case atStart => exact ⟨0, rfl, Nat.zero_le _, by omega, (fun i hi => by omega : ∀ i, i < 0 → (ss.getD i noSym).name ≠ xn), Below.refl _ _⟩
        case round =>
          obtain ⟨j, rfl, hj, hr2, HNE, HBI⟩ := hrel
          have HBW : Hid (Below w.heap.size w wr) := HBY1.out.trans (HBI.out.mono HBY1.out.size)
          by_cases hlj : j < k
          · have q0 := (HBW.out.cell (p := ⟨b, off + j * 3, none⟩) hbl).trans (HCN.out j (by omega))
            have g1' := cell_thru HBI.out g0
            have HDU : Hid (∀ {y : ByteArray}, (ss.getD j noSym).name = y → y = xn → symsOk cl dl ss = false) := fun h1 h2 => syms_not HKL.out (HPT.out.2.1 j hlj (h1.trans h2))
            have HNX : Hid (∀ {y : ByteArray}, (ss.getD j noSym).name = y → ¬ y = xn → ∀ i, i < j + 1 → (ss.getD i noSym).name ≠ xn) := fun h1 h2 i hi => by
              by_cases hij : i = j
              · rw [hij, h1]; exact h2
              · exact HNE.out i (by omega)
            obtain ⟨yn, hyn⟩ : ∃ y, (ss.getD j noSym).name = y := ⟨_, rfl⟩
            rw [hyn] at q0
            have HYN : Hid _ := hyn
            have hji : (j : Int) < l := by omega
            have hjk : (j : Int) < k := by omega
            have hjn : 0 ≤ (j : Int) := by omega
            clear hyn
            by_cases he : yn = xn
            · have HNO : Hid _ := HDU.out HYN.out he
              subst he
              go_wp2_with fail
              go_quiet (fail)
              go_wp2
              go_ret
              exact ⟨by rw [HNO.out]; rfl, bl_drewN HBW.out _⟩
            · have HN2 : Hid _ := HNX.out HYN.out he
              have hde := toList_ne he
              clear he
              go_wp2_with fail
              go_quiet (fail)
              go_wp2_with fail
              go_roundg (k - (j + 1))
              case measure => omega
              case rel => exact ⟨j + 1, by first | rfl | (congr 1; omega), by omega, Nat.le_refl _, HN2.out, bl_drewN HBI.out _⟩
          · obtain rfl : j = k := by omega
            have HALN : Hid (∀ i, i < j + 1 → symAt cl dl ss i = true) := fun i hi => by
              by_cases hij : i = j
              · rw [hij]; exact HPT.out.2.2 HYES.out HNE.out
              · exact HAL.out i (by omega)
            have hjn : ¬ (j : Int) < j := by omega
            go_wp2_with fail
            go_roundg (l - (j + 1))
            case measure => omega
            case rel => exact ⟨j + 1, by first | rfl | (congr 1; omega), by omega, Nat.le_refl _, HALN.out, HBW.out⟩
      · have d4 : (xk == 2) = false := beq_eq_false_iff_ne.2 g4
        have d4' : (xk != 2) = true := by simp [g4]
        have g13 : xk = 1 ∨ xk = 3 := by omega
        by_cases g5 : (cl : Int) ≤ xp
        · have d5 : decide ((cl : Int) ≤ xp) = true := decide_eq_true g5
          have HNO : Hid (symsOk cl dl ss = false) := syms_not HKL.out (HPT.out.1 (by rw [HOK.out, room_code g13]; exact dec_no (by omega)))
          clear g13
          go_wp2_with (go_at_call 76; refine (named_any _ _).mono ?_; rintro e y ⟨rfl, rfl⟩; rw [HNM.out])
          go_ret
          exact ⟨by rw [HNO.out]; rfl, HBY.out⟩
        have d5 : decide ((cl : Int) ≤ xp) = false := decide_eq_false g5
        have HYES : Hid (symOk cl dl ⟨xn, xk, xp⟩ = true) := by show _ = _; rw [HOK.out, room_code g13]; exact dec_yes (by omega)
        clear g13
        go_wp2_with (go_at_call 76; refine (named_any _ _).mono ?_; rintro e y ⟨rfl, rfl⟩; rw [HNM.out])
        obtain ⟨Y1, hY1⟩ : ∃ Y, wr.alloc (.cells #[.string xn, .int .i64 xk, .int .i64 xp] 66) = Y := ⟨_, rfl⟩
        have g0 : Y1.cell? ⟨wr.heap.size, 0, none⟩ = some (.string xn) := by subst hY1; exact cell_last rfl rfl
        have HBY1 : Hid (Below w.heap.size w Y1) := by subst hY1; exact HBY.out
        rw [hY1]
        clear q0 q1 q2 HBL HBY hY1
        generalize hzb : wr.heap.size = zb at *
        clear hzb
        go_loopg [9] k (fun r jv wq => ∃ (j : Nat), jv = .int .i64 j ∧ j ≤ k ∧ k - j ≤ r ∧ Hid (∀ i, i < j → (ss.getD i noSym).name ≠ xn) ∧ Hid (Below Y1.heap.size Y1 wq))
        case atStart => exact ⟨0, rfl, Nat.zero_le _, by omega, (fun i hi => by omega : ∀ i, i < 0 → (ss.getD i noSym).name ≠ xn), Below.refl _ _⟩
        case round =>
          obtain ⟨j, rfl, hj, hr2, HNE, HBI⟩ := hrel
          have HBW : Hid (Below w.heap.size w wr) := HBY1.out.trans (HBI.out.mono HBY1.out.size)
          by_cases hlj : j < k
          · have q0 := (HBW.out.cell (p := ⟨b, off + j * 3, none⟩) hbl).trans (HCN.out j (by omega))
            have g1' := cell_thru HBI.out g0
            have HDU : Hid (∀ {y : ByteArray}, (ss.getD j noSym).name = y → y = xn → symsOk cl dl ss = false) := fun h1 h2 => syms_not HKL.out (HPT.out.2.1 j hlj (h1.trans h2))
            have HNX : Hid (∀ {y : ByteArray}, (ss.getD j noSym).name = y → ¬ y = xn → ∀ i, i < j + 1 → (ss.getD i noSym).name ≠ xn) := fun h1 h2 i hi => by
              by_cases hij : i = j
              · rw [hij, h1]; exact h2
              · exact HNE.out i (by omega)
            obtain ⟨yn, hyn⟩ : ∃ y, (ss.getD j noSym).name = y := ⟨_, rfl⟩
            rw [hyn] at q0
            have HYN : Hid _ := hyn
            have hji : (j : Int) < l := by omega
            have hjk : (j : Int) < k := by omega
            have hjn : 0 ≤ (j : Int) := by omega
            clear hyn
            by_cases he : yn = xn
            · have HNO : Hid _ := HDU.out HYN.out he
              subst he
              go_wp2_with fail
              go_quiet (fail)
              go_wp2
              go_ret
              exact ⟨by rw [HNO.out]; rfl, bl_drewN HBW.out _⟩
            · have HN2 : Hid _ := HNX.out HYN.out he
              have hde := toList_ne he
              clear he
              go_wp2_with fail
              go_quiet (fail)
              go_wp2_with fail
              go_roundg (k - (j + 1))
              case measure => omega
              case rel => exact ⟨j + 1, by first | rfl | (congr 1; omega), by omega, Nat.le_refl _, HN2.out, bl_drewN HBI.out _⟩
          · obtain rfl : j = k := by omega
            have HALN : Hid (∀ i, i < j + 1 → symAt cl dl ss i = true) := fun i hi => by
              by_cases hij : i = j
              · rw [hij]; exact HPT.out.2.2 HYES.out HNE.out
              · exact HAL.out i (by omega)
            have hjn : ¬ (j : Int) < j := by omega
            go_wp2_with fail
            go_roundg (l - (j + 1))
            case measure => omega
            case rel => exact ⟨j + 1, by first | rfl | (congr 1; omega), by omega, Nat.le_refl _, HALN.out, HBW.out⟩
    · obtain rfl : k = l := by omega
      have HYA : Hid (symsOk cl dl ss = true) := by
        show _ = _
        unfold symsOk
        rw [show decide (ss.length ≤ 1000) = true by simp; omega, all_range_yes (fun i hi => HAL.out i (by omega))]
        rfl
      go_wp2_with fail
      go_ret
      exact ⟨by rw [HYA.out]; rfl, HBL.out⟩

end Go.Proofs.YtmplnkfjaeegdaaDoor

/- What the document's named, Syms, May and Check come to. (Written by gen_rmay.py.) -/
namespace Go.Proofs.YtmplnkfjaeegdaaDoor
set_option maxRecDepth 100000
open Go.RowKit Go.Maps Go.Lib
set_option linter.unusedVariables false


theorem relOk_no1 {cl : Nat} {fr : Int} {r : Rel} (h : nameOk r.name = false) : relOk cl fr r = false := by unfold relOk; rw [h, Bool.false_and, Bool.and_false]
theorem relOk_no2 {cl : Nat} {fr : Int} {r : Rel} (h : ¬ (fr ≤ r.pos ∧ r.pos ≤ (cl : Int) - 4)) : relOk cl fr r = false := by
  unfold relOk
  have : (decide (fr ≤ r.pos) && decide (r.pos ≤ (cl : Int) - 4)) = false := by
    rw [Bool.and_eq_false_iff, decide_eq_false_iff_not, decide_eq_false_iff_not]
    omega
  rw [this, Bool.false_and]
theorem relOk_no3 {cl : Nat} {fr : Int} {r : Rel} (h : addOk r.kind r.add = false) : relOk cl fr r = false := by unfold relOk; rw [h, Bool.and_false, Bool.and_false]
theorem relOk_yes {cl : Nat} {fr : Int} {r : Rel} (h1 : nameOk r.name = true) (h2 : fr ≤ r.pos ∧ r.pos ≤ (cl : Int) - 4) (h3 : addOk r.kind r.add = true) : relOk cl fr r = true := by
  unfold relOk
  rw [h1, h3, decide_eq_true h2.1, decide_eq_true h2.2]
  rfl
theorem addOk_jump (n : Int) : addOk 1 n = decide (n = 0) := by unfold addOk; rw [if_pos rfl]
theorem addOk_addr (n : Int) : addOk 2 n = (decide (-2147483648 ≤ n) && decide (n ≤ 2147483647)) := by unfold addOk; rw [if_neg (by decide), if_pos rfl]
theorem addOk_else {k n : Int} (h1 : ¬ k = 1) (h2 : ¬ k = 2) : addOk k n = false := by unfold addOk; rw [if_neg h1, if_neg h2]
theorem may_no {o : ObjD} (h : ¬ (o.code.size ≤ 65536 ∧ o.data.length ≤ 4096 ∧ symsOk o.code.size o.data.length o.syms = true ∧ o.rels.length ≤ 8000)) : o.may = false := by
  cases hm : o.may with
  | false => rfl
  | true =>
    obtain ⟨h1, h2, h3, h4⟩ := may_parts hm
    unfold relsOk at h4
    simp only [Bool.and_eq_true, decide_eq_true_eq] at h4
    exact absurd ⟨h1, h2, h3, h4.1⟩ h
theorem may_is {o : ObjD} (h1 : o.code.size ≤ 65536) (h2 : o.data.length ≤ 4096) (h3 : symsOk o.code.size o.data.length o.syms = true) : o.may = relsOk o.code.size o.rels := by
  unfold ObjD.may
  rw [decide_eq_true h1, decide_eq_true h2, h3]
  rfl
theorem free_next {rs : List Rel} {k : Nat} {r : Rel} (h : rs.getD k noRel = r) : freeAt rs (k + 1) = r.pos + 4 := by
  unfold freeAt
  rw [if_neg (by omega), Nat.add_sub_cancel, h]

end Go.Proofs.YtmplnkfjaeegdaaDoor

/- What the document's Take comes to. -/
namespace Go.Proofs.YtmplnkfjaeegdaaDoor
set_option maxRecDepth 100000
open Go.RowKit

set_option maxRecDepth 100000 in
set_option maxHeartbeats 1000000 in
theorem reftake_in (s : ByteArray) (a : Nat) (ha : a ≤ s.size) (hs : s.size ≤ maxLen) (w : World) :
    Calls Tryd.prog 83 #[.string s, .int .i64 a] w fun e w' => e = .returned (.tuple #[.int .u64 (W.takeR s a).1, .int .i64 (W.takeR s a).2.1, .int .i64 (W.takeR s a).2.2]) ∧ w' = w := by
  unfold maxLen at hs
  have hneg : decide ((a : Int) < 0) = false := by simp
  have hle : decide (s.size < a) = false := by simp; omega
  go_enter Tryd.func83, Tryd.ntmps83
  go_wp2
  go_loop [7, 8] (fun u i => ∃ (j g : Nat) (x : Int), Hid (j = a + g) ∧ j ≤ s.size ∧ g ≤ 9 ∧ i = .int .i64 g ∧ u = .int .u64 x ∧ Hid (0 ≤ x ∧ x < 128 ^ g ∧ W.takeG 0 0 (W.tail s a) = W.takeG g x (W.tail s j))) (fun _ i => 10 - (intOf i).toNat)
  case atStart => exact ⟨a, 0, 0, rfl, ha, by omega, rfl, rfl, ⟨by omega, by decide, rfl⟩⟩
  case round =>
    obtain ⟨j, g, x, HJ, hjs, hg9, rfl, rfl, HX⟩ := hrel
    have hsum : (a : Int) + (g : Int) = (j : Int) := by have := HJ.out; omega
    by_cases hlt : j < s.size
    · have HT : Hid (W.tail s j = (s[j].toNat : Int) :: W.tail s (j + 1)) := W.tail_cons s j hlt
      obtain ⟨c, hcb⟩ : ∃ c : Nat, s[j].toNat = c := ⟨_, rfl⟩
      have hc256 : c < 256 := by rw [← hcb]; exact UInt8.toNat_lt _
      have HT' : Hid (W.tail s j = (c : Int) :: W.tail s (j + 1)) := by rw [← hcb]; exact HT
      have hadd := W.add_fold
      clear HT
      rcases (show (g = 9 ∧ 1 < c) ∨ (g = 9 ∧ c = 0) ∨ (g = 9 ∧ c ≤ 1 ∧ 0 < c) ∨ (0 < g ∧ g < 9 ∧ c = 0) ∨ (g < 1 ∧ c = 0) ∨ (g < 1 ∧ 0 < c ∧ c < 128) ∨ (0 < g ∧ g < 9 ∧ 0 < c ∧ c < 128) ∨ (g < 1 ∧ 128 ≤ c) ∨ (0 < g ∧ g < 9 ∧ 128 ≤ c) by omega) with ⟨h0, h1⟩ | ⟨h0, rfl⟩ | ⟨h0, h1, h2⟩ | ⟨h0, h1, rfl⟩ | ⟨h0, h1⟩ | ⟨h0, h1, h2⟩ | ⟨h0, h1, h2, h3⟩ | ⟨h0, h1⟩ | ⟨h0, h1, h2⟩
      · have e9 : ((g : Int) == 9) = true := by simp; omega
        have p0 : decide (0 < g) = true := by simp; omega
        have hz : 9 ≤ g := by omega
        clear h0
        go_wp2
        go_ret3
        have hf := W.takeR_none s a (by rw [HX.out.2.2, HT'.out]; exact W.takeG_no _ _ _ _ (by omega))
        exact ⟨ret3 (by rw [hf]), rfl⟩
      · have e9 : ((g : Int) == 9) = true := by simp; omega
        have p0 : decide (0 < g) = true := by simp; omega
        have hz : 9 ≤ g := by omega
        clear h0
        go_wp2
        go_ret3
        have hf := W.takeR_none s a (by rw [HX.out.2.2, HT'.out]; exact W.takeG_no _ _ _ _ (by omega))
        exact ⟨ret3 (by rw [hf]), rfl⟩
      · have e9 : ((g : Int) == 9) = true := by simp; omega
        have p0 : decide (0 < g) = true := by simp; omega
        have c0 : ((c : Int) == 0) = false := by simp; omega
        have hz : 9 ≤ g := by omega
        clear h0
        go_wp2
        go_ret3
        have hf := W.takeR_some s a _ _ (by rw [HX.out.2.2, HT'.out]; exact W.takeG_last _ _ _ _ (by omega) (by omega))
        exact ⟨ret3 (by rw [hf, W.addv_eq x c g HX.out.1 HX.out.2.1 hg9 (by omega) (by omega)]; have := HJ.out; simp; omega), rfl⟩
      · have e9 : ((g : Int) == 9) = false := by simp; omega
        have p0 : decide (0 < g) = true := by simp; omega
        go_wp2
        go_ret3
        have hf := W.takeR_none s a (by rw [HX.out.2.2, HT'.out]; exact W.takeG_no _ _ _ _ (by omega))
        exact ⟨ret3 (by rw [hf]), rfl⟩
      · have e9 : ((g : Int) == 9) = false := by simp; omega
        have p0 : decide (0 < g) = false := by simp; omega
        have c0 : ((c : Int) == 0) = true := by simp; omega
        have hz : c < 1 := by omega
        clear h1
        go_wp2
        go_ret3
        have hf := W.takeR_some s a _ _ (by rw [HX.out.2.2, HT'.out]; exact W.takeG_last _ _ _ _ (by omega) (by omega))
        exact ⟨ret3 (by rw [hf, W.addv_eq x c g HX.out.1 HX.out.2.1 hg9 (by omega) (by omega)]; have := HJ.out; simp; omega), rfl⟩
      · have e9 : ((g : Int) == 9) = false := by simp; omega
        have p0 : decide (0 < g) = false := by simp; omega
        have c0 : ((c : Int) == 0) = false := by simp; omega
        go_wp2
        go_ret3
        have hf := W.takeR_some s a _ _ (by rw [HX.out.2.2, HT'.out]; exact W.takeG_last _ _ _ _ (by omega) (by omega))
        exact ⟨ret3 (by rw [hf, W.addv_eq x c g HX.out.1 HX.out.2.1 hg9 (by omega) (by omega)]; have := HJ.out; simp; omega), rfl⟩
      · have e9 : ((g : Int) == 9) = false := by simp; omega
        have p0 : decide (0 < g) = true := by simp; omega
        have c0 : ((c : Int) == 0) = false := by simp; omega
        go_wp2
        go_ret3
        have hf := W.takeR_some s a _ _ (by rw [HX.out.2.2, HT'.out]; exact W.takeG_last _ _ _ _ (by omega) (by omega))
        exact ⟨ret3 (by rw [hf, W.addv_eq x c g HX.out.1 HX.out.2.1 hg9 (by omega) (by omega)]; have := HJ.out; simp; omega), rfl⟩
      · have e9 : ((g : Int) == 9) = false := by simp; omega
        have p0 : decide (0 < g) = false := by simp; omega
        go_wp2
        go_round
        case rel =>
          refine ⟨j + 1, g + 1, W.addv x c g, by have := HJ.out; show j + 1 = a + (g + 1); omega, by omega, by omega, by go_num, rfl, ?_⟩
          rw [W.addv_eq x c g HX.out.1 HX.out.2.1 hg9 (by omega) (by omega)]
          refine ⟨by have := W.group_fits c g hg9 (by omega) (by omega); have := HX.out.1; omega, W.next_lt x c g HX.out.2.1, ?_⟩
          rw [HX.out.2.2, HT'.out, W.takeG_more _ _ _ _ (by omega) (by omega)]
        case measure => simp [intOf]; omega
      · have e9 : ((g : Int) == 9) = false := by simp; omega
        have p0 : decide (0 < g) = true := by simp; omega
        have c0 : ((c : Int) == 0) = false := by simp; omega
        go_wp2
        go_round
        case rel =>
          refine ⟨j + 1, g + 1, W.addv x c g, by have := HJ.out; show j + 1 = a + (g + 1); omega, by omega, by omega, by go_num, rfl, ?_⟩
          rw [W.addv_eq x c g HX.out.1 HX.out.2.1 hg9 (by omega) (by omega)]
          refine ⟨by have := W.group_fits c g hg9 (by omega) (by omega); have := HX.out.1; omega, W.next_lt x c g HX.out.2.1, ?_⟩
          rw [HX.out.2.2, HT'.out, W.takeG_more _ _ _ _ (by omega) (by omega)]
        case measure => simp [intOf]; omega
    · go_wp2
      go_ret3
      have hf := W.takeR_none s a (by rw [HX.out.2.2, W.tail_end s j (by omega)]; rfl)
      exact ⟨ret3 (by rw [hf]), rfl⟩

set_option maxHeartbeats 400000 in
theorem reftake_out (s : ByteArray) (a : Int) (h : a < 0 ∨ (s.size : Int) < a) (w : World) :
    Calls Tryd.prog 83 #[.string s, .int .i64 a] w fun e w' => e = .returned (.tuple #[.int .u64 0, .int .i64 0, .int .i64 1]) ∧ w' = w := by
  rcases h with h | h
  · go_enter Tryd.func83, Tryd.ntmps83
    go_wp2
    go_ret3
    exact ⟨rfl, rfl⟩
  · have h0 : ¬ a < 0 := by omega
    go_enter Tryd.func83, Tryd.ntmps83
    go_wp2
    go_ret3
    exact ⟨rfl, rfl⟩

theorem reftake_any (s : ByteArray) (a : Int) (hs : s.size ≤ maxLen) (w : World) :
    Calls Tryd.prog 83 #[.string s, .int .i64 a] w fun e w' => e = .returned (.tuple #[.int .u64 (W.take s a).1, .int .i64 (W.take s a).2.1, .int .i64 (W.take s a).2.2]) ∧ w' = w := by
  by_cases h : a < 0 ∨ (s.size : Int) < a
  · refine (reftake_out s a h w).mono ?_
    rintro e w' ⟨rfl, hb⟩
    exact ⟨ret3 (by rw [W.take, if_pos h]), hb⟩
  · obtain ⟨n, rfl⟩ := Int.eq_ofNat_of_zero_le (show 0 ≤ a by omega)
    refine (reftake_in s n (by omega) hs w).mono ?_
    rintro e w' ⟨rfl, hb⟩
    exact ⟨ret3 (by rw [W.take, if_neg h, Int.toNat_natCast]), hb⟩

end Go.Proofs.YtmplnkfjaeegdaaDoor

/- What the document's Reader comes to. (Written by gen_rread.py.) -/
namespace Go.Proofs.YtmplnkfjaeegdaaDoor
set_option maxRecDepth 100000
open Go.RowKit Go.Maps Go.Lib
set_option linter.unusedVariables false

/-- The document's reader: its text, its place, whether something lacked. -/
structure RX (w : World) (br : Nat) (s : ByteArray) (i : Nat) (bad : Bool) : Prop where
  c0 : w.cell? ⟨br, 0, none⟩ = some (.string s)
  c1 : w.cell? ⟨br, 1, none⟩ = some (.int .i64 i)
  c2 : w.cell? ⟨br, 2, none⟩ = some (.bool bad)
  fz : ∀ o, w.frozen? ⟨br, o, none⟩ = false
  le : i ≤ s.size
  sz : s.size ≤ maxLen
theorem RX.lt {w : World} {br : Nat} {s : ByteArray} {i : Nat} {b : Bool} (h : RX w br s i b) : br < w.heap.size := World.block_lt_of_cell? w ⟨br, 0, none⟩ h.c0
theorem RX.set {w : World} {br : Nat} {s : ByteArray} {i : Nat} {b : Bool} (h : RX w br s i b) (j : Nat) (hj : j ≤ s.size) : RX (w.setCell ⟨br, 1, none⟩ (.int .i64 j)) br s j b :=
  ⟨(World.cell?_setCell_other _ _ _ _ (by simp)).trans h.c0, World.cell?_setCell_same' _ _ _ (by rw [h.c1]; rfl), (World.cell?_setCell_other _ _ _ _ (by simp)).trans h.c2, fun o => by rw [World.frozen?_setCell]; exact h.fz o, hj, h.sz⟩
theorem RX.spoil {w : World} {br : Nat} {s : ByteArray} {i : Nat} {b : Bool} (h : RX w br s i b) : RX (w.setCell ⟨br, 2, none⟩ (.bool true)) br s i true :=
  ⟨(World.cell?_setCell_other _ _ _ _ (by simp)).trans h.c0, (World.cell?_setCell_other _ _ _ _ (by simp)).trans h.c1, World.cell?_setCell_same' _ _ _ (by rw [h.c2]; rfl), fun o => by rw [World.frozen?_setCell]; exact h.fz o, h.le, h.sz⟩
theorem RX.below {w w' : World} {br : Nat} {s : ByteArray} {i : Nat} {b : Bool} (h : RX w br s i b) (hb : Below w.heap.size w w') : RX w' br s i b :=
  ⟨cell_thru hb h.c0, cell_thru hb h.c1, cell_thru hb h.c2, fun o => (hb.frozen (p := ⟨br, o, none⟩) h.lt).trans (h.fz o), h.le, h.sz⟩
theorem RX.drew {w : World} {br : Nat} {s : ByteArray} {i : Nat} {b : Bool} (h : RX w br s i b) : RX w.drew br s i b := h.below (Below.refl _ _).drew
theorem RX.drewN {w : World} {br : Nat} {s : ByteArray} {i : Nat} {b : Bool} (h : RX w br s i b) (n : Nat) : RX (w.drewN n) br s i b := h.below (bl_drewN (Below.refl _ _) n)
theorem RX.grown {w x : World} {br : Nat} {s : ByteArray} {i : Nat} {b : Bool} {row : Option Nat} (h : RX w br s i b) (g : w.grownBy x row) (hne : row ≠ some br) : RX x br s i b :=
  ⟨grown_row g h.c0 hne, grown_row g h.c1 hne, grown_row g h.c2 hne, fun o => (g.frozen_far ⟨br, o, none⟩ h.lt (fun e => hne e.symm)).trans (h.fz o), h.le, h.sz⟩
/-- How a call of a reader that is good ends. -/
def GoodR {α : Type} (w : World) (br : Nat) (s : ByteArray) (f : Option (α × Nat)) (val : α → Value) (d : Value) (e : Ending) (w' : World) : Prop :=
  ((∃ a j, f = some (a, j) ∧ e = .returned (val a) ∧ RX w' br s j false) ∨ (f = none ∧ e = .returned d ∧ ∃ j, RX w' br s j true)) ∧ w.grownBy w' (some br)
/-- And one of a reader that is bad. -/
def BadR (w : World) (br : Nat) (s : ByteArray) (d : Value) (e : Ending) (w' : World) : Prop := e = .returned d ∧ (∃ j, RX w' br s j true) ∧ w.grownBy w' (some br)
theorem gb_refl (w : World) (r : Option Nat) : w.grownBy w r := ⟨rfl, rfl, rfl, Nat.le_refl _, fun _ _ _ => rfl⟩
theorem gb_below {w x : World} (h : Below w.heap.size w x) (r : Option Nat) : w.grownBy x r := ⟨h.os, h.tape, h.output, h.size, fun k hk _ => h.block k hk⟩
theorem gb_then {w x : World} {r : Option Nat} {br : Nat} (h : w.grownBy x (some br)) (o : Nat) (u : Value) : w.grownBy (x.setCell ⟨br, o, none⟩ u) (some br) := grown_trans h (gb_setO x ⟨br, o, none⟩ u)

set_option maxRecDepth 100000 in
set_option maxHeartbeats 2000000 in
theorem xnum_yes {w : World} {br : Nat} {s : ByteArray} {i : Nat} (h : RX w br s i false) (n : Nat) (hn : n ≤ 1000000000) (x : Int) (m : Nat) (hx : W.takeG 0 0 (W.tail s i) = some (x, m)) (hx0 : 0 ≤ x) (hxm : x ≤ n) :
    Calls Tryd.prog 59 #[.pointer (some ⟨br, 0, none⟩), .int .i64 n] w fun e w' => e = .returned (.int .i64 x) ∧ RX w' br s (i + m) false ∧ w.grownBy w' (some br) := by
  have c0 := h.c0
  have c1 := h.c1
  have hi := h.le
  have HR : Hid _ := h
  have HS : Hid _ := h.sz
  have HX : Hid _ := hx
  have hml : i + m ≤ s.size := by have := (takeG_len _ _ _ _ _ hx).2; have := W.tail_length s i; omega
  have HT : Hid (W.take s i = (x, ((i + m : Nat) : Int), 0)) := by
    show _ = _
    unfold W.take
    rw [if_neg (by omega), Int.toNat_natCast, W.takeR_some s i x m hx]
    simp
  have d0 : decide ((n : Int) < x) = false := by simp; omega
  have hs' : s.size ≤ 9223372036854775807 := by have := h.sz; unfold maxLen at this; omega
  clear h hx
  go_enter Tryd.func59, Tryd.ntmps59
  go_wp2_with fail
  refine wp_region_held_drew (S := (fun w' : World => w'.cell? ⟨br, 0, none⟩ = some (.string s) ∧ w'.cell? ⟨br, 1, none⟩ = some (.int .i64 i))) (by kernel_rfl) ⟨c0, c1⟩ (fun hHeld => ?_)
  refine wpAnyH_take (i := 0) (v := ?_) (get0 _ _) (by kernel_rfl) (by kernel_rfl) (by kernel_rfl) (fun _ _ _ h => h) (Or.inl ⟨by rfl, ?_⟩) (by assumption) ?_
  rotate_left
  · (intro w hSw; (try dsimp only at hSw); go_simp <;> with_reducible rfl)
  simp only [Act.put, List.setIfInBounds_toArray, List.set_cons_zero, List.set_cons_succ]
  refine wpAnyH_take (i := 1) (v := ?_) (get1 (get0 _ _)) (by kernel_rfl) (by kernel_rfl) (by kernel_rfl) (fun _ _ _ h => h) (Or.inl ⟨by rfl, ?_⟩) (by assumption) ?_
  rotate_left
  · (intro w hSw; (try dsimp only at hSw); go_simp <;> with_reducible rfl)
  simp only [Act.put, List.setIfInBounds_toArray, List.set_cons_zero, List.set_cons_succ]
  refine wpAnyH_take (i := 2) (v := ?_) (get1 (get1 (get0 _ _))) (by kernel_rfl) (by kernel_rfl) (by kernel_rfl) (fun _ _ _ h => h) (Or.inl ⟨by rfl, ?_⟩) (by assumption) ?_
  rotate_left
  · (intro w hSw; (try dsimp only at hSw); go_simp <;> with_reducible rfl)
  simp only [Act.put, List.setIfInBounds_toArray, List.set_cons_zero, List.set_cons_succ]
  refine wpAnyH_take (i := 3) (v := ?_) (get1 (get1 (get1 (get0 _ _)))) (by kernel_rfl) (by kernel_rfl) (by kernel_rfl) (fun _ _ _ h => h) (Or.inl ⟨by rfl, ?_⟩) (by assumption) ?_
  rotate_left
  · (intro w hSw; (try dsimp only at hSw); go_simp <;> with_reducible rfl)
  simp only [Act.put, List.setIfInBounds_toArray, List.set_cons_zero, List.set_cons_succ]
  refine wpAnyH_take (i := 4) (v := ?_) (get1 (get1 (get1 (get1 (get0 _ _))))) (by kernel_rfl) (by kernel_rfl) (by kernel_rfl) (fun _ _ _ h => h) (Or.inl ⟨by rfl, ?_⟩) (by assumption) ?_
  rotate_left
  · (intro w hSw; (try dsimp only at hSw); go_simp <;> with_reducible rfl)
  simp only [Act.put, List.setIfInBounds_toArray, List.set_cons_zero, List.set_cons_succ]
  refine wpAnyH_take (i := 5) (v := ?_) (get1 (get1 (get1 (get1 (get1 (get0 _ _)))))) (by kernel_rfl) (by kernel_rfl) (by kernel_rfl) (fun _ _ _ h => h) (Or.inl ⟨by rfl, ?_⟩) (by assumption) ?_
  rotate_left
  · (intro w hSw; (try dsimp only at hSw); go_simp <;> with_reducible rfl)
  simp only [Act.put, List.setIfInBounds_toArray, List.set_cons_zero, List.set_cons_succ]
  refine wpAnyH_take (i := 6) (v := ?_) (get1 (get1 (get1 (get1 (get1 (get1 (get0 _ _))))))) (by kernel_rfl) (by kernel_rfl) (by kernel_rfl) (fun _ _ _ h => h) (Or.inl ⟨by rfl, ?_⟩) (by assumption) ?_
  rotate_left
  · (intro w hSw; (try dsimp only at hSw); go_simp <;> with_reducible rfl)
  simp only [Act.put, List.setIfInBounds_toArray, List.set_cons_zero, List.set_cons_succ]
  refine wpAnyH_take (i := 7) (v := ?_) (get1 (get1 (get1 (get1 (get1 (get1 (get1 (get0 _ _)))))))) (by kernel_rfl) (by kernel_rfl) (by kernel_rfl) (fun _ _ _ h => h) (Or.inl ⟨by rfl, ?_⟩) (by assumption) ?_
  rotate_left
  · (intro w hSw; (try dsimp only at hSw); go_simp <;> with_reducible rfl)
  simp only [Act.put, List.setIfInBounds_toArray, List.set_cons_zero, List.set_cons_succ]
  refine wpAnyH_ready (rs := [8]) (by kernel_rfl) (by simp) ?_
  refine AllReadyH.cons (get1 (get1 (get1 (get1 (get1 (get1 (get1 (get1 (get0 _ _))))))))) (fun K hK => ?_) AllReadyH.nil
  go_simp
  refine (reftake_any s i HS.out _).mono ?_
  rintro e y1 ⟨rfl, rfl⟩
  rw [HT.out]
  try go_wp2_with fail
  refine hK.out _ _ hHeld (fun hHeld => ?_)
  clear hK K
  try simp only [Act.put, List.setIfInBounds_toArray, List.set_cons_zero, List.set_cons_succ]
  refine wpAnyH_take (i := 9) (v := ?_) (get1 (get1 (get1 (get1 (get1 (get1 (get1 (get1 (get1 (get0 _ _)))))))))) (by kernel_rfl) (by kernel_rfl) (by kernel_rfl) (fun _ _ _ h => h) (Or.inl ⟨by rfl, ?_⟩) (by assumption) ?_
  rotate_left
  · (intro w hSw; (try dsimp only at hSw); go_simp <;> with_reducible rfl)
  simp only [Act.put, List.setIfInBounds_toArray, List.set_cons_zero, List.set_cons_succ]
  refine wpAnyH_take (i := 10) (v := ?_) (get1 (get1 (get1 (get1 (get1 (get1 (get1 (get1 (get1 (get1 (get0 _ _))))))))))) (by kernel_rfl) (by kernel_rfl) (by kernel_rfl) (fun _ _ _ h => h) (Or.inl ⟨by rfl, ?_⟩) (by assumption) ?_
  rotate_left
  · (intro w hSw; (try dsimp only at hSw); go_simp <;> with_reducible rfl)
  simp only [Act.put, List.setIfInBounds_toArray, List.set_cons_zero, List.set_cons_succ]
  refine wpAnyH_take (i := 11) (v := ?_) (get1 (get1 (get1 (get1 (get1 (get1 (get1 (get1 (get1 (get1 (get1 (get0 _ _)))))))))))) (by kernel_rfl) (by kernel_rfl) (by kernel_rfl) (fun _ _ _ h => h) (Or.inl ⟨by rfl, ?_⟩) (by assumption) ?_
  rotate_left
  · (intro w hSw; (try dsimp only at hSw); go_simp <;> with_reducible rfl)
  simp only [Act.put, List.setIfInBounds_toArray, List.set_cons_zero, List.set_cons_succ]
  refine wpAnyH_take (i := 12) (v := ?_) (get1 (get1 (get1 (get1 (get1 (get1 (get1 (get1 (get1 (get1 (get1 (get1 (get0 _ _))))))))))))) (by kernel_rfl) (by kernel_rfl) (by kernel_rfl) (fun _ _ _ h => h) (Or.inl ⟨by rfl, ?_⟩) (by assumption) ?_
  rotate_left
  · (intro w hSw; (try dsimp only at hSw); go_simp <;> with_reducible rfl)
  simp only [Act.put, List.setIfInBounds_toArray, List.set_cons_zero, List.set_cons_succ]
  refine wpAnyH_take (i := 13) (v := ?_) (get1 (get1 (get1 (get1 (get1 (get1 (get1 (get1 (get1 (get1 (get1 (get1 (get1 (get0 _ _)))))))))))))) (by kernel_rfl) (by kernel_rfl) (by kernel_rfl) (fun _ _ _ h => h) (Or.inl ⟨by rfl, ?_⟩) (by assumption) ?_
  rotate_left
  · (intro w hSw; (try dsimp only at hSw); go_simp <;> with_reducible rfl)
  simp only [Act.put, List.setIfInBounds_toArray, List.set_cons_zero, List.set_cons_succ]
  refine wpAnyH_take (i := 14) (v := ?_) (get1 (get1 (get1 (get1 (get1 (get1 (get1 (get1 (get1 (get1 (get1 (get1 (get1 (get1 (get0 _ _))))))))))))))) (by kernel_rfl) (by kernel_rfl) (by kernel_rfl) (fun _ _ _ h => h) (Or.inl ⟨by rfl, ?_⟩) (by assumption) ?_
  rotate_left
  · (intro w hSw; (try dsimp only at hSw); go_simp <;> with_reducible rfl)
  simp only [Act.put, List.setIfInBounds_toArray, List.set_cons_zero, List.set_cons_succ]
  refine wpAnyH_take (i := 15) (v := ?_) (get1 (get1 (get1 (get1 (get1 (get1 (get1 (get1 (get1 (get1 (get1 (get1 (get1 (get1 (get1 (get0 _ _)))))))))))))))) (by kernel_rfl) (by kernel_rfl) (by kernel_rfl) (fun _ _ _ h => h) (Or.inl ⟨by rfl, ?_⟩) (by assumption) ?_
  rotate_left
  · (intro w hSw; (try dsimp only at hSw); go_simp <;> with_reducible rfl)
  simp only [Act.put, List.setIfInBounds_toArray, List.set_cons_zero, List.set_cons_succ]
  refine wpAnyH_done (by kernel_rfl) ?_ _
  clear hHeld
  have j1 := HR.out.drew.c1
  have j2 := HR.out.drew.c2
  have z1 := HR.out.drew.fz 1
  have z2 := HR.out.drew.fz 2
  clear c0 c1
  go_wp2
  go_ret
  have hr := HR.out.drew.set (i + m) hml
  have hg := gb_then (r := none) (gb_below (Below.refl _ w).drew (some br)) 1 (.int .i64 ((i + m : Nat) : Int))
  simp only [Int.natCast_add] at hr hg
  exact ⟨rfl, hr, hg⟩

set_option maxRecDepth 100000 in
set_option maxHeartbeats 2000000 in
theorem xnum_no {w : World} {br : Nat} {s : ByteArray} {i : Nat} (h : RX w br s i false) (n : Nat) (hn : n ≤ 1000000000) (hx : W.takeG 0 0 (W.tail s i) = none) :
    Calls Tryd.prog 59 #[.pointer (some ⟨br, 0, none⟩), .int .i64 n] w fun e w' => e = .returned (.int .i64 0) ∧ RX w' br s i true ∧ w.grownBy w' (some br) := by
  have c0 := h.c0
  have c1 := h.c1
  have hi := h.le
  have HR : Hid _ := h
  have HS : Hid _ := h.sz
  have HX : Hid _ := hx
  have HT : Hid (W.take s i = (0, 0, 9)) := by
    show _ = _
    unfold W.take
    rw [if_neg (by omega), Int.toNat_natCast, W.takeR_none s i hx]
  have hs' : s.size ≤ 9223372036854775807 := by have := h.sz; unfold maxLen at this; omega
  clear h hx
  go_enter Tryd.func59, Tryd.ntmps59
  go_wp2_with fail
  refine wp_region_held_drew (S := (fun w' : World => w'.cell? ⟨br, 0, none⟩ = some (.string s) ∧ w'.cell? ⟨br, 1, none⟩ = some (.int .i64 i))) (by kernel_rfl) ⟨c0, c1⟩ (fun hHeld => ?_)
  refine wpAnyH_take (i := 0) (v := ?_) (get0 _ _) (by kernel_rfl) (by kernel_rfl) (by kernel_rfl) (fun _ _ _ h => h) (Or.inl ⟨by rfl, ?_⟩) (by assumption) ?_
  rotate_left
  · (intro w hSw; (try dsimp only at hSw); go_simp <;> with_reducible rfl)
  simp only [Act.put, List.setIfInBounds_toArray, List.set_cons_zero, List.set_cons_succ]
  refine wpAnyH_take (i := 1) (v := ?_) (get1 (get0 _ _)) (by kernel_rfl) (by kernel_rfl) (by kernel_rfl) (fun _ _ _ h => h) (Or.inl ⟨by rfl, ?_⟩) (by assumption) ?_
  rotate_left
  · (intro w hSw; (try dsimp only at hSw); go_simp <;> with_reducible rfl)
  simp only [Act.put, List.setIfInBounds_toArray, List.set_cons_zero, List.set_cons_succ]
  refine wpAnyH_take (i := 2) (v := ?_) (get1 (get1 (get0 _ _))) (by kernel_rfl) (by kernel_rfl) (by kernel_rfl) (fun _ _ _ h => h) (Or.inl ⟨by rfl, ?_⟩) (by assumption) ?_
  rotate_left
  · (intro w hSw; (try dsimp only at hSw); go_simp <;> with_reducible rfl)
  simp only [Act.put, List.setIfInBounds_toArray, List.set_cons_zero, List.set_cons_succ]
  refine wpAnyH_take (i := 3) (v := ?_) (get1 (get1 (get1 (get0 _ _)))) (by kernel_rfl) (by kernel_rfl) (by kernel_rfl) (fun _ _ _ h => h) (Or.inl ⟨by rfl, ?_⟩) (by assumption) ?_
  rotate_left
  · (intro w hSw; (try dsimp only at hSw); go_simp <;> with_reducible rfl)
  simp only [Act.put, List.setIfInBounds_toArray, List.set_cons_zero, List.set_cons_succ]
  refine wpAnyH_take (i := 4) (v := ?_) (get1 (get1 (get1 (get1 (get0 _ _))))) (by kernel_rfl) (by kernel_rfl) (by kernel_rfl) (fun _ _ _ h => h) (Or.inl ⟨by rfl, ?_⟩) (by assumption) ?_
  rotate_left
  · (intro w hSw; (try dsimp only at hSw); go_simp <;> with_reducible rfl)
  simp only [Act.put, List.setIfInBounds_toArray, List.set_cons_zero, List.set_cons_succ]
  refine wpAnyH_take (i := 5) (v := ?_) (get1 (get1 (get1 (get1 (get1 (get0 _ _)))))) (by kernel_rfl) (by kernel_rfl) (by kernel_rfl) (fun _ _ _ h => h) (Or.inl ⟨by rfl, ?_⟩) (by assumption) ?_
  rotate_left
  · (intro w hSw; (try dsimp only at hSw); go_simp <;> with_reducible rfl)
  simp only [Act.put, List.setIfInBounds_toArray, List.set_cons_zero, List.set_cons_succ]
  refine wpAnyH_take (i := 6) (v := ?_) (get1 (get1 (get1 (get1 (get1 (get1 (get0 _ _))))))) (by kernel_rfl) (by kernel_rfl) (by kernel_rfl) (fun _ _ _ h => h) (Or.inl ⟨by rfl, ?_⟩) (by assumption) ?_
  rotate_left
  · (intro w hSw; (try dsimp only at hSw); go_simp <;> with_reducible rfl)
  simp only [Act.put, List.setIfInBounds_toArray, List.set_cons_zero, List.set_cons_succ]
  refine wpAnyH_take (i := 7) (v := ?_) (get1 (get1 (get1 (get1 (get1 (get1 (get1 (get0 _ _)))))))) (by kernel_rfl) (by kernel_rfl) (by kernel_rfl) (fun _ _ _ h => h) (Or.inl ⟨by rfl, ?_⟩) (by assumption) ?_
  rotate_left
  · (intro w hSw; (try dsimp only at hSw); go_simp <;> with_reducible rfl)
  simp only [Act.put, List.setIfInBounds_toArray, List.set_cons_zero, List.set_cons_succ]
  refine wpAnyH_ready (rs := [8]) (by kernel_rfl) (by simp) ?_
  refine AllReadyH.cons (get1 (get1 (get1 (get1 (get1 (get1 (get1 (get1 (get0 _ _))))))))) (fun K hK => ?_) AllReadyH.nil
  go_simp
  refine (reftake_any s i HS.out _).mono ?_
  rintro e y1 ⟨rfl, rfl⟩
  rw [HT.out]
  try go_wp2_with fail
  refine hK.out _ _ hHeld (fun hHeld => ?_)
  clear hK K
  try simp only [Act.put, List.setIfInBounds_toArray, List.set_cons_zero, List.set_cons_succ]
  refine wpAnyH_take (i := 9) (v := ?_) (get1 (get1 (get1 (get1 (get1 (get1 (get1 (get1 (get1 (get0 _ _)))))))))) (by kernel_rfl) (by kernel_rfl) (by kernel_rfl) (fun _ _ _ h => h) (Or.inl ⟨by rfl, ?_⟩) (by assumption) ?_
  rotate_left
  · (intro w hSw; (try dsimp only at hSw); go_simp <;> with_reducible rfl)
  simp only [Act.put, List.setIfInBounds_toArray, List.set_cons_zero, List.set_cons_succ]
  refine wpAnyH_take (i := 10) (v := ?_) (get1 (get1 (get1 (get1 (get1 (get1 (get1 (get1 (get1 (get1 (get0 _ _))))))))))) (by kernel_rfl) (by kernel_rfl) (by kernel_rfl) (fun _ _ _ h => h) (Or.inl ⟨by rfl, ?_⟩) (by assumption) ?_
  rotate_left
  · (intro w hSw; (try dsimp only at hSw); go_simp <;> with_reducible rfl)
  simp only [Act.put, List.setIfInBounds_toArray, List.set_cons_zero, List.set_cons_succ]
  refine wpAnyH_take (i := 11) (v := ?_) (get1 (get1 (get1 (get1 (get1 (get1 (get1 (get1 (get1 (get1 (get1 (get0 _ _)))))))))))) (by kernel_rfl) (by kernel_rfl) (by kernel_rfl) (fun _ _ _ h => h) (Or.inl ⟨by rfl, ?_⟩) (by assumption) ?_
  rotate_left
  · (intro w hSw; (try dsimp only at hSw); go_simp <;> with_reducible rfl)
  simp only [Act.put, List.setIfInBounds_toArray, List.set_cons_zero, List.set_cons_succ]
  refine wpAnyH_take (i := 12) (v := ?_) (get1 (get1 (get1 (get1 (get1 (get1 (get1 (get1 (get1 (get1 (get1 (get1 (get0 _ _))))))))))))) (by kernel_rfl) (by kernel_rfl) (by kernel_rfl) (fun _ _ _ h => h) (Or.inl ⟨by rfl, ?_⟩) (by assumption) ?_
  rotate_left
  · (intro w hSw; (try dsimp only at hSw); go_simp <;> with_reducible rfl)
  simp only [Act.put, List.setIfInBounds_toArray, List.set_cons_zero, List.set_cons_succ]
  refine wpAnyH_take (i := 13) (v := ?_) (get1 (get1 (get1 (get1 (get1 (get1 (get1 (get1 (get1 (get1 (get1 (get1 (get1 (get0 _ _)))))))))))))) (by kernel_rfl) (by kernel_rfl) (by kernel_rfl) (fun _ _ _ h => h) (Or.inl ⟨by rfl, ?_⟩) (by assumption) ?_
  rotate_left
  · (intro w hSw; (try dsimp only at hSw); go_simp <;> with_reducible rfl)
  simp only [Act.put, List.setIfInBounds_toArray, List.set_cons_zero, List.set_cons_succ]
  refine wpAnyH_take (i := 14) (v := ?_) (get1 (get1 (get1 (get1 (get1 (get1 (get1 (get1 (get1 (get1 (get1 (get1 (get1 (get1 (get0 _ _))))))))))))))) (by kernel_rfl) (by kernel_rfl) (by kernel_rfl) (fun _ _ _ h => h) (Or.inl ⟨by rfl, ?_⟩) (by assumption) ?_
  rotate_left
  · (intro w hSw; (try dsimp only at hSw); go_simp <;> with_reducible rfl)
  simp only [Act.put, List.setIfInBounds_toArray, List.set_cons_zero, List.set_cons_succ]
  refine wpAnyH_take (i := 15) (v := ?_) (get1 (get1 (get1 (get1 (get1 (get1 (get1 (get1 (get1 (get1 (get1 (get1 (get1 (get1 (get1 (get0 _ _)))))))))))))))) (by kernel_rfl) (by kernel_rfl) (by kernel_rfl) (fun _ _ _ h => h) (Or.inl ⟨by rfl, ?_⟩) (by assumption) ?_
  rotate_left
  · (intro w hSw; (try dsimp only at hSw); go_simp <;> with_reducible rfl)
  simp only [Act.put, List.setIfInBounds_toArray, List.set_cons_zero, List.set_cons_succ]
  refine wpAnyH_done (by kernel_rfl) ?_ _
  clear hHeld
  have j1 := HR.out.drew.c1
  have j2 := HR.out.drew.c2
  have z1 := HR.out.drew.fz 1
  have z2 := HR.out.drew.fz 2
  clear c0 c1
  go_wp2
  go_ret
  exact ⟨rfl, HR.out.drew.spoil, gb_then (r := none) (gb_below (Below.refl _ w).drew (some br)) 2 (.bool true)⟩

set_option maxRecDepth 100000 in
set_option maxHeartbeats 2000000 in
theorem xnum_big {w : World} {br : Nat} {s : ByteArray} {i : Nat} (h : RX w br s i false) (n : Nat) (hn : n ≤ 1000000000) (x : Int) (m : Nat) (hx : W.takeG 0 0 (W.tail s i) = some (x, m)) (hxm : (n : Int) < x) :
    Calls Tryd.prog 59 #[.pointer (some ⟨br, 0, none⟩), .int .i64 n] w fun e w' => e = .returned (.int .i64 0) ∧ RX w' br s i true ∧ w.grownBy w' (some br) := by
  have c0 := h.c0
  have c1 := h.c1
  have hi := h.le
  have HR : Hid _ := h
  have HS : Hid _ := h.sz
  have HX : Hid _ := hx
  have hml : i + m ≤ s.size := by have := (takeG_len _ _ _ _ _ hx).2; have := W.tail_length s i; omega
  have HT : Hid (W.take s i = (x, ((i + m : Nat) : Int), 0)) := by
    show _ = _
    unfold W.take
    rw [if_neg (by omega), Int.toNat_natCast, W.takeR_some s i x m hx]
    simp
  have d0 : decide ((n : Int) < x) = true := by simp; omega
  have hs' : s.size ≤ 9223372036854775807 := by have := h.sz; unfold maxLen at this; omega
  clear h hx
  go_enter Tryd.func59, Tryd.ntmps59
  go_wp2_with fail
  refine wp_region_held_drew (S := (fun w' : World => w'.cell? ⟨br, 0, none⟩ = some (.string s) ∧ w'.cell? ⟨br, 1, none⟩ = some (.int .i64 i))) (by kernel_rfl) ⟨c0, c1⟩ (fun hHeld => ?_)
  refine wpAnyH_take (i := 0) (v := ?_) (get0 _ _) (by kernel_rfl) (by kernel_rfl) (by kernel_rfl) (fun _ _ _ h => h) (Or.inl ⟨by rfl, ?_⟩) (by assumption) ?_
  rotate_left
  · (intro w hSw; (try dsimp only at hSw); go_simp <;> with_reducible rfl)
  simp only [Act.put, List.setIfInBounds_toArray, List.set_cons_zero, List.set_cons_succ]
  refine wpAnyH_take (i := 1) (v := ?_) (get1 (get0 _ _)) (by kernel_rfl) (by kernel_rfl) (by kernel_rfl) (fun _ _ _ h => h) (Or.inl ⟨by rfl, ?_⟩) (by assumption) ?_
  rotate_left
  · (intro w hSw; (try dsimp only at hSw); go_simp <;> with_reducible rfl)
  simp only [Act.put, List.setIfInBounds_toArray, List.set_cons_zero, List.set_cons_succ]
  refine wpAnyH_take (i := 2) (v := ?_) (get1 (get1 (get0 _ _))) (by kernel_rfl) (by kernel_rfl) (by kernel_rfl) (fun _ _ _ h => h) (Or.inl ⟨by rfl, ?_⟩) (by assumption) ?_
  rotate_left
  · (intro w hSw; (try dsimp only at hSw); go_simp <;> with_reducible rfl)
  simp only [Act.put, List.setIfInBounds_toArray, List.set_cons_zero, List.set_cons_succ]
  refine wpAnyH_take (i := 3) (v := ?_) (get1 (get1 (get1 (get0 _ _)))) (by kernel_rfl) (by kernel_rfl) (by kernel_rfl) (fun _ _ _ h => h) (Or.inl ⟨by rfl, ?_⟩) (by assumption) ?_
  rotate_left
  · (intro w hSw; (try dsimp only at hSw); go_simp <;> with_reducible rfl)
  simp only [Act.put, List.setIfInBounds_toArray, List.set_cons_zero, List.set_cons_succ]
  refine wpAnyH_take (i := 4) (v := ?_) (get1 (get1 (get1 (get1 (get0 _ _))))) (by kernel_rfl) (by kernel_rfl) (by kernel_rfl) (fun _ _ _ h => h) (Or.inl ⟨by rfl, ?_⟩) (by assumption) ?_
  rotate_left
  · (intro w hSw; (try dsimp only at hSw); go_simp <;> with_reducible rfl)
  simp only [Act.put, List.setIfInBounds_toArray, List.set_cons_zero, List.set_cons_succ]
  refine wpAnyH_take (i := 5) (v := ?_) (get1 (get1 (get1 (get1 (get1 (get0 _ _)))))) (by kernel_rfl) (by kernel_rfl) (by kernel_rfl) (fun _ _ _ h => h) (Or.inl ⟨by rfl, ?_⟩) (by assumption) ?_
  rotate_left
  · (intro w hSw; (try dsimp only at hSw); go_simp <;> with_reducible rfl)
  simp only [Act.put, List.setIfInBounds_toArray, List.set_cons_zero, List.set_cons_succ]
  refine wpAnyH_take (i := 6) (v := ?_) (get1 (get1 (get1 (get1 (get1 (get1 (get0 _ _))))))) (by kernel_rfl) (by kernel_rfl) (by kernel_rfl) (fun _ _ _ h => h) (Or.inl ⟨by rfl, ?_⟩) (by assumption) ?_
  rotate_left
  · (intro w hSw; (try dsimp only at hSw); go_simp <;> with_reducible rfl)
  simp only [Act.put, List.setIfInBounds_toArray, List.set_cons_zero, List.set_cons_succ]
  refine wpAnyH_take (i := 7) (v := ?_) (get1 (get1 (get1 (get1 (get1 (get1 (get1 (get0 _ _)))))))) (by kernel_rfl) (by kernel_rfl) (by kernel_rfl) (fun _ _ _ h => h) (Or.inl ⟨by rfl, ?_⟩) (by assumption) ?_
  rotate_left
  · (intro w hSw; (try dsimp only at hSw); go_simp <;> with_reducible rfl)
  simp only [Act.put, List.setIfInBounds_toArray, List.set_cons_zero, List.set_cons_succ]
  refine wpAnyH_ready (rs := [8]) (by kernel_rfl) (by simp) ?_
  refine AllReadyH.cons (get1 (get1 (get1 (get1 (get1 (get1 (get1 (get1 (get0 _ _))))))))) (fun K hK => ?_) AllReadyH.nil
  go_simp
  refine (reftake_any s i HS.out _).mono ?_
  rintro e y1 ⟨rfl, rfl⟩
  rw [HT.out]
  try go_wp2_with fail
  refine hK.out _ _ hHeld (fun hHeld => ?_)
  clear hK K
  try simp only [Act.put, List.setIfInBounds_toArray, List.set_cons_zero, List.set_cons_succ]
  refine wpAnyH_take (i := 9) (v := ?_) (get1 (get1 (get1 (get1 (get1 (get1 (get1 (get1 (get1 (get0 _ _)))))))))) (by kernel_rfl) (by kernel_rfl) (by kernel_rfl) (fun _ _ _ h => h) (Or.inl ⟨by rfl, ?_⟩) (by assumption) ?_
  rotate_left
  · (intro w hSw; (try dsimp only at hSw); go_simp <;> with_reducible rfl)
  simp only [Act.put, List.setIfInBounds_toArray, List.set_cons_zero, List.set_cons_succ]
  refine wpAnyH_take (i := 10) (v := ?_) (get1 (get1 (get1 (get1 (get1 (get1 (get1 (get1 (get1 (get1 (get0 _ _))))))))))) (by kernel_rfl) (by kernel_rfl) (by kernel_rfl) (fun _ _ _ h => h) (Or.inl ⟨by rfl, ?_⟩) (by assumption) ?_
  rotate_left
  · (intro w hSw; (try dsimp only at hSw); go_simp <;> with_reducible rfl)
  simp only [Act.put, List.setIfInBounds_toArray, List.set_cons_zero, List.set_cons_succ]
  refine wpAnyH_take (i := 11) (v := ?_) (get1 (get1 (get1 (get1 (get1 (get1 (get1 (get1 (get1 (get1 (get1 (get0 _ _)))))))))))) (by kernel_rfl) (by kernel_rfl) (by kernel_rfl) (fun _ _ _ h => h) (Or.inl ⟨by rfl, ?_⟩) (by assumption) ?_
  rotate_left
  · (intro w hSw; (try dsimp only at hSw); go_simp <;> with_reducible rfl)
  simp only [Act.put, List.setIfInBounds_toArray, List.set_cons_zero, List.set_cons_succ]
  refine wpAnyH_take (i := 12) (v := ?_) (get1 (get1 (get1 (get1 (get1 (get1 (get1 (get1 (get1 (get1 (get1 (get1 (get0 _ _))))))))))))) (by kernel_rfl) (by kernel_rfl) (by kernel_rfl) (fun _ _ _ h => h) (Or.inl ⟨by rfl, ?_⟩) (by assumption) ?_
  rotate_left
  · (intro w hSw; (try dsimp only at hSw); go_simp <;> with_reducible rfl)
  simp only [Act.put, List.setIfInBounds_toArray, List.set_cons_zero, List.set_cons_succ]
  refine wpAnyH_take (i := 13) (v := ?_) (get1 (get1 (get1 (get1 (get1 (get1 (get1 (get1 (get1 (get1 (get1 (get1 (get1 (get0 _ _)))))))))))))) (by kernel_rfl) (by kernel_rfl) (by kernel_rfl) (fun _ _ _ h => h) (Or.inl ⟨by rfl, ?_⟩) (by assumption) ?_
  rotate_left
  · (intro w hSw; (try dsimp only at hSw); go_simp <;> with_reducible rfl)
  simp only [Act.put, List.setIfInBounds_toArray, List.set_cons_zero, List.set_cons_succ]
  refine wpAnyH_take (i := 14) (v := ?_) (get1 (get1 (get1 (get1 (get1 (get1 (get1 (get1 (get1 (get1 (get1 (get1 (get1 (get1 (get0 _ _))))))))))))))) (by kernel_rfl) (by kernel_rfl) (by kernel_rfl) (fun _ _ _ h => h) (Or.inl ⟨by rfl, ?_⟩) (by assumption) ?_
  rotate_left
  · (intro w hSw; (try dsimp only at hSw); go_simp <;> with_reducible rfl)
  simp only [Act.put, List.setIfInBounds_toArray, List.set_cons_zero, List.set_cons_succ]
  refine wpAnyH_take (i := 15) (v := ?_) (get1 (get1 (get1 (get1 (get1 (get1 (get1 (get1 (get1 (get1 (get1 (get1 (get1 (get1 (get1 (get0 _ _)))))))))))))))) (by kernel_rfl) (by kernel_rfl) (by kernel_rfl) (fun _ _ _ h => h) (Or.inl ⟨by rfl, ?_⟩) (by assumption) ?_
  rotate_left
  · (intro w hSw; (try dsimp only at hSw); go_simp <;> with_reducible rfl)
  simp only [Act.put, List.setIfInBounds_toArray, List.set_cons_zero, List.set_cons_succ]
  refine wpAnyH_done (by kernel_rfl) ?_ _
  clear hHeld
  have j1 := HR.out.drew.c1
  have j2 := HR.out.drew.c2
  have z1 := HR.out.drew.fz 1
  have z2 := HR.out.drew.fz 2
  clear c0 c1
  go_wp2
  go_ret
  exact ⟨rfl, HR.out.drew.spoil, gb_then (r := none) (gb_below (Below.refl _ w).drew (some br)) 2 (.bool true)⟩

set_option maxRecDepth 100000 in
set_option maxHeartbeats 2000000 in
theorem xnum_bad {w : World} {br : Nat} {s : ByteArray} {i : Nat} (h : RX w br s i true) (n : Nat) (hn : n ≤ 1000000000)  :
    Calls Tryd.prog 59 #[.pointer (some ⟨br, 0, none⟩), .int .i64 n] w fun e w' => e = .returned (.int .i64 0) ∧ RX w' br s i true ∧ w.grownBy w' (some br) := by
  have c0 := h.c0
  have c1 := h.c1
  have hi := h.le
  have HR : Hid _ := h
  have HS : Hid _ := h.sz
  have hs' : s.size ≤ 9223372036854775807 := by have := h.sz; unfold maxLen at this; omega
  clear h 
  go_enter Tryd.func59, Tryd.ntmps59
  go_wp2_with fail
  refine wp_region_held_drew (S := (fun w' : World => w'.cell? ⟨br, 0, none⟩ = some (.string s) ∧ w'.cell? ⟨br, 1, none⟩ = some (.int .i64 i))) (by kernel_rfl) ⟨c0, c1⟩ (fun hHeld => ?_)
  refine wpAnyH_take (i := 0) (v := ?_) (get0 _ _) (by kernel_rfl) (by kernel_rfl) (by kernel_rfl) (fun _ _ _ h => h) (Or.inl ⟨by rfl, ?_⟩) (by assumption) ?_
  rotate_left
  · (intro w hSw; (try dsimp only at hSw); go_simp <;> with_reducible rfl)
  simp only [Act.put, List.setIfInBounds_toArray, List.set_cons_zero, List.set_cons_succ]
  refine wpAnyH_take (i := 1) (v := ?_) (get1 (get0 _ _)) (by kernel_rfl) (by kernel_rfl) (by kernel_rfl) (fun _ _ _ h => h) (Or.inl ⟨by rfl, ?_⟩) (by assumption) ?_
  rotate_left
  · (intro w hSw; (try dsimp only at hSw); go_simp <;> with_reducible rfl)
  simp only [Act.put, List.setIfInBounds_toArray, List.set_cons_zero, List.set_cons_succ]
  refine wpAnyH_take (i := 2) (v := ?_) (get1 (get1 (get0 _ _))) (by kernel_rfl) (by kernel_rfl) (by kernel_rfl) (fun _ _ _ h => h) (Or.inl ⟨by rfl, ?_⟩) (by assumption) ?_
  rotate_left
  · (intro w hSw; (try dsimp only at hSw); go_simp <;> with_reducible rfl)
  simp only [Act.put, List.setIfInBounds_toArray, List.set_cons_zero, List.set_cons_succ]
  refine wpAnyH_take (i := 3) (v := ?_) (get1 (get1 (get1 (get0 _ _)))) (by kernel_rfl) (by kernel_rfl) (by kernel_rfl) (fun _ _ _ h => h) (Or.inl ⟨by rfl, ?_⟩) (by assumption) ?_
  rotate_left
  · (intro w hSw; (try dsimp only at hSw); go_simp <;> with_reducible rfl)
  simp only [Act.put, List.setIfInBounds_toArray, List.set_cons_zero, List.set_cons_succ]
  refine wpAnyH_take (i := 4) (v := ?_) (get1 (get1 (get1 (get1 (get0 _ _))))) (by kernel_rfl) (by kernel_rfl) (by kernel_rfl) (fun _ _ _ h => h) (Or.inl ⟨by rfl, ?_⟩) (by assumption) ?_
  rotate_left
  · (intro w hSw; (try dsimp only at hSw); go_simp <;> with_reducible rfl)
  simp only [Act.put, List.setIfInBounds_toArray, List.set_cons_zero, List.set_cons_succ]
  refine wpAnyH_take (i := 5) (v := ?_) (get1 (get1 (get1 (get1 (get1 (get0 _ _)))))) (by kernel_rfl) (by kernel_rfl) (by kernel_rfl) (fun _ _ _ h => h) (Or.inl ⟨by rfl, ?_⟩) (by assumption) ?_
  rotate_left
  · (intro w hSw; (try dsimp only at hSw); go_simp <;> with_reducible rfl)
  simp only [Act.put, List.setIfInBounds_toArray, List.set_cons_zero, List.set_cons_succ]
  refine wpAnyH_take (i := 6) (v := ?_) (get1 (get1 (get1 (get1 (get1 (get1 (get0 _ _))))))) (by kernel_rfl) (by kernel_rfl) (by kernel_rfl) (fun _ _ _ h => h) (Or.inl ⟨by rfl, ?_⟩) (by assumption) ?_
  rotate_left
  · (intro w hSw; (try dsimp only at hSw); go_simp <;> with_reducible rfl)
  simp only [Act.put, List.setIfInBounds_toArray, List.set_cons_zero, List.set_cons_succ]
  refine wpAnyH_take (i := 7) (v := ?_) (get1 (get1 (get1 (get1 (get1 (get1 (get1 (get0 _ _)))))))) (by kernel_rfl) (by kernel_rfl) (by kernel_rfl) (fun _ _ _ h => h) (Or.inl ⟨by rfl, ?_⟩) (by assumption) ?_
  rotate_left
  · (intro w hSw; (try dsimp only at hSw); go_simp <;> with_reducible rfl)
  simp only [Act.put, List.setIfInBounds_toArray, List.set_cons_zero, List.set_cons_succ]
  refine wpAnyH_ready (rs := [8]) (by kernel_rfl) (by simp) ?_
  refine AllReadyH.cons (get1 (get1 (get1 (get1 (get1 (get1 (get1 (get1 (get0 _ _))))))))) (fun K hK => ?_) AllReadyH.nil
  go_simp
  refine (reftake_any s i HS.out _).mono ?_
  rintro e y1 ⟨rfl, rfl⟩
  obtain ⟨⟨x0, x1, x2⟩, hx⟩ : ∃ x, W.take s i = x := ⟨_, rfl⟩
  rw [hx]
  clear hx
  try go_wp2_with fail
  refine hK.out _ _ hHeld (fun hHeld => ?_)
  clear hK K
  try simp only [Act.put, List.setIfInBounds_toArray, List.set_cons_zero, List.set_cons_succ]
  refine wpAnyH_take (i := 9) (v := ?_) (get1 (get1 (get1 (get1 (get1 (get1 (get1 (get1 (get1 (get0 _ _)))))))))) (by kernel_rfl) (by kernel_rfl) (by kernel_rfl) (fun _ _ _ h => h) (Or.inl ⟨by rfl, ?_⟩) (by assumption) ?_
  rotate_left
  · (intro w hSw; (try dsimp only at hSw); go_simp <;> with_reducible rfl)
  simp only [Act.put, List.setIfInBounds_toArray, List.set_cons_zero, List.set_cons_succ]
  refine wpAnyH_take (i := 10) (v := ?_) (get1 (get1 (get1 (get1 (get1 (get1 (get1 (get1 (get1 (get1 (get0 _ _))))))))))) (by kernel_rfl) (by kernel_rfl) (by kernel_rfl) (fun _ _ _ h => h) (Or.inl ⟨by rfl, ?_⟩) (by assumption) ?_
  rotate_left
  · (intro w hSw; (try dsimp only at hSw); go_simp <;> with_reducible rfl)
  simp only [Act.put, List.setIfInBounds_toArray, List.set_cons_zero, List.set_cons_succ]
  refine wpAnyH_take (i := 11) (v := ?_) (get1 (get1 (get1 (get1 (get1 (get1 (get1 (get1 (get1 (get1 (get1 (get0 _ _)))))))))))) (by kernel_rfl) (by kernel_rfl) (by kernel_rfl) (fun _ _ _ h => h) (Or.inl ⟨by rfl, ?_⟩) (by assumption) ?_
  rotate_left
  · (intro w hSw; (try dsimp only at hSw); go_simp <;> with_reducible rfl)
  simp only [Act.put, List.setIfInBounds_toArray, List.set_cons_zero, List.set_cons_succ]
  refine wpAnyH_take (i := 12) (v := ?_) (get1 (get1 (get1 (get1 (get1 (get1 (get1 (get1 (get1 (get1 (get1 (get1 (get0 _ _))))))))))))) (by kernel_rfl) (by kernel_rfl) (by kernel_rfl) (fun _ _ _ h => h) (Or.inl ⟨by rfl, ?_⟩) (by assumption) ?_
  rotate_left
  · (intro w hSw; (try dsimp only at hSw); go_simp <;> with_reducible rfl)
  simp only [Act.put, List.setIfInBounds_toArray, List.set_cons_zero, List.set_cons_succ]
  refine wpAnyH_take (i := 13) (v := ?_) (get1 (get1 (get1 (get1 (get1 (get1 (get1 (get1 (get1 (get1 (get1 (get1 (get1 (get0 _ _)))))))))))))) (by kernel_rfl) (by kernel_rfl) (by kernel_rfl) (fun _ _ _ h => h) (Or.inl ⟨by rfl, ?_⟩) (by assumption) ?_
  rotate_left
  · (intro w hSw; (try dsimp only at hSw); go_simp <;> with_reducible rfl)
  simp only [Act.put, List.setIfInBounds_toArray, List.set_cons_zero, List.set_cons_succ]
  refine wpAnyH_take (i := 14) (v := ?_) (get1 (get1 (get1 (get1 (get1 (get1 (get1 (get1 (get1 (get1 (get1 (get1 (get1 (get1 (get0 _ _))))))))))))))) (by kernel_rfl) (by kernel_rfl) (by kernel_rfl) (fun _ _ _ h => h) (Or.inl ⟨by rfl, ?_⟩) (by assumption) ?_
  rotate_left
  · (intro w hSw; (try dsimp only at hSw); go_simp <;> with_reducible rfl)
  simp only [Act.put, List.setIfInBounds_toArray, List.set_cons_zero, List.set_cons_succ]
  refine wpAnyH_take (i := 15) (v := ?_) (get1 (get1 (get1 (get1 (get1 (get1 (get1 (get1 (get1 (get1 (get1 (get1 (get1 (get1 (get1 (get0 _ _)))))))))))))))) (by kernel_rfl) (by kernel_rfl) (by kernel_rfl) (fun _ _ _ h => h) (Or.inl ⟨by rfl, ?_⟩) (by assumption) ?_
  rotate_left
  · (intro w hSw; (try dsimp only at hSw); go_simp <;> with_reducible rfl)
  simp only [Act.put, List.setIfInBounds_toArray, List.set_cons_zero, List.set_cons_succ]
  refine wpAnyH_done (by kernel_rfl) ?_ _
  clear hHeld
  have j1 := HR.out.drew.c1
  have j2 := HR.out.drew.c2
  have z1 := HR.out.drew.fz 1
  have z2 := HR.out.drew.fz 2
  clear c0 c1
  go_wp2
  go_ret
  exact ⟨rfl, HR.out.drew.spoil, gb_then (r := none) (gb_below (Below.refl _ w).drew (some br)) 2 (.bool true)⟩

theorem xnum_any {w : World} {br : Nat} {s : ByteArray} {i : Nat} (h : RX w br s i false) (n : Nat) (hm : n ≤ 1000000000) :
    Calls Tryd.prog 59 #[.pointer (some ⟨br, 0, none⟩), .int .i64 n] w fun e w' => GoodR w br s (rdUp s i n) (Value.int .i64) (.int .i64 0) e w' := by
  cases hx : W.takeG 0 0 (W.tail s i) with
  | none =>
    refine (xnum_no h n hm hx).mono ?_
    rintro e w' ⟨rfl, hf, hg⟩
    exact ⟨.inr ⟨by unfold rdUp; rw [hx], rfl, _, hf⟩, hg⟩
  | some p =>
    obtain ⟨x, m⟩ := p
    have hx0 := takeG_nonneg _ _ _ _ _ (fun c hc => (W.tail_bd s i c hc).1) (by decide) hx
    by_cases hle : x ≤ n
    · refine (xnum_yes h n hm x m hx hx0 hle).mono ?_
      rintro e w' ⟨rfl, hr, hg⟩
      exact ⟨.inl ⟨x, i + m, by unfold rdUp; rw [hx]; exact if_pos hle, rfl, hr⟩, hg⟩
    · refine (xnum_big h n hm x m hx (by omega)).mono ?_
      rintro e w' ⟨rfl, hf, hg⟩
      exact ⟨.inr ⟨by unfold rdUp; rw [hx]; exact if_neg hle, rfl, _, hf⟩, hg⟩

set_option maxRecDepth 100000 in
set_option maxHeartbeats 2000000 in
theorem xbytes_yes {w : World} {br : Nat} {s : ByteArray} {i : Nat} (h : RX w br s i false) (n : Nat) (hn : i + n ≤ s.size) :
    Calls Tryd.prog 58 #[.pointer (some ⟨br, 0, none⟩), .int .i64 n] w fun e w' => e = .returned (.string (sub s i n)) ∧ RX w' br s (i + n) false ∧ w.grownBy w' (some br) := by
  have c0 := h.c0
  have c1 := h.c1
  have c2 := h.c2
  have hi := h.le
  have z1 := h.fz 1
  have z2 := h.fz 2
  have HR : Hid _ := h
  have hs' : s.size ≤ 9223372036854775807 := by have := h.sz; unfold maxLen at this; omega
  have d0 : decide ((s.size : Int) - i < n) = false := by simp; omega
  obtain ⟨k, hk⟩ : ∃ k, i + n = k := ⟨_, rfl⟩
  rw [hk]
  have hkk : (i : Int) + n = (k : Int) := by omega
  have hlow : (k : Int) - n = i := by omega
  have hks : (k : Int) ≤ s.size := by omega
  have hik : (i : Int) ≤ k := by omega
  have HSUB : Hid (sub s i n = s.extract i k) := by show _ = _; unfold sub; rw [hk]
  have HK : Hid (k ≤ s.size) := by show k ≤ _; omega
  clear hk
  clear h
  go_enter Tryd.func58, Tryd.ntmps58
  go_wp2_with fail
  go_quiet (fail)
  go_wp2_with fail
  have HRY : Hid _ := (HR.out.drewN nq).set k HK.out
  have HGY : Hid _ := gb_then (r := none) (gb_below (bl_drewN (Below.refl _ w) nq) (some br)) 1 (.int .i64 k)
  obtain ⟨Y, hY⟩ : ∃ Y, (w.drewN nq).setCell ⟨br, 1, none⟩ (.int .i64 k) = Y := ⟨_, rfl⟩
  rw [hY] at HRY HGY ⊢
  have e0 := HRY.out.c0
  have e1 := HRY.out.c1
  clear c0 c1 c2 z1 z2 hkk
  go_quiet (fail)
  go_wp2
  go_ret
  exact ⟨by rw [HSUB.out]; rfl, HRY.out.drewN _, grown_trans HGY.out (gb_below (bl_drewN (Below.refl _ Y) _) (some br))⟩

set_option maxRecDepth 100000 in
set_option maxHeartbeats 2000000 in
theorem xbytes_no {w : World} {br : Nat} {s : ByteArray} {i : Nat} (h : RX w br s i false) (n : Nat) (hn : s.size < i + n) (hm : n ≤ 1000000000) :
    Calls Tryd.prog 58 #[.pointer (some ⟨br, 0, none⟩), .int .i64 n] w fun e w' => e = .returned (.string { data := #[] }) ∧ RX w' br s i true ∧ w.grownBy w' (some br) := by
  have c0 := h.c0
  have c1 := h.c1
  have c2 := h.c2
  have hi := h.le
  have z1 := h.fz 1
  have z2 := h.fz 2
  have HR : Hid _ := h
  have hs' : s.size ≤ 9223372036854775807 := by have := h.sz; unfold maxLen at this; omega
  have d0 : decide ((s.size : Int) - i < n) = true := by simp; omega
  clear h
  go_enter Tryd.func58, Tryd.ntmps58
  go_wp2_with fail
  go_quiet (fail)
  go_wp2
  go_ret
  exact ⟨rfl, (HR.out.drewN _).spoil, gb_then (r := none) (gb_below (bl_drewN (Below.refl _ w) _) (some br)) 2 (.bool true)⟩

set_option maxRecDepth 100000 in
set_option maxHeartbeats 2000000 in
theorem xbytes_bad {w : World} {br : Nat} {s : ByteArray} {i : Nat} (h : RX w br s i true) (n : Nat)  :
    Calls Tryd.prog 58 #[.pointer (some ⟨br, 0, none⟩), .int .i64 n] w fun e w' => e = .returned (.string { data := #[] }) ∧ RX w' br s i true ∧ w.grownBy w' (some br) := by
  have c0 := h.c0
  have c1 := h.c1
  have c2 := h.c2
  have hi := h.le
  have z1 := h.fz 1
  have z2 := h.fz 2
  have HR : Hid _ := h
  have hs' : s.size ≤ 9223372036854775807 := by have := h.sz; unfold maxLen at this; omega
  clear h
  go_enter Tryd.func58, Tryd.ntmps58
  go_wp2_with fail
  go_quiet (fail)
  go_wp2
  go_ret
  exact ⟨rfl, (HR.out.drewN _).spoil, gb_then (r := none) (gb_below (bl_drewN (Below.refl _ w) _) (some br)) 2 (.bool true)⟩

theorem xbytes_any {w : World} {br : Nat} {s : ByteArray} {i : Nat} (h : RX w br s i false) (n : Nat) (hm : n ≤ 1000000000) :
    Calls Tryd.prog 58 #[.pointer (some ⟨br, 0, none⟩), .int .i64 n] w fun e w' => GoodR w br s (rdTake s i n) Value.string (.string { data := #[] }) e w' := by
  by_cases hn : i + n ≤ s.size
  · refine (xbytes_yes h n hn).mono ?_
    rintro e w' ⟨rfl, hr, hg⟩
    exact ⟨.inl ⟨_, _, if_pos hn, rfl, hr⟩, hg⟩
  · refine (xbytes_no h n (by omega) hm).mono ?_
    rintro e w' ⟨rfl, hf, hg⟩
    exact ⟨.inr ⟨if_neg hn, rfl, _, hf⟩, hg⟩

set_option maxRecDepth 100000 in
set_option maxHeartbeats 2000000 in
theorem xone_any {w : World} {br : Nat} {s : ByteArray} {i : Nat} (h : RX w br s i false) :
    Calls Tryd.prog 61 #[.pointer (some ⟨br, 0, none⟩)] w fun e w' => GoodR w br s (rdKind s i) (Value.int .i64) (.int .i64 0) e w' := by
  have HR : Hid _ := h
  clear h
  go_enter Tryd.func61, Tryd.ntmps61
  go_wp2_with fail
  refine (xbytes_any HR.out 1 (by decide)).mono ?_
  rintro e w1 ⟨⟨t, j, hf, rfl, hr⟩ | ⟨hf, rfl, j, hr⟩, hg⟩
  · have hsz : t.size = 1 := by
      unfold rdTake at hf
      split at hf
      · next hle => simp at hf; rw [← hf.1]; exact sub_size hle
      · cases hf
    have HF : Hid (rdKind s i = some ((t[0].toNat : Int), j)) := by
      show _ = _
      simp only [rdKind, hf, nums, W.tail_cons t 0 (by omega)]
      rfl
    have HR1 : Hid _ := hr
    have HG : Hid _ := hg
    have hne : t.toList.isEmpty = false := by
      rw [ByteArray.toList_eq]
      cases hl : t.data.toList with
      | nil => have := congrArg List.length hl; simp at this; simp [this] at hsz
      | cons _ _ => rfl
    have hb := UInt8.toNat_lt t[0]
    clear hf hr hg
    go_wp2
    go_ret
    exact ⟨.inl ⟨_, _, HF.out, rfl, HR1.out⟩, HG.out⟩
  · have HF : Hid (rdKind s i = none) := by show _ = _; unfold rdKind; rw [hf]
    clear hf
    go_wp2
    go_ret
    exact ⟨.inr ⟨HF.out, rfl, j, hr⟩, hg⟩
set_option maxRecDepth 100000 in
theorem xone_bad {w : World} {br : Nat} {s : ByteArray} {i : Nat} (h : RX w br s i true) :
    Calls Tryd.prog 61 #[.pointer (some ⟨br, 0, none⟩)] w fun e w' => BadR w br s (.int .i64 0) e w' := by
  have HR : Hid _ := h
  clear h
  go_enter Tryd.func61, Tryd.ntmps61
  go_wp2_with fail
  refine (xbytes_bad HR.out 1).mono ?_
  rintro e w1 ⟨rfl, hr, hg⟩
  go_wp2
  go_ret
  exact ⟨rfl, ⟨_, hr⟩, hg⟩
set_option maxRecDepth 100000 in
set_option maxHeartbeats 2000000 in
theorem xwide_any {w : World} {br : Nat} {s : ByteArray} {i : Nat} (h : RX w br s i false) :
    Calls Tryd.prog 60 #[.pointer (some ⟨br, 0, none⟩)] w fun e w' => GoodR w br s (rdLong s i) (Value.int .i64) (.int .i64 0) e w' := by
  have HR : Hid _ := h
  clear h
  go_enter Tryd.func60, Tryd.ntmps60
  go_wp2_with fail
  refine (xbytes_any HR.out 8 (by decide)).mono ?_
  rintro e w1 ⟨⟨t, j, hf, rfl, hr⟩ | ⟨hf, rfl, j, hr⟩, hg⟩
  · have HF : Hid (rdLong s i = some (W.numV t, j)) := by show _ = _; unfold rdLong; rw [hf]
    have HR1 : Hid _ := hr
    have HG : Hid _ := hg
    clear hf hr hg
    go_wp2_with fail
    refine (rnumber_any t _).mono ?_
    rintro e w2 ⟨rfl, rfl⟩
    go_wp2
    go_ret
    exact ⟨.inl ⟨_, _, HF.out, rfl, HR1.out⟩, HG.out⟩
  · have HF : Hid (rdLong s i = none) := by show _ = _; unfold rdLong; rw [hf]
    clear hf
    go_wp2_with fail
    refine (rnumber_any _ _).mono ?_
    rintro e w2 ⟨rfl, rfl⟩
    rw [show W.numV { data := #[] } = 0 from rfl]
    go_wp2
    go_ret
    exact ⟨.inr ⟨HF.out, rfl, j, hr⟩, hg⟩
set_option maxRecDepth 100000 in
theorem xwide_bad {w : World} {br : Nat} {s : ByteArray} {i : Nat} (h : RX w br s i true) :
    Calls Tryd.prog 60 #[.pointer (some ⟨br, 0, none⟩)] w fun e w' => BadR w br s (.int .i64 0) e w' := by
  have HR : Hid _ := h
  clear h
  go_enter Tryd.func60, Tryd.ntmps60
  go_wp2_with fail
  refine (xbytes_bad HR.out 8).mono ?_
  rintro e w1 ⟨rfl, hr, hg⟩
  go_wp2_with fail
  refine (rnumber_any _ _).mono ?_
  rintro e w2 ⟨rfl, rfl⟩
  rw [show W.numV { data := #[] } = 0 from rfl]
  go_wp2
  go_ret
  exact ⟨rfl, ⟨_, hr⟩, hg⟩

end Go.Proofs.YtmplnkfjaeegdaaDoor

/- What the document's reading keeps: its reader, its rows, its boxes. -/
namespace Go.Proofs.YtmplnkfjaeegdaaDoor
set_option maxRecDepth 100000
open Go.RowKit Go.Maps Go.Lib
set_option linter.unusedVariables false

structure FS (w : World) (B : Nat) (x : World) (br : Nat) (s : ByteArray) (i : Nat) (bad : Bool) (rs : List Row) (bs : List (Nat × List Value)) : Prop where
  rd : RX x br s i bad
  g : w.grownBy x (some br)
  own : ∀ (k : Nat) (r : Row), rs[k]? = some r → x.ownsRow B r.ty r.k r.v r.n r.cs
  dis : ∀ (k l : Nat) (r q : Row), rs[k]? = some r → rs[l]? = some q → k ≠ l → ∀ b, r.v.ownBlock = some b → q.v.ownBlock ≠ some b
  box : ∀ (m : Nat) (p : Nat × List Value), bs[m]? = some p → Cells x p.1 p.2 ∧ (∀ o, x.frozen? ⟨p.1, o, none⟩ = false) ∧ p.1 < x.heap.size ∧ p.1 ≠ br ∧ w.heap.size ≤ p.1
  far : ∀ (m k : Nat) (p : Nat × List Value) (r : Row), bs[m]? = some p → rs[k]? = some r → r.v.ownBlock ≠ some p.1
  nd : ∀ (m l : Nat) (p q : Nat × List Value), bs[m]? = some p → bs[l]? = some q → m ≠ l → p.1 ≠ q.1
  lt : br < B
  Bx : B ≤ x.heap.size
  wB : w.heap.size ≤ B

theorem FS.call {w x y : World} {B br : Nat} {s : ByteArray} {i j : Nat} {b b' : Bool} {rs : List Row} {bs : List (Nat × List Value)} (h : FS w B x br s i b rs bs) (hr : RX y br s j b') (hg : x.grownBy y (some br)) : FS w B y br s j b' rs bs :=
  have hl := h.lt
  { rd := hr, g := grown_trans h.g hg, own := fun k r hk => (h.own k r hk).kept hg (.inr fun e => by have := ((h.own k r hk).lt _ e).1; omega), dis := h.dis, far := h.far, nd := h.nd, lt := h.lt, wB := h.wB, Bx := Nat.le_trans h.Bx hg.size,
    box := fun m p hp => by
      obtain ⟨h1, h2, h3, h4, h5⟩ := h.box m p hp
      exact ⟨fun j u hu => grown_cell hg (h1 j u hu) h4, fun o => grown_froz hg h3 h4 (h2 o), Nat.lt_of_lt_of_le h3 hg.size, h4, h5⟩ }
theorem FS.below {w x y : World} {B br : Nat} {s : ByteArray} {i : Nat} {b : Bool} {rs : List Row} {bs : List (Nat × List Value)} (h : FS w B x br s i b rs bs) (hb : Below x.heap.size x y) : FS w B y br s i b rs bs := h.call (h.rd.below hb) (gb_below hb _)
theorem FS.alloc {w x : World} {B br : Nat} {s : ByteArray} {i : Nat} {b : Bool} {rs : List Row} {bs : List (Nat × List Value)} (h : FS w B x br s i b rs bs) (a : Array Value) (t : TypeId) : FS w B (x.alloc (.cells a t)) br s i b rs ((x.heap.size, a.toList) :: bs) := by
  have k := h.below (bl_one x (.cells a t))
  have hlt := h.rd.lt
  refine { rd := k.rd, g := k.g, own := k.own, dis := k.dis, lt := k.lt, Bx := k.Bx, wB := k.wB, box := fun m p hp => ?_, far := fun m n p r hp hr => ?_, nd := fun m l p q hp hq hml => ?_ }
  · cases m with
    | zero =>
      simp at hp
      subst hp
      exact ⟨fun j u hu => cell_last rfl (by simpa using hu), fun o => World.frozen?_alloc_at _ _ _ _ rfl, by simp, by show x.heap.size ≠ br; omega, Nat.le_trans h.wB h.Bx⟩
    | succ m => exact k.box m p (by simpa using hp)
  · cases m with
    | zero =>
      simp at hp
      subst hp
      intro e
      have := ((h.own n r hr).lt _ e).2
      simp at this
    | succ m => exact h.far m n p r (by simpa using hp) hr
  · cases m with
    | zero =>
      cases l with
      | zero => exact absurd rfl hml
      | succ l =>
        simp at hp
        subst hp
        have := (h.box l q (by simpa using hq)).2.2.1
        show x.heap.size ≠ q.1
        omega
    | succ m =>
      cases l with
      | zero =>
        simp at hq
        subst hq
        have := (h.box m p (by simpa using hp)).2.2.1
        show p.1 ≠ x.heap.size
        omega
      | succ l => exact h.nd m l p q (by simpa using hp) (by simpa using hq) (by omega)
theorem FS.drop {w x : World} {B br : Nat} {s : ByteArray} {i : Nat} {b : Bool} {rs : List Row} {p : Nat × List Value} {bs : List (Nat × List Value)} (h : FS w B x br s i b rs (p :: bs)) : FS w B x br s i b rs bs :=
  { rd := h.rd, g := h.g, own := h.own, dis := h.dis, lt := h.lt, Bx := h.Bx, wB := h.wB, box := fun m q hq => h.box (m + 1) q (by simpa using hq), far := fun m k q r hq hr => h.far (m + 1) k q r (by simpa using hq) hr, nd := fun m l q r hq hr hml => h.nd (m + 1) (l + 1) q r (by simpa using hq) (by simpa using hr) (by omega) }
theorem FS.put {w x : World} {B br : Nat} {s : ByteArray} {i : Nat} {b : Bool} {rs : List Row} {bs : List (Nat × List Value)} (h : FS w B x br s i b rs bs) (m z : Nat) (vs : List Value) (hm : bs[m]? = some (z, vs)) (k : Nat) (hk : k < vs.length) (u : Value) : FS w B (x.setCell ⟨z, k, none⟩ u) br s i b rs (bs.set m (z, vs.set k u)) := by
  obtain ⟨h1, h2, h3, h4, h5⟩ := h.box m (z, vs) hm
  simp only at h1 h2 h3 h4 h5
  have hml : m < bs.length := (List.getElem?_eq_some_iff.1 hm).1
  have at' : ∀ l q, (bs.set m (z, vs.set k u))[l]? = some q → (l = m ∧ q = (z, vs.set k u)) ∨ (l ≠ m ∧ bs[l]? = some q) := fun l q hq => by
    by_cases e : m = l
    · subst e
      rw [List.getElem?_set_self hml] at hq
      exact .inl ⟨rfl, by simpa using hq.symm⟩
    · rw [List.getElem?_set_ne e] at hq
      exact .inr ⟨fun e' => e e'.symm, hq⟩
  have gz := gb_setO x ⟨z, k, none⟩ u
  refine { rd := h.rd.grown gz (by simpa using h4), g := grown_into h.g gz (fun b e => by cases e; exact h5), own := fun n r hr => (h.own n r hr).kept gz (.inr (h.far m n (z, vs) r hm hr)), dis := h.dis, lt := h.lt, Bx := by rw [World.size_setCell]; exact h.Bx, wB := h.wB, box := fun l q hq => ?_, far := fun l n q r hq hr => ?_, nd := fun l n p q hp hq hln => ?_ }
  · rcases at' l q hq with ⟨rfl, rfl⟩ | ⟨hne, hq'⟩
    · refine ⟨fun j v hv => ?_, fun o => by rw [World.frozen?_setCell]; exact h2 o, by rw [World.size_setCell]; exact h3, h4, h5⟩
      by_cases e : k = j
      · subst e
        rw [List.getElem?_set_self hk] at hv
        cases hv
        refine World.cell?_setCell_same' _ _ _ ?_
        rw [h1 k vs[k] (by simp [hk])]
        rfl
      · rw [List.getElem?_set_ne e] at hv
        rw [World.cell?_setCell_other _ _ _ _ (fun e' => e (by have := congrArg Addr.off e'; simpa using this))]
        exact h1 j v hv
    · obtain ⟨g1, g2, g3, g4, g5⟩ := h.box l q hq'
      have hzq := h.nd m l (z, vs) q hm hq' (fun e => hne e.symm)
      exact ⟨fun j v hv => (World.cell?_setCell_far _ _ _ _ hzq).trans (g1 j v hv), fun o => by rw [World.frozen?_setCell]; exact g2 o, by rw [World.size_setCell]; exact g3, g4, g5⟩
  · rcases at' l q hq with ⟨rfl, rfl⟩ | ⟨hne, hq'⟩
    · exact h.far l n (z, vs) r hm hr
    · exact h.far l n q r hq' hr
  · rcases at' l p hp with ⟨rfl, rfl⟩ | ⟨hne, hp'⟩
    · rcases at' n q hq with ⟨rfl, rfl⟩ | ⟨hne', hq'⟩
      · exact absurd rfl hln
      · exact h.nd l n (z, vs) q hm hq' hln
    · rcases at' n q hq with ⟨rfl, rfl⟩ | ⟨hne', hq'⟩
      · exact h.nd l n p (z, vs) hp' hm hln
      · exact h.nd l n p q hp' hq' hln
theorem FS.push {w x y : World} {B br : Nat} {s : ByteArray} {i : Nat} {b : Bool} {rs : List Row} {bs : List (Nat × List Value)} (h : FS w B x br s i b rs bs) {k : Nat} {r : Row} (hk : rs[k]? = some r) {g n cap : Nat} {cs : List Value} {H : Nat} (ho : y.ownsRow B r.ty r.k (.slice (some ⟨g, 0, none⟩) n cap) n cs) (hg : x.grownBy y r.v.ownBlock) (hat : r.v.ownBlock = some g ∨ g = H) (hH : x.heap.size = H) :
    FS w B y br s i b (rs.set k ⟨r.ty, r.k, .slice (some ⟨g, 0, none⟩) n cap, n, cs⟩) bs := by
  subst hH
  have hl := h.lt
  have hwB := h.wB
  have hor := h.own k r hk
  have hrb : ∀ b, r.v.ownBlock = some b → B ≤ b := fun b e => (hor.lt b e).1
  have nbr : r.v.ownBlock ≠ some br := fun e => by have := hrb _ e; omega
  have hkl : k < rs.length := (List.getElem?_eq_some_iff.1 hk).1
  have row : ∀ l q, (rs.set k ⟨r.ty, r.k, .slice (some ⟨g, 0, none⟩) n cap, n, cs⟩)[l]? = some q → (l = k ∧ q = ⟨r.ty, r.k, .slice (some ⟨g, 0, none⟩) n cap, n, cs⟩) ∨ (l ≠ k ∧ rs[l]? = some q) := fun l q hq => by
    by_cases e : k = l
    · subst e
      rw [List.getElem?_set_self hkl] at hq
      exact .inl ⟨rfl, by simpa using hq.symm⟩
    · rw [List.getElem?_set_ne e] at hq
      exact .inr ⟨fun e' => e e'.symm, hq⟩
  refine { rd := h.rd.grown hg nbr, g := grown_into h.g hg (fun b e => by have := hrb b e; omega), own := fun l q hq => ?_, dis := fun l m q p hq hp hlm b hb => ?_, lt := h.lt, Bx := Nat.le_trans h.Bx hg.size, wB := h.wB, nd := h.nd, box := fun m p hp => ?_, far := fun m l p q hp hq => ?_ }
  · rcases row l q hq with ⟨rfl, rfl⟩ | ⟨hne, hq'⟩
    · exact ho
    · refine (h.own l q hq').kept hg ?_
      cases e : q.v.ownBlock with
      | none => exact .inl rfl
      | some b => exact .inr fun e' => h.dis l k q r hq' hk hne b e e'.symm
  · rcases row l q hq with ⟨rfl, rfl⟩ | ⟨hne, hq'⟩
    · rcases row m p hp with ⟨rfl, rfl⟩ | ⟨hne', hp'⟩
      · exact absurd rfl hlm
      · have : g = b := by simpa [Value.ownBlock] using hb
        subst this
        intro e
        rcases hat with h1 | h1
        · exact h.dis m l p r hp' hk hne' g e h1
        · have := ((h.own m p hp').lt _ e).2
          omega
    · rcases row m p hp with ⟨rfl, rfl⟩ | ⟨hne', hp'⟩
      · intro e
        have : g = b := by simpa [Value.ownBlock] using e
        subst this
        rcases hat with h1 | h1
        · exact h.dis l m q r hq' hk hne g hb h1
        · have := ((h.own l q hq').lt _ hb).2
          omega
      · exact h.dis l m q p hq' hp' hlm b hb
  · obtain ⟨h1, h2, h3, h4, h5⟩ := h.box m p hp
    have hne := h.far m k p r hp hk
    exact ⟨fun j u hu => grown_row hg (h1 j u hu) hne, fun o => (hg.frozen_far ⟨p.1, o, none⟩ h3 (fun e => hne e.symm)).trans (h2 o), Nat.lt_of_lt_of_le h3 hg.size, h4, h5⟩
  · rcases row l q hq with ⟨rfl, rfl⟩ | ⟨hne, hq'⟩
    · intro e
      have e' : g = p.1 := by simpa [Value.ownBlock] using e
      subst e'
      rcases hat with h1 | h1
      · exact h.far m l p r hp hk h1
      · have := (h.box m p hp).2.2.1
        omega
    · exact h.far m l p q hp hq'

end Go.Proofs.YtmplnkfjaeegdaaDoor

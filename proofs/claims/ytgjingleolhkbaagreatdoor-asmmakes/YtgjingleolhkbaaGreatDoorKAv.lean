/- What the document's named, Syms, May and Check come to. (Written by gen_rmay.py.) -/
import Derived.Test.YtgjingleolhkbaaGreatDoorKAu
import Derived.Test.YtgjingleolhkbaaGreatDoorKAs
namespace Go.Proofs.YtgjingleolhkbaaGreatDoor.O
open Go.RowKit Go.Maps Go.Lib
set_option linter.unusedVariables false

set_option maxRecDepth 100000 in
theorem named_any (s : ByteArray) (w : World) : Calls Tryz.prog 40 #[.string s] w fun e w' => e = .returned (.bool (nameOk s)) ∧ w' = w := by
  have HD : Hid (nameOk s = (decide ((1 : Int) ≤ s.size) && decide ((s.size : Int) ≤ 28))) := by
    show _ = _
    unfold nameOk
    congr 1 <;> exact decide_eq_decide.2 (by omega)
  go_enter Tryz.func40, Tryz.ntmps40
  by_cases h1 : 1 ≤ s.size
  · by_cases h2 : s.size ≤ 28
    · have d1 : decide ((1 : Int) ≤ s.size) = true := decide_eq_true (by omega)
      have d2 : decide ((s.size : Int) ≤ 28) = true := decide_eq_true (by omega)
      go_wp2
      go_ret
      exact ⟨by rw [HD.out, d1, d2]; rfl, rfl⟩
    · have d1 : decide ((1 : Int) ≤ s.size) = true := decide_eq_true (by omega)
      have d2 : decide ((s.size : Int) ≤ 28) = false := decide_eq_false (by omega)
      go_wp2
      go_ret
      exact ⟨by rw [HD.out, d1, d2]; rfl, rfl⟩
  · have d1 : decide ((1 : Int) ≤ s.size) = false := decide_eq_false (by omega)
    go_wp2
    go_ret
    exact ⟨by rw [HD.out, d1]; rfl, rfl⟩

theorem room_none {cl dl : Nat} {k : Int} (h : k < 1 ∨ 3 < k) : roomOf cl dl k = 0 := by unfold roomOf; rw [if_neg (by omega), if_neg (by omega)]
theorem room_code {cl dl : Nat} {k : Int} (h : k = 1 ∨ k = 3) : roomOf cl dl k = cl := by unfold roomOf; rw [if_pos h]
theorem room_data (cl dl : Nat) : roomOf cl dl 2 = dl := by unfold roomOf; rw [if_neg (by omega), if_pos rfl]
theorem dec_no {x r : Int} (h : ¬ (0 ≤ x ∧ x < r)) : (decide (0 ≤ x) && decide (x < r)) = false := by
  rw [Bool.and_eq_false_iff, decide_eq_false_iff_not, decide_eq_false_iff_not]
  omega
theorem dec_yes {x r : Int} (h : 0 ≤ x ∧ x < r) : (decide (0 ≤ x) && decide (x < r)) = true := by
  rw [decide_eq_true h.1, decide_eq_true h.2]
  rfl
theorem symAt_parts (cl dl : Nat) (ss : List Sym) (k : Nat) {nm : ByteArray} {kd ps : Int} (h : ss.getD k noSym = ⟨nm, kd, ps⟩) :
    (symOk cl dl ⟨nm, kd, ps⟩ = false → symAt cl dl ss k = false) ∧ (∀ j, j < k → (ss.getD j noSym).name = nm → symAt cl dl ss k = false) ∧ (symOk cl dl ⟨nm, kd, ps⟩ = true → (∀ j, j < k → (ss.getD j noSym).name ≠ nm) → symAt cl dl ss k = true) := by
  unfold symAt
  rw [h]
  refine ⟨fun e => by rw [e, Bool.and_false], fun j hj e => ?_, fun e hall => ?_⟩
  · rw [all_range_no hj (by simpa using e), Bool.false_and]
  · rw [e, Bool.and_true]
    exact all_range_yes (fun j hj => by simpa using hall j hj)
theorem syms_not {cl dl : Nat} {ss : List Sym} {k : Nat} (hk : k < ss.length) (h : symAt cl dl ss k = false) : symsOk cl dl ss = false := by
  unfold symsOk
  rw [all_range_no hk h, Bool.and_false]

set_option maxRecDepth 100000 in
set_option maxHeartbeats 8000000 in
theorem rsyms_any {w : World} {a : Option Addr} {l c : Nat} {ss : List Sym} (cl dl : Nat) (h : SymsV w a l c ss) :
    Calls Tryz.prog 39 #[.slice a l c, .int .i64 cl, .int .i64 dl] w fun e w' => e = .returned (.bool (symsOk cl dl ss)) ∧ Below w.heap.size w w' := by
  have HV : Hid _ := h
  have hcnt := h.count
  clear h
  go_enter Tryz.func39, Tryz.ntmps39
  by_cases hl : l ≤ 1000
  rotate_left
  · have hd : decide ((1000 : Int) < l) = true := decide_eq_true (by omega)
    have HNO : Hid (symsOk cl dl ss = false) := by show _ = _; unfold symsOk; rw [decide_eq_false (by omega), Bool.false_and]
    go_wp2
    go_ret
    exact ⟨by rw [HNO.out]; rfl, Below.refl _ _⟩
  have hd : decide ((1000 : Int) < l) = false := decide_eq_false (by omega)
  go_wp2_with fail
  go_loopg [7] l (fun r iv wq => ∃ (k : Nat), iv = .int .i64 k ∧ k ≤ l ∧ l - k ≤ r ∧ Hid (∀ i, i < k → symAt cl dl ss i = true) ∧ Hid (Below w.heap.size w wq))
  case atStart => exact ⟨0, rfl, Nat.zero_le _, by omega, (fun i hi => by omega : ∀ i, i < 0 → symAt cl dl ss i = true), Below.refl _ _⟩
  case round =>
    obtain ⟨k, rfl, hk, hr, HAL, HBL⟩ := hrel
    by_cases hlt : k < l
    · rcases HV.out.cells with h0 | ⟨b, off, hA, hc⟩
      · omega
      obtain ⟨k0, k1, k2⟩ := hc k hlt
      have hbl : b < w.heap.size := World.block_lt_of_cell? w ⟨b, off + k * 3, none⟩ k0
      have q0 := (HBL.out.cell (p := ⟨b, off + k * 3, none⟩) hbl).trans k0
      have q1 := (HBL.out.cell (p := ⟨b, off + k * 3 + 1, none⟩) hbl).trans k1
      have q2 := (HBL.out.cell (p := ⟨b, off + k * 3 + 2, none⟩) hbl).trans k2
      have HCN : Hid (∀ j, j < l → w.cell? ⟨b, off + j * 3, none⟩ = some (.string (ss.getD j noSym).name)) := fun j hj => (hc j hj).1
      obtain ⟨⟨xn, xk, xp⟩, hx⟩ : ∃ x, ss.getD k noSym = x := ⟨_, rfl⟩
      rw [hx] at q0 q1 q2
      simp only at q0 q1 q2
      have HPT : Hid _ := symAt_parts cl dl ss k hx
      have HKL : Hid (k < ss.length) := by show k < _; omega
      subst hA
      have hii : (k : Int) < l := by omega
      have hin : 0 ≤ (k : Int) := by omega
      clear hc k0 k1 k2 hx
      have HBY : Hid (Below w.heap.size w (wr.alloc (.cells #[.string xn, .int .i64 xk, .int .i64 xp] 69))) := HBL.out.trans ((bl_one wr _).mono HBL.out.size)
      have HOK : Hid (symOk cl dl ⟨xn, xk, xp⟩ = (nameOk xn && (decide (0 ≤ xp) && decide (xp < roomOf cl dl xk)))) := rfl
      cases hnk : nameOk xn with
      | false =>
        have HNM : Hid _ := hnk
        have HNO : Hid (symsOk cl dl ss = false) := syms_not HKL.out (HPT.out.1 (by rw [HOK.out, hnk, Bool.false_and]))
        clear hnk
        go_wp2_with (go_at_call 40; refine (named_any _ _).mono ?_; rintro e y ⟨rfl, rfl⟩; rw [HNM.out])
        go_ret
        exact ⟨by rw [HNO.out]; rfl, HBY.out⟩
      | true =>
      have HNM : Hid _ := hnk
      rw [hnk, Bool.true_and] at HOK
      clear hnk
      by_cases g1 : xk < 1
      · have d1 : decide (xk < 1) = true := decide_eq_true g1
        have HNO : Hid (symsOk cl dl ss = false) := syms_not HKL.out (HPT.out.1 (by rw [HOK.out, room_none (by omega)]; exact dec_no (by omega)))
        go_wp2_with (go_at_call 40; refine (named_any _ _).mono ?_; rintro e y ⟨rfl, rfl⟩; rw [HNM.out])
        go_ret
        exact ⟨by rw [HNO.out]; rfl, HBY.out⟩
      have d1 : decide (xk < 1) = false := decide_eq_false g1
      by_cases g2 : 3 < xk
      · have d2 : decide (3 < xk) = true := decide_eq_true g2
        have HNO : Hid (symsOk cl dl ss = false) := syms_not HKL.out (HPT.out.1 (by rw [HOK.out, room_none (by omega)]; exact dec_no (by omega)))
        go_wp2_with (go_at_call 40; refine (named_any _ _).mono ?_; rintro e y ⟨rfl, rfl⟩; rw [HNM.out])
        go_ret
        exact ⟨by rw [HNO.out]; rfl, HBY.out⟩
      have d2 : decide (3 < xk) = false := decide_eq_false g2
      by_cases g3 : xp < 0
      · have d3 : decide (xp < 0) = true := decide_eq_true g3
        have HNO : Hid (symsOk cl dl ss = false) := syms_not HKL.out (HPT.out.1 (by rw [HOK.out]; exact dec_no (by omega)))
        go_wp2_with (go_at_call 40; refine (named_any _ _).mono ?_; rintro e y ⟨rfl, rfl⟩; rw [HNM.out])
        go_ret
        exact ⟨by rw [HNO.out]; rfl, HBY.out⟩
      have d3 : decide (xp < 0) = false := decide_eq_false g3
      by_cases g4 : xk = 2
      · subst g4
        by_cases g5 : (dl : Int) ≤ xp
        · have d5 : decide ((dl : Int) ≤ xp) = true := decide_eq_true g5
          have HNO : Hid (symsOk cl dl ss = false) := syms_not HKL.out (HPT.out.1 (by rw [HOK.out, room_data]; exact dec_no (by omega)))
          go_wp2_with (go_at_call 40; refine (named_any _ _).mono ?_; rintro e y ⟨rfl, rfl⟩; rw [HNM.out])
          go_ret
          exact ⟨by rw [HNO.out]; rfl, HBY.out⟩
        have d5 : decide ((dl : Int) ≤ xp) = false := decide_eq_false g5
        have HYES : Hid (symOk cl dl ⟨xn, 2, xp⟩ = true) := by show _ = _; rw [HOK.out, room_data]; exact dec_yes (by omega)
        go_wp2_with (go_at_call 40; refine (named_any _ _).mono ?_; rintro e y ⟨rfl, rfl⟩; rw [HNM.out])
        obtain ⟨Y1, hY1⟩ : ∃ Y, wr.alloc (.cells #[.string xn, .int .i64 2, .int .i64 xp] 69) = Y := ⟨_, rfl⟩
        have g0 : Y1.cell? ⟨wr.heap.size, 0, none⟩ = some (.string xn) := by subst hY1; exact cell_last rfl rfl
        have HBY1 : Hid (Below w.heap.size w Y1) := by subst hY1; exact HBY.out
        rw [hY1]
        clear q0 q1 q2 HBL HBY hY1
        generalize hzb : wr.heap.size = zb at *
        clear hzb
        go_loopg [9] k (fun r jv wq => ∃ (j : Nat), jv = .int .i64 j ∧ j ≤ k ∧ k - j ≤ r ∧ Hid (∀ i, i < j → (ss.getD i noSym).name ≠ xn) ∧ Hid (Below Y1.heap.size Y1 wq))
        case atStart => exact ⟨0, rfl, Nat.zero_le _, by omega, (fun i hi => by omega : ∀ i, i < 0 → (ss.getD i noSym).name ≠ xn), Below.refl _ _⟩
        case round =>
          obtain ⟨j, rfl, hj, hr2, HNE, HBI⟩ := hrel
          have HBW : Hid (Below w.heap.size w wr) := HBY1.out.trans (HBI.out.mono HBY1.out.size)
          by_cases hlj : j < k
          · have q0 := (HBW.out.cell (p := ⟨b, off + j * 3, none⟩) hbl).trans (HCN.out j (by omega))
            have g1' := cell_thru HBI.out g0
            have HDU : Hid (∀ {y : ByteArray}, (ss.getD j noSym).name = y → y = xn → symsOk cl dl ss = false) := fun h1 h2 => syms_not HKL.out (HPT.out.2.1 j hlj (h1.trans h2))
            have HNX : Hid (∀ {y : ByteArray}, (ss.getD j noSym).name = y → ¬ y = xn → ∀ i, i < j + 1 → (ss.getD i noSym).name ≠ xn) := fun h1 h2 i hi => by
              by_cases hij : i = j
              · rw [hij, h1]; exact h2
              · exact HNE.out i (by omega)
            obtain ⟨yn, hyn⟩ : ∃ y, (ss.getD j noSym).name = y := ⟨_, rfl⟩
            rw [hyn] at q0
            have HYN : Hid _ := hyn
            have hji : (j : Int) < l := by omega
            have hjk : (j : Int) < k := by omega
            have hjn : 0 ≤ (j : Int) := by omega
            clear hyn
            by_cases he : yn = xn
            · have HNO : Hid _ := HDU.out HYN.out he
              subst he
              go_wp2_with fail
              go_quiet (fail)
              go_wp2
              go_ret
              exact ⟨by rw [HNO.out]; rfl, bl_drewN HBW.out _⟩
            · have HN2 : Hid _ := HNX.out HYN.out he
              have hde := toList_ne he
              clear he
              go_wp2_with fail
              go_quiet (fail)
              go_wp2_with fail
              go_roundg (k - (j + 1))
              case measure => omega
              case rel => exact ⟨j + 1, by first | rfl | (congr 1; omega), by omega, Nat.le_refl _, HN2.out, bl_drewN HBI.out _⟩
          · obtain rfl : j = k := by omega
            have HALN : Hid (∀ i, i < j + 1 → symAt cl dl ss i = true) := fun i hi => by
              by_cases hij : i = j
              · rw [hij]; exact HPT.out.2.2 HYES.out HNE.out
              · exact HAL.out i (by omega)
            have hjn : ¬ (j : Int) < j := by omega
            go_wp2_with fail
            go_roundg (l - (j + 1))
            case measure => omega
            case rel => exact ⟨j + 1, by first | rfl | (congr 1; omega), by omega, Nat.le_refl _, HALN.out, HBW.out⟩
      · have d4 : (xk == 2) = false := beq_eq_false_iff_ne.2 g4
        have d4' : (xk != 2) = true := by simp [g4]
        have g13 : xk = 1 ∨ xk = 3 := by omega
        by_cases g5 : (cl : Int) ≤ xp
        · have d5 : decide ((cl : Int) ≤ xp) = true := decide_eq_true g5
          have HNO : Hid (symsOk cl dl ss = false) := syms_not HKL.out (HPT.out.1 (by rw [HOK.out, room_code g13]; exact dec_no (by omega)))
          clear g13
          go_wp2_with (go_at_call 40; refine (named_any _ _).mono ?_; rintro e y ⟨rfl, rfl⟩; rw [HNM.out])
          go_ret
          exact ⟨by rw [HNO.out]; rfl, HBY.out⟩
        have d5 : decide ((cl : Int) ≤ xp) = false := decide_eq_false g5
        have HYES : Hid (symOk cl dl ⟨xn, xk, xp⟩ = true) := by show _ = _; rw [HOK.out, room_code g13]; exact dec_yes (by omega)
        clear g13
        go_wp2_with (go_at_call 40; refine (named_any _ _).mono ?_; rintro e y ⟨rfl, rfl⟩; rw [HNM.out])
        obtain ⟨Y1, hY1⟩ : ∃ Y, wr.alloc (.cells #[.string xn, .int .i64 xk, .int .i64 xp] 69) = Y := ⟨_, rfl⟩
        have g0 : Y1.cell? ⟨wr.heap.size, 0, none⟩ = some (.string xn) := by subst hY1; exact cell_last rfl rfl
        have HBY1 : Hid (Below w.heap.size w Y1) := by subst hY1; exact HBY.out
        rw [hY1]
        clear q0 q1 q2 HBL HBY hY1
        generalize hzb : wr.heap.size = zb at *
        clear hzb
        go_loopg [9] k (fun r jv wq => ∃ (j : Nat), jv = .int .i64 j ∧ j ≤ k ∧ k - j ≤ r ∧ Hid (∀ i, i < j → (ss.getD i noSym).name ≠ xn) ∧ Hid (Below Y1.heap.size Y1 wq))
        case atStart => exact ⟨0, rfl, Nat.zero_le _, by omega, (fun i hi => by omega : ∀ i, i < 0 → (ss.getD i noSym).name ≠ xn), Below.refl _ _⟩
        case round =>
          obtain ⟨j, rfl, hj, hr2, HNE, HBI⟩ := hrel
          have HBW : Hid (Below w.heap.size w wr) := HBY1.out.trans (HBI.out.mono HBY1.out.size)
          by_cases hlj : j < k
          · have q0 := (HBW.out.cell (p := ⟨b, off + j * 3, none⟩) hbl).trans (HCN.out j (by omega))
            have g1' := cell_thru HBI.out g0
            have HDU : Hid (∀ {y : ByteArray}, (ss.getD j noSym).name = y → y = xn → symsOk cl dl ss = false) := fun h1 h2 => syms_not HKL.out (HPT.out.2.1 j hlj (h1.trans h2))
            have HNX : Hid (∀ {y : ByteArray}, (ss.getD j noSym).name = y → ¬ y = xn → ∀ i, i < j + 1 → (ss.getD i noSym).name ≠ xn) := fun h1 h2 i hi => by
              by_cases hij : i = j
              · rw [hij, h1]; exact h2
              · exact HNE.out i (by omega)
            obtain ⟨yn, hyn⟩ : ∃ y, (ss.getD j noSym).name = y := ⟨_, rfl⟩
            rw [hyn] at q0
            have HYN : Hid _ := hyn
            have hji : (j : Int) < l := by omega
            have hjk : (j : Int) < k := by omega
            have hjn : 0 ≤ (j : Int) := by omega
            clear hyn
            by_cases he : yn = xn
            · have HNO : Hid _ := HDU.out HYN.out he
              subst he
              go_wp2_with fail
              go_quiet (fail)
              go_wp2
              go_ret
              exact ⟨by rw [HNO.out]; rfl, bl_drewN HBW.out _⟩
            · have HN2 : Hid _ := HNX.out HYN.out he
              have hde := toList_ne he
              clear he
              go_wp2_with fail
              go_quiet (fail)
              go_wp2_with fail
              go_roundg (k - (j + 1))
              case measure => omega
              case rel => exact ⟨j + 1, by first | rfl | (congr 1; omega), by omega, Nat.le_refl _, HN2.out, bl_drewN HBI.out _⟩
          · obtain rfl : j = k := by omega
            have HALN : Hid (∀ i, i < j + 1 → symAt cl dl ss i = true) := fun i hi => by
              by_cases hij : i = j
              · rw [hij]; exact HPT.out.2.2 HYES.out HNE.out
              · exact HAL.out i (by omega)
            have hjn : ¬ (j : Int) < j := by omega
            go_wp2_with fail
            go_roundg (l - (j + 1))
            case measure => omega
            case rel => exact ⟨j + 1, by first | rfl | (congr 1; omega), by omega, Nat.le_refl _, HALN.out, HBW.out⟩
    · obtain rfl : k = l := by omega
      have HYA : Hid (symsOk cl dl ss = true) := by
        show _ = _
        unfold symsOk
        rw [show decide (ss.length ≤ 1000) = true by simp; omega, all_range_yes (fun i hi => HAL.out i (by omega))]
        rfl
      go_wp2_with fail
      go_ret
      exact ⟨by rw [HYA.out]; rfl, HBL.out⟩

end Go.Proofs.YtgjingleolhkbaaGreatDoor.O

/- What the document's named, Syms, May and Check come to. (Written by gen_rmay.py.) -/
namespace Go.Proofs.YtgjingleolhkbaaGreatDoor.O
open Go.RowKit Go.Maps Go.Lib
set_option linter.unusedVariables false

theorem may_parts {o : ObjD} (h : o.may = true) : o.code.size ≤ 65536 ∧ o.data.length ≤ 4096 ∧ symsOk o.code.size o.data.length o.syms = true ∧ relsOk o.code.size o.rels = true := by
  unfold ObjD.may at h
  simp only [Bool.and_eq_true, decide_eq_true_eq] at h
  exact ⟨h.1.1, h.1.2, h.2.1, h.2.2⟩
theorem relOk_no1 {cl : Nat} {fr : Int} {r : Rel} (h : nameOk r.name = false) : relOk cl fr r = false := by unfold relOk; rw [h, Bool.false_and, Bool.and_false]
theorem relOk_no2 {cl : Nat} {fr : Int} {r : Rel} (h : ¬ (fr ≤ r.pos ∧ r.pos ≤ (cl : Int) - 4)) : relOk cl fr r = false := by
  unfold relOk
  have : (decide (fr ≤ r.pos) && decide (r.pos ≤ (cl : Int) - 4)) = false := by
    rw [Bool.and_eq_false_iff, decide_eq_false_iff_not, decide_eq_false_iff_not]
    omega
  rw [this, Bool.false_and]
theorem relOk_no3 {cl : Nat} {fr : Int} {r : Rel} (h : addOk r.kind r.add = false) : relOk cl fr r = false := by unfold relOk; rw [h, Bool.and_false, Bool.and_false]
theorem relOk_yes {cl : Nat} {fr : Int} {r : Rel} (h1 : nameOk r.name = true) (h2 : fr ≤ r.pos ∧ r.pos ≤ (cl : Int) - 4) (h3 : addOk r.kind r.add = true) : relOk cl fr r = true := by
  unfold relOk
  rw [h1, h3, decide_eq_true h2.1, decide_eq_true h2.2]
  rfl
theorem addOk_jump (n : Int) : addOk 1 n = decide (n = 0) := by unfold addOk; rw [if_pos rfl]
theorem addOk_addr (n : Int) : addOk 2 n = (decide (-2147483648 ≤ n) && decide (n ≤ 2147483647)) := by unfold addOk; rw [if_neg (by decide), if_pos rfl]
theorem addOk_else {k n : Int} (h1 : ¬ k = 1) (h2 : ¬ k = 2) : addOk k n = false := by unfold addOk; rw [if_neg h1, if_neg h2]
theorem may_no {o : ObjD} (h : ¬ (o.code.size ≤ 65536 ∧ o.data.length ≤ 4096 ∧ symsOk o.code.size o.data.length o.syms = true ∧ o.rels.length ≤ 8000)) : o.may = false := by
  cases hm : o.may with
  | false => rfl
  | true =>
    obtain ⟨h1, h2, h3, h4⟩ := may_parts hm
    unfold relsOk at h4
    simp only [Bool.and_eq_true, decide_eq_true_eq] at h4
    exact absurd ⟨h1, h2, h3, h4.1⟩ h
theorem may_is {o : ObjD} (h1 : o.code.size ≤ 65536) (h2 : o.data.length ≤ 4096) (h3 : symsOk o.code.size o.data.length o.syms = true) : o.may = relsOk o.code.size o.rels := by
  unfold ObjD.may
  rw [decide_eq_true h1, decide_eq_true h2, h3]
  rfl
theorem free_next {rs : List Rel} {k : Nat} {r : Rel} (h : rs.getD k noRel = r) : freeAt rs (k + 1) = r.pos + 4 := by
  unfold freeAt
  rw [if_neg (by omega), Nat.add_sub_cancel, h]

set_option maxRecDepth 100000 in
set_option maxHeartbeats 8000000 in
theorem rmay_any {w : World} {v : Value} {o : ObjD} (h : ObjV w v o) :
    Calls Tryz.prog 19 #[v] w fun e w' => e = .returned (.bool o.may) ∧ Below w.heap.size w w' := by
  obtain ⟨a1, l1, c1, a2, l2, c2, a3, l3, c3, rfl, hcs, h1, h2, h3⟩ := h.form
  obtain ⟨code, data, syms, rels⟩ := o
  simp only at hcs h1 h2 h3
  obtain ⟨z, hz⟩ : ∃ z : Bool, ObjD.may ⟨code, data, syms, rels⟩ = z := ⟨_, rfl⟩
  rw [hz]
  have HZN : Hid (¬ (code.size ≤ 65536 ∧ data.length ≤ 4096 ∧ symsOk code.size data.length syms = true ∧ rels.length ≤ 8000) → z = false) := fun hn => by rw [← hz]; exact may_no hn
  have HZI : Hid (code.size ≤ 65536 → data.length ≤ 4096 → symsOk code.size data.length syms = true → z = relsOk code.size rels) := fun g1 g2 g3 => by rw [← hz]; exact may_is (o := ⟨code, data, syms, rels⟩) g1 g2 g3
  have hn1 := h1.count
  have hn3 := h3.count
  have hcz : code.size ≤ 9223372036854775807 := by unfold maxLen at hcs; omega
  obtain ⟨W1, hW1⟩ : ∃ W1, w.alloc (.cells #[.string code, .slice a1 l1 c1, .slice a2 l2 c2, .slice a3 l3 c3] 30) = W1 := ⟨_, rfl⟩
  have HW : Hid (Below w.heap.size w W1) := by subst hW1; exact bl_one _ _
  have CV : Hid (Cells W1 w.heap.size [.string code, .slice a1 l1 c1, .slice a2 l2 c2, .slice a3 l3 c3]) := fun j u hu => by subst hW1; exact cell_last rfl (by simpa using hu)
  have H2 : Hid _ := h2.below HW.out
  have H3 : Hid _ := h3.below HW.out
  clear h h1 h2 h3 hz hcs
  have r0 : W1.cell? ⟨w.heap.size, 0, none⟩ = _ := CV.out 0 _ rfl
  have r1 : W1.cell? ⟨w.heap.size, 1, none⟩ = _ := CV.out 1 _ rfl
  have r2 : W1.cell? ⟨w.heap.size, 2, none⟩ = _ := CV.out 2 _ rfl
  have r3 : W1.cell? ⟨w.heap.size, 3, none⟩ = _ := CV.out 3 _ rfl
  go_enter Tryz.func19, Tryz.ntmps19
  by_cases hc : code.size ≤ 65536
  rotate_left
  · have hd : decide ((65536 : Int) < code.size) = true := decide_eq_true (by omega)
    have HNO : Hid _ := HZN.out (by omega)
    go_wp2
    go_ret
    exact ⟨by rw [HNO.out]; rfl, HW.out⟩
  have hd : decide ((65536 : Int) < code.size) = false := decide_eq_false (by omega)
  by_cases hdl : l1 ≤ 4096
  rotate_left
  · have hd' : decide ((4096 : Int) < l1) = true := decide_eq_true (by omega)
    have HNO : Hid _ := HZN.out (by omega)
    go_wp2
    go_ret
    exact ⟨by rw [HNO.out]; rfl, HW.out⟩
  have hd' : decide ((4096 : Int) < l1) = false := decide_eq_false (by omega)
  subst hn1
  go_wp2_with fail
  refine (rsyms_any code.size data.length H2.out).mono ?_
  rintro e x1 ⟨rfl, hx1⟩
  have HX1 : Hid _ := hx1
  have HXW : Hid (Below w.heap.size w x1) := HW.out.trans (hx1.mono HW.out.size)
  clear r0 r1 r2 r3 hx1
  cases hso : symsOk code.size data.length syms with
  | false =>
    have HNO : Hid _ := HZN.out (by rw [hso]; simp)
    clear hso
    go_wp2
    go_ret
    exact ⟨by rw [HNO.out]; rfl, HXW.out⟩
  | true =>
  have HZ : Hid _ := HZI.out hc hdl hso
  have HZ8 : Hid (¬ rels.length ≤ 8000 → z = false) := fun hn => HZN.out (fun hh => hn hh.2.2.2)
  clear hso
  have r3 := cell_thru HX1.out (CV.out 3 _ rfl)
  by_cases hl : l3 ≤ 8000
  rotate_left
  · have hd2 : decide ((8000 : Int) < l3) = true := decide_eq_true (by omega)
    have HNO : Hid _ := HZ8.out (by omega)
    go_wp2
    go_ret
    exact ⟨by rw [HNO.out]; rfl, HXW.out⟩
  have hd2 : decide ((8000 : Int) < l3) = false := decide_eq_false (by omega)
  have HA : Hid _ := H3.out.below HX1.out
  have CX : Hid (Cells x1 w.heap.size [.string code, .slice a1 data.length c1, .slice a2 l2 c2, .slice a3 l3 c3]) := fun j u hu => cell_thru HX1.out (CV.out j u hu)
  go_wp2_with fail
  clear r3 H2 H3 CV HX1 HZN HZI HZ8
  go_loopg [3, 4] l3 (fun r fv iv wq => ∃ (k : Nat) (fr : Int), fv = .int .i64 fr ∧ iv = .int .i64 k ∧ k ≤ l3 ∧ l3 - k ≤ r ∧ Hid (fr = freeAt rels k) ∧ 0 ≤ fr ∧ fr ≤ 70000 ∧ Hid (∀ i, i < k → relOk code.size (freeAt rels i) (rels.getD i noRel) = true) ∧ Hid (Below x1.heap.size x1 wq))
  case atStart => exact ⟨0, 0, rfl, rfl, Nat.zero_le _, by omega, (rfl : (0 : Int) = freeAt rels 0), by decide, by decide, (fun i hi => by omega : ∀ i, i < 0 → relOk code.size (freeAt rels i) (rels.getD i noRel) = true), Below.refl _ _⟩
  case round =>
    obtain ⟨k, fr, rfl, rfl, hk, hr, HFR, hf0, hf1, HAL, HBL⟩ := hrel
    have t0 := cell_thru HBL.out (CX.out 0 _ rfl)
    have t3 := cell_thru HBL.out (CX.out 3 _ rfl)
    have HBW : Hid (Below w.heap.size w wr) := HXW.out.trans (HBL.out.mono HXW.out.size)
    by_cases hlt : k < l3
    · rcases HA.out.cells with h0 | ⟨b, off, hA, hc'⟩
      · omega
      obtain ⟨k0, k1, k2, k3⟩ := hc' k hlt
      have hbl : b < x1.heap.size := World.block_lt_of_cell? x1 ⟨b, off + k * 4, none⟩ k0
      have q0 := (HBL.out.cell (p := ⟨b, off + k * 4, none⟩) hbl).trans k0
      have q1 := (HBL.out.cell (p := ⟨b, off + k * 4 + 1, none⟩) hbl).trans k1
      have q2 := (HBL.out.cell (p := ⟨b, off + k * 4 + 2, none⟩) hbl).trans k2
      have q3 := (HBL.out.cell (p := ⟨b, off + k * 4 + 3, none⟩) hbl).trans k3
      have HNOT : Hid (∀ {r : Rel}, rels.getD k noRel = r → relOk code.size fr r = false → z = false) := fun e1 e2 => by rw [HZ.out]; exact rels_no (k := k) (by omega) (by rw [e1, ← HFR.out]; exact e2)
      have HYES : Hid (∀ {r : Rel}, rels.getD k noRel = r → relOk code.size fr r = true → ∀ i, i < k + 1 → relOk code.size (freeAt rels i) (rels.getD i noRel) = true) := fun e1 e2 i hi => by
        by_cases hik : i = k
        · rw [hik, e1, ← HFR.out]; exact e2
        · exact HAL.out i (by omega)
      have HFX : Hid (∀ {r : Rel}, rels.getD k noRel = r → r.pos + 4 = freeAt rels (k + 1)) := fun e => (free_next e).symm
      obtain ⟨⟨xp, xk, xn, xa⟩, hx⟩ : ∃ x, rels.getD k noRel = x := ⟨_, rfl⟩
      rw [hx] at q0 q1 q2 q3
      simp only at q0 q1 q2 q3
      have HNO : Hid (relOk code.size fr ⟨xp, xk, xn, xa⟩ = false → z = false) := HNOT.out hx
      have HYE : Hid _ := HYES.out hx
      have HFN : Hid (xp + 4 = freeAt rels (k + 1)) := HFX.out hx
      subst hA
      have hii : (k : Int) < l3 := by omega
      have hin : 0 ≤ (k : Int) := by omega
      clear hc' k0 k1 k2 k3 hx HNOT HYES HFX
      have HBY : Hid (Below w.heap.size w (wr.alloc (.cells #[.int .i64 xp, .int .i64 xk, .string xn, .int .i64 xa] 51))) := HBW.out.trans ((bl_one wr _).mono HBW.out.size)
      have HBZ : Hid (Below x1.heap.size x1 (wr.alloc (.cells #[.int .i64 xp, .int .i64 xk, .string xn, .int .i64 xa] 51))) := HBL.out.trans ((bl_one wr _).mono HBL.out.size)
      have hwz : w.heap.size < wr.heap.size := by have := World.block_lt_of_cell? wr ⟨w.heap.size, 0, none⟩ t0; exact this
      cases hnk : nameOk xn with
      | false =>
        have HNM : Hid _ := hnk
        have HZF : Hid (z = false) := HNO.out (relOk_no1 hnk)
        clear hnk
        go_wp2_with (go_at_call 40; refine (named_any _ _).mono ?_; rintro e y ⟨rfl, rfl⟩; rw [HNM.out])
        go_ret
        exact ⟨by rw [HZF.out]; rfl, HBY.out⟩
      | true =>
      have HNM : Hid _ := hnk
      clear hnk
      by_cases g1 : xp < fr
      · have d1 : decide (xp < fr) = true := decide_eq_true g1
        have HZF : Hid (z = false) := HNO.out (relOk_no2 (by simp only; omega))
        go_wp2_with (go_at_call 40; refine (named_any _ _).mono ?_; rintro e y ⟨rfl, rfl⟩; rw [HNM.out])
        go_ret
        exact ⟨by rw [HZF.out]; rfl, HBY.out⟩
      have d1 : decide (xp < fr) = false := decide_eq_false g1
      by_cases g2 : (code.size : Int) - 4 < xp
      · have d2 : decide ((code.size : Int) - 4 < xp) = true := decide_eq_true g2
        have HZF : Hid (z = false) := HNO.out (relOk_no2 (by simp only; omega))
        go_wp2_with (go_at_call 40; refine (named_any _ _).mono ?_; rintro e y ⟨rfl, rfl⟩; rw [HNM.out])
        go_ret
        exact ⟨by rw [HZF.out]; rfl, HBY.out⟩
      have d2 : decide ((code.size : Int) - 4 < xp) = false := decide_eq_false g2
      by_cases g3 : xk = 1
      · subst g3
        by_cases g4 : xa = 0
        · subst g4
          have HGO : Hid _ := HYE.out (relOk_yes HNM.out ⟨by simp only; omega, by simp only; omega⟩ (by rw [addOk_jump]; exact decide_eq_true rfl))
          go_wp2_with (go_at_call 40; refine (named_any _ _).mono ?_; rintro e y ⟨rfl, rfl⟩; rw [HNM.out])
          go_roundg (l3 - (k + 1))
          case measure => omega
          case rel => exact ⟨k + 1, xp + 4, by first | rfl | (congr 1; omega), by first | rfl | (congr 1; omega), by omega, Nat.le_refl _, HFN.out, by omega, by omega, HGO.out, HBZ.out⟩
        have d4 : (xa == 0) = false := beq_eq_false_iff_ne.2 g4
        have HZF : Hid (z = false) := HNO.out (relOk_no3 (by rw [addOk_jump]; exact decide_eq_false g4))
        go_wp2_with (go_at_call 40; refine (named_any _ _).mono ?_; rintro e y ⟨rfl, rfl⟩; rw [HNM.out])
        go_ret
        exact ⟨by rw [HZF.out]; rfl, HBY.out⟩
      have d3 : (xk == 1) = false := beq_eq_false_iff_ne.2 g3
      by_cases g5 : xk = 2
      · subst g5
        by_cases g6 : -2147483648 ≤ xa
        · have d6 : decide (-2147483648 ≤ xa) = true := decide_eq_true g6
          by_cases g7 : xa ≤ 2147483647
          · have d7 : decide (xa ≤ 2147483647) = true := decide_eq_true g7
            have HGO : Hid _ := HYE.out (relOk_yes HNM.out ⟨by simp only; omega, by simp only; omega⟩ (by rw [addOk_addr, d6, d7]; rfl))
            go_wp2_with (go_at_call 40; refine (named_any _ _).mono ?_; rintro e y ⟨rfl, rfl⟩; rw [HNM.out])
            go_roundg (l3 - (k + 1))
            case measure => omega
            case rel => exact ⟨k + 1, xp + 4, by first | rfl | (congr 1; omega), by first | rfl | (congr 1; omega), by omega, Nat.le_refl _, HFN.out, by omega, by omega, HGO.out, HBZ.out⟩
          have d7 : decide (xa ≤ 2147483647) = false := decide_eq_false g7
          have HZF : Hid (z = false) := HNO.out (relOk_no3 (by rw [addOk_addr, d7, Bool.and_false]))
          go_wp2_with (go_at_call 40; refine (named_any _ _).mono ?_; rintro e y ⟨rfl, rfl⟩; rw [HNM.out])
          go_ret
          exact ⟨by rw [HZF.out]; rfl, HBY.out⟩
        have d6 : decide (-2147483648 ≤ xa) = false := decide_eq_false g6
        have HZF : Hid (z = false) := HNO.out (relOk_no3 (by rw [addOk_addr, d6, Bool.false_and]))
        go_wp2_with (go_at_call 40; refine (named_any _ _).mono ?_; rintro e y ⟨rfl, rfl⟩; rw [HNM.out])
        go_ret
        exact ⟨by rw [HZF.out]; rfl, HBY.out⟩
      have d5 : (xk == 2) = false := beq_eq_false_iff_ne.2 g5
      have HZF : Hid (z = false) := HNO.out (relOk_no3 (addOk_else g3 g5))
      go_wp2_with (go_at_call 40; refine (named_any _ _).mono ?_; rintro e y ⟨rfl, rfl⟩; rw [HNM.out])
      go_ret
      exact ⟨by rw [HZF.out]; rfl, HBY.out⟩
    · obtain rfl : k = l3 := by omega
      have HYA : Hid (z = true) := by
        show _ = _
        rw [HZ.out]
        unfold relsOk
        rw [show decide (rels.length ≤ 8000) = true by simp; omega, all_range_yes (fun i hi => HAL.out i (by omega))]
        rfl
      go_wp2_with fail
      go_ret
      exact ⟨by rw [HYA.out]; rfl, HBW.out⟩

end Go.Proofs.YtgjingleolhkbaaGreatDoor.O

/- What Assemble leaves, as the document reads it; AsmMay walked, where what comes out may be. -/
namespace Go.Proofs.YtgjingleolhkbaaGreatDoor
open Go.RowKit Go.Maps Go.Lib
set_option linter.unusedVariables false
set_option linter.unusedSimpArgs false

/-- The numbers of an object fit. -/
structure OFit (o : O.ObjD) : Prop where
  c : o.code.size ≤ maxLen
  d : ∀ n ∈ o.data, (Lit.int .i64 n).wf = true
  s : ∀ x ∈ o.syms, x.name.size ≤ maxLen ∧ (Lit.int .i64 x.kind).wf = true ∧ (Lit.int .i64 x.pos).wf = true
  r : ∀ x ∈ o.rels, x.name.size ≤ maxLen ∧ (Lit.int .i64 x.kind).wf = true ∧ (Lit.int .i64 x.pos).wf = true ∧ (Lit.int .i64 x.add).wf = true
theorem OFit.no : OFit Z.noObj := ⟨by decide, by simp [Z.noObj], by simp [Z.noObj], by simp [Z.noObj]⟩
theorem objV_of {w : World} {B1 B2 B3 : Nat} {o : O.ObjD} {vd vs vr : Value} (hf : OFit o) (h1 : w.ownsRow B1 2 1 vd o.data.length (o.data.flatMap O.intC)) (h2 : w.ownsRow B2 69 3 vs o.syms.length (o.syms.flatMap O.symC)) (h3 : w.ownsRow B3 51 4 vr o.rels.length (o.rels.flatMap O.relC)) :
    O.ObjV w (.agg #[.string o.code, vd, vs, vr]) o := by
  obtain ⟨a1, c1, rfl, n1, k1⟩ := O.row_at (f := O.intC) (m := 1) (0 : Int) (fun _ => rfl) h1 rfl
  obtain ⟨a2, c2, rfl, n2, k2⟩ := O.row_at (f := O.symC) (m := 3) O.noSym (fun _ => rfl) h2 rfl
  obtain ⟨a3, c3, rfl, n3, k3⟩ := O.row_at (f := O.relC) (m := 4) O.noRel (fun _ => rfl) h3 rfl
  refine ⟨⟨a1, _, c1, a2, _, c2, a3, _, c3, rfl, hf.c, ⟨rfl, hf.d, n1, ?_⟩, ⟨rfl, hf.s, n2, ?_⟩, ⟨rfl, hf.r, n3, ?_⟩⟩⟩
  · rcases k1 with e | ⟨b, off, e, hc⟩
    · exact .inl e
    · exact .inr ⟨b, off, e, fun i hi => by simpa using hc i hi 0 _ (by omega) rfl⟩
  · rcases k2 with e | ⟨b, off, e, hc⟩
    · exact .inl e
    · exact .inr ⟨b, off, e, fun i hi => ⟨by simpa using hc i hi 0 _ (by omega) rfl, by simpa using hc i hi 1 _ (by omega) rfl, by simpa using hc i hi 2 _ (by omega) rfl⟩⟩
  · rcases k3 with e | ⟨b, off, e, hc⟩
    · exact .inl e
    · exact .inr ⟨b, off, e, fun i hi => ⟨by simpa using hc i hi 0 _ (by omega) rfl, by simpa using hc i hi 1 _ (by omega) rfl, by simpa using hc i hi 2 _ (by omega) rfl, by simpa using hc i hi 3 _ (by omega) rfl⟩⟩
theorem small_any (a : Option Addr) (l c : Nat) (w : World) : Calls Tryz.prog 9 #[.slice a l c] w fun e w' => e = .returned (.bool (decide (l ≤ 400))) ∧ w' = w := by
  by_cases h : l ≤ 400
  · have h' : (l : Int) ≤ 400 := by omega
    go_enter Tryz.func9, Tryz.ntmps9
    go_wp2
    go_ret
    exact ⟨by first | rfl | (rw [decide_eq_true h]; rfl), rfl⟩
  · have h' : ¬ (l : Int) ≤ 400 := by omega
    go_enter Tryz.func9, Tryz.ntmps9
    go_wp2
    go_ret
    exact ⟨by first | rfl | (rw [decide_eq_false h]; rfl), rfl⟩

end Go.Proofs.YtgjingleolhkbaaGreatDoor

/- Every instruction of items that may be has a form, of its size. -/
namespace Go.Proofs.YtgjingleolhkbaaGreatDoor
namespace Z
open Go.RowKit
set_option linter.unusedVariables false
set_option linter.unusedSimpArgs false

theorem fitsE {o a b n : Int} (ho : 1 ≤ o ∧ o ≤ 33) (ha : 0 ≤ a ∧ a < 8) (hb : 0 ≤ b ∧ b < 8) (h1 : a = 0 ∨ 1 ≤ J.I.regs o) (h2 : b = 0 ∨ 2 ≤ J.I.regs o) (h3 : n = 0 ∨ J.I.num o ≠ 0) : J.I.fits o a b n = true := by
  unfold J.I.fits J.I.bears J.I.bad
  rw [decide_eq_true ho, J.I.isr_yes ha, J.I.isr_yes hb]
  have e1 : (a != 0 && decide (J.I.regs o < 1)) = false := by
    rcases h1 with h | h
    · simp [h]
    · simp; intro _; omega
  have e2 : (b != 0 && decide (J.I.regs o < 2)) = false := by
    rcases h2 with h | h
    · simp [h]
    · simp; intro _; omega
  have e3 : (n != 0 && J.I.num o == 0) = false := by
    rcases h3 with h | h
    · simp [h]
    · simp; intro _; exact h
  rw [e1, e2, e3]
  rfl
theorem numOkE {o n : Int} (h : J.I.num o = 0 ∨ (J.I.num o = 1 ∧ -128 ≤ n ∧ n ≤ 127) ∨ (J.I.num o = 4 ∧ -2147483648 ≤ n ∧ n ≤ 2147483647) ∨ (J.I.num o = 8 ∧ -9223372036854775808 ≤ n ∧ n ≤ 9223372036854775807)) (hn : o = 33 → 0 ≤ n) : J.I.numOk (J.I.num o) (J.I.nat o) n = true := by
  unfold J.I.numOk
  have tail : (decide (0 ≤ n) || !(J.I.nat o)) = true := by
    unfold J.I.nat
    by_cases ho : o = 33
    · simp [ho, hn ho]
    · have : (o == 33) = false := by simpa using ho
      rw [this]
      simp
  rcases h with h | ⟨h, h1, h2⟩ | ⟨h, h1, h2⟩ | ⟨h, h1, h2⟩
  · rw [if_pos h]
  · rw [h, if_neg (by decide), tail]
    have e1 : J.W.bytesE n 1 = 0 := by unfold J.W.bytesE J.W.isSz J.W.sx; simp; omega
    rw [e1]; rfl
  · rw [h, if_neg (by decide), tail]
    have e1 : J.W.bytesE n 4 = 0 := by unfold J.W.bytesE J.W.isSz J.W.sx wrap32; simp; omega
    rw [e1]; rfl
  · rw [h, if_neg (by decide), tail]
    have e1 : J.W.bytesE n 8 = 0 := by unfold J.W.bytesE J.W.isSz J.W.sx wrap64; simp; omega
    rw [e1]; rfl
theorem enc_size {o a b n : Int} (ho : 1 ≤ o ∧ o ≤ 33) (hf : J.I.fits o a b n = true) (hn : J.I.numOk (J.I.num o) (J.I.nat o) n = true) : ((J.I.encV o a b n).length : Int) = sz o := by
  unfold J.I.encV sz
  rw [if_pos hf, if_pos hn, ← J.I.psize_size o ho]
  have h1 : ((J.I.numW (J.I.num o) n).length : Int) = J.I.num o := by
    unfold J.I.numOk at hn
    unfold J.I.numW J.W.bytesV
    have hr := J.I.num_range o
    by_cases h0 : J.I.num o = 0
    · rw [if_pos h0, h0]; rfl
    · rw [if_neg h0] at hn ⊢
      have hb := (Bool.and_eq_true_iff.1 hn).1
      have hb' : J.W.bytesE n (J.I.num o) = 0 := by simpa using hb
      unfold J.W.bytesE at hb'
      split at hb'
      · next hs =>
        split at hb'
        · next hx => rw [if_pos hs, if_pos hx, J.W.bytesOf_length]; omega
        · omega
      · omega
  unfold J.I.psize J.I.regB
  simp only [List.length_append, List.length_cons, List.length_nil]
  by_cases h0 : J.I.regs o = 0
  · rw [if_pos h0, if_pos h0]; simp; omega
  · rw [if_neg h0, if_neg h0]
    split <;> simp <;> omega
/-- What the table of rows and the forms have to do with each other. -/
def rowFacts (k : Nat) : Bool :=
  if (X.row k).1 = [] then true else
    decide (1 ≤ k) && (!(X.has (X.row k).2 65) || decide (1 ≤ J.I.regs k)) && (!(X.has (X.row k).2 66) || decide (2 ≤ J.I.regs k)) && (!(X.has (X.row k).2 78) || decide (J.I.num k = if k = 1 then 8 else if k = 33 then 1 else 4))
    && (decide (X.has (X.row k).2 64 = true) == decide (19 ≤ k ∧ k ≤ 23)) && (!(decide (20 ≤ k ∧ k ≤ 22)) || (!(X.has (X.row k).2 66) && !(X.has (X.row k).2 78))) && (!(decide (k = 23)) || (!(X.has (X.row k).2 65) && !(X.has (X.row k).2 66) && !(X.has (X.row k).2 78)))
theorem rowFacts_all : ∀ k, k < 34 → rowFacts k = true := by decide +kernel
/-- Each instruction is its own, or its short one. -/
def Own (ts : List X.It) (ops : List Int) : Prop := ∀ k, k < ts.length → ops.getD k 0 = (ts.getD k X.noIt).op ∨ ops.getD k 0 = op0 (ts.getD k X.noIt)
theorem own_lens {ts : List X.It} {bs : List Int} : ∀ (l : List (Nat × Nat)) (ops : List Int), ops.length = ts.length → Own ts ops → Own ts (lens ts bs l ops)
  | [], ops, _, h => h
  | j :: r, ops, hl, h => by
    rw [lens]
    split
    · refine own_lens r _ (by rw [List.length_set]; exact hl) (fun k hk => ?_)
      by_cases e : k = j.1
      · subst e
        rw [getD_set_eq' _ _ _ (by omega)]
        exact .inl rfl
      · rw [getD_set_ne' _ _ _ _ e]
        exact h k hk
    · exact own_lens r _ hl h
theorem own_settle {ts : List X.It} : ∀ (n : Nat) (ops : List Int), ops.length = ts.length → Own ts ops → Own ts (settle ts n ops)
  | 0, ops, _, h => h
  | n + 1, ops, hl, h => by
    rw [settle]
    split
    · exact own_settle n _ (by rw [lens_len]; exact hl) (own_lens _ _ hl h)
    · exact h
theorem own_ops (ts : List X.It) : Own ts (ops ts) := by
  refine own_settle _ _ (by simp) (fun k hk => .inr ?_)
  simp [List.getD, hk]
theorem first_far {α : Type} {p : α → Bool} : ∀ {l : List α}, l.any p = true → ∃ a x b, l = a ++ x :: b ∧ (∀ y ∈ a, p y = false) ∧ p x = true
  | [], h => by simp at h
  | y :: l, h => by
    cases hy : p y with
    | true => exact ⟨[], y, l, rfl, by simp, hy⟩
    | false =>
      rw [List.any_cons, hy, Bool.false_or] at h
      obtain ⟨a, x, b, e, h1, h2⟩ := first_far h
      exact ⟨y :: a, x, b, by rw [e]; rfl, fun z hz => by rcases List.mem_cons.1 hz with rfl | hz; exact hy; exact h1 z hz, h2⟩
theorem settle_far {ts : List X.It} : ∀ (n : Nat) (ops : List Int), (∀ x ∈ js ts, x.1 < ops.length) → shorts ts ops ≤ n → anyFar ts (settle ts n ops) = false
  | 0, ops, hj, hs => by
    rw [settle]
    unfold anyFar
    rw [List.any_eq_false]
    intro j hjm hf
    unfold shorts at hs
    have h1 : j ∈ (js ts).filter fun j => decide (ops.getD j.1 0 ≠ (ts.getD j.1 X.noIt).op) := List.mem_filter.2 ⟨hjm, by unfold tooFar at hf; exact (Bool.and_eq_true_iff.1 hf).1⟩
    have := List.length_pos_of_mem h1
    omega
  | n + 1, ops, hj, hs => by
    rw [settle]
    split
    · next ha =>
      refine settle_far n _ (by rw [lens_len]; exact hj) ?_
      unfold anyFar at ha
      obtain ⟨a, x, b, e, h1, h2⟩ := first_far ha
      have h3 := lens_lt e h1 h2 hj
      have h4 : lens ts (ats ops) (js ts) ops = lens ts (ats ops) (x :: b) ops := by
        conv => lhs; rw [e]
        exact lens_skip h1
      rw [h4]
      omega
    · next ha => simpa using ha
theorem ops_far (ts : List X.It) : anyFar ts (ops ts) = false := settle_far _ _ (by
  intro x hx
  rw [List.length_map]
  exact (js_in ts x hx).1) (shorts_le ts _)
theorem js_mem {ts : List X.It} {k : Nat} (hk : k < ts.length) (hj : jump (ts.getD k X.noIt) = true) : (k, labN ts (ts.getD k X.noIt).name) ∈ js ts := by
  unfold js jumpsOf
  refine List.mem_map.2 ⟨(ts.getD k X.noIt, k), List.mem_filter.2 ⟨?_, hj⟩, rfl⟩
  rw [List.mem_zipIdx_iff_getElem?]
  simp [List.getD, hk]
theorem jump_iff (t : X.It) : jump t = true ↔ t.op = 20 ∨ t.op = 21 ∨ t.op = 22 := by
  unfold jump shortOf
  by_cases h1 : t.op = 20
  · simp [h1]
  · by_cases h2 : t.op = 21
    · simp [h2]
    · by_cases h3 : t.op = 22
      · simp [h3]
      · simp [h1, h2, h3]
theorem far_range (ts : List X.It) (hl : ts.length ≤ 20000) (i k : Nat) : -1000010 ≤ far (ops ts) (ats (ops ts)) i k ∧ far (ops ts) (ats (ops ts)) i k ≤ 1000000 := by
  have hn := near_ats (ops := ops ts) (by rw [ops_len]; exact hl)
  have h1 := hn i
  have h2 := hn k
  have h3 := sz_range ((ops ts).getD i 0)
  unfold far
  omega
theorem rowF {k : Nat} (hk : k < 34) (hr : (X.row k).1 ≠ []) : 1 ≤ k ∧ (X.has (X.row k).2 65 = true → 1 ≤ J.I.regs k) ∧ (X.has (X.row k).2 66 = true → 2 ≤ J.I.regs k) ∧ (X.has (X.row k).2 78 = true → J.I.num k = if k = 1 then 8 else if k = 33 then 1 else 4) ∧ (X.has (X.row k).2 64 = true ↔ 19 ≤ k ∧ k ≤ 23) ∧ (20 ≤ k ∧ k ≤ 22 → X.has (X.row k).2 66 = false ∧ X.has (X.row k).2 78 = false) ∧ (k = 23 → X.has (X.row k).2 65 = false ∧ X.has (X.row k).2 66 = false ∧ X.has (X.row k).2 78 = false) := by
  have h := rowFacts_all k hk
  unfold rowFacts at h
  rw [if_neg hr] at h
  simp only [Bool.and_eq_true, Bool.or_eq_true, Bool.not_eq_true', decide_eq_true_eq, decide_eq_false_iff_not, beq_iff_eq] at h
  obtain ⟨⟨⟨⟨⟨⟨h1, h2⟩, h3⟩, h4⟩, h5⟩, h6⟩, h7⟩ := h
  refine ⟨h1, fun e => ?_, fun e => ?_, fun e => ?_, ?_, fun e => ?_, fun e => ?_⟩
  · rcases h2 with h | h
    · rw [h] at e; cases e
    · exact h
  · rcases h3 with h | h
    · rw [h] at e; cases e
    · exact h
  · rcases h4 with h | h
    · rw [h] at e; cases e
    · exact h
  · by_cases hq : X.has (X.row k).2 64 = true
    · rw [decide_eq_true hq] at h5
      exact ⟨fun _ => of_decide_eq_true h5.symm, fun _ => hq⟩
    · rw [decide_eq_false hq] at h5
      exact ⟨fun e => absurd e hq, fun e => absurd e (of_decide_eq_false h5.symm)⟩
  · rcases h6 with h | h
    · exact absurd e h
    · exact h
  · rcases h7 with h | h
    · exact absurd e h
    · exact ⟨h.1.1, h.1.2, h.2⟩
/-- Every instruction has a form, of its size. -/
theorem code_ok {ts : List X.It} (hl : ts.length ≤ 20000) (hok : ∀ t ∈ ts, X.itOk t = true) (hfit : ∀ t ∈ ts, X.fitsIt t) {k : Nat} (hk : k < ts.length) (hkd : (ts.getD k X.noIt).kind = 2) :
    1 ≤ (ops ts).getD k 0 ∧ (ops ts).getD k 0 ≤ 33 ∧ J.I.fits ((ops ts).getD k 0) (ts.getD k X.noIt).a (ts.getD k X.noIt).b (codeN ts (ops ts) k) = true ∧ J.I.numOk (J.I.num ((ops ts).getD k 0)) (J.I.nat ((ops ts).getD k 0)) (codeN ts (ops ts) k) = true := by
  have hm : ts.getD k X.noIt ∈ ts := by simp [List.getD, hk]
  have hown := own_ops ts k hk
  have hfar := ops_far ts
  have hjm := fun h => js_mem hk h
  have hft := (hfit _ hm).1
  have hfr := far_range ts hl k (labN ts (ts.getD k X.noIt).name)
  obtain ⟨hins, -⟩ := X.itOk_ins (hok _ hm) hkd
  have hcn : codeN ts (ops ts) k = if isOpen ts (ts.getD k X.noIt) = true then 0 else if (ts.getD k X.noIt).name ≠ [] then far (ops ts) (ats (ops ts)) k (labN ts (ts.getD k X.noIt).name) else (ts.getD k X.noIt).n := rfl
  rw [hcn]
  generalize hget : ts.getD k X.noIt = t at *
  obtain ⟨o0, o1, hrow, hnm, -, ha, hb, hn, ra, rb, hno⟩ := X.insOk_split hins
  obtain ⟨op, hop⟩ : ∃ op : Nat, t.op = op := ⟨t.op.toNat, by omega⟩
  rw [hop] at o0 o1 hrow hnm ha hb hn hno hown
  have hto : (op : Int).toNat = op := by omega
  rw [hto] at hrow hnm ha hb hn
  obtain ⟨f1, f2, f3, f4, f5, f6, f7⟩ := rowF (k := op) (by omega) hrow
  have hA := X.isReg_iff.1 ra
  have hB := X.isReg_iff.1 rb
  have hge : (1 : Int) ≤ op ∧ (op : Int) ≤ 33 := by omega
  have hname : t.name ≠ [] ↔ 19 ≤ op ∧ op ≤ 23 := by
    rw [← f5, hnm]
    simp
  by_cases hj : 20 ≤ op ∧ op ≤ 22
  · -- a jump
    have hjt : jump t = true := (jump_iff t).2 (by rw [hop]; omega)
    have hopen : isOpen ts t = false := by unfold isOpen; rw [hop]; simp; omega
    rw [hopen]
    simp only [Bool.false_eq_true, if_false]
    rw [if_pos (hname.2 (by omega))]
    have hb0 : t.b = 0 := by rcases hb with h | h; exact h; rw [(f6 hj).1] at h; cases h
    generalize labN ts t.name = q at *
    by_cases hlong : (ops ts).getD k 0 = (op : Int)
    · rw [hlong]
      have e4 : J.I.num (op : Int) = 4 := by
        rcases (show op = 20 ∨ op = 21 ∨ op = 22 by omega) with rfl | rfl | rfl <;> decide
      exact ⟨hge.1, hge.2, fitsE hge hA hB (ha.imp id f2) (.inl hb0) (.inr (by rw [e4]; decide)), numOkE (.inr (.inr (.inl ⟨e4, by omega, by omega⟩))) (by omega)⟩
    · have hsh : (ops ts).getD k 0 = shortOf op := by
        rcases hown with h | h
        · exact absurd h hlong
        · rw [h]; unfold op0; rw [hjt, hop]; rfl
      have hnf : tooFar ts (ops ts) (ats (ops ts)) (k, q) = false := by
        unfold anyFar at hfar
        rw [List.any_eq_false] at hfar
        simpa using hfar _ (hjm hjt)
      have hb1 : -128 ≤ far (ops ts) (ats (ops ts)) k q ∧ far (ops ts) (ats (ops ts)) k q ≤ 127 := by
        unfold tooFar at hnf
        simp only at hnf
        rw [hget, hop, decide_eq_true hlong, Bool.true_and] at hnf
        simp at hnf
        omega
      rw [hsh]
      generalize far (ops ts) (ats (ops ts)) k q = d at *
      have ha' := ha.imp id f2
      rcases (show op = 20 ∨ op = 21 ∨ op = 22 by omega) with rfl | rfl | rfl
      · have e : shortOf ((20 : Nat) : Int) = 25 := by decide
        rw [e]
        exact ⟨by decide, by decide, fitsE (by decide) hA hB (ha'.imp id (fun h => absurd h (by decide))) (.inl hb0) (.inr (by decide)), numOkE (.inr (.inl ⟨by decide, hb1⟩)) (fun h => absurd h (by decide))⟩
      · have e : shortOf ((21 : Nat) : Int) = 26 := by decide
        rw [e]
        exact ⟨by decide, by decide, fitsE (by decide) hA hB (.inr (by decide)) (.inl hb0) (.inr (by decide)), numOkE (.inr (.inl ⟨by decide, hb1⟩)) (fun h => absurd h (by decide))⟩
      · have e : shortOf ((22 : Nat) : Int) = 27 := by decide
        rw [e]
        exact ⟨by decide, by decide, fitsE (by decide) hA hB (.inr (by decide)) (.inl hb0) (.inr (by decide)), numOkE (.inr (.inl ⟨by decide, hb1⟩)) (fun h => absurd h (by decide))⟩
  · have hjt : jump t = false := by
      cases h : jump t with
      | false => rfl
      | true => have := (jump_iff t).1 h; rw [hop] at this; omega
    have ho : (ops ts).getD k 0 = (op : Int) := by
      rcases hown with h | h
      · exact h
      · rw [h]; unfold op0; rw [hjt, hop]; rfl
    rw [ho]
    have zero : J.I.numOk (J.I.num (op : Int)) (J.I.nat (op : Int)) 0 = true := numOkE (by rcases J.I.num_range (op : Int) with h | h | h | h <;> omega) (fun _ => by omega)
    cases hopen : isOpen ts t with
    | true =>
      simp only [if_true]
      exact ⟨hge.1, hge.2, fitsE hge hA hB (ha.imp id f2) (hb.imp id f3) (.inl rfl), zero⟩
    | false =>
      simp only [Bool.false_eq_true, if_false]
      by_cases hne : t.name ≠ []
      · rw [if_pos hne]
        have h23 : op = 23 := by
          have := hname.1 hne
          unfold isOpen at hopen
          rw [hop] at hopen
          by_cases e : op = 19
          · subst e; simp at hopen
          · omega
        subst h23
        obtain ⟨g1, g2, g3⟩ := f7 rfl
        have ha0 : t.a = 0 := by rcases ha with h | h; exact h; rw [g1] at h; cases h
        have hb0 : t.b = 0 := by rcases hb with h | h; exact h; rw [g2] at h; cases h
        exact ⟨hge.1, hge.2, fitsE hge hA hB (.inl ha0) (.inl hb0) (.inr (by decide)), numOkE (.inr (.inr (.inl ⟨by decide, by omega, by omega⟩))) (fun h => absurd h (by decide))⟩
      · rw [if_neg hne]
        rcases hn with h0 | h78
        · rw [h0]
          exact ⟨hge.1, hge.2, fitsE hge hA hB (ha.imp id f2) (hb.imp id f3) (.inl rfl), zero⟩
        · have h4 := f4 h78
          have hx : 0 < J.I.num (op : Int) := by rw [h4]; split; omega; split <;> omega
          refine ⟨hge.1, hge.2, fitsE hge hA hB (ha.imp id f2) (hb.imp id f3) (.inr (by omega)), ?_⟩
          unfold X.numOk at hno
          by_cases e1 : op = 1
          · subst e1
            exact numOkE (.inr (.inr (.inr ⟨by decide, hft.1, hft.2⟩))) (fun h => absurd h (by decide))
          · rw [if_neg e1] at h4
            rw [if_neg (by omega)] at hno
            by_cases e33 : op = 33
            · subst e33
              rw [if_pos (by decide)] at hno
              simp at hno
              exact numOkE (.inr (.inl ⟨by decide, by omega, by omega⟩)) (fun _ => hno.1)
            · rw [if_neg e33] at h4
              rw [if_neg (by omega)] at hno
              simp at hno
              exact numOkE (.inr (.inr (.inl ⟨h4, by omega, by omega⟩))) (fun h => by omega)
end Z
end Go.Proofs.YtgjingleolhkbaaGreatDoor

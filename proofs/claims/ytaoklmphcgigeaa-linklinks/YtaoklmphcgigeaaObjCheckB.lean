/- What relocsMayBe and Check come to. -/
import Derived.Test.YtaoklmphcgigeaaObjCheck
namespace Go.Proofs.Ytaoklmphcgigeaa
open Go.RowKit Go.Maps
set_option linter.unusedVariables false

theorem rels_no {cl : Nat} {rs : List Rel} {k : Nat} (hk : k < rs.length) (h : relOk cl (freeAt rs k) (rs.getD k noRel) = false) : relsOk cl rs = false := by
  unfold relsOk
  rw [all_range_no hk h, Bool.and_false]

set_option maxRecDepth 100000 in
set_option maxHeartbeats 8000000 in
theorem rels_any {w : World} (code : ByteArray) {a1 a2 a3 : Option Addr} {l1 c1 l2 c2 l3 c3 : Nat} {rs : List Rel} (h : RelsV w a3 l3 c3 rs) (hcs : code.size ≤ maxLen) :
    Calls Try.prog 40 #[.agg #[.string code, .slice a1 l1 c1, .slice a2 l2 c2, .slice a3 l3 c3]] w fun e w' => e = .returned (.bool (relsOk code.size rs)) ∧ Below w.heap.size w w' := by
  have HV : Hid _ := h
  have hcnt := h.count
  have hcs' : code.size ≤ 9223372036854775807 := by unfold maxLen at hcs; omega
  clear h hcs
  by_cases hbig : (8000 : Int) < l3
  · have HNO : Hid (relsOk code.size rs = false) := by show _ = _; unfold relsOk; rw [show decide (rs.length ≤ 8000) = false by simp; omega, Bool.false_and]
    have hb : Below w.heap.size w (w.alloc (.cells #[.string code, .slice a1 l1 c1, .slice a2 l2 c2, .slice a3 l3 c3] 40)) := bl_one _ _
    go_enter Try.func40, Try.ntmps40
    go_wp2
    go_ret
    exact ⟨by rw [HNO.out]; rfl, hb⟩
  obtain ⟨W1, hW1⟩ : ∃ W1, w.alloc (.cells #[.string code, .slice a1 l1 c1, .slice a2 l2 c2, .slice a3 l3 c3] 40) = W1 := ⟨_, rfl⟩
  have s1 : W1.heap.size = w.heap.size + 1 := by subst hW1; simp
  have b1 : Below w.heap.size w W1 := by subst hW1; exact bl_one _ _
  have v0 : W1.cell? ⟨w.heap.size, 0, none⟩ = some (.string code) := by subst hW1; exact cell_last rfl rfl
  have v3 : W1.cell? ⟨w.heap.size, 3, none⟩ = some (.slice a3 l3 c3) := by subst hW1; exact cell_last rfl rfl
  go_enter Try.func40, Try.ntmps40
  go_wp2_with fail
  go_loopg [3, 13] l3 (fun r fv iv wq => ∃ (k : Nat) (f : Int), iv = .int .i64 k ∧ fv = .int .i64 f ∧ 0 ≤ f ∧ k ≤ l3 ∧ l3 - k ≤ r ∧ Hid (f = freeAt rs k) ∧ Hid (∀ i, i < k → relOk code.size (freeAt rs i) (rs.getD i noRel) = true) ∧ Hid (Below (w.heap.size + 1) W1 wq))
  case atStart => exact ⟨0, 0, rfl, rfl, Int.le_refl _, Nat.zero_le _, by omega, rfl, (fun i hi => by omega : ∀ i, i < 0 → relOk code.size (freeAt rs i) (rs.getD i noRel) = true), Below.refl _ _⟩
  case round =>
    obtain ⟨k, f, rfl, rfl, hf0, hk, hr, HF, HAL, HBL⟩ := hrel
    have hbw : Below w.heap.size w wr := b1.trans (HBL.out.mono (Nat.le_succ _))
    have zw : w.heap.size + 1 ≤ wr.heap.size := by have := HBL.out.size; omega
    have u0 := (HBL.out.cell (p := ⟨w.heap.size, 0, none⟩) (Nat.lt_succ_self _)).trans v0
    by_cases hlt : k < l3
    · rcases HV.out.cells with h0 | ⟨b, off, hA, hc⟩
      · omega
      obtain ⟨k0, k1, k2, k3⟩ := hc k hlt
      have hbl : b < w.heap.size := World.block_lt_of_cell? w ⟨b, off + k * 4, none⟩ k0
      have q0 := (hbw.cell (p := ⟨b, off + k * 4, none⟩) hbl).trans k0
      have q1 := (hbw.cell (p := ⟨b, off + k * 4 + 1, none⟩) hbl).trans k1
      have q2 := (hbw.cell (p := ⟨b, off + k * 4 + 2, none⟩) hbl).trans k2
      have q3 := (hbw.cell (p := ⟨b, off + k * 4 + 3, none⟩) hbl).trans k3
      have HRO : Hid (relOk code.size (freeAt rs k) (rs.getD k noRel) = ((decide (f ≤ (rs.getD k noRel).pos) && decide ((rs.getD k noRel).pos ≤ (code.size : Int) - 4)) && (nameOk (rs.getD k noRel).name && addOk (rs.getD k noRel).kind (rs.getD k noRel).add))) := by
        show _ = _
        rw [HF.out]
        rfl
      have HFN : Hid (freeAt rs (k + 1) = (rs.getD k noRel).pos + 4) := by
        show _ = _
        unfold freeAt
        rw [if_neg (by omega)]
        rfl
      obtain ⟨ps, hps⟩ : ∃ ps, (rs.getD k noRel).pos = ps := ⟨_, rfl⟩
      obtain ⟨kd, hkd⟩ : ∃ kd, (rs.getD k noRel).kind = kd := ⟨_, rfl⟩
      obtain ⟨nm, hnm⟩ : ∃ nm, (rs.getD k noRel).name = nm := ⟨_, rfl⟩
      obtain ⟨ad, had⟩ : ∃ ad, (rs.getD k noRel).add = ad := ⟨_, rfl⟩
      rw [hps] at q0 HRO HFN
      rw [hkd] at q1 HRO
      rw [hnm] at q2 HRO
      rw [had] at q3 HRO
      have HNO : Hid (((decide (f ≤ ps) && decide (ps ≤ (code.size : Int) - 4)) && (nameOk nm && addOk kd ad)) = false → relsOk code.size rs = false) := fun h => rels_no (k := k) (by omega) (by rw [HRO.out]; exact h)
      subst hA
      have hii : (k : Int) < l3 := by omega
      have hin : 0 ≤ (k : Int) := by omega
      clear hc k0 k1 k2 k3 hps hkd hnm had
      obtain ⟨Y1, hY1⟩ : ∃ Y1, wr.alloc (.cells #[.int .i64 ps, .int .i64 kd, .string nm, .int .i64 ad] 45) = Y1 := ⟨_, rfl⟩
      have bY : Below wr.heap.size wr Y1 := by subst hY1; exact bl_one _ _
      have g0 : Y1.cell? ⟨wr.heap.size, 0, none⟩ = some (.int .i64 ps) := by subst hY1; exact cell_last rfl rfl
      have g1 : Y1.cell? ⟨wr.heap.size, 1, none⟩ = some (.int .i64 kd) := by subst hY1; exact cell_last rfl rfl
      have g2 : Y1.cell? ⟨wr.heap.size, 2, none⟩ = some (.string nm) := by subst hY1; exact cell_last rfl rfl
      have g3 : Y1.cell? ⟨wr.heap.size, 3, none⟩ = some (.int .i64 ad) := by subst hY1; exact cell_last rfl rfl
      have x0 := cell_thru bY u0
      have hbY : Below w.heap.size w Y1 := hbw.trans (bY.mono hbw.size)
      have HBY : Hid (Below (w.heap.size + 1) W1 Y1) := HBL.out.trans (bY.mono zw)
      clear bY
      by_cases hf : ps < f
      · have HN : Hid (relsOk code.size rs = false) := HNO.out (by rw [show decide (f ≤ ps) = false by simp; omega]; rfl)
        go_wp2_with fail
        go_ret
        exact ⟨by rw [HN.out]; rfl, hbY⟩
      · have hd0 : decide (ps < f) = false := decide_eq_false hf
        by_cases hg : (code.size : Int) - 4 < ps
        · have HN : Hid (relsOk code.size rs = false) := HNO.out (by rw [show decide (ps ≤ (code.size : Int) - 4) = false by simp; omega]; simp)
          go_wp2_with fail
          go_ret
          exact ⟨by rw [HN.out]; rfl, hbY⟩
        · have hd1 : decide ((code.size : Int) - 4 < ps) = false := decide_eq_false hg
          have HD : Hid ((decide (f ≤ ps) && decide (ps ≤ (code.size : Int) - 4)) = true) := by show _ = _; simp; omega
          go_wp2_with fail
          refine (name_any nm _).mono ?_
          rintro e y1 ⟨rfl, rfl⟩
          cases hnk : nameOk nm with
          | false =>
            have HN : Hid (relsOk code.size rs = false) := HNO.out (by rw [hnk]; simp)
            clear hnk
            go_wp2_with fail
            go_ret
            exact ⟨by rw [HN.out]; rfl, hbY⟩
          | true =>
            have HNK : Hid _ := hnk
            clear hnk
            go_wp2_with fail
            refine (add_any kd ad _).mono ?_
            rintro e y2 ⟨rfl, rfl⟩
            cases hak : addOk kd ad with
            | false =>
              have HN : Hid (relsOk code.size rs = false) := HNO.out (by rw [hak]; simp)
              clear hak
              go_wp2_with fail
              go_ret
              exact ⟨by rw [HN.out]; rfl, hbY⟩
            | true =>
              have HY : Hid (∀ i, i < k + 1 → relOk code.size (freeAt rs i) (rs.getD i noRel) = true) := fun i hi => by
                rcases Nat.lt_or_ge i k with c | c
                · exact HAL.out i c
                · obtain rfl : i = k := by omega
                  rw [HRO.out, HD.out, HNK.out, hak]
                  rfl
              clear hak
              go_wp2_with fail
              go_roundg (l3 - (k + 1))
              case measure => omega
              case rel => exact ⟨k + 1, ps + 4, by first | rfl | (congr 1; omega), by first | rfl | (congr 1; omega), by omega, by omega, Nat.le_refl _, HFN.out.symm, HY.out, HBY.out⟩
    · obtain rfl : k = l3 := by omega
      have HYA : Hid (relsOk code.size rs = true) := by
        show _ = _
        unfold relsOk
        rw [show decide (rs.length ≤ 8000) = true by simp; omega, all_range_yes (fun i hi => HAL.out i (by omega))]
        rfl
      go_wp2_with fail
      go_ret
      exact ⟨by rw [HYA.out]; rfl, hbw⟩

set_option maxRecDepth 100000 in
set_option maxHeartbeats 8000000 in
theorem check_any {w : World} {v : Value} {o : ObjD} (h : ObjV w v o) :
    Calls Try.prog 32 #[v] w fun e w' => e = .returned (.int .i64 (if o.may then 0 else 1)) ∧ Below w.heap.size w w' := by
  obtain ⟨z, hz⟩ : ∃ z : Int, (if o.may then 0 else 1) = z := ⟨_, rfl⟩
  rw [hz]
  have HZ0 : Hid (o.may = false → z = 1) := fun hm => by rw [← hz, hm]; rfl
  have HZ1 : Hid (o.may = true → z = 0) := fun hm => by rw [← hz, hm]; rfl
  clear hz
  obtain ⟨a1, l1, c1, a2, l2, c2, a3, l3, c3, rfl, hcs, h1, h2, h3⟩ := h.form
  obtain ⟨code, data, syms, rels⟩ := o
  simp only at hcs h1 h2 h3
  have hd := h1.count
  have HM : Hid ((ObjD.mk code data syms rels).may = ((decide (code.size ≤ 65536) && decide (l1 ≤ 4096)) && (symsOk code.size l1 syms && relsOk code.size rels))) := by
    show _ = _
    unfold ObjD.may
    rw [← hd]
  have H2 : Hid _ := h2
  have H3 : Hid _ := h3
  have HCS : Hid _ := hcs
  clear h h1 h2 h3 hcs hd
  obtain ⟨W1, hW1⟩ : ∃ W1, w.alloc (.cells #[.string code, .slice a1 l1 c1, .slice a2 l2 c2, .slice a3 l3 c3] 40) = W1 := ⟨_, rfl⟩
  have b1 : Below w.heap.size w W1 := by subst hW1; exact bl_one _ _
  have v0 : W1.cell? ⟨w.heap.size, 0, none⟩ = some (.string code) := by subst hW1; exact cell_last rfl rfl
  have v1 : W1.cell? ⟨w.heap.size, 1, none⟩ = some (.slice a1 l1 c1) := by subst hW1; exact cell_last rfl rfl
  have v2 : W1.cell? ⟨w.heap.size, 2, none⟩ = some (.slice a2 l2 c2) := by subst hW1; exact cell_last rfl rfl
  have v3 : W1.cell? ⟨w.heap.size, 3, none⟩ = some (.slice a3 l3 c3) := by subst hW1; exact cell_last rfl rfl
  by_cases hc : (65536 : Int) < code.size
  · have HN : Hid ((ObjD.mk code data syms rels).may = false) := by show _ = _; rw [HM.out, show decide (code.size ≤ 65536) = false by simp; omega]; rfl
    go_enter Try.func32, Try.ntmps32
    go_wp2_with fail
    go_ret
    exact ⟨by rw [HZ0.out HN.out]; rfl, b1⟩
  by_cases hl : (4096 : Int) < l1
  · have HN : Hid ((ObjD.mk code data syms rels).may = false) := by show _ = _; rw [HM.out, show decide (l1 ≤ 4096) = false by simp; omega]; simp
    have hc0 : decide ((65536 : Int) < code.size) = false := decide_eq_false hc
    go_enter Try.func32, Try.ntmps32
    go_wp2_with fail
    go_ret
    exact ⟨by rw [HZ0.out HN.out]; rfl, b1⟩
  have HD : Hid ((decide (code.size ≤ 65536) && decide (l1 ≤ 4096)) = true) := by show _ = _; simp; omega
  have hc0 : decide ((65536 : Int) < code.size) = false := decide_eq_false hc
  have hl0 : decide ((4096 : Int) < l1) = false := decide_eq_false hl
  go_enter Try.func32, Try.ntmps32
  go_wp2_with fail
  refine (syms_any code (H2.out.below b1)).mono ?_
  rintro e y1 ⟨rfl, hb1⟩
  have x0 := cell_thru hb1 v0
  have x1 := cell_thru hb1 v1
  have x2 := cell_thru hb1 v2
  have x3 := cell_thru hb1 v3
  have q1 : Below w.heap.size w y1 := b1.trans (hb1.mono b1.size)
  clear hb1
  cases hs : symsOk code.size l1 syms with
  | false =>
    have HN : Hid ((ObjD.mk code data syms rels).may = false) := by show _ = _; rw [HM.out, hs]; simp
    clear hs
    go_wp2_with fail
    go_ret
    exact ⟨by rw [HZ0.out HN.out]; rfl, q1⟩
  | true =>
    have HS : Hid _ := hs
    clear hs
    go_wp2_with fail
    refine (rels_any code (H3.out.below q1) HCS.out).mono ?_
    rintro e y2 ⟨rfl, hb2⟩
    have q2 : Below w.heap.size w y2 := q1.trans (hb2.mono q1.size)
    clear hb2
    cases hr : relsOk code.size rels with
    | false =>
      have HN : Hid ((ObjD.mk code data syms rels).may = false) := by show _ = _; rw [HM.out, hr]; simp
      clear hr
      go_wp2_with fail
      go_ret
      exact ⟨by rw [HZ0.out HN.out]; rfl, q2⟩
    | true =>
      have HN : Hid ((ObjD.mk code data syms rels).may = true) := by show _ = _; rw [HM.out, hr, HS.out, HD.out]; rfl
      clear hr
      go_wp2_with fail
      go_ret
      exact ⟨by rw [HZ1.out HN.out]; rfl, q2⟩

end Go.Proofs.Ytaoklmphcgigeaa

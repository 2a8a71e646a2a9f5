/- The document's May. -/
import Derived.Test.YtfkpbmopneleiaaMemMay
import Derived.Deep.LoopGhost
namespace Go.Proofs.Ytfkpbmopneleiaa
open Go.RowKit Go.Maps
set_option linter.unusedVariables false

set_option maxRecDepth 100000 in
set_option maxHeartbeats 8000000 in
theorem rmay_any {w : World} {a : Option Addr} {len cap : Nat} {rs : List Reg} (h : RegsV w a len cap rs) :
    Calls Try.prog 30 #[.slice a len cap] w fun e w' => e = .returned (.bool (may rs)) ∧ Below w.heap.size w w' := by
  have hcnt := h.count
  have hroom := h.room
  have hcap := h.capOk
  have HV : Hid _ := h
  clear h
  by_cases h16 : (16 : Int) < len
  · have hm : may rs = false := by unfold may; rw [decide_eq_false (show ¬ rs.length ≤ 16 by omega)]; rfl
    have HM : Hid _ := hm
    clear hm HV
    go_enter Try.func30, Try.ntmps30
    go_wp2
    go_ret
    exact ⟨by rw [HM.out]; rfl, Below.refl _ _⟩
  · go_enter Try.func30, Try.ntmps30
    go_wp2_with fail
    go_loopg [3] len (fun r kv wq => ∃ (k : Nat), kv = .int .i64 k ∧ k ≤ len ∧ len - k ≤ r ∧ Hid (∀ i, i < k → okAt rs i = true) ∧ Hid (Below w.heap.size w wq))
    case atStart => exact ⟨0, rfl, Nat.zero_le _, by omega, (fun i hi => by omega : ∀ i, i < 0 → okAt rs i = true), Below.refl _ _⟩
    case round =>
      obtain ⟨k, rfl, hk, hr, HO, HB⟩ := hrel
      by_cases hlt : k < len
      · rcases HV.out.cells with h0 | ⟨b, off, hA, hc⟩
        · omega
        have HC : Hid _ := hc
        obtain ⟨a1, l1, c1, k0, k1, k2, V1⟩ := hc k hlt
        have hbl : b < w.heap.size := World.block_lt_of_cell? w ⟨b, off + k * 3, none⟩ k0
        have q0 := (HB.out.cell (p := ⟨b, off + k * 3, none⟩) hbl).trans k0
        have q1 := (HB.out.cell (p := ⟨b, off + k * 3 + 1, none⟩) hbl).trans k1
        have HK0 : Hid _ := k0
        have HK1 : Hid _ := k1
        have hl1 := V1.count
        have hno : regOk (rs.getD k noReg) = false → may rs = false := fun h => may_no rs k (by omega) (okAt_no rs k h)
        have hlap : ∀ j, j < k → olap (rs.getD k noReg) (rs.getD j noReg) = true → may rs = false := fun j hj h => may_no rs k (by omega) (okAt_lap rs k j hj h)
        have hyes : regOk (rs.getD k noReg) = true → (∀ j, j < k → olap (rs.getD k noReg) (rs.getD j noReg) = false) → okAt rs k = true := fun h h' => okAt_yes rs k h h'
        have hbad := regOk_no (rs.getD k noReg)
        have hgood : (rs.getD k noReg).base.tmod 8 = 0 → 0 ≤ (rs.getD k noReg).base → (rs.getD k noReg).base ≤ 1099511627776 → (rs.getD k noReg).words.length ≤ 65536 → regOk (rs.getD k noReg) = true := fun x1 x2 x3 x4 => by unfold regOk; rw [decide_eq_true x1, decide_eq_true x2, decide_eq_true x3, decide_eq_true x4]; rfl
        generalize rs.getD k noReg = r at *
        obtain ⟨bs, ws, wt⟩ := r
        simp only [] at q0 q1 hl1 hbad hgood
        subst hA
        have HNO : Hid _ := hno
        have HLAP : Hid _ := hlap
        have HYES : Hid _ := hyes
        have HBAD : Hid _ := hbad
        have HGOOD : Hid _ := hgood
        clear hc k0 k1 k2 V1 hno hlap hyes hbad hgood
        have hki : (k : Int) < len := by omega
        have hkn : 0 ≤ (k : Int) := by omega
        rcases (show (bs < 0) ∨ (0 ≤ bs ∧ ¬ bs.tmod 8 = 0) ∨ (0 ≤ bs ∧ bs.tmod 8 = 0 ∧ 1099511627776 < bs) ∨ (0 ≤ bs ∧ bs.tmod 8 = 0 ∧ bs ≤ 1099511627776 ∧ (65536 : Int) < l1) ∨ (0 ≤ bs ∧ bs.tmod 8 = 0 ∧ bs ≤ 1099511627776 ∧ (l1 : Int) ≤ 65536) by omega) with g | ⟨g, g1⟩ | ⟨g, g1, g2⟩ | ⟨g, g1, g2, g3⟩ | ⟨g, g1, g2, g3⟩
        · have HM : Hid (may rs = false) := HNO.out (HBAD.out (by omega))
          go_wp2
          go_ret
          exact ⟨by rw [HM.out]; rfl, HB.out⟩
        · have HM : Hid (may rs = false) := HNO.out (HBAD.out (by omega))
          have d0 : decide (bs < 0) = false := decide_eq_false (by omega)
          have d1 : ¬ bs % 8 = 0 := by rw [Int.tmod_eq_emod_of_nonneg g] at g1; exact g1
          clear g1
          go_wp2
          go_ret
          exact ⟨by rw [HM.out]; rfl, HB.out⟩
        · have HM : Hid (may rs = false) := HNO.out (HBAD.out (by omega))
          have d0 : decide (bs < 0) = false := decide_eq_false (by omega)
          go_wp2
          go_ret
          exact ⟨by rw [HM.out]; rfl, HB.out⟩
        · have HM : Hid (may rs = false) := HNO.out (HBAD.out (by omega))
          have d0 : decide (bs < 0) = false := decide_eq_false (by omega)
          go_wp2
          go_ret
          exact ⟨by rw [HM.out]; rfl, HB.out⟩
        · have HR : Hid _ := HGOOD.out g1 g g2 (by omega)
          have d0 : decide (bs < 0) = false := decide_eq_false (by omega)
          have d2 : decide (1099511627776 < bs) = false := decide_eq_false (by omega)
          have d3 : decide ((65536 : Int) < (l1 : Int)) = false := decide_eq_false (by omega)
          go_wp2_with fail
          go_loopg [4] k (fun r jv wq => ∃ (j : Nat), jv = .int .i64 j ∧ j ≤ k ∧ k - j ≤ r ∧ Hid (∀ i, i < j → olap ⟨bs, ws, wt⟩ (rs.getD i noReg) = false) ∧ Hid (Below w.heap.size w wq))
          case atStart => exact ⟨0, rfl, Nat.zero_le _, by omega, (fun i hi => by omega : ∀ i, i < 0 → olap ⟨bs, ws, wt⟩ (rs.getD i noReg) = false), HB.out⟩
          case round =>
            obtain ⟨j, rfl, hj, hr2, HJ, HBj⟩ := hrel
            clear q0 q1
            have q0 := (HBj.out.cell (p := ⟨b, off + k * 3, none⟩) hbl).trans HK0.out
            have q1 := (HBj.out.cell (p := ⟨b, off + k * 3 + 1, none⟩) hbl).trans HK1.out
            by_cases hlj : j < k
            · obtain ⟨aj, lj, cj, k0, k1, k2, Vj⟩ := HC.out j (by omega)
              have e0 := (HBj.out.cell (p := ⟨b, off + j * 3, none⟩) hbl).trans k0
              have e1 := (HBj.out.cell (p := ⟨b, off + j * 3 + 1, none⟩) hbl).trans k1
              have hok := regOk_bd _ (okAt_reg rs j (HO.out j hlj))
              have hlj' := Vj.count
              have HLJ : Hid _ := HLAP.out j hlj
              have HOE : Hid (olap ⟨bs, ws, wt⟩ (rs.getD j noReg) = (decide (bs < (rs.getD j noReg).base + 8 * (lj : Int)) && decide ((rs.getD j noReg).base < bs + 8 * (l1 : Int)))) := by
                show olap _ _ = _
                unfold olap
                rw [hlj', hl1]
              have HST : Hid (olap ⟨bs, ws, wt⟩ (rs.getD j noReg) = false → ∀ i, i < j + 1 → olap ⟨bs, ws, wt⟩ (rs.getD i noReg) = false) := fun h i hi => by
                rcases Nat.lt_or_ge i j with c | c
                · exact HJ.out i c
                · obtain rfl : i = j := by omega
                  exact h
              rw [hlj'] at hok
              generalize (rs.getD j noReg).base = bj at *
              clear k0 k1 k2 Vj hlj'
              have hji : (j : Int) < len := by omega
              have hjn : 0 ≤ (j : Int) := by omega
              obtain ⟨o1, o2, o3⟩ := hok
              by_cases t1 : bs < bj + 8 * (lj : Int)
              · by_cases t2 : bj < bs + 8 * (l1 : Int)
                · have HM : Hid (may rs = false) := HLJ.out (by rw [HOE.out, decide_eq_true t1, decide_eq_true t2]; rfl)
                  go_wp2_with fail
                  go_ret
                  exact ⟨by rw [HM.out]; rfl, HBj.out⟩
                · have HN : Hid _ := HST.out (by rw [HOE.out, decide_eq_false t2, Bool.and_false])
                  go_wp2_with fail
                  go_roundg (k - (j + 1))
                  case measure => omega
                  case rel => exact ⟨j + 1, by first | rfl | (congr 1; omega), by omega, Nat.le_refl _, HN.out, HBj.out⟩
              · have HN : Hid _ := HST.out (by rw [HOE.out, decide_eq_false t1, Bool.false_and])
                go_wp2_with fail
                go_roundg (k - (j + 1))
                case measure => omega
                case rel => exact ⟨j + 1, by first | rfl | (congr 1; omega), by omega, Nat.le_refl _, HN.out, HBj.out⟩
            · obtain rfl : j = k := by omega
              have HOK : Hid _ := HYES.out HR.out HJ.out
              go_wp2_with fail
              go_roundg (len - (j + 1))
              case measure => omega
              case rel => exact ⟨j + 1, by first | rfl | (congr 1; omega), by omega, Nat.le_refl _, (fun i hi => by
                rcases Nat.lt_or_ge i j with c | c
                · exact HO.out i c
                · obtain rfl : i = j := by omega
                  exact HOK.out : ∀ i, i < j + 1 → okAt rs i = true), HBj.out⟩
      · obtain rfl : k = len := by omega
        have HM : Hid (may rs = true) := may_yes rs (by omega) (fun i hi => HO.out i (by omega))
        go_wp2_with fail
        go_ret
        exact ⟨by rw [HM.out]; rfl, HB.out⟩

end Go.Proofs.Ytfkpbmopneleiaa

/- The document's meet. -/
import Derived.Test.YtfkpbmopneleiaaMemEvenMath
import Derived.Test.YtfkpbmopneleiaaMemSame
import Derived.Test.YtfkpbmopneleiaaMemMeet
import Derived.Deep.QuietTactic
import Derived.BigQuiet
import Derived.Deep.LoopGhost
namespace Go.Proofs.Ytfkpbmopneleiaa
open Go.RowKit Go.Maps
set_option linter.unusedVariables false

theorem meets_yes {a b : List Int} {i k : Nat} (hi : i < a.length) (hk : k < b.length) (h : a.getD i 0 = b.getD k 0) : M.meets a b = true := by
  unfold M.meets
  rw [List.any_eq_true]
  refine ⟨b.getD k 0, by simp [List.getD, hk], ?_⟩
  rw [← h]
  simp [List.getD, hi]
theorem meets_no {a b : List Int} (h : ∀ i, i < a.length → ∀ k, k < b.length → ¬ a.getD i 0 = b.getD k 0) : M.meets a b = false := by
  unfold M.meets
  rw [List.any_eq_false]
  intro x hx
  simp only [List.contains_eq_mem, decide_eq_true_eq]
  intro hxa
  obtain ⟨i, hi, e1⟩ := List.getElem_of_mem hxa
  obtain ⟨k, hk, e2⟩ := List.getElem_of_mem hx
  refine h i hi k hk ?_
  simp [List.getD, hi, hk, e1, e2]

set_option maxRecDepth 100000 in
set_option maxHeartbeats 4000000 in
theorem rmeet_any {w : World} {a1 : Option Addr} {l1 c1 : Nat} {za : List Int} {a2 : Option Addr} {l2 c2 : Nat} {zb : List Int} (ha : View w a1 l1 c1 za) (hb2 : View w a2 l2 c2 zb) (hl1 : l1 ≤ 140737488355328) (hl2 : l2 ≤ 140737488355328) :
    Calls Try.prog 39 #[.slice a1 l1 c1, .slice a2 l2 c2] w fun e w' => e = .returned (.bool (M.meets za zb)) ∧ Below w.heap.size w w' := by
  have hca := ha.count
  have hcb := hb2.count
  have HA : Hid _ := ha
  have HB : Hid _ := hb2
  clear ha hb2
  go_enter Try.func39, Try.ntmps39
  go_wp2_with fail
  go_loopg [5] l1 (fun r kv wq => ∃ (k : Nat), kv = .int .i64 k ∧ k ≤ l1 ∧ l1 - k ≤ r ∧ Hid (∀ i, i < k → ∀ j, j < zb.length → ¬ za.getD i 0 = zb.getD j 0) ∧ Below w.heap.size w wq)
  case atStart => exact ⟨0, rfl, Nat.zero_le _, by omega, (fun i hi => by omega : ∀ i, i < 0 → ∀ j, j < zb.length → ¬ za.getD i 0 = zb.getD j 0), Below.refl _ _⟩
  case round =>
    obtain ⟨k, rfl, hk, hr, HN, hbr⟩ := hrel
    by_cases hlt : k < l1
    · rcases HA.out.cells with h0 | ⟨b1, o1, hA1, hc1⟩
      · omega
      have k1 := hc1 k hlt
      have HK1 : Hid _ := k1
      have zb1 := World.block_lt_of_cell? w ⟨b1, o1 + k, none⟩ k1
      subst hA1
      have hki : (k : Int) < l1 := by omega
      have hkn : 0 ≤ (k : Int) := by omega
      have HY : Hid _ := fun (j : Nat) (hj : j < zb.length) (h : za.getD k 0 = zb.getD j 0) => meets_yes (by omega : k < za.length) hj h
      obtain ⟨x, hx⟩ : ∃ x, za.getD k 0 = x := ⟨_, rfl⟩
      rw [hx] at HK1 HY
      have HX : Hid _ := hx
      clear hc1 k1 hx
      go_wp2_with fail
      go_loopg [6] l2 (fun r kv wq => ∃ (j : Nat), kv = .int .i64 j ∧ j ≤ l2 ∧ l2 - j ≤ r ∧ Hid (∀ i, i < j → ¬ x = zb.getD i 0) ∧ Below w.heap.size w wq)
      case atStart => exact ⟨0, rfl, Nat.zero_le _, by omega, (fun i hi => by omega : ∀ i, i < 0 → ¬ x = zb.getD i 0), hbr⟩
      case round =>
        obtain ⟨j, rfl, hj, hr2, HJ, hbj⟩ := hrel
        by_cases hlj : j < l2
        · rcases HB.out.cells with h0 | ⟨b2, o2, hA2, hc2⟩
          · omega
          have k2 := hc2 j hlj
          have k1' := (hbj.cell (p := ⟨b1, o1 + k, none⟩) zb1).trans HK1.out
          have k2' := (hbj.cell (p := ⟨b2, o2 + j, none⟩) (World.block_lt_of_cell? w ⟨b2, o2 + j, none⟩ k2)).trans k2
          have hYj := HY.out j (by omega)
          have HSN : Hid (¬ x = zb.getD j 0 → ∀ i, i < j + 1 → ¬ x = zb.getD i 0) := fun h i hi => by
            rcases Nat.lt_or_ge i j with c | c
            · exact HJ.out i c
            · obtain rfl : i = j := by omega
              exact h
          have hji : (j : Int) < l2 := by omega
          have hjn : 0 ≤ (j : Int) := by omega
          subst hA2
          clear hc2 k2
          have HYJ : Hid _ := hYj
          clear hYj
          obtain ⟨y, hy⟩ : ∃ y, zb.getD j 0 = y := ⟨_, rfl⟩
          rw [hy] at k2' HYJ
          have HYY : Hid _ := hy
          clear hy
          by_cases hxy : x = y
          · have HM : Hid _ := HYJ.out hxy
            subst hxy
            go_wp2_with fail
            go_quiet (fail)
            go_wp2_with fail
            go_ret
            refine ⟨?_, below_drewN hbj _⟩
            rw [HM.out]
            rfl
          · have hbf : (x == y) = false := by simpa using hxy
            have HXY : Hid _ := hxy
            clear hxy
            go_wp2_with fail
            go_quiet (fail)
            go_wp2_with fail
            go_roundg (l2 - (j + 1))
            case measure => omega
            case rel => exact ⟨j + 1, by first | rfl | (congr 1; omega), by omega, Nat.le_refl _, HSN.out (by rw [HYY.out]; exact HXY.out), below_drewN hbj _⟩
        · obtain rfl : j = l2 := by omega
          go_wp2_with fail
          go_roundg (l1 - (k + 1))
          case measure => omega
          case rel => exact ⟨k + 1, by first | rfl | (congr 1; omega), by omega, Nat.le_refl _, (fun i hi m hm => by
            rcases Nat.lt_or_ge i k with c | c
            · exact HN.out i c m hm
            · obtain rfl : i = k := by omega
              rw [HX.out]
              exact HJ.out m (by omega) : ∀ i, i < k + 1 → ∀ m, m < zb.length → ¬ za.getD i 0 = zb.getD m 0), hbj⟩
    · obtain rfl : k = l1 := by omega
      go_wp2_with fail
      go_ret
      refine ⟨?_, hbr⟩
      rw [meets_no (fun i hi => HN.out i (by omega))]
      rfl

set_option maxRecDepth 100000 in
set_option maxHeartbeats 1000000 in
theorem rclash_any {w : World} {va vb : Value} {ra wa rb wb : List Int} (ha : FootV w va ra wa) (hb : FootV w vb rb wb) (h1 : ra.length ≤ 140737488355328) (h2 : wa.length ≤ 140737488355328) (h3 : rb.length ≤ 140737488355328) (h4 : wb.length ≤ 140737488355328) :
    Calls Try.prog 26 #[va, vb] w fun e w' => e = .returned (.bool (clash ra wa rb wb)) ∧ Below w.heap.size w w' := by
  obtain ⟨a, l, c, a', l', c', rfl, p1, p2⟩ := ha.form
  obtain ⟨d, m, f, d', m', f', rfl, q1, q2⟩ := hb.form
  have hB : Below w.heap.size w ((w.alloc (.cells #[.slice a l c, .slice a' l' c'] 40)).alloc (.cells #[.slice d m f, .slice d' m' f'] 40)) := ((Below.refl _ _).alloc (Nat.le_refl _) _).alloc (by simp) _
  have P1 : Hid _ := p1.below hB
  have P2 : Hid _ := p2.below hB
  have Q1 : Hid _ := q1.below hB
  have Q2 : Hid _ := q2.below hB
  have HL : Hid (l ≤ 140737488355328 ∧ l' ≤ 140737488355328 ∧ m ≤ 140737488355328 ∧ m' ≤ 140737488355328) := ⟨by rw [← p1.count]; exact h1, by rw [← p2.count]; exact h2, by rw [← q1.count]; exact h3, by rw [← q2.count]; exact h4⟩
  clear ha hb p1 p2 q1 q2 h1 h2 h3 h4
  go_enter Try.func26, Try.ntmps26
  go_wp2_with fail
  refine (rmeet_any P2.out Q1.out HL.out.2.1 HL.out.2.2.1).mono ?_
  rintro e x1 ⟨rfl, b1⟩
  have cA : ∀ X : World, Below ((w.alloc (.cells #[.slice a l c, .slice a' l' c'] 40)).alloc (.cells #[.slice d m f, .slice d' m' f'] 40)).heap.size ((w.alloc (.cells #[.slice a l c, .slice a' l' c'] 40)).alloc (.cells #[.slice d m f, .slice d' m' f'] 40)) X →
      X.cell? ⟨w.heap.size, 0, none⟩ = some (.slice a l c) ∧ X.cell? ⟨w.heap.size, 1, none⟩ = some (.slice a' l' c') ∧ X.cell? ⟨w.heap.size + 1, 0, none⟩ = some (.slice d m f) ∧ X.cell? ⟨w.heap.size + 1, 1, none⟩ = some (.slice d' m' f') := by
    intro X hX
    have hY : Below (w.alloc (.cells #[.slice a l c, .slice a' l' c'] 40)).heap.size (w.alloc (.cells #[.slice a l c, .slice a' l' c'] 40)) ((w.alloc (.cells #[.slice a l c, .slice a' l' c'] 40)).alloc (.cells #[.slice d m f, .slice d' m' f'] 40)) := (Below.refl _ _).alloc (Nat.le_refl _) _
    refine ⟨(hX.cell (p := ⟨w.heap.size, 0, none⟩) (by simp; omega)).trans ((hY.cell (p := ⟨w.heap.size, 0, none⟩) (by simp)).trans (by simp)), (hX.cell (p := ⟨w.heap.size, 1, none⟩) (by simp; omega)).trans ((hY.cell (p := ⟨w.heap.size, 1, none⟩) (by simp)).trans (by simp)), (hX.cell (p := ⟨w.heap.size + 1, 0, none⟩) (by simp)).trans (cell_last _ _ _ _ _ (by simp) rfl), (hX.cell (p := ⟨w.heap.size + 1, 1, none⟩) (by simp)).trans (cell_last _ _ _ _ _ (by simp) rfl)⟩
  have k1 := cA x1 b1
  have P1b : Hid _ := P1.out.below b1
  have P2b : Hid _ := P2.out.below b1
  have Q1b : Hid _ := Q1.out.below b1
  have Q2b : Hid _ := Q2.out.below b1
  have hB1 := hB.trans (b1.mono hB.size)
  have HC : Hid _ := cA
  clear cA P1 P2 Q1 Q2
  cases hm : M.meets wa rb
  · have HM : Hid _ := hm
    clear hm
    go_wp2_with fail
    refine (rmeet_any P2b.out Q2b.out HL.out.2.1 HL.out.2.2.2).mono ?_
    rintro e x2 ⟨rfl, b2⟩
    have hb12 := b1.trans (b2.mono b1.size)
    have k2 := HC.out x2 hb12
    have P1c : Hid _ := P1b.out.below b2
    have Q2c : Hid _ := Q2b.out.below b2
    have hB2 := hB1.trans (b2.mono hB1.size)
    clear k1 HC P1b P2b Q1b Q2b b1 b2
    cases hm2 : M.meets wa wb
    · have HM2 : Hid _ := hm2
      clear hm2
      go_wp2_with fail
      refine (rmeet_any P1c.out Q2c.out HL.out.1 HL.out.2.2.2).mono ?_
      rintro e x3 ⟨rfl, b3⟩
      have hB3 := hB2.trans (b3.mono hB2.size)
      clear k2 Q2c P1c
      go_wp2
      go_ret
      refine ⟨?_, hB3⟩
      simp only [clash, HM.out, HM2.out, M.meets_comm ra wb]
      rfl
    · have HM2 : Hid _ := hm2
      clear hm2
      go_wp2
      go_ret
      refine ⟨?_, hB2⟩
      simp only [clash, HM.out, HM2.out]
      rfl
  · have HM : Hid _ := hm
    clear hm
    go_wp2
    go_ret
    refine ⟨?_, hB1⟩
    simp only [clash, HM.out, Bool.or_true, Bool.true_or]
    rfl

end Go.Proofs.Ytfkpbmopneleiaa

/- What the document's Same and SameFoot come to. -/
import Derived.Test.YtfkpbmopneleiaaMemMeet
import Derived.Deep.QuietTactic
import Derived.BigQuiet
namespace Go.Proofs.Ytfkpbmopneleiaa
open Go.RowKit Go.Maps

theorem same_take (za zb : List Int) (k : Nat) (ha : k < za.length) (hb : k < zb.length) (h : za.take k = zb.take k) (e : za.getD k 0 = zb.getD k 0) : za.take (k + 1) = zb.take (k + 1) := by
  rw [take_snoc za k ha, take_snoc zb k hb, h, e]

set_option maxRecDepth 100000 in
set_option maxHeartbeats 1000000 in
theorem same_any {w : World} {a1 : Option Addr} {l1 c1 : Nat} {za : List Int} {a2 : Option Addr} {l2 c2 : Nat} {zb : List Int} (ha : View w a1 l1 c1 za) (hb : View w a2 l2 c2 zb) (hl1 : l1 ≤ 140737488355328) (hl2 : l2 ≤ 140737488355328) :
    Calls Try.prog 18 #[.slice a1 l1 c1, .slice a2 l2 c2] w fun e w' => e = .returned (.bool (decide (za = zb))) ∧ Below w.heap.size w w' := by
  have hca := ha.count
  have hcb := hb.count
  have HA : Hid _ := ha
  have HB : Hid _ := hb
  clear ha hb
  by_cases hl : l1 = l2
  · subst hl
    have hne : ((l1 : Int) != (l1 : Int)) = false := by simp
    go_enter Try.func18, Try.ntmps18
    go_wp2
    go_loopw [5] (fun i wr => ∃ k : Nat, k ≤ l1 ∧ i = .int .i64 k ∧ Hid (za.take k = zb.take k) ∧ Below w.heap.size w wr) (fun i _ => l1 - (RowKit.intOf i).toNat)
    case atStart => exact ⟨0, by omega, rfl, rfl, Below.refl _ _⟩
    case round =>
      obtain ⟨k, hk, rfl, HT, hbr⟩ := hrel
      by_cases hlt : k < l1
      · rcases HA.out.cells with h0 | ⟨b1, o1, hA1, hc1⟩
        · omega
        rcases HB.out.cells with h0 | ⟨b2, o2, hA2, hc2⟩
        · omega
        have k1 := hc1 k hlt
        have k2 := hc2 k hlt
        have k1' : wr.cell? ⟨b1, o1 + k, none⟩ = some (.int .i64 (za.getD k 0)) := (hbr.cell (p := ⟨b1, o1 + k, none⟩) (World.block_lt_of_cell? w ⟨b1, o1 + k, none⟩ k1)).trans k1
        have k2' : wr.cell? ⟨b2, o2 + k, none⟩ = some (.int .i64 (zb.getD k 0)) := (hbr.cell (p := ⟨b2, o2 + k, none⟩) (World.block_lt_of_cell? w ⟨b2, o2 + k, none⟩ k2)).trans k2
        have hS := same_take za zb k (by omega) (by omega) HT.out
        have hD : za.getD k 0 ≠ zb.getD k 0 → za ≠ zb := fun h e => h (by rw [e])
        have hki : (k : Int) < l1 := by omega
        have hkn : 0 ≤ (k : Int) := by omega
        have HS : Hid _ := hS
        have HD : Hid _ := hD
        generalize za.getD k 0 = x at *
        generalize zb.getD k 0 = y at *
        subst hA1
        subst hA2
        clear hc1 hc2 k1 k2 hS hD HA HB
        by_cases hxy : x = y
        · have hb : (x != y) = false := by simpa using hxy
          have HX : Hid _ := hxy
          clear hxy
          go_wp2
          go_quiet (fail)
          go_wp2
          go_roundw
          case rel => exact ⟨k + 1, by omega, by go_num, HS.out HX.out, below_drewN hbr _⟩
          case measure => simp [RowKit.intOf]; omega
        · have hb : (x != y) = true := by simpa using hxy
          have HX : Hid _ := hxy
          clear hxy
          go_wp2
          go_quiet (fail)
          go_wp2
          go_ret
          refine ⟨?_, below_drewN hbr _⟩
          rw [decide_eq_false (HD.out HX.out)]
          rfl
      · have hT := HT.out
        rw [List.take_of_length_le (by omega), List.take_of_length_le (by omega)] at hT
        have HT2 : Hid _ := hT
        clear hT HT HA HB
        go_wp2
        go_ret
        refine ⟨?_, hbr⟩
        rw [decide_eq_true HT2.out]
        rfl
  · have hne : ((l1 : Int) != (l2 : Int)) = true := by simp; omega
    have hz : ¬ za = zb := fun e => hl (by rw [← hca, ← hcb, e])
    have HZ : Hid _ := hz
    clear hz hl HA HB
    go_enter Try.func18, Try.ntmps18
    go_wp2
    go_ret
    refine ⟨?_, Below.refl _ _⟩
    rw [decide_eq_false HZ.out]
    rfl

set_option maxRecDepth 100000 in
set_option maxHeartbeats 1000000 in
theorem samefoot_any {w : World} {va vb : Value} {ra wa rb wb : List Int} (ha : FootV w va ra wa) (hb : FootV w vb rb wb) (h1 : ra.length ≤ 140737488355328) (h2 : wa.length ≤ 140737488355328) (h3 : rb.length ≤ 140737488355328) (h4 : wb.length ≤ 140737488355328) :
    Calls Try.prog 15 #[va, vb] w fun e w' => e = .returned (.bool (decide (ra = rb) && decide (wa = wb))) ∧ Below w.heap.size w w' := by
  obtain ⟨a, l, c, a', l', c', rfl, p1, p2⟩ := ha.form
  obtain ⟨d, m, f, d', m', f', rfl, q1, q2⟩ := hb.form
  have hB : Below w.heap.size w ((w.alloc (.cells #[.slice a l c, .slice a' l' c'] 40)).alloc (.cells #[.slice d m f, .slice d' m' f'] 40)) := ((Below.refl _ _).alloc (Nat.le_refl _) _).alloc (by simp) _
  have P1 : Hid _ := p1.below hB
  have P2 : Hid _ := p2.below hB
  have Q1 : Hid _ := q1.below hB
  have Q2 : Hid _ := q2.below hB
  have HL : Hid (l ≤ 140737488355328 ∧ l' ≤ 140737488355328 ∧ m ≤ 140737488355328 ∧ m' ≤ 140737488355328) := ⟨by rw [← p1.count]; exact h1, by rw [← p2.count]; exact h2, by rw [← q1.count]; exact h3, by rw [← q2.count]; exact h4⟩
  clear ha hb p1 p2 q1 q2 h1 h2 h3 h4
  go_enter Try.func15, Try.ntmps15
  go_wp2_with fail
  refine (same_any P1.out Q1.out HL.out.1 HL.out.2.2.1).mono ?_
  rintro e x1 ⟨rfl, b1⟩
  have hY : Below (w.alloc (.cells #[.slice a l c, .slice a' l' c'] 40)).heap.size (w.alloc (.cells #[.slice a l c, .slice a' l' c'] 40)) ((w.alloc (.cells #[.slice a l c, .slice a' l' c'] 40)).alloc (.cells #[.slice d m f, .slice d' m' f'] 40)) := (Below.refl _ _).alloc (Nat.le_refl _) _
  have k1 : x1.cell? ⟨w.heap.size, 1, none⟩ = some (.slice a' l' c') := (b1.cell (p := ⟨w.heap.size, 1, none⟩) (by simp; omega)).trans ((hY.cell (p := ⟨w.heap.size, 1, none⟩) (by simp)).trans (by simp))
  have k2 : x1.cell? ⟨w.heap.size + 1, 1, none⟩ = some (.slice d' m' f') := (b1.cell (p := ⟨w.heap.size + 1, 1, none⟩) (by simp)).trans (cell_last _ _ _ _ _ (by simp) rfl)
  have P2b : Hid _ := P2.out.below b1
  have Q2b : Hid _ := Q2.out.below b1
  have hB1 := hB.trans (b1.mono hB.size)
  clear P1 P2 Q1 Q2 hY b1 hB
  by_cases hm : ra = rb
  · rw [decide_eq_true hm]
    have HM : Hid _ := hm
    clear hm
    go_wp2_with fail
    refine (same_any P2b.out Q2b.out HL.out.2.1 HL.out.2.2.2).mono ?_
    rintro e x2 ⟨rfl, b2⟩
    have hB2 := hB1.trans (b2.mono hB1.size)
    go_wp2
    go_ret
    exact ⟨by rw [decide_eq_true HM.out, Bool.true_and]; rfl, hB2⟩
  · rw [decide_eq_false hm]
    have HM : Hid _ := hm
    clear hm
    go_wp2
    go_ret
    exact ⟨by rw [decide_eq_false HM.out, Bool.false_and]; rfl, hB1⟩

end Go.Proofs.Ytfkpbmopneleiaa

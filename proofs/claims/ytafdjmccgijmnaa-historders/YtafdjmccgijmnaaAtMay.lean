/- What the document's may, May and Check come to. -/
import Derived.Test.YtafdjmccgijmnaaAtSame
namespace Go.Proofs.Ytafdjmccgijmnaa.A
open Go.RowKit Go.Maps Go.Lib
set_option linter.unusedVariables false
set_option linter.unusedSimpArgs false

theorem one_eq (x : At) : oneOk x = (decide (x.name.size ≠ 0) && (decide (0 ≤ x.cap) && (decide (x.cap ≤ 8) && (decide ((x.items.length : Int) ≤ x.cap) && (x.items.all (fun n => decide (0 ≤ n)) && (decide (x.owner = 0) || (decide (x.cap = 0) && (decide (1 ≤ x.owner) && decide (x.owner ≤ 4))))))))) := by
  unfold oneOk kindOk
  congr 1
  by_cases h0 : x.cap = 0
  · rw [if_pos h0, h0]
    by_cases hl : x.items.length = 0
    · have : x.items = [] := List.eq_nil_of_length_eq_zero hl
      rw [this]
      simp
      by_cases e : x.owner = 0
      · rw [e]; decide
      · by_cases e1 : 1 ≤ x.owner <;> by_cases e2 : x.owner ≤ 4 <;> simp [e, e1, e2] <;> omega
    · have : ¬ ((x.items.length : Int) ≤ 0) := by omega
      simp [hl, this]
  · rw [if_neg h0]
    have e1 : decide (1 ≤ x.cap) = decide (0 ≤ x.cap) := by congr 1; exact propext (by omega)
    rw [e1]
    by_cases a1 : 0 ≤ x.cap <;> by_cases a2 : x.cap ≤ 8 <;> by_cases a3 : (x.items.length : Int) ≤ x.cap <;> by_cases a4 : x.owner = 0 <;> simp [h0, a1, a2, a3, a4]

set_option maxRecDepth 100000 in
set_option maxHeartbeats 8000000 in
theorem rone_any {w : World} (x : At) {a : Option Addr} {l c : Nat} (h : IntsV w a l c x.items) :
    Calls Try.prog 38 #[.agg #[.string x.name, .int .i64 x.cap, .int .i64 x.owner, .slice a l c]] w fun e w' => e = .returned (.bool (oneOk x)) ∧ Below w.heap.size w w' := by
  have HO : Hid _ := one_eq x
  obtain ⟨nm, cp, ow, zs⟩ := x
  simp only at h HO ⊢
  have HV : Hid _ := h
  have HC : Hid _ := h.count
  have hrm := h.room
  have hmax : maxLen = 9223372036854775807 := rfl
  rw [h.count] at HO
  clear h
  obtain ⟨W1, hW1⟩ : ∃ W1, w.alloc (.cells #[.string nm, .int .i64 cp, .int .i64 ow, .slice a l c] 49) = W1 := ⟨_, rfl⟩
  have b1 : Below w.heap.size w W1 := by subst hW1; exact bl_one _ _
  have HB1 : Hid _ := b1
  have v0 : W1.cell? ⟨w.heap.size, 0, none⟩ = some (.string nm) := by subst hW1; exact cell_last rfl rfl
  have v1 : W1.cell? ⟨w.heap.size, 1, none⟩ = some (.int .i64 cp) := by subst hW1; exact cell_last rfl rfl
  have v2 : W1.cell? ⟨w.heap.size, 2, none⟩ = some (.int .i64 ow) := by subst hW1; exact cell_last rfl rfl
  have v3 : W1.cell? ⟨w.heap.size, 3, none⟩ = some (.slice a l c) := by subst hW1; exact cell_last rfl rfl
  have HV1 : Hid _ := HV.out.below b1
  generalize hR : oneOk ⟨nm, cp, ow, zs⟩ = R at HO ⊢
  generalize hA : (zs.all fun n => decide (0 ≤ n)) = A at HO
  have HA : Hid _ := hA
  have HTN : Hid _ := toList_nil nm
  clear hR hA b1 HV
  rcases (show nm.size = 0 ∨ (¬ nm.size = 0 ∧ cp < 0) ∨ (¬ nm.size = 0 ∧ ¬ cp < 0 ∧ 8 < cp) ∨ (¬ nm.size = 0 ∧ ¬ cp < 0 ∧ ¬ 8 < cp ∧ cp < (l : Int)) ∨ (¬ nm.size = 0 ∧ ¬ cp < 0 ∧ ¬ 8 < cp ∧ ¬ cp < (l : Int)) by omega) with h1 | ⟨h1, h2⟩ | ⟨h1, h2, h3⟩ | ⟨h1, h2, h3, h4⟩ | ⟨h1, h2, h3, h4⟩
  · have hem : nm.toList.isEmpty = true := by rw [HTN.out]; exact decide_eq_true h1
    have HE : Hid (R = false) := by show _ = _; rw [HO.out]; simp [h1]
    clear h1
    go_enter Try.func38, Try.ntmps38
    go_wp2
    go_ret
    exact ⟨by rw [HE.out]; rfl, HB1.out⟩
  · have hem : nm.toList.isEmpty = false := by rw [HTN.out]; exact decide_eq_false h1
    have HE : Hid (R = false) := by show _ = _; rw [HO.out]; simp [show ¬ 0 ≤ cp by omega]
    clear h1
    go_enter Try.func38, Try.ntmps38
    go_wp2
    go_ret
    exact ⟨by rw [HE.out]; rfl, HB1.out⟩
  · have hem : nm.toList.isEmpty = false := by rw [HTN.out]; exact decide_eq_false h1
    have HE : Hid (R = false) := by show _ = _; rw [HO.out]; simp [show ¬ cp ≤ 8 by omega]
    clear h1
    go_enter Try.func38, Try.ntmps38
    go_wp2
    go_ret
    exact ⟨by rw [HE.out]; rfl, HB1.out⟩
  · have hem : nm.toList.isEmpty = false := by rw [HTN.out]; exact decide_eq_false h1
    have HE : Hid (R = false) := by show _ = _; rw [HO.out]; simp [show ¬ (l : Int) ≤ cp by omega]
    clear h1
    go_enter Try.func38, Try.ntmps38
    go_wp2
    go_ret
    exact ⟨by rw [HE.out]; rfl, HB1.out⟩
  · have hem : nm.toList.isEmpty = false := by rw [HTN.out]; exact decide_eq_false h1
    have HR : Hid (R = (A && (decide (ow = 0) || (decide (cp = 0) && (decide (1 ≤ ow) && decide (ow ≤ 4)))))) := by
      show _ = _
      rw [HO.out]
      simp [h1, show 0 ≤ cp by omega, show cp ≤ 8 by omega, show (l : Int) ≤ cp by omega]
    clear h1 HO HTN
    go_enter Try.func38, Try.ntmps38
    go_wp2_with fail
    go_loopg [3] l (fun r iv wq => ∃ (k : Nat), iv = .int .i64 k ∧ k ≤ l ∧ l - k ≤ r ∧ Hid (∀ i, i < k → 0 ≤ zs.getD i 0) ∧ wq = W1)
    case atStart => exact ⟨0, rfl, Nat.zero_le _, by omega, (fun i hi => by omega : ∀ i, i < 0 → 0 ≤ zs.getD i 0), rfl⟩
    case round =>
      obtain ⟨k, rfl, hk, hr, HAL, rfl⟩ := hrel
      by_cases hlt : k < l
      · rcases HV1.out.cells with h0 | ⟨b, off, hA, hcl⟩
        · omega
        have q := hcl k hlt
        have HNO : Hid (zs.getD k 0 < 0 → A = false) := fun hz => by
          rw [← HA.out, ← Bool.not_eq_true, List.all_eq_true]
          intro h'
          have hkl : k < zs.length := by have := HC.out; omega
          have := h' (zs.getD k 0) (by simp [List.getD, hkl])
          simp only [decide_eq_true_eq] at this
          omega
        obtain ⟨z, hz⟩ : ∃ z, zs.getD k 0 = z := ⟨_, rfl⟩
        have HZ : Hid _ := hz
        rw [hz] at q HNO
        subst hA
        have hii : (k : Int) < l := by omega
        have hin : 0 ≤ (k : Int) := by omega
        clear hcl hz
        by_cases hneg : z < 0
        · have HE : Hid (R = false) := by show _ = _; rw [HR.out, HNO.out hneg, Bool.false_and]
          go_wp2
          go_ret
          exact ⟨by rw [HE.out]; rfl, HB1.out⟩
        · go_wp2_with fail
          go_roundg (l - (k + 1))
          case measure => omega
          case rel => exact ⟨k + 1, by first | rfl | (congr 1; omega), by omega, Nat.le_refl _, (fun i hi => by
            by_cases e : i = k
            · subst e; rw [HZ.out]; omega
            · exact HAL.out i (by omega) : ∀ i, i < k + 1 → 0 ≤ zs.getD i 0), rfl⟩
      · have hii : ¬ (k : Int) < l := by omega
        have HAT : Hid (A = true) := by
          show _ = _
          rw [← HA.out, List.all_eq_true]
          intro z hz
          obtain ⟨i, hi, rfl⟩ := List.getElem_of_mem hz
          have := HAL.out i (by have := HC.out; omega)
          simp [List.getD, hi] at this
          simpa using this
        have HR2 : Hid _ := HR.out
        rw [HAT.out, Bool.true_and] at HR2
        rcases (show ow = 0 ∨ (¬ ow = 0 ∧ ¬ cp = 0) ∨ (¬ ow = 0 ∧ cp = 0 ∧ ¬ 1 ≤ ow) ∨ (¬ ow = 0 ∧ cp = 0 ∧ 1 ≤ ow ∧ ¬ ow ≤ 4) ∨ (¬ ow = 0 ∧ cp = 0 ∧ 1 ≤ ow ∧ ow ≤ 4) by omega) with g1 | ⟨g1, g2⟩ | ⟨g1, g2, g3⟩ | ⟨g1, g2, g3, g4⟩ | ⟨g1, g2, g3, g4⟩
        · have HE : Hid (R = true) := by show _ = _; rw [HR2.out]; simp [g1]
          clear HR HR2
          go_wp2
          go_ret
          exact ⟨by rw [HE.out]; first | rfl | (simp; done) | (simp; assumption) | (simp; omega), HB1.out⟩
        · have HE : Hid (R = false) := by show _ = _; rw [HR2.out]; simp [g1, g2]
          clear HR HR2
          go_wp2
          go_ret
          exact ⟨by rw [HE.out]; first | rfl | (simp; done) | (simp; assumption) | (simp; omega), HB1.out⟩
        · have HE : Hid (R = false) := by show _ = _; rw [HR2.out, decide_eq_false g1, decide_eq_false g3]; simp
          clear HR HR2
          go_wp2
          go_ret
          exact ⟨by rw [HE.out]; first | rfl | (simp; done) | (simp; assumption) | (simp; omega), HB1.out⟩
        · have HE : Hid (R = false) := by show _ = _; rw [HR2.out, decide_eq_false g1, decide_eq_false g4]; simp
          clear HR HR2
          go_wp2
          go_ret
          exact ⟨by rw [HE.out]; first | rfl | (simp; done) | (simp; assumption) | (simp; omega), HB1.out⟩
        · have HE : Hid (R = true) := by show _ = _; rw [HR2.out]; simp [g2, g3, g4]
          clear HR HR2
          go_wp2
          go_ret
          exact ⟨by rw [HE.out]; first | rfl | (simp; done) | (simp; assumption) | (simp; omega), HB1.out⟩

set_option maxRecDepth 100000 in
set_option maxHeartbeats 8000000 in
theorem rmay_any {w : World} {a : Option Addr} {l c : Nat} {os : List At} (h : AtsV w a l c os) :
    Calls Try.prog 19 #[.slice a l c] w fun e w' => e = .returned (.bool (mayAll os)) ∧ Below w.heap.size w w' := by
  have HV : Hid _ := h
  have HC : Hid _ := h.count
  have hm := h.room
  have hmax : maxLen = 9223372036854775807 := rfl
  clear h
  generalize hR : mayAll os = R
  have HR : Hid _ := hR
  clear hR
  go_enter Try.func19, Try.ntmps19
  go_wp2_with fail
  go_loopg [3] l (fun r iv wq => ∃ (k : Nat), iv = .int .i64 k ∧ k ≤ l ∧ l - k ≤ r ∧ Hid (∀ i, i < k → atOk os i = true) ∧ Hid (Below w.heap.size w wq))
  case atStart => exact ⟨0, rfl, Nat.zero_le _, by omega, (fun i hi => by omega : ∀ i, i < 0 → atOk os i = true), Below.refl _ _⟩
  case round =>
    obtain ⟨k, rfl, hk, hr, HAL, HBL⟩ := hrel
    by_cases hlt : k < l
    · rcases HV.out.cells with h0 | ⟨b, off, hA, hcl⟩
      · omega
      obtain ⟨q0, q1, q2, a1, l1, c1, q3, V⟩ := hcl k hlt
      have HVW : Hid _ := V.below HBL.out
      have HCL : Hid (∀ i, i < l → w.cell? ⟨b, off + i * 4, none⟩ = some (.string (os.getD i noAt).name)) := fun i hi => (hcl i hi).1
      have q0 := cell_thru HBL.out q0
      have q1 := cell_thru HBL.out q1
      have q2 := cell_thru HBL.out q2
      have q3 := cell_thru HBL.out q3
      have HNO : Hid (atOk os k = false → R = false) := fun hz => by rw [← HR.out]; exact may_no (by have := HC.out; omega) hz
      have HAT : Hid (atOk os k = (freeName os k && oneOk (os.getD k noAt))) := rfl
      have HAL2 : Hid (atOk os k = true → ∀ i, i < k + 1 → atOk os i = true) := fun hz i hi => by
        by_cases e : i = k
        · subst e; exact hz
        · exact HAL.out i (by omega)
      obtain ⟨x, hx⟩ : ∃ x, os.getD k noAt = x := ⟨_, rfl⟩
      have HX : Hid _ := hx
      rw [hx] at q0 q1 q2 HVW HAT
      cases hA
      have hii : (k : Int) < l := by omega
      have hin : 0 ≤ (k : Int) := by omega
      clear hcl hx V
      go_wp2_with fail
      refine (rone_any x HVW.out).mono ?_
      rintro e y ⟨rfl, hy⟩
      have BY : Hid (Below w.heap.size w y) := HBL.out.trans (hy.mono HBL.out.size)
      clear hy q0 q1 q2 q3 HVW
      cases hone : oneOk x with
      | false =>
        have HE : Hid (R = false) := HNO.out (by rw [HAT.out, hone, Bool.and_false])
        go_wp2
        go_ret
        exact ⟨by rw [HE.out]; rfl, BY.out⟩
      | true =>
        have HON : Hid _ := hone
        have HB0 : Hid _ := HBL.out
        clear hone HBL
        generalize wr = wo at *
        go_wp2_with fail
        go_loopg [5] k (fun r jv wq => ∃ (m : Nat), jv = .int .i64 m ∧ m ≤ k ∧ k - m ≤ r ∧ Hid (∀ j, j < m → (os.getD j noAt).name ≠ x.name) ∧ Hid (Below w.heap.size w wq))
        case atStart => exact ⟨0, rfl, Nat.zero_le _, by omega, (fun j hj => by omega : ∀ j, j < 0 → (os.getD j noAt).name ≠ x.name), BY.out⟩
        case round =>
          obtain ⟨m, rfl, hmk, hr2, HNE, HBI⟩ := hrel
          by_cases hlt2 : m < k
          · have t0 := cell_thru HBI.out (HCL.out m (by omega))
            have t1 := cell_thru HBI.out (HCL.out k hlt)
            rw [HX.out] at t1
            have HN2 : Hid ((os.getD m noAt).name = x.name → R = false) := fun e => HNO.out (by
              rw [HAT.out]
              have : freeName os k = false := all_range_no (i := m) hlt2 (by show decide ((os.getD m noAt).name ≠ (os.getD k noAt).name) = false; rw [HX.out]; exact decide_eq_false (fun h => h e))
              rw [this, Bool.false_and])
            have HN3 : Hid ((os.getD m noAt).name ≠ x.name → ∀ j, j < m + 1 → (os.getD j noAt).name ≠ x.name) := fun e j hj => by
              by_cases e2 : j = m
              · subst e2; exact e
              · exact HNE.out j (by omega)
            generalize (os.getD m noAt).name = nm at t0 HN2 HN3
            have hmi : (m : Int) < k := by omega
            have hml : (m : Int) < l := by omega
            have hmn : 0 ≤ (m : Int) := by omega
            have hki : (k : Int) < l := by omega
            by_cases he : nm = x.name
            · have HE : Hid _ := HN2.out he
              have hde : (nm.toList == x.name.toList) = true := by rw [toList_dec]; exact decide_eq_true he
              clear he HN2 HN3
              go_wp2_with fail
              go_quiet (fail)
              go_wp2
              go_ret
              exact ⟨by rw [HE.out]; rfl, bl_drewN HBI.out _⟩
            · have HE : Hid _ := HN3.out he
              have hde : (nm.toList == x.name.toList) = false := toList_ne he
              clear he HN2 HN3
              go_wp2_with fail
              go_quiet (fail)
              go_wp2_with fail
              go_roundg (k - (m + 1))
              case measure => omega
              case rel => exact ⟨m + 1, by first | rfl | (congr 1; omega), by omega, Nat.le_refl _, HE.out, bl_drewN HBI.out _⟩
          · obtain rfl : m = k := by omega
            have HYES : Hid _ := HAL2.out (by
              rw [HAT.out, HON.out, Bool.and_true]
              exact all_range_yes (fun j hj => by rw [HX.out]; exact decide_eq_true (HNE.out j hj)))
            go_wp2_with fail
            go_roundg (l - (m + 1))
            case measure => omega
            case rel => exact ⟨m + 1, by first | rfl | (congr 1; omega), by omega, Nat.le_refl _, HYES.out, HBI.out⟩
    · have hii : ¬ (k : Int) < l := by omega
      have HE : Hid (R = true) := by show _ = _; rw [← HR.out]; exact all_range_yes (fun i hi => HAL.out i (by have := HC.out; omega))
      go_wp2
      go_ret
      exact ⟨by rw [HE.out]; rfl, HBL.out⟩

end Go.Proofs.Ytafdjmccgijmnaa.A

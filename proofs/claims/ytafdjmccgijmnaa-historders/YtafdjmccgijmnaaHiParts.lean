/- Which part is of the same object. -/
import Derived.Test.YtafdjmccgijmnaaHiWaits
namespace Go.Proofs.Ytafdjmccgijmnaa
open Go.RowKit A Go.Maps
set_option linter.unusedVariables false
set_option linter.unusedSimpArgs false
set_option maxRecDepth 100000 in
theorem sameName_any (x y : At) {a a2 : Option Addr} {l c l2 c2 : Nat} (w : World) :
    Calls Try.prog 43 #[.agg #[.string x.name, .int .i64 x.cap, .int .i64 x.owner, .slice a l c], .agg #[.string y.name, .int .i64 y.cap, .int .i64 y.owner, .slice a2 l2 c2]] w fun e w' => e = .returned (.bool (decide (x.name = y.name))) ∧ Below w.heap.size w w' := by
  have HB : Hid (Below w.heap.size w ((w.alloc (.cells #[.string x.name, .int .i64 x.cap, .int .i64 x.owner, .slice a l c] 49)).alloc (.cells #[.string y.name, .int .i64 y.cap, .int .i64 y.owner, .slice a2 l2 c2] 49))) := (hbl1 _ _).alloc (by simp) _
  go_enter Try.func43, Try.ntmps43
  go_wp2
  go_ret
  exact ⟨by rw [← toList_dec]; rfl, HB.out⟩
namespace H
theorem names_no {xs ys : List At} (hl : xs.length = ys.length) {k : Nat} (hk : k < xs.length) (h : ¬ (xs.getD k noAt).name = (ys.getD k noAt).name) : decide (xs.map At.name = ys.map At.name) = false := by
  rw [decide_eq_false_iff_not]
  intro e
  have := congrArg (fun l => l[k]?) e
  simp only [List.getElem?_map] at this
  have hk2 : k < ys.length := by omega
  simp [hk, hk2] at this
  simp [List.getD, hk, hk2] at h
  exact h this
theorem names_yes {xs ys : List At} (hl : xs.length = ys.length) (h : ∀ k, k < xs.length → (xs.getD k noAt).name = (ys.getD k noAt).name) : decide (xs.map At.name = ys.map At.name) = true := by
  rw [decide_eq_true_eq]
  apply List.ext_getElem (by simpa using hl)
  intro i h1 h2
  simp at h1 h2
  have := h i h1
  simpa [List.getD, h1, h2] using this
theorem names_len {xs ys : List At} (hl : ¬ xs.length = ys.length) : decide (xs.map At.name = ys.map At.name) = false := by
  rw [decide_eq_false_iff_not]
  intro e
  exact hl (by have := congrArg List.length e; simpa using this)
end H
set_option maxRecDepth 100000 in
set_option maxHeartbeats 8000000 in
theorem equalF_any {w : World} {a a2 : Option Addr} {l c l2 c2 : Nat} {xs ys : List At} (h : AtsV w a l c xs) (h2 : AtsV w a2 l2 c2 ys) :
    Calls Try.prog 42 #[.slice a l c, .slice a2 l2 c2, .func (.func 43) #[] #[]] w fun e w' => e = .returned (.bool (decide (xs.map At.name = ys.map At.name))) ∧ Below w.heap.size w w' := by
  have HV : Hid (AtsV w a l c xs) := h
  have HV2 : Hid (AtsV w a2 l2 c2 ys) := h2
  have HC : Hid (xs.length = l) := h.count
  have HC2 : Hid (ys.length = l2) := h2.count
  have hm := h.room
  have hm2 := h2.room
  have hmax : maxLen = 9223372036854775807 := rfl
  obtain ⟨R, hR⟩ : ∃ R, decide (xs.map At.name = ys.map At.name) = R := ⟨_, rfl⟩
  have HR : Hid (decide (xs.map At.name = ys.map At.name) = R) := hR
  rw [hR]
  clear h h2 hR
  by_cases hll : l = l2
  rotate_left
  · have HRF : Hid (R = false) := by rw [← HR.out]; exact H.names_len (by rw [HC.out, HC2.out]; exact hll)
    have e1 : ((l : Int) != (l2 : Int)) = true := by simp; omega
    go_enter Try.func42, Try.ntmps42
    go_wp2_with fail
    go_ret
    exact ⟨by rw [HRF.out]; rfl, Below.refl _ _⟩
  subst hll
  go_enter Try.func42, Try.ntmps42
  go_wp2_with fail
  go_loopg [7, 8, 9, 17] l (fun r z7 z8 z9 iv wq => ∃ (k : Nat), r = l - k ∧ iv = .int .i64 k ∧ k ≤ l ∧ Hid (∀ i, i < k → (xs.getD i noAt).name = (ys.getD i noAt).name) ∧ Hid (Below w.heap.size w wq))
  case atStart => exact ⟨0, rfl, rfl, Nat.zero_le _, (fun i hi => by omega : ∀ i, i < 0 → (xs.getD i noAt).name = (ys.getD i noAt).name), Below.refl _ _⟩
  case round =>
    obtain ⟨k, rfl, rfl, hk, HAL, HB⟩ := hrel
    by_cases hlt : k < l
    · have hii : (k : Int) < l := by omega
      have hin : 0 ≤ (k : Int) := by omega
      rcases HV.out.cells with h0 | ⟨b, off, hab, hcl⟩
      · omega
      rcases HV2.out.cells with h0 | ⟨b', off', hab', hcl'⟩
      · omega
      subst hab hab'
      obtain ⟨q0, q1, q2, a1, l1, c1, q3, -⟩ := hcl k hlt
      obtain ⟨p0, p1, p2, a3, l3, c3, p3, -⟩ := hcl' k hlt
      have q0 := hcell_thru HB.out q0
      have q1 := hcell_thru HB.out q1
      have q2 := hcell_thru HB.out q2
      have q3 := hcell_thru HB.out q3
      obtain ⟨x, hx⟩ : ∃ x, xs.getD k noAt = x := ⟨_, rfl⟩
      obtain ⟨z, hz⟩ : ∃ x, ys.getD k noAt = x := ⟨_, rfl⟩
      obtain ⟨Y1, hY1⟩ : ∃ Y, wr.alloc (.cells #[.string x.name, .int .i64 x.cap, .int .i64 x.owner, .slice a1 l1 c1] 49) = Y := ⟨_, rfl⟩
      have hb1 : Below wr.heap.size wr Y1 := by rw [← hY1]; exact hbl1 _ _
      obtain ⟨Y2, hY2⟩ : ∃ Y, Y1.alloc (.cells #[.string z.name, .int .i64 z.cap, .int .i64 z.owner, .slice a3 l3 c3] 49) = Y := ⟨_, rfl⟩
      have hb2 : Below Y1.heap.size Y1 Y2 := by rw [← hY2]; exact hbl1 _ _
      have p0 := hcell_thru hb1 (hcell_thru HB.out p0)
      have p1 := hcell_thru hb1 (hcell_thru HB.out p1)
      have p2 := hcell_thru hb1 (hcell_thru HB.out p2)
      have p3 := hcell_thru hb1 (hcell_thru HB.out p3)
      rw [hx] at q0 q1 q2
      rw [hz] at p0 p1 p2
      have x0 : Y2.cell? ⟨wr.heap.size, 0, none⟩ = some (.string x.name) := hcell_thru hb2 (by rw [← hY1]; simp)
      have x1 : Y2.cell? ⟨wr.heap.size, 1, none⟩ = some (.int .i64 x.cap) := hcell_thru hb2 (by rw [← hY1]; simp)
      have x2 : Y2.cell? ⟨wr.heap.size, 2, none⟩ = some (.int .i64 x.owner) := hcell_thru hb2 (by rw [← hY1]; simp)
      have x3 : Y2.cell? ⟨wr.heap.size, 3, none⟩ = some (.slice a1 l1 c1) := hcell_thru hb2 (by rw [← hY1]; simp)
      have z0 : Y2.cell? ⟨Y1.heap.size, 0, none⟩ = some (.string z.name) := by rw [← hY2]; simp
      have z1 : Y2.cell? ⟨Y1.heap.size, 1, none⟩ = some (.int .i64 z.cap) := by rw [← hY2]; simp
      have z2 : Y2.cell? ⟨Y1.heap.size, 2, none⟩ = some (.int .i64 z.owner) := by rw [← hY2]; simp
      have z3 : Y2.cell? ⟨Y1.heap.size, 3, none⟩ = some (.slice a3 l3 c3) := by rw [← hY2]; simp
      have HB2 : Hid (Below w.heap.size w Y2) := HB.out.trans ((hb1.mono HB.out.size).trans (hb2.mono (Nat.le_trans HB.out.size hb1.size)))
      have hsn := sameName_any x z (a := a1) (l := l1) (c := c1) (a2 := a3) (l2 := l3) (c2 := c3) Y2
      have HNO : Hid (¬ x.name = z.name → R = false) := fun e => by rw [← HR.out]; exact H.names_no (by rw [HC.out, HC2.out]) (by rw [HC.out]; exact hlt) (by rw [hx, hz]; exact e)
      have HNX : Hid (x.name = z.name → ∀ i, i < k + 1 → (xs.getD i noAt).name = (ys.getD i noAt).name) := fun e i hi => by
        by_cases e2 : i = k
        · subst e2; rw [hx, hz]; exact e
        · exact HAL.out i (by omega)
      clear hx hz hb1 hb2 hcl hcl'
      by_cases hnm : x.name = z.name
      · rw [decide_eq_true hnm] at hsn
        have HNN : Hid _ := HNX.out hnm
        clear hnm HNX
        go_wp2_with fail
        refine hsn.mono ?_
        rintro e y ⟨rfl, hy⟩
        have HY : Hid (Below w.heap.size w y) := HB2.out.trans (hy.mono HB2.out.size)
        clear hy hsn
        go_wp2_with fail
        go_roundg (l - (k + 1))
        case measure => omega
        case rel => exact ⟨k + 1, rfl, by go_num, by omega, HNN, HY⟩
      · rw [decide_eq_false hnm] at hsn
        have HRF := HNO.out hnm
        subst HRF
        clear hnm HNX
        go_wp2_with fail
        refine hsn.mono ?_
        rintro e y ⟨rfl, hy⟩
        have HY : Hid (Below w.heap.size w y) := HB2.out.trans (hy.mono HB2.out.size)
        clear hy hsn
        go_wp2_with fail
        go_ret
        exact ⟨rfl, HY.out⟩
    · have hkk : k = l := by omega
      subst hkk
      have hii : ¬ (k : Int) < k := by omega
      have HRT : R = true := by rw [← HR.out]; exact H.names_yes (by rw [HC.out, HC2.out]) (fun i hi => HAL.out i (by rw [HC.out] at hi; exact hi))
      subst HRT
      go_wp2_with fail
      go_ret
      exact ⟨rfl, HB.out⟩
set_option maxRecDepth 100000 in
set_option maxHeartbeats 8000000 in
theorem parts1_any {w : World} {a a2 : Option Addr} {l c l2 c2 : Nat} {xs ys : List At} (h : AtsV w a l c xs) (h2 : AtsV w a2 l2 c2 ys) (u1 u2 : Value) {bb : Nat} (hb : w.cell? ⟨bb, 0, none⟩ = some (.slice a2 l2 c2)) :
    Calls Try.prog 41 #[.agg #[.slice a l c, u1, u2], .pointer (some ⟨bb, 0, none⟩)] w fun e w' => e = .returned (.bool (decide (xs.map At.name = ys.map At.name))) ∧ Below w.heap.size w w' := by
  obtain ⟨Y1, hY1⟩ : ∃ Y, w.alloc (.cells #[.slice a l c, u1, u2] 56) = Y := ⟨_, rfl⟩
  have hb1 : Below w.heap.size w Y1 := by rw [← hY1]; exact hbl1 _ _
  have HB1 : Hid (Below w.heap.size w Y1) := hb1
  have c0 : Y1.cell? ⟨w.heap.size, 0, none⟩ = some (.slice a l c) := by rw [← hY1]; simp
  have c1 := hcell_thru hb1 hb
  have heq := equalF_any (h.below hb1) (h2.below hb1)
  obtain ⟨R, hR⟩ : ∃ R, decide (xs.map At.name = ys.map At.name) = R := ⟨_, rfl⟩
  rw [hR] at heq ⊢
  clear hR h h2 hb1 hb
  go_enter Try.func41, Try.ntmps41
  go_wp2_with fail
  refine heq.mono ?_
  rintro e y ⟨rfl, hy⟩
  have HY : Hid (Below w.heap.size w y) := HB1.out.trans (hy.mono HB1.out.size)
  clear hy heq
  go_wp2_with fail
  go_ret
  exact ⟨rfl, HY.out⟩
set_option maxRecDepth 100000 in
set_option maxHeartbeats 8000000 in
theorem idxP_any {w : World} {a : Option Addr} {l c : Nat} (e0 e1 e2 : Nat → Value) (p0 : Value) (hm : l ≤ c ∧ c ≤ maxLen) (hV : l = 0 ∨ ∃ b off, a = some ⟨b, off, none⟩ ∧ ∀ i, i < l → w.cell? ⟨b, off + i * 3, none⟩ = some (e0 i) ∧ w.cell? ⟨b, off + i * 3 + 1, none⟩ = some (e1 i) ∧ w.cell? ⟨b, off + i * 3 + 2, none⟩ = some (e2 i)) (pr : Nat → Bool) (hp : ∀ i, i < l → ∀ W, Below w.heap.size w W → Calls Try.prog 41 #[.agg #[e0 i, e1 i, e2 i], p0] W fun e w' => e = .returned (.bool (pr i)) ∧ Below W.heap.size W w') :
    Calls Try.prog 40 #[.slice a l c, .func (.func 41) #[] #[p0]] w fun e w' => e = .returned (.int .i64 (H.fidx l pr)) ∧ Below w.heap.size w w' := by
  have HV : Hid _ := hV
  have HP : Hid _ := hp
  have hmax : maxLen = 9223372036854775807 := rfl
  clear hV hp
  obtain ⟨R, hR⟩ : ∃ R, H.fidx l pr = R := ⟨_, rfl⟩
  have HR : Hid (H.fidx l pr = R) := hR
  rw [hR]
  clear hR
  go_enter Try.func40, Try.ntmps40
  go_wp2_with fail
  go_loopg [8] l (fun r iv wq => ∃ (k : Nat), iv = .int .i64 k ∧ k ≤ l ∧ l - k ≤ r ∧ Hid (∀ i, i < k → pr i = false) ∧ Hid (Below w.heap.size w wq))
  case atStart => exact ⟨0, rfl, Nat.zero_le _, by omega, (fun i hi => by omega : ∀ i, i < 0 → pr i = false), Below.refl _ _⟩
  case round =>
    obtain ⟨k, rfl, hk, hr, HAL, HB⟩ := hrel
    by_cases hlt : k < l
    · rcases HV.out with h0 | ⟨b, off, hA, hcl⟩
      · omega
      obtain ⟨q0, q1, q2⟩ := hcl k hlt
      have q0 := hcell_thru HB.out q0
      have q1 := hcell_thru HB.out q1
      have q2 := hcell_thru HB.out q2
      have hcall := HP.out k hlt wr HB.out
      have HYES : Hid (pr k = true → R = k) := fun hz => by rw [← HR.out]; exact H.fidx_at hlt hz HAL.out
      subst hA
      have hii : (k : Int) < l := by omega
      have hin : 0 ≤ (k : Int) := by omega
      clear hcl
      generalize e0 k = x0 at q0 hcall
      generalize e1 k = x1 at q1 hcall
      generalize e2 k = x2 at q2 hcall
      cases hpk : pr k with
      | true =>
        rw [hpk] at hcall
        have HYE : Hid (R = k) := HYES.out hpk
        clear hpk
        go_wp2_with fail
        refine hcall.mono ?_
        rintro e y ⟨rfl, hy⟩
        have HBY : Hid (Below w.heap.size w y) := HB.out.trans (hy.mono HB.out.size)
        clear hy hcall
        go_wp2_with fail
        go_ret
        exact ⟨by rw [HYE.out]; rfl, HBY.out⟩
      | false =>
        rw [hpk] at hcall
        have HALN : Hid (∀ i, i < k + 1 → pr i = false) := fun i hi => by
          by_cases e : i = k
          · subst e; exact hpk
          · exact HAL.out i (by omega)
        clear hpk
        go_wp2_with fail
        refine hcall.mono ?_
        rintro e y ⟨rfl, hy⟩
        have HBY : Hid (Below w.heap.size w y) := HB.out.trans (hy.mono HB.out.size)
        clear hy hcall
        go_wp2_with fail
        go_roundg (l - (k + 1))
        case measure => omega
        case rel => exact ⟨k + 1, by first | rfl | (congr 1; omega), by omega, Nat.le_refl _, HALN, HBY.out⟩
    · have hii : ¬ (k : Int) < l := by omega
      have HNO : Hid (R = -1) := by rw [← HR.out]; exact H.fidx_no (fun i hi => HAL.out i (by omega))
      go_wp2_with fail
      go_ret
      exact ⟨by rw [HNO.out]; rfl, HB.out⟩
end Go.Proofs.Ytafdjmccgijmnaa

/- What the document's Same comes to. -/
import Derived.Test.YtafdjmccgijmnaaAtRow
import Derived.BigQuiet
namespace Go.Proofs.Ytafdjmccgijmnaa.A
open Go.RowKit Go.Maps Go.Lib
set_option linter.unusedVariables false

theorem bl_drewN {B : Nat} {x y : World} (h : Below B x y) (m : Nat) : Below B x (y.drewN m) := ⟨h.os, h.tape, h.output, h.size, h.block⟩
theorem list_ext_getD {α : Type} {xs ys : List α} (d : α) (hl : xs.length = ys.length) (h : ∀ i, i < xs.length → xs.getD i d = ys.getD i d) : xs = ys := by
  refine List.ext_getElem hl fun i h1 h2 => ?_
  have := h i h1
  simpa [List.getD, h1, h2] using this
theorem bool_of (P : Prop) : ∃ b : Bool, (b = true ↔ P) := by
  by_cases h : P
  · exact ⟨true, by simp [h]⟩
  · exact ⟨false, by simp [h]⟩
theorem bool_no {b : Bool} {P : Prop} (h : b = true ↔ P) (hn : ¬ P) : b = false := by
  cases b with
  | false => rfl
  | true => exact absurd (h.1 rfl) hn
theorem toList_ne {a b : ByteArray} (h : ¬ a = b) : (a.toList == b.toList) = false := by
  rw [ByteArray.toList_eq, ByteArray.toList_eq]
  exact beq_eq_false_iff_ne.2 (fun e => h (bytes_ext e))

set_option maxRecDepth 100000 in
set_option maxHeartbeats 8000000 in
theorem same_any {w : World} {a1 a2 : Option Addr} {l1 c1 l2 c2 : Nat} {xs ys : List At} (h1 : AtsV w a1 l1 c1 xs) (h2 : AtsV w a2 l2 c2 ys) (bb : Bool) (hbb : bb = true ↔ xs = ys) :
    Calls Try.prog 13 #[.slice a1 l1 c1, .slice a2 l2 c2] w fun e w' => e = .returned (.bool bb) ∧ Below w.heap.size w w' := by
  have HBB : Hid _ := hbb
  have H1 : Hid _ := h1
  have H2 : Hid _ := h2
  have hm' : l1 ≤ 9223372036854775807 := by have := h1.room; unfold maxLen at this; omega
  clear h1 h2 hbb
  by_cases hl : l1 = l2
  rotate_left
  · have HNO : Hid (¬ xs = ys) := fun e => hl (by rw [← H1.out.count, ← H2.out.count, e])
    have hd : ((l1 : Int) != (l2 : Int)) = true := by simp; omega
    go_enter Try.func13, Try.ntmps13
    go_wp2
    go_ret
    exact ⟨by rw [bool_no HBB.out HNO.out]; rfl, Below.refl _ _⟩
  subst hl
  have hd : ((l1 : Int) != (l1 : Int)) = false := by simp
  go_enter Try.func13, Try.ntmps13
  go_wp2_with fail
  go_loopg [5] l1 (fun r iv wq => ∃ (k : Nat), iv = .int .i64 k ∧ k ≤ l1 ∧ l1 - k ≤ r ∧ Hid (∀ j, j < k → xs.getD j noAt = ys.getD j noAt) ∧ Hid (Below w.heap.size w wq))
  case atStart => exact ⟨0, rfl, Nat.zero_le _, by omega, (fun j hj => by omega : ∀ j, j < 0 → xs.getD j noAt = ys.getD j noAt), Below.refl _ _⟩
  case round =>
    obtain ⟨k, rfl, hk, hr, HAL, HBL⟩ := hrel
    by_cases hlt : k < l1
    · rcases H1.out.cells with h0 | ⟨b, off, hA, hc⟩
      · omega
      rcases H2.out.cells with h0 | ⟨b', off', hA', hc'⟩
      · omega
      obtain ⟨q0, q1, q2, p1, m1, d1, q3, V⟩ := hc k hlt
      obtain ⟨r0, r1, r2, p2, m2, d2, r3, V'⟩ := hc' k hlt
      have HC : Hid _ := And.intro q3 r3
      have q0 := cell_thru HBL.out q0
      have q1 := cell_thru HBL.out q1
      have q2 := cell_thru HBL.out q2
      have q3 := cell_thru HBL.out q3
      have r0 := cell_thru HBL.out r0
      have r1 := cell_thru HBL.out r1
      have r2 := cell_thru HBL.out r2
      have r3 := cell_thru HBL.out r3
      have HNE : Hid (∀ {x y : At}, xs.getD k noAt = x → ys.getD k noAt = y → x ≠ y → ¬ xs = ys) := fun hx hy hne e => hne (by rw [← hx, ← hy, e])
      have HEQ : Hid (∀ {x y : At}, xs.getD k noAt = x → ys.getD k noAt = y → x = y → ∀ j, j < k + 1 → xs.getD j noAt = ys.getD j noAt) := fun hx hy he j hj => by
        by_cases hjk : j = k
        · rw [hjk, hx, hy, he]
        · exact HAL.out j (by omega)
      obtain ⟨⟨xn, xc, xo, xi⟩, hx⟩ : ∃ x, xs.getD k noAt = x := ⟨_, rfl⟩
      obtain ⟨⟨yn, yc, yo, yi⟩, hy⟩ : ∃ y, ys.getD k noAt = y := ⟨_, rfl⟩
      rw [hx] at q0 q1 q2 V
      rw [hy] at r0 r1 r2 V'
      simp only at q0 q1 q2 V r0 r1 r2 V'
      have HX : Hid _ := hx
      have HY : Hid _ := hy
      have HVX : Hid _ := V
      have HVY : Hid _ := V'
      have HCT : Hid (xi.length = m1 ∧ yi.length = m2) := ⟨V.count, V'.count⟩
      have hrm := V.room
      have hmax : maxLen = 9223372036854775807 := rfl
      subst hA
      subst hA'
      have hii : (k : Int) < l1 := by omega
      have hin : 0 ≤ (k : Int) := by omega
      clear hc hc' hx hy V V'
      by_cases en : xn = yn
      rotate_left
      · have HNO : Hid (¬ xs = ys) := HNE.out HX.out HY.out (fun e => en (by injection e))
        have hde := toList_ne en
        clear en
        go_wp2_with fail
        go_quiet (fail)
        go_wp2
        go_ret
        exact ⟨by rw [bool_no HBB.out HNO.out]; rfl, bl_drewN HBL.out _⟩
      subst en
      by_cases ec : xc = yc
      rotate_left
      · have HNO : Hid (¬ xs = ys) := HNE.out HX.out HY.out (fun e => ec (by injection e))
        have hde : (xc != yc) = true := by simpa using ec
        clear ec
        go_wp2_with fail
        go_quiet (fail)
        go_wp2
        go_ret
        exact ⟨by rw [bool_no HBB.out HNO.out]; rfl, bl_drewN HBL.out _⟩
      subst ec
      by_cases eo : xo = yo
      rotate_left
      · have HNO : Hid (¬ xs = ys) := HNE.out HX.out HY.out (fun e => eo (by injection e))
        have hde : (xo != yo) = true := by simpa using eo
        clear eo
        go_wp2_with fail
        go_quiet (fail)
        go_wp2
        go_ret
        exact ⟨by rw [bool_no HBB.out HNO.out]; rfl, bl_drewN HBL.out _⟩
      subst eo
      by_cases el : m1 = m2
      rotate_left
      · have HNO : Hid (¬ xs = ys) := HNE.out HX.out HY.out (fun e => el (by injection e with _ _ _ e; rw [← HCT.out.1, ← HCT.out.2, e]))
        have hde : ((m1 : Int) != (m2 : Int)) = true := by simp; omega
        clear el
        go_wp2_with fail
        go_quiet (fail)
        go_wp2
        go_ret
        exact ⟨by rw [bool_no HBB.out HNO.out]; rfl, bl_drewN HBL.out _⟩
      subst el
      have hdm : ((m1 : Int) != (m1 : Int)) = false := by simp
      have HBL2 : Hid _ := HBL.out
      clear HBL
      generalize wr = wo at *
      go_wp2_with fail
      go_quiet (fail)
      go_wp2_with fail
      clear q0 q1 q2 q3 r0 r1 r2 r3
      go_loopg [6] m1 (fun r jv wq => ∃ (m : Nat), jv = .int .i64 m ∧ m ≤ m1 ∧ m1 - m ≤ r ∧ Hid (∀ j, j < m → xi.getD j 0 = yi.getD j 0) ∧ Hid (Below w.heap.size w wq))
      case atStart => exact ⟨0, rfl, Nat.zero_le _, by omega, (fun j hj => by omega : ∀ j, j < 0 → xi.getD j 0 = yi.getD j 0), bl_drewN HBL2.out _⟩
      case round =>
        obtain ⟨m, rfl, hm, hr2, HAI, HBI⟩ := hrel
        have q3 := cell_thru HBI.out HC.out.1
        have r3 := cell_thru HBI.out HC.out.2
        by_cases hlt2 : m < m1
        · rcases HVX.out.cells with h0 | ⟨f, of, hF, hfc⟩
          · omega
          rcases HVY.out.cells with h0 | ⟨f', of', hF', hfc'⟩
          · omega
          have t0 := cell_thru HBI.out (hfc m hlt2)
          have t1 := cell_thru HBI.out (hfc' m hlt2)
          have HNI : Hid (xi.getD m 0 ≠ yi.getD m 0 → ¬ xs = ys) := fun hne => HNE.out HX.out HY.out (fun e => hne (by injection e with _ _ _ e; rw [e]))
          have HEI : Hid (xi.getD m 0 = yi.getD m 0 → ∀ j, j < m + 1 → xi.getD j 0 = yi.getD j 0) := fun he j hj => by
            by_cases hjk : j = m
            · rw [hjk]; exact he
            · exact HAI.out j (by omega)
          generalize xi.getD m 0 = z1 at t0 HNI HEI
          generalize yi.getD m 0 = z2 at t1 HNI HEI
          subst hF
          subst hF'
          have hmi : (m : Int) < m1 := by omega
          have hmn : 0 ≤ (m : Int) := by omega
          clear hfc hfc'
          by_cases he : z1 = z2
          · have HNX : Hid _ := HEI.out he
            have hde : (z1 != z2) = false := by simp [he]
            clear he HNI HEI
            go_wp2_with fail
            go_quiet (fail)
            go_wp2_with fail
            go_roundg (m1 - (m + 1))
            case measure => omega
            case rel => exact ⟨m + 1, by first | rfl | (congr 1; omega), by omega, Nat.le_refl _, HNX.out, bl_drewN HBI.out _⟩
          · have HNO : Hid _ := HNI.out he
            have hde : (z1 != z2) = true := by simpa using he
            clear he HNI HEI
            go_wp2_with fail
            go_quiet (fail)
            go_wp2
            go_ret
            exact ⟨by rw [bool_no HBB.out HNO.out]; rfl, bl_drewN HBI.out _⟩
        · obtain rfl : m = m1 := by omega
          have HIE : Hid (xi = yi) := list_ext_getD 0 (by rw [HCT.out.1, HCT.out.2]) (fun i hi => HAI.out i (by rw [← HCT.out.1]; exact hi))
          have HNX : Hid _ := HEQ.out HX.out HY.out (by rw [HIE.out])
          go_wp2_with fail
          go_roundg (l1 - (k + 1))
          case measure => omega
          case rel => exact ⟨k + 1, by first | rfl | (congr 1; omega), by omega, Nat.le_refl _, HNX.out, HBI.out⟩
    · obtain rfl : k = l1 := by omega
      have HYES : Hid (xs = ys) := list_ext_getD noAt (by rw [H1.out.count, H2.out.count]) (fun i hi => HAL.out i (by rw [← H1.out.count]; exact hi))
      go_wp2_with fail
      go_ret
      exact ⟨by rw [HBB.out.2 HYES.out]; rfl, HBL.out⟩
end Go.Proofs.Ytafdjmccgijmnaa.A

/- What the document's SameData, SameSyms and Same come to. (Written by gen_same.py.) -/
import Derived.Test.YtaoklmphcgigeaaObjCheckB
import Derived.Deep.LoopGhost
import Derived.BigQuiet
namespace Go.Proofs.Ytaoklmphcgigeaa
open Go.RowKit Go.Maps Go.Lib
set_option linter.unusedVariables false

theorem bl_drewN {B : Nat} {x y : World} (h : Below B x y) (m : Nat) : Below B x (y.drewN m) := ⟨h.os, h.tape, h.output, h.size, h.block⟩
theorem list_ext_getD {α : Type} {xs ys : List α} (d : α) (hl : xs.length = ys.length) (h : ∀ i, i < xs.length → xs.getD i d = ys.getD i d) : xs = ys := by
  refine List.ext_getElem hl fun i h1 h2 => ?_
  have := h i h1
  simpa [List.getD, h1, h2] using this
theorem bool_of (P : Prop) : ∃ b : Bool, (b = true ↔ P) := by
  by_cases h : P
  · exact ⟨true, by simp [h]⟩
  · exact ⟨false, by simp [h]⟩
theorem bool_no {b : Bool} {P : Prop} (h : b = true ↔ P) (hn : ¬ P) : b = false := by
  cases b with
  | false => rfl
  | true => exact absurd (h.1 rfl) hn
theorem toList_ne {a b : ByteArray} (h : ¬ a = b) : (a.toList == b.toList) = false := by
  rw [ByteArray.toList_eq, ByteArray.toList_eq]
  exact beq_eq_false_iff_ne.2 (fun e => h (bytes_ext e))
theorem symEq_yes (n : ByteArray) (k p : Int) (w : World) : (Op.equalIn 10000 36 (.agg #[.string n, .int .i64 k, .int .i64 p]) (.agg #[.string n, .int .i64 k, .int .i64 p])).run Try.prog w = .ok true w := by
  go_simp
theorem symEq_no {n n' : ByteArray} {k p k' p' : Int} (h : ¬ (⟨n, k, p⟩ : Sym) = ⟨n', k', p'⟩) (w : World) : (Op.equalIn 10000 36 (.agg #[.string n, .int .i64 k, .int .i64 p]) (.agg #[.string n', .int .i64 k', .int .i64 p'])).run Try.prog w = .ok false w := by
  by_cases h1 : n = n'
  · subst h1
    by_cases h2 : k = k'
    · subst h2
      by_cases h3 : p = p'
      · subst h3; exact absurd rfl h
      · clear h
        go_simp
    · clear h
      go_simp
  · clear h
    have hd := toList_ne h1
    go_simp
theorem relEq_yes (p k : Int) (n : ByteArray) (a : Int) (w : World) : (Op.equalIn 10000 45 (.agg #[.int .i64 p, .int .i64 k, .string n, .int .i64 a]) (.agg #[.int .i64 p, .int .i64 k, .string n, .int .i64 a])).run Try.prog w = .ok true w := by
  go_simp
theorem relEq_no {n n' : ByteArray} {k p a k' p' a' : Int} (h : ¬ (⟨p, k, n, a⟩ : Rel) = ⟨p', k', n', a'⟩) (w : World) : (Op.equalIn 10000 45 (.agg #[.int .i64 p, .int .i64 k, .string n, .int .i64 a]) (.agg #[.int .i64 p', .int .i64 k', .string n', .int .i64 a'])).run Try.prog w = .ok false w := by
  by_cases h1 : p = p'
  · subst h1
    by_cases h2 : k = k'
    · subst h2
      by_cases h3 : n = n'
      · subst h3
        by_cases h4 : a = a'
        · subst h4; exact absurd rfl h
        · clear h
          go_simp
      · clear h
        have hd := toList_ne h3
        go_simp
    · clear h
      go_simp
  · clear h
    go_simp

set_option maxRecDepth 100000 in
set_option maxHeartbeats 4000000 in
theorem samedata_any {w : World} {a1 a2 : Option Addr} {l1 c1 l2 c2 : Nat} {xs ys : List Int} (h1 : IntsV w a1 l1 c1 xs) (h2 : IntsV w a2 l2 c2 ys) (hm : l1 ≤ maxLen) (bb : Bool) (hbb : bb = true ↔ xs = ys) :
    Calls Try.prog 16 #[.slice a1 l1 c1, .slice a2 l2 c2] w fun e w' => e = .returned (.bool bb) ∧ Below w.heap.size w w' := by
  have HBB : Hid _ := hbb
  have H1 : Hid _ := h1
  have H2 : Hid _ := h2
  have hm' : l1 ≤ 9223372036854775807 := by unfold maxLen at hm; omega
  clear h1 h2 hm hbb
  by_cases hl : l1 = l2
  rotate_left
  · have HNO : Hid (¬ xs = ys) := fun e => hl (by rw [← H1.out.count, ← H2.out.count, e])
    have hd : ((l1 : Int) != (l2 : Int)) = true := by simp; omega
    go_enter Try.func16, Try.ntmps16
    go_wp2
    go_ret
    exact ⟨by rw [bool_no HBB.out HNO.out]; rfl, Below.refl _ _⟩
  subst hl
  have hd : ((l1 : Int) != (l1 : Int)) = false := by simp
  go_enter Try.func16, Try.ntmps16
  go_wp2_with fail
  go_loopg [5] l1 (fun r iv wq => ∃ (k : Nat), iv = .int .i64 k ∧ k ≤ l1 ∧ l1 - k ≤ r ∧ Hid (∀ j, j < k → xs.getD j 0 = ys.getD j 0) ∧ Hid (Below w.heap.size w wq))
  case atStart => exact ⟨0, rfl, Nat.zero_le _, by omega, (fun j hj => by omega : ∀ j, j < 0 → xs.getD j 0 = ys.getD j 0), Below.refl _ _⟩
  case round =>
    obtain ⟨k, rfl, hk, hr, HAL, HBL⟩ := hrel
    by_cases hlt : k < l1
    · rcases H1.out.cells with h0 | ⟨b, off, hA, hc⟩
      · omega
      rcases H2.out.cells with h0 | ⟨b', off', hA', hc'⟩
      · omega
      have k0 := hc k hlt
      have k0' := hc' k hlt
      have hb0 := World.block_lt_of_cell? w ⟨b, off + k, none⟩ k0
      have hb1 := World.block_lt_of_cell? w ⟨b', off' + k, none⟩ k0'
      have q0 := (HBL.out.cell (p := ⟨b, off + k, none⟩) hb0).trans k0
      have r0 := (HBL.out.cell (p := ⟨b', off' + k, none⟩) hb1).trans k0'
      have HNE : Hid (∀ {x y : Int}, xs.getD k 0 = x → ys.getD k 0 = y → x ≠ y → ¬ xs = ys) := fun hx hy hne e => hne (by rw [← hx, ← hy, e])
      have HEQ : Hid (∀ {x y : Int}, xs.getD k 0 = x → ys.getD k 0 = y → x = y → ∀ j, j < k + 1 → xs.getD j 0 = ys.getD j 0) := fun hx hy he j hj => by
        by_cases hjk : j = k
        · rw [hjk, hx, hy, he]
        · exact HAL.out j (by omega)
      obtain ⟨x, hx⟩ : ∃ x, xs.getD k 0 = x := ⟨_, rfl⟩
      obtain ⟨y, hy⟩ : ∃ y, ys.getD k 0 = y := ⟨_, rfl⟩
      rw [hx] at q0
      rw [hy] at r0
      have HX : Hid _ := hx
      have HY : Hid _ := hy
      subst hA
      subst hA'
      have hii : (k : Int) < l1 := by omega
      have hin : 0 ≤ (k : Int) := by omega
      clear hc hc' k0 k0' hx hy hb0 hb1
      by_cases he : (x : Int) = y
      · have HNX : Hid _ := HEQ.out HX.out HY.out he
        have hde : (x != y) = false := by simp [he]
        clear he
        go_wp2_with fail
        go_quiet (fail)
        go_wp2_with fail
        go_roundg (l1 - (k + 1))
        case measure => omega
        case rel => exact ⟨k + 1, by first | rfl | (congr 1; omega), by omega, Nat.le_refl _, HNX.out, bl_drewN HBL.out _⟩
      · have HNO : Hid _ := HNE.out HX.out HY.out he
        have hde : (x != y) = true := by simp [he]
        clear he
        go_wp2_with fail
        go_quiet (fail)
        go_wp2
        go_ret
        exact ⟨by rw [bool_no HBB.out HNO.out]; rfl, bl_drewN HBL.out _⟩
    · obtain rfl : l1 = k := by omega
      have HYES : Hid (xs = ys) := list_ext_getD 0 (by rw [H1.out.count, H2.out.count]) (fun i hi => HAL.out i (by rw [← H1.out.count]; exact hi))
      go_wp2_with fail
      go_ret
      exact ⟨by rw [HBB.out.2 HYES.out]; rfl, HBL.out⟩

set_option maxRecDepth 100000 in
set_option maxHeartbeats 4000000 in
theorem samesyms_any {w : World} {a1 a2 : Option Addr} {l1 c1 l2 c2 : Nat} {xs ys : List Sym} (h1 : SymsV w a1 l1 c1 xs) (h2 : SymsV w a2 l2 c2 ys) (hm : l1 ≤ maxLen) (bb : Bool) (hbb : bb = true ↔ xs = ys) :
    Calls Try.prog 18 #[.slice a1 l1 c1, .slice a2 l2 c2] w fun e w' => e = .returned (.bool bb) ∧ Below w.heap.size w w' := by
  have HBB : Hid _ := hbb
  have H1 : Hid _ := h1
  have H2 : Hid _ := h2
  have hm' : l1 ≤ 9223372036854775807 := by unfold maxLen at hm; omega
  clear h1 h2 hm hbb
  by_cases hl : l1 = l2
  rotate_left
  · have HNO : Hid (¬ xs = ys) := fun e => hl (by rw [← H1.out.count, ← H2.out.count, e])
    have hd : ((l1 : Int) != (l2 : Int)) = true := by simp; omega
    go_enter Try.func18, Try.ntmps18
    go_wp2
    go_ret
    exact ⟨by rw [bool_no HBB.out HNO.out]; rfl, Below.refl _ _⟩
  subst hl
  have hd : ((l1 : Int) != (l1 : Int)) = false := by simp
  go_enter Try.func18, Try.ntmps18
  go_wp2_with fail
  go_loopg [5] l1 (fun r iv wq => ∃ (k : Nat), iv = .int .i64 k ∧ k ≤ l1 ∧ l1 - k ≤ r ∧ Hid (∀ j, j < k → xs.getD j noSym = ys.getD j noSym) ∧ Hid (Below w.heap.size w wq))
  case atStart => exact ⟨0, rfl, Nat.zero_le _, by omega, (fun j hj => by omega : ∀ j, j < 0 → xs.getD j noSym = ys.getD j noSym), Below.refl _ _⟩
  case round =>
    obtain ⟨k, rfl, hk, hr, HAL, HBL⟩ := hrel
    by_cases hlt : k < l1
    · rcases H1.out.cells with h0 | ⟨b, off, hA, hc⟩
      · omega
      rcases H2.out.cells with h0 | ⟨b', off', hA', hc'⟩
      · omega
      obtain ⟨k0, k1, k2⟩ := hc k hlt
      obtain ⟨k0', k1', k2'⟩ := hc' k hlt
      have hb0 := World.block_lt_of_cell? w ⟨b, off + k * 3, none⟩ k0
      have hb1 := World.block_lt_of_cell? w ⟨b', off' + k * 3, none⟩ k0'
      have q0 := (HBL.out.cell (p := ⟨b, off + k * 3, none⟩) hb0).trans k0
      have r0 := (HBL.out.cell (p := ⟨b', off' + k * 3, none⟩) hb1).trans k0'
      have q1 := (HBL.out.cell (p := ⟨b, off + k * 3 + 1, none⟩) hb0).trans k1
      have r1 := (HBL.out.cell (p := ⟨b', off' + k * 3 + 1, none⟩) hb1).trans k1'
      have q2 := (HBL.out.cell (p := ⟨b, off + k * 3 + 2, none⟩) hb0).trans k2
      have r2 := (HBL.out.cell (p := ⟨b', off' + k * 3 + 2, none⟩) hb1).trans k2'
      have HNE : Hid (∀ {x y : Sym}, xs.getD k noSym = x → ys.getD k noSym = y → x ≠ y → ¬ xs = ys) := fun hx hy hne e => hne (by rw [← hx, ← hy, e])
      have HEQ : Hid (∀ {x y : Sym}, xs.getD k noSym = x → ys.getD k noSym = y → x = y → ∀ j, j < k + 1 → xs.getD j noSym = ys.getD j noSym) := fun hx hy he j hj => by
        by_cases hjk : j = k
        · rw [hjk, hx, hy, he]
        · exact HAL.out j (by omega)
      obtain ⟨⟨xn, xk, xp⟩, hx⟩ : ∃ x, xs.getD k noSym = x := ⟨_, rfl⟩
      obtain ⟨⟨yn, yk, yp⟩, hy⟩ : ∃ y, ys.getD k noSym = y := ⟨_, rfl⟩
      rw [hx] at q0 q1 q2
      rw [hy] at r0 r1 r2
      simp only at q0 r0 q1 r1 q2 r2
      have HX : Hid _ := hx
      have HY : Hid _ := hy
      subst hA
      subst hA'
      have hii : (k : Int) < l1 := by omega
      have hin : 0 ≤ (k : Int) := by omega
      clear hc hc' k0 k0' k1 k1' k2 k2' hx hy hb0 hb1
      by_cases he : (⟨xn, xk, xp⟩ : Sym) = ⟨yn, yk, yp⟩
      · have HNX : Hid _ := HEQ.out HX.out HY.out he
        injection he with en ek ep
        subst en
        subst ek
        subst ep
        have hde := fun w => symEq_yes xn xk xp w
        go_wp2_with fail
        go_quiet (fail)
        go_wp2_with fail
        go_roundg (l1 - (k + 1))
        case measure => omega
        case rel => exact ⟨k + 1, by first | rfl | (congr 1; omega), by omega, Nat.le_refl _, HNX.out, bl_drewN HBL.out _⟩
      · have HNO : Hid _ := HNE.out HX.out HY.out he
        have hde := fun w => symEq_no he w
        clear he
        go_wp2_with fail
        go_quiet (fail)
        go_wp2
        go_ret
        exact ⟨by rw [bool_no HBB.out HNO.out]; rfl, bl_drewN HBL.out _⟩
    · obtain rfl : l1 = k := by omega
      have HYES : Hid (xs = ys) := list_ext_getD noSym (by rw [H1.out.count, H2.out.count]) (fun i hi => HAL.out i (by rw [← H1.out.count]; exact hi))
      go_wp2_with fail
      go_ret
      exact ⟨by rw [HBB.out.2 HYES.out]; rfl, HBL.out⟩

set_option maxRecDepth 100000 in
set_option maxHeartbeats 8000000 in
theorem same_any {w : World} {v v' : Value} {o p : ObjD} (h : ObjV w v o) (h' : ObjV w v' p) (hd1 : o.data.length ≤ maxLen) (hd2 : o.syms.length ≤ maxLen) (hd3 : o.rels.length ≤ maxLen) (bb : Bool) (hbb : bb = true ↔ o = p) :
    Calls Try.prog 15 #[v, v'] w fun e w' => e = .returned (.bool bb) ∧ Below w.heap.size w w' := by
  obtain ⟨a1, l1, c1, a2, l2, c2, a3, l3, c3, rfl, hcs, h1, h2, h3⟩ := h.form
  obtain ⟨a1', l1', c1', a2', l2', c2', a3', l3', c3', rfl, hcs', h1', h2', h3'⟩ := h'.form
  obtain ⟨code, data, syms, rels⟩ := o
  obtain ⟨code', data', syms', rels'⟩ := p
  simp only at hcs hcs' h1 h2 h3 h1' h2' h3' hd1 hd2 hd3
  have HBB : Hid _ := hbb
  clear h h' hbb
  have hm1 : l1 ≤ maxLen := by rw [← h1.count]; exact hd1
  have hm2 : l2 ≤ maxLen := by rw [← h2.count]; exact hd2
  have hm3 : l3 ≤ 9223372036854775807 := by have := h3.count; unfold maxLen at hd3; omega
  obtain ⟨W1, hW1⟩ : ∃ W1, w.alloc (.cells #[.string code, .slice a1 l1 c1, .slice a2 l2 c2, .slice a3 l3 c3] 40) = W1 := ⟨_, rfl⟩
  have s1 : W1.heap.size = w.heap.size + 1 := by subst hW1; simp
  have b1 : Below w.heap.size w W1 := by subst hW1; exact bl_one _ _
  obtain ⟨W2, hW2⟩ : ∃ W2, W1.alloc (.cells #[.string code', .slice a1' l1' c1', .slice a2' l2' c2', .slice a3' l3' c3'] 40) = W2 := ⟨_, rfl⟩
  have b2 : Below W1.heap.size W1 W2 := by subst hW2; exact bl_one _ _
  have s2 : W2.heap.size = w.heap.size + 1 + 1 := by subst hW2; simp; omega
  have HW : Hid (Below w.heap.size w W2) := b1.trans (b2.mono (by omega))
  have V0 : Hid (W2.cell? ⟨w.heap.size, 0, none⟩ = some (.string code)) := cell_thru b2 (by subst hW1; exact cell_last rfl rfl)
  have V1 : Hid (W2.cell? ⟨w.heap.size, 1, none⟩ = some (.slice a1 l1 c1)) := cell_thru b2 (by subst hW1; exact cell_last rfl rfl)
  have V2 : Hid (W2.cell? ⟨w.heap.size, 2, none⟩ = some (.slice a2 l2 c2)) := cell_thru b2 (by subst hW1; exact cell_last rfl rfl)
  have V3 : Hid (W2.cell? ⟨w.heap.size, 3, none⟩ = some (.slice a3 l3 c3)) := cell_thru b2 (by subst hW1; exact cell_last rfl rfl)
  have U0 : Hid (W2.cell? ⟨w.heap.size + 1, 0, none⟩ = some (.string code')) := by show _ = _; subst hW2; exact cell_last s1.symm rfl
  have U1 : Hid (W2.cell? ⟨w.heap.size + 1, 1, none⟩ = some (.slice a1' l1' c1')) := by show _ = _; subst hW2; exact cell_last s1.symm rfl
  have U2 : Hid (W2.cell? ⟨w.heap.size + 1, 2, none⟩ = some (.slice a2' l2' c2')) := by show _ = _; subst hW2; exact cell_last s1.symm rfl
  have U3 : Hid (W2.cell? ⟨w.heap.size + 1, 3, none⟩ = some (.slice a3' l3' c3')) := by show _ = _; subst hW2; exact cell_last s1.symm rfl
  have H1 : Hid _ := h1.below HW.out
  have H2 : Hid _ := h2.below HW.out
  have H3 : Hid _ := h3.below HW.out
  have H1' : Hid _ := h1'.below HW.out
  have H2' : Hid _ := h2'.below HW.out
  have H3' : Hid _ := h3'.below HW.out
  clear h1 h2 h3 h1' h2' h3' b1 b2 hd1 hd2 hd3
  have v0 := V0.out
  have v1 := V1.out
  have u0 := U0.out
  have u1 := U1.out
  go_enter Try.func15, Try.ntmps15
  by_cases hc : code = code'
  rotate_left
  · have hdc := toList_ne hc
    have HNO : Hid (¬ (⟨code, data, syms, rels⟩ : ObjD) = ⟨code', data', syms', rels'⟩) := fun e => hc (congrArg ObjD.code e)
    go_wp2
    go_ret
    exact ⟨by rw [bool_no HBB.out HNO.out]; rfl, HW.out⟩
  subst hc
  go_wp2_with fail
  obtain ⟨b1, hbb⟩ := bool_of (data = data')
  refine (samedata_any H1.out H1'.out hm1 b1 hbb).mono ?_
  rintro e y1 ⟨rfl, hb1⟩
  have v2 := cell_thru hb1 V2.out
  have u2 := cell_thru hb1 U2.out
  have v3' := cell_thru hb1 V3.out
  have u3' := cell_thru hb1 U3.out
  have HB1 : Hid _ := hb1
  have HD1 : Hid _ := hbb
  clear hb1 hbb v0 v1 u0 u1
  cases b1 with
  | false =>
    have HNO : Hid (¬ (⟨code, data, syms, rels⟩ : ObjD) = ⟨code, data', syms', rels'⟩) := fun e => by have := HD1.out.2 (congrArg ObjD.data e); simp at this
    go_wp2
    go_ret
    exact ⟨by rw [bool_no HBB.out HNO.out]; rfl, HW.out.trans (HB1.out.mono HW.out.size)⟩
  | true =>
  go_wp2_with fail
  obtain ⟨b2, hbb⟩ := bool_of (syms = syms')
  refine (samesyms_any (H2.out.below HB1.out) (H2'.out.below HB1.out) hm2 b2 hbb).mono ?_
  rintro e y2 ⟨rfl, hb2⟩
  have v3 := cell_thru hb2 v3'
  have u3 := cell_thru hb2 u3'
  have HB2 : Hid (Below W2.heap.size W2 y2) := HB1.out.trans (hb2.mono HB1.out.size)
  have HD2 : Hid _ := hbb
  clear hb2 hbb v2 u2 v3' u3'
  cases b2 with
  | false =>
    have HNO : Hid (¬ (⟨code, data, syms, rels⟩ : ObjD) = ⟨code, data', syms', rels'⟩) := fun e => by have := HD2.out.2 (congrArg ObjD.syms e); simp at this
    go_wp2
    go_ret
    exact ⟨by rw [bool_no HBB.out HNO.out]; rfl, HW.out.trans (HB2.out.mono HW.out.size)⟩
  | true =>
  by_cases hl : l3 = l3'
  rotate_left
  · have HNO : Hid (¬ (⟨code, data, syms, rels⟩ : ObjD) = ⟨code, data', syms', rels'⟩) := fun e => hl (by rw [← H3.out.count, ← H3'.out.count]; exact congrArg (fun o => o.rels.length) e)
    have hd : ((l3 : Int) != (l3' : Int)) = true := by simp; omega
    go_wp2
    go_ret
    exact ⟨by rw [bool_no HBB.out HNO.out]; rfl, HW.out.trans (HB2.out.mono HW.out.size)⟩
  subst hl
  have hd : ((l3 : Int) != (l3 : Int)) = false := by simp
  have HA : Hid _ := H3.out.below HB2.out
  have HA' : Hid _ := H3'.out.below HB2.out
  go_wp2_with fail
  clear H1 H2 H3 H1' H2' H3'
  have e1 : data = data' := HD1.out.1 (by simp)
  have e2 : syms = syms' := HD2.out.1 (by simp)
  subst e1
  subst e2
  go_loopg [5] l3 (fun r iv wq => ∃ (k : Nat), iv = .int .i64 k ∧ k ≤ l3 ∧ l3 - k ≤ r ∧ Hid (∀ j, j < k → rels.getD j noRel = rels'.getD j noRel) ∧ Hid (Below y2.heap.size y2 wq))
  case atStart => exact ⟨0, rfl, Nat.zero_le _, by omega, (fun j hj => by omega : ∀ j, j < 0 → rels.getD j noRel = rels'.getD j noRel), Below.refl _ _⟩
  case round =>
    obtain ⟨k, rfl, hk, hr, HAL, HBL⟩ := hrel
    have t3 := cell_thru HBL.out v3
    have t3' := cell_thru HBL.out u3
    by_cases hlt : k < l3
    · rcases HA.out.cells with h0 | ⟨b, off, hA, hc⟩
      · omega
      rcases HA'.out.cells with h0 | ⟨b', off', hA', hc'⟩
      · omega
      obtain ⟨k0, k1, k2, k3⟩ := hc k hlt
      obtain ⟨k0', k1', k2', k3'⟩ := hc' k hlt
      have hb0 := World.block_lt_of_cell? y2 ⟨b, off + k * 4, none⟩ k0
      have hb1 := World.block_lt_of_cell? y2 ⟨b', off' + k * 4, none⟩ k0'
      have q0 := (HBL.out.cell (p := ⟨b, off + k * 4, none⟩) hb0).trans k0
      have r0 := (HBL.out.cell (p := ⟨b', off' + k * 4, none⟩) hb1).trans k0'
      have q1 := (HBL.out.cell (p := ⟨b, off + k * 4 + 1, none⟩) hb0).trans k1
      have r1 := (HBL.out.cell (p := ⟨b', off' + k * 4 + 1, none⟩) hb1).trans k1'
      have q2 := (HBL.out.cell (p := ⟨b, off + k * 4 + 2, none⟩) hb0).trans k2
      have r2 := (HBL.out.cell (p := ⟨b', off' + k * 4 + 2, none⟩) hb1).trans k2'
      have q3 := (HBL.out.cell (p := ⟨b, off + k * 4 + 3, none⟩) hb0).trans k3
      have r3 := (HBL.out.cell (p := ⟨b', off' + k * 4 + 3, none⟩) hb1).trans k3'
      have HNE : Hid (∀ {x y : Rel}, rels.getD k noRel = x → rels'.getD k noRel = y → x ≠ y → ¬ rels = rels') := fun hx hy hne e => hne (by rw [← hx, ← hy, e])
      have HEQ : Hid (∀ {x y : Rel}, rels.getD k noRel = x → rels'.getD k noRel = y → x = y → ∀ j, j < k + 1 → rels.getD j noRel = rels'.getD j noRel) := fun hx hy he j hj => by
        by_cases hjk : j = k
        · rw [hjk, hx, hy, he]
        · exact HAL.out j (by omega)
      obtain ⟨⟨xp, xk, xn, xa⟩, hx⟩ : ∃ x, rels.getD k noRel = x := ⟨_, rfl⟩
      obtain ⟨⟨yp, yk, yn, ya⟩, hy⟩ : ∃ y, rels'.getD k noRel = y := ⟨_, rfl⟩
      rw [hx] at q0 q1 q2 q3
      rw [hy] at r0 r1 r2 r3
      simp only at q0 r0 q1 r1 q2 r2 q3 r3
      have HX : Hid _ := hx
      have HY : Hid _ := hy
      subst hA
      subst hA'
      have hii : (k : Int) < l3 := by omega
      have hin : 0 ≤ (k : Int) := by omega
      clear hc hc' k0 k0' k1 k1' k2 k2' k3 k3' hx hy hb0 hb1
      by_cases he : (⟨xp, xk, xn, xa⟩ : Rel) = ⟨yp, yk, yn, ya⟩
      · have HNX : Hid _ := HEQ.out HX.out HY.out he
        injection he with ep ek en ea
        subst ep
        subst ek
        subst en
        subst ea
        have hde := fun w => relEq_yes xp xk xn xa w
        go_wp2_with fail
        go_quiet (fail)
        go_wp2_with fail
        go_roundg (l3 - (k + 1))
        case measure => omega
        case rel => exact ⟨k + 1, by first | rfl | (congr 1; omega), by omega, Nat.le_refl _, HNX.out, bl_drewN HBL.out _⟩
      · have HNO : Hid _ := HNE.out HX.out HY.out he
        have hde := fun w => relEq_no he w
        clear he
        go_wp2_with fail
        go_quiet (fail)
        go_wp2
        go_ret
        exact ⟨by rw [bool_no HBB.out (fun e => HNO.out (congrArg ObjD.rels e))]; rfl, HW.out.trans ((HB2.out.trans ((bl_drewN HBL.out _).mono HB2.out.size)).mono HW.out.size)⟩
    · obtain rfl : l3 = k := by omega
      have HYES : Hid (rels = rels') := list_ext_getD noRel (by rw [HA.out.count, HA'.out.count]) (fun i hi => HAL.out i (by rw [← HA.out.count]; exact hi))
      go_wp2_with fail
      go_ret
      exact ⟨by rw [HBB.out.2 (by rw [HYES.out])]; rfl, HW.out.trans ((HB2.out.trans (HBL.out.mono HB2.out.size)).mono HW.out.size)⟩

end Go.Proofs.Ytaoklmphcgigeaa

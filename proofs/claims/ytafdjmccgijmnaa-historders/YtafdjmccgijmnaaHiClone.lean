/- hist.clone: objects in rows of their own. (Out of AtClone.) -/
import Derived.Test.YtafdjmccgijmnaaAtClone
namespace Go.Proofs.Ytafdjmccgijmnaa.A
open Go.RowKit Go.Maps Go.Lib
set_option linter.unusedVariables false
set_option linter.unusedSimpArgs false
set_option maxRecDepth 100000 in
set_option maxHeartbeats 8000000 in
theorem hclone_any {w : World} {a : Option Addr} {l c : Nat} {os : List At} (h : AtsV w a l c os) (hl : l ≤ 1048576) (hi : ∀ x ∈ os, x.items.length * 8 ≤ 140737488355328) :
    Calls Try.prog 35 #[.slice a l c] w fun e w' => e = .returned (.slice (some ⟨w.heap.size, 0, none⟩) l l) ∧ (∃ vs, Nx w.heap.size w' w.heap.size l os vs l) ∧ Below w.heap.size w w' := by
  obtain ⟨i1, hi1, hz10, hz11, hz12⟩ := info_parts infoI
  obtain ⟨i2, hi2, hz20, hz21, hz22⟩ := info_parts infoA
  have HV : Hid _ := h
  have HI : Hid _ := hi
  have hc := h.count
  have hm := h.room
  have hmax : maxLen = 9223372036854775807 := rfl
  clear h hi
  go_enter Try.func35, Try.ntmps35
  go_wp2_with (first | (refine wpList_make_full _ rfl _ _ 22 rfl w.heap.size 49 i2 _ 4 Try.underlying22 hi2 hz20 hz21 .i64 .i64 _ _ l rfl rfl rfl rfl (by rw [hz22]; omega) (by omega) (Nat.le_refl _) ?_) | fail)
  intro W1 ho1 hg1
  have HO1 : Hid _ := ho1
  have HG1 : Hid _ := hg1
  clear ho1 hg1
  go_wp2_with fail
  go_loopg [11] l (fun r iv wq => ∃ (k : Nat) (vs : List Value), iv = .int .i64 k ∧ k ≤ l ∧ l - k ≤ r ∧ Hid (Nx w.heap.size wq w.heap.size l os vs k) ∧ Hid (Below w.heap.size w wq))
  case atStart => exact ⟨0, [], rfl, Nat.zero_le _, by omega, ⟨⟨_, HO1.out⟩, fun i hi => by omega, rfl, fun i hi => by omega, fun i hi => by omega, fun i j hi => by omega⟩, ⟨HG1.out.os, HG1.out.tape, HG1.out.output, HG1.out.size, fun i hi => HG1.out.block i hi (by simp)⟩⟩
  case round =>
    obtain ⟨k, vs, rfl, hk, hr, HN, HBL⟩ := hrel
    by_cases hlt : k < l
    · rcases HV.out.cells with h0 | ⟨b, off, hA, hcl⟩
      · omega
      obtain ⟨q0, q1, q2, a1, l1, c1, q3, V⟩ := hcl k hlt
      have HVW : Hid _ := V.below HBL.out
      have q0 := cell_thru HBL.out q0
      have q1 := cell_thru HBL.out q1
      have q2 := cell_thru HBL.out q2
      have q3 := cell_thru HBL.out q3
      have HL1 : Hid _ := HI.out (os.getD k noAt) (by simp [List.getD, show k < os.length by omega])
      obtain ⟨x, hx⟩ : ∃ x, os.getD k noAt = x := ⟨_, rfl⟩
      have HX : Hid _ := hx
      rw [hx] at q0 q1 q2 HVW HL1
      subst hA
      have hii : (k : Int) < l := by omega
      have hin : 0 ≤ (k : Int) := by omega
      clear hcl hx V
      obtain ⟨Y1, hY1⟩ : ∃ Y1, wr.alloc (.cells #[.string x.name, .int .i64 x.cap, .int .i64 x.owner, .slice a1 l1 c1] 49) = Y1 := ⟨_, rfl⟩
      have bY : Below wr.heap.size wr Y1 := by subst hY1; exact bl_one _ _
      have SY : Hid (Y1.heap.size = wr.heap.size + 1) := by show _ = _; subst hY1; simp
      have g0 : Y1.cell? ⟨wr.heap.size, 0, none⟩ = some (.string x.name) := by subst hY1; exact cell_last rfl rfl
      have g1 : Y1.cell? ⟨wr.heap.size, 1, none⟩ = some (.int .i64 x.cap) := by subst hY1; exact cell_last rfl rfl
      have g2 : Y1.cell? ⟨wr.heap.size, 2, none⟩ = some (.int .i64 x.owner) := by subst hY1; exact cell_last rfl rfl
      have g3 : Y1.cell? ⟨wr.heap.size, 3, none⟩ = some (.slice a1 l1 c1) := by subst hY1; exact cell_last rfl rfl
      have f3 : ∀ j, Y1.frozen? ⟨wr.heap.size, j, none⟩ = false := by subst hY1; exact fun j => World.frozen?_alloc_at _ _ _ _ (by simp)
      have HVY : Hid _ := HVW.out.below bY
      have HSR : Hid _ := HVY.out.src
      have hl1 : l1 * 8 ≤ 140737488355328 := by have := HVW.out.count; have := HL1.out; omega
      go_wp2_with (first | (at_builtin; refine wpList_append_copy rfl _ _ 47 rfl 2 i1 _ 1 8 Try.underlying47 hi1 hz10 hz11 hz12 rfl (by decide) (a := a1) (l := l1) (c := c1) (cs := x.items.flatMap intC) rfl rfl HVY.out.nilOf HSR.out.1 HSR.out.2.1 HSR.out.2.2 (by omega) (by omega) ?_) | fail)
      intro e1 f1 x1 ho1 hb1
      have HR : Hid _ := ho1
      have HB1 : Hid _ := hb1
      have p0 := cell_thru hb1 g0
      have p1 := cell_thru hb1 g1
      have p2 := cell_thru hb1 g2
      have p3 := cell_thru hb1 g3
      have z3 : ∀ j, x1.frozen? ⟨wr.heap.size, j, none⟩ = false := fun j => (hb1.frozen (p := ⟨wr.heap.size, j, none⟩) (by show wr.heap.size < Y1.heap.size; rw [SY.out]; exact Nat.lt_succ_self _)).trans (f3 j)
      have zg : w.heap.size < wr.heap.size := HN.out.lt
      have RX : Hid (∃ xs, x1.ownsRow w.heap.size 49 4 (.slice (some ⟨w.heap.size, 0, none⟩) l l) l xs) := by
        obtain ⟨xs, hx⟩ := HN.out.row
        exact ⟨xs, row_thru hx (bY.trans (hb1.mono (by rw [SY.out]; omega)))⟩
      clear g0 g1 g2 g3 f3 ho1 hb1
      obtain ⟨X2, hX2⟩ : ∃ X2, x1.setCell ⟨wr.heap.size, 3, none⟩ (.slice e1 l1 f1) = X2 := ⟨_, rfl⟩
      have zb := z3 3
      have RX2 : Hid (∃ xs, X2.ownsRow w.heap.size 49 4 (.slice (some ⟨w.heap.size, 0, none⟩) l l) l xs) := by
        obtain ⟨xs, hx⟩ := RX.out
        subst hX2
        exact ⟨xs, hx.kept (gb_setO _ _ _) (.inr (by simp [Value.ownBlock]; omega))⟩
      have p0' : X2.cell? ⟨wr.heap.size, 0, none⟩ = some (.string x.name) := by subst hX2; rw [World.cell?_setCell_other _ _ _ _ (by simp)]; exact p0
      have p1' : X2.cell? ⟨wr.heap.size, 1, none⟩ = some (.int .i64 x.cap) := by subst hX2; rw [World.cell?_setCell_other _ _ _ _ (by simp)]; exact p1
      have p2' : X2.cell? ⟨wr.heap.size, 2, none⟩ = some (.int .i64 x.owner) := by subst hX2; rw [World.cell?_setCell_other _ _ _ _ (by simp)]; exact p2
      have p3' : X2.cell? ⟨wr.heap.size, 3, none⟩ = some (.slice e1 l1 f1) := by subst hX2; exact World.cell?_setCell_same' _ _ _ (by rw [p3]; rfl)
      obtain ⟨xs, HXS⟩ := RX2.out
      have fz : ∀ j, X2.frozen? ⟨w.heap.size, j, none⟩ = false := fun j => HXS.frozenAt j
      obtain ⟨u0, r0⟩ := row_some HXS (j := k * 4) (by omega)
      obtain ⟨u1, r1⟩ := row_some HXS (j := k * 4 + 1) (by omega)
      obtain ⟨u2, r2⟩ := row_some HXS (j := k * 4 + 2) (by omega)
      obtain ⟨u3, r3⟩ := row_some HXS (j := k * 4 + 3) (by omega)
      have HXR : Hid _ := HXS
      clear HXS z3 p0 p1 p2
      have BX : Hid (Below wr.heap.size wr X2) := by
        show Below _ _ _
        subst hX2
        exact (bY.trans (HB1.out.mono (by rw [SY.out]; omega))).setCell (Nat.le_refl _) _
      have NX : Hid (Nx w.heap.size X2 w.heap.size l os vs k) := HN.out.below BX.out
      have OX : Hid (X2.ownsRow (wr.heap.size + 1) 2 1 (.slice e1 l1 f1) x.items.length (x.items.flatMap intC)) := by
        have h2 := HVW.out.count
        have h1 : x1.ownsRow (wr.heap.size + 1) 2 1 (.slice e1 l1 f1) l1 (x.items.flatMap intC) := own_base HR.out (by rw [SY.out]; exact Nat.le_refl _)
        subst hX2
        rw [h2]
        exact h1.kept (gb_setO _ _ _) (.inr fun e => by have := (h1.lt _ e).1; simp at this; omega)
      have NL : Hid (Nx w.heap.size ((((X2.setCell ⟨w.heap.size, k * 4, none⟩ (.string x.name)).setCell ⟨w.heap.size, k * 4 + 1, none⟩ (.int .i64 x.cap)).setCell ⟨w.heap.size, k * 4 + 2, none⟩ (.int .i64 x.owner)).setCell ⟨w.heap.size, k * 4 + 3, none⟩ (.slice e1 l1 f1)) w.heap.size l os (vs ++ [.slice e1 l1 f1]) (k + 1)) := by
        have := NX.out.lay hlt (C := wr.heap.size + 1) (v := .slice e1 l1 f1) (by rw [HX.out]; exact OX.out) (fun i hi b hb => by have := ((HN.out.own i hi).lt b hb).2; omega) (by omega) (by omega)
        rw [HX.out] at this
        exact this
      have BL : Hid (Below w.heap.size w ((((X2.setCell ⟨w.heap.size, k * 4, none⟩ (.string x.name)).setCell ⟨w.heap.size, k * 4 + 1, none⟩ (.int .i64 x.cap)).setCell ⟨w.heap.size, k * 4 + 2, none⟩ (.int .i64 x.owner)).setCell ⟨w.heap.size, k * 4 + 3, none⟩ (.slice e1 l1 f1))) := ((((HBL.out.trans (BX.out.mono HBL.out.size)).setCell (Nat.le_refl _) _).setCell (Nat.le_refl _) _).setCell (Nat.le_refl _) _).setCell (Nat.le_refl _) _
      clear bY
      go_wp2_with fail
      go_roundg (l - (k + 1))
      case measure => omega
      case rel => exact ⟨k + 1, _, by first | rfl | (congr 1; omega), by omega, Nat.le_refl _, NL.out, BL.out⟩
    · obtain rfl : k = l := by omega
      have hii : ¬ (k : Int) < k := by omega
      go_wp2
      go_ret
      exact ⟨rfl, ⟨_, HN.out⟩, HBL.out⟩
end Go.Proofs.Ytafdjmccgijmnaa.A

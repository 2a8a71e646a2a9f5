/- The law's copied. (Written by gen_copied.py.) -/
import Derived.Test.YtfkpbmopneleiaaMemRow
import Derived.Test.YtfkpbmopneleiaaMemFoot
import Derived.Test.YtfkpbmopneleiaaMemRefPut
import Derived.Deep.LoopGhost
import Derived.Deep.RegionHeld3
namespace Go.Proofs.Ytfkpbmopneleiaa
open Go.RowKit Go.Maps
set_option linter.unusedVariables false

set_option maxRecDepth 100000 in
set_option maxHeartbeats 8000000 in
theorem copiedL_any {w : World} {a : Option Addr} {len cap : Nat} {rs : List Reg} (h : RegsV w a len cap rs) (hl : len * 40 ≤ 140737488351232) (hw : ∀ i, i < len → (rs.getD i noReg).words.length ≤ 2000) (hfit : ∀ r ∈ rs, ∀ n ∈ r.words, (Lit.int .i64 n).wf = true) :
    Calls Try.prog 9 #[.slice a len cap] w fun e w' => ∃ lv us t, e = .returned lv ∧ RegRow w.heap.size w' lv rs us t ∧ Below w.heap.size w w' := by
  obtain ⟨i0, hi0, hz0, hz1, hz2⟩ := info_parts infoR
  have hcnt := h.count
  have HV : Hid _ := h
  have HW : Hid _ := hw
  have HFI : Hid _ := hfit
  clear h hw hfit
  go_enter Try.func9, Try.ntmps9
  go_wp2_with fail
  go_loopg [3, 4] len (fun r ov iv wq => ∃ (i : Nat) (us : List Value) (t : Nat → Nat), iv = .int .i64 i ∧ i ≤ len ∧ len - i ≤ r ∧ Hid (RegRow w.heap.size wq ov (rs.take i) us t) ∧ Below w.heap.size w wq)
  case atStart => exact ⟨0, [], fun _ => 0, rfl, Nat.zero_le _, by omega, RegRow.nil _ _ _ (by simp), Below.refl _ _⟩
  case round =>
    obtain ⟨i, us, t, rfl, hi, hr, HO, hbw⟩ := hrel
    by_cases hlt : i < len
    · rcases HV.out.cells with h0 | ⟨b, off, hA, hc⟩
      · omega
      obtain ⟨s1, n1, e1, k0, k1, k2, V1⟩ := hc i hlt
      have hbl : b < w.heap.size := World.block_lt_of_cell? w ⟨b, off + i * 3, none⟩ k0
      have p0 := (hbw.cell (p := ⟨b, off + i * 3, none⟩) hbl).trans k0
      have p1 := (hbw.cell (p := ⟨b, off + i * 3 + 1, none⟩) hbl).trans k1
      have p2 := (hbw.cell (p := ⟨b, off + i * 3 + 2, none⟩) hbl).trans k2
      have HTK : Hid _ := take_reg rs i (by omega)
      have hlw := HW.out i hlt
      have HFR : Hid ((Lit.int .i64 (rs.getD i noReg).base).wf = true ∧ ∀ n ∈ (rs.getD i noReg).words, (Lit.int .i64 n).wf = true) := ⟨HV.out.fits _ (getD_mem rs (by omega)), HFI.out _ (getD_mem rs (by omega))⟩
      obtain ⟨r, hreg⟩ : ∃ r, rs.getD i noReg = r := ⟨_, rfl⟩
      rw [hreg] at p0 p2 V1 HTK hlw HFR
      obtain ⟨rb, hrb⟩ : ∃ rb, r.base = rb := ⟨_, rfl⟩
      obtain ⟨rw, hrw⟩ : ∃ rw, r.write = rw := ⟨_, rfl⟩
      rw [hrb] at p0
      rw [hrw] at p2
      have HRB : Hid _ := hrb
      have HRW : Hid _ := hrw
      have hc1 := V1.count
      have HV1 : Hid (∀ {x : World}, Below w.heap.size w x → View x s1 n1 e1 r.words) := fun hb => V1.below hb
      have K1 : Hid _ := k1
      have hww := hbw.size
      subst hA
      have hii : (i : Int) < len := by omega
      have hin : 0 ≤ (i : Int) := by omega
      clear hc k0 k1 k2 V1 hreg hrb hrw
      go_wp2_with fail
      obtain ⟨Y1, hY1⟩ : ∃ Y1, wr.alloc (.cells #[.int .i64 rb, .slice none 0 0, .bool rw] 26) = Y1 := ⟨_, rfl⟩
      have sY1 : Y1.heap.size = wr.heap.size + 1 := by subst hY1; simp
      have g0 : Y1.cell? ⟨wr.heap.size, 0, none⟩ = some (.int .i64 rb) := by subst hY1; exact cell_last _ _ _ _ _ rfl rfl
      have gY1 : Y1.cell? ⟨wr.heap.size, 1, none⟩ = some (.slice none 0 0) := by subst hY1; exact cell_last _ _ _ _ _ rfl rfl
      have g2 : Y1.cell? ⟨wr.heap.size, 2, none⟩ = some (.bool rw) := by subst hY1; exact cell_last _ _ _ _ _ rfl rfl
      have zY1 : Y1.frozen? ⟨wr.heap.size, 1, none⟩ = false := by subst hY1; exact World.frozen?_alloc_at _ _ _ _ rfl
      have ch1 : Below wr.heap.size wr Y1 := by subst hY1; exact (Below.refl _ _).alloc (Nat.le_refl _) _
      have hbwY1 : Below w.heap.size w Y1 := hbw.trans (ch1.mono hww)
      have q1 : Y1.drew.cell? ⟨b, off + i * 3 + 1, none⟩ = some (.slice s1 n1 e1) := (hbwY1.drew.cell (p := ⟨b, off + i * 3 + 1, none⟩) hbl).trans K1.out
      rw [hY1]
      refine wp_region_held_drew (S := (fun w' : World => w'.cell? ⟨b, off + i * 3 + 1, none⟩ = some (.slice s1 n1 e1))) (by kernel_rfl) q1 (fun hHeld => ?_)
      refine wpAnyH_take (i := 0) (v := ?_) (get0 _ _) (by kernel_rfl) (by kernel_rfl) (by kernel_rfl) (fun _ _ _ h => h) (Or.inl ⟨by rfl, ?_⟩) (by assumption) ?_
      rotate_left
      · (intro w hSw; (try dsimp only at hSw); go_simp <;> with_reducible rfl)
      simp only [Act.put, List.setIfInBounds_toArray, List.set_cons_zero, List.set_cons_succ]
      refine wpAnyH_take (i := 2) (v := ?_) (get1 (get1 (get0 _ _))) (by kernel_rfl) (by kernel_rfl) (by kernel_rfl) (fun _ _ _ h => h) (Or.inl ⟨by rfl, ?_⟩) (by assumption) ?_
      rotate_left
      · (intro w hSw; (try dsimp only at hSw); go_simp <;> with_reducible rfl)
      simp only [Act.put, List.setIfInBounds_toArray, List.set_cons_zero, List.set_cons_succ]
      refine wpAnyH_take (i := 3) (v := ?_) (get1 (get1 (get1 (get0 _ _)))) (by kernel_rfl) (by kernel_rfl) (by kernel_rfl) (fun _ _ _ h => h) (Or.inl ⟨by rfl, ?_⟩) (by assumption) ?_
      rotate_left
      · (intro w hSw; (try dsimp only at hSw); go_simp <;> with_reducible rfl)
      simp only [Act.put, List.setIfInBounds_toArray, List.set_cons_zero, List.set_cons_succ]
      refine wpAnyH_take (i := 4) (v := ?_) (get1 (get1 (get1 (get1 (get0 _ _))))) (by kernel_rfl) (by kernel_rfl) (by kernel_rfl) (fun _ _ _ h => h) (Or.inl ⟨by rfl, ?_⟩) (by assumption) ?_
      rotate_left
      · (intro w hSw; (try dsimp only at hSw); go_simp <;> with_reducible rfl)
      simp only [Act.put, List.setIfInBounds_toArray, List.set_cons_zero, List.set_cons_succ]
      refine wpAnyH_take (i := 5) (v := ?_) (get1 (get1 (get1 (get1 (get1 (get0 _ _)))))) (by kernel_rfl) (by kernel_rfl) (by kernel_rfl) (fun _ _ _ h => h) (Or.inl ⟨by rfl, ?_⟩) (by assumption) ?_
      rotate_left
      · (intro w hSw; (try dsimp only at hSw); go_simp <;> with_reducible rfl)
      simp only [Act.put, List.setIfInBounds_toArray, List.set_cons_zero, List.set_cons_succ]
      refine wpAnyH_take (i := 6) (v := ?_) (get1 (get1 (get1 (get1 (get1 (get1 (get0 _ _))))))) (by kernel_rfl) (by kernel_rfl) (by kernel_rfl) (fun _ _ _ h => h) (Or.inl ⟨by rfl, ?_⟩) (by assumption) ?_
      rotate_left
      · (intro w hSw; (try dsimp only at hSw); go_simp <;> with_reducible rfl)
      simp only [Act.put, List.setIfInBounds_toArray, List.set_cons_zero, List.set_cons_succ]
      refine wpAnyH_ready (rs := [1]) (by kernel_rfl) (by simp) ?_
      refine AllReadyH.cons (get1 (get0 _ _)) (fun K hK => ?_) AllReadyH.nil
      go_simp
      refine hK.out _ _ hHeld (fun hHeld => ?_)
      clear hK K
      try simp only [Act.put, List.setIfInBounds_toArray, List.set_cons_zero, List.set_cons_succ]
      refine wpAnyH_ready (rs := [7]) (by kernel_rfl) (by simp) ?_
      refine AllReadyH.cons (get1 (get1 (get1 (get1 (get1 (get1 (get1 (get0 _ _)))))))) (fun K hK => ?_) AllReadyH.nil
      refine step_append_view (by rfl) _ _ (by rfl) (zs := r.words) (by rfl) (by rfl) (HV1.out hbwY1.drew) (by omega) ?_
      intro s1' e1' Y2 hoY2 hbY2
      simp only [World.size_drew] at hoY2 hbY2
      have HY2 : Hid (Y2.ownsRow Y1.heap.size 2 1 (.slice s1' n1 e1') n1 (intsR r.words)) := hoY2
      have hsY2 := hbY2.size
      simp only [World.size_drew] at hsY2
      have gY2 : Y2.cell? ⟨wr.heap.size, 1, none⟩ = some (.slice none 0 0) := (hbY2.cell (p := ⟨wr.heap.size, 1, none⟩) (by simp; omega)).trans (by simpa using gY1)
      have zY2 : Y2.frozen? ⟨wr.heap.size, 1, none⟩ = false := (hbY2.frozen (p := ⟨wr.heap.size, 1, none⟩) (by simp; omega)).trans (by simpa using zY1)
      have tY2 : Y2.cell? ⟨b, off + i * 3 + 1, none⟩ = some (.slice s1 n1 e1) := (hbY2.cell (p := ⟨b, off + i * 3 + 1, none⟩) (by simp; omega)).trans q1
      have nb : wr.heap.size ≠ b := by omega
      refine hK.out _ _ tY2 (fun hHeld => ?_)
      clear hK K
      try simp only [Act.put, List.setIfInBounds_toArray, List.set_cons_zero, List.set_cons_succ]
      refine wpAnyH_take (i := 8) (v := ?_) (get1 (get1 (get1 (get1 (get1 (get1 (get1 (get1 (get0 _ _))))))))) (by kernel_rfl) (by kernel_rfl) (by kernel_rfl) (fun _ _ _ h => h) (Or.inl ⟨by rfl, ?_⟩) (by assumption) ?_
      rotate_left
      · (intro w hSw; (try dsimp only at hSw); go_simp <;> with_reducible rfl)
      simp only [Act.put, List.setIfInBounds_toArray, List.set_cons_zero, List.set_cons_succ]
      refine wpAnyH_ready (rs := [9]) (by kernel_rfl) (by simp) ?_
      refine AllReadyH.cons (get1 (get1 (get1 (get1 (get1 (get1 (get1 (get1 (get1 (get0 _ _)))))))))) (fun K hK => ?_) AllReadyH.nil
      go_simp
      refine hK.out _ _ ((World.cell?_setCell_far Y2 ⟨wr.heap.size, 1, none⟩ ⟨b, off + i * 3 + 1, none⟩ _ nb).trans tY2) (fun hHeld => ?_)
      clear hK K
      try simp only [Act.put, List.setIfInBounds_toArray, List.set_cons_zero, List.set_cons_succ]
      refine wpAnyH_done (by kernel_rfl) ?_ _
      clear hHeld
      obtain ⟨Y3, hY3⟩ : ∃ Y3, Y2.setCell ⟨wr.heap.size, 1, none⟩ (.slice s1' n1 e1') = Y3 := ⟨_, rfl⟩
      have ch3 : Below wr.heap.size wr Y3 := by
        subst hY3
        exact (ch1.drew.trans (hbY2.mono (by omega))).setCell (by show wr.heap.size ≤ wr.heap.size; omega) _
      have sY3 : Y3.heap.size = Y2.heap.size := by subst hY3; simp
      have a0 : Y3.cell? ⟨wr.heap.size, 0, none⟩ = some (.int .i64 rb) := by
        subst hY3
        refine (World.cell?_setCell_other _ _ _ _ (by simp)).trans ?_
        exact (hbY2.cell (p := ⟨wr.heap.size, 0, none⟩) (by show wr.heap.size < _; omega)).trans (by simpa using g0)
      have a1 : Y3.cell? ⟨wr.heap.size, 1, none⟩ = some (.slice s1' n1 e1') := by subst hY3; exact World.cell?_setCell_same' _ _ _ (by rw [gY2]; rfl)
      have a2 : Y3.cell? ⟨wr.heap.size, 2, none⟩ = some (.bool rw) := by
        subst hY3
        refine (World.cell?_setCell_other _ _ _ _ (by simp)).trans ?_
        exact (hbY2.cell (p := ⟨wr.heap.size, 2, none⟩) (by show wr.heap.size < _; omega)).trans (by simpa using g2)
      have O1 : Hid (Y3.ownsRow (wr.heap.size + 1) 2 1 (.slice s1' n1 e1') n1 (intsR r.words)) := by
        show World.ownsRow _ _ _ _ _ _ _
        subst hY3
        have o : Y2.ownsRow Y1.heap.size 2 1 (.slice s1' n1 e1') n1 (intsR r.words) := HY2.out
        have o' : (Y2.setCell ⟨wr.heap.size, 1, none⟩ (.slice s1' n1 e1')).ownsRow Y1.heap.size 2 1 (.slice s1' n1 e1') n1 (intsR r.words) := o.kept (gb_set Y2 ⟨wr.heap.size, 1, none⟩ _) (.inr fun e => by
          have : Y1.heap.size ≤ wr.heap.size := (o.lt _ e).1
          omega)
        exact own_base o' (by omega)
      have htl : (rs.take i).length = i := by rw [List.length_take]; omega
      have HCH : Hid (Below wr.heap.size wr (Y3.alloc (.cells #[.int .i64 rb, .slice s1' n1 e1', .bool rw] 26))) := ch3.alloc (by omega) _
      have HOE : Hid (RegRow w.heap.size (Y3.alloc (.cells #[.int .i64 rb, .slice s1' n1 e1', .bool rw] 26)) u3 (rs.take i) us t) := HO.out.below HCH.out
      have HBE : Hid (Below w.heap.size w (Y3.alloc (.cells #[.int .i64 rb, .slice s1' n1 e1', .bool rw] 26))) := hbw.trans (HCH.out.mono hww)
      have lY3 : wr.heap.size + 1 ≤ Y3.heap.size := by omega
      have OE : Hid ((Y3.alloc (.cells #[.int .i64 rb, .slice s1' n1 e1', .bool rw] 26)).ownsRow (wr.heap.size + 1) 2 1 (.slice s1' n1 e1') n1 (intsR r.words)) := O1.out.alloc _
      have HLT : Hid (∀ k, t k ≠ 0 → k < wr.heap.size) := fun k hk => (HO.out.lt k hk).2
      clear gY2 zY2 tY2 g0 gY1 g2 zY1 q1 hbY2 HY2 hoY2 ch1 ch3 hbwY1 sY3 sY1 hsY2 p0 p1 p2 O1 hbw
      go_wp2_with (first | (at_builtin; refine wpList_append_lies _ rfl _ _ 22 rfl w.heap.size 26 i0 _ 3 40 Try.underlying22 hi0 hz0 hz1 hz2 rfl (by decide) _ _ _ rfl HOE.out.row ⟨Y3.heap.size, 0, none⟩ 1 1 [.int .i64 rb, .slice s1' n1 e1', .bool rw] rfl rfl (reg_cells _ _ _ _ rfl) (by intro u hu; simp at hu; rcases hu with rfl | rfl | rfl <;> rfl) (by decide) (by unfold maxLen; omega) (by omega) (by simp; omega) (Y3.heap.size + 1) (by simp) ?_) | go_in)
      intro g cap2 Y6 ho6 hg6 hat6 hlt6
      obtain ⟨t', HO6, -⟩ := HOE.out.push (u := .slice s1' n1 e1') (r := r) (g := g) (cap := cap2) (w5 := Y6) (by rw [hc1]; exact own_base OE.out (by omega)) (fun x hx => by
        have := (OE.out.lt x hx).1
        cases Nat.eq_zero_or_pos (t x) with
        | inl h0 => exact h0
        | inr h0 => have := HLT.out x (by omega); omega) HFR.out (by rw [htl]; simpa [cs3, HRB.out, HRW.out] using ho6) hg6 (by simpa using hat6)
      rw [htl, ← HTK.out] at HO6
      have HN6 : Hid _ := HO6
      have hb6 : Below w.heap.size w Y6 := below_ownM HBE.out HOE.out.row hg6 (by simp; omega)
      clear ho6 hg6 hat6 hlt6 HOE HBE OE HO6
      go_wp2_with fail
      go_roundg (len - (i + 1))
      case measure => omega
      case rel => exact ⟨i + 1, _, _, by first | rfl | (congr 1; omega), by omega, Nat.le_refl _, HN6.out, hb6⟩
    · obtain rfl : i = len := by omega
      have hO := HO.out
      rw [List.take_of_length_le (by omega)] at hO
      have HOO : Hid _ := hO
      clear HO hO
      go_wp2_with fail
      go_ret
      exact ⟨u3, us, t, rfl, HOO.out, hbw⟩

end Go.Proofs.Ytfkpbmopneleiaa

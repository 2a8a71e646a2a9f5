/- The document's New. (Written by gen_rnew.py.) -/
import Derived.Test.YtfkpbmopneleiaaMemRefX
import Derived.Test.YtfkpbmopneleiaaMemCopiedL
import Derived.Test.YtfkpbmopneleiaaMemRefMay
namespace Go.Proofs.Ytfkpbmopneleiaa
open Go.RowKit Go.Maps
set_option linter.unusedVariables false

set_option maxRecDepth 100000 in
set_option maxHeartbeats 4000000 in
theorem rnew_no {w : World} {a : Option Addr} {len cap : Nat} {rs : List Reg} (h : RegsV w a len cap rs) (hm : may rs = false) :
    Calls Try.prog 11 #[.slice a len cap] w fun e w' => e = .returned (.tuple #[.pointer none, .int .i64 1]) ∧ Below w.heap.size w w' := by
  have HV : Hid _ := h
  clear h
  go_enter Try.func11, Try.ntmps11
  go_wp2_with (go_at_call 30; refine (rmay_any HV.out).mono ?_; rintro e w1 ⟨rfl, hb1⟩; rw [hm])
  go_ret2
  exact ⟨rfl, hb1⟩

theorem RefV.pushed {B : Nat} {w w5 : World} {bx : Nat} {rs : List Reg} {lv : Value} {us : List Value} {t : Nat → Nat} {u : Value} {r : Reg} {g cap : Nat} (h : RefV B w bx rs [] [] lv (.slice none 0 0) (.slice none 0 0) us [] [] t)
    (o : w.ownsRow B 2 1 u r.words.length (intsR r.words)) (hu : ∀ x, u.ownBlock = some x → t x = 0)
    (hf : (Lit.int .i64 r.base).wf = true ∧ ∀ n ∈ r.words, (Lit.int .i64 n).wf = true)
    (hr : w5.ownsRow B 26 3 (.slice (some ⟨g, 0, none⟩) (rs.length + 1) cap) (rs.length + 1) (rowCells rs us ++ cs3 r u)) (hg : w.grownBy w5 lv.ownBlock) (hat : lv.ownBlock = some g ∨ g = w.heap.size) :
    ∃ t', RefV B (w5.setCell ⟨bx, 0, none⟩ (.slice (some ⟨g, 0, none⟩) (rs.length + 1) cap)) bx (rs ++ [r]) [] [] (.slice (some ⟨g, 0, none⟩) (rs.length + 1) cap) (.slice none 0 0) (.slice none 0 0) (us ++ [u]) [] [] t' := by
  obtain ⟨t', hR, ht⟩ := h.reg.push o hu hf hr hg hat
  have htb : t' bx = 1 := (ht bx (by rw [h.tb]; decide)).trans h.tb
  have nlb : some bx ≠ lv.ownBlock := fun e => by have := h.reg.tl _ e.symm; rw [h.tb] at this; cases this
  have c0 := hg.cell h.c0 nlb
  have c1 := hg.cell h.c1 nlb
  have c2 := hg.cell h.c2 nlb
  have fz : ∀ o, w5.frozen? ⟨bx, o, none⟩ = false := fun o => (hg.frozen_far ⟨bx, o, none⟩ h.lt nlb).trans (h.fz o)
  have sc := set_cells (w := w5) (bx := bx) (o := 0) (u := .slice (some ⟨g, 0, none⟩) (rs.length + 1) cap) (by rw [c0]; rfl)
  have hreg : RegRow B (w5.setCell ⟨bx, 0, none⟩ (.slice (some ⟨g, 0, none⟩) (rs.length + 1) cap)) (.slice (some ⟨g, 0, none⟩) (rs.length + 1) cap) (rs ++ [r]) (us ++ [u]) t' := by
    refine hR.conv (fun k hk => (gb_set w5 ⟨bx, 0, none⟩ _).block k (hR.lt k (by omega)).2 (fun e => ?_)) (fun _ _ => rfl) (fun k hk => by rw [World.size_setCell]; exact hR.lt k hk)
    have e' : k = bx := by simpa using e
    rw [e', htb] at hk
    omega
  refine ⟨t', { reg := hreg, c0 := sc.1, c1 := (sc.2 1 (by decide)).trans c1, c2 := (sc.2 2 (by decide)).trans c2, fz := fun o => by rw [World.frozen?_setCell]; exact fz o, tb := htb, o1 := World.ownsRow_nil _ _ _ _, o2 := World.ownsRow_nil _ _ _ _, t1 := by simp [Value.ownBlock], t2 := by simp [Value.ownBlock], i1 := h.i1, i2 := h.i2, f1 := h.f1, f2 := h.f2 }⟩

set_option maxRecDepth 100000 in
set_option maxHeartbeats 8000000 in
theorem rnew_yes {w : World} {a : Option Addr} {len cap : Nat} {rs : List Reg} (h : RegsV w a len cap rs) (hm : may rs = true) (hl : len ≤ 16) (hw : ∀ i, i < len → (rs.getD i noReg).words.length ≤ 65536) (hfit : ∀ r ∈ rs, ∀ n ∈ r.words, (Lit.int .i64 n).wf = true) :
    Calls Try.prog 11 #[.slice a len cap] w fun e w' => ∃ bx t, e = .returned (.tuple #[.pointer (some ⟨bx, 0, none⟩), .int .i64 0]) ∧ RefX w.heap.size w' bx rs [] [] t ∧ Below w.heap.size w w' := by
  obtain ⟨i0, hi0, hz0, hz1, hz2⟩ := info_parts infoR
  have hcnt := h.count
  have HV : Hid _ := h
  have HW : Hid _ := hw
  have HFI : Hid _ := hfit
  clear h hw hfit
  go_enter Try.func11, Try.ntmps11
  go_wp2_with (go_at_call 30; refine (rmay_any HV.out).mono ?_; rintro e w1 ⟨rfl, hb1⟩; rw [hm])
  have zz1 := hb1.size
  go_loopg [5] len (fun r iv wq => ∃ (i : Nat) (lv : Value) (us : List Value) (t : Nat → Nat), iv = .int .i64 i ∧ i ≤ len ∧ len - i ≤ r ∧ Hid (RefV w.heap.size wq w1.heap.size (rs.take i) [] [] lv (.slice none 0 0) (.slice none 0 0) us [] [] t) ∧ Below w.heap.size w wq)
  case atStart =>
    refine ⟨0, .slice none 0 0, [], fun k => if k = w1.heap.size then 1 else 0, rfl, Nat.zero_le _, by omega, ?_, hb1.alloc hb1.size _⟩
    show RefV _ _ _ _ _ _ _ _ _ _ _ _ _
    refine { reg := RegRow.nil _ _ _ (fun k hk => by
      by_cases c : k = w1.heap.size
      · simp; omega
      · simp [c] at hk), c0 := cell_last _ _ _ _ _ rfl rfl, c1 := cell_last _ _ _ _ _ rfl rfl, c2 := cell_last _ _ _ _ _ rfl rfl, fz := fun o => World.frozen?_alloc_at _ _ _ _ rfl, tb := if_pos rfl, o1 := World.ownsRow_nil _ _ _ _, o2 := World.ownsRow_nil _ _ _ _, t1 := by simp [Value.ownBlock], t2 := by simp [Value.ownBlock], i1 := ⟨by simp, by simp⟩, i2 := ⟨by simp, by simp⟩, f1 := by simp, f2 := by simp }
  case round =>
    obtain ⟨i, lv, us, t, rfl, hi, hr, HO, hbw⟩ := hrel
    by_cases hlt : i < len
    · rcases HV.out.cells with h0 | ⟨b, off, hA, hc⟩
      · omega
      obtain ⟨s1, n1, e1, k0, k1, k2, V1⟩ := hc i hlt
      have hbl : b < w.heap.size := World.block_lt_of_cell? w ⟨b, off + i * 3, none⟩ k0
      have p0 := (hbw.cell (p := ⟨b, off + i * 3, none⟩) hbl).trans k0
      have p1 := (hbw.cell (p := ⟨b, off + i * 3 + 1, none⟩) hbl).trans k1
      have p2 := (hbw.cell (p := ⟨b, off + i * 3 + 2, none⟩) hbl).trans k2
      have HTK : Hid _ := take_reg rs i (by omega)
      have hlw := HW.out i hlt
      have HFR : Hid ((Lit.int .i64 (rs.getD i noReg).base).wf = true ∧ ∀ n ∈ (rs.getD i noReg).words, (Lit.int .i64 n).wf = true) := ⟨HV.out.fits _ (getD_mem rs (by omega)), HFI.out _ (getD_mem rs (by omega))⟩
      obtain ⟨r, hreg⟩ : ∃ r, rs.getD i noReg = r := ⟨_, rfl⟩
      rw [hreg] at p0 p2 V1 HTK hlw HFR
      obtain ⟨rb, hrb⟩ : ∃ rb, r.base = rb := ⟨_, rfl⟩
      obtain ⟨rw, hrw⟩ : ∃ rw, r.write = rw := ⟨_, rfl⟩
      rw [hrb] at p0
      rw [hrw] at p2
      have HRB : Hid _ := hrb
      have HRW : Hid _ := hrw
      have hc1 := V1.count
      have HV1 : Hid (∀ {x : World}, Below w.heap.size w x → View x s1 n1 e1 r.words) := fun hb => V1.below hb
      have K1 : Hid _ := k1
      have hww := hbw.size
      subst hA
      have hii : (i : Int) < len := by omega
      have hin : 0 ≤ (i : Int) := by omega
      clear hc k0 k1 k2 V1 hreg hrb hrw
      go_wp2_with fail
      refine wp_region_held_drew (S := (fun w' : World => w'.cell? ⟨b, off + i * 3, none⟩ = some (.int .i64 rb) ∧ w'.cell? ⟨b, off + i * 3 + 2, none⟩ = some (.bool rw) ∧ b < w'.heap.size)) (by kernel_rfl) ⟨p0, p2, by show b < wr.heap.size; omega⟩ (fun hHeld => ?_)
      refine wpAnyH_take (i := 0) (v := ?_) (get0 _ _) (by kernel_rfl) (by kernel_rfl) (by kernel_rfl) (fun _ _ _ h => h) (Or.inl ⟨by rfl, ?_⟩) (by assumption) ?_
      rotate_left
      · (intro w hSw; (try dsimp only at hSw); go_simp <;> with_reducible rfl)
      simp only [Act.put, List.setIfInBounds_toArray, List.set_cons_zero, List.set_cons_succ]
      refine wpAnyH_take (i := 1) (v := ?_) (get1 (get0 _ _)) (by kernel_rfl) (by kernel_rfl) (by kernel_rfl) (fun _ _ _ h => h) (Or.inl ⟨by rfl, ?_⟩) (by assumption) ?_
      rotate_left
      · (intro w hSw; (try dsimp only at hSw); go_simp <;> with_reducible rfl)
      simp only [Act.put, List.setIfInBounds_toArray, List.set_cons_zero, List.set_cons_succ]
      refine wpAnyH_take (i := 2) (v := ?_) (get1 (get1 (get0 _ _))) (by kernel_rfl) (by kernel_rfl) (by kernel_rfl) (fun _ _ _ h => h) (Or.inl ⟨by rfl, ?_⟩) (by assumption) ?_
      rotate_left
      · (intro w hSw; (try dsimp only at hSw); go_simp <;> with_reducible rfl)
      simp only [Act.put, List.setIfInBounds_toArray, List.set_cons_zero, List.set_cons_succ]
      refine wpAnyH_take (i := 3) (v := ?_) (get1 (get1 (get1 (get0 _ _)))) (by kernel_rfl) (by kernel_rfl) (by kernel_rfl) (fun _ _ _ h => h) (Or.inl ⟨by rfl, ?_⟩) (by assumption) ?_
      rotate_left
      · (intro w hSw; (try dsimp only at hSw); go_simp <;> with_reducible rfl)
      simp only [Act.put, List.setIfInBounds_toArray, List.set_cons_zero, List.set_cons_succ]
      refine wpAnyH_take (i := 4) (v := ?_) (get1 (get1 (get1 (get1 (get0 _ _))))) (by kernel_rfl) (by kernel_rfl) (by kernel_rfl) (fun _ _ _ h => h) (Or.inl ⟨by rfl, ?_⟩) (by assumption) ?_
      rotate_left
      · (intro w hSw; (try dsimp only at hSw); go_simp <;> with_reducible rfl)
      simp only [Act.put, List.setIfInBounds_toArray, List.set_cons_zero, List.set_cons_succ]
      refine wpAnyH_take (i := 5) (v := ?_) (get1 (get1 (get1 (get1 (get1 (get0 _ _)))))) (by kernel_rfl) (by kernel_rfl) (by kernel_rfl) (fun _ _ _ h => h) (Or.inl ⟨by rfl, ?_⟩) (by assumption) ?_
      rotate_left
      · (intro w hSw; (try dsimp only at hSw); go_simp <;> with_reducible rfl)
      simp only [Act.put, List.setIfInBounds_toArray, List.set_cons_zero, List.set_cons_succ]
      refine wpAnyH_take (i := 6) (v := ?_) (get1 (get1 (get1 (get1 (get1 (get1 (get0 _ _))))))) (by kernel_rfl) (by kernel_rfl) (by kernel_rfl) (fun _ _ _ h => h) (Or.inl ⟨by rfl, ?_⟩) (by assumption) ?_
      rotate_left
      · (intro w hSw; (try dsimp only at hSw); go_simp <;> with_reducible rfl)
      simp only [Act.put, List.setIfInBounds_toArray, List.set_cons_zero, List.set_cons_succ]
      refine wpAnyH_take (i := 7) (v := ?_) (get1 (get1 (get1 (get1 (get1 (get1 (get1 (get0 _ _)))))))) (by kernel_rfl) (by kernel_rfl) (by kernel_rfl) (fun _ _ _ h => h) (Or.inl ⟨by rfl, ?_⟩) (by assumption) ?_
      rotate_left
      · (intro w hSw; (try dsimp only at hSw); go_simp <;> with_reducible rfl)
      simp only [Act.put, List.setIfInBounds_toArray, List.set_cons_zero, List.set_cons_succ]
      refine wpAnyH_take (i := 8) (v := ?_) (get1 (get1 (get1 (get1 (get1 (get1 (get1 (get1 (get0 _ _))))))))) (by kernel_rfl) (by kernel_rfl) (by kernel_rfl) (fun _ _ _ h => h) (Or.inl ⟨by rfl, ?_⟩) (by assumption) ?_
      rotate_left
      · (intro w hSw; (try dsimp only at hSw); go_simp <;> with_reducible rfl)
      simp only [Act.put, List.setIfInBounds_toArray, List.set_cons_zero, List.set_cons_succ]
      refine wpAnyH_take (i := 9) (v := ?_) (get1 (get1 (get1 (get1 (get1 (get1 (get1 (get1 (get1 (get0 _ _)))))))))) (by kernel_rfl) (by kernel_rfl) (by kernel_rfl) (fun _ _ _ h => h) (Or.inl ⟨by rfl, ?_⟩) (by assumption) ?_
      rotate_left
      · (intro w hSw; (try dsimp only at hSw); go_simp <;> with_reducible rfl)
      simp only [Act.put, List.setIfInBounds_toArray, List.set_cons_zero, List.set_cons_succ]
      refine wpAnyH_take (i := 10) (v := ?_) (get1 (get1 (get1 (get1 (get1 (get1 (get1 (get1 (get1 (get1 (get0 _ _))))))))))) (by kernel_rfl) (by kernel_rfl) (by kernel_rfl) (fun _ _ _ h => h) (Or.inl ⟨by rfl, ?_⟩) (by assumption) ?_
      rotate_left
      · (intro w hSw; (try dsimp only at hSw); go_simp <;> with_reducible rfl)
      simp only [Act.put, List.setIfInBounds_toArray, List.set_cons_zero, List.set_cons_succ]
      refine wpAnyH_ready (rs := [11]) (by kernel_rfl) (by simp) ?_
      refine AllReadyH.cons (get1 (get1 (get1 (get1 (get1 (get1 (get1 (get1 (get1 (get1 (get1 (get0 _ _)))))))))))) (fun K hK => ?_) AllReadyH.nil
      go_simp
      have nbw : b ≠ wr.heap.size := by omega
      refine hK.out _ _ ⟨by rw [World.cell?_drew, World.cell?_alloc_past _ _ _ (by show b < wr.heap.size; omega)]; exact p0, by rw [World.cell?_drew, World.cell?_alloc_past _ _ _ (by show b < wr.heap.size; omega)]; exact p2, by simp; omega⟩ (fun hHeld => ?_)
      clear hK K
      try simp only [Act.put, List.setIfInBounds_toArray, List.set_cons_zero, List.set_cons_succ]
      refine wpAnyH_ready (rs := [12]) (by kernel_rfl) (by simp) ?_
      refine AllReadyH.cons (get1 (get1 (get1 (get1 (get1 (get1 (get1 (get1 (get1 (get1 (get1 (get1 (get0 _ _))))))))))))) (fun K hK => ?_) AllReadyH.nil
      go_simp
      refine hK.out _ _ ⟨by rw [World.cell?_drew, World.cell?_alloc_past _ _ _ (by show b < wr.heap.size; omega)]; exact p0, by rw [World.cell?_drew, World.cell?_alloc_past _ _ _ (by show b < wr.heap.size; omega)]; exact p2, by simp; omega⟩ (fun hHeld => ?_)
      clear hK K
      try simp only [Act.put, List.setIfInBounds_toArray, List.set_cons_zero, List.set_cons_succ]
      refine wpAnyH_done (by kernel_rfl) ?_ _
      clear hHeld
      obtain ⟨Y1, hY1⟩ : ∃ Y1, (wr.alloc (.cells #[.int .i64 rb, .slice none 0 0, .bool rw] 26)).drew = Y1 := ⟨_, rfl⟩
      have sY1 : Y1.heap.size = wr.heap.size + 1 := by subst hY1; simp
      have g0 : Y1.cell? ⟨wr.heap.size, 0, none⟩ = some (.int .i64 rb) := by subst hY1; rw [World.cell?_drew]; exact cell_last _ _ _ _ _ rfl rfl
      have gY1 : Y1.cell? ⟨wr.heap.size, 1, none⟩ = some (.slice none 0 0) := by subst hY1; rw [World.cell?_drew]; exact cell_last _ _ _ _ _ rfl rfl
      have g2 : Y1.cell? ⟨wr.heap.size, 2, none⟩ = some (.bool rw) := by subst hY1; rw [World.cell?_drew]; exact cell_last _ _ _ _ _ rfl rfl
      have zY1 : Y1.frozen? ⟨wr.heap.size, 1, none⟩ = false := by subst hY1; rw [World.frozen?_drew]; exact World.frozen?_alloc_at _ _ _ _ rfl
      have ch1 : Below wr.heap.size wr Y1 := by subst hY1; exact ((Below.refl _ _).alloc (Nat.le_refl _) _).drew
      have hbwY1 : Below w.heap.size w Y1 := hbw.trans (ch1.mono hww)
      have q1 : Y1.drew.cell? ⟨b, off + i * 3 + 1, none⟩ = some (.slice s1 n1 e1) := (hbwY1.drew.cell (p := ⟨b, off + i * 3 + 1, none⟩) hbl).trans K1.out
      go_wp2_with fail
      try rw [hY1]
      refine wp_region_held_drew (S := (fun w' : World => w'.cell? ⟨b, off + i * 3 + 1, none⟩ = some (.slice s1 n1 e1))) (by kernel_rfl) q1 (fun hHeld => ?_)
      refine wpAnyH_take (i := 0) (v := ?_) (get0 _ _) (by kernel_rfl) (by kernel_rfl) (by kernel_rfl) (fun _ _ _ h => h) (Or.inl ⟨by rfl, ?_⟩) (by assumption) ?_
      rotate_left
      · (intro w hSw; (try dsimp only at hSw); go_simp <;> with_reducible rfl)
      simp only [Act.put, List.setIfInBounds_toArray, List.set_cons_zero, List.set_cons_succ]
      refine wpAnyH_take (i := 2) (v := ?_) (get1 (get1 (get0 _ _))) (by kernel_rfl) (by kernel_rfl) (by kernel_rfl) (fun _ _ _ h => h) (Or.inl ⟨by rfl, ?_⟩) (by assumption) ?_
      rotate_left
      · (intro w hSw; (try dsimp only at hSw); go_simp <;> with_reducible rfl)
      simp only [Act.put, List.setIfInBounds_toArray, List.set_cons_zero, List.set_cons_succ]
      refine wpAnyH_take (i := 3) (v := ?_) (get1 (get1 (get1 (get0 _ _)))) (by kernel_rfl) (by kernel_rfl) (by kernel_rfl) (fun _ _ _ h => h) (Or.inl ⟨by rfl, ?_⟩) (by assumption) ?_
      rotate_left
      · (intro w hSw; (try dsimp only at hSw); go_simp <;> with_reducible rfl)
      simp only [Act.put, List.setIfInBounds_toArray, List.set_cons_zero, List.set_cons_succ]
      refine wpAnyH_take (i := 4) (v := ?_) (get1 (get1 (get1 (get1 (get0 _ _))))) (by kernel_rfl) (by kernel_rfl) (by kernel_rfl) (fun _ _ _ h => h) (Or.inl ⟨by rfl, ?_⟩) (by assumption) ?_
      rotate_left
      · (intro w hSw; (try dsimp only at hSw); go_simp <;> with_reducible rfl)
      simp only [Act.put, List.setIfInBounds_toArray, List.set_cons_zero, List.set_cons_succ]
      refine wpAnyH_take (i := 5) (v := ?_) (get1 (get1 (get1 (get1 (get1 (get0 _ _)))))) (by kernel_rfl) (by kernel_rfl) (by kernel_rfl) (fun _ _ _ h => h) (Or.inl ⟨by rfl, ?_⟩) (by assumption) ?_
      rotate_left
      · (intro w hSw; (try dsimp only at hSw); go_simp <;> with_reducible rfl)
      simp only [Act.put, List.setIfInBounds_toArray, List.set_cons_zero, List.set_cons_succ]
      refine wpAnyH_take (i := 6) (v := ?_) (get1 (get1 (get1 (get1 (get1 (get1 (get0 _ _))))))) (by kernel_rfl) (by kernel_rfl) (by kernel_rfl) (fun _ _ _ h => h) (Or.inl ⟨by rfl, ?_⟩) (by assumption) ?_
      rotate_left
      · (intro w hSw; (try dsimp only at hSw); go_simp <;> with_reducible rfl)
      simp only [Act.put, List.setIfInBounds_toArray, List.set_cons_zero, List.set_cons_succ]
      refine wpAnyH_ready (rs := [1]) (by kernel_rfl) (by simp) ?_
      refine AllReadyH.cons (get1 (get0 _ _)) (fun K hK => ?_) AllReadyH.nil
      go_simp
      refine hK.out _ _ hHeld (fun hHeld => ?_)
      clear hK K
      try simp only [Act.put, List.setIfInBounds_toArray, List.set_cons_zero, List.set_cons_succ]
      refine wpAnyH_ready (rs := [7]) (by kernel_rfl) (by simp) ?_
      refine AllReadyH.cons (get1 (get1 (get1 (get1 (get1 (get1 (get1 (get0 _ _)))))))) (fun K hK => ?_) AllReadyH.nil
      refine step_append_view (by rfl) _ _ (by rfl) (zs := r.words) (by rfl) (by rfl) (HV1.out hbwY1.drew) (by omega) ?_
      intro s1' e1' Y2 hoY2 hbY2
      simp only [World.size_drew] at hoY2 hbY2
      have HY2 : Hid (Y2.ownsRow Y1.heap.size 2 1 (.slice s1' n1 e1') n1 (intsR r.words)) := hoY2
      have hsY2 := hbY2.size
      simp only [World.size_drew] at hsY2
      have gY2 : Y2.cell? ⟨wr.heap.size, 1, none⟩ = some (.slice none 0 0) := (hbY2.cell (p := ⟨wr.heap.size, 1, none⟩) (by simp; omega)).trans (by simpa using gY1)
      have zY2 : Y2.frozen? ⟨wr.heap.size, 1, none⟩ = false := (hbY2.frozen (p := ⟨wr.heap.size, 1, none⟩) (by simp; omega)).trans (by simpa using zY1)
      have tY2 : Y2.cell? ⟨b, off + i * 3 + 1, none⟩ = some (.slice s1 n1 e1) := (hbY2.cell (p := ⟨b, off + i * 3 + 1, none⟩) (by simp; omega)).trans q1
      have nb : wr.heap.size ≠ b := by omega
      refine hK.out _ _ tY2 (fun hHeld => ?_)
      clear hK K
      try simp only [Act.put, List.setIfInBounds_toArray, List.set_cons_zero, List.set_cons_succ]
      refine wpAnyH_take (i := 8) (v := ?_) (get1 (get1 (get1 (get1 (get1 (get1 (get1 (get1 (get0 _ _))))))))) (by kernel_rfl) (by kernel_rfl) (by kernel_rfl) (fun _ _ _ h => h) (Or.inl ⟨by rfl, ?_⟩) (by assumption) ?_
      rotate_left
      · (intro w hSw; (try dsimp only at hSw); go_simp <;> with_reducible rfl)
      simp only [Act.put, List.setIfInBounds_toArray, List.set_cons_zero, List.set_cons_succ]
      refine wpAnyH_ready (rs := [9]) (by kernel_rfl) (by simp) ?_
      refine AllReadyH.cons (get1 (get1 (get1 (get1 (get1 (get1 (get1 (get1 (get1 (get0 _ _)))))))))) (fun K hK => ?_) AllReadyH.nil
      go_simp
      refine hK.out _ _ ((World.cell?_setCell_far Y2 ⟨wr.heap.size, 1, none⟩ ⟨b, off + i * 3 + 1, none⟩ _ nb).trans tY2) (fun hHeld => ?_)
      clear hK K
      try simp only [Act.put, List.setIfInBounds_toArray, List.set_cons_zero, List.set_cons_succ]
      refine wpAnyH_done (by kernel_rfl) ?_ _
      clear hHeld
      obtain ⟨Y3, hY3⟩ : ∃ Y3, Y2.setCell ⟨wr.heap.size, 1, none⟩ (.slice s1' n1 e1') = Y3 := ⟨_, rfl⟩
      have ch3 : Below wr.heap.size wr Y3 := by
        subst hY3
        exact (ch1.drew.trans (hbY2.mono (by omega))).setCell (by show wr.heap.size ≤ wr.heap.size; omega) _
      have sY3 : Y3.heap.size = Y2.heap.size := by subst hY3; simp
      have a0 : Y3.cell? ⟨wr.heap.size, 0, none⟩ = some (.int .i64 rb) := by
        subst hY3
        refine (World.cell?_setCell_other _ _ _ _ (by simp)).trans ?_
        exact (hbY2.cell (p := ⟨wr.heap.size, 0, none⟩) (by show wr.heap.size < _; omega)).trans (by simpa using g0)
      have a1 : Y3.cell? ⟨wr.heap.size, 1, none⟩ = some (.slice s1' n1 e1') := by subst hY3; exact World.cell?_setCell_same' _ _ _ (by rw [gY2]; rfl)
      have a2 : Y3.cell? ⟨wr.heap.size, 2, none⟩ = some (.bool rw) := by
        subst hY3
        refine (World.cell?_setCell_other _ _ _ _ (by simp)).trans ?_
        exact (hbY2.cell (p := ⟨wr.heap.size, 2, none⟩) (by show wr.heap.size < _; omega)).trans (by simpa using g2)
      have O1 : Hid (Y3.ownsRow (wr.heap.size + 1) 2 1 (.slice s1' n1 e1') n1 (intsR r.words)) := by
        show World.ownsRow _ _ _ _ _ _ _
        subst hY3
        have o : Y2.ownsRow Y1.heap.size 2 1 (.slice s1' n1 e1') n1 (intsR r.words) := HY2.out
        have o' : (Y2.setCell ⟨wr.heap.size, 1, none⟩ (.slice s1' n1 e1')).ownsRow Y1.heap.size 2 1 (.slice s1' n1 e1') n1 (intsR r.words) := o.kept (gb_set Y2 ⟨wr.heap.size, 1, none⟩ _) (.inr fun e => by
          have : Y1.heap.size ≤ wr.heap.size := (o.lt _ e).1
          omega)
        exact own_base o' (by omega)
      have htl : (rs.take i).length = i := by rw [List.length_take]; omega
      have HCH : Hid (Below wr.heap.size wr ((Y3.alloc (.cells #[.int .i64 rb, .slice s1' n1 e1', .bool rw] 26)).drew)) := (ch3.alloc (by omega) _).drew
      have HOE : Hid (RefV w.heap.size ((Y3.alloc (.cells #[.int .i64 rb, .slice s1' n1 e1', .bool rw] 26)).drew) w1.heap.size (rs.take i) [] [] lv (.slice none 0 0) (.slice none 0 0) us [] [] t) := HO.out.below HCH.out
      have HBE : Hid (Below w.heap.size w ((Y3.alloc (.cells #[.int .i64 rb, .slice s1' n1 e1', .bool rw] 26)).drew)) := hbw.trans (HCH.out.mono hww)
      have lY3 : wr.heap.size + 1 ≤ Y3.heap.size := by omega
      have OE : Hid (((Y3.alloc (.cells #[.int .i64 rb, .slice s1' n1 e1', .bool rw] 26)).drew).ownsRow (wr.heap.size + 1) 2 1 (.slice s1' n1 e1') n1 (intsR r.words)) := row_cong (O1.out.alloc _) (fun g hg => rfl)
      have HOU : Hid (((Y3.alloc (.cells #[.int .i64 rb, .slice s1' n1 e1', .bool rw] 26)).drew).ownsRow w.heap.size 2 1 (.slice s1' n1 e1') r.words.length (intsR r.words)) := by show World.ownsRow _ _ _ _ _ _ _; rw [hc1]; exact own_base OE.out (by omega)
      have HTU : Hid (∀ x, (Value.slice s1' n1 e1').ownBlock = some x → t x = 0) := fun x hx => by
        have := (OE.out.lt x hx).1
        cases Nat.eq_zero_or_pos (t x) with
        | inl h0 => exact h0
        | inr h0 => have := (HO.out.reg.lt x (by omega)).2; omega
      have HLV : Hid (∀ x, lv.ownBlock = some x → x < wr.heap.size) := fun x hx => (HO.out.reg.row.lt x hx).2
      have HLB : Hid (lv.ownBlock ≠ some w1.heap.size) := fun e => by have := HO.out.reg.tl _ e; rw [HO.out.tb] at this; cases this
      have bwr : w1.heap.size < wr.heap.size := HO.out.lt
      have HE : Hid (((Y3.alloc (.cells #[.int .i64 rb, .slice s1' n1 e1', .bool rw] 26)).drew).cell? ⟨wr.heap.size, 0, none⟩ = some (.int .i64 rb) ∧ ((Y3.alloc (.cells #[.int .i64 rb, .slice s1' n1 e1', .bool rw] 26)).drew).cell? ⟨wr.heap.size, 1, none⟩ = some (.slice s1' n1 e1') ∧ ((Y3.alloc (.cells #[.int .i64 rb, .slice s1' n1 e1', .bool rw] 26)).drew).cell? ⟨wr.heap.size, 2, none⟩ = some (.bool rw)) := by
        refine ⟨?_, ?_, ?_⟩
        · rw [World.cell?_drew, World.cell?_alloc_past _ _ _ (by omega)]; exact a0
        · rw [World.cell?_drew, World.cell?_alloc_past _ _ _ (by omega)]; exact a1
        · rw [World.cell?_drew, World.cell?_alloc_past _ _ _ (by omega)]; exact a2
      have HNC : Hid (∀ j u, ([.int .i64 rb, .slice s1' n1 e1', .bool rw] : List Value)[j]? = some u → ((Y3.alloc (.cells #[.int .i64 rb, .slice s1' n1 e1', .bool rw] 26)).drew).cell? ((⟨Y3.heap.size, 0, none⟩ : Addr).add j) = some u) := fun j u hu => by rw [World.cell?_drew]; exact reg_cells Y3 _ _ _ rfl j u hu
      have m3 : Y3.cell? ⟨w1.heap.size, 0, none⟩ = some lv := (ch3.cell (p := ⟨w1.heap.size, 0, none⟩) bwr).trans HO.out.c0
      have m3e : ((Y3.alloc (.cells #[.int .i64 rb, .slice s1' n1 e1', .bool rw] 26)).drew).cell? ⟨w1.heap.size, 0, none⟩ = some lv := HOE.out.c0
      clear gY2 zY2 tY2 g0 gY1 g2 zY1 q1 hbY2 HY2 hoY2 ch1 ch3 hbwY1 sY3 sY1 hsY2 p0 p1 p2 O1 OE hbw
      go_wp2_with fail
      try rw [hY3]
      refine wp_region_held_drew (S := (fun w' : World => w'.cell? ⟨wr.heap.size, 0, none⟩ = some (.int .i64 rb) ∧ w'.cell? ⟨wr.heap.size, 1, none⟩ = some (.slice s1' n1 e1') ∧ w'.cell? ⟨wr.heap.size, 2, none⟩ = some (.bool rw))) (by kernel_rfl) ⟨a0, a1, a2⟩ (fun hHeld => ?_)
      refine wpAnyH_take (i := 0) (v := ?_) (get0 _ _) (by kernel_rfl) (by kernel_rfl) (by kernel_rfl) (fun _ _ _ h => h) (Or.inl ⟨by rfl, ?_⟩) (by assumption) ?_
      rotate_left
      · (intro w hSw; (try dsimp only at hSw); go_simp <;> with_reducible rfl)
      simp only [Act.put, List.setIfInBounds_toArray, List.set_cons_zero, List.set_cons_succ]
      refine wpAnyH_take (i := 1) (v := ?_) (get1 (get0 _ _)) (by kernel_rfl) (by kernel_rfl) (by kernel_rfl) (fun _ _ _ h => h) (Or.inl ⟨by rfl, ?_⟩) (by assumption) ?_
      rotate_left
      · (intro w hSw; (try dsimp only at hSw); go_simp <;> with_reducible rfl)
      simp only [Act.put, List.setIfInBounds_toArray, List.set_cons_zero, List.set_cons_succ]
      refine wpAnyH_take (i := 2) (v := ?_) (get1 (get1 (get0 _ _))) (by kernel_rfl) (by kernel_rfl) (by kernel_rfl) (fun _ _ _ h => h) (Or.inl ⟨by rfl, ?_⟩) (by assumption) ?_
      rotate_left
      · (intro w hSw; (try dsimp only at hSw); go_simp <;> with_reducible rfl)
      simp only [Act.put, List.setIfInBounds_toArray, List.set_cons_zero, List.set_cons_succ]
      refine wpAnyH_take (i := 3) (v := ?_) (get1 (get1 (get1 (get0 _ _)))) (by kernel_rfl) (by kernel_rfl) (by kernel_rfl) (fun _ _ _ h => h) (Or.inl ⟨by rfl, ?_⟩) (by assumption) ?_
      rotate_left
      · (intro w hSw; (try dsimp only at hSw); go_simp <;> with_reducible rfl)
      simp only [Act.put, List.setIfInBounds_toArray, List.set_cons_zero, List.set_cons_succ]
      refine wpAnyH_take (i := 5) (v := ?_) (get1 (get1 (get1 (get1 (get1 (get0 _ _)))))) (by kernel_rfl) (by kernel_rfl) (by kernel_rfl) (fun _ _ _ h => h) (Or.inl ⟨by rfl, ?_⟩) (by assumption) ?_
      rotate_left
      · (intro w hSw; (try dsimp only at hSw); go_simp <;> with_reducible rfl)
      simp only [Act.put, List.setIfInBounds_toArray, List.set_cons_zero, List.set_cons_succ]
      refine wpAnyH_ready (rs := [4, 6]) (by kernel_rfl) (by simp) ?_
      refine AllReadyH.cons (get1 (get1 (get1 (get1 (get0 _ _))))) (fun K hK => ?_) ?_
      · go_simp
        refine hK.out _ _ hHeld (fun hHeld => ?_)
        clear hK K
        try simp only [Act.put, List.setIfInBounds_toArray, List.set_cons_zero, List.set_cons_succ]
        refine wpAnyH_ready (rs := [6]) (by kernel_rfl) (by simp) ?_
        refine AllReadyH.cons (get1 (get1 (get1 (get1 (get1 (get1 (get0 _ _))))))) (fun K hK => ?_) ?_
        · go_simp
          refine hK.out _ _ HE.out (fun hHeld => ?_)
          clear hK K
          try simp only [Act.put, List.setIfInBounds_toArray, List.set_cons_zero, List.set_cons_succ]
          refine wpAnyH_ready (rs := [7]) (by kernel_rfl) (by simp) ?_
          refine AllReadyH.cons (get1 (get1 (get1 (get1 (get1 (get1 (get1 (get0 _ _)))))))) (fun K hK => ?_) AllReadyH.nil
          refine step_append_lies _ (by rfl) _ _ 22 (by rfl) w.heap.size 26 i0 _ 3 40 Try.underlying22 hi0 hz0 hz1 hz2 (by rfl) (by decide) lv (rs.take i).length _ (by rfl) HOE.out.reg.row ⟨Y3.heap.size, 0, none⟩ 1 1 [.int .i64 rb, .slice s1' n1 e1', .bool rw] (by rfl) (by rfl) HNC.out (by intro u hu; simp at hu; rcases hu with rfl | rfl | rfl <;> rfl) (by decide) (by unfold maxLen; omega) (by omega) (by simp; omega) (Y3.heap.size + 1) (by simp) ?_
          intro g cap2 Y6 ho6 hg6 hat6 hlt6
          obtain ⟨t', HO6⟩ := HOE.out.pushed (u := .slice s1' n1 e1') (r := r) (g := g) (cap := cap2) (w5 := Y6) HOU.out HTU.out HFR.out (by rw [htl]; simpa [cs3, HRB.out, HRW.out, htl] using ho6) hg6 (by simpa using hat6)
          rw [htl, ← HTK.out] at HO6
          have HN6 : Hid _ := HO6
          have hb6 : Below w.heap.size w (Y6.setCell ⟨w1.heap.size, 0, none⟩ (.slice (some ⟨g, 0, none⟩) (i + 1) cap2)) := (below_ownM HBE.out HOE.out.reg.row hg6 (by simp; omega)).setCell (by show w.heap.size ≤ w1.heap.size; omega) _
          have nlv : some wr.heap.size ≠ lv.ownBlock := fun e => by have := HLV.out _ e.symm; omega
          have nlb : some w1.heap.size ≠ lv.ownBlock := fun e => HLB.out e.symm
          have f0 : Y6.cell? ⟨wr.heap.size, 0, none⟩ = some (.int .i64 rb) := hg6.cell HE.out.1 nlv
          have f1 : Y6.cell? ⟨wr.heap.size, 1, none⟩ = some (.slice s1' n1 e1') := hg6.cell HE.out.2.1 nlv
          have f2 : Y6.cell? ⟨wr.heap.size, 2, none⟩ = some (.bool rw) := hg6.cell HE.out.2.2 nlv
          have m6 : Y6.cell? ⟨w1.heap.size, 0, none⟩ = some lv := hg6.cell HOE.out.c0 nlb
          have z6 : Y6.frozen? ⟨w1.heap.size, 0, none⟩ = false := (hg6.frozen_far ⟨w1.heap.size, 0, none⟩ HOE.out.lt nlb).trans (HOE.out.fz 0)
          have nx : w1.heap.size ≠ wr.heap.size := by omega
          refine hK.out _ _ ⟨f0, f1, f2⟩ (fun hHeld => ?_)
          clear hK K ho6 hg6 hat6 hlt6 HO6
          try simp only [Act.put, List.setIfInBounds_toArray, List.set_cons_zero, List.set_cons_succ]
          refine wpAnyH_take (i := 8) (v := ?_) (get1 (get1 (get1 (get1 (get1 (get1 (get1 (get1 (get0 _ _))))))))) (by kernel_rfl) (by kernel_rfl) (by kernel_rfl) (fun _ _ _ h => h) (Or.inl ⟨by rfl, ?_⟩) (by assumption) ?_
          rotate_left
          · (intro w hSw; (try dsimp only at hSw); go_simp <;> with_reducible rfl)
          simp only [Act.put, List.setIfInBounds_toArray, List.set_cons_zero, List.set_cons_succ]
          refine wpAnyH_take (i := 9) (v := ?_) (get1 (get1 (get1 (get1 (get1 (get1 (get1 (get1 (get1 (get0 _ _)))))))))) (by kernel_rfl) (by kernel_rfl) (by kernel_rfl) (fun _ _ _ h => h) (Or.inl ⟨by rfl, ?_⟩) (by assumption) ?_
          rotate_left
          · (intro w hSw; (try dsimp only at hSw); go_simp <;> with_reducible rfl)
          simp only [Act.put, List.setIfInBounds_toArray, List.set_cons_zero, List.set_cons_succ]
          refine wpAnyH_ready (rs := [10]) (by kernel_rfl) (by simp) ?_
          refine AllReadyH.cons (get1 (get1 (get1 (get1 (get1 (get1 (get1 (get1 (get1 (get1 (get0 _ _))))))))))) (fun K hK => ?_) AllReadyH.nil
          try rw [htl]
          go_simp
          refine hK.out _ _ ⟨(World.cell?_setCell_far Y6 ⟨w1.heap.size, 0, none⟩ ⟨wr.heap.size, 0, none⟩ _ nx).trans f0, (World.cell?_setCell_far Y6 ⟨w1.heap.size, 0, none⟩ ⟨wr.heap.size, 1, none⟩ _ nx).trans f1, (World.cell?_setCell_far Y6 ⟨w1.heap.size, 0, none⟩ ⟨wr.heap.size, 2, none⟩ _ nx).trans f2⟩ (fun hHeld => ?_)
          clear hK K
          try simp only [Act.put, List.setIfInBounds_toArray, List.set_cons_zero, List.set_cons_succ]
          refine wpAnyH_done (by kernel_rfl) ?_ _
          clear hHeld f0 f1 f2 m6 z6
          go_wp2_with fail
          go_roundg (len - (i + 1))
          case measure => omega
          case rel => exact ⟨i + 1, _, _, _, by first | rfl | (congr 1; omega), by omega, Nat.le_refl _, HN6.out, hb6⟩
        exact AllReadyH.nil
      refine AllReadyH.cons (get1 (get1 (get1 (get1 (get1 (get1 (get0 _ _))))))) (fun K hK => ?_) ?_
      · go_simp
        refine hK.out _ _ HE.out (fun hHeld => ?_)
        clear hK K
        try simp only [Act.put, List.setIfInBounds_toArray, List.set_cons_zero, List.set_cons_succ]
        refine wpAnyH_ready (rs := [4]) (by kernel_rfl) (by simp) ?_
        refine AllReadyH.cons (get1 (get1 (get1 (get1 (get0 _ _))))) (fun K hK => ?_) ?_
        · go_simp
          refine hK.out _ _ hHeld (fun hHeld => ?_)
          clear hK K
          try simp only [Act.put, List.setIfInBounds_toArray, List.set_cons_zero, List.set_cons_succ]
          refine wpAnyH_ready (rs := [7]) (by kernel_rfl) (by simp) ?_
          refine AllReadyH.cons (get1 (get1 (get1 (get1 (get1 (get1 (get1 (get0 _ _)))))))) (fun K hK => ?_) AllReadyH.nil
          refine step_append_lies _ (by rfl) _ _ 22 (by rfl) w.heap.size 26 i0 _ 3 40 Try.underlying22 hi0 hz0 hz1 hz2 (by rfl) (by decide) lv (rs.take i).length _ (by rfl) HOE.out.reg.row ⟨Y3.heap.size, 0, none⟩ 1 1 [.int .i64 rb, .slice s1' n1 e1', .bool rw] (by rfl) (by rfl) HNC.out (by intro u hu; simp at hu; rcases hu with rfl | rfl | rfl <;> rfl) (by decide) (by unfold maxLen; omega) (by omega) (by simp; omega) (Y3.heap.size + 1) (by simp) ?_
          intro g cap2 Y6 ho6 hg6 hat6 hlt6
          obtain ⟨t', HO6⟩ := HOE.out.pushed (u := .slice s1' n1 e1') (r := r) (g := g) (cap := cap2) (w5 := Y6) HOU.out HTU.out HFR.out (by rw [htl]; simpa [cs3, HRB.out, HRW.out, htl] using ho6) hg6 (by simpa using hat6)
          rw [htl, ← HTK.out] at HO6
          have HN6 : Hid _ := HO6
          have hb6 : Below w.heap.size w (Y6.setCell ⟨w1.heap.size, 0, none⟩ (.slice (some ⟨g, 0, none⟩) (i + 1) cap2)) := (below_ownM HBE.out HOE.out.reg.row hg6 (by simp; omega)).setCell (by show w.heap.size ≤ w1.heap.size; omega) _
          have nlv : some wr.heap.size ≠ lv.ownBlock := fun e => by have := HLV.out _ e.symm; omega
          have nlb : some w1.heap.size ≠ lv.ownBlock := fun e => HLB.out e.symm
          have f0 : Y6.cell? ⟨wr.heap.size, 0, none⟩ = some (.int .i64 rb) := hg6.cell HE.out.1 nlv
          have f1 : Y6.cell? ⟨wr.heap.size, 1, none⟩ = some (.slice s1' n1 e1') := hg6.cell HE.out.2.1 nlv
          have f2 : Y6.cell? ⟨wr.heap.size, 2, none⟩ = some (.bool rw) := hg6.cell HE.out.2.2 nlv
          have m6 : Y6.cell? ⟨w1.heap.size, 0, none⟩ = some lv := hg6.cell HOE.out.c0 nlb
          have z6 : Y6.frozen? ⟨w1.heap.size, 0, none⟩ = false := (hg6.frozen_far ⟨w1.heap.size, 0, none⟩ HOE.out.lt nlb).trans (HOE.out.fz 0)
          have nx : w1.heap.size ≠ wr.heap.size := by omega
          refine hK.out _ _ ⟨f0, f1, f2⟩ (fun hHeld => ?_)
          clear hK K ho6 hg6 hat6 hlt6 HO6
          try simp only [Act.put, List.setIfInBounds_toArray, List.set_cons_zero, List.set_cons_succ]
          refine wpAnyH_take (i := 8) (v := ?_) (get1 (get1 (get1 (get1 (get1 (get1 (get1 (get1 (get0 _ _))))))))) (by kernel_rfl) (by kernel_rfl) (by kernel_rfl) (fun _ _ _ h => h) (Or.inl ⟨by rfl, ?_⟩) (by assumption) ?_
          rotate_left
          · (intro w hSw; (try dsimp only at hSw); go_simp <;> with_reducible rfl)
          simp only [Act.put, List.setIfInBounds_toArray, List.set_cons_zero, List.set_cons_succ]
          refine wpAnyH_take (i := 9) (v := ?_) (get1 (get1 (get1 (get1 (get1 (get1 (get1 (get1 (get1 (get0 _ _)))))))))) (by kernel_rfl) (by kernel_rfl) (by kernel_rfl) (fun _ _ _ h => h) (Or.inl ⟨by rfl, ?_⟩) (by assumption) ?_
          rotate_left
          · (intro w hSw; (try dsimp only at hSw); go_simp <;> with_reducible rfl)
          simp only [Act.put, List.setIfInBounds_toArray, List.set_cons_zero, List.set_cons_succ]
          refine wpAnyH_ready (rs := [10]) (by kernel_rfl) (by simp) ?_
          refine AllReadyH.cons (get1 (get1 (get1 (get1 (get1 (get1 (get1 (get1 (get1 (get1 (get0 _ _))))))))))) (fun K hK => ?_) AllReadyH.nil
          try rw [htl]
          go_simp
          refine hK.out _ _ ⟨(World.cell?_setCell_far Y6 ⟨w1.heap.size, 0, none⟩ ⟨wr.heap.size, 0, none⟩ _ nx).trans f0, (World.cell?_setCell_far Y6 ⟨w1.heap.size, 0, none⟩ ⟨wr.heap.size, 1, none⟩ _ nx).trans f1, (World.cell?_setCell_far Y6 ⟨w1.heap.size, 0, none⟩ ⟨wr.heap.size, 2, none⟩ _ nx).trans f2⟩ (fun hHeld => ?_)
          clear hK K
          try simp only [Act.put, List.setIfInBounds_toArray, List.set_cons_zero, List.set_cons_succ]
          refine wpAnyH_done (by kernel_rfl) ?_ _
          clear hHeld f0 f1 f2 m6 z6
          go_wp2_with fail
          go_roundg (len - (i + 1))
          case measure => omega
          case rel => exact ⟨i + 1, _, _, _, by first | rfl | (congr 1; omega), by omega, Nat.le_refl _, HN6.out, hb6⟩
        exact AllReadyH.nil
      exact AllReadyH.nil
    · obtain rfl : i = len := by omega
      have hO := HO.out
      rw [List.take_of_length_le (by omega)] at hO
      have HOO : Hid _ := hO
      clear HO hO
      go_wp2_with fail
      go_ret2
      exact ⟨_, t, rfl, ⟨_, _, _, _, _, _, HOO.out⟩, hbw⟩

end Go.Proofs.Ytfkpbmopneleiaa

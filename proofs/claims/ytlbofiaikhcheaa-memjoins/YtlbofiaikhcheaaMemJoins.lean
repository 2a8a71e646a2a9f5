/- MemJoins. (Written by gen_joins.py.) -/
import Derived.Test.YtlbofiaikhcheaaMemOwnF
import Derived.Test.YtlbofiaikhcheaaMemRefJoin
import Derived.Test.YtlbofiaikhcheaaMemLive
import Derived.Test.YtlbofiaikhcheaaMemSame
import Derived.Deep.LoopGhost
import Derived.Deep.RegionHeld3
namespace Go.Proofs.Ytlbofiaikhcheaa
open Go.RowKit Go.Maps
set_option linter.unusedVariables false

theorem FootsV.below {w w1 : World} {a : Option Addr} {len : Nat} {fs : List (List Int × List Int)} (h : FootsV w a len fs) (hb : Below w.heap.size w w1) : FootsV w1 a len fs := by
  refine ⟨h.count, ?_⟩
  rcases h.cells with h0 | ⟨b, off, ha, hc⟩
  · exact .inl h0
  · refine .inr ⟨b, off, ha, fun i hi => ?_⟩
    obtain ⟨a1, l1, c1, a2, l2, c2, k0, k1, V1, V2⟩ := hc i hi
    exact ⟨a1, l1, c1, a2, l2, c2, (hb.cell (p := ⟨b, off + i * 2, none⟩) (World.block_lt_of_cell? w ⟨b, off + i * 2, none⟩ k0)).trans k0, (hb.cell (p := ⟨b, off + i * 2 + 1, none⟩) (World.block_lt_of_cell? w ⟨b, off + i * 2 + 1, none⟩ k1)).trans k1, V1.below hb, V2.below hb⟩
theorem rjoin_known {w : World} {a : Option Addr} {len cap : Nat} {fs : List (List Int × List Int)} {L1 L2 : List Int} (hR1 : M.Ris L1 (· ∈ rds fs)) (hR2 : M.Ris L2 (· ∈ wrs fs)) (h : FootsV w a len fs) (h1 : (rds fs).length ≤ 1000000) (h2 : (wrs fs).length ≤ 1000000) (hl : len ≤ 1000000) :
    Calls Try.prog 24 #[.slice a len cap] w fun e w' => ∃ a1 c1 a2 c2, e = .returned (.agg #[.slice a1 L1.length c1, .slice a2 L2.length c2]) ∧ FootV w' (.agg #[.slice a1 L1.length c1, .slice a2 L2.length c2]) L1 L2 ∧ Below w.heap.size w w' := by
  refine (rjoin_any h h1 h2 hl).mono ?_
  rintro e w' ⟨a1, c1, K1, a2, c2, K2, rfl, r1, r2, v1, v2, hb⟩
  obtain rfl : L1 = K1 := M.ris_unique hR1 r1 (fun _ => Iff.rfl)
  obtain rfl : L2 = K2 := M.ris_unique hR2 r2 (fun _ => Iff.rfl)
  exact ⟨a1, c1, a2, c2, rfl, ⟨⟨_, _, _, _, _, _, rfl, v1, v2⟩⟩, hb⟩
theorem samefoot_yes {w : World} {va vb : Value} {r ws : List Int} (ha : FootV w va r ws) (hb : FootV w vb r ws) (h1 : r.length ≤ 140737488355328) (h2 : ws.length ≤ 140737488355328) :
    Calls Try.prog 15 #[va, vb] w fun e w' => e = .returned (.bool true) ∧ Below w.heap.size w w' := by
  refine (samefoot_any ha hb h1 h2 h1 h2).mono ?_
  rintro e w' ⟨rfl, hb⟩
  exact ⟨by simp, hb⟩
theorem cell_thruJ {w w' : World} {p : Addr} {v : Value} (hb : Below w.heap.size w w') (h : w.cell? p = some v) : w'.cell? p = some v := (hb.cell (p := p) (World.block_lt_of_cell? w p h)).trans h
theorem pair_cells (w : World) (v1 v2 : Value) {o : Nat} (ho : o = w.heap.size) : ∀ j u, ([v1, v2] : List Value)[j]? = some u → (w.alloc (.cells #[v1, v2] 40)).cell? ((⟨o, 0, none⟩ : Addr).add j) = some u := by
  subst ho
  intro j u hu
  rw [Addr.add_lit]
  simp
  exact hu
theorem take_snocF (fs : List (List Int × List Int)) (k : Nat) (h : k < fs.length) : fs.take (k + 1) = fs.take k ++ [fs.getD k ([], [])] := by
  rw [List.take_succ_eq_append_getElem h]; simp [List.getD, h]
theorem allfew_len {fs : List (List Int × List Int)} (h : ∀ f ∈ fs, f.1.length ≤ 40 ∧ f.2.length ≤ 40) : (rds fs).length ≤ fs.length * 40 ∧ (wrs fs).length ≤ fs.length * 40 := by
  induction fs with
  | nil => simp [rds, wrs]
  | cons f fs ih =>
    have h1 := h f (by simp)
    have h2 := ih (fun g hg => h g (by simp [hg]))
    simp only [rds, wrs, List.flatMap_cons, List.length_append, List.length_cons] at *
    omega

set_option maxRecDepth 100000 in
set_option maxHeartbeats 8000000 in
theorem joins_all {w : World} {a a1 a2 b1 b2 : Option Addr} {len cap l1 c1 l2 c2 m1 d1 m2 d2 : Nat} {fs : List (List Int × List Int)} {ra wa rb wb : List Int} (h : FootsV w a len fs)
    (hA1 : View w a1 l1 c1 ra) (hA2 : View w a2 l2 c2 wa) (hB1 : View w b1 m1 d1 rb) (hB2 : View w b2 m2 d2 wb) (h8 : len ≤ 8) (ka1 : ra.length ≤ 40) (ka2 : wa.length ≤ 40) (kb1 : rb.length ≤ 40) (kb2 : wb.length ≤ 40) :
    Calls Try.prog 5 #[.slice a len cap, .agg #[.slice a1 l1 c1, .slice a2 l2 c2], .agg #[.slice b1 m1 d1, .slice b2 m2 d2]] w fun e w' => e = .returned (.bool true) ∧ Below w.heap.size w w' := by
  have HV : Hid _ := h
  have hcnt := h.count
  have FA : Hid (∀ {x : World}, Below w.heap.size w x → FootV x (.agg #[.slice a1 l1 c1, .slice a2 l2 c2]) ra wa) := fun hb => ⟨⟨_, _, _, _, _, _, rfl, hA1.below hb, hA2.below hb⟩⟩
  have FB : Hid (∀ {x : World}, Below w.heap.size w x → FootV x (.agg #[.slice b1 m1 d1, .slice b2 m2 d2]) rb wb) := fun hb => ⟨⟨_, _, _, _, _, _, rfl, hB1.below hb, hB2.below hb⟩⟩
  clear hA1 hA2 hB1 hB2 h
  have HFA : Hid ((decide (ra.length ≤ 40) && decide (wa.length ≤ 40)) = true) := by show _ = true; simp [ka1, ka2]
  have HFB : Hid ((decide (rb.length ≤ 40) && decide (wb.length ≤ 40)) = true) := by show _ = true; simp [kb1, kb2]
  have hl8 : decide ((8 : Int) < len) = false := by simp; omega
  obtain ⟨i0, hi0, hz0, hz1, hz2⟩ := info_parts infoF
  obtain ⟨W2, hW2⟩ : ∃ W2, (w.alloc (.cells #[.slice a1 l1 c1, .slice a2 l2 c2] 40)).alloc (.cells #[.slice b1 m1 d1, .slice b2 m2 d2] 40) = W2 := ⟨_, rfl⟩
  have hs2 : W2.heap.size = w.heap.size + 2 := by subst hW2; simp
  have bl2 : Below w.heap.size w W2 := by subst hW2; exact (bl_one w _).alloc (by simp) _
  have cA0 : W2.cell? ⟨w.heap.size, 0, none⟩ = some (.slice a1 l1 c1) := by subst hW2; rw [World.cell?_alloc_past _ _ _ (by simp)]; simp
  have cA1 : W2.cell? ⟨w.heap.size, 1, none⟩ = some (.slice a2 l2 c2) := by subst hW2; rw [World.cell?_alloc_past _ _ _ (by simp)]; simp
  have cB0 : W2.cell? ⟨w.heap.size + 1, 0, none⟩ = some (.slice b1 m1 d1) := by subst hW2; exact cell_last _ _ _ _ _ (by simp) rfl
  have cB1 : W2.cell? ⟨w.heap.size + 1, 1, none⟩ = some (.slice b2 m2 d2) := by subst hW2; exact cell_last _ _ _ _ _ (by simp) rfl
  go_enter Try.func5, Try.ntmps5
  go_wp2_with fail
  generalize hgb : w.heap.size + 1 = gb at *
  refine (few_any (FA.out bl2)).mono ?_
  rintro e x1 ⟨rfl, hx1⟩
  rw [HFA.out]
  have d0 := cell_thruJ hx1 cB0
  have d1' := cell_thruJ hx1 cB1
  have q1 : Below w.heap.size w x1 := bl2.trans (hx1.mono bl2.size)
  go_wp2_with fail
  refine (few_any (FB.out q1)).mono ?_
  rintro e x2 ⟨rfl, hx2⟩
  rw [HFB.out]
  have HX2 : Hid (Below (w.heap.size + 2) W2 x2) := by show Below _ _ _; rw [← hs2]; exact hx1.trans (hx2.mono hx1.size)
  clear d0 d1' hx1 hx2 q1
  go_wp2_with fail
  go_loopg [7, 8] len (fun r ov iv wq => ∃ (i : Nat) (vs : List (Value × Value)), iv = .int .i64 i ∧ i ≤ len ∧ len - i ≤ r ∧ Hid (OwnF (w.heap.size + 2) wq ov (fs.take i) vs) ∧ Hid (∀ f ∈ fs.take i, f.1.length ≤ 40 ∧ f.2.length ≤ 40) ∧ Hid (Below (w.heap.size + 2) W2 wq))
  case atStart => exact ⟨0, [], rfl, Nat.zero_le _, by omega, OwnF.nil _ _, (by intro f hf; simp at hf : ∀ f ∈ fs.take 0, f.1.length ≤ 40 ∧ f.2.length ≤ 40), HX2.out⟩
  case round =>
    obtain ⟨i, vs, rfl, hi, hr, HO, HN, HB⟩ := hrel
    by_cases hlt : i < len
    · rcases HV.out.cells with h0 | ⟨b, off, hA, hc⟩
      · omega
      obtain ⟨s1, n1, e1, s2, n2, e2, k0, k1, V1, V2⟩ := hc i hlt
      have hbw : Below w.heap.size w wr := bl2.trans (HB.out.mono (by omega))
      have hbl : b < w.heap.size := World.block_lt_of_cell? w ⟨b, off + i * 2, none⟩ k0
      have p0 := (hbw.cell (p := ⟨b, off + i * 2, none⟩) hbl).trans k0
      have p1 := (hbw.cell (p := ⟨b, off + i * 2 + 1, none⟩) hbl).trans k1
      obtain ⟨z, hz⟩ : ∃ z, fs.getD i ([], []) = z := ⟨_, rfl⟩
      rw [hz] at V1 V2
      have HZ : Hid _ := hz
      have HV1 : Hid (∀ {x : World}, Below w.heap.size w x → View x s1 n1 e1 z.1) := fun hb => V1.below hb
      have HV2 : Hid (∀ {x : World}, Below w.heap.size w x → View x s2 n2 e2 z.2) := fun hb => V2.below hb
      have hc1 := V1.count
      have hc2 := V2.count
      subst hA
      have hii : (i : Int) < len := by omega
      have hin : 0 ≤ (i : Int) := by omega
      have K0 : Hid _ := k0
      have K1 : Hid _ := k1
      clear hc k0 k1 V1 V2 hz
      go_wp2_with fail
      refine (few_any (FootV.mk ⟨_, _, _, _, _, _, rfl, HV1.out hbw, HV2.out hbw⟩)).mono ?_
      rintro e y ⟨rfl, hy⟩
      have hby : Below w.heap.size w y := hbw.trans (hy.mono hbw.size)
      have HBY : Hid (Below (w.heap.size + 2) W2 y) := HB.out.trans (hy.mono (by have := HB.out.size; omega))
      have HOY : Hid (OwnF (w.heap.size + 2) y u7 (fs.take i) vs) := HO.out.below hy
      by_cases hfew : z.1.length ≤ 40 ∧ z.2.length ≤ 40
      rotate_left
      · have hff : (decide (z.1.length ≤ 40) && decide (z.2.length ≤ 40)) = false := by
          cases hd : (decide (z.1.length ≤ 40) && decide (z.2.length ≤ 40)) with
          | false => rfl
          | true => simp at hd; exact absurd hd hfew
        rw [hff]
        clear hy
        go_wp2_with (go_at_call 8; refine (live_any _).mono ?_; rintro e y2 ⟨rfl, hb2⟩)
        go_ret
        exact ⟨rfl, hby.trans (hb2.mono hby.size)⟩
      have hft : (decide (z.1.length ≤ 40) && decide (z.2.length ≤ 40)) = true := by simp [hfew.1, hfew.2]
      rw [hft]
      clear hft p0 p1 hy
      have hyw := hby.size
      go_wp2_with fail
      obtain ⟨Y1, hY1⟩ : ∃ Y1, y.alloc (.cells #[.slice none 0 0, .slice none 0 0] 40) = Y1 := ⟨_, rfl⟩
      have sY1 : Y1.heap.size = y.heap.size + 1 := by subst hY1; simp
      have gY1 : Y1.cell? ⟨y.heap.size, 0, none⟩ = some (.slice none 0 0) := by subst hY1; exact cell_last _ _ _ _ _ rfl rfl
      have gY1b : Y1.cell? ⟨y.heap.size, 1, none⟩ = some (.slice none 0 0) := by subst hY1; exact cell_last _ _ _ _ _ rfl rfl
      have zY1_0 : Y1.frozen? ⟨y.heap.size, 0, none⟩ = false := by subst hY1; exact World.frozen?_alloc_at _ _ _ _ rfl
      have zY1_1 : Y1.frozen? ⟨y.heap.size, 1, none⟩ = false := by subst hY1; exact World.frozen?_alloc_at _ _ _ _ rfl
      have ch1 : Below y.heap.size y Y1 := by subst hY1; exact (Below.refl _ _).alloc (Nat.le_refl _) _
      have hbwY1 : Below w.heap.size w Y1 := hby.trans (ch1.mono hyw)
      have q0 : Y1.drew.cell? ⟨b, off + i * 2, none⟩ = some (.slice s1 n1 e1) := (hbwY1.drew.cell (p := ⟨b, off + i * 2, none⟩) hbl).trans K0.out
      rw [hY1]
      refine wp_region_held_drew (S := (fun w' : World => w'.cell? ⟨b, off + i * 2, none⟩ = some (.slice s1 n1 e1))) (by kernel_rfl) q0 (fun hHeld => ?_)
      refine wpAnyH_take (i := 0) (v := ?_) (get0 _ _) (by kernel_rfl) (by kernel_rfl) (by kernel_rfl) (fun _ _ _ h => h) (Or.inl ⟨by rfl, ?_⟩) (by assumption) ?_
      rotate_left
      · (intro w hSw; (try dsimp only at hSw); go_simp <;> with_reducible rfl)
      simp only [Act.put, List.setIfInBounds_toArray, List.set_cons_zero, List.set_cons_succ]
      refine wpAnyH_take (i := 2) (v := ?_) (get1 (get1 (get0 _ _))) (by kernel_rfl) (by kernel_rfl) (by kernel_rfl) (fun _ _ _ h => h) (Or.inl ⟨by rfl, ?_⟩) (by assumption) ?_
      rotate_left
      · (intro w hSw; (try dsimp only at hSw); go_simp <;> with_reducible rfl)
      simp only [Act.put, List.setIfInBounds_toArray, List.set_cons_zero, List.set_cons_succ]
      refine wpAnyH_take (i := 3) (v := ?_) (get1 (get1 (get1 (get0 _ _)))) (by kernel_rfl) (by kernel_rfl) (by kernel_rfl) (fun _ _ _ h => h) (Or.inl ⟨by rfl, ?_⟩) (by assumption) ?_
      rotate_left
      · (intro w hSw; (try dsimp only at hSw); go_simp <;> with_reducible rfl)
      simp only [Act.put, List.setIfInBounds_toArray, List.set_cons_zero, List.set_cons_succ]
      refine wpAnyH_take (i := 4) (v := ?_) (get1 (get1 (get1 (get1 (get0 _ _))))) (by kernel_rfl) (by kernel_rfl) (by kernel_rfl) (fun _ _ _ h => h) (Or.inl ⟨by rfl, ?_⟩) (by assumption) ?_
      rotate_left
      · (intro w hSw; (try dsimp only at hSw); go_simp <;> with_reducible rfl)
      simp only [Act.put, List.setIfInBounds_toArray, List.set_cons_zero, List.set_cons_succ]
      refine wpAnyH_take (i := 5) (v := ?_) (get1 (get1 (get1 (get1 (get1 (get0 _ _)))))) (by kernel_rfl) (by kernel_rfl) (by kernel_rfl) (fun _ _ _ h => h) (Or.inl ⟨by rfl, ?_⟩) (by assumption) ?_
      rotate_left
      · (intro w hSw; (try dsimp only at hSw); go_simp <;> with_reducible rfl)
      simp only [Act.put, List.setIfInBounds_toArray, List.set_cons_zero, List.set_cons_succ]
      refine wpAnyH_take (i := 6) (v := ?_) (get1 (get1 (get1 (get1 (get1 (get1 (get0 _ _))))))) (by kernel_rfl) (by kernel_rfl) (by kernel_rfl) (fun _ _ _ h => h) (Or.inl ⟨by rfl, ?_⟩) (by assumption) ?_
      rotate_left
      · (intro w hSw; (try dsimp only at hSw); go_simp <;> with_reducible rfl)
      simp only [Act.put, List.setIfInBounds_toArray, List.set_cons_zero, List.set_cons_succ]
      refine wpAnyH_ready (rs := [1]) (by kernel_rfl) (by simp) ?_
      refine AllReadyH.cons (get1 (get0 _ _)) (fun K hK => ?_) AllReadyH.nil
      go_simp
      refine hK.out _ _ hHeld (fun hHeld => ?_)
      clear hK K
      try simp only [Act.put, List.setIfInBounds_toArray, List.set_cons_zero, List.set_cons_succ]
      refine wpAnyH_ready (rs := [7]) (by kernel_rfl) (by simp) ?_
      refine AllReadyH.cons (get1 (get1 (get1 (get1 (get1 (get1 (get1 (get0 _ _)))))))) (fun K hK => ?_) AllReadyH.nil
      refine step_append_view (by rfl) _ _ (by rfl) (zs := z.1) (by rfl) (by rfl) (HV1.out hbwY1.drew) (by omega) ?_
      intro s1' e1' Y2 hoY2 hbY2
      simp only [World.size_drew] at hoY2 hbY2
      have HY2 : Hid (Y2.ownsRow Y1.heap.size 2 1 (.slice s1' n1 e1') n1 (ints z.1)) := hoY2
      have hsY2 := hbY2.size
      simp only [World.size_drew] at hsY2
      have gY2 : Y2.cell? ⟨y.heap.size, 0, none⟩ = some (.slice none 0 0) := (hbY2.cell (p := ⟨y.heap.size, 0, none⟩) (by simp; omega)).trans (by simpa using gY1)
      have zY2 : Y2.frozen? ⟨y.heap.size, 0, none⟩ = false := (hbY2.frozen (p := ⟨y.heap.size, 0, none⟩) (by simp; omega)).trans (by simpa using zY1_0)
      have tY2 : Y2.cell? ⟨b, off + i * 2, none⟩ = some (.slice s1 n1 e1) := (hbY2.cell (p := ⟨b, off + i * 2, none⟩) (by simp; omega)).trans q0
      have nb : y.heap.size ≠ b := by omega
      refine hK.out _ _ tY2 (fun hHeld => ?_)
      clear hK K
      try simp only [Act.put, List.setIfInBounds_toArray, List.set_cons_zero, List.set_cons_succ]
      refine wpAnyH_take (i := 8) (v := ?_) (get1 (get1 (get1 (get1 (get1 (get1 (get1 (get1 (get0 _ _))))))))) (by kernel_rfl) (by kernel_rfl) (by kernel_rfl) (fun _ _ _ h => h) (Or.inl ⟨by rfl, ?_⟩) (by assumption) ?_
      rotate_left
      · (intro w hSw; (try dsimp only at hSw); go_simp <;> with_reducible rfl)
      simp only [Act.put, List.setIfInBounds_toArray, List.set_cons_zero, List.set_cons_succ]
      refine wpAnyH_ready (rs := [9]) (by kernel_rfl) (by simp) ?_
      refine AllReadyH.cons (get1 (get1 (get1 (get1 (get1 (get1 (get1 (get1 (get1 (get0 _ _)))))))))) (fun K hK => ?_) AllReadyH.nil
      go_simp
      refine hK.out _ _ ((World.cell?_setCell_far Y2 ⟨y.heap.size, 0, none⟩ ⟨b, off + i * 2, none⟩ _ nb).trans tY2) (fun hHeld => ?_)
      clear hK K
      try simp only [Act.put, List.setIfInBounds_toArray, List.set_cons_zero, List.set_cons_succ]
      refine wpAnyH_done (by kernel_rfl) ?_ _
      clear hHeld
      obtain ⟨Y3, hY3⟩ : ∃ Y3, Y2.setCell ⟨y.heap.size, 0, none⟩ (.slice s1' n1 e1') = Y3 := ⟨_, rfl⟩
      have sY3 : Y3.heap.size = Y2.heap.size := by subst hY3; simp
      have ch3 : Below y.heap.size y Y3 := by
        subst hY3
        exact (ch1.drew.trans (hbY2.mono (by omega))).setCell (by show y.heap.size ≤ y.heap.size; omega) _
      have hbwY3 : Below w.heap.size w Y3 := hby.trans (ch3.mono (by omega))
      have a3 : Y3.cell? ⟨y.heap.size, 0, none⟩ = some (.slice s1' n1 e1') := by subst hY3; exact World.cell?_setCell_same' _ _ _ (by rw [gY2]; rfl)
      have gY3 : Y3.cell? ⟨y.heap.size, 1, none⟩ = some (.slice none 0 0) := by
        subst hY3
        refine (World.cell?_setCell_other _ _ _ _ (by simp)).trans ?_
        exact (hbY2.cell (p := ⟨y.heap.size, 1, none⟩) (by show y.heap.size < _; omega)).trans (by simpa using gY1b)
      have zY3_1 : Y3.frozen? ⟨y.heap.size, 1, none⟩ = false := by
        subst hY3
        simp only [World.frozen?_setCell]
        exact (hbY2.frozen (p := ⟨y.heap.size, 1, none⟩) (by show y.heap.size < _; omega)).trans (by simpa using zY1_1)
      have q1 : Y3.drew.cell? ⟨b, off + i * 2 + 1, none⟩ = some (.slice s2 n2 e2) := (hbwY3.drew.cell (p := ⟨b, off + i * 2 + 1, none⟩) hbl).trans K1.out
      have O1 : Hid (Y3.ownsRow (y.heap.size + 1) 2 1 (.slice s1' n1 e1') n1 (ints z.1)) := by
        show World.ownsRow _ _ _ _ _ _ _
        subst hY3
        have o : Y2.ownsRow Y1.heap.size 2 1 (.slice s1' n1 e1') n1 (ints z.1) := HY2.out
        have o' : (Y2.setCell ⟨y.heap.size, 0, none⟩ (.slice s1' n1 e1')).ownsRow Y1.heap.size 2 1 (.slice s1' n1 e1') n1 (ints z.1) := o.kept (gb_set Y2 ⟨y.heap.size, 0, none⟩ _) (.inr fun e => by
          have : Y1.heap.size ≤ y.heap.size := (o.lt _ e).1
          omega)
        exact own_base o' (by omega)
      clear gY2 zY2 tY2 gY1 zY1_0 zY1_1 gY1b q0 hbY2 HY2 hoY2
      go_wp2_with fail
      rw [hY3]
      refine wp_region_held_drew (S := (fun w' : World => w'.cell? ⟨b, off + i * 2 + 1, none⟩ = some (.slice s2 n2 e2))) (by kernel_rfl) q1 (fun hHeld => ?_)
      refine wpAnyH_take (i := 0) (v := ?_) (get0 _ _) (by kernel_rfl) (by kernel_rfl) (by kernel_rfl) (fun _ _ _ h => h) (Or.inl ⟨by rfl, ?_⟩) (by assumption) ?_
      rotate_left
      · (intro w hSw; (try dsimp only at hSw); go_simp <;> with_reducible rfl)
      simp only [Act.put, List.setIfInBounds_toArray, List.set_cons_zero, List.set_cons_succ]
      refine wpAnyH_take (i := 2) (v := ?_) (get1 (get1 (get0 _ _))) (by kernel_rfl) (by kernel_rfl) (by kernel_rfl) (fun _ _ _ h => h) (Or.inl ⟨by rfl, ?_⟩) (by assumption) ?_
      rotate_left
      · (intro w hSw; (try dsimp only at hSw); go_simp <;> with_reducible rfl)
      simp only [Act.put, List.setIfInBounds_toArray, List.set_cons_zero, List.set_cons_succ]
      refine wpAnyH_take (i := 3) (v := ?_) (get1 (get1 (get1 (get0 _ _)))) (by kernel_rfl) (by kernel_rfl) (by kernel_rfl) (fun _ _ _ h => h) (Or.inl ⟨by rfl, ?_⟩) (by assumption) ?_
      rotate_left
      · (intro w hSw; (try dsimp only at hSw); go_simp <;> with_reducible rfl)
      simp only [Act.put, List.setIfInBounds_toArray, List.set_cons_zero, List.set_cons_succ]
      refine wpAnyH_take (i := 4) (v := ?_) (get1 (get1 (get1 (get1 (get0 _ _))))) (by kernel_rfl) (by kernel_rfl) (by kernel_rfl) (fun _ _ _ h => h) (Or.inl ⟨by rfl, ?_⟩) (by assumption) ?_
      rotate_left
      · (intro w hSw; (try dsimp only at hSw); go_simp <;> with_reducible rfl)
      simp only [Act.put, List.setIfInBounds_toArray, List.set_cons_zero, List.set_cons_succ]
      refine wpAnyH_take (i := 5) (v := ?_) (get1 (get1 (get1 (get1 (get1 (get0 _ _)))))) (by kernel_rfl) (by kernel_rfl) (by kernel_rfl) (fun _ _ _ h => h) (Or.inl ⟨by rfl, ?_⟩) (by assumption) ?_
      rotate_left
      · (intro w hSw; (try dsimp only at hSw); go_simp <;> with_reducible rfl)
      simp only [Act.put, List.setIfInBounds_toArray, List.set_cons_zero, List.set_cons_succ]
      refine wpAnyH_take (i := 6) (v := ?_) (get1 (get1 (get1 (get1 (get1 (get1 (get0 _ _))))))) (by kernel_rfl) (by kernel_rfl) (by kernel_rfl) (fun _ _ _ h => h) (Or.inl ⟨by rfl, ?_⟩) (by assumption) ?_
      rotate_left
      · (intro w hSw; (try dsimp only at hSw); go_simp <;> with_reducible rfl)
      simp only [Act.put, List.setIfInBounds_toArray, List.set_cons_zero, List.set_cons_succ]
      refine wpAnyH_ready (rs := [1]) (by kernel_rfl) (by simp) ?_
      refine AllReadyH.cons (get1 (get0 _ _)) (fun K hK => ?_) AllReadyH.nil
      go_simp
      refine hK.out _ _ hHeld (fun hHeld => ?_)
      clear hK K
      try simp only [Act.put, List.setIfInBounds_toArray, List.set_cons_zero, List.set_cons_succ]
      refine wpAnyH_ready (rs := [7]) (by kernel_rfl) (by simp) ?_
      refine AllReadyH.cons (get1 (get1 (get1 (get1 (get1 (get1 (get1 (get0 _ _)))))))) (fun K hK => ?_) AllReadyH.nil
      refine step_append_view (by rfl) _ _ (by rfl) (zs := z.2) (by rfl) (by rfl) (HV2.out hbwY3.drew) (by omega) ?_
      intro s2' e2' Y4 hoY4 hbY4
      simp only [World.size_drew] at hoY4 hbY4
      have HY4 : Hid (Y4.ownsRow Y3.heap.size 2 1 (.slice s2' n2 e2') n2 (ints z.2)) := hoY4
      have hsY4 := hbY4.size
      simp only [World.size_drew] at hsY4
      have gY4 : Y4.cell? ⟨y.heap.size, 1, none⟩ = some (.slice none 0 0) := (hbY4.cell (p := ⟨y.heap.size, 1, none⟩) (by simp; omega)).trans (by simpa using gY3)
      have zY4 : Y4.frozen? ⟨y.heap.size, 1, none⟩ = false := (hbY4.frozen (p := ⟨y.heap.size, 1, none⟩) (by simp; omega)).trans (by simpa using zY3_1)
      have tY4 : Y4.cell? ⟨b, off + i * 2 + 1, none⟩ = some (.slice s2 n2 e2) := (hbY4.cell (p := ⟨b, off + i * 2 + 1, none⟩) (by simp; omega)).trans q1
      have nb : y.heap.size ≠ b := by omega
      refine hK.out _ _ tY4 (fun hHeld => ?_)
      clear hK K
      try simp only [Act.put, List.setIfInBounds_toArray, List.set_cons_zero, List.set_cons_succ]
      refine wpAnyH_take (i := 8) (v := ?_) (get1 (get1 (get1 (get1 (get1 (get1 (get1 (get1 (get0 _ _))))))))) (by kernel_rfl) (by kernel_rfl) (by kernel_rfl) (fun _ _ _ h => h) (Or.inl ⟨by rfl, ?_⟩) (by assumption) ?_
      rotate_left
      · (intro w hSw; (try dsimp only at hSw); go_simp <;> with_reducible rfl)
      simp only [Act.put, List.setIfInBounds_toArray, List.set_cons_zero, List.set_cons_succ]
      refine wpAnyH_ready (rs := [9]) (by kernel_rfl) (by simp) ?_
      refine AllReadyH.cons (get1 (get1 (get1 (get1 (get1 (get1 (get1 (get1 (get1 (get0 _ _)))))))))) (fun K hK => ?_) AllReadyH.nil
      go_simp
      refine hK.out _ _ ((World.cell?_setCell_far Y4 ⟨y.heap.size, 1, none⟩ ⟨b, off + i * 2 + 1, none⟩ _ nb).trans tY4) (fun hHeld => ?_)
      clear hK K
      try simp only [Act.put, List.setIfInBounds_toArray, List.set_cons_zero, List.set_cons_succ]
      refine wpAnyH_done (by kernel_rfl) ?_ _
      clear hHeld
      obtain ⟨Y5, hY5⟩ : ∃ Y5, Y4.setCell ⟨y.heap.size, 1, none⟩ (.slice s2' n2 e2') = Y5 := ⟨_, rfl⟩
      have sY5 : Y5.heap.size = Y4.heap.size := by subst hY5; simp
      have ch5 : Below y.heap.size y Y5 := by
        subst hY5
        exact (ch3.drew.trans (hbY4.mono (by omega))).setCell (by show y.heap.size ≤ y.heap.size; omega) _
      have a5 : Y5.cell? ⟨y.heap.size, 0, none⟩ = some (.slice s1' n1 e1') := by
        subst hY5
        refine (World.cell?_setCell_other _ _ _ _ (by simp)).trans ?_
        exact (hbY4.cell (p := ⟨y.heap.size, 0, none⟩) (by show y.heap.size < _; omega)).trans (by simpa using a3)
      have b5 : Y5.cell? ⟨y.heap.size, 1, none⟩ = some (.slice s2' n2 e2') := by subst hY5; exact World.cell?_setCell_same' _ _ _ (by rw [gY4]; rfl)
      have O2 : Hid (Y5.ownsRow y.heap.size 2 1 (.slice s2' n2 e2') n2 (ints z.2)) := by
        show World.ownsRow _ _ _ _ _ _ _
        subst hY5
        have o : Y4.ownsRow Y3.heap.size 2 1 (.slice s2' n2 e2') n2 (ints z.2) := HY4.out
        have o' : (Y4.setCell ⟨y.heap.size, 1, none⟩ (.slice s2' n2 e2')).ownsRow Y3.heap.size 2 1 (.slice s2' n2 e2') n2 (ints z.2) := o.kept (gb_set Y4 ⟨y.heap.size, 1, none⟩ _) (.inr fun e => by
          have : Y3.heap.size ≤ y.heap.size := (o.lt _ e).1
          omega)
        exact own_base o' (by omega)
      have O1' : Hid (Y5.ownsRow y.heap.size 2 1 (.slice s1' n1 e1') n1 (ints z.1)) := by
        show World.ownsRow _ _ _ _ _ _ _
        have e4 : Below Y3.heap.size Y3 Y4 := (Below.refl _ Y3).drew.trans hbY4
        have o : Y4.ownsRow (y.heap.size + 1) 2 1 (.slice s1' n1 e1') n1 (ints z.1) := own_kept O1.out e4
        subst hY5
        have o' : (Y4.setCell ⟨y.heap.size, 1, none⟩ (.slice s2' n2 e2')).ownsRow (y.heap.size + 1) 2 1 (.slice s1' n1 e1') n1 (ints z.1) := o.kept (gb_set Y4 ⟨y.heap.size, 1, none⟩ _) (.inr fun e => by
          have : y.heap.size + 1 ≤ y.heap.size := (o.lt _ e).1
          omega)
        exact own_base o' (by omega)
      clear gY4 zY4 tY4 a3 gY3 zY3_1 q1 hbY4 HY4 hoY4 O1
      have htl : (fs.take i).length = i := by rw [List.length_take]; omega
      have HCH : Hid (Below y.heap.size y (Y5.alloc (.cells #[.slice s1' n1 e1', .slice s2' n2 e2'] 40))) := ch5.alloc (by omega) _
      have HOE : Hid (OwnF (w.heap.size + 2) (Y5.alloc (.cells #[.slice s1' n1 e1', .slice s2' n2 e2'] 40)) u7 (fs.take i) vs) := HOY.out.below HCH.out
      have HBE : Hid (Below (w.heap.size + 2) W2 (Y5.alloc (.cells #[.slice s1' n1 e1', .slice s2' n2 e2'] 40))) := HBY.out.trans (HCH.out.mono (by have := HBY.out.size; omega))
      have hw2y : w.heap.size + 2 ≤ y.heap.size := by have := HBY.out.size; omega
      have HTK : Hid _ := take_snocF fs i (by omega)
      rw [HZ.out] at HTK
      have HLT : Hid (∀ x, u7.ownBlock = some x → x < y.heap.size) := fun x hx => (HOY.out.row.lt x hx).2
      have lY5 : y.heap.size + 1 ≤ Y5.heap.size := by omega
      clear ch1 ch3 hbwY1 hbwY3 hby sY5 sY3 sY1 hsY2 hsY4
      go_wp2_with (first | (at_builtin; refine wpList_append_lies _ rfl _ _ 51 rfl (w.heap.size + 2) 40 i0 _ 2 48 Try.underlying51 hi0 hz0 hz1 hz2 rfl (by decide) _ _ _ rfl HOE.out.row ⟨Y5.heap.size, 0, none⟩ 1 1 [.slice s1' n1 e1', .slice s2' n2 e2'] rfl rfl (pair_cells _ _ _ rfl) (by intro u hu; simp at hu; rcases hu with rfl | rfl <;> rfl) (by decide) (by unfold maxLen; omega) (by omega) (by simp; omega) (Y5.heap.size + 1) (by simp) ?_) | go_in)
      intro g cap2 Y6 ho6 hg6 hat6 hlt6
      have HO6 : Hid (OwnF (w.heap.size + 2) Y6 (.slice (some ⟨g, 0, none⟩) (i + 1) cap2) (fs.take (i + 1)) (vs ++ [(.slice s1' n1 e1', .slice s2' n2 e2')])) := by
        show OwnF _ _ _ _ _
        rw [HTK.out]
        have hp := HOE.out.push (C := y.heap.size) (z := z) (w5 := Y6) (g := g) (cap := cap2) (u1 := .slice s1' n1 e1') (u2 := .slice s2' n2 e2') ?_ ?_ hw2y HLT.out ⟨(HV1.out (Below.refl _ _)).fits, (HV2.out (Below.refl _ _)).fits⟩ (by rw [htl]; exact ho6) hg6 (by simpa using hat6)
        · rw [htl] at hp; exact hp
        · rw [hc1]; exact O1'.out.alloc _
        · rw [hc2]; exact O2.out.alloc _
      have HB6 : Hid (Below (w.heap.size + 2) W2 Y6) := below_ownM HBE.out HOE.out.row hg6 (by simp; omega)
      have HN6 : Hid (∀ f ∈ fs.take (i + 1), f.1.length ≤ 40 ∧ f.2.length ≤ 40) := by
        show ∀ f ∈ fs.take (i + 1), _
        rw [HTK.out]
        intro f hf
        rcases List.mem_append.1 hf with h1 | h1
        · exact HN.out f h1
        · obtain rfl : f = z := by simpa using h1
          exact hfew
      clear ho6 hg6 hat6 hlt6 HOE HBE O1' O2
      go_wp2_with fail
      go_roundg (len - (i + 1))
      case measure => omega
      case rel => exact ⟨i + 1, _, by first | rfl | (congr 1; omega), by omega, Nat.le_refl _, HO6.out, HN6.out, HB6.out⟩
    · obtain rfl : i = len := by omega
      rw [List.take_of_length_le (by omega)] at HO HN
      obtain ⟨oa, oc, rfl, FO⟩ := HO.out.foots
      have hbw : Below w.heap.size w wr := bl2.trans (HB.out.mono (by omega))
      have hL := allfew_len HN.out
      have hL1 : (rds fs).length ≤ 320 := by have := hL.1; omega
      have hL2 : (wrs fs).length ≤ 320 := by have := hL.2; omega
      rw [hcnt] at FO
      have HFO : Hid _ := FO
      clear hL FO HO
      go_wp2_with fail
      refine (join_any HFO.out (by omega) (by omega) (by omega)).mono ?_
      rintro e x3 ⟨ja1, jc1, L1, ja2, jc2, L2, rfl, hR1, hR2, VJ1, VJ2, hb3⟩
      have HR1 : Hid _ := hR1
      have HR2 : Hid _ := hR2
      have hn1 := ris_len hR1
      have hn2 := ris_len hR2
      go_wp2_with fail
      obtain ⟨X4, hX4⟩ : ∃ X4, x3.alloc (.cells #[.slice ja1 L1.length jc1, .slice ja2 L2.length jc2] 40) = X4 := ⟨_, rfl⟩
      have cx0 : X4.cell? ⟨x3.heap.size, 0, none⟩ = some (.slice ja1 L1.length jc1) := by subst hX4; exact cell_last _ _ _ _ _ rfl rfl
      have cx1 : X4.cell? ⟨x3.heap.size, 1, none⟩ = some (.slice ja2 L2.length jc2) := by subst hX4; exact cell_last _ _ _ _ _ rfl rfl
      have b34 : Below x3.heap.size x3 X4 := by subst hX4; exact (Below.refl _ _).alloc (Nat.le_refl _) _
      have bX : Below (w.heap.size + 2) W2 X4 := HB.out.trans ((hb3.trans (b34.mono hb3.size)).mono (by have := HB.out.size; omega))
      have bwX : Below w.heap.size w X4 := bl2.trans (bX.mono (by omega))
      have bwr : Below wr.heap.size wr X4 := hb3.trans (b34.mono hb3.size)
      rw [hX4]
      have u0 := (bX.cell (p := ⟨w.heap.size, 0, none⟩) (by show w.heap.size < _; omega)).trans cA0
      have u1 := (bX.cell (p := ⟨w.heap.size, 1, none⟩) (by show w.heap.size < _; omega)).trans cA1
      have u2 := (bX.cell (p := ⟨gb, 0, none⟩) (by show gb < _; omega)).trans cB0
      have u3 := (bX.cell (p := ⟨gb, 1, none⟩) (by show gb < _; omega)).trans cB1
      have VX1 := VJ1.below b34
      have VX2 := VJ2.below b34
      clear hX4 b34 VJ1 VJ2 hb3 hR1 hR2
      generalize x3.heap.size = gx at *
      have SS : Hid (∀ {x y : World}, ((x.cell? ⟨gx, 0, none⟩ = some (.slice ja1 L1.length jc1) ∧ x.cell? ⟨gx, 1, none⟩ = some (.slice ja2 L2.length jc2) ∧ x.cell? ⟨w.heap.size, 0, none⟩ = some (.slice a1 l1 c1) ∧ x.cell? ⟨w.heap.size, 1, none⟩ = some (.slice a2 l2 c2) ∧ x.cell? ⟨gb, 0, none⟩ = some (.slice b1 m1 d1) ∧ x.cell? ⟨gb, 1, none⟩ = some (.slice b2 m2 d2)) ∧ Below X4.heap.size X4 x) → Below x.heap.size x y → ((y.cell? ⟨gx, 0, none⟩ = some (.slice ja1 L1.length jc1) ∧ y.cell? ⟨gx, 1, none⟩ = some (.slice ja2 L2.length jc2) ∧ y.cell? ⟨w.heap.size, 0, none⟩ = some (.slice a1 l1 c1) ∧ y.cell? ⟨w.heap.size, 1, none⟩ = some (.slice a2 l2 c2) ∧ y.cell? ⟨gb, 0, none⟩ = some (.slice b1 m1 d1) ∧ y.cell? ⟨gb, 1, none⟩ = some (.slice b2 m2 d2)) ∧ Below X4.heap.size X4 y)) := fun h hb => ⟨⟨cell_thruJ hb h.1.1, cell_thruJ hb h.1.2.1, cell_thruJ hb h.1.2.2.1, cell_thruJ hb h.1.2.2.2.1, cell_thruJ hb h.1.2.2.2.2.1, cell_thruJ hb h.1.2.2.2.2.2⟩, h.2.trans (hb.mono h.2.size)⟩
      have FAs : Hid (∀ {x : World}, ((x.cell? ⟨gx, 0, none⟩ = some (.slice ja1 L1.length jc1) ∧ x.cell? ⟨gx, 1, none⟩ = some (.slice ja2 L2.length jc2) ∧ x.cell? ⟨w.heap.size, 0, none⟩ = some (.slice a1 l1 c1) ∧ x.cell? ⟨w.heap.size, 1, none⟩ = some (.slice a2 l2 c2) ∧ x.cell? ⟨gb, 0, none⟩ = some (.slice b1 m1 d1) ∧ x.cell? ⟨gb, 1, none⟩ = some (.slice b2 m2 d2)) ∧ Below X4.heap.size X4 x) → FootV x (.agg #[.slice a1 l1 c1, .slice a2 l2 c2]) ra wa) := fun h => FA.out (bwX.trans (h.2.mono bwX.size))
      have FBs : Hid (∀ {x : World}, ((x.cell? ⟨gx, 0, none⟩ = some (.slice ja1 L1.length jc1) ∧ x.cell? ⟨gx, 1, none⟩ = some (.slice ja2 L2.length jc2) ∧ x.cell? ⟨w.heap.size, 0, none⟩ = some (.slice a1 l1 c1) ∧ x.cell? ⟨w.heap.size, 1, none⟩ = some (.slice a2 l2 c2) ∧ x.cell? ⟨gb, 0, none⟩ = some (.slice b1 m1 d1) ∧ x.cell? ⟨gb, 1, none⟩ = some (.slice b2 m2 d2)) ∧ Below X4.heap.size X4 x) → FootV x (.agg #[.slice b1 m1 d1, .slice b2 m2 d2]) rb wb) := fun h => FB.out (bwX.trans (h.2.mono bwX.size))
      have FXs : Hid (∀ {x : World}, ((x.cell? ⟨gx, 0, none⟩ = some (.slice ja1 L1.length jc1) ∧ x.cell? ⟨gx, 1, none⟩ = some (.slice ja2 L2.length jc2) ∧ x.cell? ⟨w.heap.size, 0, none⟩ = some (.slice a1 l1 c1) ∧ x.cell? ⟨w.heap.size, 1, none⟩ = some (.slice a2 l2 c2) ∧ x.cell? ⟨gb, 0, none⟩ = some (.slice b1 m1 d1) ∧ x.cell? ⟨gb, 1, none⟩ = some (.slice b2 m2 d2)) ∧ Below X4.heap.size X4 x) → FootV x (.agg #[.slice ja1 L1.length jc1, .slice ja2 L2.length jc2]) L1 L2) := fun h => ⟨⟨_, _, _, _, _, _, rfl, VX1.below h.2, VX2.below h.2⟩⟩
      have FLs : Hid (∀ {x : World}, ((x.cell? ⟨gx, 0, none⟩ = some (.slice ja1 L1.length jc1) ∧ x.cell? ⟨gx, 1, none⟩ = some (.slice ja2 L2.length jc2) ∧ x.cell? ⟨w.heap.size, 0, none⟩ = some (.slice a1 l1 c1) ∧ x.cell? ⟨w.heap.size, 1, none⟩ = some (.slice a2 l2 c2) ∧ x.cell? ⟨gb, 0, none⟩ = some (.slice b1 m1 d1) ∧ x.cell? ⟨gb, 1, none⟩ = some (.slice b2 m2 d2)) ∧ Below X4.heap.size X4 x) → FootsV x a i fs) := fun h => HV.out.below (bwX.trans (h.2.mono bwX.size))
      have h4 : ((X4.drew.cell? ⟨gx, 0, none⟩ = some (.slice ja1 L1.length jc1) ∧ X4.drew.cell? ⟨gx, 1, none⟩ = some (.slice ja2 L2.length jc2) ∧ X4.drew.cell? ⟨w.heap.size, 0, none⟩ = some (.slice a1 l1 c1) ∧ X4.drew.cell? ⟨w.heap.size, 1, none⟩ = some (.slice a2 l2 c2) ∧ X4.drew.cell? ⟨gb, 0, none⟩ = some (.slice b1 m1 d1) ∧ X4.drew.cell? ⟨gb, 1, none⟩ = some (.slice b2 m2 d2)) ∧ Below X4.heap.size X4 X4.drew) := ⟨⟨cx0, cx1, u0, u1, u2, u3⟩, (Below.refl _ _).drew⟩
      generalize hcl : clash ra wa rb wb = cl at *
      have HCL : Hid _ := hcl
      clear hcl cx0 cx1 u0 u1 u2 u3 VX1 VX2
      refine wp_region_held_drew (S := (fun w' : World => ((w'.cell? ⟨gx, 0, none⟩ = some (.slice ja1 L1.length jc1) ∧ w'.cell? ⟨gx, 1, none⟩ = some (.slice ja2 L2.length jc2) ∧ w'.cell? ⟨w.heap.size, 0, none⟩ = some (.slice a1 l1 c1) ∧ w'.cell? ⟨w.heap.size, 1, none⟩ = some (.slice a2 l2 c2) ∧ w'.cell? ⟨gb, 0, none⟩ = some (.slice b1 m1 d1) ∧ w'.cell? ⟨gb, 1, none⟩ = some (.slice b2 m2 d2)) ∧ Below X4.heap.size X4 w'))) (by kernel_rfl) h4 (fun hHeld => ?_)
      refine wpAnyH_take (i := 0) (v := ?_) (get0 _ _) (by kernel_rfl) (by kernel_rfl) (by kernel_rfl) (fun _ _ _ h => h) (Or.inl ⟨by rfl, ?_⟩) (by assumption) ?_
      rotate_left
      · (intro w hSw; (try dsimp only at hSw); go_simp <;> with_reducible rfl)
      simp only [Act.put, List.setIfInBounds_toArray, List.set_cons_zero, List.set_cons_succ]
      refine wpAnyH_take (i := 1) (v := ?_) (get1 (get0 _ _)) (by kernel_rfl) (by kernel_rfl) (by kernel_rfl) (fun _ _ _ h => h) (Or.inl ⟨by rfl, ?_⟩) (by assumption) ?_
      rotate_left
      · (intro w hSw; (try dsimp only at hSw); go_simp <;> with_reducible rfl)
      simp only [Act.put, List.setIfInBounds_toArray, List.set_cons_zero, List.set_cons_succ]
      refine wpAnyH_ready (rs := [2]) (by kernel_rfl) (by simp) ?_
      refine AllReadyH.cons (get1 (get1 (get0 _ _))) (fun K hK => ?_) AllReadyH.nil
      go_simp
      refine (rjoin_known HR1.out HR2.out (FLs.out hHeld) (by omega) (by omega) (by omega)).mono ?_
      rintro e y1 ⟨_, _, _, _, rfl, FJ', hb⟩
      have sy := SS.out hHeld hb
      clear hHeld
      try go_wp2_with fail
      refine hK.out _ _ sy (fun hHeld => ?_)
      clear hK K
      try simp only [Act.put, List.setIfInBounds_toArray, List.set_cons_zero, List.set_cons_succ]
      refine wpAnyH_ready (rs := [3]) (by kernel_rfl) (by simp) ?_
      refine AllReadyH.cons (get1 (get1 (get1 (get0 _ _)))) (fun K hK => ?_) AllReadyH.nil
      go_simp
      refine (samefoot_yes (FXs.out hHeld) FJ' (by omega) (by omega)).mono ?_
      rintro e y2 ⟨rfl, hb⟩
      have sy := SS.out hHeld hb
      clear hHeld FJ'
      try go_wp2_with fail
      refine hK.out _ _ sy (fun hHeld => ?_)
      clear hK K
      try simp only [Act.put, List.setIfInBounds_toArray, List.set_cons_zero, List.set_cons_succ]
      refine wpAnyH_take (i := 4) (v := ?_) (get1 (get1 (get1 (get1 (get0 _ _))))) (by kernel_rfl) (by kernel_rfl) (by kernel_rfl) (fun _ _ _ h => h) (Or.inl ⟨by rfl, ?_⟩) (by assumption) ?_
      rotate_left
      · (intro w hSw; (try dsimp only at hSw); go_simp <;> with_reducible rfl)
      simp only [Act.put, List.setIfInBounds_toArray, List.set_cons_zero, List.set_cons_succ]
      refine wpAnyH_take (i := 5) (v := ?_) (get1 (get1 (get1 (get1 (get1 (get0 _ _)))))) (by kernel_rfl) (by kernel_rfl) (by kernel_rfl) (fun _ _ _ h => h) (Or.inl ⟨by rfl, ?_⟩) (by assumption) ?_
      rotate_left
      · (intro w hSw; (try dsimp only at hSw); go_simp <;> with_reducible rfl)
      simp only [Act.put, List.setIfInBounds_toArray, List.set_cons_zero, List.set_cons_succ]
      refine wpAnyH_take (i := 6) (v := ?_) (get1 (get1 (get1 (get1 (get1 (get1 (get0 _ _))))))) (by kernel_rfl) (by kernel_rfl) (by kernel_rfl) (fun _ _ _ h => h) (Or.inl ⟨by rfl, ?_⟩) (by assumption) ?_
      rotate_left
      · (intro w hSw; (try dsimp only at hSw); go_simp <;> with_reducible rfl)
      simp only [Act.put, List.setIfInBounds_toArray, List.set_cons_zero, List.set_cons_succ]
      refine wpAnyH_take (i := 7) (v := ?_) (get1 (get1 (get1 (get1 (get1 (get1 (get1 (get0 _ _)))))))) (by kernel_rfl) (by kernel_rfl) (by kernel_rfl) (fun _ _ _ h => h) (Or.inl ⟨by rfl, ?_⟩) (by assumption) ?_
      rotate_left
      · (intro w hSw; (try dsimp only at hSw); go_simp <;> with_reducible rfl)
      simp only [Act.put, List.setIfInBounds_toArray, List.set_cons_zero, List.set_cons_succ]
      refine wpAnyH_take (i := 9) (v := ?_) (get1 (get1 (get1 (get1 (get1 (get1 (get1 (get1 (get1 (get0 _ _)))))))))) (by kernel_rfl) (by kernel_rfl) (by kernel_rfl) (fun _ _ _ h => h) (Or.inl ⟨by rfl, ?_⟩) (by assumption) ?_
      rotate_left
      · (intro w hSw; (try dsimp only at hSw); go_simp <;> with_reducible rfl)
      simp only [Act.put, List.setIfInBounds_toArray, List.set_cons_zero, List.set_cons_succ]
      refine wpAnyH_take (i := 10) (v := ?_) (get1 (get1 (get1 (get1 (get1 (get1 (get1 (get1 (get1 (get1 (get0 _ _))))))))))) (by kernel_rfl) (by kernel_rfl) (by kernel_rfl) (fun _ _ _ h => h) (Or.inl ⟨by rfl, ?_⟩) (by assumption) ?_
      rotate_left
      · (intro w hSw; (try dsimp only at hSw); go_simp <;> with_reducible rfl)
      simp only [Act.put, List.setIfInBounds_toArray, List.set_cons_zero, List.set_cons_succ]
      refine wpAnyH_ready (rs := [8]) (by kernel_rfl) (by simp) ?_
      refine AllReadyH.cons (get1 (get1 (get1 (get1 (get1 (get1 (get1 (get1 (get0 _ _))))))))) (fun K hK => ?_) AllReadyH.nil
      go_simp
      refine (clash_any (FAs.out hHeld) (FBs.out hHeld) (by omega) (by omega) (by omega) (by omega)).mono ?_
      rintro e y3 ⟨rfl, hb⟩
      rw [HCL.out]
      have sy := SS.out hHeld hb
      clear hHeld
      try go_wp2_with fail
      refine hK.out _ _ sy (fun hHeld => ?_)
      clear hK K
      try simp only [Act.put, List.setIfInBounds_toArray, List.set_cons_zero, List.set_cons_succ]
      refine wpAnyH_ready (rs := [11]) (by kernel_rfl) (by simp) ?_
      refine AllReadyH.cons (get1 (get1 (get1 (get1 (get1 (get1 (get1 (get1 (get1 (get1 (get1 (get0 _ _)))))))))))) (fun K hK => ?_) AllReadyH.nil
      go_simp
      refine (rclash_any (FAs.out hHeld) (FBs.out hHeld) (by omega) (by omega) (by omega) (by omega)).mono ?_
      rintro e y4 ⟨rfl, hb⟩
      rw [HCL.out]
      have sy := SS.out hHeld hb
      clear hHeld
      try go_wp2_with fail
      refine hK.out _ _ sy (fun hHeld => ?_)
      clear hK K
      try simp only [Act.put, List.setIfInBounds_toArray, List.set_cons_zero, List.set_cons_succ]
      refine wpAnyH_take (i := 12) (v := ?_) (get1 (get1 (get1 (get1 (get1 (get1 (get1 (get1 (get1 (get1 (get1 (get1 (get0 _ _))))))))))))) (by kernel_rfl) (by kernel_rfl) (by kernel_rfl) (fun _ _ _ h => h) (Or.inl ⟨by rfl, ?_⟩) (by assumption) ?_
      rotate_left
      · (intro w hSw; (try dsimp only at hSw); go_simp <;> with_reducible rfl)
      simp only [Act.put, List.setIfInBounds_toArray, List.set_cons_zero, List.set_cons_succ]
      refine wpAnyH_take (i := 13) (v := ?_) (get1 (get1 (get1 (get1 (get1 (get1 (get1 (get1 (get1 (get1 (get1 (get1 (get1 (get0 _ _)))))))))))))) (by kernel_rfl) (by kernel_rfl) (by kernel_rfl) (fun _ _ _ h => h) (Or.inl ⟨by rfl, ?_⟩) (by assumption) ?_
      rotate_left
      · (intro w hSw; (try dsimp only at hSw); go_simp <;> with_reducible rfl)
      simp only [Act.put, List.setIfInBounds_toArray, List.set_cons_zero, List.set_cons_succ]
      refine wpAnyH_done (by kernel_rfl) ?_ _
      have HFO4 : Hid (FootsV y4 oa i fs) := HFO.out.below (bwr.trans (hHeld.2.mono bwr.size))
      have bw4 : Below w.heap.size w y4 := bwX.trans (hHeld.2.mono bwX.size)
      have HFL4 : Hid (FootsV y4 a i fs) := HV.out.below bw4
      have HNN : Hid (∀ f ∈ fs, f.1.length ≤ 40 ∧ f.2.length ≤ 40) := HN.out
      clear hHeld h4 FLs FXs FAs FBs SS HFO bwr bwX bX HR1 HR2 HB HN HV hbw hn1 hn2 hL1 hL2 HCL
      clear hb sy
      clear hb sy
      clear hb sy
      clear hb sy
      clear wr
      go_wp2_with fail
      go_loopg [12] i (fun r kv wq => ∃ k : Nat, kv = .int .i64 k ∧ k ≤ i ∧ i - k ≤ r ∧ Below y4.heap.size y4 wq)
      case atStart => exact ⟨0, rfl, Nat.zero_le _, by omega, Below.refl _ _⟩
      case round =>
        obtain ⟨k, rfl, hk, hr, hbk⟩ := hrel
        by_cases hkt : k < i
        · rcases HFO4.out.cells with h0 | ⟨ob, oo, hO, hco⟩
          · omega
          rcases HFL4.out.cells with h0 | ⟨lb, lo, hA, hcl⟩
          · omega
          obtain ⟨s1, n1, e1, s2, n2, e2, k0, k1, V1, V2⟩ := hco k hkt
          obtain ⟨t1, p1, f1, t2, p2, f2, j0, j1, U1, U2⟩ := hcl k hkt
          have hfk := HNN.out (fs.getD k ([], [])) (by simp [List.getD, show k < fs.length by omega])
          have q0 := cell_thruJ hbk k0
          have q1 := cell_thruJ hbk k1
          have q2 := cell_thruJ hbk j0
          have q3 := cell_thruJ hbk j1
          have FO1 : Hid (∀ {x : World}, Below y4.heap.size y4 x → FootV x (.agg #[.slice s1 n1 e1, .slice s2 n2 e2]) (fs.getD k ([], [])).1 (fs.getD k ([], [])).2) := fun hb => ⟨⟨_, _, _, _, _, _, rfl, V1.below hb, V2.below hb⟩⟩
          have FO2 : Hid (∀ {x : World}, Below y4.heap.size y4 x → FootV x (.agg #[.slice t1 p1 f1, .slice t2 p2 f2]) (fs.getD k ([], [])).1 (fs.getD k ([], [])).2) := fun hb => ⟨⟨_, _, _, _, _, _, rfl, U1.below hb, U2.below hb⟩⟩
          subst hO hA
          clear hco hcl k0 k1 j0 j1 V1 V2 U1 U2
          generalize (fs.getD k ([], [])).1 = z1 at *
          generalize (fs.getD k ([], [])).2 = z2 at *
          have hkk : (k : Int) < i := by omega
          have hkn : 0 ≤ (k : Int) := by omega
          have SS : Hid (∀ {x y : World}, (x.cell? ⟨ob, oo + k * 2, none⟩ = some (.slice s1 n1 e1) ∧ x.cell? ⟨ob, oo + k * 2 + 1, none⟩ = some (.slice s2 n2 e2) ∧ x.cell? ⟨lb, lo + k * 2, none⟩ = some (.slice t1 p1 f1) ∧ x.cell? ⟨lb, lo + k * 2 + 1, none⟩ = some (.slice t2 p2 f2)) → Below x.heap.size x y → (y.cell? ⟨ob, oo + k * 2, none⟩ = some (.slice s1 n1 e1) ∧ y.cell? ⟨ob, oo + k * 2 + 1, none⟩ = some (.slice s2 n2 e2) ∧ y.cell? ⟨lb, lo + k * 2, none⟩ = some (.slice t1 p1 f1) ∧ y.cell? ⟨lb, lo + k * 2 + 1, none⟩ = some (.slice t2 p2 f2))) := fun h hb => ⟨cell_thruJ hb h.1, cell_thruJ hb h.2.1, cell_thruJ hb h.2.2.1, cell_thruJ hb h.2.2.2⟩
          go_wp2_with fail
          refine wp_region_held_drew (S := (fun w' : World => (w'.cell? ⟨ob, oo + k * 2, none⟩ = some (.slice s1 n1 e1) ∧ w'.cell? ⟨ob, oo + k * 2 + 1, none⟩ = some (.slice s2 n2 e2) ∧ w'.cell? ⟨lb, lo + k * 2, none⟩ = some (.slice t1 p1 f1) ∧ w'.cell? ⟨lb, lo + k * 2 + 1, none⟩ = some (.slice t2 p2 f2)))) (by kernel_rfl) ⟨q0, q1, q2, q3⟩ (fun hHeld => ?_)
          refine wpAnyH_take (i := 0) (v := ?_) (get0 _ _) (by kernel_rfl) (by kernel_rfl) (by kernel_rfl) (fun _ _ _ h => h) (Or.inl ⟨by rfl, ?_⟩) (by assumption) ?_
          rotate_left
          · (intro w hSw; (try dsimp only at hSw); go_simp <;> with_reducible rfl)
          simp only [Act.put, List.setIfInBounds_toArray, List.set_cons_zero, List.set_cons_succ]
          refine wpAnyH_take (i := 1) (v := ?_) (get1 (get0 _ _)) (by kernel_rfl) (by kernel_rfl) (by kernel_rfl) (fun _ _ _ h => h) (Or.inl ⟨by rfl, ?_⟩) (by assumption) ?_
          rotate_left
          · (intro w hSw; (try dsimp only at hSw); go_simp <;> with_reducible rfl)
          simp only [Act.put, List.setIfInBounds_toArray, List.set_cons_zero, List.set_cons_succ]
          refine wpAnyH_take (i := 2) (v := ?_) (get1 (get1 (get0 _ _))) (by kernel_rfl) (by kernel_rfl) (by kernel_rfl) (fun _ _ _ h => h) (Or.inl ⟨by rfl, ?_⟩) (by assumption) ?_
          rotate_left
          · (intro w hSw; (try dsimp only at hSw); go_simp <;> with_reducible rfl)
          simp only [Act.put, List.setIfInBounds_toArray, List.set_cons_zero, List.set_cons_succ]
          refine wpAnyH_take (i := 3) (v := ?_) (get1 (get1 (get1 (get0 _ _)))) (by kernel_rfl) (by kernel_rfl) (by kernel_rfl) (fun _ _ _ h => h) (Or.inl ⟨by rfl, ?_⟩) (by assumption) ?_
          rotate_left
          · (intro w hSw; (try dsimp only at hSw); go_simp <;> with_reducible rfl)
          simp only [Act.put, List.setIfInBounds_toArray, List.set_cons_zero, List.set_cons_succ]
          refine wpAnyH_take (i := 4) (v := ?_) (get1 (get1 (get1 (get1 (get0 _ _))))) (by kernel_rfl) (by kernel_rfl) (by kernel_rfl) (fun _ _ _ h => h) (Or.inl ⟨by rfl, ?_⟩) (by assumption) ?_
          rotate_left
          · (intro w hSw; (try dsimp only at hSw); go_simp <;> with_reducible rfl)
          simp only [Act.put, List.setIfInBounds_toArray, List.set_cons_zero, List.set_cons_succ]
          refine wpAnyH_take (i := 5) (v := ?_) (get1 (get1 (get1 (get1 (get1 (get0 _ _)))))) (by kernel_rfl) (by kernel_rfl) (by kernel_rfl) (fun _ _ _ h => h) (Or.inl ⟨by rfl, ?_⟩) (by assumption) ?_
          rotate_left
          · (intro w hSw; (try dsimp only at hSw); go_simp <;> with_reducible rfl)
          simp only [Act.put, List.setIfInBounds_toArray, List.set_cons_zero, List.set_cons_succ]
          refine wpAnyH_take (i := 6) (v := ?_) (get1 (get1 (get1 (get1 (get1 (get1 (get0 _ _))))))) (by kernel_rfl) (by kernel_rfl) (by kernel_rfl) (fun _ _ _ h => h) (Or.inl ⟨by rfl, ?_⟩) (by assumption) ?_
          rotate_left
          · (intro w hSw; (try dsimp only at hSw); go_simp <;> with_reducible rfl)
          simp only [Act.put, List.setIfInBounds_toArray, List.set_cons_zero, List.set_cons_succ]
          refine wpAnyH_take (i := 7) (v := ?_) (get1 (get1 (get1 (get1 (get1 (get1 (get1 (get0 _ _)))))))) (by kernel_rfl) (by kernel_rfl) (by kernel_rfl) (fun _ _ _ h => h) (Or.inl ⟨by rfl, ?_⟩) (by assumption) ?_
          rotate_left
          · (intro w hSw; (try dsimp only at hSw); go_simp <;> with_reducible rfl)
          simp only [Act.put, List.setIfInBounds_toArray, List.set_cons_zero, List.set_cons_succ]
          refine wpAnyH_ready (rs := [8]) (by kernel_rfl) (by simp) ?_
          refine AllReadyH.cons (get1 (get1 (get1 (get1 (get1 (get1 (get1 (get1 (get0 _ _))))))))) (fun K hK => ?_) AllReadyH.nil
          go_simp
          refine (samefoot_yes (FO1.out hbk.drew) (FO2.out hbk.drew) (by omega) (by omega)).mono ?_
          rintro e yb ⟨rfl, hbB⟩
          have sy := SS.out hHeld hbB
          clear hHeld
          try go_wp2_with fail
          refine hK.out _ _ sy (fun hHeld => ?_)
          clear hK K
          try simp only [Act.put, List.setIfInBounds_toArray, List.set_cons_zero, List.set_cons_succ]
          refine wpAnyH_take (i := 9) (v := ?_) (get1 (get1 (get1 (get1 (get1 (get1 (get1 (get1 (get1 (get0 _ _)))))))))) (by kernel_rfl) (by kernel_rfl) (by kernel_rfl) (fun _ _ _ h => h) (Or.inl ⟨by rfl, ?_⟩) (by assumption) ?_
          rotate_left
          · (intro w hSw; (try dsimp only at hSw); go_simp <;> with_reducible rfl)
          simp only [Act.put, List.setIfInBounds_toArray, List.set_cons_zero, List.set_cons_succ]
          refine wpAnyH_done (by kernel_rfl) ?_ _
          have hbe : Below y4.heap.size y4 yb := hbk.trans ((((Below.refl _ wr).drew.trans hbB)).mono hbk.size)
          clear hHeld sy hbB
          go_wp2_with fail
          go_roundg (i - (k + 1))
          case measure => omega
          case rel => exact ⟨k + 1, by first | rfl | (congr 1; omega), by omega, Nat.le_refl _, hbe⟩
        · obtain rfl : k = i := by omega
          go_wp2_with (go_at_call 8; refine (live_any _).mono ?_; rintro e y5 ⟨rfl, hb5⟩)
          go_ret
          exact ⟨rfl, bw4.trans ((hbk.trans (hb5.mono hbk.size)).mono bw4.size)⟩

end Go.Proofs.Ytlbofiaikhcheaa

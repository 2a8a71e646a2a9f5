/- The document's Join. (Written by gen_rjoin.py.) -/
import Derived.Test.YtlbofiaikhcheaaMemFJ
import Derived.Deep.LoopGhost
import Derived.Deep.RegionHeld3
namespace Go.Proofs.Ytlbofiaikhcheaa
open Go.RowKit Go.Maps
set_option linter.unusedVariables false

theorem lens {fs : List (List Int × List Int)} {i j : Nat} (hi : i < fs.length) : (rds (fs.take i) ++ (fs.getD i ([], [])).1.take j).length ≤ (rds fs).length ∧ (wrs (fs.take i) ++ (fs.getD i ([], [])).2.take j).length ≤ (wrs fs).length := by
  have h1 := rds_le fs (i + 1)
  have h2 := wrs_le fs (i + 1)
  rw [rds_snoc fs i hi, List.length_append] at h1
  rw [wrs_snoc fs i hi, List.length_append] at h2
  simp only [List.length_append, List.length_take]
  omega

set_option maxRecDepth 100000 in
set_option maxHeartbeats 8000000 in
theorem rjoin_any {w : World} {a : Option Addr} {len cap : Nat} {fs : List (List Int × List Int)} (h : FootsV w a len fs) (h1 : (rds fs).length ≤ 1000000) (h2 : (wrs fs).length ≤ 1000000) (hl : len ≤ 1000000) :
    Calls Try.prog 24 #[.slice a len cap] w fun e w' => ∃ a1 c1 L1 a2 c2 L2, e = .returned (.agg #[.slice a1 L1.length c1, .slice a2 L2.length c2]) ∧ M.Ris L1 (· ∈ rds fs) ∧ M.Ris L2 (· ∈ wrs fs) ∧ View w' a1 L1.length c1 L1 ∧ View w' a2 L2.length c2 L2 ∧ Below w.heap.size w w' := by
  have HV : Hid _ := h
  have hcnt := h.count
  clear h
  go_enter Try.func24, Try.ntmps24
  go_wp2_with fail
  go_loopg [4] len (fun r kv wq => ∃ (i : Nat) (v1 v2 : Value) (L1 L2 : List Int), kv = .int .i64 i ∧ i ≤ len ∧ len - i ≤ r ∧ Hid (FJ w.heap.size wq (rds (fs.take i)) (wrs (fs.take i)) v1 v2 L1 L2) ∧ Below w.heap.size w wq)
  case atStart =>
    refine ⟨0, .slice none 0 0, .slice none 0 0, [], [], rfl, Nat.zero_le _, by omega, ?_, ((Below.refl _ _).alloc (Nat.le_refl _) _).alloc (by simp) _⟩
    show FJ _ _ _ _ _ _ _ _
    have d : ∀ (n : Nat) (x : World), n = x.heap.size → ∀ c t i, (x.alloc (.cells c t)).cell? ⟨n, i, none⟩ = c[i]? := fun n x h c t i => by subst h; simp
    refine { c0 := by rw [d _ _ (by simp)]; rfl, c1 := by rw [d _ _ (by simp)]; rfl, fz := fun o => World.frozen?_alloc_at _ _ _ _ (by simp), r0 := by rw [World.cell?_alloc_past _ _ _ (by simp), d _ _ rfl]; rfl, r1 := by rw [World.cell?_alloc_past _ _ _ (by simp), d _ _ rfl]; rfl, rz := fun o => by rw [World.frozen?_alloc_past _ _ _ (by simp)]; exact World.frozen?_alloc_at _ _ _ _ rfl, o1 := World.ownsRow_nil _ _ _ _, o2 := World.ownsRow_nil _ _ _ _, i1 := ⟨by simp, by simp [rds]⟩, i2 := ⟨by simp, by simp [wrs]⟩, f1 := by simp, f2 := by simp }
  case round =>
    obtain ⟨i, v1, v2, L1, L2, rfl, hi, hr, HF, hb⟩ := hrel
    by_cases hlt : i < len
    · rcases HV.out.cells with h0 | ⟨b, off, hA, hc⟩
      · omega
      obtain ⟨a1, l1, c1, a2, l2, c2, k0, k1, V1, V2⟩ := hc i hlt
      have hbl : b < w.heap.size := World.block_lt_of_cell? w ⟨b, off + i * 2, none⟩ k0
      have HK0 : Hid _ := k0
      have HK1 : Hid _ := k1
      have HV1 : Hid _ := V1
      have HV2 : Hid _ := V2
      have HRL : Hid (∀ j, (rds (fs.take i) ++ (fs.getD i ([], [])).1.take j).length ≤ 1000000) := fun j => Nat.le_trans (lens (by omega)).1 h1
      have HWL : Hid (∀ j, (wrs (fs.take i) ++ (fs.getD i ([], [])).2.take j).length ≤ 1000000) := fun j => Nat.le_trans (lens (by omega)).2 h2
      have HRS : Hid _ := rds_snoc fs i (by omega)
      have HWS : Hid _ := wrs_snoc fs i (by omega)
      generalize (fs.getD i ([], [])).1 = ra at *
      generalize (fs.getD i ([], [])).2 = wa at *
      have hii : (i : Int) < len := by omega
      have hin : 0 ≤ (i : Int) := by omega
      have hl1b : l1 ≤ 1000000 := by have := HRL.out l1; have := HV1.out.count; simp only [List.length_append, List.length_take] at *; omega
      have hl2b : l2 ≤ 1000000 := by have := HWL.out l2; have := HV2.out.count; simp only [List.length_append, List.length_take] at *; omega
      subst hA
      clear hc k0 k1 V1 V2
      go_wp2_with fail
      go_loopg [5] l1 (fun r jv wq => ∃ (j : Nat) (v1 v2 : Value) (L1 L2 : List Int), jv = .int .i64 j ∧ j ≤ l1 ∧ l1 - j ≤ r ∧ Hid (FJ w.heap.size wq (rds (fs.take i) ++ ra.take j) (wrs (fs.take i)) v1 v2 L1 L2) ∧ Below w.heap.size w wq)
      case atStart => exact ⟨0, _, _, _, _, rfl, Nat.zero_le _, by omega, (by simpa using HF.out : FJ w.heap.size _ (rds (fs.take i) ++ ra.take 0) (wrs (fs.take i)) _ _ _ _), hb⟩
      case round =>
        obtain ⟨j, v1, v2, L1, L2, rfl, hj, hr2, HF, hb⟩ := hrel
        have q0 := (hb.cell (p := ⟨b, off + i * 2, none⟩) hbl).trans HK0.out
        by_cases hlj : j < l1
        · rcases HV1.out.cells with h0 | ⟨xb, xo, hX, hcx⟩
          · omega
          have kx := hcx j hlj
          have zx := World.block_lt_of_cell? w ⟨xb, xo + j, none⟩ kx
          have qx := (hb.cell (p := ⟨xb, xo + j, none⟩) zx).trans kx
          have hxw : (Lit.int .i64 (ra.getD j 0)).wf = true := getD_wf HV1.out.fits j
          have HTS : Hid _ := take_snoc ra j (by have := HV1.out.count; omega)
          obtain ⟨x, hx⟩ : ∃ x, ra.getD j 0 = x := ⟨_, rfl⟩
          rw [hx] at qx hxw HTS
          subst hX
          clear hcx kx hx
          have hji : (j : Int) < l1 := by omega
          have hjn : 0 ≤ (j : Int) := by omega
          have m0 := HF.out.c0
          have mz := HF.out.lt
          obtain ⟨pa, pc, hpv, PV⟩ := view_own HF.out.f1 HF.out.o1
          have hLen : L1.length ≤ 1000000 := by
            have h1 := ris_len HF.out.i1
            have h2 := HRL.out j
            omega
          subst hpv
          have HPV : Hid _ := PV
          clear PV
          go_wp2_with fail
          refine wp_region_held_drew (S := (fun w' : World => w'.cell? ⟨b, off + i * 2, none⟩ = some (.slice (some ⟨xb, xo, none⟩) l1 c1) ∧ w'.cell? ⟨xb, xo + j, none⟩ = some (.int .i64 x))) (by kernel_rfl) ⟨q0, qx⟩ (fun hHeld => ?_)
          refine wpAnyH_take (i := 0) (v := ?_) (get0 _ _) (by kernel_rfl) (by kernel_rfl) (by kernel_rfl) (fun _ _ _ h => h) (Or.inl ⟨by rfl, ?_⟩) (by assumption) ?_
          rotate_left
          · (intro w hSw; (try dsimp only at hSw); go_simp <;> with_reducible rfl)
          simp only [Act.put, List.setIfInBounds_toArray, List.set_cons_zero, List.set_cons_succ]
          refine wpAnyH_take (i := 2) (v := ?_) (get1 (get1 (get0 _ _))) (by kernel_rfl) (by kernel_rfl) (by kernel_rfl) (fun _ _ _ h => h) (Or.inl ⟨by rfl, ?_⟩) (by assumption) ?_
          rotate_left
          · (intro w hSw; (try dsimp only at hSw); go_simp <;> with_reducible rfl)
          simp only [Act.put, List.setIfInBounds_toArray, List.set_cons_zero, List.set_cons_succ]
          refine wpAnyH_take (i := 3) (v := ?_) (get1 (get1 (get1 (get0 _ _)))) (by kernel_rfl) (by kernel_rfl) (by kernel_rfl) (fun _ _ _ h => h) (Or.inl ⟨by rfl, ?_⟩) (by assumption) ?_
          rotate_left
          · (intro w hSw; (try dsimp only at hSw); go_simp <;> with_reducible rfl)
          simp only [Act.put, List.setIfInBounds_toArray, List.set_cons_zero, List.set_cons_succ]
          refine wpAnyH_take (i := 4) (v := ?_) (get1 (get1 (get1 (get1 (get0 _ _))))) (by kernel_rfl) (by kernel_rfl) (by kernel_rfl) (fun _ _ _ h => h) (Or.inl ⟨by rfl, ?_⟩) (by assumption) ?_
          rotate_left
          · (intro w hSw; (try dsimp only at hSw); go_simp <;> with_reducible rfl)
          simp only [Act.put, List.setIfInBounds_toArray, List.set_cons_zero, List.set_cons_succ]
          refine wpAnyH_take (i := 5) (v := ?_) (get1 (get1 (get1 (get1 (get1 (get0 _ _)))))) (by kernel_rfl) (by kernel_rfl) (by kernel_rfl) (fun _ _ _ h => h) (Or.inl ⟨by rfl, ?_⟩) (by assumption) ?_
          rotate_left
          · (intro w hSw; (try dsimp only at hSw); go_simp <;> with_reducible rfl)
          simp only [Act.put, List.setIfInBounds_toArray, List.set_cons_zero, List.set_cons_succ]
          refine wpAnyH_take (i := 6) (v := ?_) (get1 (get1 (get1 (get1 (get1 (get1 (get0 _ _))))))) (by kernel_rfl) (by kernel_rfl) (by kernel_rfl) (fun _ _ _ h => h) (Or.inl ⟨by rfl, ?_⟩) (by assumption) ?_
          rotate_left
          · (intro w hSw; (try dsimp only at hSw); go_simp <;> with_reducible rfl)
          simp only [Act.put, List.setIfInBounds_toArray, List.set_cons_zero, List.set_cons_succ]
          refine wpAnyH_take (i := 7) (v := ?_) (get1 (get1 (get1 (get1 (get1 (get1 (get1 (get0 _ _)))))))) (by kernel_rfl) (by kernel_rfl) (by kernel_rfl) (fun _ _ _ h => h) (Or.inl ⟨by rfl, ?_⟩) (by assumption) ?_
          rotate_left
          · (intro w hSw; (try dsimp only at hSw); go_simp <;> with_reducible rfl)
          simp only [Act.put, List.setIfInBounds_toArray, List.set_cons_zero, List.set_cons_succ]
          refine wpAnyH_take (i := 8) (v := ?_) (get1 (get1 (get1 (get1 (get1 (get1 (get1 (get1 (get0 _ _))))))))) (by kernel_rfl) (by kernel_rfl) (by kernel_rfl) (fun _ _ _ h => h) (Or.inl ⟨by rfl, ?_⟩) (by assumption) ?_
          rotate_left
          · (intro w hSw; (try dsimp only at hSw); go_simp <;> with_reducible rfl)
          simp only [Act.put, List.setIfInBounds_toArray, List.set_cons_zero, List.set_cons_succ]
          refine wpAnyH_take (i := 9) (v := ?_) (get1 (get1 (get1 (get1 (get1 (get1 (get1 (get1 (get1 (get0 _ _)))))))))) (by kernel_rfl) (by kernel_rfl) (by kernel_rfl) (fun _ _ _ h => h) (Or.inl ⟨by rfl, ?_⟩) (by assumption) ?_
          rotate_left
          · (intro w hSw; (try dsimp only at hSw); go_simp <;> with_reducible rfl)
          simp only [Act.put, List.setIfInBounds_toArray, List.set_cons_zero, List.set_cons_succ]
          refine wpAnyH_ready (rs := [1]) (by kernel_rfl) (by simp) ?_
          refine AllReadyH.cons (get1 (get0 _ _)) (fun K hK => ?_) AllReadyH.nil
          go_simp
          refine hK.out _ _ hHeld (fun hHeld => ?_)
          clear hK K
          try simp only [Act.put, List.setIfInBounds_toArray, List.set_cons_zero, List.set_cons_succ]
          refine wpAnyH_ready (rs := [10]) (by kernel_rfl) (by simp) ?_
          refine AllReadyH.cons (get1 (get1 (get1 (get1 (get1 (get1 (get1 (get1 (get1 (get1 (get0 _ _))))))))))) (fun K hK => ?_) AllReadyH.nil
          go_simp
          refine (rput_any x (HPV.out.below ((Below.refl _ wr).drew)) hLen).mono ?_
          rintro e w3 ⟨v', rfl, ho3, hb3⟩
          try go_wp2_with fail
          have hbw : Below wr.heap.size wr w3 := (Below.refl _ wr).drew.trans hb3
          have zw := hb.size
          have p0 := (hbw.cell (p := ⟨b, off + i * 2, none⟩) (by show b < _; omega)).trans q0
          have px := (hbw.cell (p := ⟨xb, xo + j, none⟩) (by show xb < _; omega)).trans qx
          have p3 := (hbw.cell (p := ⟨w.heap.size + 1, 0, none⟩) mz).trans m0
          have f3 := (hbw.frozen (p := ⟨w.heap.size + 1, 0, none⟩) mz).trans (HF.out.fz 0)
          have HP : Hid (FJ w.heap.size (w3.setCell ⟨w.heap.size + 1, 0, none⟩ v') (rds (fs.take i) ++ ra.take (j + 1)) (wrs (fs.take i)) v' v2 (putL x L1) L2) := by
            show FJ _ _ _ _ _ _ _ _
            rw [HTS.out, ← List.append_assoc]
            exact HF.out.step1 hbw ho3 hxw
          have hbe : Below w.heap.size w (w3.setCell ⟨w.heap.size + 1, 0, none⟩ v') := Below.setCell (hb.trans (hbw.mono zw)) (by show w.heap.size ≤ w.heap.size + 1; omega) _
          have nb : w.heap.size + 1 ≠ b := by omega
          have nx : w.heap.size + 1 ≠ xb := by omega
          refine hK.out _ _ ⟨p0, px⟩ (fun hHeld => ?_)
          obtain ⟨ya, yc, hyv, -⟩ := view_own (fits_put HF.out.i1 HF.out.f1 hxw) ho3
          clear hK K ho3 hb3 hbw
          subst hyv
          try simp only [Act.put, List.setIfInBounds_toArray, List.set_cons_zero, List.set_cons_succ]
          refine wpAnyH_take (i := 11) (v := ?_) (get1 (get1 (get1 (get1 (get1 (get1 (get1 (get1 (get1 (get1 (get1 (get0 _ _)))))))))))) (by kernel_rfl) (by kernel_rfl) (by kernel_rfl) (fun _ _ _ h => h) (Or.inl ⟨by rfl, ?_⟩) (by assumption) ?_
          rotate_left
          · (intro w hSw; (try dsimp only at hSw); go_simp <;> with_reducible rfl)
          simp only [Act.put, List.setIfInBounds_toArray, List.set_cons_zero, List.set_cons_succ]
          refine wpAnyH_ready (rs := [12]) (by kernel_rfl) (by simp) ?_
          refine AllReadyH.cons (get1 (get1 (get1 (get1 (get1 (get1 (get1 (get1 (get1 (get1 (get1 (get1 (get0 _ _))))))))))))) (fun K hK => ?_) AllReadyH.nil
          go_simp
          refine hK.out _ _ ⟨(World.cell?_setCell_far w3 ⟨w.heap.size + 1, 0, none⟩ ⟨b, off + i * 2, none⟩ _ nb).trans p0, (World.cell?_setCell_far w3 ⟨w.heap.size + 1, 0, none⟩ ⟨xb, xo + j, none⟩ _ nx).trans px⟩ (fun hHeld => ?_)
          clear hK K
          try simp only [Act.put, List.setIfInBounds_toArray, List.set_cons_zero, List.set_cons_succ]
          refine wpAnyH_done (by kernel_rfl) ?_ _
          clear hHeld p0 px p3 f3
          go_wp2_with fail
          go_roundg (l1 - (j + 1))
          case measure => omega
          case rel => exact ⟨j + 1, _, _, _, _, by first | rfl | (congr 1; omega), by omega, Nat.le_refl _, HP.out, hbe⟩
        · obtain rfl : j = l1 := by omega
          have HF2 : Hid (FJ w.heap.size wr (rds (fs.take i) ++ ra) (wrs (fs.take i)) v1 v2 L1 L2) := by
            show FJ _ _ _ _ _ _ _ _
            have := HF.out
            rw [show ra.take j = ra from List.take_of_length_le (by have := HV1.out.count; omega)] at this
            exact this
          have hb2 := hb
          clear HF
          go_wp2_with fail
          go_loopg [6] l2 (fun r jv wq => ∃ (j : Nat) (v1 v2 : Value) (L1 L2 : List Int), jv = .int .i64 j ∧ j ≤ l2 ∧ l2 - j ≤ r ∧ Hid (FJ w.heap.size wq (rds (fs.take i) ++ ra) (wrs (fs.take i) ++ wa.take j) v1 v2 L1 L2) ∧ Below w.heap.size w wq)
          case atStart => exact ⟨0, _, _, _, _, rfl, Nat.zero_le _, by omega, (by simpa using HF2.out : FJ w.heap.size _ (rds (fs.take i) ++ ra) (wrs (fs.take i) ++ wa.take 0) _ _ _ _), hb2⟩
          case round =>
            obtain ⟨j, v1, v2, L1, L2, rfl, hj, hr2, HF, hb⟩ := hrel
            have q0 := (hb.cell (p := ⟨b, off + i * 2 + 1, none⟩) hbl).trans HK1.out
            by_cases hlj : j < l2
            · rcases HV2.out.cells with h0 | ⟨xb, xo, hX, hcx⟩
              · omega
              have kx := hcx j hlj
              have zx := World.block_lt_of_cell? w ⟨xb, xo + j, none⟩ kx
              have qx := (hb.cell (p := ⟨xb, xo + j, none⟩) zx).trans kx
              have hxw : (Lit.int .i64 (wa.getD j 0)).wf = true := getD_wf HV2.out.fits j
              have HTS : Hid _ := take_snoc wa j (by have := HV2.out.count; omega)
              obtain ⟨x, hx⟩ : ∃ x, wa.getD j 0 = x := ⟨_, rfl⟩
              rw [hx] at qx hxw HTS
              subst hX
              clear hcx kx hx
              have hji : (j : Int) < l2 := by omega
              have hjn : 0 ≤ (j : Int) := by omega
              have m0 := HF.out.c1
              have mz := HF.out.lt
              obtain ⟨pa, pc, hpv, PV⟩ := view_own HF.out.f2 HF.out.o2
              have hLen : L2.length ≤ 1000000 := by
                have h1 := ris_len HF.out.i2
                have h2 := HWL.out j
                omega
              subst hpv
              have HPV : Hid _ := PV
              clear PV
              go_wp2_with fail
              refine wp_region_held_drew (S := (fun w' : World => w'.cell? ⟨b, off + i * 2 + 1, none⟩ = some (.slice (some ⟨xb, xo, none⟩) l2 c2) ∧ w'.cell? ⟨xb, xo + j, none⟩ = some (.int .i64 x))) (by kernel_rfl) ⟨q0, qx⟩ (fun hHeld => ?_)
              refine wpAnyH_take (i := 0) (v := ?_) (get0 _ _) (by kernel_rfl) (by kernel_rfl) (by kernel_rfl) (fun _ _ _ h => h) (Or.inl ⟨by rfl, ?_⟩) (by assumption) ?_
              rotate_left
              · (intro w hSw; (try dsimp only at hSw); go_simp <;> with_reducible rfl)
              simp only [Act.put, List.setIfInBounds_toArray, List.set_cons_zero, List.set_cons_succ]
              refine wpAnyH_take (i := 2) (v := ?_) (get1 (get1 (get0 _ _))) (by kernel_rfl) (by kernel_rfl) (by kernel_rfl) (fun _ _ _ h => h) (Or.inl ⟨by rfl, ?_⟩) (by assumption) ?_
              rotate_left
              · (intro w hSw; (try dsimp only at hSw); go_simp <;> with_reducible rfl)
              simp only [Act.put, List.setIfInBounds_toArray, List.set_cons_zero, List.set_cons_succ]
              refine wpAnyH_take (i := 3) (v := ?_) (get1 (get1 (get1 (get0 _ _)))) (by kernel_rfl) (by kernel_rfl) (by kernel_rfl) (fun _ _ _ h => h) (Or.inl ⟨by rfl, ?_⟩) (by assumption) ?_
              rotate_left
              · (intro w hSw; (try dsimp only at hSw); go_simp <;> with_reducible rfl)
              simp only [Act.put, List.setIfInBounds_toArray, List.set_cons_zero, List.set_cons_succ]
              refine wpAnyH_take (i := 4) (v := ?_) (get1 (get1 (get1 (get1 (get0 _ _))))) (by kernel_rfl) (by kernel_rfl) (by kernel_rfl) (fun _ _ _ h => h) (Or.inl ⟨by rfl, ?_⟩) (by assumption) ?_
              rotate_left
              · (intro w hSw; (try dsimp only at hSw); go_simp <;> with_reducible rfl)
              simp only [Act.put, List.setIfInBounds_toArray, List.set_cons_zero, List.set_cons_succ]
              refine wpAnyH_take (i := 5) (v := ?_) (get1 (get1 (get1 (get1 (get1 (get0 _ _)))))) (by kernel_rfl) (by kernel_rfl) (by kernel_rfl) (fun _ _ _ h => h) (Or.inl ⟨by rfl, ?_⟩) (by assumption) ?_
              rotate_left
              · (intro w hSw; (try dsimp only at hSw); go_simp <;> with_reducible rfl)
              simp only [Act.put, List.setIfInBounds_toArray, List.set_cons_zero, List.set_cons_succ]
              refine wpAnyH_take (i := 6) (v := ?_) (get1 (get1 (get1 (get1 (get1 (get1 (get0 _ _))))))) (by kernel_rfl) (by kernel_rfl) (by kernel_rfl) (fun _ _ _ h => h) (Or.inl ⟨by rfl, ?_⟩) (by assumption) ?_
              rotate_left
              · (intro w hSw; (try dsimp only at hSw); go_simp <;> with_reducible rfl)
              simp only [Act.put, List.setIfInBounds_toArray, List.set_cons_zero, List.set_cons_succ]
              refine wpAnyH_take (i := 7) (v := ?_) (get1 (get1 (get1 (get1 (get1 (get1 (get1 (get0 _ _)))))))) (by kernel_rfl) (by kernel_rfl) (by kernel_rfl) (fun _ _ _ h => h) (Or.inl ⟨by rfl, ?_⟩) (by assumption) ?_
              rotate_left
              · (intro w hSw; (try dsimp only at hSw); go_simp <;> with_reducible rfl)
              simp only [Act.put, List.setIfInBounds_toArray, List.set_cons_zero, List.set_cons_succ]
              refine wpAnyH_take (i := 8) (v := ?_) (get1 (get1 (get1 (get1 (get1 (get1 (get1 (get1 (get0 _ _))))))))) (by kernel_rfl) (by kernel_rfl) (by kernel_rfl) (fun _ _ _ h => h) (Or.inl ⟨by rfl, ?_⟩) (by assumption) ?_
              rotate_left
              · (intro w hSw; (try dsimp only at hSw); go_simp <;> with_reducible rfl)
              simp only [Act.put, List.setIfInBounds_toArray, List.set_cons_zero, List.set_cons_succ]
              refine wpAnyH_take (i := 9) (v := ?_) (get1 (get1 (get1 (get1 (get1 (get1 (get1 (get1 (get1 (get0 _ _)))))))))) (by kernel_rfl) (by kernel_rfl) (by kernel_rfl) (fun _ _ _ h => h) (Or.inl ⟨by rfl, ?_⟩) (by assumption) ?_
              rotate_left
              · (intro w hSw; (try dsimp only at hSw); go_simp <;> with_reducible rfl)
              simp only [Act.put, List.setIfInBounds_toArray, List.set_cons_zero, List.set_cons_succ]
              refine wpAnyH_ready (rs := [1]) (by kernel_rfl) (by simp) ?_
              refine AllReadyH.cons (get1 (get0 _ _)) (fun K hK => ?_) AllReadyH.nil
              go_simp
              refine hK.out _ _ hHeld (fun hHeld => ?_)
              clear hK K
              try simp only [Act.put, List.setIfInBounds_toArray, List.set_cons_zero, List.set_cons_succ]
              refine wpAnyH_ready (rs := [10]) (by kernel_rfl) (by simp) ?_
              refine AllReadyH.cons (get1 (get1 (get1 (get1 (get1 (get1 (get1 (get1 (get1 (get1 (get0 _ _))))))))))) (fun K hK => ?_) AllReadyH.nil
              go_simp
              refine (rput_any x (HPV.out.below ((Below.refl _ wr).drew)) hLen).mono ?_
              rintro e w3 ⟨v', rfl, ho3, hb3⟩
              try go_wp2_with fail
              have hbw : Below wr.heap.size wr w3 := (Below.refl _ wr).drew.trans hb3
              have zw := hb.size
              have p0 := (hbw.cell (p := ⟨b, off + i * 2 + 1, none⟩) (by show b < _; omega)).trans q0
              have px := (hbw.cell (p := ⟨xb, xo + j, none⟩) (by show xb < _; omega)).trans qx
              have p3 := (hbw.cell (p := ⟨w.heap.size + 1, 1, none⟩) mz).trans m0
              have f3 := (hbw.frozen (p := ⟨w.heap.size + 1, 1, none⟩) mz).trans (HF.out.fz 1)
              have HP : Hid (FJ w.heap.size (w3.setCell ⟨w.heap.size + 1, 1, none⟩ v') (rds (fs.take i) ++ ra) (wrs (fs.take i) ++ wa.take (j + 1)) v1 v' L1 (putL x L2)) := by
                show FJ _ _ _ _ _ _ _ _
                rw [HTS.out, ← List.append_assoc]
                exact HF.out.step2 hbw ho3 hxw
              have hbe : Below w.heap.size w (w3.setCell ⟨w.heap.size + 1, 1, none⟩ v') := Below.setCell (hb.trans (hbw.mono zw)) (by show w.heap.size ≤ w.heap.size + 1; omega) _
              have nb : w.heap.size + 1 ≠ b := by omega
              have nx : w.heap.size + 1 ≠ xb := by omega
              refine hK.out _ _ ⟨p0, px⟩ (fun hHeld => ?_)
              obtain ⟨ya, yc, hyv, -⟩ := view_own (fits_put HF.out.i2 HF.out.f2 hxw) ho3
              clear hK K ho3 hb3 hbw
              subst hyv
              try simp only [Act.put, List.setIfInBounds_toArray, List.set_cons_zero, List.set_cons_succ]
              refine wpAnyH_take (i := 11) (v := ?_) (get1 (get1 (get1 (get1 (get1 (get1 (get1 (get1 (get1 (get1 (get1 (get0 _ _)))))))))))) (by kernel_rfl) (by kernel_rfl) (by kernel_rfl) (fun _ _ _ h => h) (Or.inl ⟨by rfl, ?_⟩) (by assumption) ?_
              rotate_left
              · (intro w hSw; (try dsimp only at hSw); go_simp <;> with_reducible rfl)
              simp only [Act.put, List.setIfInBounds_toArray, List.set_cons_zero, List.set_cons_succ]
              refine wpAnyH_ready (rs := [12]) (by kernel_rfl) (by simp) ?_
              refine AllReadyH.cons (get1 (get1 (get1 (get1 (get1 (get1 (get1 (get1 (get1 (get1 (get1 (get1 (get0 _ _))))))))))))) (fun K hK => ?_) AllReadyH.nil
              go_simp
              refine hK.out _ _ ⟨(World.cell?_setCell_far w3 ⟨w.heap.size + 1, 1, none⟩ ⟨b, off + i * 2 + 1, none⟩ _ nb).trans p0, (World.cell?_setCell_far w3 ⟨w.heap.size + 1, 1, none⟩ ⟨xb, xo + j, none⟩ _ nx).trans px⟩ (fun hHeld => ?_)
              clear hK K
              try simp only [Act.put, List.setIfInBounds_toArray, List.set_cons_zero, List.set_cons_succ]
              refine wpAnyH_done (by kernel_rfl) ?_ _
              clear hHeld p0 px p3 f3
              go_wp2_with fail
              go_roundg (l2 - (j + 1))
              case measure => omega
              case rel => exact ⟨j + 1, _, _, _, _, by first | rfl | (congr 1; omega), by omega, Nat.le_refl _, HP.out, hbe⟩
            · obtain rfl : j = l2 := by omega
              have HF2 : Hid (FJ w.heap.size wr (rds (fs.take i) ++ ra) (wrs (fs.take i) ++ wa) v1 v2 L1 L2) := by
                show FJ _ _ _ _ _ _ _ _
                have := HF.out
                rw [show wa.take j = wa from List.take_of_length_le (by have := HV2.out.count; omega)] at this
                exact this
              have hb2 := hb
              clear HF
              go_wp2_with fail
              go_roundg (len - (i + 1))
              case measure => omega
              case rel => exact ⟨i + 1, _, _, _, _, by first | rfl | (congr 1; omega), by omega, Nat.le_refl _, (by rw [HRS.out, HWS.out]; exact HF2.out : FJ w.heap.size wr (rds (fs.take (i + 1))) (wrs (fs.take (i + 1))) v1 v2 L1 L2), hb2⟩

    · obtain rfl : i = len := by omega
      have hF := HF.out
      rw [List.take_of_length_le (by omega)] at hF
      obtain ⟨pa, pc, hpv, PV⟩ := view_own hF.f1 hF.o1
      obtain ⟨qa, qc, hqv, QV⟩ := view_own hF.f2 hF.o2
      subst hpv hqv
      have m0 := hF.c0
      have m1 := hF.c1
      have r0 := hF.r0
      have r1 := hF.r1
      have rz := hF.rz
      have zz := hF.lt
      have HFF : Hid _ := hF
      clear hF HF PV QV
      go_wp2
      refine bodyPost_ret (v := .agg #[.slice pa L1.length pc, .slice qa L2.length qc]) (by simp [results, Try.results24, go_sem, r0, r1]) rfl ?_
      have s1 := gb_set wr ⟨w.heap.size, 0, none⟩ (.slice pa L1.length pc)
      have s2 := gb_set (wr.setCell ⟨w.heap.size, 0, none⟩ (.slice pa L1.length pc)) ⟨w.heap.size, 1, none⟩ (.slice qa L2.length qc)
      have n1 : ∀ {v : Value} {n : Nat} {xs : List Value}, wr.ownsRow (w.heap.size + 2) 2 1 v n xs → v.ownBlock ≠ some w.heap.size := fun o e => by have := (o.lt _ e).1; omega
      obtain ⟨_, _, e1, X1⟩ := view_own HFF.out.f1 ((HFF.out.o1.kept s1 (.inr (n1 HFF.out.o1))).kept s2 (.inr (n1 HFF.out.o1)))
      obtain ⟨_, _, e2, X2⟩ := view_own HFF.out.f2 ((HFF.out.o2.kept s1 (.inr (n1 HFF.out.o2))).kept s2 (.inr (n1 HFF.out.o2)))
      cases e1
      cases e2
      exact ⟨pa, pc, L1, qa, qc, L2, rfl, HFF.out.i1, HFF.out.i2, X1, X2, (hb.setCell (by show w.heap.size ≤ w.heap.size; omega) _).setCell (by show w.heap.size ≤ w.heap.size; omega) _⟩

end Go.Proofs.Ytlbofiaikhcheaa

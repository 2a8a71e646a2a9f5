/- What object comes to. (Written by gen_object.py.) -/
import Derived.Test.YtcfdfnghaigkjaaObjRows
import Derived.Deep.LoopGhost
namespace Go.Proofs.Ytcfdfnghaigkjaa
open Go.RowKit Go.Maps Go.Lib
set_option linter.unusedVariables false

theorem infoI : (Try.prog.info? 2).map (fun i => (i.zero, i.size, i.bytes)) = some (some (.int .i64 0), 1, 8) := by kernel_rfl
theorem infoS : (Try.prog.info? 41).map (fun i => (i.zero, i.size, i.bytes)) = some (some (.agg #[.string { data := #[] }, .int .i64 0, .int .i64 0]), 3, 32) := by kernel_rfl
theorem infoR : (Try.prog.info? 43).map (fun i => (i.zero, i.size, i.bytes)) = some (some (.agg #[.int .i64 0, .int .i64 0, .string { data := #[] }, .int .i64 0]), 4, 40) := by kernel_rfl
theorem many_len {α : Type} {f : ByteArray → Nat → Option (α × Nat)} {s : ByteArray} {i : Nat} : ∀ {n : Nat} {l : List α} {j : Nat}, rdMany f n s i = some (l, j) → l.length = n
  | 0, l, j, h => by simp [rdMany] at h; simp [← h.1]
  | n + 1, l, j, h => by
    simp only [rdMany] at h
    split at h
    · next l' k hl =>
      split at h
      · next x m hx =>
        simp at h
        rw [← h.1, List.length_append, many_len hl]
        rfl
      · cases h
    · cases h
theorem own_slice {w : World} {B : Nat} {e : TypeId} {size : Nat} {v : Value} {n : Nat} {xs : List Value} (h : w.ownsRow B e size v n xs) : ∃ a c, v = .slice a n c := by
  rcases h.2 with ⟨rfl, rfl⟩ | ⟨g, cap, cur, rfl, _⟩
  · exact ⟨_, _, rfl⟩
  · exact ⟨_, _, rfl⟩
theorem hcot : ((⟨#[67, 79, 84, 49]⟩ : ByteArray) = cot1) = True := eq_true rfl
set_option maxRecDepth 100000 in
set_option maxHeartbeats 8000000 in
theorem robj_any {w : World} {br : Nat} {s : ByteArray} (h : RdV w br s 0) :
    Calls Try.prog 29 #[.pointer (some ⟨br, 0, none⟩)] w fun e w' => ((∃ o, rdObj s = some o ∧ ∃ v, e = .returned v ∧ ObjF (w.heap.size + 1) w' v o) ∨ (rdObj s = none ∧ Fails e)) ∧ w.grownBy w' (some br) := by
  have hbr := h.lt
  obtain ⟨i1, hi1, hz10, hz11, hz12⟩ := info_parts infoI
  obtain ⟨i2, hi2, hz20, hz21, hz22⟩ := info_parts infoS
  obtain ⟨i3, hi3, hz30, hz31, hz32⟩ := info_parts infoR
  obtain ⟨W1, hW1⟩ : ∃ W1, w.alloc (.cells #[.string { data := #[] }, .slice none 0 0, .slice none 0 0, .slice none 0 0] 26) = W1 := ⟨_, rfl⟩
  have s1 : W1.heap.size = w.heap.size + 1 := by subst hW1; simp
  have b1 : Below w.heap.size w W1 := by subst hW1; exact bl_one _ _
  have HCR : Hid (Cells W1 w.heap.size [.string { data := #[] }, .slice none 0 0, .slice none 0 0, .slice none 0 0]) := fun j u hu => by subst hW1; exact cell_last rfl (by simpa using hu)
  have HRZ : Hid (∀ o, W1.frozen? ⟨w.heap.size, o, none⟩ = false) := fun o => by subst hW1; exact World.frozen?_alloc_at _ _ _ _ rfl
  have HR : Hid (RdV W1 br s 0) := h.below b1
  have HG : Hid (w.grownBy W1 (some br)) := ⟨b1.os, b1.tape, b1.output, b1.size, fun k hk _ => b1.block k hk⟩
  clear h b1
  go_enter Try.func29, Try.ntmps29
  go_wp2_with fail
  refine (rtake_any HR.out 4 (by decide)).mono ?_
  rintro e y0 ⟨⟨t, j0, hf, rfl, hr⟩ | ⟨hf, c, rfl⟩, hg⟩
  rotate_left
  · have HF : Hid (rdObj s = none) := by show _ = _; simp only [rdObj, rdBody, hf]
    have HGG : Hid _ := grown_trans HG.out hg
    clear hf hg
    go_wp2
    exact ⟨rfl, .inr ⟨HF.out, c, rfl⟩, HGG.out⟩
  have F0 : Hid _ := hf
  have HR1 : Hid _ := hr
  have HG1 : Hid _ := grown_trans HG.out hg
  have HCR1 : Hid (Cells y0 w.heap.size [.string { data := #[] }, .slice none 0 0, .slice none 0 0, .slice none 0 0]) := fun j u hu => grown_cell hg (HCR.out j u hu) (by omega)
  have HRZ1 : Hid (∀ o, y0.frozen? ⟨w.heap.size, o, none⟩ = false) := fun o => grown_froz hg (by omega) (by omega) (HRZ.out o)
  have z0 : w.heap.size + 1 ≤ y0.heap.size := by have := hg.size; omega
  clear hf hr hg HR HG HCR HRZ
  by_cases ht : t = { data := #[67, 79, 84, 49] }
  rotate_left
  · have HF : Hid (rdObj s = none) := by show _ = _; simp only [rdObj, rdBody, F0.out]; rw [if_neg (show ¬ t = cot1 from ht)]
    have hd : (t.toList == [67, 79, 84, 49]) = false := by rw [ByteArray.toList_eq]; exact beq_eq_false_iff_ne.2 (fun e => ht (bytes_ext e))
    go_wp2
    exact ⟨rfl, .inr ⟨HF.out, _, rfl⟩, HG1.out⟩
  subst ht
  obtain ⟨W2, hW2⟩ : ∃ W2, y0.alloc (.cells #[.string { data := #[] }, .slice none 0 0, .slice none 0 0, .slice none 0 0] 26) = W2 := ⟨_, rfl⟩
  obtain ⟨z, hz⟩ : ∃ z, y0.heap.size = z := ⟨_, rfl⟩
  have hb2 : Below y0.heap.size y0 W2 := by subst hW2; exact bl_one _ _
  have s2 : W2.heap.size = z + 1 := by subst hW2; simp; omega
  have HB : Hid (OB w W2 br s j0 z (.string { data := #[] }) [⟨2, 1, .slice none 0 0, 0, []⟩, ⟨41, 3, .slice none 0 0, 0, []⟩, ⟨43, 4, .slice none 0 0, 0, []⟩] [.string { data := #[] }, .slice none 0 0, .slice none 0 0, .slice none 0 0]) := by
    have own : ∀ (k : Nat) (r : Row), ([⟨2, 1, .slice none 0 0, 0, []⟩, ⟨41, 3, .slice none 0 0, 0, []⟩, ⟨43, 4, .slice none 0 0, 0, []⟩] : List Row)[k]? = some r → r.v = .slice none 0 0 ∧ r.n = 0 ∧ r.cs = [] ∧ k < 3 := fun k r hk => by
      match k, hk with
      | 0, hk => cases hk; exact ⟨rfl, rfl, rfl, by decide⟩
      | 1, hk => cases hk; exact ⟨rfl, rfl, rfl, by decide⟩
      | 2, hk => cases hk; exact ⟨rfl, rfl, rfl, by decide⟩
      | k + 3, hk => simp at hk
    have cz : Cells W2 z [.string { data := #[] }, .slice none 0 0, .slice none 0 0, .slice none 0 0] := fun j u hu => by subst hW2; exact cell_last hz.symm (by simpa using hu)
    refine { rd := HR1.out.below hb2, g := grown_below HG1.out hb2, c0 := cz 0 _ rfl, ck := fun k r hk => ?_, fz := fun o => by subst hW2; exact World.frozen?_alloc_at _ _ _ _ hz.symm, res := fun j u hu => cell_thru hb2 (HCR1.out j u hu), rz := fun o => (hb2.frozen (p := ⟨w.heap.size, o, none⟩) (by show w.heap.size < _; omega)).trans (HRZ1.out o), own := fun k r hk => ?_, dis := fun k l r q hr hq hkl b hb => ?_, zw := by omega, zl := by omega, lt := hbr }
    · obtain ⟨h1, h2, h3, h4⟩ := own k r hk
      rw [h1]
      rcases (show k = 0 ∨ k = 1 ∨ k = 2 by omega) with rfl | rfl | rfl
      · exact cz 1 _ rfl
      · exact cz 2 _ rfl
      · exact cz 3 _ rfl
    · obtain ⟨h1, h2, h3, h4⟩ := own k r hk
      rw [h1, h2, h3]
      exact ⟨World.ownsRow_nil _ _ _ _, by simp [Value.ownBlock]⟩
    · obtain ⟨h1, -⟩ := own k r hr
      rw [h1] at hb
      simp [Value.ownBlock] at hb
  clear HR1 HG1 HCR1 HRZ1 hb2 s2
  go_wp2_with fail
  refine (rup_any HB.out.rd 65536 (by decide)).mono ?_
  rintro e y ⟨⟨x, j1, hf, rfl, hr⟩ | ⟨hf, c, rfl⟩, hg⟩
  rotate_left
  · have HF : Hid (rdObj s = none) := by show _ = _; simp only [rdObj, rdBody, hcot, if_true, F0.out, hf]
    have HGG : Hid _ := grown_trans HB.out.g hg
    clear hf hg
    go_wp2
    exact ⟨rfl, .inr ⟨HF.out, c, rfl⟩, HGG.out⟩
  obtain ⟨hx0, hx1⟩ := rdUp_nonneg hf
  obtain ⟨n1, rfl⟩ : ∃ n : Nat, x = n := ⟨x.toNat, by omega⟩
  have hn1 : n1 ≤ 65536 := by omega
  have F1 : Hid (rdUp s j0 65536 = some ((n1 : Int), j1)) := hf
  have HB : Hid _ := HB.out.call hr hg
  clear hf hr hg hx0 hx1
  go_wp2_with fail
  refine (rtake_any HB.out.rd n1 (by omega)).mono ?_
  rintro e y2 ⟨⟨code, j2, hf, rfl, hr⟩ | ⟨hf, c, rfl⟩, hg⟩
  rotate_left
  · have HF : Hid (rdObj s = none) := by show _ = _; simp only [rdObj, rdBody, hcot, if_true, Int.toNat_natCast, F0.out, F1.out, hf]
    have HGG : Hid _ := grown_trans HB.out.g hg
    clear hf hg
    go_wp2
    exact ⟨rfl, .inr ⟨HF.out, c, rfl⟩, HGG.out⟩
  have F2 : Hid _ := hf
  have HBy : Hid _ := HB.out.call hr hg
  have q := HBy.out.c0
  have qz := HBy.out.fz 0
  obtain ⟨Y2, hY2⟩ : ∃ Y, y2.setCell ⟨z, 0, none⟩ (.string code) = Y := ⟨_, rfl⟩
  have hp := HBy.out.code (.string code)
  rw [hY2] at hp
  have HB : Hid (OB w Y2 br s j2 z (.string code) [⟨2, 1, .slice none 0 0, 0, []⟩, ⟨41, 3, .slice none 0 0, 0, []⟩, ⟨43, 4, .slice none 0 0, 0, []⟩] [.string { data := #[] }, .slice none 0 0, .slice none 0 0, .slice none 0 0]) := hp
  clear hf hr hg hp HBy
  go_wp2_with fail
  clear q qz hY2
  refine (rup_any HB.out.rd 4096 (by decide)).mono ?_
  rintro e y ⟨⟨x, j3, hf, rfl, hr⟩ | ⟨hf, c, rfl⟩, hg⟩
  rotate_left
  · have HF : Hid (rdObj s = none) := by show _ = _; simp only [rdObj, rdBody, hcot, if_true, Int.toNat_natCast, F0.out, F1.out, F2.out, hf]
    have HGG : Hid _ := grown_trans HB.out.g hg
    clear hf hg
    go_wp2
    exact ⟨rfl, .inr ⟨HF.out, c, rfl⟩, HGG.out⟩
  obtain ⟨hx0, hx1⟩ := rdUp_nonneg hf
  obtain ⟨n3, rfl⟩ : ∃ n : Nat, x = n := ⟨x.toNat, by omega⟩
  have hn3 : n3 ≤ 4096 := by omega
  have F3 : Hid (rdUp s j2 4096 = some ((n3 : Int), j3)) := hf
  have HB : Hid _ := HB.out.call hr hg
  clear hf hr hg hx0 hx1
  go_wp2_with fail
  go_loopg [15] n3 (fun r iv wq => ∃ (k : Nat) (l : List Int) (j : Nat) (v : Value), iv = .int .i64 k ∧ k ≤ n3 ∧ n3 - k ≤ r ∧ Hid (rdMany rdLong k s j3 = some (l, j)) ∧ Hid (OB w wq br s j z (.string code) [⟨2, 1, v, k, l.flatMap intC⟩, ⟨41, 3, .slice none 0 0, 0, []⟩, ⟨43, 4, .slice none 0 0, 0, []⟩] [.string { data := #[] }, .slice none 0 0, .slice none 0 0, .slice none 0 0]))
  case atStart => exact ⟨0, [], j3, _, rfl, Nat.zero_le _, by omega, (rfl : rdMany rdLong 0 s j3 = some ([], j3)), HB.out⟩
  case round =>
    obtain ⟨k, l, j, v, rfl, hk, hr, HL, HB⟩ := hrel
    by_cases hlt : k < n3
    · have hii : (k : Int) < n3 := by omega
      have hin : 0 ≤ (k : Int) := by omega
      go_wp2_with fail
      have HD : Hid (OB w wr.drew br s j z (.string code) [⟨2, 1, v, k, l.flatMap intC⟩, ⟨41, 3, .slice none 0 0, 0, []⟩, ⟨43, 4, .slice none 0 0, 0, []⟩] [.string { data := #[] }, .slice none 0 0, .slice none 0 0, .slice none 0 0]) := HB.out.drew
      refine wp_region_held_drew (S := (fun w' : World => w'.cell? ⟨br, 0, none⟩ = some (.string s))) (by kernel_rfl) HD.out.rd.c0 (fun hHeld => ?_)
      refine wpAnyH_take (i := 0) (v := ?_) (get0 _ _) (by kernel_rfl) (by kernel_rfl) (by kernel_rfl) (fun _ _ _ h => h) (Or.inl ⟨by rfl, ?_⟩) (by assumption) ?_
      rotate_left
      · (intro w hSw; (try dsimp only at hSw); go_simp <;> with_reducible rfl)
      simp only [Act.put, List.setIfInBounds_toArray, List.set_cons_zero, List.set_cons_succ]
      refine wpAnyH_take (i := 2) (v := ?_) (get1 (get1 (get0 _ _))) (by kernel_rfl) (by kernel_rfl) (by kernel_rfl) (fun _ _ _ h => h) (Or.inl ⟨by rfl, ?_⟩) (by assumption) ?_
      rotate_left
      · (intro w hSw; (try dsimp only at hSw); go_simp <;> with_reducible rfl)
      simp only [Act.put, List.setIfInBounds_toArray, List.set_cons_zero, List.set_cons_succ]
      refine wpAnyH_ready (rs := [1, 3]) (by kernel_rfl) (by simp) ?_
      refine AllReadyH.cons (get1 (get0 _ _)) (fun K hK => ?_) ?_
      · have m1 := HD.out.ck 0 _ rfl
        go_simp
        refine hK.out _ _ hHeld (fun hHeld => ?_)
        clear hK K m1
        try simp only [Act.put, List.setIfInBounds_toArray, List.set_cons_zero, List.set_cons_succ]
        refine wpAnyH_ready (rs := [3]) (by kernel_rfl) (by simp) ?_
        refine AllReadyH.cons (get1 (get1 (get1 (get0 _ _)))) (fun K hK => ?_) ?_
        · go_simp
          refine (rlong_any HD.out.rd).mono ?_
          rintro e y ⟨⟨x, j', hf, rfl, hr⟩ | ⟨hf, c, rfl⟩, hg⟩
          rotate_left
          · have HF : Hid (rdObj s = none) := by show _ = _; have hcut := many_cut HL.out hlt hf; simp only [rdObj, rdBody, hcot, if_true, Int.toNat_natCast, F0.out, F1.out, F2.out, F3.out, hcut]
            have HGG : Hid _ := grown_trans HD.out.g hg
            clear hf hg hK
            go_wp2
            exact ⟨rfl, .inr ⟨HF.out, c, rfl⟩, HGG.out⟩
          have HC : Hid (OB w y br s j' z (.string code) [⟨2, 1, v, k, l.flatMap intC⟩, ⟨41, 3, .slice none 0 0, 0, []⟩, ⟨43, 4, .slice none 0 0, 0, []⟩] [.string { data := #[] }, .slice none 0 0, .slice none 0 0, .slice none 0 0]) := HD.out.call hr hg
          have HX : Hid _ := hf
          clear hf hr hg
          try go_wp2_with fail
          refine hK.out _ _ HC.out.rd.c0 (fun hHeld => ?_)
          clear hK K
          try simp only [Act.put, List.setIfInBounds_toArray, List.set_cons_zero, List.set_cons_succ]
          refine wpAnyH_ready (rs := [4]) (by kernel_rfl) (by simp) ?_
          refine AllReadyH.cons (get1 (get1 (get1 (get1 (get0 _ _))))) (fun K hK => ?_) ?_
          · go_simp
            have HE : Hid (OB w (y.alloc (.cells #[.int .i64 x] 2)) br s j' z (.string code) [⟨2, 1, v, k, l.flatMap intC⟩, ⟨41, 3, .slice none 0 0, 0, []⟩, ⟨43, 4, .slice none 0 0, 0, []⟩] [.string { data := #[] }, .slice none 0 0, .slice none 0 0, .slice none 0 0]) := HC.out.below (bl_one _ _)
            refine hK.out _ _ HE.out.rd.c0 (fun hHeld => ?_)
            clear hK K
            try simp only [Act.put, List.setIfInBounds_toArray, List.set_cons_zero, List.set_cons_succ]
            refine wpAnyH_ready (rs := [5]) (by kernel_rfl) (by simp) ?_
            refine AllReadyH.cons (get1 (get1 (get1 (get1 (get1 (get0 _ _)))))) (fun K hK => ?_) AllReadyH.nil
            have HNC : Hid (∀ j u, (intC x)[j]? = some u → (y.alloc (.cells #[.int .i64 x] 2)).cell? ((⟨y.heap.size, 0, none⟩ : Addr).add j) = some u) := fun j u hu => by rw [Addr.add_lit, Nat.zero_add]; exact cell_last rfl (by simpa [intC] using hu)
            refine step_append_lies _ (by rfl) _ _ 22 (by rfl) (w.heap.size + 1) 2 i1 _ 1 8 Try.underlying22 hi1 hz10 hz11 hz12 (by rfl) (by decide) v k _ (by rfl) (HE.out.own 0 _ rfl).1 ⟨y.heap.size, 0, none⟩ 1 1 (intC x) (by rfl) (by rfl) HNC.out (by intro u hu; simp [intC] at hu; first | (rcases hu with rfl | rfl | rfl | rfl <;> rfl) | (rcases hu with rfl | rfl | rfl <;> rfl) | (subst hu; rfl)) (by decide) (by unfold maxLen; omega) (by omega) (by have := HE.out.zw; have := HE.out.zl; omega) (y.heap.size + 1) (by simp) ?_
            intro g cap Y6 ho6 hg6 hat6 hlt6
            have nbr : v.ownBlock ≠ some br := fun e => by have h1 := ((HE.out.own 0 _ rfl).1.lt _ e).1; have := HE.out.lt; omega
            have nz : v.ownBlock ≠ some z := (HE.out.own 0 _ rfl).2
            have h60 := (HE.out.rd.grown hg6 nbr).c0
            have m6 : Y6.cell? ⟨z, 1, none⟩ = some v := grown_row hg6 (HE.out.ck 0 _ rfl) nz
            have z6 : Y6.frozen? ⟨z, 1, none⟩ = false := (hg6.frozen_far ⟨z, 1, none⟩ HE.out.zl (fun e => nz e.symm)).trans (HE.out.fz 1)
            have HP : Hid (OB w (Y6.setCell ⟨z, 1, none⟩ (.slice (some ⟨g, 0, none⟩) (k + 1) cap)) br s j' z (.string code) [⟨2, 1, (.slice (some ⟨g, 0, none⟩) (k + 1) cap), (k + 1), (l ++ [x]).flatMap intC⟩, ⟨41, 3, .slice none 0 0, 0, []⟩, ⟨43, 4, .slice none 0 0, 0, []⟩] [.string { data := #[] }, .slice none 0 0, .slice none 0 0, .slice none 0 0]) := by
              have hp := HE.out.push (k := 0) rfl ho6 hg6 hat6 (by simp)
              have e : l.flatMap intC ++ intC x = (l ++ [x]).flatMap intC := by simp
              rw [e] at hp
              exact hp
            refine hK.out _ _ h60 (fun hHeld => ?_)
            clear hK K ho6 hg6 hat6 hlt6 HNC
            try simp only [Act.put, List.setIfInBounds_toArray, List.set_cons_zero, List.set_cons_succ]
            refine wpAnyH_take (i := 6) (v := ?_) (get1 (get1 (get1 (get1 (get1 (get1 (get0 _ _))))))) (by kernel_rfl) (by kernel_rfl) (by kernel_rfl) (fun _ _ _ h => h) (Or.inl ⟨by rfl, ?_⟩) (by assumption) ?_
            rotate_left
            · (intro w hSw; (try dsimp only at hSw); go_simp <;> with_reducible rfl)
            simp only [Act.put, List.setIfInBounds_toArray, List.set_cons_zero, List.set_cons_succ]
            refine wpAnyH_ready (rs := [7]) (by kernel_rfl) (by simp) ?_
            refine AllReadyH.cons (get1 (get1 (get1 (get1 (get1 (get1 (get1 (get0 _ _)))))))) (fun K hK => ?_) AllReadyH.nil
            go_simp
            refine hK.out _ _ HP.out.rd.c0 (fun hHeld => ?_)
            clear hK K
            try simp only [Act.put, List.setIfInBounds_toArray, List.set_cons_zero, List.set_cons_succ]
            refine wpAnyH_done (by kernel_rfl) ?_ _
            clear hHeld m6 z6 h60
            have HLN : Hid (rdMany rdLong (k + 1) s j3 = some (l ++ [x], j')) := by show _ = _; rw [rdMany, HL.out]; simp only [HX.out]
            go_wp2_with fail
            go_roundg (n3 - (k + 1))
            case measure => omega
            case rel => exact ⟨k + 1, _, _, _, by first | rfl | (congr 1; omega), by omega, Nat.le_refl _, HLN.out, HP.out⟩
          exact AllReadyH.nil
        exact AllReadyH.nil
      refine AllReadyH.cons (get1 (get1 (get1 (get0 _ _)))) (fun K hK => ?_) ?_
      · go_simp
        refine (rlong_any HD.out.rd).mono ?_
        rintro e y ⟨⟨x, j', hf, rfl, hr⟩ | ⟨hf, c, rfl⟩, hg⟩
        rotate_left
        · have HF : Hid (rdObj s = none) := by show _ = _; have hcut := many_cut HL.out hlt hf; simp only [rdObj, rdBody, hcot, if_true, Int.toNat_natCast, F0.out, F1.out, F2.out, F3.out, hcut]
          have HGG : Hid _ := grown_trans HD.out.g hg
          clear hf hg hK
          go_wp2
          exact ⟨rfl, .inr ⟨HF.out, c, rfl⟩, HGG.out⟩
        have HC : Hid (OB w y br s j' z (.string code) [⟨2, 1, v, k, l.flatMap intC⟩, ⟨41, 3, .slice none 0 0, 0, []⟩, ⟨43, 4, .slice none 0 0, 0, []⟩] [.string { data := #[] }, .slice none 0 0, .slice none 0 0, .slice none 0 0]) := HD.out.call hr hg
        have HX : Hid _ := hf
        clear hf hr hg
        try go_wp2_with fail
        refine hK.out _ _ HC.out.rd.c0 (fun hHeld => ?_)
        clear hK K
        try simp only [Act.put, List.setIfInBounds_toArray, List.set_cons_zero, List.set_cons_succ]
        refine wpAnyH_ready (rs := [1, 4]) (by kernel_rfl) (by simp) ?_
        refine AllReadyH.cons (get1 (get0 _ _)) (fun K hK => ?_) ?_
        · have m1 := HC.out.ck 0 _ rfl
          go_simp
          refine hK.out _ _ hHeld (fun hHeld => ?_)
          clear hK K m1
          try simp only [Act.put, List.setIfInBounds_toArray, List.set_cons_zero, List.set_cons_succ]
          refine wpAnyH_ready (rs := [4]) (by kernel_rfl) (by simp) ?_
          refine AllReadyH.cons (get1 (get1 (get1 (get1 (get0 _ _))))) (fun K hK => ?_) ?_
          · go_simp
            have HE : Hid (OB w (y.alloc (.cells #[.int .i64 x] 2)) br s j' z (.string code) [⟨2, 1, v, k, l.flatMap intC⟩, ⟨41, 3, .slice none 0 0, 0, []⟩, ⟨43, 4, .slice none 0 0, 0, []⟩] [.string { data := #[] }, .slice none 0 0, .slice none 0 0, .slice none 0 0]) := HC.out.below (bl_one _ _)
            refine hK.out _ _ HE.out.rd.c0 (fun hHeld => ?_)
            clear hK K
            try simp only [Act.put, List.setIfInBounds_toArray, List.set_cons_zero, List.set_cons_succ]
            refine wpAnyH_ready (rs := [5]) (by kernel_rfl) (by simp) ?_
            refine AllReadyH.cons (get1 (get1 (get1 (get1 (get1 (get0 _ _)))))) (fun K hK => ?_) AllReadyH.nil
            have HNC : Hid (∀ j u, (intC x)[j]? = some u → (y.alloc (.cells #[.int .i64 x] 2)).cell? ((⟨y.heap.size, 0, none⟩ : Addr).add j) = some u) := fun j u hu => by rw [Addr.add_lit, Nat.zero_add]; exact cell_last rfl (by simpa [intC] using hu)
            refine step_append_lies _ (by rfl) _ _ 22 (by rfl) (w.heap.size + 1) 2 i1 _ 1 8 Try.underlying22 hi1 hz10 hz11 hz12 (by rfl) (by decide) v k _ (by rfl) (HE.out.own 0 _ rfl).1 ⟨y.heap.size, 0, none⟩ 1 1 (intC x) (by rfl) (by rfl) HNC.out (by intro u hu; simp [intC] at hu; first | (rcases hu with rfl | rfl | rfl | rfl <;> rfl) | (rcases hu with rfl | rfl | rfl <;> rfl) | (subst hu; rfl)) (by decide) (by unfold maxLen; omega) (by omega) (by have := HE.out.zw; have := HE.out.zl; omega) (y.heap.size + 1) (by simp) ?_
            intro g cap Y6 ho6 hg6 hat6 hlt6
            have nbr : v.ownBlock ≠ some br := fun e => by have h1 := ((HE.out.own 0 _ rfl).1.lt _ e).1; have := HE.out.lt; omega
            have nz : v.ownBlock ≠ some z := (HE.out.own 0 _ rfl).2
            have h60 := (HE.out.rd.grown hg6 nbr).c0
            have m6 : Y6.cell? ⟨z, 1, none⟩ = some v := grown_row hg6 (HE.out.ck 0 _ rfl) nz
            have z6 : Y6.frozen? ⟨z, 1, none⟩ = false := (hg6.frozen_far ⟨z, 1, none⟩ HE.out.zl (fun e => nz e.symm)).trans (HE.out.fz 1)
            have HP : Hid (OB w (Y6.setCell ⟨z, 1, none⟩ (.slice (some ⟨g, 0, none⟩) (k + 1) cap)) br s j' z (.string code) [⟨2, 1, (.slice (some ⟨g, 0, none⟩) (k + 1) cap), (k + 1), (l ++ [x]).flatMap intC⟩, ⟨41, 3, .slice none 0 0, 0, []⟩, ⟨43, 4, .slice none 0 0, 0, []⟩] [.string { data := #[] }, .slice none 0 0, .slice none 0 0, .slice none 0 0]) := by
              have hp := HE.out.push (k := 0) rfl ho6 hg6 hat6 (by simp)
              have e : l.flatMap intC ++ intC x = (l ++ [x]).flatMap intC := by simp
              rw [e] at hp
              exact hp
            refine hK.out _ _ h60 (fun hHeld => ?_)
            clear hK K ho6 hg6 hat6 hlt6 HNC
            try simp only [Act.put, List.setIfInBounds_toArray, List.set_cons_zero, List.set_cons_succ]
            refine wpAnyH_take (i := 6) (v := ?_) (get1 (get1 (get1 (get1 (get1 (get1 (get0 _ _))))))) (by kernel_rfl) (by kernel_rfl) (by kernel_rfl) (fun _ _ _ h => h) (Or.inl ⟨by rfl, ?_⟩) (by assumption) ?_
            rotate_left
            · (intro w hSw; (try dsimp only at hSw); go_simp <;> with_reducible rfl)
            simp only [Act.put, List.setIfInBounds_toArray, List.set_cons_zero, List.set_cons_succ]
            refine wpAnyH_ready (rs := [7]) (by kernel_rfl) (by simp) ?_
            refine AllReadyH.cons (get1 (get1 (get1 (get1 (get1 (get1 (get1 (get0 _ _)))))))) (fun K hK => ?_) AllReadyH.nil
            go_simp
            refine hK.out _ _ HP.out.rd.c0 (fun hHeld => ?_)
            clear hK K
            try simp only [Act.put, List.setIfInBounds_toArray, List.set_cons_zero, List.set_cons_succ]
            refine wpAnyH_done (by kernel_rfl) ?_ _
            clear hHeld m6 z6 h60
            have HLN : Hid (rdMany rdLong (k + 1) s j3 = some (l ++ [x], j')) := by show _ = _; rw [rdMany, HL.out]; simp only [HX.out]
            go_wp2_with fail
            go_roundg (n3 - (k + 1))
            case measure => omega
            case rel => exact ⟨k + 1, _, _, _, by first | rfl | (congr 1; omega), by omega, Nat.le_refl _, HLN.out, HP.out⟩
          exact AllReadyH.nil
        refine AllReadyH.cons (get1 (get1 (get1 (get1 (get0 _ _))))) (fun K hK => ?_) ?_
        · go_simp
          have HE : Hid (OB w (y.alloc (.cells #[.int .i64 x] 2)) br s j' z (.string code) [⟨2, 1, v, k, l.flatMap intC⟩, ⟨41, 3, .slice none 0 0, 0, []⟩, ⟨43, 4, .slice none 0 0, 0, []⟩] [.string { data := #[] }, .slice none 0 0, .slice none 0 0, .slice none 0 0]) := HC.out.below (bl_one _ _)
          refine hK.out _ _ HE.out.rd.c0 (fun hHeld => ?_)
          clear hK K
          try simp only [Act.put, List.setIfInBounds_toArray, List.set_cons_zero, List.set_cons_succ]
          refine wpAnyH_ready (rs := [1]) (by kernel_rfl) (by simp) ?_
          refine AllReadyH.cons (get1 (get0 _ _)) (fun K hK => ?_) ?_
          · have m1 := HE.out.ck 0 _ rfl
            go_simp
            refine hK.out _ _ hHeld (fun hHeld => ?_)
            clear hK K m1
            try simp only [Act.put, List.setIfInBounds_toArray, List.set_cons_zero, List.set_cons_succ]
            refine wpAnyH_ready (rs := [5]) (by kernel_rfl) (by simp) ?_
            refine AllReadyH.cons (get1 (get1 (get1 (get1 (get1 (get0 _ _)))))) (fun K hK => ?_) AllReadyH.nil
            have HNC : Hid (∀ j u, (intC x)[j]? = some u → (y.alloc (.cells #[.int .i64 x] 2)).cell? ((⟨y.heap.size, 0, none⟩ : Addr).add j) = some u) := fun j u hu => by rw [Addr.add_lit, Nat.zero_add]; exact cell_last rfl (by simpa [intC] using hu)
            refine step_append_lies _ (by rfl) _ _ 22 (by rfl) (w.heap.size + 1) 2 i1 _ 1 8 Try.underlying22 hi1 hz10 hz11 hz12 (by rfl) (by decide) v k _ (by rfl) (HE.out.own 0 _ rfl).1 ⟨y.heap.size, 0, none⟩ 1 1 (intC x) (by rfl) (by rfl) HNC.out (by intro u hu; simp [intC] at hu; first | (rcases hu with rfl | rfl | rfl | rfl <;> rfl) | (rcases hu with rfl | rfl | rfl <;> rfl) | (subst hu; rfl)) (by decide) (by unfold maxLen; omega) (by omega) (by have := HE.out.zw; have := HE.out.zl; omega) (y.heap.size + 1) (by simp) ?_
            intro g cap Y6 ho6 hg6 hat6 hlt6
            have nbr : v.ownBlock ≠ some br := fun e => by have h1 := ((HE.out.own 0 _ rfl).1.lt _ e).1; have := HE.out.lt; omega
            have nz : v.ownBlock ≠ some z := (HE.out.own 0 _ rfl).2
            have h60 := (HE.out.rd.grown hg6 nbr).c0
            have m6 : Y6.cell? ⟨z, 1, none⟩ = some v := grown_row hg6 (HE.out.ck 0 _ rfl) nz
            have z6 : Y6.frozen? ⟨z, 1, none⟩ = false := (hg6.frozen_far ⟨z, 1, none⟩ HE.out.zl (fun e => nz e.symm)).trans (HE.out.fz 1)
            have HP : Hid (OB w (Y6.setCell ⟨z, 1, none⟩ (.slice (some ⟨g, 0, none⟩) (k + 1) cap)) br s j' z (.string code) [⟨2, 1, (.slice (some ⟨g, 0, none⟩) (k + 1) cap), (k + 1), (l ++ [x]).flatMap intC⟩, ⟨41, 3, .slice none 0 0, 0, []⟩, ⟨43, 4, .slice none 0 0, 0, []⟩] [.string { data := #[] }, .slice none 0 0, .slice none 0 0, .slice none 0 0]) := by
              have hp := HE.out.push (k := 0) rfl ho6 hg6 hat6 (by simp)
              have e : l.flatMap intC ++ intC x = (l ++ [x]).flatMap intC := by simp
              rw [e] at hp
              exact hp
            refine hK.out _ _ h60 (fun hHeld => ?_)
            clear hK K ho6 hg6 hat6 hlt6 HNC
            try simp only [Act.put, List.setIfInBounds_toArray, List.set_cons_zero, List.set_cons_succ]
            refine wpAnyH_take (i := 6) (v := ?_) (get1 (get1 (get1 (get1 (get1 (get1 (get0 _ _))))))) (by kernel_rfl) (by kernel_rfl) (by kernel_rfl) (fun _ _ _ h => h) (Or.inl ⟨by rfl, ?_⟩) (by assumption) ?_
            rotate_left
            · (intro w hSw; (try dsimp only at hSw); go_simp <;> with_reducible rfl)
            simp only [Act.put, List.setIfInBounds_toArray, List.set_cons_zero, List.set_cons_succ]
            refine wpAnyH_ready (rs := [7]) (by kernel_rfl) (by simp) ?_
            refine AllReadyH.cons (get1 (get1 (get1 (get1 (get1 (get1 (get1 (get0 _ _)))))))) (fun K hK => ?_) AllReadyH.nil
            go_simp
            refine hK.out _ _ HP.out.rd.c0 (fun hHeld => ?_)
            clear hK K
            try simp only [Act.put, List.setIfInBounds_toArray, List.set_cons_zero, List.set_cons_succ]
            refine wpAnyH_done (by kernel_rfl) ?_ _
            clear hHeld m6 z6 h60
            have HLN : Hid (rdMany rdLong (k + 1) s j3 = some (l ++ [x], j')) := by show _ = _; rw [rdMany, HL.out]; simp only [HX.out]
            go_wp2_with fail
            go_roundg (n3 - (k + 1))
            case measure => omega
            case rel => exact ⟨k + 1, _, _, _, by first | rfl | (congr 1; omega), by omega, Nat.le_refl _, HLN.out, HP.out⟩
          exact AllReadyH.nil
        exact AllReadyH.nil
      exact AllReadyH.nil
    · obtain rfl : n3 = k := by omega
      obtain ⟨data, rfl⟩ : ∃ xs, xs = l := ⟨_, rfl⟩
      obtain ⟨u1, rfl⟩ : ∃ x, x = v := ⟨_, rfl⟩
      obtain ⟨j4, rfl⟩ : ∃ x, x = j := ⟨_, rfl⟩
      have F4 : Hid _ := HL.out
      clear HL
      go_wp2_with fail
      refine (rup_any HB.out.rd 1000 (by decide)).mono ?_
      rintro e y ⟨⟨x, j5, hf, rfl, hr⟩ | ⟨hf, c, rfl⟩, hg⟩
      rotate_left
      · have HF : Hid (rdObj s = none) := by show _ = _; simp only [rdObj, rdBody, hcot, if_true, Int.toNat_natCast, F0.out, F1.out, F2.out, F3.out, F4.out, hf]
        have HGG : Hid _ := grown_trans HB.out.g hg
        clear hf hg
        go_wp2
        exact ⟨rfl, .inr ⟨HF.out, c, rfl⟩, HGG.out⟩
      obtain ⟨hx0, hx1⟩ := rdUp_nonneg hf
      obtain ⟨n5, rfl⟩ : ∃ n : Nat, x = n := ⟨x.toNat, by omega⟩
      have hn5 : n5 ≤ 1000 := by omega
      have F5 : Hid (rdUp s j4 1000 = some ((n5 : Int), j5)) := hf
      have HB : Hid _ := HB.out.call hr hg
      clear hf hr hg hx0 hx1
      go_wp2_with fail
      go_loopg [27] n5 (fun r iv wq => ∃ (k : Nat) (l : List Sym) (j : Nat) (v : Value), iv = .int .i64 k ∧ k ≤ n5 ∧ n5 - k ≤ r ∧ Hid (rdMany rdSym k s j5 = some (l, j)) ∧ Hid (OB w wq br s j z (.string code) [⟨2, 1, u1, n3, data.flatMap intC⟩, ⟨41, 3, v, k, l.flatMap symC⟩, ⟨43, 4, .slice none 0 0, 0, []⟩] [.string { data := #[] }, .slice none 0 0, .slice none 0 0, .slice none 0 0]))
      case atStart => exact ⟨0, [], j5, _, rfl, Nat.zero_le _, by omega, (rfl : rdMany rdSym 0 s j5 = some ([], j5)), HB.out⟩
      case round =>
        obtain ⟨k, l, j, v, rfl, hk, hr, HL, HB⟩ := hrel
        by_cases hlt : k < n5
        · have hii : (k : Int) < n5 := by omega
          have hin : 0 ≤ (k : Int) := by omega
          go_wp2_with fail
          have HD : Hid (OB w wr.drew br s j z (.string code) [⟨2, 1, u1, n3, data.flatMap intC⟩, ⟨41, 3, v, k, l.flatMap symC⟩, ⟨43, 4, .slice none 0 0, 0, []⟩] [.string { data := #[] }, .slice none 0 0, .slice none 0 0, .slice none 0 0]) := HB.out.drew
          refine wp_region_held_drew (S := (fun w' : World => w'.cell? ⟨br, 0, none⟩ = some (.string s))) (by kernel_rfl) HD.out.rd.c0 (fun hHeld => ?_)
          refine wpAnyH_take (i := 0) (v := ?_) (get0 _ _) (by kernel_rfl) (by kernel_rfl) (by kernel_rfl) (fun _ _ _ h => h) (Or.inl ⟨by rfl, ?_⟩) (by assumption) ?_
          rotate_left
          · (intro w hSw; (try dsimp only at hSw); go_simp <;> with_reducible rfl)
          simp only [Act.put, List.setIfInBounds_toArray, List.set_cons_zero, List.set_cons_succ]
          refine wpAnyH_take (i := 2) (v := ?_) (get1 (get1 (get0 _ _))) (by kernel_rfl) (by kernel_rfl) (by kernel_rfl) (fun _ _ _ h => h) (Or.inl ⟨by rfl, ?_⟩) (by assumption) ?_
          rotate_left
          · (intro w hSw; (try dsimp only at hSw); go_simp <;> with_reducible rfl)
          simp only [Act.put, List.setIfInBounds_toArray, List.set_cons_zero, List.set_cons_succ]
          refine wpAnyH_ready (rs := [1, 3]) (by kernel_rfl) (by simp) ?_
          refine AllReadyH.cons (get1 (get0 _ _)) (fun K hK => ?_) ?_
          · have m1 := HD.out.ck 1 _ rfl
            go_simp
            refine hK.out _ _ hHeld (fun hHeld => ?_)
            clear hK K m1
            try simp only [Act.put, List.setIfInBounds_toArray, List.set_cons_zero, List.set_cons_succ]
            refine wpAnyH_ready (rs := [3]) (by kernel_rfl) (by simp) ?_
            refine AllReadyH.cons (get1 (get1 (get1 (get0 _ _)))) (fun K hK => ?_) ?_
            · go_simp
              refine (rsym_any HD.out.rd).mono ?_
              rintro e y ⟨⟨x, j', hf, rfl, hr⟩ | ⟨hf, c, rfl⟩, hg⟩
              rotate_left
              · have HF : Hid (rdObj s = none) := by show _ = _; have hcut := many_cut HL.out hlt hf; simp only [rdObj, rdBody, hcot, if_true, Int.toNat_natCast, F0.out, F1.out, F2.out, F3.out, F4.out, F5.out, hcut]
                have HGG : Hid _ := grown_trans HD.out.g hg
                clear hf hg hK
                go_wp2
                exact ⟨rfl, .inr ⟨HF.out, c, rfl⟩, HGG.out⟩
              obtain ⟨xn, xk, xp⟩ := x
              simp only [symV]
              have HC : Hid (OB w y br s j' z (.string code) [⟨2, 1, u1, n3, data.flatMap intC⟩, ⟨41, 3, v, k, l.flatMap symC⟩, ⟨43, 4, .slice none 0 0, 0, []⟩] [.string { data := #[] }, .slice none 0 0, .slice none 0 0, .slice none 0 0]) := HD.out.call hr hg
              have HX : Hid _ := hf
              clear hf hr hg
              try go_wp2_with fail
              refine hK.out _ _ HC.out.rd.c0 (fun hHeld => ?_)
              clear hK K
              try simp only [Act.put, List.setIfInBounds_toArray, List.set_cons_zero, List.set_cons_succ]
              refine wpAnyH_ready (rs := [4]) (by kernel_rfl) (by simp) ?_
              refine AllReadyH.cons (get1 (get1 (get1 (get1 (get0 _ _))))) (fun K hK => ?_) ?_
              · go_simp
                have HE : Hid (OB w (y.alloc (.cells #[.string xn, .int .i64 xk, .int .i64 xp] 41)) br s j' z (.string code) [⟨2, 1, u1, n3, data.flatMap intC⟩, ⟨41, 3, v, k, l.flatMap symC⟩, ⟨43, 4, .slice none 0 0, 0, []⟩] [.string { data := #[] }, .slice none 0 0, .slice none 0 0, .slice none 0 0]) := HC.out.below (bl_one _ _)
                refine hK.out _ _ HE.out.rd.c0 (fun hHeld => ?_)
                clear hK K
                try simp only [Act.put, List.setIfInBounds_toArray, List.set_cons_zero, List.set_cons_succ]
                refine wpAnyH_ready (rs := [5]) (by kernel_rfl) (by simp) ?_
                refine AllReadyH.cons (get1 (get1 (get1 (get1 (get1 (get0 _ _)))))) (fun K hK => ?_) AllReadyH.nil
                have HNC : Hid (∀ j u, (symC (⟨xn, xk, xp⟩ : Sym))[j]? = some u → (y.alloc (.cells #[.string xn, .int .i64 xk, .int .i64 xp] 41)).cell? ((⟨y.heap.size, 0, none⟩ : Addr).add j) = some u) := fun j u hu => by rw [Addr.add_lit, Nat.zero_add]; exact cell_last rfl (by simpa [symC] using hu)
                refine step_append_lies _ (by rfl) _ _ 23 (by rfl) (w.heap.size + 1) 41 i2 _ 3 32 Try.underlying23 hi2 hz20 hz21 hz22 (by rfl) (by decide) v k _ (by rfl) (HE.out.own 1 _ rfl).1 ⟨y.heap.size, 0, none⟩ 1 1 (symC (⟨xn, xk, xp⟩ : Sym)) (by rfl) (by rfl) HNC.out (by intro u hu; simp [symC] at hu; first | (rcases hu with rfl | rfl | rfl | rfl <;> rfl) | (rcases hu with rfl | rfl | rfl <;> rfl) | (subst hu; rfl)) (by decide) (by unfold maxLen; omega) (by omega) (by have := HE.out.zw; have := HE.out.zl; omega) (y.heap.size + 1) (by simp) ?_
                intro g cap Y6 ho6 hg6 hat6 hlt6
                have nbr : v.ownBlock ≠ some br := fun e => by have h1 := ((HE.out.own 1 _ rfl).1.lt _ e).1; have := HE.out.lt; omega
                have nz : v.ownBlock ≠ some z := (HE.out.own 1 _ rfl).2
                have h60 := (HE.out.rd.grown hg6 nbr).c0
                have m6 : Y6.cell? ⟨z, 2, none⟩ = some v := grown_row hg6 (HE.out.ck 1 _ rfl) nz
                have z6 : Y6.frozen? ⟨z, 2, none⟩ = false := (hg6.frozen_far ⟨z, 2, none⟩ HE.out.zl (fun e => nz e.symm)).trans (HE.out.fz 2)
                have HP : Hid (OB w (Y6.setCell ⟨z, 2, none⟩ (.slice (some ⟨g, 0, none⟩) (k + 1) cap)) br s j' z (.string code) [⟨2, 1, u1, n3, data.flatMap intC⟩, ⟨41, 3, (.slice (some ⟨g, 0, none⟩) (k + 1) cap), (k + 1), (l ++ [(⟨xn, xk, xp⟩ : Sym)]).flatMap symC⟩, ⟨43, 4, .slice none 0 0, 0, []⟩] [.string { data := #[] }, .slice none 0 0, .slice none 0 0, .slice none 0 0]) := by
                  have hp := HE.out.push (k := 1) rfl ho6 hg6 hat6 (by simp)
                  have e : l.flatMap symC ++ symC (⟨xn, xk, xp⟩ : Sym) = (l ++ [(⟨xn, xk, xp⟩ : Sym)]).flatMap symC := by simp
                  rw [e] at hp
                  exact hp
                refine hK.out _ _ h60 (fun hHeld => ?_)
                clear hK K ho6 hg6 hat6 hlt6 HNC
                try simp only [Act.put, List.setIfInBounds_toArray, List.set_cons_zero, List.set_cons_succ]
                refine wpAnyH_take (i := 6) (v := ?_) (get1 (get1 (get1 (get1 (get1 (get1 (get0 _ _))))))) (by kernel_rfl) (by kernel_rfl) (by kernel_rfl) (fun _ _ _ h => h) (Or.inl ⟨by rfl, ?_⟩) (by assumption) ?_
                rotate_left
                · (intro w hSw; (try dsimp only at hSw); go_simp <;> with_reducible rfl)
                simp only [Act.put, List.setIfInBounds_toArray, List.set_cons_zero, List.set_cons_succ]
                refine wpAnyH_ready (rs := [7]) (by kernel_rfl) (by simp) ?_
                refine AllReadyH.cons (get1 (get1 (get1 (get1 (get1 (get1 (get1 (get0 _ _)))))))) (fun K hK => ?_) AllReadyH.nil
                go_simp
                refine hK.out _ _ HP.out.rd.c0 (fun hHeld => ?_)
                clear hK K
                try simp only [Act.put, List.setIfInBounds_toArray, List.set_cons_zero, List.set_cons_succ]
                refine wpAnyH_done (by kernel_rfl) ?_ _
                clear hHeld m6 z6 h60
                have HLN : Hid (rdMany rdSym (k + 1) s j5 = some (l ++ [(⟨xn, xk, xp⟩ : Sym)], j')) := by show _ = _; rw [rdMany, HL.out]; simp only [HX.out]
                go_wp2_with fail
                go_roundg (n5 - (k + 1))
                case measure => omega
                case rel => exact ⟨k + 1, _, _, _, by first | rfl | (congr 1; omega), by omega, Nat.le_refl _, HLN.out, HP.out⟩
              exact AllReadyH.nil
            exact AllReadyH.nil
          refine AllReadyH.cons (get1 (get1 (get1 (get0 _ _)))) (fun K hK => ?_) ?_
          · go_simp
            refine (rsym_any HD.out.rd).mono ?_
            rintro e y ⟨⟨x, j', hf, rfl, hr⟩ | ⟨hf, c, rfl⟩, hg⟩
            rotate_left
            · have HF : Hid (rdObj s = none) := by show _ = _; have hcut := many_cut HL.out hlt hf; simp only [rdObj, rdBody, hcot, if_true, Int.toNat_natCast, F0.out, F1.out, F2.out, F3.out, F4.out, F5.out, hcut]
              have HGG : Hid _ := grown_trans HD.out.g hg
              clear hf hg hK
              go_wp2
              exact ⟨rfl, .inr ⟨HF.out, c, rfl⟩, HGG.out⟩
            obtain ⟨xn, xk, xp⟩ := x
            simp only [symV]
            have HC : Hid (OB w y br s j' z (.string code) [⟨2, 1, u1, n3, data.flatMap intC⟩, ⟨41, 3, v, k, l.flatMap symC⟩, ⟨43, 4, .slice none 0 0, 0, []⟩] [.string { data := #[] }, .slice none 0 0, .slice none 0 0, .slice none 0 0]) := HD.out.call hr hg
            have HX : Hid _ := hf
            clear hf hr hg
            try go_wp2_with fail
            refine hK.out _ _ HC.out.rd.c0 (fun hHeld => ?_)
            clear hK K
            try simp only [Act.put, List.setIfInBounds_toArray, List.set_cons_zero, List.set_cons_succ]
            refine wpAnyH_ready (rs := [1, 4]) (by kernel_rfl) (by simp) ?_
            refine AllReadyH.cons (get1 (get0 _ _)) (fun K hK => ?_) ?_
            · have m1 := HC.out.ck 1 _ rfl
              go_simp
              refine hK.out _ _ hHeld (fun hHeld => ?_)
              clear hK K m1
              try simp only [Act.put, List.setIfInBounds_toArray, List.set_cons_zero, List.set_cons_succ]
              refine wpAnyH_ready (rs := [4]) (by kernel_rfl) (by simp) ?_
              refine AllReadyH.cons (get1 (get1 (get1 (get1 (get0 _ _))))) (fun K hK => ?_) ?_
              · go_simp
                have HE : Hid (OB w (y.alloc (.cells #[.string xn, .int .i64 xk, .int .i64 xp] 41)) br s j' z (.string code) [⟨2, 1, u1, n3, data.flatMap intC⟩, ⟨41, 3, v, k, l.flatMap symC⟩, ⟨43, 4, .slice none 0 0, 0, []⟩] [.string { data := #[] }, .slice none 0 0, .slice none 0 0, .slice none 0 0]) := HC.out.below (bl_one _ _)
                refine hK.out _ _ HE.out.rd.c0 (fun hHeld => ?_)
                clear hK K
                try simp only [Act.put, List.setIfInBounds_toArray, List.set_cons_zero, List.set_cons_succ]
                refine wpAnyH_ready (rs := [5]) (by kernel_rfl) (by simp) ?_
                refine AllReadyH.cons (get1 (get1 (get1 (get1 (get1 (get0 _ _)))))) (fun K hK => ?_) AllReadyH.nil
                have HNC : Hid (∀ j u, (symC (⟨xn, xk, xp⟩ : Sym))[j]? = some u → (y.alloc (.cells #[.string xn, .int .i64 xk, .int .i64 xp] 41)).cell? ((⟨y.heap.size, 0, none⟩ : Addr).add j) = some u) := fun j u hu => by rw [Addr.add_lit, Nat.zero_add]; exact cell_last rfl (by simpa [symC] using hu)
                refine step_append_lies _ (by rfl) _ _ 23 (by rfl) (w.heap.size + 1) 41 i2 _ 3 32 Try.underlying23 hi2 hz20 hz21 hz22 (by rfl) (by decide) v k _ (by rfl) (HE.out.own 1 _ rfl).1 ⟨y.heap.size, 0, none⟩ 1 1 (symC (⟨xn, xk, xp⟩ : Sym)) (by rfl) (by rfl) HNC.out (by intro u hu; simp [symC] at hu; first | (rcases hu with rfl | rfl | rfl | rfl <;> rfl) | (rcases hu with rfl | rfl | rfl <;> rfl) | (subst hu; rfl)) (by decide) (by unfold maxLen; omega) (by omega) (by have := HE.out.zw; have := HE.out.zl; omega) (y.heap.size + 1) (by simp) ?_
                intro g cap Y6 ho6 hg6 hat6 hlt6
                have nbr : v.ownBlock ≠ some br := fun e => by have h1 := ((HE.out.own 1 _ rfl).1.lt _ e).1; have := HE.out.lt; omega
                have nz : v.ownBlock ≠ some z := (HE.out.own 1 _ rfl).2
                have h60 := (HE.out.rd.grown hg6 nbr).c0
                have m6 : Y6.cell? ⟨z, 2, none⟩ = some v := grown_row hg6 (HE.out.ck 1 _ rfl) nz
                have z6 : Y6.frozen? ⟨z, 2, none⟩ = false := (hg6.frozen_far ⟨z, 2, none⟩ HE.out.zl (fun e => nz e.symm)).trans (HE.out.fz 2)
                have HP : Hid (OB w (Y6.setCell ⟨z, 2, none⟩ (.slice (some ⟨g, 0, none⟩) (k + 1) cap)) br s j' z (.string code) [⟨2, 1, u1, n3, data.flatMap intC⟩, ⟨41, 3, (.slice (some ⟨g, 0, none⟩) (k + 1) cap), (k + 1), (l ++ [(⟨xn, xk, xp⟩ : Sym)]).flatMap symC⟩, ⟨43, 4, .slice none 0 0, 0, []⟩] [.string { data := #[] }, .slice none 0 0, .slice none 0 0, .slice none 0 0]) := by
                  have hp := HE.out.push (k := 1) rfl ho6 hg6 hat6 (by simp)
                  have e : l.flatMap symC ++ symC (⟨xn, xk, xp⟩ : Sym) = (l ++ [(⟨xn, xk, xp⟩ : Sym)]).flatMap symC := by simp
                  rw [e] at hp
                  exact hp
                refine hK.out _ _ h60 (fun hHeld => ?_)
                clear hK K ho6 hg6 hat6 hlt6 HNC
                try simp only [Act.put, List.setIfInBounds_toArray, List.set_cons_zero, List.set_cons_succ]
                refine wpAnyH_take (i := 6) (v := ?_) (get1 (get1 (get1 (get1 (get1 (get1 (get0 _ _))))))) (by kernel_rfl) (by kernel_rfl) (by kernel_rfl) (fun _ _ _ h => h) (Or.inl ⟨by rfl, ?_⟩) (by assumption) ?_
                rotate_left
                · (intro w hSw; (try dsimp only at hSw); go_simp <;> with_reducible rfl)
                simp only [Act.put, List.setIfInBounds_toArray, List.set_cons_zero, List.set_cons_succ]
                refine wpAnyH_ready (rs := [7]) (by kernel_rfl) (by simp) ?_
                refine AllReadyH.cons (get1 (get1 (get1 (get1 (get1 (get1 (get1 (get0 _ _)))))))) (fun K hK => ?_) AllReadyH.nil
                go_simp
                refine hK.out _ _ HP.out.rd.c0 (fun hHeld => ?_)
                clear hK K
                try simp only [Act.put, List.setIfInBounds_toArray, List.set_cons_zero, List.set_cons_succ]
                refine wpAnyH_done (by kernel_rfl) ?_ _
                clear hHeld m6 z6 h60
                have HLN : Hid (rdMany rdSym (k + 1) s j5 = some (l ++ [(⟨xn, xk, xp⟩ : Sym)], j')) := by show _ = _; rw [rdMany, HL.out]; simp only [HX.out]
                go_wp2_with fail
                go_roundg (n5 - (k + 1))
                case measure => omega
                case rel => exact ⟨k + 1, _, _, _, by first | rfl | (congr 1; omega), by omega, Nat.le_refl _, HLN.out, HP.out⟩
              exact AllReadyH.nil
            refine AllReadyH.cons (get1 (get1 (get1 (get1 (get0 _ _))))) (fun K hK => ?_) ?_
            · go_simp
              have HE : Hid (OB w (y.alloc (.cells #[.string xn, .int .i64 xk, .int .i64 xp] 41)) br s j' z (.string code) [⟨2, 1, u1, n3, data.flatMap intC⟩, ⟨41, 3, v, k, l.flatMap symC⟩, ⟨43, 4, .slice none 0 0, 0, []⟩] [.string { data := #[] }, .slice none 0 0, .slice none 0 0, .slice none 0 0]) := HC.out.below (bl_one _ _)
              refine hK.out _ _ HE.out.rd.c0 (fun hHeld => ?_)
              clear hK K
              try simp only [Act.put, List.setIfInBounds_toArray, List.set_cons_zero, List.set_cons_succ]
              refine wpAnyH_ready (rs := [1]) (by kernel_rfl) (by simp) ?_
              refine AllReadyH.cons (get1 (get0 _ _)) (fun K hK => ?_) ?_
              · have m1 := HE.out.ck 1 _ rfl
                go_simp
                refine hK.out _ _ hHeld (fun hHeld => ?_)
                clear hK K m1
                try simp only [Act.put, List.setIfInBounds_toArray, List.set_cons_zero, List.set_cons_succ]
                refine wpAnyH_ready (rs := [5]) (by kernel_rfl) (by simp) ?_
                refine AllReadyH.cons (get1 (get1 (get1 (get1 (get1 (get0 _ _)))))) (fun K hK => ?_) AllReadyH.nil
                have HNC : Hid (∀ j u, (symC (⟨xn, xk, xp⟩ : Sym))[j]? = some u → (y.alloc (.cells #[.string xn, .int .i64 xk, .int .i64 xp] 41)).cell? ((⟨y.heap.size, 0, none⟩ : Addr).add j) = some u) := fun j u hu => by rw [Addr.add_lit, Nat.zero_add]; exact cell_last rfl (by simpa [symC] using hu)
                refine step_append_lies _ (by rfl) _ _ 23 (by rfl) (w.heap.size + 1) 41 i2 _ 3 32 Try.underlying23 hi2 hz20 hz21 hz22 (by rfl) (by decide) v k _ (by rfl) (HE.out.own 1 _ rfl).1 ⟨y.heap.size, 0, none⟩ 1 1 (symC (⟨xn, xk, xp⟩ : Sym)) (by rfl) (by rfl) HNC.out (by intro u hu; simp [symC] at hu; first | (rcases hu with rfl | rfl | rfl | rfl <;> rfl) | (rcases hu with rfl | rfl | rfl <;> rfl) | (subst hu; rfl)) (by decide) (by unfold maxLen; omega) (by omega) (by have := HE.out.zw; have := HE.out.zl; omega) (y.heap.size + 1) (by simp) ?_
                intro g cap Y6 ho6 hg6 hat6 hlt6
                have nbr : v.ownBlock ≠ some br := fun e => by have h1 := ((HE.out.own 1 _ rfl).1.lt _ e).1; have := HE.out.lt; omega
                have nz : v.ownBlock ≠ some z := (HE.out.own 1 _ rfl).2
                have h60 := (HE.out.rd.grown hg6 nbr).c0
                have m6 : Y6.cell? ⟨z, 2, none⟩ = some v := grown_row hg6 (HE.out.ck 1 _ rfl) nz
                have z6 : Y6.frozen? ⟨z, 2, none⟩ = false := (hg6.frozen_far ⟨z, 2, none⟩ HE.out.zl (fun e => nz e.symm)).trans (HE.out.fz 2)
                have HP : Hid (OB w (Y6.setCell ⟨z, 2, none⟩ (.slice (some ⟨g, 0, none⟩) (k + 1) cap)) br s j' z (.string code) [⟨2, 1, u1, n3, data.flatMap intC⟩, ⟨41, 3, (.slice (some ⟨g, 0, none⟩) (k + 1) cap), (k + 1), (l ++ [(⟨xn, xk, xp⟩ : Sym)]).flatMap symC⟩, ⟨43, 4, .slice none 0 0, 0, []⟩] [.string { data := #[] }, .slice none 0 0, .slice none 0 0, .slice none 0 0]) := by
                  have hp := HE.out.push (k := 1) rfl ho6 hg6 hat6 (by simp)
                  have e : l.flatMap symC ++ symC (⟨xn, xk, xp⟩ : Sym) = (l ++ [(⟨xn, xk, xp⟩ : Sym)]).flatMap symC := by simp
                  rw [e] at hp
                  exact hp
                refine hK.out _ _ h60 (fun hHeld => ?_)
                clear hK K ho6 hg6 hat6 hlt6 HNC
                try simp only [Act.put, List.setIfInBounds_toArray, List.set_cons_zero, List.set_cons_succ]
                refine wpAnyH_take (i := 6) (v := ?_) (get1 (get1 (get1 (get1 (get1 (get1 (get0 _ _))))))) (by kernel_rfl) (by kernel_rfl) (by kernel_rfl) (fun _ _ _ h => h) (Or.inl ⟨by rfl, ?_⟩) (by assumption) ?_
                rotate_left
                · (intro w hSw; (try dsimp only at hSw); go_simp <;> with_reducible rfl)
                simp only [Act.put, List.setIfInBounds_toArray, List.set_cons_zero, List.set_cons_succ]
                refine wpAnyH_ready (rs := [7]) (by kernel_rfl) (by simp) ?_
                refine AllReadyH.cons (get1 (get1 (get1 (get1 (get1 (get1 (get1 (get0 _ _)))))))) (fun K hK => ?_) AllReadyH.nil
                go_simp
                refine hK.out _ _ HP.out.rd.c0 (fun hHeld => ?_)
                clear hK K
                try simp only [Act.put, List.setIfInBounds_toArray, List.set_cons_zero, List.set_cons_succ]
                refine wpAnyH_done (by kernel_rfl) ?_ _
                clear hHeld m6 z6 h60
                have HLN : Hid (rdMany rdSym (k + 1) s j5 = some (l ++ [(⟨xn, xk, xp⟩ : Sym)], j')) := by show _ = _; rw [rdMany, HL.out]; simp only [HX.out]
                go_wp2_with fail
                go_roundg (n5 - (k + 1))
                case measure => omega
                case rel => exact ⟨k + 1, _, _, _, by first | rfl | (congr 1; omega), by omega, Nat.le_refl _, HLN.out, HP.out⟩
              exact AllReadyH.nil
            exact AllReadyH.nil
          exact AllReadyH.nil
        · obtain rfl : n5 = k := by omega
          obtain ⟨syms, rfl⟩ : ∃ xs, xs = l := ⟨_, rfl⟩
          obtain ⟨u2, rfl⟩ : ∃ x, x = v := ⟨_, rfl⟩
          obtain ⟨j6, rfl⟩ : ∃ x, x = j := ⟨_, rfl⟩
          have F6 : Hid _ := HL.out
          clear HL
          go_wp2_with fail
          refine (rup_any HB.out.rd 8000 (by decide)).mono ?_
          rintro e y ⟨⟨x, j7, hf, rfl, hr⟩ | ⟨hf, c, rfl⟩, hg⟩
          rotate_left
          · have HF : Hid (rdObj s = none) := by show _ = _; simp only [rdObj, rdBody, hcot, if_true, Int.toNat_natCast, F0.out, F1.out, F2.out, F3.out, F4.out, F5.out, F6.out, hf]
            have HGG : Hid _ := grown_trans HB.out.g hg
            clear hf hg
            go_wp2
            exact ⟨rfl, .inr ⟨HF.out, c, rfl⟩, HGG.out⟩
          obtain ⟨hx0, hx1⟩ := rdUp_nonneg hf
          obtain ⟨n7, rfl⟩ : ∃ n : Nat, x = n := ⟨x.toNat, by omega⟩
          have hn7 : n7 ≤ 8000 := by omega
          have F7 : Hid (rdUp s j6 8000 = some ((n7 : Int), j7)) := hf
          have HB : Hid _ := HB.out.call hr hg
          clear hf hr hg hx0 hx1
          go_wp2_with fail
          go_loopg [39] n7 (fun r iv wq => ∃ (k : Nat) (l : List Rel) (j : Nat) (v : Value), iv = .int .i64 k ∧ k ≤ n7 ∧ n7 - k ≤ r ∧ Hid (rdMany rdRel k s j7 = some (l, j)) ∧ Hid (OB w wq br s j z (.string code) [⟨2, 1, u1, n3, data.flatMap intC⟩, ⟨41, 3, u2, n5, syms.flatMap symC⟩, ⟨43, 4, v, k, l.flatMap relC⟩] [.string { data := #[] }, .slice none 0 0, .slice none 0 0, .slice none 0 0]))
          case atStart => exact ⟨0, [], j7, _, rfl, Nat.zero_le _, by omega, (rfl : rdMany rdRel 0 s j7 = some ([], j7)), HB.out⟩
          case round =>
            obtain ⟨k, l, j, v, rfl, hk, hr, HL, HB⟩ := hrel
            by_cases hlt : k < n7
            · have hii : (k : Int) < n7 := by omega
              have hin : 0 ≤ (k : Int) := by omega
              go_wp2_with fail
              have HD : Hid (OB w wr.drew br s j z (.string code) [⟨2, 1, u1, n3, data.flatMap intC⟩, ⟨41, 3, u2, n5, syms.flatMap symC⟩, ⟨43, 4, v, k, l.flatMap relC⟩] [.string { data := #[] }, .slice none 0 0, .slice none 0 0, .slice none 0 0]) := HB.out.drew
              refine wp_region_held_drew (S := (fun w' : World => w'.cell? ⟨br, 0, none⟩ = some (.string s))) (by kernel_rfl) HD.out.rd.c0 (fun hHeld => ?_)
              refine wpAnyH_take (i := 0) (v := ?_) (get0 _ _) (by kernel_rfl) (by kernel_rfl) (by kernel_rfl) (fun _ _ _ h => h) (Or.inl ⟨by rfl, ?_⟩) (by assumption) ?_
              rotate_left
              · (intro w hSw; (try dsimp only at hSw); go_simp <;> with_reducible rfl)
              simp only [Act.put, List.setIfInBounds_toArray, List.set_cons_zero, List.set_cons_succ]
              refine wpAnyH_take (i := 2) (v := ?_) (get1 (get1 (get0 _ _))) (by kernel_rfl) (by kernel_rfl) (by kernel_rfl) (fun _ _ _ h => h) (Or.inl ⟨by rfl, ?_⟩) (by assumption) ?_
              rotate_left
              · (intro w hSw; (try dsimp only at hSw); go_simp <;> with_reducible rfl)
              simp only [Act.put, List.setIfInBounds_toArray, List.set_cons_zero, List.set_cons_succ]
              refine wpAnyH_ready (rs := [1, 3]) (by kernel_rfl) (by simp) ?_
              refine AllReadyH.cons (get1 (get0 _ _)) (fun K hK => ?_) ?_
              · have m1 := HD.out.ck 2 _ rfl
                go_simp
                refine hK.out _ _ hHeld (fun hHeld => ?_)
                clear hK K m1
                try simp only [Act.put, List.setIfInBounds_toArray, List.set_cons_zero, List.set_cons_succ]
                refine wpAnyH_ready (rs := [3]) (by kernel_rfl) (by simp) ?_
                refine AllReadyH.cons (get1 (get1 (get1 (get0 _ _)))) (fun K hK => ?_) ?_
                · go_simp
                  refine (rrel_any HD.out.rd).mono ?_
                  rintro e y ⟨⟨x, j', hf, rfl, hr⟩ | ⟨hf, c, rfl⟩, hg⟩
                  rotate_left
                  · have HF : Hid (rdObj s = none) := by show _ = _; have hcut := many_cut HL.out hlt hf; simp only [rdObj, rdBody, hcot, if_true, Int.toNat_natCast, F0.out, F1.out, F2.out, F3.out, F4.out, F5.out, F6.out, F7.out, hcut]
                    have HGG : Hid _ := grown_trans HD.out.g hg
                    clear hf hg hK
                    go_wp2
                    exact ⟨rfl, .inr ⟨HF.out, c, rfl⟩, HGG.out⟩
                  obtain ⟨xp, xk, xn, xa⟩ := x
                  simp only [relV]
                  have HC : Hid (OB w y br s j' z (.string code) [⟨2, 1, u1, n3, data.flatMap intC⟩, ⟨41, 3, u2, n5, syms.flatMap symC⟩, ⟨43, 4, v, k, l.flatMap relC⟩] [.string { data := #[] }, .slice none 0 0, .slice none 0 0, .slice none 0 0]) := HD.out.call hr hg
                  have HX : Hid _ := hf
                  clear hf hr hg
                  try go_wp2_with fail
                  refine hK.out _ _ HC.out.rd.c0 (fun hHeld => ?_)
                  clear hK K
                  try simp only [Act.put, List.setIfInBounds_toArray, List.set_cons_zero, List.set_cons_succ]
                  refine wpAnyH_ready (rs := [4]) (by kernel_rfl) (by simp) ?_
                  refine AllReadyH.cons (get1 (get1 (get1 (get1 (get0 _ _))))) (fun K hK => ?_) ?_
                  · go_simp
                    have HE : Hid (OB w (y.alloc (.cells #[.int .i64 xp, .int .i64 xk, .string xn, .int .i64 xa] 43)) br s j' z (.string code) [⟨2, 1, u1, n3, data.flatMap intC⟩, ⟨41, 3, u2, n5, syms.flatMap symC⟩, ⟨43, 4, v, k, l.flatMap relC⟩] [.string { data := #[] }, .slice none 0 0, .slice none 0 0, .slice none 0 0]) := HC.out.below (bl_one _ _)
                    refine hK.out _ _ HE.out.rd.c0 (fun hHeld => ?_)
                    clear hK K
                    try simp only [Act.put, List.setIfInBounds_toArray, List.set_cons_zero, List.set_cons_succ]
                    refine wpAnyH_ready (rs := [5]) (by kernel_rfl) (by simp) ?_
                    refine AllReadyH.cons (get1 (get1 (get1 (get1 (get1 (get0 _ _)))))) (fun K hK => ?_) AllReadyH.nil
                    have HNC : Hid (∀ j u, (relC (⟨xp, xk, xn, xa⟩ : Rel))[j]? = some u → (y.alloc (.cells #[.int .i64 xp, .int .i64 xk, .string xn, .int .i64 xa] 43)).cell? ((⟨y.heap.size, 0, none⟩ : Addr).add j) = some u) := fun j u hu => by rw [Addr.add_lit, Nat.zero_add]; exact cell_last rfl (by simpa [relC] using hu)
                    refine step_append_lies _ (by rfl) _ _ 24 (by rfl) (w.heap.size + 1) 43 i3 _ 4 40 Try.underlying24 hi3 hz30 hz31 hz32 (by rfl) (by decide) v k _ (by rfl) (HE.out.own 2 _ rfl).1 ⟨y.heap.size, 0, none⟩ 1 1 (relC (⟨xp, xk, xn, xa⟩ : Rel)) (by rfl) (by rfl) HNC.out (by intro u hu; simp [relC] at hu; first | (rcases hu with rfl | rfl | rfl | rfl <;> rfl) | (rcases hu with rfl | rfl | rfl <;> rfl) | (subst hu; rfl)) (by decide) (by unfold maxLen; omega) (by omega) (by have := HE.out.zw; have := HE.out.zl; omega) (y.heap.size + 1) (by simp) ?_
                    intro g cap Y6 ho6 hg6 hat6 hlt6
                    have nbr : v.ownBlock ≠ some br := fun e => by have h1 := ((HE.out.own 2 _ rfl).1.lt _ e).1; have := HE.out.lt; omega
                    have nz : v.ownBlock ≠ some z := (HE.out.own 2 _ rfl).2
                    have h60 := (HE.out.rd.grown hg6 nbr).c0
                    have m6 : Y6.cell? ⟨z, 3, none⟩ = some v := grown_row hg6 (HE.out.ck 2 _ rfl) nz
                    have z6 : Y6.frozen? ⟨z, 3, none⟩ = false := (hg6.frozen_far ⟨z, 3, none⟩ HE.out.zl (fun e => nz e.symm)).trans (HE.out.fz 3)
                    have HP : Hid (OB w (Y6.setCell ⟨z, 3, none⟩ (.slice (some ⟨g, 0, none⟩) (k + 1) cap)) br s j' z (.string code) [⟨2, 1, u1, n3, data.flatMap intC⟩, ⟨41, 3, u2, n5, syms.flatMap symC⟩, ⟨43, 4, (.slice (some ⟨g, 0, none⟩) (k + 1) cap), (k + 1), (l ++ [(⟨xp, xk, xn, xa⟩ : Rel)]).flatMap relC⟩] [.string { data := #[] }, .slice none 0 0, .slice none 0 0, .slice none 0 0]) := by
                      have hp := HE.out.push (k := 2) rfl ho6 hg6 hat6 (by simp)
                      have e : l.flatMap relC ++ relC (⟨xp, xk, xn, xa⟩ : Rel) = (l ++ [(⟨xp, xk, xn, xa⟩ : Rel)]).flatMap relC := by simp
                      rw [e] at hp
                      exact hp
                    refine hK.out _ _ h60 (fun hHeld => ?_)
                    clear hK K ho6 hg6 hat6 hlt6 HNC
                    try simp only [Act.put, List.setIfInBounds_toArray, List.set_cons_zero, List.set_cons_succ]
                    refine wpAnyH_take (i := 6) (v := ?_) (get1 (get1 (get1 (get1 (get1 (get1 (get0 _ _))))))) (by kernel_rfl) (by kernel_rfl) (by kernel_rfl) (fun _ _ _ h => h) (Or.inl ⟨by rfl, ?_⟩) (by assumption) ?_
                    rotate_left
                    · (intro w hSw; (try dsimp only at hSw); go_simp <;> with_reducible rfl)
                    simp only [Act.put, List.setIfInBounds_toArray, List.set_cons_zero, List.set_cons_succ]
                    refine wpAnyH_ready (rs := [7]) (by kernel_rfl) (by simp) ?_
                    refine AllReadyH.cons (get1 (get1 (get1 (get1 (get1 (get1 (get1 (get0 _ _)))))))) (fun K hK => ?_) AllReadyH.nil
                    go_simp
                    refine hK.out _ _ HP.out.rd.c0 (fun hHeld => ?_)
                    clear hK K
                    try simp only [Act.put, List.setIfInBounds_toArray, List.set_cons_zero, List.set_cons_succ]
                    refine wpAnyH_done (by kernel_rfl) ?_ _
                    clear hHeld m6 z6 h60
                    have HLN : Hid (rdMany rdRel (k + 1) s j7 = some (l ++ [(⟨xp, xk, xn, xa⟩ : Rel)], j')) := by show _ = _; rw [rdMany, HL.out]; simp only [HX.out]
                    go_wp2_with fail
                    go_roundg (n7 - (k + 1))
                    case measure => omega
                    case rel => exact ⟨k + 1, _, _, _, by first | rfl | (congr 1; omega), by omega, Nat.le_refl _, HLN.out, HP.out⟩
                  exact AllReadyH.nil
                exact AllReadyH.nil
              refine AllReadyH.cons (get1 (get1 (get1 (get0 _ _)))) (fun K hK => ?_) ?_
              · go_simp
                refine (rrel_any HD.out.rd).mono ?_
                rintro e y ⟨⟨x, j', hf, rfl, hr⟩ | ⟨hf, c, rfl⟩, hg⟩
                rotate_left
                · have HF : Hid (rdObj s = none) := by show _ = _; have hcut := many_cut HL.out hlt hf; simp only [rdObj, rdBody, hcot, if_true, Int.toNat_natCast, F0.out, F1.out, F2.out, F3.out, F4.out, F5.out, F6.out, F7.out, hcut]
                  have HGG : Hid _ := grown_trans HD.out.g hg
                  clear hf hg hK
                  go_wp2
                  exact ⟨rfl, .inr ⟨HF.out, c, rfl⟩, HGG.out⟩
                obtain ⟨xp, xk, xn, xa⟩ := x
                simp only [relV]
                have HC : Hid (OB w y br s j' z (.string code) [⟨2, 1, u1, n3, data.flatMap intC⟩, ⟨41, 3, u2, n5, syms.flatMap symC⟩, ⟨43, 4, v, k, l.flatMap relC⟩] [.string { data := #[] }, .slice none 0 0, .slice none 0 0, .slice none 0 0]) := HD.out.call hr hg
                have HX : Hid _ := hf
                clear hf hr hg
                try go_wp2_with fail
                refine hK.out _ _ HC.out.rd.c0 (fun hHeld => ?_)
                clear hK K
                try simp only [Act.put, List.setIfInBounds_toArray, List.set_cons_zero, List.set_cons_succ]
                refine wpAnyH_ready (rs := [1, 4]) (by kernel_rfl) (by simp) ?_
                refine AllReadyH.cons (get1 (get0 _ _)) (fun K hK => ?_) ?_
                · have m1 := HC.out.ck 2 _ rfl
                  go_simp
                  refine hK.out _ _ hHeld (fun hHeld => ?_)
                  clear hK K m1
                  try simp only [Act.put, List.setIfInBounds_toArray, List.set_cons_zero, List.set_cons_succ]
                  refine wpAnyH_ready (rs := [4]) (by kernel_rfl) (by simp) ?_
                  refine AllReadyH.cons (get1 (get1 (get1 (get1 (get0 _ _))))) (fun K hK => ?_) ?_
                  · go_simp
                    have HE : Hid (OB w (y.alloc (.cells #[.int .i64 xp, .int .i64 xk, .string xn, .int .i64 xa] 43)) br s j' z (.string code) [⟨2, 1, u1, n3, data.flatMap intC⟩, ⟨41, 3, u2, n5, syms.flatMap symC⟩, ⟨43, 4, v, k, l.flatMap relC⟩] [.string { data := #[] }, .slice none 0 0, .slice none 0 0, .slice none 0 0]) := HC.out.below (bl_one _ _)
                    refine hK.out _ _ HE.out.rd.c0 (fun hHeld => ?_)
                    clear hK K
                    try simp only [Act.put, List.setIfInBounds_toArray, List.set_cons_zero, List.set_cons_succ]
                    refine wpAnyH_ready (rs := [5]) (by kernel_rfl) (by simp) ?_
                    refine AllReadyH.cons (get1 (get1 (get1 (get1 (get1 (get0 _ _)))))) (fun K hK => ?_) AllReadyH.nil
                    have HNC : Hid (∀ j u, (relC (⟨xp, xk, xn, xa⟩ : Rel))[j]? = some u → (y.alloc (.cells #[.int .i64 xp, .int .i64 xk, .string xn, .int .i64 xa] 43)).cell? ((⟨y.heap.size, 0, none⟩ : Addr).add j) = some u) := fun j u hu => by rw [Addr.add_lit, Nat.zero_add]; exact cell_last rfl (by simpa [relC] using hu)
                    refine step_append_lies _ (by rfl) _ _ 24 (by rfl) (w.heap.size + 1) 43 i3 _ 4 40 Try.underlying24 hi3 hz30 hz31 hz32 (by rfl) (by decide) v k _ (by rfl) (HE.out.own 2 _ rfl).1 ⟨y.heap.size, 0, none⟩ 1 1 (relC (⟨xp, xk, xn, xa⟩ : Rel)) (by rfl) (by rfl) HNC.out (by intro u hu; simp [relC] at hu; first | (rcases hu with rfl | rfl | rfl | rfl <;> rfl) | (rcases hu with rfl | rfl | rfl <;> rfl) | (subst hu; rfl)) (by decide) (by unfold maxLen; omega) (by omega) (by have := HE.out.zw; have := HE.out.zl; omega) (y.heap.size + 1) (by simp) ?_
                    intro g cap Y6 ho6 hg6 hat6 hlt6
                    have nbr : v.ownBlock ≠ some br := fun e => by have h1 := ((HE.out.own 2 _ rfl).1.lt _ e).1; have := HE.out.lt; omega
                    have nz : v.ownBlock ≠ some z := (HE.out.own 2 _ rfl).2
                    have h60 := (HE.out.rd.grown hg6 nbr).c0
                    have m6 : Y6.cell? ⟨z, 3, none⟩ = some v := grown_row hg6 (HE.out.ck 2 _ rfl) nz
                    have z6 : Y6.frozen? ⟨z, 3, none⟩ = false := (hg6.frozen_far ⟨z, 3, none⟩ HE.out.zl (fun e => nz e.symm)).trans (HE.out.fz 3)
                    have HP : Hid (OB w (Y6.setCell ⟨z, 3, none⟩ (.slice (some ⟨g, 0, none⟩) (k + 1) cap)) br s j' z (.string code) [⟨2, 1, u1, n3, data.flatMap intC⟩, ⟨41, 3, u2, n5, syms.flatMap symC⟩, ⟨43, 4, (.slice (some ⟨g, 0, none⟩) (k + 1) cap), (k + 1), (l ++ [(⟨xp, xk, xn, xa⟩ : Rel)]).flatMap relC⟩] [.string { data := #[] }, .slice none 0 0, .slice none 0 0, .slice none 0 0]) := by
                      have hp := HE.out.push (k := 2) rfl ho6 hg6 hat6 (by simp)
                      have e : l.flatMap relC ++ relC (⟨xp, xk, xn, xa⟩ : Rel) = (l ++ [(⟨xp, xk, xn, xa⟩ : Rel)]).flatMap relC := by simp
                      rw [e] at hp
                      exact hp
                    refine hK.out _ _ h60 (fun hHeld => ?_)
                    clear hK K ho6 hg6 hat6 hlt6 HNC
                    try simp only [Act.put, List.setIfInBounds_toArray, List.set_cons_zero, List.set_cons_succ]
                    refine wpAnyH_take (i := 6) (v := ?_) (get1 (get1 (get1 (get1 (get1 (get1 (get0 _ _))))))) (by kernel_rfl) (by kernel_rfl) (by kernel_rfl) (fun _ _ _ h => h) (Or.inl ⟨by rfl, ?_⟩) (by assumption) ?_
                    rotate_left
                    · (intro w hSw; (try dsimp only at hSw); go_simp <;> with_reducible rfl)
                    simp only [Act.put, List.setIfInBounds_toArray, List.set_cons_zero, List.set_cons_succ]
                    refine wpAnyH_ready (rs := [7]) (by kernel_rfl) (by simp) ?_
                    refine AllReadyH.cons (get1 (get1 (get1 (get1 (get1 (get1 (get1 (get0 _ _)))))))) (fun K hK => ?_) AllReadyH.nil
                    go_simp
                    refine hK.out _ _ HP.out.rd.c0 (fun hHeld => ?_)
                    clear hK K
                    try simp only [Act.put, List.setIfInBounds_toArray, List.set_cons_zero, List.set_cons_succ]
                    refine wpAnyH_done (by kernel_rfl) ?_ _
                    clear hHeld m6 z6 h60
                    have HLN : Hid (rdMany rdRel (k + 1) s j7 = some (l ++ [(⟨xp, xk, xn, xa⟩ : Rel)], j')) := by show _ = _; rw [rdMany, HL.out]; simp only [HX.out]
                    go_wp2_with fail
                    go_roundg (n7 - (k + 1))
                    case measure => omega
                    case rel => exact ⟨k + 1, _, _, _, by first | rfl | (congr 1; omega), by omega, Nat.le_refl _, HLN.out, HP.out⟩
                  exact AllReadyH.nil
                refine AllReadyH.cons (get1 (get1 (get1 (get1 (get0 _ _))))) (fun K hK => ?_) ?_
                · go_simp
                  have HE : Hid (OB w (y.alloc (.cells #[.int .i64 xp, .int .i64 xk, .string xn, .int .i64 xa] 43)) br s j' z (.string code) [⟨2, 1, u1, n3, data.flatMap intC⟩, ⟨41, 3, u2, n5, syms.flatMap symC⟩, ⟨43, 4, v, k, l.flatMap relC⟩] [.string { data := #[] }, .slice none 0 0, .slice none 0 0, .slice none 0 0]) := HC.out.below (bl_one _ _)
                  refine hK.out _ _ HE.out.rd.c0 (fun hHeld => ?_)
                  clear hK K
                  try simp only [Act.put, List.setIfInBounds_toArray, List.set_cons_zero, List.set_cons_succ]
                  refine wpAnyH_ready (rs := [1]) (by kernel_rfl) (by simp) ?_
                  refine AllReadyH.cons (get1 (get0 _ _)) (fun K hK => ?_) ?_
                  · have m1 := HE.out.ck 2 _ rfl
                    go_simp
                    refine hK.out _ _ hHeld (fun hHeld => ?_)
                    clear hK K m1
                    try simp only [Act.put, List.setIfInBounds_toArray, List.set_cons_zero, List.set_cons_succ]
                    refine wpAnyH_ready (rs := [5]) (by kernel_rfl) (by simp) ?_
                    refine AllReadyH.cons (get1 (get1 (get1 (get1 (get1 (get0 _ _)))))) (fun K hK => ?_) AllReadyH.nil
                    have HNC : Hid (∀ j u, (relC (⟨xp, xk, xn, xa⟩ : Rel))[j]? = some u → (y.alloc (.cells #[.int .i64 xp, .int .i64 xk, .string xn, .int .i64 xa] 43)).cell? ((⟨y.heap.size, 0, none⟩ : Addr).add j) = some u) := fun j u hu => by rw [Addr.add_lit, Nat.zero_add]; exact cell_last rfl (by simpa [relC] using hu)
                    refine step_append_lies _ (by rfl) _ _ 24 (by rfl) (w.heap.size + 1) 43 i3 _ 4 40 Try.underlying24 hi3 hz30 hz31 hz32 (by rfl) (by decide) v k _ (by rfl) (HE.out.own 2 _ rfl).1 ⟨y.heap.size, 0, none⟩ 1 1 (relC (⟨xp, xk, xn, xa⟩ : Rel)) (by rfl) (by rfl) HNC.out (by intro u hu; simp [relC] at hu; first | (rcases hu with rfl | rfl | rfl | rfl <;> rfl) | (rcases hu with rfl | rfl | rfl <;> rfl) | (subst hu; rfl)) (by decide) (by unfold maxLen; omega) (by omega) (by have := HE.out.zw; have := HE.out.zl; omega) (y.heap.size + 1) (by simp) ?_
                    intro g cap Y6 ho6 hg6 hat6 hlt6
                    have nbr : v.ownBlock ≠ some br := fun e => by have h1 := ((HE.out.own 2 _ rfl).1.lt _ e).1; have := HE.out.lt; omega
                    have nz : v.ownBlock ≠ some z := (HE.out.own 2 _ rfl).2
                    have h60 := (HE.out.rd.grown hg6 nbr).c0
                    have m6 : Y6.cell? ⟨z, 3, none⟩ = some v := grown_row hg6 (HE.out.ck 2 _ rfl) nz
                    have z6 : Y6.frozen? ⟨z, 3, none⟩ = false := (hg6.frozen_far ⟨z, 3, none⟩ HE.out.zl (fun e => nz e.symm)).trans (HE.out.fz 3)
                    have HP : Hid (OB w (Y6.setCell ⟨z, 3, none⟩ (.slice (some ⟨g, 0, none⟩) (k + 1) cap)) br s j' z (.string code) [⟨2, 1, u1, n3, data.flatMap intC⟩, ⟨41, 3, u2, n5, syms.flatMap symC⟩, ⟨43, 4, (.slice (some ⟨g, 0, none⟩) (k + 1) cap), (k + 1), (l ++ [(⟨xp, xk, xn, xa⟩ : Rel)]).flatMap relC⟩] [.string { data := #[] }, .slice none 0 0, .slice none 0 0, .slice none 0 0]) := by
                      have hp := HE.out.push (k := 2) rfl ho6 hg6 hat6 (by simp)
                      have e : l.flatMap relC ++ relC (⟨xp, xk, xn, xa⟩ : Rel) = (l ++ [(⟨xp, xk, xn, xa⟩ : Rel)]).flatMap relC := by simp
                      rw [e] at hp
                      exact hp
                    refine hK.out _ _ h60 (fun hHeld => ?_)
                    clear hK K ho6 hg6 hat6 hlt6 HNC
                    try simp only [Act.put, List.setIfInBounds_toArray, List.set_cons_zero, List.set_cons_succ]
                    refine wpAnyH_take (i := 6) (v := ?_) (get1 (get1 (get1 (get1 (get1 (get1 (get0 _ _))))))) (by kernel_rfl) (by kernel_rfl) (by kernel_rfl) (fun _ _ _ h => h) (Or.inl ⟨by rfl, ?_⟩) (by assumption) ?_
                    rotate_left
                    · (intro w hSw; (try dsimp only at hSw); go_simp <;> with_reducible rfl)
                    simp only [Act.put, List.setIfInBounds_toArray, List.set_cons_zero, List.set_cons_succ]
                    refine wpAnyH_ready (rs := [7]) (by kernel_rfl) (by simp) ?_
                    refine AllReadyH.cons (get1 (get1 (get1 (get1 (get1 (get1 (get1 (get0 _ _)))))))) (fun K hK => ?_) AllReadyH.nil
                    go_simp
                    refine hK.out _ _ HP.out.rd.c0 (fun hHeld => ?_)
                    clear hK K
                    try simp only [Act.put, List.setIfInBounds_toArray, List.set_cons_zero, List.set_cons_succ]
                    refine wpAnyH_done (by kernel_rfl) ?_ _
                    clear hHeld m6 z6 h60
                    have HLN : Hid (rdMany rdRel (k + 1) s j7 = some (l ++ [(⟨xp, xk, xn, xa⟩ : Rel)], j')) := by show _ = _; rw [rdMany, HL.out]; simp only [HX.out]
                    go_wp2_with fail
                    go_roundg (n7 - (k + 1))
                    case measure => omega
                    case rel => exact ⟨k + 1, _, _, _, by first | rfl | (congr 1; omega), by omega, Nat.le_refl _, HLN.out, HP.out⟩
                  exact AllReadyH.nil
                exact AllReadyH.nil
              exact AllReadyH.nil
            · obtain rfl : n7 = k := by omega
              obtain ⟨rels, rfl⟩ : ∃ xs, xs = l := ⟨_, rfl⟩
              obtain ⟨u3, rfl⟩ : ∃ x, x = v := ⟨_, rfl⟩
              obtain ⟨j8, rfl⟩ : ∃ x, x = j := ⟨_, rfl⟩
              have F8 : Hid _ := HL.out
              clear HL
              go_wp2_with fail
              have HBODY : Hid (rdBody s = some (⟨code, data, syms, rels⟩, j8)) := by show _ = _; simp only [rdBody, hcot, if_true, Int.toNat_natCast, F0.out, F1.out, F2.out, F3.out, F4.out, F5.out, F6.out, F7.out, F8.out]
              have HIN : Hid _ := (body_sound HBODY.out).2.2
              have l1 := many_len F4.out
              have l2 := many_len F6.out
              have l3 := many_len F8.out
              have HOF : Hid (ObjF (w.heap.size + 1) wr (.agg #[.string code, u1, u2, u3]) ⟨code, data, syms, rels⟩) := by
                refine ⟨⟨u1, u2, u3, rfl, ?_, ?_, ?_⟩, HIN.out⟩
                · show World.ownsRow _ _ _ _ _ data.length _
                  rw [l1]; exact (HB.out.own 0 _ rfl).1
                · show World.ownsRow _ _ _ _ _ syms.length _
                  rw [l2]; exact (HB.out.own 1 _ rfl).1
                · show World.ownsRow _ _ _ _ _ rels.length _
                  rw [l3]; exact (HB.out.own 2 _ rfl).1
              clear l1 l2 l3
              obtain ⟨a1, c1, rfl⟩ : ∃ a c, u1 = .slice a n3 c := own_slice (HB.out.own 0 _ rfl).1
              obtain ⟨a2, c2, rfl⟩ : ∃ a c, u2 = .slice a n5 c := own_slice (HB.out.own 1 _ rfl).1
              obtain ⟨a3, c3, rfl⟩ : ∃ a c, u3 = .slice a n7 c := own_slice (HB.out.own 2 _ rfl).1
              have HD : Hid _ := HB.out.drew
              have HS : Hid ((wr.drew.cell? ⟨br, 0, none⟩ = some (.string s) ∧ wr.drew.cell? ⟨br, 1, none⟩ = some (.int .i64 j8) ∧ wr.drew.cell? ⟨z, 0, none⟩ = some (.string code) ∧ wr.drew.cell? ⟨z, 1, none⟩ = some (.slice a1 n3 c1) ∧ wr.drew.cell? ⟨z, 2, none⟩ = some (.slice a2 n5 c2) ∧ wr.drew.cell? ⟨z, 3, none⟩ = some (.slice a3 n7 c3))) := ⟨HD.out.rd.c0, HD.out.rd.c1, HD.out.c0, HD.out.ck 0 _ rfl, HD.out.ck 1 _ rfl, HD.out.ck 2 _ rfl⟩
              by_cases hj : j8 = s.size
              rotate_left
              · have HF : Hid (rdObj s = none) := by show _ = _; simp only [rdObj, HBODY.out]; rw [if_neg (fun h => hj h.1)]
                have hd : ((j8 : Int) != (s.size : Int)) = true := by simp; omega
                have hszz : s.size ≤ 9223372036854775807 := by have := HD.out.rd.sz; unfold maxLen at this; omega
                refine wp_region_held_drew (S := (fun w' : World => (w'.cell? ⟨br, 0, none⟩ = some (.string s) ∧ w'.cell? ⟨br, 1, none⟩ = some (.int .i64 j8) ∧ w'.cell? ⟨z, 0, none⟩ = some (.string code) ∧ w'.cell? ⟨z, 1, none⟩ = some (.slice a1 n3 c1) ∧ w'.cell? ⟨z, 2, none⟩ = some (.slice a2 n5 c2) ∧ w'.cell? ⟨z, 3, none⟩ = some (.slice a3 n7 c3)))) (by kernel_rfl) HS.out (fun hHeld => ?_)
                refine wpAnyH_take (i := 0) (v := ?_) (get0 _ _) (by kernel_rfl) (by kernel_rfl) (by kernel_rfl) (fun _ _ _ h => h) (Or.inl ⟨by rfl, ?_⟩) (by assumption) ?_
                rotate_left
                · (intro w hSw; (try dsimp only at hSw); go_simp <;> with_reducible rfl)
                simp only [Act.put, List.setIfInBounds_toArray, List.set_cons_zero, List.set_cons_succ]
                refine wpAnyH_take (i := 1) (v := ?_) (get1 (get0 _ _)) (by kernel_rfl) (by kernel_rfl) (by kernel_rfl) (fun _ _ _ h => h) (Or.inl ⟨by rfl, ?_⟩) (by assumption) ?_
                rotate_left
                · (intro w hSw; (try dsimp only at hSw); go_simp <;> with_reducible rfl)
                simp only [Act.put, List.setIfInBounds_toArray, List.set_cons_zero, List.set_cons_succ]
                refine wpAnyH_take (i := 2) (v := ?_) (get1 (get1 (get0 _ _))) (by kernel_rfl) (by kernel_rfl) (by kernel_rfl) (fun _ _ _ h => h) (Or.inl ⟨by rfl, ?_⟩) (by assumption) ?_
                rotate_left
                · (intro w hSw; (try dsimp only at hSw); go_simp <;> with_reducible rfl)
                simp only [Act.put, List.setIfInBounds_toArray, List.set_cons_zero, List.set_cons_succ]
                refine wpAnyH_take (i := 3) (v := ?_) (get1 (get1 (get1 (get0 _ _)))) (by kernel_rfl) (by kernel_rfl) (by kernel_rfl) (fun _ _ _ h => h) (Or.inl ⟨by rfl, ?_⟩) (by assumption) ?_
                rotate_left
                · (intro w hSw; (try dsimp only at hSw); go_simp <;> with_reducible rfl)
                simp only [Act.put, List.setIfInBounds_toArray, List.set_cons_zero, List.set_cons_succ]
                refine wpAnyH_take (i := 4) (v := ?_) (get1 (get1 (get1 (get1 (get0 _ _))))) (by kernel_rfl) (by kernel_rfl) (by kernel_rfl) (fun _ _ _ h => h) (Or.inl ⟨by rfl, ?_⟩) (by assumption) ?_
                rotate_left
                · (intro w hSw; (try dsimp only at hSw); go_simp <;> with_reducible rfl)
                simp only [Act.put, List.setIfInBounds_toArray, List.set_cons_zero, List.set_cons_succ]
                refine wpAnyH_take (i := 5) (v := ?_) (get1 (get1 (get1 (get1 (get1 (get0 _ _)))))) (by kernel_rfl) (by kernel_rfl) (by kernel_rfl) (fun _ _ _ h => h) (Or.inl ⟨by rfl, ?_⟩) (by assumption) ?_
                rotate_left
                · (intro w hSw; (try dsimp only at hSw); go_simp <;> with_reducible rfl)
                simp only [Act.put, List.setIfInBounds_toArray, List.set_cons_zero, List.set_cons_succ]
                refine wpAnyH_take (i := 6) (v := ?_) (get1 (get1 (get1 (get1 (get1 (get1 (get0 _ _))))))) (by kernel_rfl) (by kernel_rfl) (by kernel_rfl) (fun _ _ _ h => h) (Or.inl ⟨by rfl, ?_⟩) (by assumption) ?_
                rotate_left
                · (intro w hSw; (try dsimp only at hSw); go_simp <;> with_reducible rfl)
                simp only [Act.put, List.setIfInBounds_toArray, List.set_cons_zero, List.set_cons_succ]
                refine wpAnyH_take (i := 7) (v := ?_) (get1 (get1 (get1 (get1 (get1 (get1 (get1 (get0 _ _)))))))) (by kernel_rfl) (by kernel_rfl) (by kernel_rfl) (fun _ _ _ h => h) (Or.inl ⟨by rfl, ?_⟩) (by assumption) ?_
                rotate_left
                · (intro w hSw; (try dsimp only at hSw); go_simp <;> with_reducible rfl)
                simp only [Act.put, List.setIfInBounds_toArray, List.set_cons_zero, List.set_cons_succ]
                refine wpAnyH_take (i := 8) (v := ?_) (get1 (get1 (get1 (get1 (get1 (get1 (get1 (get1 (get0 _ _))))))))) (by kernel_rfl) (by kernel_rfl) (by kernel_rfl) (fun _ _ _ h => h) (Or.inl ⟨by rfl, ?_⟩) (by assumption) ?_
                rotate_left
                · (intro w hSw; (try dsimp only at hSw); go_simp <;> with_reducible rfl)
                simp only [Act.put, List.setIfInBounds_toArray, List.set_cons_zero, List.set_cons_succ]
                refine wpAnyH_take (i := 9) (v := ?_) (get1 (get1 (get1 (get1 (get1 (get1 (get1 (get1 (get1 (get0 _ _)))))))))) (by kernel_rfl) (by kernel_rfl) (by kernel_rfl) (fun _ _ _ h => h) (Or.inl ⟨by rfl, ?_⟩) (by assumption) ?_
                rotate_left
                · (intro w hSw; (try dsimp only at hSw); go_simp <;> with_reducible rfl)
                simp only [Act.put, List.setIfInBounds_toArray, List.set_cons_zero, List.set_cons_succ]
                refine wpAnyH_take (i := 10) (v := ?_) (get1 (get1 (get1 (get1 (get1 (get1 (get1 (get1 (get1 (get1 (get0 _ _))))))))))) (by kernel_rfl) (by kernel_rfl) (by kernel_rfl) (fun _ _ _ h => h) (Or.inl ⟨by rfl, ?_⟩) (by assumption) ?_
                rotate_left
                · (intro w hSw; (try dsimp only at hSw); go_simp <;> with_reducible rfl)
                simp only [Act.put, List.setIfInBounds_toArray, List.set_cons_zero, List.set_cons_succ]
                refine wpAnyH_take (i := 11) (v := undef) (get1 (get1 (get1 (get1 (get1 (get1 (get1 (get1 (get1 (get1 (get1 (get0 _ _)))))))))))) (by kernel_rfl) (by kernel_rfl) (by kernel_rfl) (fun _ _ _ h => h) (Or.inr ⟨by rfl, rfl⟩) (by assumption) ?_
                simp only [Act.put, List.setIfInBounds_toArray, List.set_cons_zero, List.set_cons_succ]
                refine wpAnyH_take (i := 12) (v := undef) (get1 (get1 (get1 (get1 (get1 (get1 (get1 (get1 (get1 (get1 (get1 (get1 (get0 _ _))))))))))))) (by kernel_rfl) (by kernel_rfl) (by kernel_rfl) (fun _ _ _ h => h) (Or.inr ⟨by rfl, rfl⟩) (by assumption) ?_
                simp only [Act.put, List.setIfInBounds_toArray, List.set_cons_zero, List.set_cons_succ]
                refine wpAnyH_take (i := 13) (v := undef) (get1 (get1 (get1 (get1 (get1 (get1 (get1 (get1 (get1 (get1 (get1 (get1 (get1 (get0 _ _)))))))))))))) (by kernel_rfl) (by kernel_rfl) (by kernel_rfl) (fun _ _ _ h => h) (Or.inr ⟨by rfl, rfl⟩) (by assumption) ?_
                simp only [Act.put, List.setIfInBounds_toArray, List.set_cons_zero, List.set_cons_succ]
                refine wpAnyH_take (i := 14) (v := ?_) (get1 (get1 (get1 (get1 (get1 (get1 (get1 (get1 (get1 (get1 (get1 (get1 (get1 (get1 (get0 _ _))))))))))))))) (by kernel_rfl) (by kernel_rfl) (by kernel_rfl) (fun _ _ _ h => h) (Or.inl ⟨by rfl, ?_⟩) (by assumption) ?_
                rotate_left
                · (intro w hSw; (try dsimp only at hSw); go_simp <;> with_reducible rfl)
                simp only [Act.put, List.setIfInBounds_toArray, List.set_cons_zero, List.set_cons_succ]
                refine wpAnyH_done (by kernel_rfl) ?_ _
                clear hHeld
                go_wp2
                exact ⟨rfl, .inr ⟨HF.out, _, rfl⟩, HD.out.g⟩
              · have hd : ((j8 : Int) != (s.size : Int)) = false := by simp; omega
                have hszz : s.size ≤ 9223372036854775807 := by have := HD.out.rd.sz; unfold maxLen at this; omega
                have HJ : Hid _ := hj
                clear hj
                refine wp_region_held_drew (S := (fun w' : World => (w'.cell? ⟨br, 0, none⟩ = some (.string s) ∧ w'.cell? ⟨br, 1, none⟩ = some (.int .i64 j8) ∧ w'.cell? ⟨z, 0, none⟩ = some (.string code) ∧ w'.cell? ⟨z, 1, none⟩ = some (.slice a1 n3 c1) ∧ w'.cell? ⟨z, 2, none⟩ = some (.slice a2 n5 c2) ∧ w'.cell? ⟨z, 3, none⟩ = some (.slice a3 n7 c3)))) (by kernel_rfl) HS.out (fun hHeld => ?_)
                refine wpAnyH_take (i := 0) (v := ?_) (get0 _ _) (by kernel_rfl) (by kernel_rfl) (by kernel_rfl) (fun _ _ _ h => h) (Or.inl ⟨by rfl, ?_⟩) (by assumption) ?_
                rotate_left
                · (intro w hSw; (try dsimp only at hSw); go_simp <;> with_reducible rfl)
                simp only [Act.put, List.setIfInBounds_toArray, List.set_cons_zero, List.set_cons_succ]
                refine wpAnyH_take (i := 1) (v := ?_) (get1 (get0 _ _)) (by kernel_rfl) (by kernel_rfl) (by kernel_rfl) (fun _ _ _ h => h) (Or.inl ⟨by rfl, ?_⟩) (by assumption) ?_
                rotate_left
                · (intro w hSw; (try dsimp only at hSw); go_simp <;> with_reducible rfl)
                simp only [Act.put, List.setIfInBounds_toArray, List.set_cons_zero, List.set_cons_succ]
                refine wpAnyH_take (i := 2) (v := ?_) (get1 (get1 (get0 _ _))) (by kernel_rfl) (by kernel_rfl) (by kernel_rfl) (fun _ _ _ h => h) (Or.inl ⟨by rfl, ?_⟩) (by assumption) ?_
                rotate_left
                · (intro w hSw; (try dsimp only at hSw); go_simp <;> with_reducible rfl)
                simp only [Act.put, List.setIfInBounds_toArray, List.set_cons_zero, List.set_cons_succ]
                refine wpAnyH_take (i := 3) (v := ?_) (get1 (get1 (get1 (get0 _ _)))) (by kernel_rfl) (by kernel_rfl) (by kernel_rfl) (fun _ _ _ h => h) (Or.inl ⟨by rfl, ?_⟩) (by assumption) ?_
                rotate_left
                · (intro w hSw; (try dsimp only at hSw); go_simp <;> with_reducible rfl)
                simp only [Act.put, List.setIfInBounds_toArray, List.set_cons_zero, List.set_cons_succ]
                refine wpAnyH_take (i := 4) (v := ?_) (get1 (get1 (get1 (get1 (get0 _ _))))) (by kernel_rfl) (by kernel_rfl) (by kernel_rfl) (fun _ _ _ h => h) (Or.inl ⟨by rfl, ?_⟩) (by assumption) ?_
                rotate_left
                · (intro w hSw; (try dsimp only at hSw); go_simp <;> with_reducible rfl)
                simp only [Act.put, List.setIfInBounds_toArray, List.set_cons_zero, List.set_cons_succ]
                refine wpAnyH_take (i := 5) (v := ?_) (get1 (get1 (get1 (get1 (get1 (get0 _ _)))))) (by kernel_rfl) (by kernel_rfl) (by kernel_rfl) (fun _ _ _ h => h) (Or.inl ⟨by rfl, ?_⟩) (by assumption) ?_
                rotate_left
                · (intro w hSw; (try dsimp only at hSw); go_simp <;> with_reducible rfl)
                simp only [Act.put, List.setIfInBounds_toArray, List.set_cons_zero, List.set_cons_succ]
                refine wpAnyH_take (i := 6) (v := ?_) (get1 (get1 (get1 (get1 (get1 (get1 (get0 _ _))))))) (by kernel_rfl) (by kernel_rfl) (by kernel_rfl) (fun _ _ _ h => h) (Or.inl ⟨by rfl, ?_⟩) (by assumption) ?_
                rotate_left
                · (intro w hSw; (try dsimp only at hSw); go_simp <;> with_reducible rfl)
                simp only [Act.put, List.setIfInBounds_toArray, List.set_cons_zero, List.set_cons_succ]
                refine wpAnyH_take (i := 7) (v := ?_) (get1 (get1 (get1 (get1 (get1 (get1 (get1 (get0 _ _)))))))) (by kernel_rfl) (by kernel_rfl) (by kernel_rfl) (fun _ _ _ h => h) (Or.inl ⟨by rfl, ?_⟩) (by assumption) ?_
                rotate_left
                · (intro w hSw; (try dsimp only at hSw); go_simp <;> with_reducible rfl)
                simp only [Act.put, List.setIfInBounds_toArray, List.set_cons_zero, List.set_cons_succ]
                refine wpAnyH_take (i := 8) (v := ?_) (get1 (get1 (get1 (get1 (get1 (get1 (get1 (get1 (get0 _ _))))))))) (by kernel_rfl) (by kernel_rfl) (by kernel_rfl) (fun _ _ _ h => h) (Or.inl ⟨by rfl, ?_⟩) (by assumption) ?_
                rotate_left
                · (intro w hSw; (try dsimp only at hSw); go_simp <;> with_reducible rfl)
                simp only [Act.put, List.setIfInBounds_toArray, List.set_cons_zero, List.set_cons_succ]
                refine wpAnyH_take (i := 9) (v := ?_) (get1 (get1 (get1 (get1 (get1 (get1 (get1 (get1 (get1 (get0 _ _)))))))))) (by kernel_rfl) (by kernel_rfl) (by kernel_rfl) (fun _ _ _ h => h) (Or.inl ⟨by rfl, ?_⟩) (by assumption) ?_
                rotate_left
                · (intro w hSw; (try dsimp only at hSw); go_simp <;> with_reducible rfl)
                simp only [Act.put, List.setIfInBounds_toArray, List.set_cons_zero, List.set_cons_succ]
                refine wpAnyH_take (i := 10) (v := ?_) (get1 (get1 (get1 (get1 (get1 (get1 (get1 (get1 (get1 (get1 (get0 _ _))))))))))) (by kernel_rfl) (by kernel_rfl) (by kernel_rfl) (fun _ _ _ h => h) (Or.inl ⟨by rfl, ?_⟩) (by assumption) ?_
                rotate_left
                · (intro w hSw; (try dsimp only at hSw); go_simp <;> with_reducible rfl)
                simp only [Act.put, List.setIfInBounds_toArray, List.set_cons_zero, List.set_cons_succ]
                refine wpAnyH_take (i := 11) (v := ?_) (get1 (get1 (get1 (get1 (get1 (get1 (get1 (get1 (get1 (get1 (get1 (get0 _ _)))))))))))) (by kernel_rfl) (by kernel_rfl) (by kernel_rfl) (fun _ _ _ h => h) (Or.inl ⟨by rfl, ?_⟩) (by assumption) ?_
                rotate_left
                · (intro w hSw; (try dsimp only at hSw); go_simp <;> with_reducible rfl)
                simp only [Act.put, List.setIfInBounds_toArray, List.set_cons_zero, List.set_cons_succ]
                refine wpAnyH_ready (rs := [12]) (by kernel_rfl) (by simp) ?_
                refine AllReadyH.cons (get1 (get1 (get1 (get1 (get1 (get1 (get1 (get1 (get1 (get1 (get1 (get1 (get0 _ _))))))))))))) (fun K hK => ?_) AllReadyH.nil
                go_simp
                refine (check_any (HOF.out.below (Below.refl _ _).drew).toV).mono ?_
                rintro e Y ⟨rfl, hbY⟩
                have HC : Hid _ := HD.out.below hbY
                have HOC : Hid _ := (HOF.out.below (Below.refl _ _).drew).below hbY
                have HSC : Hid ((Y.cell? ⟨br, 0, none⟩ = some (.string s) ∧ Y.cell? ⟨br, 1, none⟩ = some (.int .i64 j8) ∧ Y.cell? ⟨z, 0, none⟩ = some (.string code) ∧ Y.cell? ⟨z, 1, none⟩ = some (.slice a1 n3 c1) ∧ Y.cell? ⟨z, 2, none⟩ = some (.slice a2 n5 c2) ∧ Y.cell? ⟨z, 3, none⟩ = some (.slice a3 n7 c3))) := ⟨HC.out.rd.c0, HC.out.rd.c1, HC.out.c0, HC.out.ck 0 _ rfl, HC.out.ck 1 _ rfl, HC.out.ck 2 _ rfl⟩
                clear hbY
                cases hm : ObjD.may ⟨code, data, syms, rels⟩ with
                | false =>
                  have HF : Hid (rdObj s = none) := by show _ = _; simp only [rdObj, HBODY.out]; rw [if_neg (fun h => by rw [hm] at h; exact absurd h.2 (by decide))]
                  clear hm
                  simp only [Bool.false_eq_true, if_false]
                  try go_wp2_with fail
                  refine hK.out _ _ HSC.out (fun hHeld => ?_)
                  clear hK K
                  try simp only [Act.put, List.setIfInBounds_toArray, List.set_cons_zero, List.set_cons_succ]
                  refine wpAnyH_take (i := 13) (v := ?_) (get1 (get1 (get1 (get1 (get1 (get1 (get1 (get1 (get1 (get1 (get1 (get1 (get1 (get0 _ _)))))))))))))) (by kernel_rfl) (by kernel_rfl) (by kernel_rfl) (fun _ _ _ h => h) (Or.inl ⟨by rfl, ?_⟩) (by assumption) ?_
                  rotate_left
                  · (intro w hSw; (try dsimp only at hSw); go_simp <;> with_reducible rfl)
                  simp only [Act.put, List.setIfInBounds_toArray, List.set_cons_zero, List.set_cons_succ]
                  refine wpAnyH_take (i := 14) (v := ?_) (get1 (get1 (get1 (get1 (get1 (get1 (get1 (get1 (get1 (get1 (get1 (get1 (get1 (get1 (get0 _ _))))))))))))))) (by kernel_rfl) (by kernel_rfl) (by kernel_rfl) (fun _ _ _ h => h) (Or.inl ⟨by rfl, ?_⟩) (by assumption) ?_
                  rotate_left
                  · (intro w hSw; (try dsimp only at hSw); go_simp <;> with_reducible rfl)
                  simp only [Act.put, List.setIfInBounds_toArray, List.set_cons_zero, List.set_cons_succ]
                  refine wpAnyH_done (by kernel_rfl) ?_ _
                  clear hHeld
                  go_wp2
                  exact ⟨rfl, .inr ⟨HF.out, _, rfl⟩, HC.out.g⟩
                | true =>
                  have HF : Hid (rdObj s = some ⟨code, data, syms, rels⟩) := by show _ = _; simp only [rdObj, HBODY.out]; rw [if_pos ⟨HJ.out, hm⟩]
                  clear hm
                  simp only [if_true]
                  try go_wp2_with fail
                  refine hK.out _ _ HSC.out (fun hHeld => ?_)
                  clear hK K
                  try simp only [Act.put, List.setIfInBounds_toArray, List.set_cons_zero, List.set_cons_succ]
                  refine wpAnyH_take (i := 13) (v := ?_) (get1 (get1 (get1 (get1 (get1 (get1 (get1 (get1 (get1 (get1 (get1 (get1 (get1 (get0 _ _)))))))))))))) (by kernel_rfl) (by kernel_rfl) (by kernel_rfl) (fun _ _ _ h => h) (Or.inl ⟨by rfl, ?_⟩) (by assumption) ?_
                  rotate_left
                  · (intro w hSw; (try dsimp only at hSw); go_simp <;> with_reducible rfl)
                  simp only [Act.put, List.setIfInBounds_toArray, List.set_cons_zero, List.set_cons_succ]
                  refine wpAnyH_take (i := 14) (v := ?_) (get1 (get1 (get1 (get1 (get1 (get1 (get1 (get1 (get1 (get1 (get1 (get1 (get1 (get1 (get0 _ _))))))))))))))) (by kernel_rfl) (by kernel_rfl) (by kernel_rfl) (fun _ _ _ h => h) (Or.inl ⟨by rfl, ?_⟩) (by assumption) ?_
                  rotate_left
                  · (intro w hSw; (try dsimp only at hSw); go_simp <;> with_reducible rfl)
                  simp only [Act.put, List.setIfInBounds_toArray, List.set_cons_zero, List.set_cons_succ]
                  refine wpAnyH_done (by kernel_rfl) ?_ _
                  clear hHeld
                  have p0 := HC.out.c0
                  have p1 := HC.out.ck 0 _ rfl
                  have p2 := HC.out.ck 1 _ rfl
                  have p3 := HC.out.ck 2 _ rfl
                  have o0 := HC.out.res 0 _ rfl
                  have o1 := HC.out.res 1 _ rfl
                  have o2 := HC.out.res 2 _ rfl
                  have o3 := HC.out.res 3 _ rfl
                  have f0 := HC.out.rz 0
                  have f1 := HC.out.rz 1
                  have f2 := HC.out.rz 2
                  have f3 := HC.out.rz 3
                  go_wp2
                  refine bodyPost_ret (v := .agg #[.string code, .slice a1 n3 c1, .slice a2 n5 c2, .slice a3 n7 c3]) (by simp [results, Try.results29, go_sem, o0, o1, o2, o3]) rfl ?_
                  have R := (((HC.out.ret 0 (by simp) (.string code)).ret 1 (by simp) (.slice a1 n3 c1)).ret 2 (by simp) (.slice a2 n5 c2)).ret 3 (by simp) (.slice a3 n7 c3)
                  have l1 := many_len F4.out
                  have l2 := many_len F6.out
                  have l3 := many_len F8.out
                  refine ⟨.inl ⟨_, HF.out, _, rfl, ⟨⟨_, _, _, rfl, ?_, ?_, ?_⟩, HIN.out⟩⟩, R.g⟩
                  · show World.ownsRow _ _ _ _ _ data.length _
                    rw [l1]; exact (R.own 0 _ rfl).1
                  · show World.ownsRow _ _ _ _ _ syms.length _
                    rw [l2]; exact (R.own 1 _ rfl).1
                  · show World.ownsRow _ _ _ _ _ rels.length _
                    rw [l3]; exact (R.own 2 _ rfl).1

end Go.Proofs.Ytcfdfnghaigkjaa

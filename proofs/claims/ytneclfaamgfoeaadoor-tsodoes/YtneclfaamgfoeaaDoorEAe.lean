/- mem.New. (Written by gen_new.py.) -/
import Derived.Test.YtneclfaamgfoeaaDoorEAd
import Derived.Deep.LoopGhost
import Derived.Deep.RegionHeld3
import Derived.Test.YtneclfaamgfoeaaDoorEAb
namespace Go.Proofs.YtneclfaamgfoeaaDoor
open Go.RowKit Go.Maps
set_option linter.unusedVariables false

theorem get0 {α : Type} (x : α) (l : List α) : (List.toArray (x :: l))[0]? = some x := rfl
theorem get1 {α : Type} {x y : α} {l : List α} {i : Nat} (h : (List.toArray l)[i]? = some y) : (List.toArray (x :: l))[i + 1]? = some y := by simpa using h
theorem reg_cells (w : World) (v1 v2 v3 : Value) {o : Nat} (ho : o = w.heap.size) : ∀ j u, ([v1, v2, v3] : List Value)[j]? = some u → (w.alloc (.cells #[v1, v2, v3] 96)).cell? ((⟨o, 0, none⟩ : Addr).add j) = some u := by
  subst ho
  intro j u hu
  rw [Addr.add_lit]
  simp
  exact hu
theorem getD_mem (rs : List Reg) {k : Nat} (h : k < rs.length) : rs.getD k noReg ∈ rs := by
  simp [List.getD, h]
theorem take_reg (rs : List Reg) (k : Nat) (h : k < rs.length) : rs.take (k + 1) = rs.take k ++ [rs.getD k noReg] := by
  rw [List.take_succ_eq_append_getElem h]; simp [List.getD, h]
theorem reg_one3 (a : Int) (b : Option Addr) (l : Nat) (c : Bool) : ∀ u ∈ [Value.int .i64 a, .slice b l l, .bool c], u.oneCell' = true := by
  intro u hu
  simp at hu
  rcases hu with rfl | rfl | rfl <;> rfl

set_option maxRecDepth 100000 in
set_option maxHeartbeats 8000000 in
theorem new_yes {w : World} {a : Option Addr} {len cap : Nat} {rs : List Reg} (h : RegsV w a len cap rs) (hm : may rs = true) (hlen : len ≤ 16) (hw : ∀ i, i < len → (rs.getD i noReg).words.length ≤ 65536) (hfit : ∀ r ∈ rs, ∀ n ∈ r.words, (Lit.int .i64 n).wf = true) :
    Calls Tryd.prog 27 #[.slice a len cap] w fun e w' => ∃ bm br bw lv bs, e = .returned (.tuple #[.pointer (some ⟨bm, 0, none⟩), .int .i64 0]) ∧ MemV w.heap.size w' bm rs [] [] br bw 0 0 lv bs ∧ Below w.heap.size w w' := by
  obtain ⟨i0, hi, hz0, hz1, hz2⟩ := info_parts infoR
  have hcnt := h.count
  have hroom := h.room
  have hcap := h.capOk
  have HV : Hid _ := h
  have HW : Hid _ := hw
  have HFI : Hid _ := hfit
  clear h hw hfit
  go_enter Tryd.func27, Tryd.ntmps27
  go_wp2_with (go_at_call 40; refine (maybe_any HV.out).mono ?_; rintro e w1 ⟨rfl, hb1⟩; rw [hm])
  refine (new_touched w1).mono ?_
  rintro e w2 ⟨rfl, hr2, hw2, hz22, hb2⟩
  have zz1 := hb1.size
  have hb02 : Below w.heap.size w w2 := hb1.trans (hb2.mono zz1)
  go_wp2
  go_loopg [15] len (fun r kv wr => ∃ (k : Nat) (lv : Value) (bs : List Nat), kv = .int .i64 k ∧ k ≤ len ∧ len - k ≤ r ∧ Hid (MemV w.heap.size wr (w1.heap.size + 3) (rs.take k) [] [] (w1.heap.size + 1) (w1.heap.size + 2) 0 0 lv bs) ∧ Below w.heap.size w wr)
  case atStart =>
    refine ⟨0, .slice none 0 0, [], rfl, Nat.zero_le _, by omega, ?_, hb02.alloc hb02.size _⟩
    show MemV _ _ _ _ _ _ _ _ _ _ _ _
    refine { touch := ⟨by simp [← hz22], by simp [← hz22], by omega, by omega, hr2.alloc _, hw2.alloc _⟩, c2 := by simp [← hz22], f2 := ?_, lo := by omega, len := rfl, row := World.ownsRow_nil _ _ _ _, words := by intro i hi; simp at hi, nodup := by simp, apart := by simp, rowApart := by simp [Value.ownBlock], fits := by simp }
    exact fun o => World.frozen?_alloc_at _ _ _ _ hz22.symm
  case round =>
    obtain ⟨k, lv, bs, rfl, hk, hr, HM, hb⟩ := hrel
    by_cases hlt : k < len
    · rcases HV.out.cells with h0 | ⟨b, off, hA, hc⟩
      · omega
      obtain ⟨a1, l1, c1, k0, k1, k2, V1⟩ := hc k hlt
      have hbl : b < w.heap.size := World.block_lt_of_cell? w ⟨b, off + k * 3, none⟩ k0
      have q0 := (hb.cell (p := ⟨b, off + k * 3, none⟩) hbl).trans k0
      have q1 := (hb.cell (p := ⟨b, off + k * 3 + 1, none⟩) hbl).trans k1
      have q2 := (hb.cell (p := ⟨b, off + k * 3 + 2, none⟩) hbl).trans k2
      subst hA
      obtain ⟨rb, hrb⟩ : ∃ rb, (rs.getD k noReg).base = rb := ⟨_, rfl⟩
      obtain ⟨rw, hrw⟩ : ∃ rw, (rs.getD k noReg).write = rw := ⟨_, rfl⟩
      rw [hrb] at q0
      rw [hrw] at q2
      have HRB : Hid _ := hrb
      have HRW : Hid _ := hrw
      have HV1 : Hid (View w a1 l1 c1 (rs.getD k noReg).words) := V1
      have HL1 : Hid (l1 ≤ 65536) := by show l1 ≤ 65536; have := HW.out k hlt; rw [HV1.out.count] at this; exact this
      have hbW : Below w.heap.size w ((wr.alloc (.cells #[.int .i64 rb, .slice a1 l1 c1, .bool rw] 96)).drew) := (hb.alloc hb.size _).drew
      have m2 := HM.out.c2
      have mf := HM.out.f2 2
      have mz : w1.heap.size + 3 < wr.heap.size := World.block_lt_of_cell? wr ⟨w1.heap.size + 3, 2, none⟩ m2
      clear hc k0 k1 k2 V1 hrb hrw
      go_wp2_with fail
      refine wp_region_held_drew (S := (fun w' : World => w'.cell? ⟨wr.heap.size, 0, none⟩ = some (.int .i64 rb) ∧ w'.cell? ⟨wr.heap.size, 1, none⟩ = some (.slice a1 l1 c1) ∧ w'.cell? ⟨wr.heap.size, 2, none⟩ = some (.bool rw) ∧ wr.heap.size < w'.heap.size)) (by kernel_rfl) ?_ (fun hHeld => ?_)
      · exact ⟨by simp, by simp, by simp, by show wr.heap.size < (wr.alloc _).heap.size; simp⟩
      refine wpAnyH_take (i := 0) (v := ?_) (get0 _ _) (by kernel_rfl) (by kernel_rfl) (by kernel_rfl) (fun _ _ _ h => h) (Or.inl ⟨by rfl, ?_⟩) (by assumption) ?_
      rotate_left
      · (intro w hSw; (try dsimp only at hSw); go_simp <;> with_reducible rfl)
      simp only [Act.put, List.setIfInBounds_toArray, List.set_cons_zero, List.set_cons_succ]
      refine wpAnyH_take (i := 1) (v := ?_) (get1 (get0 _ _)) (by kernel_rfl) (by kernel_rfl) (by kernel_rfl) (fun _ _ _ h => h) (Or.inl ⟨by rfl, ?_⟩) (by assumption) ?_
      rotate_left
      · (intro w hSw; (try dsimp only at hSw); go_simp <;> with_reducible rfl)
      simp only [Act.put, List.setIfInBounds_toArray, List.set_cons_zero, List.set_cons_succ]
      refine wpAnyH_take (i := 2) (v := ?_) (get1 (get1 (get0 _ _))) (by kernel_rfl) (by kernel_rfl) (by kernel_rfl) (fun _ _ _ h => h) (Or.inl ⟨by rfl, ?_⟩) (by assumption) ?_
      rotate_left
      · (intro w hSw; (try dsimp only at hSw); go_simp <;> with_reducible rfl)
      simp only [Act.put, List.setIfInBounds_toArray, List.set_cons_zero, List.set_cons_succ]
      refine wpAnyH_take (i := 3) (v := ?_) (get1 (get1 (get1 (get0 _ _)))) (by kernel_rfl) (by kernel_rfl) (by kernel_rfl) (fun _ _ _ h => h) (Or.inl ⟨by rfl, ?_⟩) (by assumption) ?_
      rotate_left
      · (intro w hSw; (try dsimp only at hSw); go_simp <;> with_reducible rfl)
      simp only [Act.put, List.setIfInBounds_toArray, List.set_cons_zero, List.set_cons_succ]
      refine wpAnyH_take (i := 5) (v := ?_) (get1 (get1 (get1 (get1 (get1 (get0 _ _)))))) (by kernel_rfl) (by kernel_rfl) (by kernel_rfl) (fun _ _ _ h => h) (Or.inl ⟨by rfl, ?_⟩) (by assumption) ?_
      rotate_left
      · (intro w hSw; (try dsimp only at hSw); go_simp <;> with_reducible rfl)
      simp only [Act.put, List.setIfInBounds_toArray, List.set_cons_zero, List.set_cons_succ]
      refine wpAnyH_take (i := 6) (v := ?_) (get1 (get1 (get1 (get1 (get1 (get1 (get0 _ _))))))) (by kernel_rfl) (by kernel_rfl) (by kernel_rfl) (fun _ _ _ h => h) (Or.inl ⟨by rfl, ?_⟩) (by assumption) ?_
      rotate_left
      · (intro w hSw; (try dsimp only at hSw); go_simp <;> with_reducible rfl)
      simp only [Act.put, List.setIfInBounds_toArray, List.set_cons_zero, List.set_cons_succ]
      refine wpAnyH_take (i := 7) (v := ?_) (get1 (get1 (get1 (get1 (get1 (get1 (get1 (get0 _ _)))))))) (by kernel_rfl) (by kernel_rfl) (by kernel_rfl) (fun _ _ _ h => h) (Or.inl ⟨by rfl, ?_⟩) (by assumption) ?_
      rotate_left
      · (intro w hSw; (try dsimp only at hSw); go_simp <;> with_reducible rfl)
      simp only [Act.put, List.setIfInBounds_toArray, List.set_cons_zero, List.set_cons_succ]
      refine wpAnyH_take (i := 8) (v := ?_) (get1 (get1 (get1 (get1 (get1 (get1 (get1 (get1 (get0 _ _))))))))) (by kernel_rfl) (by kernel_rfl) (by kernel_rfl) (fun _ _ _ h => h) (Or.inl ⟨by rfl, ?_⟩) (by assumption) ?_
      rotate_left
      · (intro w hSw; (try dsimp only at hSw); go_simp <;> with_reducible rfl)
      simp only [Act.put, List.setIfInBounds_toArray, List.set_cons_zero, List.set_cons_succ]
      refine wpAnyH_take (i := 10) (v := ?_) (get1 (get1 (get1 (get1 (get1 (get1 (get1 (get1 (get1 (get1 (get0 _ _))))))))))) (by kernel_rfl) (by kernel_rfl) (by kernel_rfl) (fun _ _ _ h => h) (Or.inl ⟨by rfl, ?_⟩) (by assumption) ?_
      rotate_left
      · (intro w hSw; (try dsimp only at hSw); go_simp <;> with_reducible rfl)
      simp only [Act.put, List.setIfInBounds_toArray, List.set_cons_zero, List.set_cons_succ]
      refine wpAnyH_take (i := 11) (v := ?_) (get1 (get1 (get1 (get1 (get1 (get1 (get1 (get1 (get1 (get1 (get1 (get0 _ _)))))))))))) (by kernel_rfl) (by kernel_rfl) (by kernel_rfl) (fun _ _ _ h => h) (Or.inl ⟨by rfl, ?_⟩) (by assumption) ?_
      rotate_left
      · (intro w hSw; (try dsimp only at hSw); go_simp <;> with_reducible rfl)
      simp only [Act.put, List.setIfInBounds_toArray, List.set_cons_zero, List.set_cons_succ]
      refine wpAnyH_ready (rs := [4, 9]) (by kernel_rfl) (by simp) ?_
      refine AllReadyH.cons (get1 (get1 (get1 (get1 (get0 _ _))))) (fun K hK => ?_) ?_
      · go_simp
        refine hK.out _ _ ?_ (fun hHeld => ?_)
        · exact hHeld
        clear hK K
        try simp only [Act.put, List.setIfInBounds_toArray, List.set_cons_zero, List.set_cons_succ]
        refine wpAnyH_ready (rs := [9]) (by kernel_rfl) (by simp) ?_
        refine AllReadyH.cons (get1 (get1 (get1 (get1 (get1 (get1 (get1 (get1 (get1 (get0 _ _)))))))))) (fun K hK => ?_) ?_
        · go_simp
          refine (copied_any (HV1.out.below hbW) (by have := HL1.out; omega)).mono ?_
          rintro e w3 ⟨rfl, hg3, hlt3, hb3⟩
          try go_wp2_with fail
          have hb3' : Below (wr.heap.size + 1) ((wr.alloc (.cells #[.int .i64 rb, .slice a1 l1 c1, .bool rw] 96)).drew) w3 := by simpa using hb3
          have z3 := hb3'.size
          have c30 : w3.cell? ⟨wr.heap.size, 0, none⟩ = some (.int .i64 rb) := (hb3'.cell (p := ⟨wr.heap.size, 0, none⟩) (by simp)).trans (by simp)
          have c31 : w3.cell? ⟨wr.heap.size, 1, none⟩ = some (.slice a1 l1 c1) := (hb3'.cell (p := ⟨wr.heap.size, 1, none⟩) (by simp)).trans (by simp)
          have c32 : w3.cell? ⟨wr.heap.size, 2, none⟩ = some (.bool rw) := (hb3'.cell (p := ⟨wr.heap.size, 2, none⟩) (by simp)).trans (by simp)
          have m23 : w3.cell? ⟨w1.heap.size + 3, 2, none⟩ = some lv := (hb3'.cell (p := ⟨w1.heap.size + 3, 2, none⟩) (by simp; omega)).trans (by rw [World.cell?_drew, World.cell?_alloc_past _ _ _ mz]; exact m2)
          have zm3 : w1.heap.size + 3 < w3.heap.size := World.block_lt_of_cell? w3 ⟨w1.heap.size + 3, 2, none⟩ m23
          have zr3 : wr.heap.size < w3.heap.size := World.block_lt_of_cell? w3 ⟨wr.heap.size, 0, none⟩ c30
          refine hK.out _ _ ?_ (fun hHeld => ?_)
          · exact ⟨c30, c31, c32, zr3⟩
          clear hK K
          try simp only [Act.put, List.setIfInBounds_toArray, List.set_cons_zero, List.set_cons_succ]
          refine wpAnyH_take (i := 12) (v := ?_) (get1 (get1 (get1 (get1 (get1 (get1 (get1 (get1 (get1 (get1 (get1 (get1 (get0 _ _))))))))))))) (by kernel_rfl) (by kernel_rfl) (by kernel_rfl) (fun _ _ _ h => h) (Or.inl ⟨by rfl, ?_⟩) (by assumption) ?_
          rotate_left
          · (intro w hSw; (try dsimp only at hSw); go_simp <;> with_reducible rfl)
          simp only [Act.put, List.setIfInBounds_toArray, List.set_cons_zero, List.set_cons_succ]
          refine wpAnyH_ready (rs := [13]) (by kernel_rfl) (by simp) ?_
          refine AllReadyH.cons (get1 (get1 (get1 (get1 (get1 (get1 (get1 (get1 (get1 (get1 (get1 (get1 (get1 (get0 _ _)))))))))))))) (fun K hK => ?_) ?_
          · go_simp
            refine hK.out _ _ ?_ (fun hHeld => ?_)
            · exact ⟨by rw [World.cell?_alloc_past _ _ _ zr3]; exact c30, by rw [World.cell?_alloc_past _ _ _ zr3]; exact c31, by rw [World.cell?_alloc_past _ _ _ zr3]; exact c32, by simp; omega⟩
            clear hK K
            try simp only [Act.put, List.setIfInBounds_toArray, List.set_cons_zero, List.set_cons_succ]
            refine wpAnyH_ready (rs := [14]) (by kernel_rfl) (by simp) ?_
            refine AllReadyH.cons (get1 (get1 (get1 (get1 (get1 (get1 (get1 (get1 (get1 (get1 (get1 (get1 (get1 (get1 (get0 _ _))))))))))))))) (fun K hK => ?_) AllReadyH.nil
            have hrw3 : Below wr.heap.size wr w3 := ((Below.refl _ wr).alloc (Nat.le_refl _) _).drew.trans (hb3'.mono (Nat.le_succ _))
            have hmv3 := HM.out.below hrw3
            have HMV : Hid (MemV w.heap.size (w3.alloc (.cells #[.int .i64 rb, .slice (some ⟨wr.heap.size + 1, 0, none⟩) l1 l1, .bool rw] 96)) (w1.heap.size + 3) (rs.take k) [] [] (w1.heap.size + 1) (w1.heap.size + 2) 0 0 lv bs) := hmv3.below ((Below.refl _ w3).alloc (Nat.le_refl _) _)
            have htl : (rs.take k).length = k := by rw [List.length_take]; omega
            refine step_append_lies _ (by rfl) _ _ 70 (by rfl) w.heap.size 96 i0 _ 3 40 Tryd.underlying70 hi hz0 hz1 hz2 (by rfl) (by decide) lv (rs.take k).length _ (by rfl) HMV.out.row ⟨w3.heap.size, 0, none⟩ 1 1 [.int .i64 rb, .slice (some ⟨wr.heap.size + 1, 0, none⟩) l1 l1, .bool rw] (by rfl) (by rfl) (reg_cells _ _ _ _ rfl) (reg_one3 _ _ _ _) (by decide) (by unfold maxLen; omega) (by omega) (by have := hb.size; simp; omega) (w3.heap.size + 1) (by simp) ?_
            intro g cap2 w5 ho5 hg5 hat5 hlt5
            have hlvlt : ∀ x, lv.ownBlock = some x → x < wr.heap.size := fun x hx => (HM.out.row.lt x hx).2
            have nr6 : some wr.heap.size ≠ lv.ownBlock := fun e => by have := hlvlt _ e.symm; omega
            have c50 : w5.cell? ⟨wr.heap.size, 0, none⟩ = some (.int .i64 rb) := hg5.cell (by rw [World.cell?_alloc_past _ _ _ zr3]; exact c30) nr6
            have c51 : w5.cell? ⟨wr.heap.size, 1, none⟩ = some (.slice a1 l1 c1) := hg5.cell (by rw [World.cell?_alloc_past _ _ _ zr3]; exact c31) nr6
            have c52 : w5.cell? ⟨wr.heap.size, 2, none⟩ = some (.bool rw) := hg5.cell (by rw [World.cell?_alloc_past _ _ _ zr3]; exact c32) nr6
            have m25 : w5.cell? ⟨w1.heap.size + 3, 2, none⟩ = some lv := hg5.cell HMV.out.c2 (Ne.symm HM.out.rowApart.1)
            have f25 : w5.frozen? ⟨w1.heap.size + 3, 2, none⟩ = false := (hg5.frozen_far ⟨w1.heap.size + 3, 2, none⟩ (by simp; omega) (Ne.symm HM.out.rowApart.1)).trans (HMV.out.f2 2)
            have zr5 : wr.heap.size < w5.heap.size := World.block_lt_of_cell? w5 ⟨wr.heap.size, 0, none⟩ c50
            have zm5 : w1.heap.size + 3 < w5.heap.size := World.block_lt_of_cell? w5 ⟨w1.heap.size + 3, 2, none⟩ m25
            have HP : Hid (MemV w.heap.size (w5.setCell ⟨w1.heap.size + 3, 2, none⟩ (.slice (some ⟨g, 0, none⟩) (k + 1) cap2)) (w1.heap.size + 3) (rs.take (k + 1)) [] [] (w1.heap.size + 1) (w1.heap.size + 2) 0 0 (.slice (some ⟨g, 0, none⟩) (k + 1) cap2) (bs ++ [wr.heap.size + 1])) := by
              show MemV _ _ _ _ _ _ _ _ _ _ _ _
              have hg3' : w3.heap[wr.heap.size + 1]? = some (.cells ((rs.getD k noReg).words.map (Value.int .i64)).toArray 2 (0, 0)) := by simpa using hg3
              have hp := HMV.out.push (r := rs.getD k noReg) (b' := wr.heap.size + 1) (g := g) (cap := cap2) (w5 := w5) (((Below.refl _ w3).alloc (Nat.le_refl _) _).block _ (Array.getElem?_eq_some_iff.1 hg3').1 |>.trans hg3') (by have := hb.size; omega) ?_ ⟨HV.out.fits _ (getD_mem rs (by omega)), HFI.out _ (getD_mem rs (by omega))⟩ ?_ hg5 (by simpa using hat5)
              · rw [htl] at hp
                rw [take_reg rs k (by omega)]
                exact hp
              · have z1 := touch_lt HM.out.touch
                have z2 := map_lt HM.out.touch.r
                have z3' := map_lt HM.out.touch.w'
                refine ⟨by omega, by omega, by omega, fun e => by have := hlvlt _ e; omega, fun e => ?_⟩
                obtain ⟨i, hi, e⟩ := List.getElem_of_mem e
                have hwi := (HM.out.words i (by have := HM.out.len; omega)).1
                rw [getD_at hi, e] at hwi
                have := (Array.getElem?_eq_some_iff.1 hwi).1
                omega
              · have e : (rs.getD k noReg).cs (wr.heap.size + 1) = [.int .i64 rb, .slice (some ⟨wr.heap.size + 1, 0, none⟩) l1 l1, .bool rw] := by
                  unfold Reg.cs
                  rw [HRB.out, HRW.out, HV1.out.count]
                rw [e]
                exact ho5
            have hbe : Below w.heap.size w (w5.setCell ⟨w1.heap.size + 3, 2, none⟩ (.slice (some ⟨g, 0, none⟩) (k + 1) cap2)) := by
              refine Below.setCell ?_ (by show w.heap.size ≤ w1.heap.size + 3; omega) _
              exact ((hb.trans (hrw3.mono hb.size)).alloc (by have := hb.size; omega) _).grown hg5 (by have := hb.size; simp; omega) (fun x hx => (HM.out.row.lt x hx).1)
            refine hK.out _ _ ⟨c50, c51, c52, zr5⟩ (fun hHeld => ?_)
            clear hK K ho5 hg5 hat5 hlt5 hmv3 HMV hlvlt hrw3
            rw [htl]
            simp only [Act.put, List.setIfInBounds_toArray, List.set_cons_zero, List.set_cons_succ]
            refine wpAnyH_take (i := 15) (v := ?_) (get1 (get1 (get1 (get1 (get1 (get1 (get1 (get1 (get1 (get1 (get1 (get1 (get1 (get1 (get1 (get0 _ _)))))))))))))))) (by kernel_rfl) (by kernel_rfl) (by kernel_rfl) (fun _ _ _ h => h) (Or.inl ⟨by rfl, ?_⟩) (by assumption) ?_
            rotate_left
            · (intro w hSw; (try dsimp only at hSw); go_simp <;> with_reducible rfl)
            simp only [Act.put, List.setIfInBounds_toArray, List.set_cons_zero, List.set_cons_succ]
            refine wpAnyH_take (i := 16) (v := ?_) (get1 (get1 (get1 (get1 (get1 (get1 (get1 (get1 (get1 (get1 (get1 (get1 (get1 (get1 (get1 (get1 (get0 _ _))))))))))))))))) (by kernel_rfl) (by kernel_rfl) (by kernel_rfl) (fun _ _ _ h => h) (Or.inl ⟨by rfl, ?_⟩) (by assumption) ?_
            rotate_left
            · (intro w hSw; (try dsimp only at hSw); go_simp <;> with_reducible rfl)
            simp only [Act.put, List.setIfInBounds_toArray, List.set_cons_zero, List.set_cons_succ]
            refine wpAnyH_ready (rs := [17]) (by kernel_rfl) (by simp) ?_
            refine AllReadyH.cons (get1 (get1 (get1 (get1 (get1 (get1 (get1 (get1 (get1 (get1 (get1 (get1 (get1 (get1 (get1 (get1 (get1 (get0 _ _)))))))))))))))))) (fun K hK => ?_) AllReadyH.nil
            go_simp
            refine hK.out _ _ ⟨by rw [World.cell?_setCell_far _ _ _ _ (by simp; omega)]; exact c50, by rw [World.cell?_setCell_far _ _ _ _ (by simp; omega)]; exact c51, by rw [World.cell?_setCell_far _ _ _ _ (by simp; omega)]; exact c52, by simp; omega⟩ (fun hHeld => ?_)
            clear hK K
            try simp only [Act.put, List.setIfInBounds_toArray, List.set_cons_zero, List.set_cons_succ]
            refine wpAnyH_done (by kernel_rfl) ?_ _
            go_wp2
            go_roundg (len - (k + 1))
            case measure => omega
            case rel => exact ⟨k + 1, _, _, by first | rfl | (congr 1; omega), by omega, Nat.le_refl _, HP.out, hbe⟩
          exact AllReadyH.nil
        exact AllReadyH.nil
      refine AllReadyH.cons (get1 (get1 (get1 (get1 (get1 (get1 (get1 (get1 (get1 (get0 _ _)))))))))) (fun K hK => ?_) ?_
      · go_simp
        refine (copied_any (HV1.out.below hbW) (by have := HL1.out; omega)).mono ?_
        rintro e w3 ⟨rfl, hg3, hlt3, hb3⟩
        try go_wp2_with fail
        have hb3' : Below (wr.heap.size + 1) ((wr.alloc (.cells #[.int .i64 rb, .slice a1 l1 c1, .bool rw] 96)).drew) w3 := by simpa using hb3
        have z3 := hb3'.size
        have c30 : w3.cell? ⟨wr.heap.size, 0, none⟩ = some (.int .i64 rb) := (hb3'.cell (p := ⟨wr.heap.size, 0, none⟩) (by simp)).trans (by simp)
        have c31 : w3.cell? ⟨wr.heap.size, 1, none⟩ = some (.slice a1 l1 c1) := (hb3'.cell (p := ⟨wr.heap.size, 1, none⟩) (by simp)).trans (by simp)
        have c32 : w3.cell? ⟨wr.heap.size, 2, none⟩ = some (.bool rw) := (hb3'.cell (p := ⟨wr.heap.size, 2, none⟩) (by simp)).trans (by simp)
        have m23 : w3.cell? ⟨w1.heap.size + 3, 2, none⟩ = some lv := (hb3'.cell (p := ⟨w1.heap.size + 3, 2, none⟩) (by simp; omega)).trans (by rw [World.cell?_drew, World.cell?_alloc_past _ _ _ mz]; exact m2)
        have zm3 : w1.heap.size + 3 < w3.heap.size := World.block_lt_of_cell? w3 ⟨w1.heap.size + 3, 2, none⟩ m23
        have zr3 : wr.heap.size < w3.heap.size := World.block_lt_of_cell? w3 ⟨wr.heap.size, 0, none⟩ c30
        refine hK.out _ _ ?_ (fun hHeld => ?_)
        · exact ⟨c30, c31, c32, zr3⟩
        clear hK K
        try simp only [Act.put, List.setIfInBounds_toArray, List.set_cons_zero, List.set_cons_succ]
        refine wpAnyH_take (i := 12) (v := ?_) (get1 (get1 (get1 (get1 (get1 (get1 (get1 (get1 (get1 (get1 (get1 (get1 (get0 _ _))))))))))))) (by kernel_rfl) (by kernel_rfl) (by kernel_rfl) (fun _ _ _ h => h) (Or.inl ⟨by rfl, ?_⟩) (by assumption) ?_
        rotate_left
        · (intro w hSw; (try dsimp only at hSw); go_simp <;> with_reducible rfl)
        simp only [Act.put, List.setIfInBounds_toArray, List.set_cons_zero, List.set_cons_succ]
        refine wpAnyH_ready (rs := [4, 13]) (by kernel_rfl) (by simp) ?_
        refine AllReadyH.cons (get1 (get1 (get1 (get1 (get0 _ _))))) (fun K hK => ?_) ?_
        · go_simp
          refine hK.out _ _ ?_ (fun hHeld => ?_)
          · exact ⟨c30, c31, c32, zr3⟩
          clear hK K
          try simp only [Act.put, List.setIfInBounds_toArray, List.set_cons_zero, List.set_cons_succ]
          refine wpAnyH_ready (rs := [13]) (by kernel_rfl) (by simp) ?_
          refine AllReadyH.cons (get1 (get1 (get1 (get1 (get1 (get1 (get1 (get1 (get1 (get1 (get1 (get1 (get1 (get0 _ _)))))))))))))) (fun K hK => ?_) ?_
          · go_simp
            refine hK.out _ _ ?_ (fun hHeld => ?_)
            · exact ⟨by rw [World.cell?_alloc_past _ _ _ zr3]; exact c30, by rw [World.cell?_alloc_past _ _ _ zr3]; exact c31, by rw [World.cell?_alloc_past _ _ _ zr3]; exact c32, by simp; omega⟩
            clear hK K
            try simp only [Act.put, List.setIfInBounds_toArray, List.set_cons_zero, List.set_cons_succ]
            refine wpAnyH_ready (rs := [14]) (by kernel_rfl) (by simp) ?_
            refine AllReadyH.cons (get1 (get1 (get1 (get1 (get1 (get1 (get1 (get1 (get1 (get1 (get1 (get1 (get1 (get1 (get0 _ _))))))))))))))) (fun K hK => ?_) AllReadyH.nil
            have hrw3 : Below wr.heap.size wr w3 := ((Below.refl _ wr).alloc (Nat.le_refl _) _).drew.trans (hb3'.mono (Nat.le_succ _))
            have hmv3 := HM.out.below hrw3
            have HMV : Hid (MemV w.heap.size (w3.alloc (.cells #[.int .i64 rb, .slice (some ⟨wr.heap.size + 1, 0, none⟩) l1 l1, .bool rw] 96)) (w1.heap.size + 3) (rs.take k) [] [] (w1.heap.size + 1) (w1.heap.size + 2) 0 0 lv bs) := hmv3.below ((Below.refl _ w3).alloc (Nat.le_refl _) _)
            have htl : (rs.take k).length = k := by rw [List.length_take]; omega
            refine step_append_lies _ (by rfl) _ _ 70 (by rfl) w.heap.size 96 i0 _ 3 40 Tryd.underlying70 hi hz0 hz1 hz2 (by rfl) (by decide) lv (rs.take k).length _ (by rfl) HMV.out.row ⟨w3.heap.size, 0, none⟩ 1 1 [.int .i64 rb, .slice (some ⟨wr.heap.size + 1, 0, none⟩) l1 l1, .bool rw] (by rfl) (by rfl) (reg_cells _ _ _ _ rfl) (reg_one3 _ _ _ _) (by decide) (by unfold maxLen; omega) (by omega) (by have := hb.size; simp; omega) (w3.heap.size + 1) (by simp) ?_
            intro g cap2 w5 ho5 hg5 hat5 hlt5
            have hlvlt : ∀ x, lv.ownBlock = some x → x < wr.heap.size := fun x hx => (HM.out.row.lt x hx).2
            have nr6 : some wr.heap.size ≠ lv.ownBlock := fun e => by have := hlvlt _ e.symm; omega
            have c50 : w5.cell? ⟨wr.heap.size, 0, none⟩ = some (.int .i64 rb) := hg5.cell (by rw [World.cell?_alloc_past _ _ _ zr3]; exact c30) nr6
            have c51 : w5.cell? ⟨wr.heap.size, 1, none⟩ = some (.slice a1 l1 c1) := hg5.cell (by rw [World.cell?_alloc_past _ _ _ zr3]; exact c31) nr6
            have c52 : w5.cell? ⟨wr.heap.size, 2, none⟩ = some (.bool rw) := hg5.cell (by rw [World.cell?_alloc_past _ _ _ zr3]; exact c32) nr6
            have m25 : w5.cell? ⟨w1.heap.size + 3, 2, none⟩ = some lv := hg5.cell HMV.out.c2 (Ne.symm HM.out.rowApart.1)
            have f25 : w5.frozen? ⟨w1.heap.size + 3, 2, none⟩ = false := (hg5.frozen_far ⟨w1.heap.size + 3, 2, none⟩ (by simp; omega) (Ne.symm HM.out.rowApart.1)).trans (HMV.out.f2 2)
            have zr5 : wr.heap.size < w5.heap.size := World.block_lt_of_cell? w5 ⟨wr.heap.size, 0, none⟩ c50
            have zm5 : w1.heap.size + 3 < w5.heap.size := World.block_lt_of_cell? w5 ⟨w1.heap.size + 3, 2, none⟩ m25
            have HP : Hid (MemV w.heap.size (w5.setCell ⟨w1.heap.size + 3, 2, none⟩ (.slice (some ⟨g, 0, none⟩) (k + 1) cap2)) (w1.heap.size + 3) (rs.take (k + 1)) [] [] (w1.heap.size + 1) (w1.heap.size + 2) 0 0 (.slice (some ⟨g, 0, none⟩) (k + 1) cap2) (bs ++ [wr.heap.size + 1])) := by
              show MemV _ _ _ _ _ _ _ _ _ _ _ _
              have hg3' : w3.heap[wr.heap.size + 1]? = some (.cells ((rs.getD k noReg).words.map (Value.int .i64)).toArray 2 (0, 0)) := by simpa using hg3
              have hp := HMV.out.push (r := rs.getD k noReg) (b' := wr.heap.size + 1) (g := g) (cap := cap2) (w5 := w5) (((Below.refl _ w3).alloc (Nat.le_refl _) _).block _ (Array.getElem?_eq_some_iff.1 hg3').1 |>.trans hg3') (by have := hb.size; omega) ?_ ⟨HV.out.fits _ (getD_mem rs (by omega)), HFI.out _ (getD_mem rs (by omega))⟩ ?_ hg5 (by simpa using hat5)
              · rw [htl] at hp
                rw [take_reg rs k (by omega)]
                exact hp
              · have z1 := touch_lt HM.out.touch
                have z2 := map_lt HM.out.touch.r
                have z3' := map_lt HM.out.touch.w'
                refine ⟨by omega, by omega, by omega, fun e => by have := hlvlt _ e; omega, fun e => ?_⟩
                obtain ⟨i, hi, e⟩ := List.getElem_of_mem e
                have hwi := (HM.out.words i (by have := HM.out.len; omega)).1
                rw [getD_at hi, e] at hwi
                have := (Array.getElem?_eq_some_iff.1 hwi).1
                omega
              · have e : (rs.getD k noReg).cs (wr.heap.size + 1) = [.int .i64 rb, .slice (some ⟨wr.heap.size + 1, 0, none⟩) l1 l1, .bool rw] := by
                  unfold Reg.cs
                  rw [HRB.out, HRW.out, HV1.out.count]
                rw [e]
                exact ho5
            have hbe : Below w.heap.size w (w5.setCell ⟨w1.heap.size + 3, 2, none⟩ (.slice (some ⟨g, 0, none⟩) (k + 1) cap2)) := by
              refine Below.setCell ?_ (by show w.heap.size ≤ w1.heap.size + 3; omega) _
              exact ((hb.trans (hrw3.mono hb.size)).alloc (by have := hb.size; omega) _).grown hg5 (by have := hb.size; simp; omega) (fun x hx => (HM.out.row.lt x hx).1)
            refine hK.out _ _ ⟨c50, c51, c52, zr5⟩ (fun hHeld => ?_)
            clear hK K ho5 hg5 hat5 hlt5 hmv3 HMV hlvlt hrw3
            rw [htl]
            simp only [Act.put, List.setIfInBounds_toArray, List.set_cons_zero, List.set_cons_succ]
            refine wpAnyH_take (i := 15) (v := ?_) (get1 (get1 (get1 (get1 (get1 (get1 (get1 (get1 (get1 (get1 (get1 (get1 (get1 (get1 (get1 (get0 _ _)))))))))))))))) (by kernel_rfl) (by kernel_rfl) (by kernel_rfl) (fun _ _ _ h => h) (Or.inl ⟨by rfl, ?_⟩) (by assumption) ?_
            rotate_left
            · (intro w hSw; (try dsimp only at hSw); go_simp <;> with_reducible rfl)
            simp only [Act.put, List.setIfInBounds_toArray, List.set_cons_zero, List.set_cons_succ]
            refine wpAnyH_take (i := 16) (v := ?_) (get1 (get1 (get1 (get1 (get1 (get1 (get1 (get1 (get1 (get1 (get1 (get1 (get1 (get1 (get1 (get1 (get0 _ _))))))))))))))))) (by kernel_rfl) (by kernel_rfl) (by kernel_rfl) (fun _ _ _ h => h) (Or.inl ⟨by rfl, ?_⟩) (by assumption) ?_
            rotate_left
            · (intro w hSw; (try dsimp only at hSw); go_simp <;> with_reducible rfl)
            simp only [Act.put, List.setIfInBounds_toArray, List.set_cons_zero, List.set_cons_succ]
            refine wpAnyH_ready (rs := [17]) (by kernel_rfl) (by simp) ?_
            refine AllReadyH.cons (get1 (get1 (get1 (get1 (get1 (get1 (get1 (get1 (get1 (get1 (get1 (get1 (get1 (get1 (get1 (get1 (get1 (get0 _ _)))))))))))))))))) (fun K hK => ?_) AllReadyH.nil
            go_simp
            refine hK.out _ _ ⟨by rw [World.cell?_setCell_far _ _ _ _ (by simp; omega)]; exact c50, by rw [World.cell?_setCell_far _ _ _ _ (by simp; omega)]; exact c51, by rw [World.cell?_setCell_far _ _ _ _ (by simp; omega)]; exact c52, by simp; omega⟩ (fun hHeld => ?_)
            clear hK K
            try simp only [Act.put, List.setIfInBounds_toArray, List.set_cons_zero, List.set_cons_succ]
            refine wpAnyH_done (by kernel_rfl) ?_ _
            go_wp2
            go_roundg (len - (k + 1))
            case measure => omega
            case rel => exact ⟨k + 1, _, _, by first | rfl | (congr 1; omega), by omega, Nat.le_refl _, HP.out, hbe⟩
          exact AllReadyH.nil
        refine AllReadyH.cons (get1 (get1 (get1 (get1 (get1 (get1 (get1 (get1 (get1 (get1 (get1 (get1 (get1 (get0 _ _)))))))))))))) (fun K hK => ?_) ?_
        · go_simp
          refine hK.out _ _ ?_ (fun hHeld => ?_)
          · exact ⟨by rw [World.cell?_alloc_past _ _ _ zr3]; exact c30, by rw [World.cell?_alloc_past _ _ _ zr3]; exact c31, by rw [World.cell?_alloc_past _ _ _ zr3]; exact c32, by simp; omega⟩
          clear hK K
          try simp only [Act.put, List.setIfInBounds_toArray, List.set_cons_zero, List.set_cons_succ]
          refine wpAnyH_ready (rs := [4]) (by kernel_rfl) (by simp) ?_
          refine AllReadyH.cons (get1 (get1 (get1 (get1 (get0 _ _))))) (fun K hK => ?_) ?_
          · go_simp
            refine hK.out _ _ ?_ (fun hHeld => ?_)
            · exact hHeld
            clear hK K
            try simp only [Act.put, List.setIfInBounds_toArray, List.set_cons_zero, List.set_cons_succ]
            refine wpAnyH_ready (rs := [14]) (by kernel_rfl) (by simp) ?_
            refine AllReadyH.cons (get1 (get1 (get1 (get1 (get1 (get1 (get1 (get1 (get1 (get1 (get1 (get1 (get1 (get1 (get0 _ _))))))))))))))) (fun K hK => ?_) AllReadyH.nil
            have hrw3 : Below wr.heap.size wr w3 := ((Below.refl _ wr).alloc (Nat.le_refl _) _).drew.trans (hb3'.mono (Nat.le_succ _))
            have hmv3 := HM.out.below hrw3
            have HMV : Hid (MemV w.heap.size (w3.alloc (.cells #[.int .i64 rb, .slice (some ⟨wr.heap.size + 1, 0, none⟩) l1 l1, .bool rw] 96)) (w1.heap.size + 3) (rs.take k) [] [] (w1.heap.size + 1) (w1.heap.size + 2) 0 0 lv bs) := hmv3.below ((Below.refl _ w3).alloc (Nat.le_refl _) _)
            have htl : (rs.take k).length = k := by rw [List.length_take]; omega
            refine step_append_lies _ (by rfl) _ _ 70 (by rfl) w.heap.size 96 i0 _ 3 40 Tryd.underlying70 hi hz0 hz1 hz2 (by rfl) (by decide) lv (rs.take k).length _ (by rfl) HMV.out.row ⟨w3.heap.size, 0, none⟩ 1 1 [.int .i64 rb, .slice (some ⟨wr.heap.size + 1, 0, none⟩) l1 l1, .bool rw] (by rfl) (by rfl) (reg_cells _ _ _ _ rfl) (reg_one3 _ _ _ _) (by decide) (by unfold maxLen; omega) (by omega) (by have := hb.size; simp; omega) (w3.heap.size + 1) (by simp) ?_
            intro g cap2 w5 ho5 hg5 hat5 hlt5
            have hlvlt : ∀ x, lv.ownBlock = some x → x < wr.heap.size := fun x hx => (HM.out.row.lt x hx).2
            have nr6 : some wr.heap.size ≠ lv.ownBlock := fun e => by have := hlvlt _ e.symm; omega
            have c50 : w5.cell? ⟨wr.heap.size, 0, none⟩ = some (.int .i64 rb) := hg5.cell (by rw [World.cell?_alloc_past _ _ _ zr3]; exact c30) nr6
            have c51 : w5.cell? ⟨wr.heap.size, 1, none⟩ = some (.slice a1 l1 c1) := hg5.cell (by rw [World.cell?_alloc_past _ _ _ zr3]; exact c31) nr6
            have c52 : w5.cell? ⟨wr.heap.size, 2, none⟩ = some (.bool rw) := hg5.cell (by rw [World.cell?_alloc_past _ _ _ zr3]; exact c32) nr6
            have m25 : w5.cell? ⟨w1.heap.size + 3, 2, none⟩ = some lv := hg5.cell HMV.out.c2 (Ne.symm HM.out.rowApart.1)
            have f25 : w5.frozen? ⟨w1.heap.size + 3, 2, none⟩ = false := (hg5.frozen_far ⟨w1.heap.size + 3, 2, none⟩ (by simp; omega) (Ne.symm HM.out.rowApart.1)).trans (HMV.out.f2 2)
            have zr5 : wr.heap.size < w5.heap.size := World.block_lt_of_cell? w5 ⟨wr.heap.size, 0, none⟩ c50
            have zm5 : w1.heap.size + 3 < w5.heap.size := World.block_lt_of_cell? w5 ⟨w1.heap.size + 3, 2, none⟩ m25
            have HP : Hid (MemV w.heap.size (w5.setCell ⟨w1.heap.size + 3, 2, none⟩ (.slice (some ⟨g, 0, none⟩) (k + 1) cap2)) (w1.heap.size + 3) (rs.take (k + 1)) [] [] (w1.heap.size + 1) (w1.heap.size + 2) 0 0 (.slice (some ⟨g, 0, none⟩) (k + 1) cap2) (bs ++ [wr.heap.size + 1])) := by
              show MemV _ _ _ _ _ _ _ _ _ _ _ _
              have hg3' : w3.heap[wr.heap.size + 1]? = some (.cells ((rs.getD k noReg).words.map (Value.int .i64)).toArray 2 (0, 0)) := by simpa using hg3
              have hp := HMV.out.push (r := rs.getD k noReg) (b' := wr.heap.size + 1) (g := g) (cap := cap2) (w5 := w5) (((Below.refl _ w3).alloc (Nat.le_refl _) _).block _ (Array.getElem?_eq_some_iff.1 hg3').1 |>.trans hg3') (by have := hb.size; omega) ?_ ⟨HV.out.fits _ (getD_mem rs (by omega)), HFI.out _ (getD_mem rs (by omega))⟩ ?_ hg5 (by simpa using hat5)
              · rw [htl] at hp
                rw [take_reg rs k (by omega)]
                exact hp
              · have z1 := touch_lt HM.out.touch
                have z2 := map_lt HM.out.touch.r
                have z3' := map_lt HM.out.touch.w'
                refine ⟨by omega, by omega, by omega, fun e => by have := hlvlt _ e; omega, fun e => ?_⟩
                obtain ⟨i, hi, e⟩ := List.getElem_of_mem e
                have hwi := (HM.out.words i (by have := HM.out.len; omega)).1
                rw [getD_at hi, e] at hwi
                have := (Array.getElem?_eq_some_iff.1 hwi).1
                omega
              · have e : (rs.getD k noReg).cs (wr.heap.size + 1) = [.int .i64 rb, .slice (some ⟨wr.heap.size + 1, 0, none⟩) l1 l1, .bool rw] := by
                  unfold Reg.cs
                  rw [HRB.out, HRW.out, HV1.out.count]
                rw [e]
                exact ho5
            have hbe : Below w.heap.size w (w5.setCell ⟨w1.heap.size + 3, 2, none⟩ (.slice (some ⟨g, 0, none⟩) (k + 1) cap2)) := by
              refine Below.setCell ?_ (by show w.heap.size ≤ w1.heap.size + 3; omega) _
              exact ((hb.trans (hrw3.mono hb.size)).alloc (by have := hb.size; omega) _).grown hg5 (by have := hb.size; simp; omega) (fun x hx => (HM.out.row.lt x hx).1)
            refine hK.out _ _ ⟨c50, c51, c52, zr5⟩ (fun hHeld => ?_)
            clear hK K ho5 hg5 hat5 hlt5 hmv3 HMV hlvlt hrw3
            rw [htl]
            simp only [Act.put, List.setIfInBounds_toArray, List.set_cons_zero, List.set_cons_succ]
            refine wpAnyH_take (i := 15) (v := ?_) (get1 (get1 (get1 (get1 (get1 (get1 (get1 (get1 (get1 (get1 (get1 (get1 (get1 (get1 (get1 (get0 _ _)))))))))))))))) (by kernel_rfl) (by kernel_rfl) (by kernel_rfl) (fun _ _ _ h => h) (Or.inl ⟨by rfl, ?_⟩) (by assumption) ?_
            rotate_left
            · (intro w hSw; (try dsimp only at hSw); go_simp <;> with_reducible rfl)
            simp only [Act.put, List.setIfInBounds_toArray, List.set_cons_zero, List.set_cons_succ]
            refine wpAnyH_take (i := 16) (v := ?_) (get1 (get1 (get1 (get1 (get1 (get1 (get1 (get1 (get1 (get1 (get1 (get1 (get1 (get1 (get1 (get1 (get0 _ _))))))))))))))))) (by kernel_rfl) (by kernel_rfl) (by kernel_rfl) (fun _ _ _ h => h) (Or.inl ⟨by rfl, ?_⟩) (by assumption) ?_
            rotate_left
            · (intro w hSw; (try dsimp only at hSw); go_simp <;> with_reducible rfl)
            simp only [Act.put, List.setIfInBounds_toArray, List.set_cons_zero, List.set_cons_succ]
            refine wpAnyH_ready (rs := [17]) (by kernel_rfl) (by simp) ?_
            refine AllReadyH.cons (get1 (get1 (get1 (get1 (get1 (get1 (get1 (get1 (get1 (get1 (get1 (get1 (get1 (get1 (get1 (get1 (get1 (get0 _ _)))))))))))))))))) (fun K hK => ?_) AllReadyH.nil
            go_simp
            refine hK.out _ _ ⟨by rw [World.cell?_setCell_far _ _ _ _ (by simp; omega)]; exact c50, by rw [World.cell?_setCell_far _ _ _ _ (by simp; omega)]; exact c51, by rw [World.cell?_setCell_far _ _ _ _ (by simp; omega)]; exact c52, by simp; omega⟩ (fun hHeld => ?_)
            clear hK K
            try simp only [Act.put, List.setIfInBounds_toArray, List.set_cons_zero, List.set_cons_succ]
            refine wpAnyH_done (by kernel_rfl) ?_ _
            go_wp2
            go_roundg (len - (k + 1))
            case measure => omega
            case rel => exact ⟨k + 1, _, _, by first | rfl | (congr 1; omega), by omega, Nat.le_refl _, HP.out, hbe⟩
          exact AllReadyH.nil
        exact AllReadyH.nil
      exact AllReadyH.nil
    · obtain rfl : k = len := by omega
      go_wp2
      go_ret2
      refine ⟨w1.heap.size + 3, w1.heap.size + 1, w1.heap.size + 2, lv, bs, rfl, ?_, hb⟩
      have := HM.out
      rw [← hcnt, List.take_length] at this
      exact this

end Go.Proofs.YtneclfaamgfoeaaDoor

/- Load and Store. -/
namespace Go.Proofs.YtneclfaamgfoeaaDoor
open Go.RowKit Go.Maps
set_option linter.unusedVariables false

set_option maxRecDepth 100000 in
set_option maxHeartbeats 4000000 in
theorem find_odd {w : World} {bm : Nat} {x : Int} (hx : ¬ x.tmod 8 = 0) :
    Calls Tryd.prog 52 #[.pointer (some ⟨bm, 0, none⟩), .int .i64 x] w fun e w' => e = .returned (.tuple #[.int .i64 0, .int .i64 0, .bool false]) ∧ w' = w := by
  go_enter Tryd.func52, Tryd.ntmps52
  go_wp2
  go_ret3
  exact ⟨rfl, rfl⟩

/-- find, of a memory. -/
theorem find_mem {B : Nat} {w : World} {bm : Nat} {rs : List Reg} {R W : List Int} {br bw nr nw : Nat} {lv : Value} {bs : List Nat} (h : MemV B w bm rs R W br bw nr nw lv bs) (ho : AllOk rs) (x : Int) :
    Calls Tryd.prog 52 #[.pointer (some ⟨bm, 0, none⟩), .int .i64 x] w fun e w' => Below w.heap.size w w' ∧ ((∃ i j : Nat, Loc rs x i j ∧ e = .returned (.tuple #[.int .i64 i, .int .i64 j, .bool true])) ∨ (NoLoc rs x ∧ e = .returned (.tuple #[.int .i64 0, .int .i64 0, .bool false]))) := by
  by_cases hx : x.tmod 8 = 0
  · obtain ⟨a, cap, rfl, hv, -⟩ := h.form
    refine (find_any hx h.c2 hv ho).mono ?_
    rintro e w' ⟨hb, ⟨i, hi, h1, h2, rfl⟩ | ⟨h1, rfl⟩⟩
    · obtain ⟨j, hj⟩ := loc_j hx hi h1 h2
      refine ⟨hb, .inl ⟨i, j, hj, ?_⟩⟩
      rw [hj.2.2.2.2.1]
    · exact ⟨hb, .inr ⟨.inr h1, rfl⟩⟩
  · refine (find_odd hx).mono ?_
    rintro e w' ⟨rfl, rfl⟩
    exact ⟨Below.refl _ _, .inr ⟨.inl hx, rfl⟩⟩

theorem heap_froz {w : World} {b : Nat} {cs : Array Value} {t : TypeId} (h : w.heap[b]? = some (.cells cs t (0, 0))) (i : Nat) : w.frozen? ⟨b, i, none⟩ = false := by
  simp [World.frozen?, h]
theorem map_at {zs : List Int} {j : Nat} (h : j < zs.length) : (zs.map (Value.int .i64)).toArray[j]? = some (.int .i64 (zs.getD j 0)) := by
  simp [List.getD, h]
/-- What is loaded. -/
def wordAt (rs : List Reg) (i j : Nat) : Int := (rs.getD i noReg).words.getD j 0

theorem grown_below {B : Nat} {w w' : World} {x : Nat} (hg : w.grownBy w' (some x)) (hB : B ≤ w.heap.size) (hx : B ≤ x) : Below B w w' :=
  (Below.refl B w).grown hg hB (fun k hk => by cases hk; exact hx)

end Go.Proofs.YtneclfaamgfoeaaDoor

/- Load and Foot, with what they leave as it was. (Written by gen_far.py.) -/
namespace Go.Proofs.YtneclfaamgfoeaaDoor
open Go.RowKit Go.Maps
set_option linter.unusedVariables false

/-- Every block but one is as it was. -/
def Far (w w' : World) (k : Nat) : Prop := ∀ b, b < w.heap.size → b ≠ k → w'.heap[b]? = w.heap[b]?

set_option maxRecDepth 100000 in
set_option maxHeartbeats 4000000 in
theorem load_far {B : Nat} {w : World} {bm : Nat} {rs : List Reg} {R W : List Int} {br bw nr nw : Nat} {lv : Value} {bs : List Nat} (h : MemV B w bm rs R W br bw nr nw lv bs) (ho : AllOk rs) (x : Int) (hx : (Lit.int .i64 x).wf = true) (hn : nr < maxLen) (hB : B ≤ w.heap.size) :
    Calls Tryd.prog 37 #[.pointer (some ⟨bm, 0, none⟩), .int .i64 x] w fun e w' => Below B w w' ∧ Far w w' br ∧ ((∃ i j : Nat, Loc rs x i j ∧ e = .returned (.tuple #[.int .i64 (wordAt rs i j), .int .i64 0]) ∧ MemV B w' bm rs (R ++ [x]) W br bw (nr + 1) nw lv bs) ∨ (NoLoc rs x ∧ e = .returned (.tuple #[.int .i64 0, .int .i64 11]) ∧ MemV B w' bm rs R W br bw nr nw lv bs)) := by
  have HM : Hid _ := h
  clear h
  go_enter Tryd.func37, Tryd.ntmps37
  go_wp2_with fail
  refine (find_mem HM.out ho x).mono ?_
  rintro e w1 ⟨hb1, ⟨i, j, hl, rfl⟩ | ⟨hl, rfl⟩⟩
  · have H1 : Hid _ := HM.out.below hb1
    have hl' := hl
    obtain ⟨-, hi, -, -, -, hj⟩ := hl'
    have HL : Hid (Loc rs x i j) := hl
    have zz := hb1.size
    clear hl
    go_wp2_with fail
    refine (read_any H1.out.touch x hx hn).mono ?_
    rintro e w2 ⟨rfl, ht2, hg2⟩
    have H2 : Hid _ := H1.out.kept hg2 (.inl rfl) ht2
    obtain ⟨a, cap, hlv, -, hcs⟩ := H2.out.form
    rcases hcs with h0 | ⟨g, rfl, hgz, -, hc⟩
    · omega
    obtain ⟨k0, k1, k2⟩ := hc i hi
    have hv := H2.out.view i hi
    have m2 := H2.out.c2
    rw [hlv] at m2
    rcases hv.cells with h0 | ⟨bq, off, hq, hcw⟩
    · omega
    have hw := hcw j hj
    simp only [Option.some.injEq, Addr.mk.injEq, and_true] at hq
    obtain ⟨rfl, rfl⟩ := hq
    rw [Nat.zero_add] at hw
    have HW : Hid (wordAt rs i j = (rs.getD i noReg).words.getD j 0) := rfl
    generalize (rs.getD i noReg).words.getD j 0 = wv at *
    generalize hbq : bs.getD i 0 = bq at *
    have HLN : Hid ((rs.getD i noReg).words.length ≤ (rs.getD i noReg).words.length) := Nat.le_refl _
    generalize hln : (rs.getD i noReg).words.length = ln at *
    have i0 : (0 : Int) ≤ (i : Int) := by omega
    have i1 : (i : Int) < (rs.length : Int) := by omega
    have j0 : (0 : Int) ≤ (j : Int) := by omega
    have j1 : (j : Int) < (ln : Int) := by omega
    have hbz := grown_below hg2 (B := B) (by omega) HM.out.lo.2.1
    have hb2 : Below B w w2 := (hb1.mono hB).trans hbz
    have HF : Hid (Far w w2 br) := fun b hb hne => (hg2.block b (Nat.lt_of_lt_of_le hb zz) (fun e => hne (by simpa using e))).trans (hb1.block b hb)
    clear hcw hc hv ht2 hg2
    go_wp2
    go_ret2
    refine ⟨hb2, HF.out, .inl ⟨i, j, HL.out, ?_, H2.out⟩⟩
    rw [HW.out]
    rfl
  · have H1 : Hid _ := HM.out.below hb1
    have HL : Hid (NoLoc rs x) := hl
    clear hl
    go_wp2
    go_ret2
    exact ⟨hb1.mono hB, fun b hb _ => hb1.block b hb, .inr ⟨HL.out, rfl, H1.out⟩⟩

end Go.Proofs.YtneclfaamgfoeaaDoor

/- What is loaded and stored, one behind the other: no walk. -/
namespace Go.Proofs.YtneclfaamgfoeaaDoor
open Go.RowKit Go.Maps
set_option linter.unusedVariables false

/-- What Load answers. -/
def Ans (rs : List Reg) (x v e : Int) : Prop := (∃ i j, Loc rs x i j ∧ v = wordAt rs i j ∧ e = 0) ∨ (NoLoc rs x ∧ v = 0 ∧ e = 11)
/-- What Store answers, and what the regions are then. -/
def StAns (rs : List Reg) (x n g : Int) (rs' : List Reg) : Prop := (∃ i j, Loc rs x i j ∧ g = 0 ∧ rs' = putWord rs i j n) ∨ (g = 11 ∧ rs' = rs)

theorem loc_excl {rs : List Reg} {x : Int} {i j : Nat} (h : Loc rs x i j) (k : NoLoc rs x) : False := by
  rcases k with k | k
  · exact k h.1
  · have := k i h.2.1
    rw [h.2.2.1] at this
    cases this
theorem loc_uniq {rs : List Reg} {x : Int} {i j i' j' : Nat} (h : Loc rs x i j) (k : Loc rs x i' j') : i = i' ∧ j = j' := by
  have e : i = i' := by
    rcases Nat.lt_trichotomy i i' with c | c | c
    · have := k.2.2.2.1 i c
      rw [h.2.2.1] at this
      cases this
    · exact c
    · have := h.2.2.2.1 i' c
      rw [k.2.2.1] at this
      cases this
  subst e
  refine ⟨rfl, ?_⟩
  have h1 := h.2.2.2.2.1
  have h2 := k.2.2.2.2.1
  omega
theorem put_base (rs : List Reg) (i j k : Nat) (n : Int) : ((putWord rs i j n).getD k noReg).base = (rs.getD k noReg).base ∧ ((putWord rs i j n).getD k noReg).words.length = (rs.getD k noReg).words.length ∧ ((putWord rs i j n).getD k noReg).write = (rs.getD k noReg).write := by
  by_cases hi : i < rs.length
  · by_cases c : i = k
    · subst c
      rw [putWord_same rs i j n hi]
      simp
    · rw [putWord_other rs i j k n c]
      exact ⟨rfl, rfl, rfl⟩
  · unfold putWord
    rw [List.set_eq_of_length_le (by omega)]
    exact ⟨rfl, rfl, rfl⟩
theorem put_in (rs : List Reg) (i j k : Nat) (n x : Int) : inReg ((putWord rs i j n).getD k noReg) x = inReg (rs.getD k noReg) x := by
  obtain ⟨h1, h2, -⟩ := put_base rs i j k n
  unfold inReg
  rw [h1, h2]
theorem put_none (rs : List Reg) (i j : Nat) (n x : Int) (m : Nat) : noneTo (putWord rs i j n) x m ↔ noneTo rs x m := by
  unfold noneTo
  constructor
  · intro h k hk; rw [← put_in rs i j k n x]; exact h k hk
  · intro h k hk; rw [put_in rs i j k n x]; exact h k hk
theorem put_loc (rs : List Reg) (i j : Nat) (n x : Int) (a b : Nat) : Loc (putWord rs i j n) x a b ↔ Loc rs x a b := by
  obtain ⟨h1, h2, -⟩ := put_base rs i j a n
  unfold Loc
  rw [putWord_len, put_in, put_none, h1, h2]
theorem put_noloc (rs : List Reg) (i j : Nat) (n x : Int) : NoLoc (putWord rs i j n) x ↔ NoLoc rs x := by
  unfold NoLoc
  rw [putWord_len, put_none]
theorem put_ok {rs : List Reg} (h : AllOk rs) (i j : Nat) (n : Int) : AllOk (putWord rs i j n) := by
  intro k hk
  rw [putWord_len] at hk
  obtain ⟨h1, h2, -⟩ := put_base rs i j k n
  have := h k hk
  unfold regOk at *
  rw [h1, h2]
  exact this
theorem word_same {rs : List Reg} {i j : Nat} (hi : i < rs.length) (hj : j < (rs.getD i noReg).words.length) (n : Int) : wordAt (putWord rs i j n) i j = n := by
  unfold wordAt
  rw [putWord_same rs i j n hi]
  generalize (rs.getD i noReg).words = ws at *
  simp [List.getD, hj]
theorem word_other {rs : List Reg} {i j a b : Nat} (hne : ¬ (i = a ∧ j = b)) (n : Int) : wordAt (putWord rs i j n) a b = wordAt rs a b := by
  unfold wordAt
  by_cases hi : i < rs.length
  · by_cases c : i = a
    · subst c
      rw [putWord_same rs i j n hi]
      have : j ≠ b := fun e => hne ⟨rfl, e⟩
      simp [List.getD, List.getElem?_set_ne this]
    · rw [putWord_other rs i j a n c]
  · unfold putWord
    rw [List.set_eq_of_length_le (by omega)]
/-- Two addresses of one word are one. -/
theorem loc_addr {rs : List Reg} (ok : AllOk rs) {x y : Int} {i j : Nat} (h : Loc rs x i j) (k : Loc rs y i j) : x = y := by
  have hr := ok i h.2.1
  have hb := regOk_bd _ hr
  have ht : (rs.getD i noReg).base.tmod 8 = 0 := by
    unfold regOk at hr
    simp only [Bool.and_eq_true, decide_eq_true_eq] at hr
    exact hr.1.1.1
  have hx := h.1
  have hy := k.1
  have h1 := h.2.2.2.2.1
  have h2 := k.2.2.2.2.1
  have i1 := h.2.2.1
  have i2 := k.2.2.1
  unfold inReg at i1 i2
  simp only [Bool.and_eq_true, decide_eq_true_eq] at i1 i2
  rw [Int.tmod_eq_emod_of_nonneg (by omega)] at hx hy ht
  omega

theorem stays {rs rs' : List Reg} {x y n a f g b h d k : Int} (ok : AllOk rs) (h1 : Ans rs y a f) (h2 : StAns rs x n g rs') (h3 : Ans rs' y b h) (h4 : Ans rs' x d k) : f = h ∧ (g = 0 → k = 0 ∧ d = n) ∧ (¬ x = y → a = b) := by
  rcases h2 with ⟨i, j, hl, rfl, rfl⟩ | ⟨rfl, rfl⟩
  · refine ⟨?_, fun _ => ?_, fun hne => ?_⟩
    · rcases h1 with ⟨i1, j1, l1, -, rfl⟩ | ⟨n1, -, rfl⟩ <;> rcases h3 with ⟨i3, j3, l3, -, rfl⟩ | ⟨n3, -, rfl⟩
      · rfl
      · exact (loc_excl l1 ((put_noloc _ _ _ _ _).1 n3)).elim
      · exact (loc_excl ((put_loc _ _ _ _ _ _ _).1 l3) n1).elim
      · rfl
    · rcases h4 with ⟨i4, j4, l4, rfl, rfl⟩ | ⟨n4, -, -⟩
      · obtain ⟨rfl, rfl⟩ := loc_uniq hl ((put_loc _ _ _ _ _ _ _).1 l4)
        exact ⟨rfl, word_same hl.2.1 hl.2.2.2.2.2 n⟩
      · exact (loc_excl hl ((put_noloc _ _ _ _ _).1 n4)).elim
    · rcases h1 with ⟨i1, j1, l1, rfl, -⟩ | ⟨n1, rfl, -⟩ <;> rcases h3 with ⟨i3, j3, l3, rfl, -⟩ | ⟨n3, rfl, -⟩
      · obtain ⟨rfl, rfl⟩ := loc_uniq l1 ((put_loc _ _ _ _ _ _ _).1 l3)
        rw [word_other]
        rintro ⟨rfl, rfl⟩
        exact hne (loc_addr ok hl l1)
      · exact (loc_excl l1 ((put_noloc _ _ _ _ _).1 n3)).elim
      · exact (loc_excl ((put_loc _ _ _ _ _ _ _).1 l3) n1).elim
      · rfl
  · refine ⟨?_, fun e => absurd e (by decide), fun _ => ?_⟩
    · rcases h1 with ⟨i1, j1, l1, -, rfl⟩ | ⟨n1, -, rfl⟩ <;> rcases h3 with ⟨i3, j3, l3, -, rfl⟩ | ⟨n3, -, rfl⟩
      · rfl
      · exact (loc_excl l1 n3).elim
      · exact (loc_excl l3 n1).elim
      · rfl
    · rcases h1 with ⟨i1, j1, l1, rfl, -⟩ | ⟨n1, rfl, -⟩ <;> rcases h3 with ⟨i3, j3, l3, rfl, -⟩ | ⟨n3, rfl, -⟩
      · obtain ⟨rfl, rfl⟩ := loc_uniq l1 l3
        rfl
      · exact (loc_excl l1 n3).elim
      · exact (loc_excl l3 n1).elim
      · rfl

end Go.Proofs.YtneclfaamgfoeaaDoor

/- The memory's Store, with what it leaves as it was; a memory whose blocks are as they were. -/
namespace Go.Proofs.YtneclfaamgfoeaaDoor
open Go.RowKit Go.Maps
set_option linter.unusedVariables false

set_option maxRecDepth 100000 in
set_option maxHeartbeats 4000000 in
theorem store_far {B : Nat} {w : World} {bm : Nat} {rs : List Reg} {R W : List Int} {br bw nr nw : Nat} {lv : Value} {bs : List Nat} (h : MemV B w bm rs R W br bw nr nw lv bs) (ho : AllOk rs) (x n : Int) (hx : (Lit.int .i64 x).wf = true) (hw : (Lit.int .i64 n).wf = true) (hn : nw < maxLen) (hB : B ≤ w.heap.size) :
    Calls Tryd.prog 47 #[.pointer (some ⟨bm, 0, none⟩), .int .i64 x, .int .i64 n] w fun e w' => Below B w w' ∧ (∀ k, k < w.heap.size → k ≠ bw → k ∉ bs → w'.heap[k]? = w.heap[k]?) ∧ ((∃ i j : Nat, Loc rs x i j ∧ (rs.getD i noReg).write = true ∧ e = .returned (.int .i64 0) ∧ MemV B w' bm (putWord rs i j n) R (W ++ [x]) br bw nr (nw + 1) lv bs) ∨ ((NoLoc rs x ∨ ∃ i j, Loc rs x i j ∧ (rs.getD i noReg).write = false) ∧ e = .returned (.int .i64 11) ∧ MemV B w' bm rs R W br bw nr nw lv bs)) := by
  have HM : Hid _ := h
  clear h
  go_enter Tryd.func47, Tryd.ntmps47
  go_wp2_with fail
  refine (find_mem HM.out ho x).mono ?_
  rintro e w1 ⟨hb1, ⟨i, j, hl, rfl⟩ | ⟨hl, rfl⟩⟩
  · have H1 : Hid _ := HM.out.below hb1
    have hl' := hl
    obtain ⟨-, hi, -, -, -, hj⟩ := hl'
    have HL : Hid (Loc rs x i j) := hl
    have zz := hb1.size
    clear hl
    have i0 : (0 : Int) ≤ (i : Int) := by omega
    have i1 : (i : Int) < (rs.length : Int) := by omega
    obtain ⟨a, cap, hlv, -, hcs⟩ := H1.out.form
    rcases hcs with h0 | ⟨g, rfl, hgz, hgo, hc⟩
    · omega
    obtain ⟨k0, k1, k2⟩ := hc i hi
    have m1 := H1.out.c2
    rw [hlv] at m1
    cases hwr : (rs.getD i noReg).write with
    | false =>
      rw [hwr] at k2
      have HWR : Hid _ := hwr
      clear hwr hc
      go_wp2
      go_ret
      exact ⟨hb1.mono hB, fun k hk _ _ => hb1.block k hk, .inr ⟨.inr ⟨i, j, HL.out, HWR.out⟩, rfl, H1.out⟩⟩
    | true =>
      rw [hwr] at k2
      have HWR : Hid _ := hwr
      clear hwr hc
      go_wp2_with fail
      refine (wrote_any H1.out.touch x hx hn).mono ?_
      rintro e w2 ⟨rfl, ht2, hg2⟩
      have H2 : Hid _ := H1.out.kept hg2 (.inr rfl) ht2
      have ngb : some g ≠ some bw := by rw [← hgo]; exact H1.out.rowApart.2.2
      have nmb : some bm ≠ some bw := by simpa using H1.out.touch.nt.2
      have k12 : w2.cell? ⟨g, i * 3 + 1, none⟩ = _ := hg2.cell k1 ngb
      have m2 : w2.cell? ⟨bm, 2, none⟩ = _ := hg2.cell m1 nmb
      have hwb := (H2.out.words i hi).1
      have hwc := heap_cell hwb j
      have hwf : w2.frozen? ⟨bs.getD i 0, j, none⟩ = false := heap_froz hwb j
      have hput : Hid _ := H2.out.put i j hi hj n hw
      have hwc' : w2.cell? ⟨bs.getD i 0, j, none⟩ = some (.int .i64 ((rs.getD i noReg).words.getD j 0)) := hwc.trans (map_at hj)
      have hblo := (H2.out.words i hi).2
      clear hwc hwb k0 k1 k2 m1
      generalize (rs.getD i noReg).words.getD j 0 = wv at *
      generalize hbq : bs.getD i 0 = bq at *
      generalize hln : (rs.getD i noReg).words.length = ln at *
      have j0 : (0 : Int) ≤ (j : Int) := by omega
      have j1 : (j : Int) < (ln : Int) := by omega
      have hbz := grown_below hg2 (B := B) (by omega) HM.out.lo.2.2
      have hb2 : Below B w w2 := (hb1.mono hB).trans hbz
      have hbm : bs.getD i 0 ∈ bs := by rw [getD_at (by have := H1.out.len; omega)]; exact List.getElem_mem _
      have HF : Hid (∀ k, k < w.heap.size → k ≠ bw → k ∉ bs → (w2.setCell ⟨bq, j, none⟩ (.int .i64 n)).heap[k]? = w.heap[k]?) := fun k hk h1 h2 => by
        have e2 : w2.heap[k]? = w.heap[k]? := (hg2.block k (Nat.lt_of_lt_of_le hk zz) (fun e => h1 (by simpa using e))).trans (hb1.block k hk)
        rw [← e2]
        exact Below.heap_setCell _ _ _ _ (by show k ≠ bq; rintro rfl; rw [← hbq] at h2; exact h2 hbm)
      clear ht2 hg2 hbm
      go_wp2
      go_ret
      exact ⟨hb2.setCell hblo _, HF.out, .inl ⟨i, j, HL.out, HWR.out, rfl, hput.out⟩⟩
  · have H1 : Hid _ := HM.out.below hb1
    have HL : Hid (NoLoc rs x) := hl
    clear hl
    go_wp2
    go_ret
    exact ⟨hb1.mono hB, fun k hk _ _ => hb1.block k hk, .inr ⟨.inl HL.out, rfl, H1.out⟩⟩

theorem row_cong {w w' : World} {B : Nat} {v : Value} {e : TypeId} {size n : Nat} {xs : List Value} (o : w.ownsRow B e size v n xs) (h : ∀ g, v.ownBlock = some g → w'.heap[g]? = w.heap[g]?) : w'.ownsRow B e size v n xs := by
  refine ⟨o.1, ?_⟩
  rcases o.2 with h0 | ⟨g, cap, cur, rfl, hb, hg, r1, r2, r3, r4⟩
  · exact .inl h0
  · exact .inr ⟨g, cap, cur, rfl, hb, (h g rfl).trans hg, r1, r2, r3, r4⟩

def FpM (bm br bw : Nat) (lv : Value) (bs : List Nat) (k : Nat) : Prop := k = bm ∨ k = br ∨ k = bw ∨ lv.ownBlock = some k ∨ k ∈ bs

theorem MemV.conv {B : Nat} {w w' : World} {bm : Nat} {rs : List Reg} {R W : List Int} {br bw nr nw : Nat} {lv : Value} {bs : List Nat} (h : MemV B w bm rs R W br bw nr nw lv bs) (hb : ∀ k, FpM bm br bw lv bs k → w'.heap[k]? = w.heap[k]?) : MemV B w' bm rs R W br bw nr nw lv bs := by
  have hm := hb bm (.inl rfl)
  have hr := hb br (.inr (.inl rfl))
  have hw := hb bw (.inr (.inr (.inl rfl)))
  refine { touch := ⟨(World.cell?_of_block (a := ⟨bm, 0, none⟩) hm).trans h.touch.c0, (World.cell?_of_block (a := ⟨bm, 1, none⟩) hm).trans h.touch.c1, h.touch.ne, h.touch.nt, ?_, ?_⟩, c2 := (World.cell?_of_block (a := ⟨bm, 2, none⟩) hm).trans h.c2, f2 := fun o => (World.frozen?_of_block (a := ⟨bm, o, none⟩) hm).trans (h.f2 o), lo := h.lo, len := h.len, row := row_cong h.row (fun g hg => hb g (.inr (.inr (.inr (.inl hg))))), words := ?_, nodup := h.nodup, apart := h.apart, rowApart := h.rowApart, fits := h.fits }
  · obtain ⟨es, clock, h1, h2⟩ := h.touch.r
    exact ⟨es, clock, hr.trans h1, h2⟩
  · obtain ⟨es, clock, h1, h2⟩ := h.touch.w'
    exact ⟨es, clock, hw.trans h1, h2⟩
  · intro i hi
    obtain ⟨h1, h2⟩ := h.words i hi
    have hmem : bs.getD i 0 ∈ bs := by rw [getD_at (by have := h.len; omega)]; exact List.getElem_mem _
    exact ⟨(hb _ (.inr (.inr (.inr (.inr hmem))))).trans h1, h2⟩

end Go.Proofs.YtneclfaamgfoeaaDoor

/- The machine's memory, as it lies: Load and Store as a function of addresses. -/
namespace Go.Proofs.YtneclfaamgfoeaaDoor
open Go.RowKit Go.Maps
set_option linter.unusedVariables false

/-- These words are these regions'. -/
structure MemIs (rs : List Reg) (m : T.Memo) : Prop where
  yes : ∀ x i j, Loc rs x i j → m x = some (wordAt rs i j)
  no : ∀ x, NoLoc rs x → m x = none
theorem loc_or (rs : List Reg) (x : Int) : (∃ i j, Loc rs x i j) ∨ NoLoc rs x := by
  by_cases hx : x.tmod 8 = 0
  · have key : ∀ k, k ≤ rs.length → (∃ i j, Loc rs x i j) ∨ noneTo rs x k := by
      intro k
      induction k with
      | zero => intro _; exact .inr fun i hi => absurd hi (by omega)
      | succ k ih =>
        intro hk
        rcases ih (by omega) with h | h
        · exact .inl h
        · cases e : inReg (rs.getD k noReg) x with
          | true => obtain ⟨j, hj⟩ := loc_j hx (by omega) e h; exact .inl ⟨k, j, hj⟩
          | false => exact .inr (noneTo_snoc h e)
    rcases key rs.length (Nat.le_refl _) with h | h
    · exact .inl h
    · exact .inr (.inr h)
  · exact .inr (.inl hx)
theorem MemIs.put {rs : List Reg} {m : T.Memo} (ok : AllOk rs) (h : MemIs rs m) {x : Int} {i j : Nat} (hl : Loc rs x i j) (n : Int) : MemIs (putWord rs i j n) (T.upd m x n) := by
  have hx := h.yes x i j hl
  refine ⟨fun y a b hy => ?_, fun y hy => ?_⟩
  · have hy' := (put_loc rs i j n y a b).1 hy
    unfold T.upd
    by_cases e : y = x
    · subst e
      obtain ⟨rfl, rfl⟩ := loc_uniq hl hy'
      rw [if_pos rfl, hx, word_same hl.2.1 hl.2.2.2.2.2]
      simp
    · rw [if_neg e, h.yes y a b hy', word_other (fun q => e (by obtain ⟨rfl, rfl⟩ := q; exact loc_addr ok hy' hl))]
  · have hy' := (put_noloc rs i j n y).1 hy
    unfold T.upd
    by_cases e : y = x
    · subst e; exact (loc_excl hl hy').elim
    · rw [if_neg e]; exact h.no y hy'
theorem T.upd_none {m : T.Memo} {x : Int} (h : m x = none) (n : Int) : T.upd m x n = m := by
  funext y
  unfold T.upd
  by_cases e : y = x
  · subst e; rw [if_pos rfl, h]; simp
  · rw [if_neg e]

/-- Blocks of one mark alone were turned. -/
structure On (t : Nat → Nat) (c : Nat) (w w' : World) : Prop where
  block : ∀ k, k < w.heap.size → t k ≠ c → w'.heap[k]? = w.heap[k]?
  size : w.heap.size ≤ w'.heap.size
  os : w'.os = w.os
  tape : w'.tape = w.tape
  output : w'.output = w.output

def MP (B : Nat) (w : World) (bm : Nat) (m : T.Memo) (K : Nat) (t : Nat → Nat) : Prop :=
  ∃ rs R W br bw nr nw lv bs, MemV B w bm rs R W br bw nr nw lv bs ∧ AllOk rs ∧ (∀ i, i < rs.length → (rs.getD i noReg).write = true) ∧ MemIs rs m ∧ nr ≤ K ∧ nw ≤ K ∧ (∀ k, FpM bm br bw lv bs k → t k = 2)

theorem MP.mono {B : Nat} {w : World} {bm : Nat} {m : T.Memo} {K L : Nat} {t : Nat → Nat} (h : MP B w bm m K t) (hl : K ≤ L) : MP B w bm m L t := by
  obtain ⟨rs, R, W, br, bw, nr, nw, lv, bs, h1, h2, h3, h4, h5, h6, h7⟩ := h
  exact ⟨rs, R, W, br, bw, nr, nw, lv, bs, h1, h2, h3, h4, Nat.le_trans h5 hl, Nat.le_trans h6 hl, h7⟩
theorem MemV.lt {B : Nat} {w : World} {bm : Nat} {rs : List Reg} {R W : List Int} {br bw nr nw : Nat} {lv : Value} {bs : List Nat} (h : MemV B w bm rs R W br bw nr nw lv bs) : ∀ k, FpM bm br bw lv bs k → k < w.heap.size := by
  intro k hk
  rcases hk with rfl | rfl | rfl | hk | hk
  · exact touch_lt h.touch
  · exact map_lt h.touch.r
  · exact map_lt h.touch.w'
  · exact (h.row.lt _ hk).2
  · obtain ⟨i, hi, rfl⟩ := List.mem_iff_getElem.1 hk
    have := (h.words i (by have := h.len; omega)).1
    rw [getD_at hi] at this
    exact (Array.getElem?_eq_some_iff.1 this).1
theorem MP.bm {B : Nat} {w : World} {bm : Nat} {m : T.Memo} {K : Nat} {t : Nat → Nat} (h : MP B w bm m K t) : t bm = 2 ∧ bm < w.heap.size := by
  obtain ⟨rs, R, W, br, bw, nr, nw, lv, bs, h1, h2, h3, h4, h5, h6, h7⟩ := h
  exact ⟨h7 bm (.inl rfl), h1.lt bm (.inl rfl)⟩
/-- In a world whose marked blocks are as they were. -/
theorem MP.conv {B : Nat} {w w' : World} {bm : Nat} {m : T.Memo} {K : Nat} {t t' : Nat → Nat} (h : MP B w bm m K t) (hb : ∀ k, k < w.heap.size → t k = 2 → w'.heap[k]? = w.heap[k]?) (ht : ∀ k, k < w.heap.size → t k = 2 → t' k = 2) : MP B w' bm m K t' := by
  obtain ⟨rs, R, W, br, bw, nr, nw, lv, bs, h1, h2, h3, h4, h5, h6, h7⟩ := h
  exact ⟨rs, R, W, br, bw, nr, nw, lv, bs, h1.conv (fun k hk => hb k (h1.lt k hk) (h7 k hk)), h2, h3, h4, h5, h6, fun k hk => ht k (h1.lt k hk) (h7 k hk)⟩
theorem MP.fits {B : Nat} {w : World} {bm : Nat} {m : T.Memo} {K : Nat} {t : Nat → Nat} (h : MP B w bm m K t) (x n : Int) (hx : m x = some n) : (Lit.int .i64 n).wf = true := by
  obtain ⟨rs, R, W, br, bw, nr, nw, lv, bs, h1, h2, h3, h4, h5, h6, h7⟩ := h
  rcases loc_or rs x with ⟨i, j, hl⟩ | hl
  · rw [h4.yes x i j hl] at hx
    cases hx
    have hi := hl.2.1
    have hj := hl.2.2.2.2.2
    refine (h1.fits (rs.getD i noReg) (by rw [List.getD_eq_getElem?_getD, List.getElem?_eq_getElem hi]; exact List.getElem_mem _)).2 _ ?_
    unfold wordAt
    revert hj
    generalize (rs.getD i noReg).words = l
    intro hj
    simp [List.getD, hj]
  · rw [h4.no x hl] at hx
    cases hx

theorem mp_load {B : Nat} {w : World} {bm : Nat} {m : T.Memo} {K : Nat} {t : Nat → Nat} (h : MP B w bm m K t) (x : Int) (hx : (Lit.int .i64 x).wf = true) (hK : K < maxLen) (hB : B ≤ w.heap.size) :
    Calls Tryd.prog 37 #[.pointer (some ⟨bm, 0, none⟩), .int .i64 x] w fun e w' => e = .returned (.tuple #[.int .i64 ((m x).getD 0), .int .i64 (T.er (m x))]) ∧ MP B w' bm m (K + 1) t ∧ On t 2 w w' := by
  obtain ⟨rs, R, W, br, bw, nr, nw, lv, bs, h1, h2, h3, h4, h5, h6, h7⟩ := h
  refine (load_far h1 h2 x hx (by omega) hB).mono ?_
  rintro e w' ⟨hb, hf, hc⟩
  have hon : On t 2 w w' := ⟨fun k hk hne => hf k hk (fun e => hne (by rw [e]; exact h7 br (.inr (.inl rfl)))), hb.size, hb.os, hb.tape, hb.output⟩
  rcases hc with ⟨i, j, hl, rfl, hv⟩ | ⟨hl, rfl, hv⟩
  · rw [h4.yes x i j hl]
    exact ⟨rfl, ⟨rs, _, W, br, bw, _, nw, lv, bs, hv, h2, h3, h4, by omega, by omega, h7⟩, hon⟩
  · rw [h4.no x hl]
    exact ⟨rfl, ⟨rs, _, W, br, bw, _, nw, lv, bs, hv, h2, h3, h4, by omega, by omega, h7⟩, hon⟩
theorem mp_store {B : Nat} {w : World} {bm : Nat} {m : T.Memo} {K : Nat} {t : Nat → Nat} (h : MP B w bm m K t) (x n : Int) (hx : (Lit.int .i64 x).wf = true) (hw : (Lit.int .i64 n).wf = true) (hK : K < maxLen) (hB : B ≤ w.heap.size) :
    Calls Tryd.prog 47 #[.pointer (some ⟨bm, 0, none⟩), .int .i64 x, .int .i64 n] w fun e w' => e = .returned (.int .i64 (T.er (m x))) ∧ MP B w' bm (T.upd m x n) (K + 1) t ∧ On t 2 w w' := by
  obtain ⟨rs, R, W, br, bw, nr, nw, lv, bs, h1, h2, h3, h4, h5, h6, h7⟩ := h
  refine (store_far h1 h2 x n hx hw (by omega) hB).mono ?_
  rintro e w' ⟨hb, hf, hc⟩
  have hon : On t 2 w w' := ⟨fun k hk hne => hf k hk (fun e => hne (by rw [e]; exact h7 bw (.inr (.inr (.inl rfl))))) (fun e => hne (h7 k (.inr (.inr (.inr (.inr e)))))), hb.size, hb.os, hb.tape, hb.output⟩
  rcases hc with ⟨i, j, hl, hwr, rfl, hv⟩ | ⟨hl, rfl, hv⟩
  · rw [h4.yes x i j hl]
    refine ⟨rfl, ⟨_, R, _, br, bw, nr, _, lv, bs, hv, put_ok h2 i j n, fun k hk => ?_, h4.put h2 hl n, by omega, by omega, h7⟩, hon⟩
    rw [putWord_len] at hk
    rw [(put_base rs i j k n).2.2]
    exact h3 k hk
  · have hno : NoLoc rs x := by
      rcases hl with hl | ⟨i, j, hl, hf⟩
      · exact hl
      · rw [h3 i hl.2.1] at hf; cases hf
    rw [h4.no x hno, T.upd_none (h4.no x hno)]
    exact ⟨rfl, ⟨rs, R, _, br, bw, nr, _, lv, bs, hv, h2, h3, h4, by omega, by omega, h7⟩, hon⟩

end Go.Proofs.YtneclfaamgfoeaaDoor

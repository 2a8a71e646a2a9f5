/- mem.New. (Written by gen_new.py.) -/
import Derived.Test.YtfkpbmopneleiaaMemV
import Derived.Deep.LoopGhost
import Derived.Deep.RegionHeld3
namespace Go.Proofs.Ytfkpbmopneleiaa
open Go.RowKit Go.Maps
set_option linter.unusedVariables false

theorem get0 {α : Type} (x : α) (l : List α) : (List.toArray (x :: l))[0]? = some x := rfl
theorem get1 {α : Type} {x y : α} {l : List α} {i : Nat} (h : (List.toArray l)[i]? = some y) : (List.toArray (x :: l))[i + 1]? = some y := by simpa using h
theorem reg_cells (w : World) (v1 v2 v3 : Value) {o : Nat} (ho : o = w.heap.size) : ∀ j u, ([v1, v2, v3] : List Value)[j]? = some u → (w.alloc (.cells #[v1, v2, v3] 26)).cell? ((⟨o, 0, none⟩ : Addr).add j) = some u := by
  subst ho
  intro j u hu
  rw [Addr.add_lit]
  simp
  exact hu
theorem getD_mem (rs : List Reg) {k : Nat} (h : k < rs.length) : rs.getD k noReg ∈ rs := by
  simp [List.getD, h]
theorem take_reg (rs : List Reg) (k : Nat) (h : k < rs.length) : rs.take (k + 1) = rs.take k ++ [rs.getD k noReg] := by
  rw [List.take_succ_eq_append_getElem h]; simp [List.getD, h]
theorem reg_one3 (a : Int) (b : Option Addr) (l : Nat) (c : Bool) : ∀ u ∈ [Value.int .i64 a, .slice b l l, .bool c], u.oneCell' = true := by
  intro u hu
  simp at hu
  rcases hu with rfl | rfl | rfl <;> rfl

set_option maxRecDepth 100000 in
set_option maxHeartbeats 4000000 in
theorem new_no {w : World} {a : Option Addr} {len cap : Nat} {rs : List Reg} (h : RegsV w a len cap rs) (hm : may rs = false) :
    Calls Try.prog 10 #[.slice a len cap] w fun e w' => e = .returned (.tuple #[.pointer none, .int .i64 1]) ∧ Below w.heap.size w w' := by
  have HV : Hid _ := h
  clear h
  go_enter Try.func10, Try.ntmps10
  go_wp2_with (go_at_call 27; refine (maybe_any HV.out).mono ?_; rintro e w1 ⟨rfl, hb1⟩; rw [hm])
  go_ret2
  exact ⟨rfl, hb1⟩

set_option maxRecDepth 100000 in
set_option maxHeartbeats 8000000 in
theorem new_yes {w : World} {a : Option Addr} {len cap : Nat} {rs : List Reg} (h : RegsV w a len cap rs) (hm : may rs = true) (hlen : len ≤ 16) (hw : ∀ i, i < len → (rs.getD i noReg).words.length ≤ 65536) (hfit : ∀ r ∈ rs, ∀ n ∈ r.words, (Lit.int .i64 n).wf = true) :
    Calls Try.prog 10 #[.slice a len cap] w fun e w' => ∃ bm br bw lv bs, e = .returned (.tuple #[.pointer (some ⟨bm, 0, none⟩), .int .i64 0]) ∧ MemV w.heap.size w' bm rs [] [] br bw 0 0 lv bs ∧ Below w.heap.size w w' := by
  obtain ⟨i0, hi, hz0, hz1, hz2⟩ := info_parts infoR
  have hcnt := h.count
  have hroom := h.room
  have hcap := h.capOk
  have HV : Hid _ := h
  have HW : Hid _ := hw
  have HFI : Hid _ := hfit
  clear h hw hfit
  go_enter Try.func10, Try.ntmps10
  go_wp2_with (go_at_call 27; refine (maybe_any HV.out).mono ?_; rintro e w1 ⟨rfl, hb1⟩; rw [hm])
  refine (new_touched w1).mono ?_
  rintro e w2 ⟨rfl, hr2, hw2, hz22, hb2⟩
  have zz1 := hb1.size
  have hb02 : Below w.heap.size w w2 := hb1.trans (hb2.mono zz1)
  go_wp2
  go_loopg [15] len (fun r kv wr => ∃ (k : Nat) (lv : Value) (bs : List Nat), kv = .int .i64 k ∧ k ≤ len ∧ len - k ≤ r ∧ Hid (MemV w.heap.size wr (w1.heap.size + 3) (rs.take k) [] [] (w1.heap.size + 1) (w1.heap.size + 2) 0 0 lv bs) ∧ Below w.heap.size w wr)
  case atStart =>
    refine ⟨0, .slice none 0 0, [], rfl, Nat.zero_le _, by omega, ?_, hb02.alloc hb02.size _⟩
    show MemV _ _ _ _ _ _ _ _ _ _ _ _
    refine { touch := ⟨by simp [← hz22], by simp [← hz22], by omega, by omega, hr2.alloc _, hw2.alloc _⟩, c2 := by simp [← hz22], f2 := ?_, lo := by omega, len := rfl, row := World.ownsRow_nil _ _ _ _, words := by intro i hi; simp at hi, nodup := by simp, apart := by simp, rowApart := by simp [Value.ownBlock], fits := by simp }
    exact fun o => World.frozen?_alloc_at _ _ _ _ hz22.symm
  case round =>
    obtain ⟨k, lv, bs, rfl, hk, hr, HM, hb⟩ := hrel
    by_cases hlt : k < len
    · rcases HV.out.cells with h0 | ⟨b, off, hA, hc⟩
      · omega
      obtain ⟨a1, l1, c1, k0, k1, k2, V1⟩ := hc k hlt
      have hbl : b < w.heap.size := World.block_lt_of_cell? w ⟨b, off + k * 3, none⟩ k0
      have q0 := (hb.cell (p := ⟨b, off + k * 3, none⟩) hbl).trans k0
      have q1 := (hb.cell (p := ⟨b, off + k * 3 + 1, none⟩) hbl).trans k1
      have q2 := (hb.cell (p := ⟨b, off + k * 3 + 2, none⟩) hbl).trans k2
      subst hA
      obtain ⟨rb, hrb⟩ : ∃ rb, (rs.getD k noReg).base = rb := ⟨_, rfl⟩
      obtain ⟨rw, hrw⟩ : ∃ rw, (rs.getD k noReg).write = rw := ⟨_, rfl⟩
      rw [hrb] at q0
      rw [hrw] at q2
      have HRB : Hid _ := hrb
      have HRW : Hid _ := hrw
      have HV1 : Hid (View w a1 l1 c1 (rs.getD k noReg).words) := V1
      have HL1 : Hid (l1 ≤ 65536) := by show l1 ≤ 65536; have := HW.out k hlt; rw [HV1.out.count] at this; exact this
      have hbW : Below w.heap.size w ((wr.alloc (.cells #[.int .i64 rb, .slice a1 l1 c1, .bool rw] 26)).drew) := (hb.alloc hb.size _).drew
      have m2 := HM.out.c2
      have mf := HM.out.f2 2
      have mz : w1.heap.size + 3 < wr.heap.size := World.block_lt_of_cell? wr ⟨w1.heap.size + 3, 2, none⟩ m2
      clear hc k0 k1 k2 V1 hrb hrw
      go_wp2_with fail
      refine wp_region_held_drew (S := (fun w' : World => w'.cell? ⟨wr.heap.size, 0, none⟩ = some (.int .i64 rb) ∧ w'.cell? ⟨wr.heap.size, 1, none⟩ = some (.slice a1 l1 c1) ∧ w'.cell? ⟨wr.heap.size, 2, none⟩ = some (.bool rw) ∧ wr.heap.size < w'.heap.size)) (by kernel_rfl) ?_ (fun hHeld => ?_)
      · exact ⟨by simp, by simp, by simp, by show wr.heap.size < (wr.alloc _).heap.size; simp⟩
      refine wpAnyH_take (i := 0) (v := ?_) (get0 _ _) (by kernel_rfl) (by kernel_rfl) (by kernel_rfl) (fun _ _ _ h => h) (Or.inl ⟨by rfl, ?_⟩) (by assumption) ?_
      rotate_left
      · (intro w hSw; (try dsimp only at hSw); go_simp <;> with_reducible rfl)
      simp only [Act.put, List.setIfInBounds_toArray, List.set_cons_zero, List.set_cons_succ]
      refine wpAnyH_take (i := 1) (v := ?_) (get1 (get0 _ _)) (by kernel_rfl) (by kernel_rfl) (by kernel_rfl) (fun _ _ _ h => h) (Or.inl ⟨by rfl, ?_⟩) (by assumption) ?_
      rotate_left
      · (intro w hSw; (try dsimp only at hSw); go_simp <;> with_reducible rfl)
      simp only [Act.put, List.setIfInBounds_toArray, List.set_cons_zero, List.set_cons_succ]
      refine wpAnyH_take (i := 2) (v := ?_) (get1 (get1 (get0 _ _))) (by kernel_rfl) (by kernel_rfl) (by kernel_rfl) (fun _ _ _ h => h) (Or.inl ⟨by rfl, ?_⟩) (by assumption) ?_
      rotate_left
      · (intro w hSw; (try dsimp only at hSw); go_simp <;> with_reducible rfl)
      simp only [Act.put, List.setIfInBounds_toArray, List.set_cons_zero, List.set_cons_succ]
      refine wpAnyH_take (i := 3) (v := ?_) (get1 (get1 (get1 (get0 _ _)))) (by kernel_rfl) (by kernel_rfl) (by kernel_rfl) (fun _ _ _ h => h) (Or.inl ⟨by rfl, ?_⟩) (by assumption) ?_
      rotate_left
      · (intro w hSw; (try dsimp only at hSw); go_simp <;> with_reducible rfl)
      simp only [Act.put, List.setIfInBounds_toArray, List.set_cons_zero, List.set_cons_succ]
      refine wpAnyH_take (i := 5) (v := ?_) (get1 (get1 (get1 (get1 (get1 (get0 _ _)))))) (by kernel_rfl) (by kernel_rfl) (by kernel_rfl) (fun _ _ _ h => h) (Or.inl ⟨by rfl, ?_⟩) (by assumption) ?_
      rotate_left
      · (intro w hSw; (try dsimp only at hSw); go_simp <;> with_reducible rfl)
      simp only [Act.put, List.setIfInBounds_toArray, List.set_cons_zero, List.set_cons_succ]
      refine wpAnyH_take (i := 6) (v := ?_) (get1 (get1 (get1 (get1 (get1 (get1 (get0 _ _))))))) (by kernel_rfl) (by kernel_rfl) (by kernel_rfl) (fun _ _ _ h => h) (Or.inl ⟨by rfl, ?_⟩) (by assumption) ?_
      rotate_left
      · (intro w hSw; (try dsimp only at hSw); go_simp <;> with_reducible rfl)
      simp only [Act.put, List.setIfInBounds_toArray, List.set_cons_zero, List.set_cons_succ]
      refine wpAnyH_take (i := 7) (v := ?_) (get1 (get1 (get1 (get1 (get1 (get1 (get1 (get0 _ _)))))))) (by kernel_rfl) (by kernel_rfl) (by kernel_rfl) (fun _ _ _ h => h) (Or.inl ⟨by rfl, ?_⟩) (by assumption) ?_
      rotate_left
      · (intro w hSw; (try dsimp only at hSw); go_simp <;> with_reducible rfl)
      simp only [Act.put, List.setIfInBounds_toArray, List.set_cons_zero, List.set_cons_succ]
      refine wpAnyH_take (i := 8) (v := ?_) (get1 (get1 (get1 (get1 (get1 (get1 (get1 (get1 (get0 _ _))))))))) (by kernel_rfl) (by kernel_rfl) (by kernel_rfl) (fun _ _ _ h => h) (Or.inl ⟨by rfl, ?_⟩) (by assumption) ?_
      rotate_left
      · (intro w hSw; (try dsimp only at hSw); go_simp <;> with_reducible rfl)
      simp only [Act.put, List.setIfInBounds_toArray, List.set_cons_zero, List.set_cons_succ]
      refine wpAnyH_take (i := 10) (v := ?_) (get1 (get1 (get1 (get1 (get1 (get1 (get1 (get1 (get1 (get1 (get0 _ _))))))))))) (by kernel_rfl) (by kernel_rfl) (by kernel_rfl) (fun _ _ _ h => h) (Or.inl ⟨by rfl, ?_⟩) (by assumption) ?_
      rotate_left
      · (intro w hSw; (try dsimp only at hSw); go_simp <;> with_reducible rfl)
      simp only [Act.put, List.setIfInBounds_toArray, List.set_cons_zero, List.set_cons_succ]
      refine wpAnyH_take (i := 11) (v := ?_) (get1 (get1 (get1 (get1 (get1 (get1 (get1 (get1 (get1 (get1 (get1 (get0 _ _)))))))))))) (by kernel_rfl) (by kernel_rfl) (by kernel_rfl) (fun _ _ _ h => h) (Or.inl ⟨by rfl, ?_⟩) (by assumption) ?_
      rotate_left
      · (intro w hSw; (try dsimp only at hSw); go_simp <;> with_reducible rfl)
      simp only [Act.put, List.setIfInBounds_toArray, List.set_cons_zero, List.set_cons_succ]
      refine wpAnyH_ready (rs := [4, 9]) (by kernel_rfl) (by simp) ?_
      refine AllReadyH.cons (get1 (get1 (get1 (get1 (get0 _ _))))) (fun K hK => ?_) ?_
      · go_simp
        refine hK.out _ _ ?_ (fun hHeld => ?_)
        · exact hHeld
        clear hK K
        try simp only [Act.put, List.setIfInBounds_toArray, List.set_cons_zero, List.set_cons_succ]
        refine wpAnyH_ready (rs := [9]) (by kernel_rfl) (by simp) ?_
        refine AllReadyH.cons (get1 (get1 (get1 (get1 (get1 (get1 (get1 (get1 (get1 (get0 _ _)))))))))) (fun K hK => ?_) ?_
        · go_simp
          refine (copied_any (HV1.out.below hbW) (by have := HL1.out; omega)).mono ?_
          rintro e w3 ⟨rfl, hg3, hlt3, hb3⟩
          try go_wp2_with fail
          have hb3' : Below (wr.heap.size + 1) ((wr.alloc (.cells #[.int .i64 rb, .slice a1 l1 c1, .bool rw] 26)).drew) w3 := by simpa using hb3
          have z3 := hb3'.size
          have c30 : w3.cell? ⟨wr.heap.size, 0, none⟩ = some (.int .i64 rb) := (hb3'.cell (p := ⟨wr.heap.size, 0, none⟩) (by simp)).trans (by simp)
          have c31 : w3.cell? ⟨wr.heap.size, 1, none⟩ = some (.slice a1 l1 c1) := (hb3'.cell (p := ⟨wr.heap.size, 1, none⟩) (by simp)).trans (by simp)
          have c32 : w3.cell? ⟨wr.heap.size, 2, none⟩ = some (.bool rw) := (hb3'.cell (p := ⟨wr.heap.size, 2, none⟩) (by simp)).trans (by simp)
          have m23 : w3.cell? ⟨w1.heap.size + 3, 2, none⟩ = some lv := (hb3'.cell (p := ⟨w1.heap.size + 3, 2, none⟩) (by simp; omega)).trans (by rw [World.cell?_drew, World.cell?_alloc_past _ _ _ mz]; exact m2)
          have zm3 : w1.heap.size + 3 < w3.heap.size := World.block_lt_of_cell? w3 ⟨w1.heap.size + 3, 2, none⟩ m23
          have zr3 : wr.heap.size < w3.heap.size := World.block_lt_of_cell? w3 ⟨wr.heap.size, 0, none⟩ c30
          refine hK.out _ _ ?_ (fun hHeld => ?_)
          · exact ⟨c30, c31, c32, zr3⟩
          clear hK K
          try simp only [Act.put, List.setIfInBounds_toArray, List.set_cons_zero, List.set_cons_succ]
          refine wpAnyH_take (i := 12) (v := ?_) (get1 (get1 (get1 (get1 (get1 (get1 (get1 (get1 (get1 (get1 (get1 (get1 (get0 _ _))))))))))))) (by kernel_rfl) (by kernel_rfl) (by kernel_rfl) (fun _ _ _ h => h) (Or.inl ⟨by rfl, ?_⟩) (by assumption) ?_
          rotate_left
          · (intro w hSw; (try dsimp only at hSw); go_simp <;> with_reducible rfl)
          simp only [Act.put, List.setIfInBounds_toArray, List.set_cons_zero, List.set_cons_succ]
          refine wpAnyH_ready (rs := [13]) (by kernel_rfl) (by simp) ?_
          refine AllReadyH.cons (get1 (get1 (get1 (get1 (get1 (get1 (get1 (get1 (get1 (get1 (get1 (get1 (get1 (get0 _ _)))))))))))))) (fun K hK => ?_) ?_
          · go_simp
            refine hK.out _ _ ?_ (fun hHeld => ?_)
            · exact ⟨by rw [World.cell?_alloc_past _ _ _ zr3]; exact c30, by rw [World.cell?_alloc_past _ _ _ zr3]; exact c31, by rw [World.cell?_alloc_past _ _ _ zr3]; exact c32, by simp; omega⟩
            clear hK K
            try simp only [Act.put, List.setIfInBounds_toArray, List.set_cons_zero, List.set_cons_succ]
            refine wpAnyH_ready (rs := [14]) (by kernel_rfl) (by simp) ?_
            refine AllReadyH.cons (get1 (get1 (get1 (get1 (get1 (get1 (get1 (get1 (get1 (get1 (get1 (get1 (get1 (get1 (get0 _ _))))))))))))))) (fun K hK => ?_) AllReadyH.nil
            have hrw3 : Below wr.heap.size wr w3 := ((Below.refl _ wr).alloc (Nat.le_refl _) _).drew.trans (hb3'.mono (Nat.le_succ _))
            have hmv3 := HM.out.below hrw3
            have HMV : Hid (MemV w.heap.size (w3.alloc (.cells #[.int .i64 rb, .slice (some ⟨wr.heap.size + 1, 0, none⟩) l1 l1, .bool rw] 26)) (w1.heap.size + 3) (rs.take k) [] [] (w1.heap.size + 1) (w1.heap.size + 2) 0 0 lv bs) := hmv3.below ((Below.refl _ w3).alloc (Nat.le_refl _) _)
            have htl : (rs.take k).length = k := by rw [List.length_take]; omega
            refine step_append_lies _ (by rfl) _ _ 22 (by rfl) w.heap.size 26 i0 _ 3 40 Try.underlying22 hi hz0 hz1 hz2 (by rfl) (by decide) lv (rs.take k).length _ (by rfl) HMV.out.row ⟨w3.heap.size, 0, none⟩ 1 1 [.int .i64 rb, .slice (some ⟨wr.heap.size + 1, 0, none⟩) l1 l1, .bool rw] (by rfl) (by rfl) (reg_cells _ _ _ _ rfl) (reg_one3 _ _ _ _) (by decide) (by unfold maxLen; omega) (by omega) (by have := hb.size; simp; omega) (w3.heap.size + 1) (by simp) ?_
            intro g cap2 w5 ho5 hg5 hat5 hlt5
            have hlvlt : ∀ x, lv.ownBlock = some x → x < wr.heap.size := fun x hx => (HM.out.row.lt x hx).2
            have nr6 : some wr.heap.size ≠ lv.ownBlock := fun e => by have := hlvlt _ e.symm; omega
            have c50 : w5.cell? ⟨wr.heap.size, 0, none⟩ = some (.int .i64 rb) := hg5.cell (by rw [World.cell?_alloc_past _ _ _ zr3]; exact c30) nr6
            have c51 : w5.cell? ⟨wr.heap.size, 1, none⟩ = some (.slice a1 l1 c1) := hg5.cell (by rw [World.cell?_alloc_past _ _ _ zr3]; exact c31) nr6
            have c52 : w5.cell? ⟨wr.heap.size, 2, none⟩ = some (.bool rw) := hg5.cell (by rw [World.cell?_alloc_past _ _ _ zr3]; exact c32) nr6
            have m25 : w5.cell? ⟨w1.heap.size + 3, 2, none⟩ = some lv := hg5.cell HMV.out.c2 (Ne.symm HM.out.rowApart.1)
            have f25 : w5.frozen? ⟨w1.heap.size + 3, 2, none⟩ = false := (hg5.frozen_far ⟨w1.heap.size + 3, 2, none⟩ (by simp; omega) (Ne.symm HM.out.rowApart.1)).trans (HMV.out.f2 2)
            have zr5 : wr.heap.size < w5.heap.size := World.block_lt_of_cell? w5 ⟨wr.heap.size, 0, none⟩ c50
            have zm5 : w1.heap.size + 3 < w5.heap.size := World.block_lt_of_cell? w5 ⟨w1.heap.size + 3, 2, none⟩ m25
            have HP : Hid (MemV w.heap.size (w5.setCell ⟨w1.heap.size + 3, 2, none⟩ (.slice (some ⟨g, 0, none⟩) (k + 1) cap2)) (w1.heap.size + 3) (rs.take (k + 1)) [] [] (w1.heap.size + 1) (w1.heap.size + 2) 0 0 (.slice (some ⟨g, 0, none⟩) (k + 1) cap2) (bs ++ [wr.heap.size + 1])) := by
              show MemV _ _ _ _ _ _ _ _ _ _ _ _
              have hg3' : w3.heap[wr.heap.size + 1]? = some (.cells ((rs.getD k noReg).words.map (Value.int .i64)).toArray 2 (0, 0)) := by simpa using hg3
              have hp := HMV.out.push (r := rs.getD k noReg) (b' := wr.heap.size + 1) (g := g) (cap := cap2) (w5 := w5) (((Below.refl _ w3).alloc (Nat.le_refl _) _).block _ (Array.getElem?_eq_some_iff.1 hg3').1 |>.trans hg3') (by have := hb.size; omega) ?_ ⟨HV.out.fits _ (getD_mem rs (by omega)), HFI.out _ (getD_mem rs (by omega))⟩ ?_ hg5 (by simpa using hat5)
              · rw [htl] at hp
                rw [take_reg rs k (by omega)]
                exact hp
              · have z1 := touch_lt HM.out.touch
                have z2 := map_lt HM.out.touch.r
                have z3' := map_lt HM.out.touch.w'
                refine ⟨by omega, by omega, by omega, fun e => by have := hlvlt _ e; omega, fun e => ?_⟩
                obtain ⟨i, hi, e⟩ := List.getElem_of_mem e
                have hwi := (HM.out.words i (by have := HM.out.len; omega)).1
                rw [getD_at hi, e] at hwi
                have := (Array.getElem?_eq_some_iff.1 hwi).1
                omega
              · have e : (rs.getD k noReg).cs (wr.heap.size + 1) = [.int .i64 rb, .slice (some ⟨wr.heap.size + 1, 0, none⟩) l1 l1, .bool rw] := by
                  unfold Reg.cs
                  rw [HRB.out, HRW.out, HV1.out.count]
                rw [e]
                exact ho5
            have hbe : Below w.heap.size w (w5.setCell ⟨w1.heap.size + 3, 2, none⟩ (.slice (some ⟨g, 0, none⟩) (k + 1) cap2)) := by
              refine Below.setCell ?_ (by show w.heap.size ≤ w1.heap.size + 3; omega) _
              exact ((hb.trans (hrw3.mono hb.size)).alloc (by have := hb.size; omega) _).grown hg5 (by have := hb.size; simp; omega) (fun x hx => (HM.out.row.lt x hx).1)
            refine hK.out _ _ ⟨c50, c51, c52, zr5⟩ (fun hHeld => ?_)
            clear hK K ho5 hg5 hat5 hlt5 hmv3 HMV hlvlt hrw3
            rw [htl]
            simp only [Act.put, List.setIfInBounds_toArray, List.set_cons_zero, List.set_cons_succ]
            refine wpAnyH_take (i := 15) (v := ?_) (get1 (get1 (get1 (get1 (get1 (get1 (get1 (get1 (get1 (get1 (get1 (get1 (get1 (get1 (get1 (get0 _ _)))))))))))))))) (by kernel_rfl) (by kernel_rfl) (by kernel_rfl) (fun _ _ _ h => h) (Or.inl ⟨by rfl, ?_⟩) (by assumption) ?_
            rotate_left
            · (intro w hSw; (try dsimp only at hSw); go_simp <;> with_reducible rfl)
            simp only [Act.put, List.setIfInBounds_toArray, List.set_cons_zero, List.set_cons_succ]
            refine wpAnyH_take (i := 16) (v := ?_) (get1 (get1 (get1 (get1 (get1 (get1 (get1 (get1 (get1 (get1 (get1 (get1 (get1 (get1 (get1 (get1 (get0 _ _))))))))))))))))) (by kernel_rfl) (by kernel_rfl) (by kernel_rfl) (fun _ _ _ h => h) (Or.inl ⟨by rfl, ?_⟩) (by assumption) ?_
            rotate_left
            · (intro w hSw; (try dsimp only at hSw); go_simp <;> with_reducible rfl)
            simp only [Act.put, List.setIfInBounds_toArray, List.set_cons_zero, List.set_cons_succ]
            refine wpAnyH_ready (rs := [17]) (by kernel_rfl) (by simp) ?_
            refine AllReadyH.cons (get1 (get1 (get1 (get1 (get1 (get1 (get1 (get1 (get1 (get1 (get1 (get1 (get1 (get1 (get1 (get1 (get1 (get0 _ _)))))))))))))))))) (fun K hK => ?_) AllReadyH.nil
            go_simp
            refine hK.out _ _ ⟨by rw [World.cell?_setCell_far _ _ _ _ (by simp; omega)]; exact c50, by rw [World.cell?_setCell_far _ _ _ _ (by simp; omega)]; exact c51, by rw [World.cell?_setCell_far _ _ _ _ (by simp; omega)]; exact c52, by simp; omega⟩ (fun hHeld => ?_)
            clear hK K
            try simp only [Act.put, List.setIfInBounds_toArray, List.set_cons_zero, List.set_cons_succ]
            refine wpAnyH_done (by kernel_rfl) ?_ _
            go_wp2
            go_roundg (len - (k + 1))
            case measure => omega
            case rel => exact ⟨k + 1, _, _, by first | rfl | (congr 1; omega), by omega, Nat.le_refl _, HP.out, hbe⟩
          exact AllReadyH.nil
        exact AllReadyH.nil
      refine AllReadyH.cons (get1 (get1 (get1 (get1 (get1 (get1 (get1 (get1 (get1 (get0 _ _)))))))))) (fun K hK => ?_) ?_
      · go_simp
        refine (copied_any (HV1.out.below hbW) (by have := HL1.out; omega)).mono ?_
        rintro e w3 ⟨rfl, hg3, hlt3, hb3⟩
        try go_wp2_with fail
        have hb3' : Below (wr.heap.size + 1) ((wr.alloc (.cells #[.int .i64 rb, .slice a1 l1 c1, .bool rw] 26)).drew) w3 := by simpa using hb3
        have z3 := hb3'.size
        have c30 : w3.cell? ⟨wr.heap.size, 0, none⟩ = some (.int .i64 rb) := (hb3'.cell (p := ⟨wr.heap.size, 0, none⟩) (by simp)).trans (by simp)
        have c31 : w3.cell? ⟨wr.heap.size, 1, none⟩ = some (.slice a1 l1 c1) := (hb3'.cell (p := ⟨wr.heap.size, 1, none⟩) (by simp)).trans (by simp)
        have c32 : w3.cell? ⟨wr.heap.size, 2, none⟩ = some (.bool rw) := (hb3'.cell (p := ⟨wr.heap.size, 2, none⟩) (by simp)).trans (by simp)
        have m23 : w3.cell? ⟨w1.heap.size + 3, 2, none⟩ = some lv := (hb3'.cell (p := ⟨w1.heap.size + 3, 2, none⟩) (by simp; omega)).trans (by rw [World.cell?_drew, World.cell?_alloc_past _ _ _ mz]; exact m2)
        have zm3 : w1.heap.size + 3 < w3.heap.size := World.block_lt_of_cell? w3 ⟨w1.heap.size + 3, 2, none⟩ m23
        have zr3 : wr.heap.size < w3.heap.size := World.block_lt_of_cell? w3 ⟨wr.heap.size, 0, none⟩ c30
        refine hK.out _ _ ?_ (fun hHeld => ?_)
        · exact ⟨c30, c31, c32, zr3⟩
        clear hK K
        try simp only [Act.put, List.setIfInBounds_toArray, List.set_cons_zero, List.set_cons_succ]
        refine wpAnyH_take (i := 12) (v := ?_) (get1 (get1 (get1 (get1 (get1 (get1 (get1 (get1 (get1 (get1 (get1 (get1 (get0 _ _))))))))))))) (by kernel_rfl) (by kernel_rfl) (by kernel_rfl) (fun _ _ _ h => h) (Or.inl ⟨by rfl, ?_⟩) (by assumption) ?_
        rotate_left
        · (intro w hSw; (try dsimp only at hSw); go_simp <;> with_reducible rfl)
        simp only [Act.put, List.setIfInBounds_toArray, List.set_cons_zero, List.set_cons_succ]
        refine wpAnyH_ready (rs := [4, 13]) (by kernel_rfl) (by simp) ?_
        refine AllReadyH.cons (get1 (get1 (get1 (get1 (get0 _ _))))) (fun K hK => ?_) ?_
        · go_simp
          refine hK.out _ _ ?_ (fun hHeld => ?_)
          · exact ⟨c30, c31, c32, zr3⟩
          clear hK K
          try simp only [Act.put, List.setIfInBounds_toArray, List.set_cons_zero, List.set_cons_succ]
          refine wpAnyH_ready (rs := [13]) (by kernel_rfl) (by simp) ?_
          refine AllReadyH.cons (get1 (get1 (get1 (get1 (get1 (get1 (get1 (get1 (get1 (get1 (get1 (get1 (get1 (get0 _ _)))))))))))))) (fun K hK => ?_) ?_
          · go_simp
            refine hK.out _ _ ?_ (fun hHeld => ?_)
            · exact ⟨by rw [World.cell?_alloc_past _ _ _ zr3]; exact c30, by rw [World.cell?_alloc_past _ _ _ zr3]; exact c31, by rw [World.cell?_alloc_past _ _ _ zr3]; exact c32, by simp; omega⟩
            clear hK K
            try simp only [Act.put, List.setIfInBounds_toArray, List.set_cons_zero, List.set_cons_succ]
            refine wpAnyH_ready (rs := [14]) (by kernel_rfl) (by simp) ?_
            refine AllReadyH.cons (get1 (get1 (get1 (get1 (get1 (get1 (get1 (get1 (get1 (get1 (get1 (get1 (get1 (get1 (get0 _ _))))))))))))))) (fun K hK => ?_) AllReadyH.nil
            have hrw3 : Below wr.heap.size wr w3 := ((Below.refl _ wr).alloc (Nat.le_refl _) _).drew.trans (hb3'.mono (Nat.le_succ _))
            have hmv3 := HM.out.below hrw3
            have HMV : Hid (MemV w.heap.size (w3.alloc (.cells #[.int .i64 rb, .slice (some ⟨wr.heap.size + 1, 0, none⟩) l1 l1, .bool rw] 26)) (w1.heap.size + 3) (rs.take k) [] [] (w1.heap.size + 1) (w1.heap.size + 2) 0 0 lv bs) := hmv3.below ((Below.refl _ w3).alloc (Nat.le_refl _) _)
            have htl : (rs.take k).length = k := by rw [List.length_take]; omega
            refine step_append_lies _ (by rfl) _ _ 22 (by rfl) w.heap.size 26 i0 _ 3 40 Try.underlying22 hi hz0 hz1 hz2 (by rfl) (by decide) lv (rs.take k).length _ (by rfl) HMV.out.row ⟨w3.heap.size, 0, none⟩ 1 1 [.int .i64 rb, .slice (some ⟨wr.heap.size + 1, 0, none⟩) l1 l1, .bool rw] (by rfl) (by rfl) (reg_cells _ _ _ _ rfl) (reg_one3 _ _ _ _) (by decide) (by unfold maxLen; omega) (by omega) (by have := hb.size; simp; omega) (w3.heap.size + 1) (by simp) ?_
            intro g cap2 w5 ho5 hg5 hat5 hlt5
            have hlvlt : ∀ x, lv.ownBlock = some x → x < wr.heap.size := fun x hx => (HM.out.row.lt x hx).2
            have nr6 : some wr.heap.size ≠ lv.ownBlock := fun e => by have := hlvlt _ e.symm; omega
            have c50 : w5.cell? ⟨wr.heap.size, 0, none⟩ = some (.int .i64 rb) := hg5.cell (by rw [World.cell?_alloc_past _ _ _ zr3]; exact c30) nr6
            have c51 : w5.cell? ⟨wr.heap.size, 1, none⟩ = some (.slice a1 l1 c1) := hg5.cell (by rw [World.cell?_alloc_past _ _ _ zr3]; exact c31) nr6
            have c52 : w5.cell? ⟨wr.heap.size, 2, none⟩ = some (.bool rw) := hg5.cell (by rw [World.cell?_alloc_past _ _ _ zr3]; exact c32) nr6
            have m25 : w5.cell? ⟨w1.heap.size + 3, 2, none⟩ = some lv := hg5.cell HMV.out.c2 (Ne.symm HM.out.rowApart.1)
            have f25 : w5.frozen? ⟨w1.heap.size + 3, 2, none⟩ = false := (hg5.frozen_far ⟨w1.heap.size + 3, 2, none⟩ (by simp; omega) (Ne.symm HM.out.rowApart.1)).trans (HMV.out.f2 2)
            have zr5 : wr.heap.size < w5.heap.size := World.block_lt_of_cell? w5 ⟨wr.heap.size, 0, none⟩ c50
            have zm5 : w1.heap.size + 3 < w5.heap.size := World.block_lt_of_cell? w5 ⟨w1.heap.size + 3, 2, none⟩ m25
            have HP : Hid (MemV w.heap.size (w5.setCell ⟨w1.heap.size + 3, 2, none⟩ (.slice (some ⟨g, 0, none⟩) (k + 1) cap2)) (w1.heap.size + 3) (rs.take (k + 1)) [] [] (w1.heap.size + 1) (w1.heap.size + 2) 0 0 (.slice (some ⟨g, 0, none⟩) (k + 1) cap2) (bs ++ [wr.heap.size + 1])) := by
              show MemV _ _ _ _ _ _ _ _ _ _ _ _
              have hg3' : w3.heap[wr.heap.size + 1]? = some (.cells ((rs.getD k noReg).words.map (Value.int .i64)).toArray 2 (0, 0)) := by simpa using hg3
              have hp := HMV.out.push (r := rs.getD k noReg) (b' := wr.heap.size + 1) (g := g) (cap := cap2) (w5 := w5) (((Below.refl _ w3).alloc (Nat.le_refl _) _).block _ (Array.getElem?_eq_some_iff.1 hg3').1 |>.trans hg3') (by have := hb.size; omega) ?_ ⟨HV.out.fits _ (getD_mem rs (by omega)), HFI.out _ (getD_mem rs (by omega))⟩ ?_ hg5 (by simpa using hat5)
              · rw [htl] at hp
                rw [take_reg rs k (by omega)]
                exact hp
              · have z1 := touch_lt HM.out.touch
                have z2 := map_lt HM.out.touch.r
                have z3' := map_lt HM.out.touch.w'
                refine ⟨by omega, by omega, by omega, fun e => by have := hlvlt _ e; omega, fun e => ?_⟩
                obtain ⟨i, hi, e⟩ := List.getElem_of_mem e
                have hwi := (HM.out.words i (by have := HM.out.len; omega)).1
                rw [getD_at hi, e] at hwi
                have := (Array.getElem?_eq_some_iff.1 hwi).1
                omega
              · have e : (rs.getD k noReg).cs (wr.heap.size + 1) = [.int .i64 rb, .slice (some ⟨wr.heap.size + 1, 0, none⟩) l1 l1, .bool rw] := by
                  unfold Reg.cs
                  rw [HRB.out, HRW.out, HV1.out.count]
                rw [e]
                exact ho5
            have hbe : Below w.heap.size w (w5.setCell ⟨w1.heap.size + 3, 2, none⟩ (.slice (some ⟨g, 0, none⟩) (k + 1) cap2)) := by
              refine Below.setCell ?_ (by show w.heap.size ≤ w1.heap.size + 3; omega) _
              exact ((hb.trans (hrw3.mono hb.size)).alloc (by have := hb.size; omega) _).grown hg5 (by have := hb.size; simp; omega) (fun x hx => (HM.out.row.lt x hx).1)
            refine hK.out _ _ ⟨c50, c51, c52, zr5⟩ (fun hHeld => ?_)
            clear hK K ho5 hg5 hat5 hlt5 hmv3 HMV hlvlt hrw3
            rw [htl]
            simp only [Act.put, List.setIfInBounds_toArray, List.set_cons_zero, List.set_cons_succ]
            refine wpAnyH_take (i := 15) (v := ?_) (get1 (get1 (get1 (get1 (get1 (get1 (get1 (get1 (get1 (get1 (get1 (get1 (get1 (get1 (get1 (get0 _ _)))))))))))))))) (by kernel_rfl) (by kernel_rfl) (by kernel_rfl) (fun _ _ _ h => h) (Or.inl ⟨by rfl, ?_⟩) (by assumption) ?_
            rotate_left
            · (intro w hSw; (try dsimp only at hSw); go_simp <;> with_reducible rfl)
            simp only [Act.put, List.setIfInBounds_toArray, List.set_cons_zero, List.set_cons_succ]
            refine wpAnyH_take (i := 16) (v := ?_) (get1 (get1 (get1 (get1 (get1 (get1 (get1 (get1 (get1 (get1 (get1 (get1 (get1 (get1 (get1 (get1 (get0 _ _))))))))))))))))) (by kernel_rfl) (by kernel_rfl) (by kernel_rfl) (fun _ _ _ h => h) (Or.inl ⟨by rfl, ?_⟩) (by assumption) ?_
            rotate_left
            · (intro w hSw; (try dsimp only at hSw); go_simp <;> with_reducible rfl)
            simp only [Act.put, List.setIfInBounds_toArray, List.set_cons_zero, List.set_cons_succ]
            refine wpAnyH_ready (rs := [17]) (by kernel_rfl) (by simp) ?_
            refine AllReadyH.cons (get1 (get1 (get1 (get1 (get1 (get1 (get1 (get1 (get1 (get1 (get1 (get1 (get1 (get1 (get1 (get1 (get1 (get0 _ _)))))))))))))))))) (fun K hK => ?_) AllReadyH.nil
            go_simp
            refine hK.out _ _ ⟨by rw [World.cell?_setCell_far _ _ _ _ (by simp; omega)]; exact c50, by rw [World.cell?_setCell_far _ _ _ _ (by simp; omega)]; exact c51, by rw [World.cell?_setCell_far _ _ _ _ (by simp; omega)]; exact c52, by simp; omega⟩ (fun hHeld => ?_)
            clear hK K
            try simp only [Act.put, List.setIfInBounds_toArray, List.set_cons_zero, List.set_cons_succ]
            refine wpAnyH_done (by kernel_rfl) ?_ _
            go_wp2
            go_roundg (len - (k + 1))
            case measure => omega
            case rel => exact ⟨k + 1, _, _, by first | rfl | (congr 1; omega), by omega, Nat.le_refl _, HP.out, hbe⟩
          exact AllReadyH.nil
        refine AllReadyH.cons (get1 (get1 (get1 (get1 (get1 (get1 (get1 (get1 (get1 (get1 (get1 (get1 (get1 (get0 _ _)))))))))))))) (fun K hK => ?_) ?_
        · go_simp
          refine hK.out _ _ ?_ (fun hHeld => ?_)
          · exact ⟨by rw [World.cell?_alloc_past _ _ _ zr3]; exact c30, by rw [World.cell?_alloc_past _ _ _ zr3]; exact c31, by rw [World.cell?_alloc_past _ _ _ zr3]; exact c32, by simp; omega⟩
          clear hK K
          try simp only [Act.put, List.setIfInBounds_toArray, List.set_cons_zero, List.set_cons_succ]
          refine wpAnyH_ready (rs := [4]) (by kernel_rfl) (by simp) ?_
          refine AllReadyH.cons (get1 (get1 (get1 (get1 (get0 _ _))))) (fun K hK => ?_) ?_
          · go_simp
            refine hK.out _ _ ?_ (fun hHeld => ?_)
            · exact hHeld
            clear hK K
            try simp only [Act.put, List.setIfInBounds_toArray, List.set_cons_zero, List.set_cons_succ]
            refine wpAnyH_ready (rs := [14]) (by kernel_rfl) (by simp) ?_
            refine AllReadyH.cons (get1 (get1 (get1 (get1 (get1 (get1 (get1 (get1 (get1 (get1 (get1 (get1 (get1 (get1 (get0 _ _))))))))))))))) (fun K hK => ?_) AllReadyH.nil
            have hrw3 : Below wr.heap.size wr w3 := ((Below.refl _ wr).alloc (Nat.le_refl _) _).drew.trans (hb3'.mono (Nat.le_succ _))
            have hmv3 := HM.out.below hrw3
            have HMV : Hid (MemV w.heap.size (w3.alloc (.cells #[.int .i64 rb, .slice (some ⟨wr.heap.size + 1, 0, none⟩) l1 l1, .bool rw] 26)) (w1.heap.size + 3) (rs.take k) [] [] (w1.heap.size + 1) (w1.heap.size + 2) 0 0 lv bs) := hmv3.below ((Below.refl _ w3).alloc (Nat.le_refl _) _)
            have htl : (rs.take k).length = k := by rw [List.length_take]; omega
            refine step_append_lies _ (by rfl) _ _ 22 (by rfl) w.heap.size 26 i0 _ 3 40 Try.underlying22 hi hz0 hz1 hz2 (by rfl) (by decide) lv (rs.take k).length _ (by rfl) HMV.out.row ⟨w3.heap.size, 0, none⟩ 1 1 [.int .i64 rb, .slice (some ⟨wr.heap.size + 1, 0, none⟩) l1 l1, .bool rw] (by rfl) (by rfl) (reg_cells _ _ _ _ rfl) (reg_one3 _ _ _ _) (by decide) (by unfold maxLen; omega) (by omega) (by have := hb.size; simp; omega) (w3.heap.size + 1) (by simp) ?_
            intro g cap2 w5 ho5 hg5 hat5 hlt5
            have hlvlt : ∀ x, lv.ownBlock = some x → x < wr.heap.size := fun x hx => (HM.out.row.lt x hx).2
            have nr6 : some wr.heap.size ≠ lv.ownBlock := fun e => by have := hlvlt _ e.symm; omega
            have c50 : w5.cell? ⟨wr.heap.size, 0, none⟩ = some (.int .i64 rb) := hg5.cell (by rw [World.cell?_alloc_past _ _ _ zr3]; exact c30) nr6
            have c51 : w5.cell? ⟨wr.heap.size, 1, none⟩ = some (.slice a1 l1 c1) := hg5.cell (by rw [World.cell?_alloc_past _ _ _ zr3]; exact c31) nr6
            have c52 : w5.cell? ⟨wr.heap.size, 2, none⟩ = some (.bool rw) := hg5.cell (by rw [World.cell?_alloc_past _ _ _ zr3]; exact c32) nr6
            have m25 : w5.cell? ⟨w1.heap.size + 3, 2, none⟩ = some lv := hg5.cell HMV.out.c2 (Ne.symm HM.out.rowApart.1)
            have f25 : w5.frozen? ⟨w1.heap.size + 3, 2, none⟩ = false := (hg5.frozen_far ⟨w1.heap.size + 3, 2, none⟩ (by simp; omega) (Ne.symm HM.out.rowApart.1)).trans (HMV.out.f2 2)
            have zr5 : wr.heap.size < w5.heap.size := World.block_lt_of_cell? w5 ⟨wr.heap.size, 0, none⟩ c50
            have zm5 : w1.heap.size + 3 < w5.heap.size := World.block_lt_of_cell? w5 ⟨w1.heap.size + 3, 2, none⟩ m25
            have HP : Hid (MemV w.heap.size (w5.setCell ⟨w1.heap.size + 3, 2, none⟩ (.slice (some ⟨g, 0, none⟩) (k + 1) cap2)) (w1.heap.size + 3) (rs.take (k + 1)) [] [] (w1.heap.size + 1) (w1.heap.size + 2) 0 0 (.slice (some ⟨g, 0, none⟩) (k + 1) cap2) (bs ++ [wr.heap.size + 1])) := by
              show MemV _ _ _ _ _ _ _ _ _ _ _ _
              have hg3' : w3.heap[wr.heap.size + 1]? = some (.cells ((rs.getD k noReg).words.map (Value.int .i64)).toArray 2 (0, 0)) := by simpa using hg3
              have hp := HMV.out.push (r := rs.getD k noReg) (b' := wr.heap.size + 1) (g := g) (cap := cap2) (w5 := w5) (((Below.refl _ w3).alloc (Nat.le_refl _) _).block _ (Array.getElem?_eq_some_iff.1 hg3').1 |>.trans hg3') (by have := hb.size; omega) ?_ ⟨HV.out.fits _ (getD_mem rs (by omega)), HFI.out _ (getD_mem rs (by omega))⟩ ?_ hg5 (by simpa using hat5)
              · rw [htl] at hp
                rw [take_reg rs k (by omega)]
                exact hp
              · have z1 := touch_lt HM.out.touch
                have z2 := map_lt HM.out.touch.r
                have z3' := map_lt HM.out.touch.w'
                refine ⟨by omega, by omega, by omega, fun e => by have := hlvlt _ e; omega, fun e => ?_⟩
                obtain ⟨i, hi, e⟩ := List.getElem_of_mem e
                have hwi := (HM.out.words i (by have := HM.out.len; omega)).1
                rw [getD_at hi, e] at hwi
                have := (Array.getElem?_eq_some_iff.1 hwi).1
                omega
              · have e : (rs.getD k noReg).cs (wr.heap.size + 1) = [.int .i64 rb, .slice (some ⟨wr.heap.size + 1, 0, none⟩) l1 l1, .bool rw] := by
                  unfold Reg.cs
                  rw [HRB.out, HRW.out, HV1.out.count]
                rw [e]
                exact ho5
            have hbe : Below w.heap.size w (w5.setCell ⟨w1.heap.size + 3, 2, none⟩ (.slice (some ⟨g, 0, none⟩) (k + 1) cap2)) := by
              refine Below.setCell ?_ (by show w.heap.size ≤ w1.heap.size + 3; omega) _
              exact ((hb.trans (hrw3.mono hb.size)).alloc (by have := hb.size; omega) _).grown hg5 (by have := hb.size; simp; omega) (fun x hx => (HM.out.row.lt x hx).1)
            refine hK.out _ _ ⟨c50, c51, c52, zr5⟩ (fun hHeld => ?_)
            clear hK K ho5 hg5 hat5 hlt5 hmv3 HMV hlvlt hrw3
            rw [htl]
            simp only [Act.put, List.setIfInBounds_toArray, List.set_cons_zero, List.set_cons_succ]
            refine wpAnyH_take (i := 15) (v := ?_) (get1 (get1 (get1 (get1 (get1 (get1 (get1 (get1 (get1 (get1 (get1 (get1 (get1 (get1 (get1 (get0 _ _)))))))))))))))) (by kernel_rfl) (by kernel_rfl) (by kernel_rfl) (fun _ _ _ h => h) (Or.inl ⟨by rfl, ?_⟩) (by assumption) ?_
            rotate_left
            · (intro w hSw; (try dsimp only at hSw); go_simp <;> with_reducible rfl)
            simp only [Act.put, List.setIfInBounds_toArray, List.set_cons_zero, List.set_cons_succ]
            refine wpAnyH_take (i := 16) (v := ?_) (get1 (get1 (get1 (get1 (get1 (get1 (get1 (get1 (get1 (get1 (get1 (get1 (get1 (get1 (get1 (get1 (get0 _ _))))))))))))))))) (by kernel_rfl) (by kernel_rfl) (by kernel_rfl) (fun _ _ _ h => h) (Or.inl ⟨by rfl, ?_⟩) (by assumption) ?_
            rotate_left
            · (intro w hSw; (try dsimp only at hSw); go_simp <;> with_reducible rfl)
            simp only [Act.put, List.setIfInBounds_toArray, List.set_cons_zero, List.set_cons_succ]
            refine wpAnyH_ready (rs := [17]) (by kernel_rfl) (by simp) ?_
            refine AllReadyH.cons (get1 (get1 (get1 (get1 (get1 (get1 (get1 (get1 (get1 (get1 (get1 (get1 (get1 (get1 (get1 (get1 (get1 (get0 _ _)))))))))))))))))) (fun K hK => ?_) AllReadyH.nil
            go_simp
            refine hK.out _ _ ⟨by rw [World.cell?_setCell_far _ _ _ _ (by simp; omega)]; exact c50, by rw [World.cell?_setCell_far _ _ _ _ (by simp; omega)]; exact c51, by rw [World.cell?_setCell_far _ _ _ _ (by simp; omega)]; exact c52, by simp; omega⟩ (fun hHeld => ?_)
            clear hK K
            try simp only [Act.put, List.setIfInBounds_toArray, List.set_cons_zero, List.set_cons_succ]
            refine wpAnyH_done (by kernel_rfl) ?_ _
            go_wp2
            go_roundg (len - (k + 1))
            case measure => omega
            case rel => exact ⟨k + 1, _, _, by first | rfl | (congr 1; omega), by omega, Nat.le_refl _, HP.out, hbe⟩
          exact AllReadyH.nil
        exact AllReadyH.nil
      exact AllReadyH.nil
    · obtain rfl : k = len := by omega
      go_wp2
      go_ret2
      refine ⟨w1.heap.size + 3, w1.heap.size + 1, w1.heap.size + 2, lv, bs, rfl, ?_, hb⟩
      have := HM.out
      rw [← hcnt, List.take_length] at this
      exact this

end Go.Proofs.Ytfkpbmopneleiaa

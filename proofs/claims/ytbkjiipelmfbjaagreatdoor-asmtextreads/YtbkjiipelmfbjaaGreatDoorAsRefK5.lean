/- The document's item: e2. (Written by gen_refk.py.) -/
import Derived.Test.YtbkjiipelmfbjaaGreatDoorAsRefK
namespace Go.Proofs.YtbkjiipelmfbjaaGreatDoor
open Go.RowKit Go.Maps Go.Lib
set_option linter.unusedVariables false
set_option linter.unusedSimpArgs false

set_option maxRecDepth 100000 in
set_option maxHeartbeats 16000000 in
theorem ritem_e2 {w : World} {a : Option Addr} {n c : Nat} {f : X.By} {r : List X.By} (h : StrV w a n c (f :: r)) (hf : f ≠ []) (hn : n ≤ 200000) (hr : r.length = 1) (eG : f ≠ X.wGlobal) (eT : f ≠ X.wThread) :
    Calls Tryz.prog 12 #[.slice a n c] w (TakeOut w (X.read (f :: r))) := by
  have HV : Hid _ := h
  have hcount : r.length + 1 = n := by have := h.count; simpa using this
  have HCT : Hid _ := hcount
  have h0n2 : 0 < n := by omega
  have h0n : (0 : Int) < n := by omega
  obtain ⟨b, off, s0, rfl, cw0, hs0, hz0⟩ := h.at (i := 0) (by omega)
  simp only [Nat.add_zero] at cw0
  have hs0' : s0.data.toList = f := hs0
  have hsz : 0 < s0.size := by
    rw [← len_list, hs0']
    exact List.length_pos_iff.2 hf
  obtain ⟨m, hm⟩ : ∃ m, s0.size = m + 1 := ⟨s0.size - 1, by omega⟩
  have hms : m < s0.size := by omega
  have hms' : (m : Int) < s0.size := by omega
  have hml : m ≤ s0.size := by omega
  have hwm : IntKind.i64.wrap ((s0.size : Int) - 1) = (m : Int) := by rw [IntKind.wrap_i64]; omega
  have HLAST : Hid (s0.data.toList.getLast? = some (s0[m]'hms)) := last_eq hm
  have HDROP : Hid _ := drop_last hm
  have HHS : Hid (∀ y : World, Below w.heap.size w y → y.cell? ⟨b, off, none⟩ = some (.string s0)) := fun y hy => cell_thru hy cw0
  have HF : Hid (s0.data.toList = f) := hs0'
  have HBW : Hid (b < w.heap.size) := World.block_lt_of_cell? w ⟨b, off, none⟩ cw0
  have HFN : Hid _ := hf
  have H1 : Hid (r ≠ [] → ∀ y : World, Below w.heap.size w y → ∃ s1 : ByteArray, y.cell? ⟨b, off + 1, none⟩ = some (.string s1) ∧ r[0]? = some s1.data.toList ∧ s1.size ≤ 200000) := fun hr y hy => by
    have hrl := List.length_pos_iff.2 hr
    obtain ⟨b', off', s1, he, cw, hs, hz⟩ := (HV.out.below hy).at (i := 1) (by omega)
    cases he
    refine ⟨s1, cw, ?_, hz⟩
    rw [hs]
    simp [List.getD, hrl]
  have HT0 : Hid (Tx w ((w.alloc (.cells #[.int .i64 0, .string { data := #[] }, .int .i64 0, .int .i64 0, .int .i64 0, .int .i64 0, .slice none 0 0] 32)).alloc (.cells #[.int .i64 0, .string { data := #[] }, .int .i64 0, .int .i64 0, .int .i64 0, .int .i64 0, .slice none 0 0] 32)) X.noIt (.slice none 0 0)) := Tx.new w _
  clear h hf hs0 hs0' hcount hsz hm
  have hr0 : r ≠ [] := fun e => by rw [e] at hr; simp at hr
  have n2 : n = 2 := by have := HCT.out; omega
  obtain ⟨x1, rfl⟩ : ∃ x1, r = [x1] := by
    match r, hr with
    | [x], _ => exact ⟨x, rfl⟩
  subst n2
  have h12 : 1 < 2 := by omega
  have qn1 : ((2 : Int) == 1) = false := rfl
  have qG : (s0.toList == [46, 103, 108, 111, 98, 97, 108]) = false := by rw [ByteArray.toList_eq]; exact beq_eq_false_iff_ne.2 (fun e => eG (HF.out.symm.trans e))
  have qT : (s0.toList == [46, 116, 104, 114, 101, 97, 100]) = false := by rw [ByteArray.toList_eq]; exact beq_eq_false_iff_ne.2 (fun e => eT (HF.out.symm.trans e))
  have HL : Hid (X.read [f, x1] = X.insD? f [x1]) := X.read_other (fun e => by simp at e) (fun e => eG e.1) (fun e => eT e.1) (fun e => by have := e.2; simp at this)
  clear eG eT
  go_enter Tryz.func12, Tryz.ntmps12
  go_wp2_with fail
  obtain ⟨Y, hY⟩ : ∃ Y, ((w.alloc (.cells #[.int .i64 0, .string { data := #[] }, .int .i64 0, .int .i64 0, .int .i64 0, .int .i64 0, .slice none 0 0] 32)).alloc (.cells #[.int .i64 0, .string { data := #[] }, .int .i64 0, .int .i64 0, .int .i64 0, .int .i64 0, .slice none 0 0] 32)) = Y := ⟨_, rfl⟩
  rw [hY]
  rw [hY] at HT0
  have HYS : Hid (∀ y : World, Below Y.heap.size Y y → y.cell? ⟨b, off, none⟩ = some (.string s0)) := fun y hy => HHS.out y (HT0.out.b.trans (hy.mono HT0.out.b.size))
  clear hY
  refine wp_region_held_drew (S := (fun y : World => y.cell? ⟨b, off, none⟩ = some (.string s0))) (by kernel_rfl) (HYS.out _ (Below.refl _ _).drew) (fun hHeld => ?_)
  refine tk (i := 0) (v := ?_) (tA rfl) (by kernel_rfl) (fun _ _ _ h => h) (Or.inl ⟨by rfl, ?_⟩) (by assumption) ?_
  rotate_left
  · (intro w hSw; (try dsimp only at hSw); go_simp <;> with_reducible rfl)
  simp only [Act.put, List.setIfInBounds_toArray, List.set_cons_zero, List.set_cons_succ]
  refine tk (i := 1) (v := ?_) (tA rfl) (by kernel_rfl) (fun _ _ _ h => h) (Or.inl ⟨by rfl, ?_⟩) (by assumption) ?_
  rotate_left
  · (intro w hSw; (try dsimp only at hSw); go_simp <;> with_reducible rfl)
  simp only [Act.put, List.setIfInBounds_toArray, List.set_cons_zero, List.set_cons_succ]
  refine tk (i := 2) (v := ?_) (tA rfl) (by kernel_rfl) (fun _ _ _ h => h) (Or.inl ⟨by rfl, ?_⟩) (by assumption) ?_
  rotate_left
  · (intro w hSw; (try dsimp only at hSw); go_simp <;> with_reducible rfl)
  simp only [Act.put, List.setIfInBounds_toArray, List.set_cons_zero, List.set_cons_succ]
  refine tk (i := 3) (v := ?_) (tA rfl) (by kernel_rfl) (fun _ _ _ h => h) (Or.inl ⟨by rfl, ?_⟩) (by assumption) ?_
  rotate_left
  · (intro w hSw; (try dsimp only at hSw); go_simp <;> with_reducible rfl)
  simp only [Act.put, List.setIfInBounds_toArray, List.set_cons_zero, List.set_cons_succ]
  refine tk (i := 4) (v := ?_) (tA rfl) (by kernel_rfl) (fun _ _ _ h => h) (Or.inl ⟨by rfl, ?_⟩) (by assumption) ?_
  rotate_left
  · (intro w hSw; (try dsimp only at hSw); go_simp <;> with_reducible rfl)
  simp only [Act.put, List.setIfInBounds_toArray, List.set_cons_zero, List.set_cons_succ]
  refine tk (i := 5) (v := ?_) (tA rfl) (by kernel_rfl) (fun _ _ _ h => h) (Or.inl ⟨by rfl, ?_⟩) (by assumption) ?_
  rotate_left
  · (intro w hSw; (try dsimp only at hSw); go_simp <;> with_reducible rfl)
  simp only [Act.put, List.setIfInBounds_toArray, List.set_cons_zero, List.set_cons_succ]
  refine tk (i := 6) (v := ?_) (tA rfl) (by kernel_rfl) (fun _ _ _ h => h) (Or.inl ⟨by rfl, ?_⟩) (by assumption) ?_
  rotate_left
  · (intro w hSw; (try dsimp only at hSw); go_simp <;> with_reducible rfl)
  simp only [Act.put, List.setIfInBounds_toArray, List.set_cons_zero, List.set_cons_succ]
  refine tk (i := 7) (v := ?_) (tA rfl) (by kernel_rfl) (fun _ _ _ h => h) (Or.inl ⟨by rfl, ?_⟩) (by assumption) ?_
  rotate_left
  · (intro w hSw; (try dsimp only at hSw); go_simp <;> with_reducible rfl)
  simp only [Act.put, List.setIfInBounds_toArray, List.set_cons_zero, List.set_cons_succ]
  refine tk (i := 8) (v := ?_) (tA rfl) (by kernel_rfl) (fun _ _ _ h => h) (Or.inl ⟨by rfl, ?_⟩) (by assumption) ?_
  rotate_left
  · (intro w hSw; (try dsimp only at hSw); go_simp <;> with_reducible rfl)
  simp only [Act.put, List.setIfInBounds_toArray, List.set_cons_zero, List.set_cons_succ]
  refine tk (i := 9) (v := ?_) (tA rfl) (by kernel_rfl) (fun _ _ _ h => h) (Or.inl ⟨by rfl, ?_⟩) (by assumption) ?_
  rotate_left
  · (intro w hSw; (try dsimp only at hSw); go_simp <;> with_reducible rfl)
  simp only [Act.put, List.setIfInBounds_toArray, List.set_cons_zero, List.set_cons_succ]
  refine wpAnyH_done (by kernel_rfl) ?_ _
  clear hHeld
  have HTD : Hid (Tx w Y.drew X.noIt (.slice none 0 0)) := HT0.out.below (Below.refl _ _).drew
  obtain ⟨Yd, hYd⟩ : ∃ Yd, Y.drew = Yd := ⟨_, rfl⟩
  rw [hYd] at HTD ⊢
  have HYD : Hid (∀ y : World, Below Yd.heap.size Yd y → y.cell? ⟨b, off, none⟩ = some (.string s0)) := fun y hy => HHS.out y (HTD.out.b.trans (hy.mono HTD.out.b.size))
  clear hYd HYS HT0
  have cwY := HYD.out _ (Below.refl _ _)
  have hcall := rinstruction_any (HV.out.below HTD.out.b) HFN.out
  rw [← HL.out] at hcall
  have c0 := HTD.out.r.c 0 _ rfl; have c1 := HTD.out.r.c 1 _ rfl; have c2 := HTD.out.r.c 2 _ rfl; have c3 := HTD.out.r.c 3 _ rfl; have c4 := HTD.out.r.c 4 _ rfl; have c5 := HTD.out.r.c 5 _ rfl; have c6 := HTD.out.r.c 6 _ rfl
  have f0 := HTD.out.r.f 0; have f1 := HTD.out.r.f 1; have f2 := HTD.out.r.f 2; have f3 := HTD.out.r.f 3; have f4 := HTD.out.r.f 4; have f5 := HTD.out.r.f 5; have f6 := HTD.out.r.f 6
  go_wp2_with fail
  refine hcall.mono ?_
  rintro e y7 ⟨t, aw, lw, cw, ok, he, h1, h2, h3, h4, h5⟩
  rw [he]
  have HB7 : Hid (Below Yd.heap.size Yd y7) := h5
  have HRES : Hid (Bx y7 w.heap.size [.int .i64 0, .string { data := #[] }, .int .i64 0, .int .i64 0, .int .i64 0, .int .i64 0, .slice none 0 0]) := HTD.out.r.below h5
  have H12 : Hid _ := And.intro h1 h2
  have H3 : Hid _ := h3
  have HOWN : Hid (y7.ownsRow (w.heap.size + 1) 2 1 (.slice aw lw cw) lw (iC t.words)) := own_mono h4 (by have := HTD.out.r.lt; omega)
  clear h1 h2 h3 h4 h5 he e hcall c0 c1 c2 c3 c4 c5 c6 f0 f1 f2 f3 f4 f5 f6
  have c0 := HRES.out.c 0 _ rfl; have c1 := HRES.out.c 1 _ rfl; have c2 := HRES.out.c 2 _ rfl; have c3 := HRES.out.c 3 _ rfl; have c4 := HRES.out.c 4 _ rfl; have c5 := HRES.out.c 5 _ rfl; have c6 := HRES.out.c 6 _ rfl
  have f0 := HRES.out.f 0; have f1 := HRES.out.f 1; have f2 := HRES.out.f 2; have f3 := HRES.out.f 3; have f4 := HRES.out.f 4; have f5 := HRES.out.f 5; have f6 := HRES.out.f 6
  go_wp2_with fail
  have HF := Bx.put7 HRES.out rfl (.int .i64 t.kind) (.string (X.str t.name)) (.int .i64 t.op) (.int .i64 t.a) (.int .i64 t.b) (.int .i64 t.n) (.slice aw lw cw)
  have HE : Below w.heap.size w (((((((y7.setCell ⟨w.heap.size, 0, none⟩ (.int .i64 t.kind)).setCell ⟨w.heap.size, 1, none⟩ (.string (X.str t.name))).setCell ⟨w.heap.size, 2, none⟩ (.int .i64 t.op)).setCell ⟨w.heap.size, 3, none⟩ (.int .i64 t.a)).setCell ⟨w.heap.size, 4, none⟩ (.int .i64 t.b)).setCell ⟨w.heap.size, 5, none⟩ (.int .i64 t.n)).setCell ⟨w.heap.size, 6, none⟩ (.slice aw lw cw)) := below_put7 (HTD.out.b.trans (HB7.out.mono HTD.out.b.size)) (Nat.le_refl _)
  have HO9 : World.ownsRow (((((((y7.setCell ⟨w.heap.size, 0, none⟩ (.int .i64 t.kind)).setCell ⟨w.heap.size, 1, none⟩ (.string (X.str t.name))).setCell ⟨w.heap.size, 2, none⟩ (.int .i64 t.op)).setCell ⟨w.heap.size, 3, none⟩ (.int .i64 t.a)).setCell ⟨w.heap.size, 4, none⟩ (.int .i64 t.b)).setCell ⟨w.heap.size, 5, none⟩ (.int .i64 t.n)).setCell ⟨w.heap.size, 6, none⟩ (.slice aw lw cw)) (w.heap.size + 1) 2 1 (.slice aw lw cw) lw (iC t.words) := put7_own HOWN.out (by omega)
  generalize (((((((y7.setCell ⟨w.heap.size, 0, none⟩ (.int .i64 t.kind)).setCell ⟨w.heap.size, 1, none⟩ (.string (X.str t.name))).setCell ⟨w.heap.size, 2, none⟩ (.int .i64 t.op)).setCell ⟨w.heap.size, 3, none⟩ (.int .i64 t.a)).setCell ⟨w.heap.size, 4, none⟩ (.int .i64 t.b)).setCell ⟨w.heap.size, 5, none⟩ (.int .i64 t.n)).setCell ⟨w.heap.size, 6, none⟩ (.slice aw lw cw)) = Wf at HF HE HO9 ⊢
  have k0 := HF.c 0 _ rfl; have k1 := HF.c 1 _ rfl; have k2 := HF.c 2 _ rfl; have k3 := HF.c 3 _ rfl; have k4 := HF.c 4 _ rfl; have k5 := HF.c 5 _ rfl; have k6 := HF.c 6 _ rfl
  refine bodyPost_ret (v := .tuple #[.agg #[.int .i64 t.kind, .string (X.str t.name), .int .i64 t.op, .int .i64 t.a, .int .i64 t.b, .int .i64 t.n, .slice aw lw cw], .bool ok]) (by simp [results, Tryz.results12, go_sem, k0, k1, k2, k3, k4, k5, k6]) rfl ?_
  exact ⟨t, aw, lw, cw, ok, rfl, H12.out.1, H12.out.2, H3.out, own_mono HO9 (by omega), HE⟩
end Go.Proofs.YtbkjiipelmfbjaaGreatDoor

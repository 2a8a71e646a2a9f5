import Derived.Test.YtgjingleolhkbaaGreatDoorTBm
namespace Go.Proofs.YtgjingleolhkbaaGreatDoor
open Go.RowKit Go.Maps Go.Lib
set_option linter.unusedVariables false
set_option linter.unusedSimpArgs false

set_option maxRecDepth 100000 in
set_option maxHeartbeats 16000000 in
theorem ritem_thread {w : World} {a : Option Addr} {n c : Nat} {f : X.By} {r : List X.By} (h : StrV w a n c (f :: r)) (hf : f ≠ []) (hn : n ≤ 200000) (hr : r.length = 1) (eG : f ≠ X.wGlobal) (eT : f = X.wThread) :
  Calls Tryz.prog 37 #[.slice a n c] w (TakeOut w (X.read (f :: r))) := by
 have HV : Hid _ := h
 have hcount : r.length + 1 = n := by have := h.count; simpa using this
 have HCT : Hid _ := hcount
 have h0n2 : 0 < n := by omega
 have h0n : (0 : Int) < n := by omega
 obtain ⟨b, off, s0, rfl, cw0, hs0, hz0⟩ := h.at (i := 0) (by omega)
 simp only [Nat.add_zero] at cw0
 have hs0' : s0.data.toList = f := hs0
 have hsz : 0 < s0.size := by
  rw [← len_list, hs0']
  exact List.length_pos_iff.2 hf
 obtain ⟨m, hm⟩ : ∃ m, s0.size = m + 1 := ⟨s0.size - 1, by omega⟩
 have hms : m < s0.size := by omega
 have hms' : (m : Int) < s0.size := by omega
 have hml : m ≤ s0.size := by omega
 have hwm : IntKind.i64.wrap ((s0.size : Int) - 1) = (m : Int) := by rw [IntKind.wrap_i64]; omega
 have HLAST : Hid (s0.data.toList.getLast? = some (s0[m]'hms)) := last_eq hm
 have HDROP : Hid _ := drop_last hm
 have HHS : Hid (∀ y : World, Below w.heap.size w y → y.cell? ⟨b, off, none⟩ = some (.string s0)) := fun y hy => cell_thru hy cw0
 have HF : Hid (s0.data.toList = f) := hs0'
 have HBW : Hid (b < w.heap.size) := World.block_lt_of_cell? w ⟨b, off, none⟩ cw0
 have HFN : Hid _ := hf
 have H1 : Hid (r ≠ [] → ∀ y : World, Below w.heap.size w y → ∃ s1 : ByteArray, y.cell? ⟨b, off + 1, none⟩ = some (.string s1) ∧ r[0]? = some s1.data.toList ∧ s1.size ≤ 200000) := fun hr y hy => by
  have hrl := List.length_pos_iff.2 hr
  obtain ⟨b', off', s1, he, cw, hs, hz⟩ := (HV.out.below hy).at (i := 1) (by omega)
  cases he
  refine ⟨s1, cw, ?_, hz⟩
  rw [hs]
  simp [List.getD, hrl]
 have HT0 : Hid (Tx w ((w.alloc (.cells #[.int .i64 0, .string { data := #[] }, .int .i64 0, .int .i64 0, .int .i64 0, .int .i64 0, .slice none 0 0] 44)).alloc (.cells #[.int .i64 0, .string { data := #[] }, .int .i64 0, .int .i64 0, .int .i64 0, .int .i64 0, .slice none 0 0] 44)) X.noIt (.slice none 0 0)) := Tx.new w _
 clear h hf hs0 hs0' hcount hsz hm
 have hr0 : r ≠ [] := fun e => by rw [e] at hr; simp at hr
 have n2 : n = 2 := by have := HCT.out; omega
 obtain ⟨x1, rfl⟩ : ∃ x1, r = [x1] := by
  match r, hr with
  | [x], _ => exact ⟨x, rfl⟩
 subst n2
 have h12 : 1 < 2 := by omega
 have qn1 : ((2 : Int) == 1) = false := rfl
 have qG : (s0.toList == [46, 103, 108, 111, 98, 97, 108]) = false := by rw [ByteArray.toList_eq]; exact beq_eq_false_iff_ne.2 (fun e => eG (HF.out.symm.trans e))
 have qT : (s0.toList == [46, 116, 104, 114, 101, 97, 100]) = true := by rw [ByteArray.toList_eq]; exact beq_iff_eq.2 (HF.out.trans eT)
 go_enter Tryz.func37, Tryz.ntmps37
 go_wp2_with fail
 obtain ⟨Y, hY⟩ : ∃ Y, ((w.alloc (.cells #[.int .i64 0, .string { data := #[] }, .int .i64 0, .int .i64 0, .int .i64 0, .int .i64 0, .slice none 0 0] 44)).alloc (.cells #[.int .i64 0, .string { data := #[] }, .int .i64 0, .int .i64 0, .int .i64 0, .int .i64 0, .slice none 0 0] 44)) = Y := ⟨_, rfl⟩
 rw [hY]
 rw [hY] at HT0
 have HYS : Hid (∀ y : World, Below Y.heap.size Y y → y.cell? ⟨b, off, none⟩ = some (.string s0)) := fun y hy => HHS.out y (HT0.out.b.trans (hy.mono HT0.out.b.size))
 clear hY
 refine wp_region_held_drew (S := (fun y : World => y.cell? ⟨b, off, none⟩ = some (.string s0))) (by kernel_rfl) (HYS.out _ (Below.refl _ _).drew) (fun hHeld => ?_)
 refine tj 0 ?_
 simp only [Act.put, zA, zB, zC]
 refine tj 1 ?_
 simp only [Act.put, zA, zB, zC]
 refine tj 2 ?_
 simp only [Act.put, zA, zB, zC]
 refine tj 3 ?_
 simp only [Act.put, zA, zB, zC]
 refine tj 4 ?_
 simp only [Act.put, zA, zB, zC]
 refine tj 5 ?_
 simp only [Act.put, zA, zB, zC]
 refine tj 6 ?_
 simp only [Act.put, zA, zB, zC]
 refine tj 7 ?_
 simp only [Act.put, zA, zB, zC]
 refine tj 8 ?_
 simp only [Act.put, zA, zB, zC]
 refine tj 9 ?_
 simp only [Act.put, zA, zB, zC]
 refine wpAnyH_done (by kernel_rfl) ?_ _
 clear hHeld
 have HTD : Hid (Tx w Y.drew X.noIt (.slice none 0 0)) := HT0.out.below (Below.refl _ _).drew
 obtain ⟨Yd, hYd⟩ : ∃ Yd, Y.drew = Yd := ⟨_, rfl⟩
 rw [hYd] at HTD ⊢
 have HYD : Hid (∀ y : World, Below Yd.heap.size Yd y → y.cell? ⟨b, off, none⟩ = some (.string s0)) := fun y hy => HHS.out y (HTD.out.b.trans (hy.mono HTD.out.b.size))
 clear hYd HYS HT0
 obtain ⟨s1, cw1, hx1, hz1⟩ := H1.out hr0 Yd HTD.out.b
 have cwY := HYD.out _ (Below.refl _ _)
 have HL : Hid (X.read [f, x1] = X.keepOk (some ⟨5, s1.data.toList, 0, 0, 0, 0, []⟩)) := by show _ = _; rw [eT]; simp at hx1; rw [← hx1]; exact X.read_thread
 clear hx1 eG eT
 have x0 := HTD.out.x.c 0 _ rfl; have x1 := HTD.out.x.c 1 _ rfl; have x2 := HTD.out.x.c 2 _ rfl; have x3 := HTD.out.x.c 3 _ rfl; have x4 := HTD.out.x.c 4 _ rfl; have x5 := HTD.out.x.c 5 _ rfl; have x6 := HTD.out.x.c 6 _ rfl
 have g0 := HTD.out.x.f 0; have g1 := HTD.out.x.f 1; have g2 := HTD.out.x.f 2; have g3 := HTD.out.x.f 3; have g4 := HTD.out.x.f 4; have g5 := HTD.out.x.f 5; have g6 := HTD.out.x.f 6
 go_wp2_with fail
 have HTW0 := HTD.out.put7 (⟨5, s1.data.toList, 0, 0, 0, 0, []⟩ : X.It) (.slice none 0 0)
 simp only [str_eq] at HTW0
 generalize (((((((Yd.setCell ⟨w.heap.size + 1, 0, none⟩ (.int .i64 5)).setCell ⟨w.heap.size + 1, 1, none⟩ (.string s1)).setCell ⟨w.heap.size + 1, 2, none⟩ (.int .i64 0)).setCell ⟨w.heap.size + 1, 3, none⟩ (.int .i64 0)).setCell ⟨w.heap.size + 1, 4, none⟩ (.int .i64 0)).setCell ⟨w.heap.size + 1, 5, none⟩ (.int .i64 0)).setCell ⟨w.heap.size + 1, 6, none⟩ (.slice none 0 0)) = Y1 at HTW0 ⊢
 clear x0 x1 x2 x3 x4 x5 x6 g0 g1 g2 g3 g4 g5 g6
 obtain ⟨t, ht⟩ : ∃ t, (⟨5, s1.data.toList, 0, 0, 0, 0, []⟩ : X.It) = t := ⟨_, rfl⟩
 rw [ht] at HTW0
 have ht2 : t.name.length ≤ 200000 := by rw [← ht]; simp only [len_list]; exact hz1
 have HR3 : Hid (X.read [f, x1] = X.keepOk (some t)) := by show _ = _; rw [← ht]; exact HL.out
 obtain ⟨aw, lw, cw, hsl⟩ : ∃ (aw : Option Addr) (lw cw : Nat), aw = none ∧ lw = 0 ∧ cw = 0 := ⟨_, _, _, rfl, rfl, rfl⟩
 have hlw : t.words.length = lw := by rw [← ht, hsl.2.1]; rfl
 have HOWN : Hid (Y1.ownsRow (w.heap.size + 2) 2 1 (.slice aw lw cw) lw (iC t.words)) := by
  show World.ownsRow _ _ _ _ _ _ _
  rw [← ht, hsl.1, hsl.2.1, hsl.2.2]
  exact own_none _ _ _
 have HTW : Hid (Tx w Y1 t (.slice aw lw cw)) := by show Tx _ _ _ _; rw [hsl.1, hsl.2.1, hsl.2.2]; exact HTW0
 clear HTW0 ht hsl
 have hmay := fun w => rmay_any t.kind (X.str t.name) t.op t.a t.b t.n aw lw cw t.words hlw (by rw [str_size]; unfold maxLen; omega) w
 simp only [str_list] at hmay
 have HIT : Hid ((⟨t.kind, t.name, t.op, t.a, t.b, t.n, t.words⟩ : X.It) = t) := rfl
 rw [HIT.out] at hmay
 obtain ⟨zt, hzt⟩ : ∃ z, X.itOk t = z := ⟨_, rfl⟩
 rw [hzt] at hmay
 have HZT : Hid _ := keepOk_some hzt
 have HT2 : Hid _ := ht2
 clear hzt ht2
 have HSX : Hid (∀ y : World, Below Y1.heap.size Y1 y → (fun y : World => y.cell? ⟨w.heap.size + 1, 0, none⟩ = some (.int .i64 t.kind) ∧ y.cell? ⟨w.heap.size + 1, 1, none⟩ = some (.string (X.str t.name)) ∧ y.cell? ⟨w.heap.size + 1, 2, none⟩ = some (.int .i64 t.op) ∧ y.cell? ⟨w.heap.size + 1, 3, none⟩ = some (.int .i64 t.a) ∧ y.cell? ⟨w.heap.size + 1, 4, none⟩ = some (.int .i64 t.b) ∧ y.cell? ⟨w.heap.size + 1, 5, none⟩ = some (.int .i64 t.n) ∧ y.cell? ⟨w.heap.size + 1, 6, none⟩ = some (.slice aw lw cw)) y) := fun y hy => ⟨cell_thru hy (HTW.out.x.c 0 _ rfl), cell_thru hy (HTW.out.x.c 1 _ rfl), cell_thru hy (HTW.out.x.c 2 _ rfl), cell_thru hy (HTW.out.x.c 3 _ rfl), cell_thru hy (HTW.out.x.c 4 _ rfl), cell_thru hy (HTW.out.x.c 5 _ rfl), cell_thru hy (HTW.out.x.c 6 _ rfl)⟩
 refine wp_region_held_drew (S := (fun y : World => y.cell? ⟨w.heap.size + 1, 0, none⟩ = some (.int .i64 t.kind) ∧ y.cell? ⟨w.heap.size + 1, 1, none⟩ = some (.string (X.str t.name)) ∧ y.cell? ⟨w.heap.size + 1, 2, none⟩ = some (.int .i64 t.op) ∧ y.cell? ⟨w.heap.size + 1, 3, none⟩ = some (.int .i64 t.a) ∧ y.cell? ⟨w.heap.size + 1, 4, none⟩ = some (.int .i64 t.b) ∧ y.cell? ⟨w.heap.size + 1, 5, none⟩ = some (.int .i64 t.n) ∧ y.cell? ⟨w.heap.size + 1, 6, none⟩ = some (.slice aw lw cw))) (by kernel_rfl) (HSX.out _ (Below.refl _ _).drew) (fun hHeld => ?_)
 refine tj 0 ?_
 simp only [Act.put, zA, zB, zC]
 refine tj 1 ?_
 simp only [Act.put, zA, zB, zC]
 refine tr [2] ?_
 refine AllReadyH.cons (tA rfl) (fun K hK => ?_) AllReadyH.nil
 go_simp
 refine (hmay _).mono ?_
 rintro e y7 ⟨he, hb7⟩
 rw [he]
 have HB7 : Hid (Below Y1.heap.size Y1 y7) := (Below.refl _ _).drew.trans hb7
 have HRES : Hid (Bx y7 w.heap.size [.int .i64 0, .string { data := #[] }, .int .i64 0, .int .i64 0, .int .i64 0, .int .i64 0, .slice none 0 0]) := HTW.out.r.below HB7.out
 have c0 := HRES.out.c 0 _ rfl; have c1 := HRES.out.c 1 _ rfl; have c2 := HRES.out.c 2 _ rfl; have c3 := HRES.out.c 3 _ rfl; have c4 := HRES.out.c 4 _ rfl; have c5 := HRES.out.c 5 _ rfl; have c6 := HRES.out.c 6 _ rfl
 have f0 := HRES.out.f 0; have f1 := HRES.out.f 1; have f2 := HRES.out.f 2; have f3 := HRES.out.f 3; have f4 := HRES.out.f 4; have f5 := HRES.out.f 5; have f6 := HRES.out.f 6
 clear hb7 he e
 refine hK.out _ _ (HSX.out _ HB7.out) (fun hHeld => ?_)
 clear hK K
 try simp only [Act.put, zA, zB, zC]
 refine tr [3] ?_
 refine AllReadyH.cons (tA rfl) (fun K hK => ?_) AllReadyH.nil
 go_simp
 have HX7 : Bx (((((((y7.setCell ⟨w.heap.size, 0, none⟩ (.int .i64 t.kind)).setCell ⟨w.heap.size, 1, none⟩ (.string (X.str t.name))).setCell ⟨w.heap.size, 2, none⟩ (.int .i64 t.op)).setCell ⟨w.heap.size, 3, none⟩ (.int .i64 t.a)).setCell ⟨w.heap.size, 4, none⟩ (.int .i64 t.b)).setCell ⟨w.heap.size, 5, none⟩ (.int .i64 t.n)).setCell ⟨w.heap.size, 6, none⟩ (.slice aw lw cw)) (w.heap.size + 1) (itC t (.slice aw lw cw)) := Bx.far7 (HTW.out.x.below HB7.out) (Nat.succ_ne_self _)
 refine hK.out _ _ ⟨HX7.c 0 _ rfl, HX7.c 1 _ rfl, HX7.c 2 _ rfl, HX7.c 3 _ rfl, HX7.c 4 _ rfl, HX7.c 5 _ rfl, HX7.c 6 _ rfl⟩ (fun hHeld => ?_)
 clear hK K
 try simp only [Act.put, zA, zB, zC]
 refine tj 4 ?_
 simp only [Act.put, zA, zB, zC]
 refine wpAnyH_done (by kernel_rfl) ?_ _
 clear hHeld
 have HF := Bx.put7 HRES.out rfl (.int .i64 t.kind) (.string (X.str t.name)) (.int .i64 t.op) (.int .i64 t.a) (.int .i64 t.b) (.int .i64 t.n) (.slice aw lw cw)
 have HE : Below w.heap.size w (((((((y7.setCell ⟨w.heap.size, 0, none⟩ (.int .i64 t.kind)).setCell ⟨w.heap.size, 1, none⟩ (.string (X.str t.name))).setCell ⟨w.heap.size, 2, none⟩ (.int .i64 t.op)).setCell ⟨w.heap.size, 3, none⟩ (.int .i64 t.a)).setCell ⟨w.heap.size, 4, none⟩ (.int .i64 t.b)).setCell ⟨w.heap.size, 5, none⟩ (.int .i64 t.n)).setCell ⟨w.heap.size, 6, none⟩ (.slice aw lw cw)) := below_put7 (HTW.out.b.trans (HB7.out.mono HTW.out.b.size)) (Nat.le_refl _)
 have HO9 : World.ownsRow (((((((y7.setCell ⟨w.heap.size, 0, none⟩ (.int .i64 t.kind)).setCell ⟨w.heap.size, 1, none⟩ (.string (X.str t.name))).setCell ⟨w.heap.size, 2, none⟩ (.int .i64 t.op)).setCell ⟨w.heap.size, 3, none⟩ (.int .i64 t.a)).setCell ⟨w.heap.size, 4, none⟩ (.int .i64 t.b)).setCell ⟨w.heap.size, 5, none⟩ (.int .i64 t.n)).setCell ⟨w.heap.size, 6, none⟩ (.slice aw lw cw)) (w.heap.size + 2) 2 1 (.slice aw lw cw) lw (iC t.words) := put7_own (own_thru HOWN.out HB7.out) (by omega)
 clear c0 c1 c2 c3 c4 c5 c6 f0 f1 f2 f3 f4 f5 f6 HX7
 generalize (((((((y7.setCell ⟨w.heap.size, 0, none⟩ (.int .i64 t.kind)).setCell ⟨w.heap.size, 1, none⟩ (.string (X.str t.name))).setCell ⟨w.heap.size, 2, none⟩ (.int .i64 t.op)).setCell ⟨w.heap.size, 3, none⟩ (.int .i64 t.a)).setCell ⟨w.heap.size, 4, none⟩ (.int .i64 t.b)).setCell ⟨w.heap.size, 5, none⟩ (.int .i64 t.n)).setCell ⟨w.heap.size, 6, none⟩ (.slice aw lw cw)) = Wf at HF HE HO9 ⊢
 have k0 := HF.c 0 _ rfl; have k1 := HF.c 1 _ rfl; have k2 := HF.c 2 _ rfl; have k3 := HF.c 3 _ rfl; have k4 := HF.c 4 _ rfl; have k5 := HF.c 5 _ rfl; have k6 := HF.c 6 _ rfl
 have HE' : Hid _ := HE
 have HO9' : Hid _ := HO9
 clear HF HE HO9
 go_wp2_with fail
 refine bodyPost_ret (v := .tuple #[.agg #[.int .i64 t.kind, .string (X.str t.name), .int .i64 t.op, .int .i64 t.a, .int .i64 t.b, .int .i64 t.n, .slice aw lw cw], .bool zt]) (by simp [results, Tryz.results37, go_sem, k0, k1, k2, k3, k4, k5, k6]) rfl ?_
 exact ⟨t, aw, lw, cw, zt, rfl, fun e => by rw [HR3.out, HZT.out, if_pos e], fun e => by rw [HR3.out, HZT.out, if_neg (by rw [e]; simp)], HT2.out, own_mono HO9'.out (by omega), HE'.out⟩
end Go.Proofs.YtgjingleolhkbaaGreatDoor

namespace Go.Proofs.YtgjingleolhkbaaGreatDoor
open Go.RowKit Go.Maps Go.Lib
set_option linter.unusedVariables false
set_option linter.unusedSimpArgs false

set_option maxRecDepth 100000 in
set_option maxHeartbeats 16000000 in
theorem ritem_e2 {w : World} {a : Option Addr} {n c : Nat} {f : X.By} {r : List X.By} (h : StrV w a n c (f :: r)) (hf : f ≠ []) (hn : n ≤ 200000) (hr : r.length = 1) (eG : f ≠ X.wGlobal) (eT : f ≠ X.wThread) :
  Calls Tryz.prog 37 #[.slice a n c] w (TakeOut w (X.read (f :: r))) := by
 have HV : Hid _ := h
 have hcount : r.length + 1 = n := by have := h.count; simpa using this
 have HCT : Hid _ := hcount
 have h0n2 : 0 < n := by omega
 have h0n : (0 : Int) < n := by omega
 obtain ⟨b, off, s0, rfl, cw0, hs0, hz0⟩ := h.at (i := 0) (by omega)
 simp only [Nat.add_zero] at cw0
 have hs0' : s0.data.toList = f := hs0
 have hsz : 0 < s0.size := by
  rw [← len_list, hs0']
  exact List.length_pos_iff.2 hf
 obtain ⟨m, hm⟩ : ∃ m, s0.size = m + 1 := ⟨s0.size - 1, by omega⟩
 have hms : m < s0.size := by omega
 have hms' : (m : Int) < s0.size := by omega
 have hml : m ≤ s0.size := by omega
 have hwm : IntKind.i64.wrap ((s0.size : Int) - 1) = (m : Int) := by rw [IntKind.wrap_i64]; omega
 have HLAST : Hid (s0.data.toList.getLast? = some (s0[m]'hms)) := last_eq hm
 have HDROP : Hid _ := drop_last hm
 have HHS : Hid (∀ y : World, Below w.heap.size w y → y.cell? ⟨b, off, none⟩ = some (.string s0)) := fun y hy => cell_thru hy cw0
 have HF : Hid (s0.data.toList = f) := hs0'
 have HBW : Hid (b < w.heap.size) := World.block_lt_of_cell? w ⟨b, off, none⟩ cw0
 have HFN : Hid _ := hf
 have H1 : Hid (r ≠ [] → ∀ y : World, Below w.heap.size w y → ∃ s1 : ByteArray, y.cell? ⟨b, off + 1, none⟩ = some (.string s1) ∧ r[0]? = some s1.data.toList ∧ s1.size ≤ 200000) := fun hr y hy => by
  have hrl := List.length_pos_iff.2 hr
  obtain ⟨b', off', s1, he, cw, hs, hz⟩ := (HV.out.below hy).at (i := 1) (by omega)
  cases he
  refine ⟨s1, cw, ?_, hz⟩
  rw [hs]
  simp [List.getD, hrl]
 have HT0 : Hid (Tx w ((w.alloc (.cells #[.int .i64 0, .string { data := #[] }, .int .i64 0, .int .i64 0, .int .i64 0, .int .i64 0, .slice none 0 0] 44)).alloc (.cells #[.int .i64 0, .string { data := #[] }, .int .i64 0, .int .i64 0, .int .i64 0, .int .i64 0, .slice none 0 0] 44)) X.noIt (.slice none 0 0)) := Tx.new w _
 clear h hf hs0 hs0' hcount hsz hm
 have hr0 : r ≠ [] := fun e => by rw [e] at hr; simp at hr
 have n2 : n = 2 := by have := HCT.out; omega
 obtain ⟨x1, rfl⟩ : ∃ x1, r = [x1] := by
  match r, hr with
  | [x], _ => exact ⟨x, rfl⟩
 subst n2
 have h12 : 1 < 2 := by omega
 have qn1 : ((2 : Int) == 1) = false := rfl
 have qG : (s0.toList == [46, 103, 108, 111, 98, 97, 108]) = false := by rw [ByteArray.toList_eq]; exact beq_eq_false_iff_ne.2 (fun e => eG (HF.out.symm.trans e))
 have qT : (s0.toList == [46, 116, 104, 114, 101, 97, 100]) = false := by rw [ByteArray.toList_eq]; exact beq_eq_false_iff_ne.2 (fun e => eT (HF.out.symm.trans e))
 have HL : Hid (X.read [f, x1] = X.insD? f [x1]) := X.read_other (fun e => by simp at e) (fun e => eG e.1) (fun e => eT e.1) (fun e => by have := e.2; simp at this)
 clear eG eT
 go_enter Tryz.func37, Tryz.ntmps37
 go_wp2_with fail
 obtain ⟨Y, hY⟩ : ∃ Y, ((w.alloc (.cells #[.int .i64 0, .string { data := #[] }, .int .i64 0, .int .i64 0, .int .i64 0, .int .i64 0, .slice none 0 0] 44)).alloc (.cells #[.int .i64 0, .string { data := #[] }, .int .i64 0, .int .i64 0, .int .i64 0, .int .i64 0, .slice none 0 0] 44)) = Y := ⟨_, rfl⟩
 rw [hY]
 rw [hY] at HT0
 have HYS : Hid (∀ y : World, Below Y.heap.size Y y → y.cell? ⟨b, off, none⟩ = some (.string s0)) := fun y hy => HHS.out y (HT0.out.b.trans (hy.mono HT0.out.b.size))
 clear hY
 refine wp_region_held_drew (S := (fun y : World => y.cell? ⟨b, off, none⟩ = some (.string s0))) (by kernel_rfl) (HYS.out _ (Below.refl _ _).drew) (fun hHeld => ?_)
 refine tj 0 ?_
 simp only [Act.put, zA, zB, zC]
 refine tj 1 ?_
 simp only [Act.put, zA, zB, zC]
 refine tj 2 ?_
 simp only [Act.put, zA, zB, zC]
 refine tj 3 ?_
 simp only [Act.put, zA, zB, zC]
 refine tj 4 ?_
 simp only [Act.put, zA, zB, zC]
 refine tj 5 ?_
 simp only [Act.put, zA, zB, zC]
 refine tj 6 ?_
 simp only [Act.put, zA, zB, zC]
 refine tj 7 ?_
 simp only [Act.put, zA, zB, zC]
 refine tj 8 ?_
 simp only [Act.put, zA, zB, zC]
 refine tj 9 ?_
 simp only [Act.put, zA, zB, zC]
 refine wpAnyH_done (by kernel_rfl) ?_ _
 clear hHeld
 have HTD : Hid (Tx w Y.drew X.noIt (.slice none 0 0)) := HT0.out.below (Below.refl _ _).drew
 obtain ⟨Yd, hYd⟩ : ∃ Yd, Y.drew = Yd := ⟨_, rfl⟩
 rw [hYd] at HTD ⊢
 have HYD : Hid (∀ y : World, Below Yd.heap.size Yd y → y.cell? ⟨b, off, none⟩ = some (.string s0)) := fun y hy => HHS.out y (HTD.out.b.trans (hy.mono HTD.out.b.size))
 clear hYd HYS HT0
 have cwY := HYD.out _ (Below.refl _ _)
 have hcall := rinstruction_any (HV.out.below HTD.out.b) HFN.out
 rw [← HL.out] at hcall
 have c0 := HTD.out.r.c 0 _ rfl; have c1 := HTD.out.r.c 1 _ rfl; have c2 := HTD.out.r.c 2 _ rfl; have c3 := HTD.out.r.c 3 _ rfl; have c4 := HTD.out.r.c 4 _ rfl; have c5 := HTD.out.r.c 5 _ rfl; have c6 := HTD.out.r.c 6 _ rfl
 have f0 := HTD.out.r.f 0; have f1 := HTD.out.r.f 1; have f2 := HTD.out.r.f 2; have f3 := HTD.out.r.f 3; have f4 := HTD.out.r.f 4; have f5 := HTD.out.r.f 5; have f6 := HTD.out.r.f 6
 go_wp2_with fail
 refine hcall.mono ?_
 rintro e y7 ⟨t, aw, lw, cw, ok, he, h1, h2, h3, h4, h5⟩
 rw [he]
 have HB7 : Hid (Below Yd.heap.size Yd y7) := h5
 have HRES : Hid (Bx y7 w.heap.size [.int .i64 0, .string { data := #[] }, .int .i64 0, .int .i64 0, .int .i64 0, .int .i64 0, .slice none 0 0]) := HTD.out.r.below h5
 have H12 : Hid _ := And.intro h1 h2
 have H3 : Hid _ := h3
 have HOWN : Hid (y7.ownsRow (w.heap.size + 1) 2 1 (.slice aw lw cw) lw (iC t.words)) := own_mono h4 (by have := HTD.out.r.lt; omega)
 clear h1 h2 h3 h4 h5 he e hcall c0 c1 c2 c3 c4 c5 c6 f0 f1 f2 f3 f4 f5 f6
 have c0 := HRES.out.c 0 _ rfl; have c1 := HRES.out.c 1 _ rfl; have c2 := HRES.out.c 2 _ rfl; have c3 := HRES.out.c 3 _ rfl; have c4 := HRES.out.c 4 _ rfl; have c5 := HRES.out.c 5 _ rfl; have c6 := HRES.out.c 6 _ rfl
 have f0 := HRES.out.f 0; have f1 := HRES.out.f 1; have f2 := HRES.out.f 2; have f3 := HRES.out.f 3; have f4 := HRES.out.f 4; have f5 := HRES.out.f 5; have f6 := HRES.out.f 6
 go_wp2_with fail
 have HF := Bx.put7 HRES.out rfl (.int .i64 t.kind) (.string (X.str t.name)) (.int .i64 t.op) (.int .i64 t.a) (.int .i64 t.b) (.int .i64 t.n) (.slice aw lw cw)
 have HE : Below w.heap.size w (((((((y7.setCell ⟨w.heap.size, 0, none⟩ (.int .i64 t.kind)).setCell ⟨w.heap.size, 1, none⟩ (.string (X.str t.name))).setCell ⟨w.heap.size, 2, none⟩ (.int .i64 t.op)).setCell ⟨w.heap.size, 3, none⟩ (.int .i64 t.a)).setCell ⟨w.heap.size, 4, none⟩ (.int .i64 t.b)).setCell ⟨w.heap.size, 5, none⟩ (.int .i64 t.n)).setCell ⟨w.heap.size, 6, none⟩ (.slice aw lw cw)) := below_put7 (HTD.out.b.trans (HB7.out.mono HTD.out.b.size)) (Nat.le_refl _)
 have HO9 : World.ownsRow (((((((y7.setCell ⟨w.heap.size, 0, none⟩ (.int .i64 t.kind)).setCell ⟨w.heap.size, 1, none⟩ (.string (X.str t.name))).setCell ⟨w.heap.size, 2, none⟩ (.int .i64 t.op)).setCell ⟨w.heap.size, 3, none⟩ (.int .i64 t.a)).setCell ⟨w.heap.size, 4, none⟩ (.int .i64 t.b)).setCell ⟨w.heap.size, 5, none⟩ (.int .i64 t.n)).setCell ⟨w.heap.size, 6, none⟩ (.slice aw lw cw)) (w.heap.size + 1) 2 1 (.slice aw lw cw) lw (iC t.words) := put7_own HOWN.out (by omega)
 generalize (((((((y7.setCell ⟨w.heap.size, 0, none⟩ (.int .i64 t.kind)).setCell ⟨w.heap.size, 1, none⟩ (.string (X.str t.name))).setCell ⟨w.heap.size, 2, none⟩ (.int .i64 t.op)).setCell ⟨w.heap.size, 3, none⟩ (.int .i64 t.a)).setCell ⟨w.heap.size, 4, none⟩ (.int .i64 t.b)).setCell ⟨w.heap.size, 5, none⟩ (.int .i64 t.n)).setCell ⟨w.heap.size, 6, none⟩ (.slice aw lw cw)) = Wf at HF HE HO9 ⊢
 have k0 := HF.c 0 _ rfl; have k1 := HF.c 1 _ rfl; have k2 := HF.c 2 _ rfl; have k3 := HF.c 3 _ rfl; have k4 := HF.c 4 _ rfl; have k5 := HF.c 5 _ rfl; have k6 := HF.c 6 _ rfl
 refine bodyPost_ret (v := .tuple #[.agg #[.int .i64 t.kind, .string (X.str t.name), .int .i64 t.op, .int .i64 t.a, .int .i64 t.b, .int .i64 t.n, .slice aw lw cw], .bool ok]) (by simp [results, Tryz.results37, go_sem, k0, k1, k2, k3, k4, k5, k6]) rfl ?_
 exact ⟨t, aw, lw, cw, ok, rfl, H12.out.1, H12.out.2, H3.out, own_mono HO9 (by omega), HE⟩
end Go.Proofs.YtgjingleolhkbaaGreatDoor

namespace Go.Proofs.YtgjingleolhkbaaGreatDoor
open Go.RowKit Go.Maps Go.Lib
set_option linter.unusedVariables false
set_option linter.unusedSimpArgs false

set_option maxRecDepth 100000 in
set_option maxHeartbeats 16000000 in
theorem ritem_words {w : World} {a : Option Addr} {n c : Nat} {f : X.By} {r : List X.By} (h : StrV w a n c (f :: r)) (hf : f ≠ []) (hn : n ≤ 200000) (hr : 2 ≤ r.length) (eW : f = X.wWords) :
  Calls Tryz.prog 37 #[.slice a n c] w (TakeOut w (X.read (f :: r))) := by
 have HV : Hid _ := h
 have hcount : r.length + 1 = n := by have := h.count; simpa using this
 have HCT : Hid _ := hcount
 have h0n2 : 0 < n := by omega
 have h0n : (0 : Int) < n := by omega
 obtain ⟨b, off, s0, rfl, cw0, hs0, hz0⟩ := h.at (i := 0) (by omega)
 simp only [Nat.add_zero] at cw0
 have hs0' : s0.data.toList = f := hs0
 have hsz : 0 < s0.size := by
  rw [← len_list, hs0']
  exact List.length_pos_iff.2 hf
 obtain ⟨m, hm⟩ : ∃ m, s0.size = m + 1 := ⟨s0.size - 1, by omega⟩
 have hms : m < s0.size := by omega
 have hms' : (m : Int) < s0.size := by omega
 have hml : m ≤ s0.size := by omega
 have hwm : IntKind.i64.wrap ((s0.size : Int) - 1) = (m : Int) := by rw [IntKind.wrap_i64]; omega
 have HLAST : Hid (s0.data.toList.getLast? = some (s0[m]'hms)) := last_eq hm
 have HDROP : Hid _ := drop_last hm
 have HHS : Hid (∀ y : World, Below w.heap.size w y → y.cell? ⟨b, off, none⟩ = some (.string s0)) := fun y hy => cell_thru hy cw0
 have HF : Hid (s0.data.toList = f) := hs0'
 have HBW : Hid (b < w.heap.size) := World.block_lt_of_cell? w ⟨b, off, none⟩ cw0
 have HFN : Hid _ := hf
 have H1 : Hid (r ≠ [] → ∀ y : World, Below w.heap.size w y → ∃ s1 : ByteArray, y.cell? ⟨b, off + 1, none⟩ = some (.string s1) ∧ r[0]? = some s1.data.toList ∧ s1.size ≤ 200000) := fun hr y hy => by
  have hrl := List.length_pos_iff.2 hr
  obtain ⟨b', off', s1, he, cw, hs, hz⟩ := (HV.out.below hy).at (i := 1) (by omega)
  cases he
  refine ⟨s1, cw, ?_, hz⟩
  rw [hs]
  simp [List.getD, hrl]
 have HT0 : Hid (Tx w ((w.alloc (.cells #[.int .i64 0, .string { data := #[] }, .int .i64 0, .int .i64 0, .int .i64 0, .int .i64 0, .slice none 0 0] 44)).alloc (.cells #[.int .i64 0, .string { data := #[] }, .int .i64 0, .int .i64 0, .int .i64 0, .int .i64 0, .slice none 0 0] 44)) X.noIt (.slice none 0 0)) := Tx.new w _
 clear h hf hs0 hs0' hcount hsz hm
 have hr0 : r ≠ [] := fun e => by rw [e] at hr; simp at hr
 have n1 : n ≠ 1 := by have := HCT.out; omega
 have n2 : n ≠ 2 := by have := HCT.out; omega
 have qn1 : ((n : Int) == 1) = false := by simp; omega
 have qn2 : ((n : Int) == 2) = false := by simp; omega
 have qn3 : (2 : Int) < n := by have := HCT.out; omega
 have h1n : 1 < n := by have := HCT.out; omega
 have qW : (s0.toList == [46, 119, 111, 114, 100, 115]) = true := by rw [ByteArray.toList_eq]; exact beq_iff_eq.2 (HF.out.trans eW)
 obtain ⟨x1, ns, rfl⟩ : ∃ x1 ns, r = x1 :: ns := by
  match r, hr0 with
  | x :: l, _ => exact ⟨x, l, rfl⟩
 have HNL : Hid (ns.length + 2 = n) := by show _ = _; have := HCT.out; simp at this; omega
 go_enter Tryz.func37, Tryz.ntmps37
 go_wp2_with fail
 obtain ⟨Y, hY⟩ : ∃ Y, ((w.alloc (.cells #[.int .i64 0, .string { data := #[] }, .int .i64 0, .int .i64 0, .int .i64 0, .int .i64 0, .slice none 0 0] 44)).alloc (.cells #[.int .i64 0, .string { data := #[] }, .int .i64 0, .int .i64 0, .int .i64 0, .int .i64 0, .slice none 0 0] 44)) = Y := ⟨_, rfl⟩
 rw [hY]
 rw [hY] at HT0
 have HYS : Hid (∀ y : World, Below Y.heap.size Y y → y.cell? ⟨b, off, none⟩ = some (.string s0)) := fun y hy => HHS.out y (HT0.out.b.trans (hy.mono HT0.out.b.size))
 clear hY
 refine wp_region_held_drew (S := (fun y : World => y.cell? ⟨b, off, none⟩ = some (.string s0))) (by kernel_rfl) (HYS.out _ (Below.refl _ _).drew) (fun hHeld => ?_)
 refine tj 0 ?_
 simp only [Act.put, zA, zB, zC]
 refine tj 1 ?_
 simp only [Act.put, zA, zB, zC]
 refine tj 2 ?_
 simp only [Act.put, zA, zB, zC]
 refine tj 3 ?_
 simp only [Act.put, zA, zB, zC]
 refine tj 4 ?_
 simp only [Act.put, zA, zB, zC]
 refine tj 5 ?_
 simp only [Act.put, zA, zB, zC]
 refine tj 6 ?_
 simp only [Act.put, zA, zB, zC]
 refine tj 7 ?_
 simp only [Act.put, zA, zB, zC]
 refine tj 8 ?_
 simp only [Act.put, zA, zB, zC]
 refine tj 9 ?_
 simp only [Act.put, zA, zB, zC]
 refine wpAnyH_done (by kernel_rfl) ?_ _
 clear hHeld
 have HTD : Hid (Tx w Y.drew X.noIt (.slice none 0 0)) := HT0.out.below (Below.refl _ _).drew
 obtain ⟨Yd, hYd⟩ : ∃ Yd, Y.drew = Yd := ⟨_, rfl⟩
 rw [hYd] at HTD ⊢
 have HYD : Hid (∀ y : World, Below Yd.heap.size Yd y → y.cell? ⟨b, off, none⟩ = some (.string s0)) := fun y hy => HHS.out y (HTD.out.b.trans (hy.mono HTD.out.b.size))
 clear hYd HYS HT0
 obtain ⟨s1, cw1, hx1, hz1⟩ := H1.out hr0 Yd HTD.out.b
 have cwY := HYD.out _ (Below.refl _ _)
 have HL : Hid (X.read (f :: x1 :: ns) = X.keepOk ((X.nums ns).map fun l => ⟨3, s1.data.toList, 0, 0, 0, 0, l⟩)) := by show _ = _; rw [eW]; simp at hx1; rw [← hx1]; exact X.read_words
 clear hx1 eW hr0
 have x0 := HTD.out.x.c 0 _ rfl; have x1 := HTD.out.x.c 1 _ rfl; have x2 := HTD.out.x.c 2 _ rfl; have x3 := HTD.out.x.c 3 _ rfl; have x4 := HTD.out.x.c 4 _ rfl; have x5 := HTD.out.x.c 5 _ rfl; have x6 := HTD.out.x.c 6 _ rfl
 have g0 := HTD.out.x.f 0; have g1 := HTD.out.x.f 1; have g2 := HTD.out.x.f 2; have g3 := HTD.out.x.f 3; have g4 := HTD.out.x.f 4; have g5 := HTD.out.x.f 5; have g6 := HTD.out.x.f 6
 go_wp2_with fail
 have HTW0 := HTD.out.put7 (⟨3, s1.data.toList, 0, 0, 0, 0, []⟩ : X.It) (.slice none 0 0)
 simp only [str_eq] at HTW0
 generalize (((((((Yd.setCell ⟨w.heap.size + 1, 0, none⟩ (.int .i64 3)).setCell ⟨w.heap.size + 1, 1, none⟩ (.string s1)).setCell ⟨w.heap.size + 1, 2, none⟩ (.int .i64 0)).setCell ⟨w.heap.size + 1, 3, none⟩ (.int .i64 0)).setCell ⟨w.heap.size + 1, 4, none⟩ (.int .i64 0)).setCell ⟨w.heap.size + 1, 5, none⟩ (.int .i64 0)).setCell ⟨w.heap.size + 1, 6, none⟩ (.slice none 0 0)) = Y1 at HTW0 ⊢
 clear x0 x1 x2 x3 x4 x5 x6 g0 g1 g2 g3 g4 g5 g6
 have HT1 : Hid (Tx w Y1 (⟨3, s1.data.toList, 0, 0, 0, 0, []⟩ : X.It) (.slice none 0 0)) := HTW0
 obtain ⟨i8, hi8, hz80, hz81, hz82⟩ := info_parts infoN
 clear HTW0 HTD HYD cw1 cwY cw0
 go_loopg [6] n (fun rr iv wq => ∃ (k : Nat), iv = .int .i64 k ∧ 2 ≤ k ∧ k ≤ n ∧ n - k ≤ rr ∧ Hid (∃ (zs : List Int) (v : Value), zs.length = k - 2 ∧ Tx w wq (⟨3, s1.data.toList, 0, 0, 0, 0, zs⟩ : X.It) v ∧ wq.ownsRow (w.heap.size + 2) 2 1 v zs.length (iC zs) ∧ X.nums ns = (X.nums (ns.drop (k - 2))).map (zs ++ ·)))
 case atStart => exact ⟨2, rfl, Nat.le_refl _, by omega, by omega, ⟨[], .slice none 0 0, rfl, HT1.out, own_none _ _ _, by simp⟩⟩
 case round =>
  obtain ⟨k, rfl, hk2, hk, hr, HI⟩ := hrel
  obtain ⟨zs, v, hzl, hTx, ho, hnums⟩ := HI.out
  by_cases hlt : k < n
  ·have hii : (k : Int) < n := by omega
   have hin : 0 ≤ (k : Int) := by omega
   obtain ⟨b', off', s, he, cwk, hs, hz⟩ := (HV.out.below hTx.b).at (i := k) (by omega)
   cases he
   have hkn : k - 2 < ns.length := by have := HNL.out; omega
   have hsn : s.data.toList = ns.getD (k - 2) [] := by
    rw [hs, show k = (k - 2) + 2 by omega]
    simp [List.getD]
   have hcall := fun w => rnumber_any s (by unfold maxLen; omega) w
   have HTX : Hid (Tx w wr (⟨3, s1.data.toList, 0, 0, 0, 0, zs⟩ : X.It) v) := hTx
   have HO : Hid _ := ho
   have HNU : Hid _ := hnums
   have HZL : Hid _ := hzl
   have HSN : Hid _ := hsn
   clear hTx ho hnums hzl hsn hs HI
   go_wp2_with fail
   refine (hcall _).mono ?_
   rintro e y ⟨⟨z, ok, he, hnum⟩, hyw⟩
   rw [hyw, he]
   clear hyw he y e hcall
   cases ok with
   | false =>
    have HR2 : Hid (X.read (f :: x1 :: ns) = none) := by show _ = _; rw [HL.out, nums_bad hkn (by rw [← HSN.out]; exact hnum.2 rfl) HNU.out]; rfl
    have HRES : Hid (Bx wr w.heap.size [.int .i64 0, .string { data := #[] }, .int .i64 0, .int .i64 0, .int .i64 0, .int .i64 0, .slice none 0 0]) := HTX.out.r
    have HWY : Hid (Below w.heap.size w wr) := HTX.out.b
    clear hnum cwk
    have c0 := HRES.out.c 0 _ rfl; have c1 := HRES.out.c 1 _ rfl; have c2 := HRES.out.c 2 _ rfl; have c3 := HRES.out.c 3 _ rfl; have c4 := HRES.out.c 4 _ rfl; have c5 := HRES.out.c 5 _ rfl; have c6 := HRES.out.c 6 _ rfl
    have f0 := HRES.out.f 0; have f1 := HRES.out.f 1; have f2 := HRES.out.f 2; have f3 := HRES.out.f 3; have f4 := HRES.out.f 4; have f5 := HRES.out.f 5; have f6 := HRES.out.f 6
    go_wp2_with fail
    have HF := Bx.put7 HRES.out rfl (.int .i64 0) (.string { data := #[] }) (.int .i64 0) (.int .i64 0) (.int .i64 0) (.int .i64 0) (.slice none 0 0)
    have HE : Below w.heap.size w (((((((wr.setCell ⟨w.heap.size, 0, none⟩ (.int .i64 0)).setCell ⟨w.heap.size, 1, none⟩ (.string { data := #[] })).setCell ⟨w.heap.size, 2, none⟩ (.int .i64 0)).setCell ⟨w.heap.size, 3, none⟩ (.int .i64 0)).setCell ⟨w.heap.size, 4, none⟩ (.int .i64 0)).setCell ⟨w.heap.size, 5, none⟩ (.int .i64 0)).setCell ⟨w.heap.size, 6, none⟩ (.slice none 0 0)) := below_put7 HWY.out (Nat.le_refl _)
    generalize (((((((wr.setCell ⟨w.heap.size, 0, none⟩ (.int .i64 0)).setCell ⟨w.heap.size, 1, none⟩ (.string { data := #[] })).setCell ⟨w.heap.size, 2, none⟩ (.int .i64 0)).setCell ⟨w.heap.size, 3, none⟩ (.int .i64 0)).setCell ⟨w.heap.size, 4, none⟩ (.int .i64 0)).setCell ⟨w.heap.size, 5, none⟩ (.int .i64 0)).setCell ⟨w.heap.size, 6, none⟩ (.slice none 0 0)) = Wf at HF HE ⊢
    have k0 := HF.c 0 _ rfl; have k1 := HF.c 1 _ rfl; have k2 := HF.c 2 _ rfl; have k3 := HF.c 3 _ rfl; have k4 := HF.c 4 _ rfl; have k5 := HF.c 5 _ rfl; have k6 := HF.c 6 _ rfl
    refine bodyPost_ret (v := .tuple #[.agg #[.int .i64 0, .string { data := #[] }, .int .i64 0, .int .i64 0, .int .i64 0, .int .i64 0, .slice none 0 0], .bool false]) (by simp [results, Tryz.results37, go_sem, k0, k1, k2, k3, k4, k5, k6]) rfl ?_
    exact TakeOut.bad HR2.out HE
   | true =>
    have HN2 : Hid _ := nums_step hkn (by rw [← HSN.out]; exact hnum.1 rfl) HNU.out
    clear hnum cwk
    have x6 := HTX.out.x.c 6 _ rfl
    have HB2 : Hid (Below wr.heap.size wr (wr.alloc (.cells #[.int .i64 z] 2))) := bl1 _ _
    have HX2 : Hid (Tx w (wr.alloc (.cells #[.int .i64 z] 2)) (⟨3, s1.data.toList, 0, 0, 0, 0, zs⟩ : X.It) v) := HTX.out.below HB2.out
    have HO2 : Hid ((wr.alloc (.cells #[.int .i64 z] 2)).ownsRow (w.heap.size + 2) 2 1 v zs.length (iC zs)) := own_thru HO.out HB2.out
    have HNC : Hid (∀ j u, ([.int .i64 z] : List Value)[j]? = some u → (wr.alloc (.cells #[.int .i64 z] 2)).cell? ((⟨wr.heap.size, 0, none⟩ : Addr).add j) = some u) := fun j u hu => by rw [Addr.add_lit, Nat.zero_add]; exact row_cell (by simpa using hu)
    have HSZ : Hid (w.heap.size + 2 ≤ (wr.alloc (.cells #[.int .i64 z] 2)).heap.size) := by show _ ≤ _; have := HTX.out.x.lt; simp; omega
    have hzl2 : zs.length ≤ 200000 := by have := HZL.out; omega
    obtain ⟨va, vc, rfl⟩ := own_slice HO.out
    go_wp2_with (first | (at_builtin; refine wpList_append_lies _ rfl _ _ 26 rfl (w.heap.size + 2) 2 i8 _ 1 8 Tryz.underlying26 hi8 hz80 hz81 hz82 rfl (by decide) _ zs.length _ rfl HO2.out ⟨wr.heap.size, 0, none⟩ 1 1 [.int .i64 z] rfl rfl HNC.out (by intro u hu; simp at hu; subst hu; rfl) (by decide) (by unfold maxLen; omega) (by omega) HSZ.out (wr.heap.size + 1) (by simp) ?_; intro ga ca Y6 ho6 hg6 hat6 hlt6; have HO6 : Hid (Y6.ownsRow (w.heap.size + 2) 2 1 (.slice (some ⟨ga, 0, none⟩) (zs.length + 1) ca) (zs.length + 1) (iC zs ++ [.int .i64 z])) := ho6; have HG6 : Hid _ := hg6; have X6 := HX2.out.x.gbO hg6 (fun e => by have := (HO2.out.lt _ e.symm).1; omega); have p6 := X6.c 6 _ rfl; have q6 := X6.f 6; clear ho6 hg6 hat6 hlt6) | go_in)
    have X6' := X6.put 6 (by simp [itC]) (.slice (some ⟨ga, 0, none⟩) (zs.length + 1) ca)
    have R6 := HX2.out.r.gbO HG6.out (fun e => by have := (HO2.out.lt _ e.symm).1; omega)
    have HTN : Hid (Tx w (Y6.setCell ⟨w.heap.size + 1, 6, none⟩ (.slice (some ⟨ga, 0, none⟩) (zs.length + 1) ca)) (⟨3, s1.data.toList, 0, 0, 0, 0, zs ++ [z]⟩ : X.It) (.slice (some ⟨ga, 0, none⟩) (zs.length + 1) ca)) := by
     refine ⟨X6', R6.gb (gb_set _ _ _) (Nat.ne_of_lt (Nat.lt_succ_self _)), Below.setCell ?_ (Nat.le_succ _) _⟩
     have h6 : Below (w.heap.size + 2) (wr.alloc (.cells #[.int .i64 z] 2)) Y6 := below_own (Below.refl _ _) HO2.out HG6.out HSZ.out
     exact HX2.out.b.trans (h6.mono (by omega))
    have HON : Hid ((Y6.setCell ⟨w.heap.size + 1, 6, none⟩ (.slice (some ⟨ga, 0, none⟩) (zs.length + 1) ca)).ownsRow (w.heap.size + 2) 2 1 (.slice (some ⟨ga, 0, none⟩) (zs.length + 1) ca) (zs.length + 1) (iC zs ++ [.int .i64 z])) := HO6.out.kept (gb_set _ _ _) (.inr (fun e => by have h9 := (HO6.out.lt _ e).1; have h10 : w.heap.size + 2 ≤ w.heap.size + 1 := h9; omega))
    clear X6 X6' R6 p6 q6 x6
    go_roundg (n - (k + 1))
    case measure => omega
    case rel =>
     refine ⟨k + 1, by go_num, by omega, by omega, Nat.le_refl _, ⟨zs ++ [z], _, by rw [List.length_append, HZL.out]; simp; omega, HTN.out, ?_, ?_⟩⟩
     ·rw [List.length_append, show iC (zs ++ [z]) = iC zs ++ [.int .i64 z] by simp [iC]]
      exact HON.out
     ·rw [show k + 1 - 2 = k - 2 + 1 by omega]
      exact HN2.out
  ·obtain rfl : k = n := by omega
   have hii : ¬ (k : Int) < k := by omega
   obtain ⟨aw, cw, rfl⟩ := own_slice ho
   have hne : X.nums ns = some zs := nums_end (by have := HNL.out; rw [show ns.length = k - 2 by omega]; exact hnums)
   obtain ⟨t, ht⟩ : ∃ t, (⟨3, s1.data.toList, 0, 0, 0, 0, zs⟩ : X.It) = t := ⟨_, rfl⟩
   have HR3 : Hid (X.read (f :: x1 :: ns) = X.keepOk (some t)) := by show _ = _; rw [HL.out, hne, ← ht]; rfl
   have ht2 : t.name.length ≤ 200000 := by rw [← ht]; simp only [len_list]; exact hz1
   obtain ⟨lw, hlw0⟩ : ∃ lw, zs.length = lw := ⟨_, rfl⟩
   have hlw : t.words.length = lw := by rw [← ht]; exact hlw0
   rw [hlw0] at hTx ho
   rw [ht] at hTx
   have HOWN : Hid (wr.ownsRow (w.heap.size + 2) 2 1 (.slice aw lw cw) lw (iC t.words)) := by show World.ownsRow _ _ _ _ _ _ _; rw [← ht]; exact ho
   have HTW : Hid (Tx w wr t (.slice aw lw cw)) := hTx
   clear hTx ho hnums hne ht hlw0 HI hzl
   have hmay := fun w => rmay_any t.kind (X.str t.name) t.op t.a t.b t.n aw lw cw t.words hlw (by rw [str_size]; unfold maxLen; omega) w
   simp only [str_list] at hmay
   have HIT : Hid ((⟨t.kind, t.name, t.op, t.a, t.b, t.n, t.words⟩ : X.It) = t) := rfl
   rw [HIT.out] at hmay
   obtain ⟨zt, hzt⟩ : ∃ z, X.itOk t = z := ⟨_, rfl⟩
   rw [hzt] at hmay
   have HZT : Hid _ := keepOk_some hzt
   have HT2 : Hid _ := ht2
   clear hzt ht2
   go_wp2_with fail
   have HSX : Hid (∀ y : World, Below wr.heap.size wr y → (fun y : World => y.cell? ⟨w.heap.size + 1, 0, none⟩ = some (.int .i64 t.kind) ∧ y.cell? ⟨w.heap.size + 1, 1, none⟩ = some (.string (X.str t.name)) ∧ y.cell? ⟨w.heap.size + 1, 2, none⟩ = some (.int .i64 t.op) ∧ y.cell? ⟨w.heap.size + 1, 3, none⟩ = some (.int .i64 t.a) ∧ y.cell? ⟨w.heap.size + 1, 4, none⟩ = some (.int .i64 t.b) ∧ y.cell? ⟨w.heap.size + 1, 5, none⟩ = some (.int .i64 t.n) ∧ y.cell? ⟨w.heap.size + 1, 6, none⟩ = some (.slice aw lw cw)) y) := fun y hy => ⟨cell_thru hy (HTW.out.x.c 0 _ rfl), cell_thru hy (HTW.out.x.c 1 _ rfl), cell_thru hy (HTW.out.x.c 2 _ rfl), cell_thru hy (HTW.out.x.c 3 _ rfl), cell_thru hy (HTW.out.x.c 4 _ rfl), cell_thru hy (HTW.out.x.c 5 _ rfl), cell_thru hy (HTW.out.x.c 6 _ rfl)⟩
   refine wp_region_held_drew (S := (fun y : World => y.cell? ⟨w.heap.size + 1, 0, none⟩ = some (.int .i64 t.kind) ∧ y.cell? ⟨w.heap.size + 1, 1, none⟩ = some (.string (X.str t.name)) ∧ y.cell? ⟨w.heap.size + 1, 2, none⟩ = some (.int .i64 t.op) ∧ y.cell? ⟨w.heap.size + 1, 3, none⟩ = some (.int .i64 t.a) ∧ y.cell? ⟨w.heap.size + 1, 4, none⟩ = some (.int .i64 t.b) ∧ y.cell? ⟨w.heap.size + 1, 5, none⟩ = some (.int .i64 t.n) ∧ y.cell? ⟨w.heap.size + 1, 6, none⟩ = some (.slice aw lw cw))) (by kernel_rfl) (HSX.out _ (Below.refl _ _).drew) (fun hHeld => ?_)
   refine tj 0 ?_
   simp only [Act.put, zA, zB, zC]
   refine tj 1 ?_
   simp only [Act.put, zA, zB, zC]
   refine tr [2] ?_
   refine AllReadyH.cons (tA rfl) (fun K hK => ?_) AllReadyH.nil
   go_simp
   refine (hmay _).mono ?_
   rintro e y7 ⟨he, hb7⟩
   rw [he]
   have HB7 : Hid (Below wr.heap.size wr y7) := (Below.refl _ _).drew.trans hb7
   have HRES : Hid (Bx y7 w.heap.size [.int .i64 0, .string { data := #[] }, .int .i64 0, .int .i64 0, .int .i64 0, .int .i64 0, .slice none 0 0]) := HTW.out.r.below HB7.out
   have c0 := HRES.out.c 0 _ rfl; have c1 := HRES.out.c 1 _ rfl; have c2 := HRES.out.c 2 _ rfl; have c3 := HRES.out.c 3 _ rfl; have c4 := HRES.out.c 4 _ rfl; have c5 := HRES.out.c 5 _ rfl; have c6 := HRES.out.c 6 _ rfl
   have f0 := HRES.out.f 0; have f1 := HRES.out.f 1; have f2 := HRES.out.f 2; have f3 := HRES.out.f 3; have f4 := HRES.out.f 4; have f5 := HRES.out.f 5; have f6 := HRES.out.f 6
   clear hb7 he e
   refine hK.out _ _ (HSX.out _ HB7.out) (fun hHeld => ?_)
   clear hK K
   try simp only [Act.put, zA, zB, zC]
   refine tr [3] ?_
   refine AllReadyH.cons (tA rfl) (fun K hK => ?_) AllReadyH.nil
   go_simp
   have HX7 : Bx (((((((y7.setCell ⟨w.heap.size, 0, none⟩ (.int .i64 t.kind)).setCell ⟨w.heap.size, 1, none⟩ (.string (X.str t.name))).setCell ⟨w.heap.size, 2, none⟩ (.int .i64 t.op)).setCell ⟨w.heap.size, 3, none⟩ (.int .i64 t.a)).setCell ⟨w.heap.size, 4, none⟩ (.int .i64 t.b)).setCell ⟨w.heap.size, 5, none⟩ (.int .i64 t.n)).setCell ⟨w.heap.size, 6, none⟩ (.slice aw lw cw)) (w.heap.size + 1) (itC t (.slice aw lw cw)) := Bx.far7 (HTW.out.x.below HB7.out) (Nat.succ_ne_self _)
   refine hK.out _ _ ⟨HX7.c 0 _ rfl, HX7.c 1 _ rfl, HX7.c 2 _ rfl, HX7.c 3 _ rfl, HX7.c 4 _ rfl, HX7.c 5 _ rfl, HX7.c 6 _ rfl⟩ (fun hHeld => ?_)
   clear hK K
   try simp only [Act.put, zA, zB, zC]
   refine tj 4 ?_
   simp only [Act.put, zA, zB, zC]
   refine wpAnyH_done (by kernel_rfl) ?_ _
   clear hHeld
   have HF := Bx.put7 HRES.out rfl (.int .i64 t.kind) (.string (X.str t.name)) (.int .i64 t.op) (.int .i64 t.a) (.int .i64 t.b) (.int .i64 t.n) (.slice aw lw cw)
   have HE : Below w.heap.size w (((((((y7.setCell ⟨w.heap.size, 0, none⟩ (.int .i64 t.kind)).setCell ⟨w.heap.size, 1, none⟩ (.string (X.str t.name))).setCell ⟨w.heap.size, 2, none⟩ (.int .i64 t.op)).setCell ⟨w.heap.size, 3, none⟩ (.int .i64 t.a)).setCell ⟨w.heap.size, 4, none⟩ (.int .i64 t.b)).setCell ⟨w.heap.size, 5, none⟩ (.int .i64 t.n)).setCell ⟨w.heap.size, 6, none⟩ (.slice aw lw cw)) := below_put7 (HTW.out.b.trans (HB7.out.mono HTW.out.b.size)) (Nat.le_refl _)
   have HO9 : World.ownsRow (((((((y7.setCell ⟨w.heap.size, 0, none⟩ (.int .i64 t.kind)).setCell ⟨w.heap.size, 1, none⟩ (.string (X.str t.name))).setCell ⟨w.heap.size, 2, none⟩ (.int .i64 t.op)).setCell ⟨w.heap.size, 3, none⟩ (.int .i64 t.a)).setCell ⟨w.heap.size, 4, none⟩ (.int .i64 t.b)).setCell ⟨w.heap.size, 5, none⟩ (.int .i64 t.n)).setCell ⟨w.heap.size, 6, none⟩ (.slice aw lw cw)) (w.heap.size + 2) 2 1 (.slice aw lw cw) lw (iC t.words) := put7_own (own_thru HOWN.out HB7.out) (by omega)
   clear c0 c1 c2 c3 c4 c5 c6 f0 f1 f2 f3 f4 f5 f6 HX7
   generalize (((((((y7.setCell ⟨w.heap.size, 0, none⟩ (.int .i64 t.kind)).setCell ⟨w.heap.size, 1, none⟩ (.string (X.str t.name))).setCell ⟨w.heap.size, 2, none⟩ (.int .i64 t.op)).setCell ⟨w.heap.size, 3, none⟩ (.int .i64 t.a)).setCell ⟨w.heap.size, 4, none⟩ (.int .i64 t.b)).setCell ⟨w.heap.size, 5, none⟩ (.int .i64 t.n)).setCell ⟨w.heap.size, 6, none⟩ (.slice aw lw cw)) = Wf at HF HE HO9 ⊢
   have k0 := HF.c 0 _ rfl; have k1 := HF.c 1 _ rfl; have k2 := HF.c 2 _ rfl; have k3 := HF.c 3 _ rfl; have k4 := HF.c 4 _ rfl; have k5 := HF.c 5 _ rfl; have k6 := HF.c 6 _ rfl
   have HE' : Hid _ := HE
   have HO9' : Hid _ := HO9
   clear HF HE HO9
   go_wp2_with fail
   refine bodyPost_ret (v := .tuple #[.agg #[.int .i64 t.kind, .string (X.str t.name), .int .i64 t.op, .int .i64 t.a, .int .i64 t.b, .int .i64 t.n, .slice aw lw cw], .bool zt]) (by simp [results, Tryz.results37, go_sem, k0, k1, k2, k3, k4, k5, k6]) rfl ?_
   exact ⟨t, aw, lw, cw, zt, rfl, fun e => by rw [HR3.out, HZT.out, if_pos e], fun e => by rw [HR3.out, HZT.out, if_neg (by rw [e]; simp)], HT2.out, own_mono HO9'.out (by omega), HE'.out⟩
end Go.Proofs.YtgjingleolhkbaaGreatDoor

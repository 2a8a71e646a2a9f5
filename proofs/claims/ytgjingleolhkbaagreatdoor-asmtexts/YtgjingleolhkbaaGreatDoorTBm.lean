import Derived.Test.YtgjingleolhkbaaGreatDoorTBl
namespace Go.Proofs.YtgjingleolhkbaaGreatDoor
open Go.RowKit Go.Maps Go.Lib
set_option linter.unusedVariables false
set_option linter.unusedSimpArgs false

structure Tx (w W : World) (t : X.It) (v : Value) : Prop where
 x : Bx W (w.heap.size + 1) (itC t v)
 r : Bx W w.heap.size [.int .i64 0, .string { data := #[] }, .int .i64 0, .int .i64 0, .int .i64 0, .int .i64 0, .slice none 0 0]
 b : Below w.heap.size w W
theorem Tx.new (w : World) (ty : TypeId) : Tx w ((w.alloc (.cells #[.int .i64 0, .string { data := #[] }, .int .i64 0, .int .i64 0, .int .i64 0, .int .i64 0, .slice none 0 0] ty)).alloc (.cells #[.int .i64 0, .string { data := #[] }, .int .i64 0, .int .i64 0, .int .i64 0, .int .i64 0, .slice none 0 0] ty)) X.noIt (.slice none 0 0) :=
 ⟨by have := Bx.new (w.alloc (.cells #[.int .i64 0, .string { data := #[] }, .int .i64 0, .int .i64 0, .int .i64 0, .int .i64 0, .slice none 0 0] ty)) #[.int .i64 0, .string { data := #[] }, .int .i64 0, .int .i64 0, .int .i64 0, .int .i64 0, .slice none 0 0] ty; rw [World.size_alloc] at this; exact this, (Bx.new _ _ _).below (bl1 _ _), bl2 _ _ _⟩
theorem Tx.below {w W W' : World} {t : X.It} {v : Value} (h : Tx w W t v) (hb : Below W.heap.size W W') : Tx w W' t v := ⟨h.x.below hb, h.r.below hb, h.b.trans (hb.mono h.b.size)⟩
theorem Tx.put {w W : World} {t t' : X.It} {v v' : Value} (h : Tx w W t v) (k : Nat) (u : Value) (hk : k < 7) (e : (itC t v).set k u = itC t' v') : Tx w (W.setCell ⟨w.heap.size + 1, k, none⟩ u) t' v' :=
 ⟨by rw [← e]; exact h.x.put k (by simpa [itC] using hk) u, h.r.gb (gb_set _ _ _) (Nat.ne_of_lt (Nat.lt_succ_self _)), h.b.setCell (Nat.le_succ _) _⟩
theorem Tx.put7 {w W : World} {t : X.It} {v : Value} (h : Tx w W t v) (t' : X.It) (v' : Value) : Tx w (((((((W.setCell ⟨w.heap.size + 1, 0, none⟩ (.int .i64 t'.kind)).setCell ⟨w.heap.size + 1, 1, none⟩ (.string (X.str t'.name))).setCell ⟨w.heap.size + 1, 2, none⟩ (.int .i64 t'.op)).setCell ⟨w.heap.size + 1, 3, none⟩ (.int .i64 t'.a)).setCell ⟨w.heap.size + 1, 4, none⟩ (.int .i64 t'.b)).setCell ⟨w.heap.size + 1, 5, none⟩ (.int .i64 t'.n)).setCell ⟨w.heap.size + 1, 6, none⟩ (v')) t' v' :=
 ⟨Bx.put7 h.x rfl _ _ _ _ _ _ _, Bx.far7 h.r (Nat.ne_of_lt (Nat.lt_succ_self _)), below_put7 h.b (Nat.le_succ _)⟩
theorem last_eq {s : ByteArray} {m : Nat} (hm : s.size = m + 1) : s.data.toList.getLast? = some (s[m]'(by omega)) := by
 have h1 := get_list s m (by omega)
 rw [List.getLast?_eq_getElem?, len_list, show s.size - 1 = m by omega]
 exact h1
theorem drop_last {s : ByteArray} {m : Nat} (hm : s.size = m + 1) : (s.extract 0 m).data.toList = s.data.toList.dropLast := by
 rw [extract_eq, str_list, List.drop_zero, List.dropLast_eq_take, len_list, hm, Nat.add_sub_cancel]

theorem cell_thru7 {x : World} {b d o : Nat} {v u0 u1 u2 u3 u4 u5 u6 : Value} (h : x.cell? ⟨b, o, none⟩ = some v) (hne : b ≠ d) : World.cell? (((((((x.setCell ⟨d, 0, none⟩ (u0)).setCell ⟨d, 1, none⟩ (u1)).setCell ⟨d, 2, none⟩ (u2)).setCell ⟨d, 3, none⟩ (u3)).setCell ⟨d, 4, none⟩ (u4)).setCell ⟨d, 5, none⟩ (u5)).setCell ⟨d, 6, none⟩ (u6)) ⟨b, o, none⟩ = some v := by
 have st : ∀ {y : World} {q : Nat} {u : Value}, y.cell? ⟨b, o, none⟩ = some v → (y.setCell ⟨d, q, none⟩ u).cell? ⟨b, o, none⟩ = some v := fun h => (World.cell?_setCell_far _ ⟨d, _, none⟩ ⟨b, o, none⟩ _ (fun e => hne e.symm)).trans h
 exact st (st (st (st (st (st (st h))))))
end Go.Proofs.YtgjingleolhkbaaGreatDoor

namespace Go.Proofs.YtgjingleolhkbaaGreatDoor
open Go.RowKit Go.Maps Go.Lib
set_option linter.unusedVariables false
set_option linter.unusedSimpArgs false

set_option maxRecDepth 100000 in
set_option maxHeartbeats 16000000 in
theorem ritem_label {w : World} {a : Option Addr} {n c : Nat} {f : X.By} {r : List X.By} (h : StrV w a n c (f :: r)) (hf : f ≠ []) (hn : n ≤ 200000) (hr : r = []) (e58 : f.getLast? = some 58) :
  Calls Tryz.prog 37 #[.slice a n c] w (TakeOut w (X.read (f :: r))) := by
 have HV : Hid _ := h
 have hcount : r.length + 1 = n := by have := h.count; simpa using this
 have HCT : Hid _ := hcount
 have h0n2 : 0 < n := by omega
 have h0n : (0 : Int) < n := by omega
 obtain ⟨b, off, s0, rfl, cw0, hs0, hz0⟩ := h.at (i := 0) (by omega)
 simp only [Nat.add_zero] at cw0
 have hs0' : s0.data.toList = f := hs0
 have hsz : 0 < s0.size := by
  rw [← len_list, hs0']
  exact List.length_pos_iff.2 hf
 obtain ⟨m, hm⟩ : ∃ m, s0.size = m + 1 := ⟨s0.size - 1, by omega⟩
 have hms : m < s0.size := by omega
 have hms' : (m : Int) < s0.size := by omega
 have hml : m ≤ s0.size := by omega
 have hwm : IntKind.i64.wrap ((s0.size : Int) - 1) = (m : Int) := by rw [IntKind.wrap_i64]; omega
 have HLAST : Hid (s0.data.toList.getLast? = some (s0[m]'hms)) := last_eq hm
 have HDROP : Hid _ := drop_last hm
 have HHS : Hid (∀ y : World, Below w.heap.size w y → y.cell? ⟨b, off, none⟩ = some (.string s0)) := fun y hy => cell_thru hy cw0
 have HF : Hid (s0.data.toList = f) := hs0'
 have HBW : Hid (b < w.heap.size) := World.block_lt_of_cell? w ⟨b, off, none⟩ cw0
 have HFN : Hid _ := hf
 have H1 : Hid (r ≠ [] → ∀ y : World, Below w.heap.size w y → ∃ s1 : ByteArray, y.cell? ⟨b, off + 1, none⟩ = some (.string s1) ∧ r[0]? = some s1.data.toList ∧ s1.size ≤ 200000) := fun hr y hy => by
  have hrl := List.length_pos_iff.2 hr
  obtain ⟨b', off', s1, he, cw, hs, hz⟩ := (HV.out.below hy).at (i := 1) (by omega)
  cases he
  refine ⟨s1, cw, ?_, hz⟩
  rw [hs]
  simp [List.getD, hrl]
 have HT0 : Hid (Tx w ((w.alloc (.cells #[.int .i64 0, .string { data := #[] }, .int .i64 0, .int .i64 0, .int .i64 0, .int .i64 0, .slice none 0 0] 44)).alloc (.cells #[.int .i64 0, .string { data := #[] }, .int .i64 0, .int .i64 0, .int .i64 0, .int .i64 0, .slice none 0 0] 44)) X.noIt (.slice none 0 0)) := Tx.new w _
 clear h hf hs0 hs0' hcount hsz hm
 have n1 : n = 1 := by have := HCT.out; rw [hr] at this; simpa using this.symm
 subst hr
 subst n1
 have l58 : s0[m].toNat = 58 := by rw [← HF.out, HLAST.out] at e58; rw [Option.some.inj e58]; rfl
 have q58 : ((s0[m].toNat : Int) == 58) = true := by simp [l58]
 have HL : Hid (X.read [f] = X.keepOk (some ⟨1, f.dropLast, 0, 0, 0, 0, []⟩)) := X.read_label (by rw [← HF.out, HLAST.out]; congr 1; exact UInt8.toNat_inj.1 (by rw [l58]; rfl))
 clear l58
 go_enter Tryz.func37, Tryz.ntmps37
 go_wp2_with fail
 obtain ⟨Y, hY⟩ : ∃ Y, ((w.alloc (.cells #[.int .i64 0, .string { data := #[] }, .int .i64 0, .int .i64 0, .int .i64 0, .int .i64 0, .slice none 0 0] 44)).alloc (.cells #[.int .i64 0, .string { data := #[] }, .int .i64 0, .int .i64 0, .int .i64 0, .int .i64 0, .slice none 0 0] 44)) = Y := ⟨_, rfl⟩
 rw [hY]
 rw [hY] at HT0
 have HYS : Hid (∀ y : World, Below Y.heap.size Y y → y.cell? ⟨b, off, none⟩ = some (.string s0)) := fun y hy => HHS.out y (HT0.out.b.trans (hy.mono HT0.out.b.size))
 clear hY
 refine wp_region_held_drew (S := (fun y : World => y.cell? ⟨b, off, none⟩ = some (.string s0))) (by kernel_rfl) (HYS.out _ (Below.refl _ _).drew) (fun hHeld => ?_)
 refine tj 0 ?_
 simp only [Act.put, zA, zB, zC]
 refine tj 1 ?_
 simp only [Act.put, zA, zB, zC]
 refine tj 2 ?_
 simp only [Act.put, zA, zB, zC]
 refine tj 3 ?_
 simp only [Act.put, zA, zB, zC]
 refine tj 4 ?_
 simp only [Act.put, zA, zB, zC]
 refine tj 5 ?_
 simp only [Act.put, zA, zB, zC]
 refine tj 6 ?_
 simp only [Act.put, zA, zB, zC]
 refine tj 7 ?_
 simp only [Act.put, zA, zB, zC]
 refine tj 8 ?_
 simp only [Act.put, zA, zB, zC]
 refine tj 9 ?_
 simp only [Act.put, zA, zB, zC]
 refine wpAnyH_done (by kernel_rfl) ?_ _
 clear hHeld
 have HTD : Hid (Tx w Y.drew X.noIt (.slice none 0 0)) := HT0.out.below (Below.refl _ _).drew
 obtain ⟨Yd, hYd⟩ : ∃ Yd, Y.drew = Yd := ⟨_, rfl⟩
 rw [hYd] at HTD ⊢
 have HYD : Hid (∀ y : World, Below Yd.heap.size Yd y → y.cell? ⟨b, off, none⟩ = some (.string s0)) := fun y hy => HHS.out y (HTD.out.b.trans (hy.mono HTD.out.b.size))
 clear hYd HYS HT0
 go_wp2_with fail
 obtain ⟨s1, hs1⟩ : ∃ s1, s0.extract 0 m = s1 := ⟨_, rfl⟩
 have HS1 : Hid (s1.data.toList = f.dropLast) := by show _ = _; rw [← hs1, HDROP.out, HF.out]
 have hz1 : s1.size ≤ 200000 := by rw [← len_list, HS1.out, List.length_dropLast, ← HF.out, len_list]; omega
 refine wp_region_held_drew (S := (fun y : World => y.cell? ⟨b, off, none⟩ = some (.string s0))) (by kernel_rfl) (HYD.out _ (Below.refl _ _).drew) (fun hHeld => ?_)
 refine tj 0 ?_
 simp only [Act.put, zA, zB, zC]
 refine tj 1 ?_
 simp only [Act.put, zA, zB, zC]
 refine tj 2 ?_
 simp only [Act.put, zA, zB, zC]
 refine tj 3 ?_
 simp only [Act.put, zA, zB, zC]
 refine tj 4 ?_
 simp only [Act.put, zA, zB, zC]
 refine tj 5 ?_
 simp only [Act.put, zA, zB, zC]
 refine tj 6 ?_
 simp only [Act.put, zA, zB, zC]
 refine tj 7 ?_
 simp only [Act.put, zA, zB, zC]
 refine tj 8 ?_
 simp only [Act.put, zA, zB, zC]
 refine tj 9 ?_
 simp only [Act.put, zA, zB, zC]
 have x0 := HTD.out.x.c 0 _ rfl; have x1 := HTD.out.x.c 1 _ rfl; have x2 := HTD.out.x.c 2 _ rfl; have x3 := HTD.out.x.c 3 _ rfl; have x4 := HTD.out.x.c 4 _ rfl; have x5 := HTD.out.x.c 5 _ rfl; have x6 := HTD.out.x.c 6 _ rfl
 have g0 := HTD.out.x.f 0; have g1 := HTD.out.x.f 1; have g2 := HTD.out.x.f 2; have g3 := HTD.out.x.f 3; have g4 := HTD.out.x.f 4; have g5 := HTD.out.x.f 5; have g6 := HTD.out.x.f 6
 refine tr [10] ?_
 refine AllReadyH.cons (tA rfl) (fun K hK => ?_) AllReadyH.nil
 go_simp
 have H9 : World.cell? (World.drew (((((((Yd.setCell ⟨w.heap.size + 1, 0, none⟩ (.int .i64 1)).setCell ⟨w.heap.size + 1, 1, none⟩ (.string s1)).setCell ⟨w.heap.size + 1, 2, none⟩ (.int .i64 0)).setCell ⟨w.heap.size + 1, 3, none⟩ (.int .i64 0)).setCell ⟨w.heap.size + 1, 4, none⟩ (.int .i64 0)).setCell ⟨w.heap.size + 1, 5, none⟩ (.int .i64 0)).setCell ⟨w.heap.size + 1, 6, none⟩ (.slice none 0 0))) ⟨b, off, none⟩ = some (.string s0) := by rw [World.cell?_drew]; exact cell_thru7 (HYD.out _ (Below.refl _ _)) (by have := HBW.out; omega)
 refine hK.out _ _ H9 (fun hHeld => ?_)
 clear hK K
 try simp only [Act.put, zA, zB, zC]
 refine wpAnyH_done (by kernel_rfl) ?_ _
 clear hHeld
 have HTW0 := (HTD.out.put7 (⟨1, s1.data.toList, 0, 0, 0, 0, []⟩ : X.It) (.slice none 0 0)).below (Below.refl _ _).drew
 simp only [str_eq] at HTW0
 generalize World.drew (((((((Yd.setCell ⟨w.heap.size + 1, 0, none⟩ (.int .i64 1)).setCell ⟨w.heap.size + 1, 1, none⟩ (.string s1)).setCell ⟨w.heap.size + 1, 2, none⟩ (.int .i64 0)).setCell ⟨w.heap.size + 1, 3, none⟩ (.int .i64 0)).setCell ⟨w.heap.size + 1, 4, none⟩ (.int .i64 0)).setCell ⟨w.heap.size + 1, 5, none⟩ (.int .i64 0)).setCell ⟨w.heap.size + 1, 6, none⟩ (.slice none 0 0)) = Y1 at HTW0 ⊢
 clear x0 x1 x2 x3 x4 x5 x6 g0 g1 g2 g3 g4 g5 g6 H9
 have HL2 : Hid (X.read [f] = X.keepOk (some ⟨1, s1.data.toList, 0, 0, 0, 0, []⟩)) := by show _ = _; rw [HS1.out]; exact HL.out
 clear hs1
 go_wp2_with fail
 obtain ⟨t, ht⟩ : ∃ t, (⟨1, s1.data.toList, 0, 0, 0, 0, []⟩ : X.It) = t := ⟨_, rfl⟩
 rw [ht] at HTW0
 have ht2 : t.name.length ≤ 200000 := by rw [← ht]; simp only [len_list]; exact hz1
 have HR3 : Hid (X.read [f] = X.keepOk (some t)) := by show _ = _; rw [← ht]; exact HL2.out
 obtain ⟨aw, lw, cw, hsl⟩ : ∃ (aw : Option Addr) (lw cw : Nat), aw = none ∧ lw = 0 ∧ cw = 0 := ⟨_, _, _, rfl, rfl, rfl⟩
 have hlw : t.words.length = lw := by rw [← ht, hsl.2.1]; rfl
 have HOWN : Hid (Y1.ownsRow (w.heap.size + 2) 2 1 (.slice aw lw cw) lw (iC t.words)) := by
  show World.ownsRow _ _ _ _ _ _ _
  rw [← ht, hsl.1, hsl.2.1, hsl.2.2]
  exact own_none _ _ _
 have HTW : Hid (Tx w Y1 t (.slice aw lw cw)) := by show Tx _ _ _ _; rw [hsl.1, hsl.2.1, hsl.2.2]; exact HTW0
 clear HTW0 ht hsl
 have hmay := fun w => rmay_any t.kind (X.str t.name) t.op t.a t.b t.n aw lw cw t.words hlw (by rw [str_size]; unfold maxLen; omega) w
 simp only [str_list] at hmay
 have HIT : Hid ((⟨t.kind, t.name, t.op, t.a, t.b, t.n, t.words⟩ : X.It) = t) := rfl
 rw [HIT.out] at hmay
 obtain ⟨zt, hzt⟩ : ∃ z, X.itOk t = z := ⟨_, rfl⟩
 rw [hzt] at hmay
 have HZT : Hid _ := keepOk_some hzt
 have HT2 : Hid _ := ht2
 clear hzt ht2
 have HSX : Hid (∀ y : World, Below Y1.heap.size Y1 y → (fun y : World => y.cell? ⟨w.heap.size + 1, 0, none⟩ = some (.int .i64 t.kind) ∧ y.cell? ⟨w.heap.size + 1, 1, none⟩ = some (.string (X.str t.name)) ∧ y.cell? ⟨w.heap.size + 1, 2, none⟩ = some (.int .i64 t.op) ∧ y.cell? ⟨w.heap.size + 1, 3, none⟩ = some (.int .i64 t.a) ∧ y.cell? ⟨w.heap.size + 1, 4, none⟩ = some (.int .i64 t.b) ∧ y.cell? ⟨w.heap.size + 1, 5, none⟩ = some (.int .i64 t.n) ∧ y.cell? ⟨w.heap.size + 1, 6, none⟩ = some (.slice aw lw cw)) y) := fun y hy => ⟨cell_thru hy (HTW.out.x.c 0 _ rfl), cell_thru hy (HTW.out.x.c 1 _ rfl), cell_thru hy (HTW.out.x.c 2 _ rfl), cell_thru hy (HTW.out.x.c 3 _ rfl), cell_thru hy (HTW.out.x.c 4 _ rfl), cell_thru hy (HTW.out.x.c 5 _ rfl), cell_thru hy (HTW.out.x.c 6 _ rfl)⟩
 refine wp_region_held_drew (S := (fun y : World => y.cell? ⟨w.heap.size + 1, 0, none⟩ = some (.int .i64 t.kind) ∧ y.cell? ⟨w.heap.size + 1, 1, none⟩ = some (.string (X.str t.name)) ∧ y.cell? ⟨w.heap.size + 1, 2, none⟩ = some (.int .i64 t.op) ∧ y.cell? ⟨w.heap.size + 1, 3, none⟩ = some (.int .i64 t.a) ∧ y.cell? ⟨w.heap.size + 1, 4, none⟩ = some (.int .i64 t.b) ∧ y.cell? ⟨w.heap.size + 1, 5, none⟩ = some (.int .i64 t.n) ∧ y.cell? ⟨w.heap.size + 1, 6, none⟩ = some (.slice aw lw cw))) (by kernel_rfl) (HSX.out _ (Below.refl _ _).drew) (fun hHeld => ?_)
 refine tj 0 ?_
 simp only [Act.put, zA, zB, zC]
 refine tj 1 ?_
 simp only [Act.put, zA, zB, zC]
 refine tr [2] ?_
 refine AllReadyH.cons (tA rfl) (fun K hK => ?_) AllReadyH.nil
 go_simp
 refine (hmay _).mono ?_
 rintro e y7 ⟨he, hb7⟩
 rw [he]
 have HB7 : Hid (Below Y1.heap.size Y1 y7) := (Below.refl _ _).drew.trans hb7
 have HRES : Hid (Bx y7 w.heap.size [.int .i64 0, .string { data := #[] }, .int .i64 0, .int .i64 0, .int .i64 0, .int .i64 0, .slice none 0 0]) := HTW.out.r.below HB7.out
 have c0 := HRES.out.c 0 _ rfl; have c1 := HRES.out.c 1 _ rfl; have c2 := HRES.out.c 2 _ rfl; have c3 := HRES.out.c 3 _ rfl; have c4 := HRES.out.c 4 _ rfl; have c5 := HRES.out.c 5 _ rfl; have c6 := HRES.out.c 6 _ rfl
 have f0 := HRES.out.f 0; have f1 := HRES.out.f 1; have f2 := HRES.out.f 2; have f3 := HRES.out.f 3; have f4 := HRES.out.f 4; have f5 := HRES.out.f 5; have f6 := HRES.out.f 6
 clear hb7 he e
 refine hK.out _ _ (HSX.out _ HB7.out) (fun hHeld => ?_)
 clear hK K
 try simp only [Act.put, zA, zB, zC]
 refine tr [3] ?_
 refine AllReadyH.cons (tA rfl) (fun K hK => ?_) AllReadyH.nil
 go_simp
 have HX7 : Bx (((((((y7.setCell ⟨w.heap.size, 0, none⟩ (.int .i64 t.kind)).setCell ⟨w.heap.size, 1, none⟩ (.string (X.str t.name))).setCell ⟨w.heap.size, 2, none⟩ (.int .i64 t.op)).setCell ⟨w.heap.size, 3, none⟩ (.int .i64 t.a)).setCell ⟨w.heap.size, 4, none⟩ (.int .i64 t.b)).setCell ⟨w.heap.size, 5, none⟩ (.int .i64 t.n)).setCell ⟨w.heap.size, 6, none⟩ (.slice aw lw cw)) (w.heap.size + 1) (itC t (.slice aw lw cw)) := Bx.far7 (HTW.out.x.below HB7.out) (Nat.succ_ne_self _)
 refine hK.out _ _ ⟨HX7.c 0 _ rfl, HX7.c 1 _ rfl, HX7.c 2 _ rfl, HX7.c 3 _ rfl, HX7.c 4 _ rfl, HX7.c 5 _ rfl, HX7.c 6 _ rfl⟩ (fun hHeld => ?_)
 clear hK K
 try simp only [Act.put, zA, zB, zC]
 refine tj 4 ?_
 simp only [Act.put, zA, zB, zC]
 refine wpAnyH_done (by kernel_rfl) ?_ _
 clear hHeld
 have HF := Bx.put7 HRES.out rfl (.int .i64 t.kind) (.string (X.str t.name)) (.int .i64 t.op) (.int .i64 t.a) (.int .i64 t.b) (.int .i64 t.n) (.slice aw lw cw)
 have HE : Below w.heap.size w (((((((y7.setCell ⟨w.heap.size, 0, none⟩ (.int .i64 t.kind)).setCell ⟨w.heap.size, 1, none⟩ (.string (X.str t.name))).setCell ⟨w.heap.size, 2, none⟩ (.int .i64 t.op)).setCell ⟨w.heap.size, 3, none⟩ (.int .i64 t.a)).setCell ⟨w.heap.size, 4, none⟩ (.int .i64 t.b)).setCell ⟨w.heap.size, 5, none⟩ (.int .i64 t.n)).setCell ⟨w.heap.size, 6, none⟩ (.slice aw lw cw)) := below_put7 (HTW.out.b.trans (HB7.out.mono HTW.out.b.size)) (Nat.le_refl _)
 have HO9 : World.ownsRow (((((((y7.setCell ⟨w.heap.size, 0, none⟩ (.int .i64 t.kind)).setCell ⟨w.heap.size, 1, none⟩ (.string (X.str t.name))).setCell ⟨w.heap.size, 2, none⟩ (.int .i64 t.op)).setCell ⟨w.heap.size, 3, none⟩ (.int .i64 t.a)).setCell ⟨w.heap.size, 4, none⟩ (.int .i64 t.b)).setCell ⟨w.heap.size, 5, none⟩ (.int .i64 t.n)).setCell ⟨w.heap.size, 6, none⟩ (.slice aw lw cw)) (w.heap.size + 2) 2 1 (.slice aw lw cw) lw (iC t.words) := put7_own (own_thru HOWN.out HB7.out) (by omega)
 clear c0 c1 c2 c3 c4 c5 c6 f0 f1 f2 f3 f4 f5 f6 HX7
 generalize (((((((y7.setCell ⟨w.heap.size, 0, none⟩ (.int .i64 t.kind)).setCell ⟨w.heap.size, 1, none⟩ (.string (X.str t.name))).setCell ⟨w.heap.size, 2, none⟩ (.int .i64 t.op)).setCell ⟨w.heap.size, 3, none⟩ (.int .i64 t.a)).setCell ⟨w.heap.size, 4, none⟩ (.int .i64 t.b)).setCell ⟨w.heap.size, 5, none⟩ (.int .i64 t.n)).setCell ⟨w.heap.size, 6, none⟩ (.slice aw lw cw)) = Wf at HF HE HO9 ⊢
 have k0 := HF.c 0 _ rfl; have k1 := HF.c 1 _ rfl; have k2 := HF.c 2 _ rfl; have k3 := HF.c 3 _ rfl; have k4 := HF.c 4 _ rfl; have k5 := HF.c 5 _ rfl; have k6 := HF.c 6 _ rfl
 have HE' : Hid _ := HE
 have HO9' : Hid _ := HO9
 clear HF HE HO9
 go_wp2_with fail
 refine bodyPost_ret (v := .tuple #[.agg #[.int .i64 t.kind, .string (X.str t.name), .int .i64 t.op, .int .i64 t.a, .int .i64 t.b, .int .i64 t.n, .slice aw lw cw], .bool zt]) (by simp [results, Tryz.results37, go_sem, k0, k1, k2, k3, k4, k5, k6]) rfl ?_
 exact ⟨t, aw, lw, cw, zt, rfl, fun e => by rw [HR3.out, HZT.out, if_pos e], fun e => by rw [HR3.out, HZT.out, if_neg (by rw [e]; simp)], HT2.out, own_mono HO9'.out (by omega), HE'.out⟩
end Go.Proofs.YtgjingleolhkbaaGreatDoor

namespace Go.Proofs.YtgjingleolhkbaaGreatDoor
open Go.RowKit Go.Maps Go.Lib
set_option linter.unusedVariables false
set_option linter.unusedSimpArgs false

set_option maxRecDepth 100000 in
set_option maxHeartbeats 16000000 in
theorem ritem_e1 {w : World} {a : Option Addr} {n c : Nat} {f : X.By} {r : List X.By} (h : StrV w a n c (f :: r)) (hf : f ≠ []) (hn : n ≤ 200000) (hr : r = []) (e58 : f.getLast? ≠ some 58) :
  Calls Tryz.prog 37 #[.slice a n c] w (TakeOut w (X.read (f :: r))) := by
 have HV : Hid _ := h
 have hcount : r.length + 1 = n := by have := h.count; simpa using this
 have HCT : Hid _ := hcount
 have h0n2 : 0 < n := by omega
 have h0n : (0 : Int) < n := by omega
 obtain ⟨b, off, s0, rfl, cw0, hs0, hz0⟩ := h.at (i := 0) (by omega)
 simp only [Nat.add_zero] at cw0
 have hs0' : s0.data.toList = f := hs0
 have hsz : 0 < s0.size := by
  rw [← len_list, hs0']
  exact List.length_pos_iff.2 hf
 obtain ⟨m, hm⟩ : ∃ m, s0.size = m + 1 := ⟨s0.size - 1, by omega⟩
 have hms : m < s0.size := by omega
 have hms' : (m : Int) < s0.size := by omega
 have hml : m ≤ s0.size := by omega
 have hwm : IntKind.i64.wrap ((s0.size : Int) - 1) = (m : Int) := by rw [IntKind.wrap_i64]; omega
 have HLAST : Hid (s0.data.toList.getLast? = some (s0[m]'hms)) := last_eq hm
 have HDROP : Hid _ := drop_last hm
 have HHS : Hid (∀ y : World, Below w.heap.size w y → y.cell? ⟨b, off, none⟩ = some (.string s0)) := fun y hy => cell_thru hy cw0
 have HF : Hid (s0.data.toList = f) := hs0'
 have HBW : Hid (b < w.heap.size) := World.block_lt_of_cell? w ⟨b, off, none⟩ cw0
 have HFN : Hid _ := hf
 have H1 : Hid (r ≠ [] → ∀ y : World, Below w.heap.size w y → ∃ s1 : ByteArray, y.cell? ⟨b, off + 1, none⟩ = some (.string s1) ∧ r[0]? = some s1.data.toList ∧ s1.size ≤ 200000) := fun hr y hy => by
  have hrl := List.length_pos_iff.2 hr
  obtain ⟨b', off', s1, he, cw, hs, hz⟩ := (HV.out.below hy).at (i := 1) (by omega)
  cases he
  refine ⟨s1, cw, ?_, hz⟩
  rw [hs]
  simp [List.getD, hrl]
 have HT0 : Hid (Tx w ((w.alloc (.cells #[.int .i64 0, .string { data := #[] }, .int .i64 0, .int .i64 0, .int .i64 0, .int .i64 0, .slice none 0 0] 44)).alloc (.cells #[.int .i64 0, .string { data := #[] }, .int .i64 0, .int .i64 0, .int .i64 0, .int .i64 0, .slice none 0 0] 44)) X.noIt (.slice none 0 0)) := Tx.new w _
 clear h hf hs0 hs0' hcount hsz hm
 have n1 : n = 1 := by have := HCT.out; rw [hr] at this; simpa using this.symm
 subst hr
 subst n1
 have l58 : ¬ s0[m].toNat = 58 := fun e => e58 (by rw [← HF.out, HLAST.out]; congr 1; exact UInt8.toNat_inj.1 (by rw [e]; rfl))
 have q58 : ((s0[m].toNat : Int) == 58) = false := by simp; omega
 have HL : Hid (X.read [f] = X.insD? f []) := X.read_other (fun e => l58 (by have := e.1; rw [← HF.out, HLAST.out] at this; rw [Option.some.inj this]; rfl)) (fun e => by simp at e) (fun e => by simp at e) (fun e => by simp at e)
 clear l58
 go_enter Tryz.func37, Tryz.ntmps37
 go_wp2_with fail
 obtain ⟨Y, hY⟩ : ∃ Y, ((w.alloc (.cells #[.int .i64 0, .string { data := #[] }, .int .i64 0, .int .i64 0, .int .i64 0, .int .i64 0, .slice none 0 0] 44)).alloc (.cells #[.int .i64 0, .string { data := #[] }, .int .i64 0, .int .i64 0, .int .i64 0, .int .i64 0, .slice none 0 0] 44)) = Y := ⟨_, rfl⟩
 rw [hY]
 rw [hY] at HT0
 have HYS : Hid (∀ y : World, Below Y.heap.size Y y → y.cell? ⟨b, off, none⟩ = some (.string s0)) := fun y hy => HHS.out y (HT0.out.b.trans (hy.mono HT0.out.b.size))
 clear hY
 refine wp_region_held_drew (S := (fun y : World => y.cell? ⟨b, off, none⟩ = some (.string s0))) (by kernel_rfl) (HYS.out _ (Below.refl _ _).drew) (fun hHeld => ?_)
 refine tj 0 ?_
 simp only [Act.put, zA, zB, zC]
 refine tj 1 ?_
 simp only [Act.put, zA, zB, zC]
 refine tj 2 ?_
 simp only [Act.put, zA, zB, zC]
 refine tj 3 ?_
 simp only [Act.put, zA, zB, zC]
 refine tj 4 ?_
 simp only [Act.put, zA, zB, zC]
 refine tj 5 ?_
 simp only [Act.put, zA, zB, zC]
 refine tj 6 ?_
 simp only [Act.put, zA, zB, zC]
 refine tj 7 ?_
 simp only [Act.put, zA, zB, zC]
 refine tj 8 ?_
 simp only [Act.put, zA, zB, zC]
 refine tj 9 ?_
 simp only [Act.put, zA, zB, zC]
 refine wpAnyH_done (by kernel_rfl) ?_ _
 clear hHeld
 have HTD : Hid (Tx w Y.drew X.noIt (.slice none 0 0)) := HT0.out.below (Below.refl _ _).drew
 obtain ⟨Yd, hYd⟩ : ∃ Yd, Y.drew = Yd := ⟨_, rfl⟩
 rw [hYd] at HTD ⊢
 have HYD : Hid (∀ y : World, Below Yd.heap.size Yd y → y.cell? ⟨b, off, none⟩ = some (.string s0)) := fun y hy => HHS.out y (HTD.out.b.trans (hy.mono HTD.out.b.size))
 clear hYd HYS HT0
 have hcall := rinstruction_any (HV.out.below HTD.out.b) HFN.out
 rw [← HL.out] at hcall
 have c0 := HTD.out.r.c 0 _ rfl; have c1 := HTD.out.r.c 1 _ rfl; have c2 := HTD.out.r.c 2 _ rfl; have c3 := HTD.out.r.c 3 _ rfl; have c4 := HTD.out.r.c 4 _ rfl; have c5 := HTD.out.r.c 5 _ rfl; have c6 := HTD.out.r.c 6 _ rfl
 have f0 := HTD.out.r.f 0; have f1 := HTD.out.r.f 1; have f2 := HTD.out.r.f 2; have f3 := HTD.out.r.f 3; have f4 := HTD.out.r.f 4; have f5 := HTD.out.r.f 5; have f6 := HTD.out.r.f 6
 go_wp2_with fail
 refine hcall.mono ?_
 rintro e y7 ⟨t, aw, lw, cw, ok, he, h1, h2, h3, h4, h5⟩
 rw [he]
 have HB7 : Hid (Below Yd.heap.size Yd y7) := h5
 have HRES : Hid (Bx y7 w.heap.size [.int .i64 0, .string { data := #[] }, .int .i64 0, .int .i64 0, .int .i64 0, .int .i64 0, .slice none 0 0]) := HTD.out.r.below h5
 have H12 : Hid _ := And.intro h1 h2
 have H3 : Hid _ := h3
 have HOWN : Hid (y7.ownsRow (w.heap.size + 1) 2 1 (.slice aw lw cw) lw (iC t.words)) := own_mono h4 (by have := HTD.out.r.lt; omega)
 clear h1 h2 h3 h4 h5 he e hcall c0 c1 c2 c3 c4 c5 c6 f0 f1 f2 f3 f4 f5 f6
 have c0 := HRES.out.c 0 _ rfl; have c1 := HRES.out.c 1 _ rfl; have c2 := HRES.out.c 2 _ rfl; have c3 := HRES.out.c 3 _ rfl; have c4 := HRES.out.c 4 _ rfl; have c5 := HRES.out.c 5 _ rfl; have c6 := HRES.out.c 6 _ rfl
 have f0 := HRES.out.f 0; have f1 := HRES.out.f 1; have f2 := HRES.out.f 2; have f3 := HRES.out.f 3; have f4 := HRES.out.f 4; have f5 := HRES.out.f 5; have f6 := HRES.out.f 6
 go_wp2_with fail
 have HF := Bx.put7 HRES.out rfl (.int .i64 t.kind) (.string (X.str t.name)) (.int .i64 t.op) (.int .i64 t.a) (.int .i64 t.b) (.int .i64 t.n) (.slice aw lw cw)
 have HE : Below w.heap.size w (((((((y7.setCell ⟨w.heap.size, 0, none⟩ (.int .i64 t.kind)).setCell ⟨w.heap.size, 1, none⟩ (.string (X.str t.name))).setCell ⟨w.heap.size, 2, none⟩ (.int .i64 t.op)).setCell ⟨w.heap.size, 3, none⟩ (.int .i64 t.a)).setCell ⟨w.heap.size, 4, none⟩ (.int .i64 t.b)).setCell ⟨w.heap.size, 5, none⟩ (.int .i64 t.n)).setCell ⟨w.heap.size, 6, none⟩ (.slice aw lw cw)) := below_put7 (HTD.out.b.trans (HB7.out.mono HTD.out.b.size)) (Nat.le_refl _)
 have HO9 : World.ownsRow (((((((y7.setCell ⟨w.heap.size, 0, none⟩ (.int .i64 t.kind)).setCell ⟨w.heap.size, 1, none⟩ (.string (X.str t.name))).setCell ⟨w.heap.size, 2, none⟩ (.int .i64 t.op)).setCell ⟨w.heap.size, 3, none⟩ (.int .i64 t.a)).setCell ⟨w.heap.size, 4, none⟩ (.int .i64 t.b)).setCell ⟨w.heap.size, 5, none⟩ (.int .i64 t.n)).setCell ⟨w.heap.size, 6, none⟩ (.slice aw lw cw)) (w.heap.size + 1) 2 1 (.slice aw lw cw) lw (iC t.words) := put7_own HOWN.out (by omega)
 generalize (((((((y7.setCell ⟨w.heap.size, 0, none⟩ (.int .i64 t.kind)).setCell ⟨w.heap.size, 1, none⟩ (.string (X.str t.name))).setCell ⟨w.heap.size, 2, none⟩ (.int .i64 t.op)).setCell ⟨w.heap.size, 3, none⟩ (.int .i64 t.a)).setCell ⟨w.heap.size, 4, none⟩ (.int .i64 t.b)).setCell ⟨w.heap.size, 5, none⟩ (.int .i64 t.n)).setCell ⟨w.heap.size, 6, none⟩ (.slice aw lw cw)) = Wf at HF HE HO9 ⊢
 have k0 := HF.c 0 _ rfl; have k1 := HF.c 1 _ rfl; have k2 := HF.c 2 _ rfl; have k3 := HF.c 3 _ rfl; have k4 := HF.c 4 _ rfl; have k5 := HF.c 5 _ rfl; have k6 := HF.c 6 _ rfl
 refine bodyPost_ret (v := .tuple #[.agg #[.int .i64 t.kind, .string (X.str t.name), .int .i64 t.op, .int .i64 t.a, .int .i64 t.b, .int .i64 t.n, .slice aw lw cw], .bool ok]) (by simp [results, Tryz.results37, go_sem, k0, k1, k2, k3, k4, k5, k6]) rfl ?_
 exact ⟨t, aw, lw, cw, ok, rfl, H12.out.1, H12.out.2, H3.out, own_mono HO9 (by omega), HE⟩
end Go.Proofs.YtgjingleolhkbaaGreatDoor

namespace Go.Proofs.YtgjingleolhkbaaGreatDoor
open Go.RowKit Go.Maps Go.Lib
set_option linter.unusedVariables false
set_option linter.unusedSimpArgs false

set_option maxRecDepth 100000 in
set_option maxHeartbeats 16000000 in
theorem ritem_glob {w : World} {a : Option Addr} {n c : Nat} {f : X.By} {r : List X.By} (h : StrV w a n c (f :: r)) (hf : f ≠ []) (hn : n ≤ 200000) (hr : r.length = 1) (eG : f = X.wGlobal) :
  Calls Tryz.prog 37 #[.slice a n c] w (TakeOut w (X.read (f :: r))) := by
 have HV : Hid _ := h
 have hcount : r.length + 1 = n := by have := h.count; simpa using this
 have HCT : Hid _ := hcount
 have h0n2 : 0 < n := by omega
 have h0n : (0 : Int) < n := by omega
 obtain ⟨b, off, s0, rfl, cw0, hs0, hz0⟩ := h.at (i := 0) (by omega)
 simp only [Nat.add_zero] at cw0
 have hs0' : s0.data.toList = f := hs0
 have hsz : 0 < s0.size := by
  rw [← len_list, hs0']
  exact List.length_pos_iff.2 hf
 obtain ⟨m, hm⟩ : ∃ m, s0.size = m + 1 := ⟨s0.size - 1, by omega⟩
 have hms : m < s0.size := by omega
 have hms' : (m : Int) < s0.size := by omega
 have hml : m ≤ s0.size := by omega
 have hwm : IntKind.i64.wrap ((s0.size : Int) - 1) = (m : Int) := by rw [IntKind.wrap_i64]; omega
 have HLAST : Hid (s0.data.toList.getLast? = some (s0[m]'hms)) := last_eq hm
 have HDROP : Hid _ := drop_last hm
 have HHS : Hid (∀ y : World, Below w.heap.size w y → y.cell? ⟨b, off, none⟩ = some (.string s0)) := fun y hy => cell_thru hy cw0
 have HF : Hid (s0.data.toList = f) := hs0'
 have HBW : Hid (b < w.heap.size) := World.block_lt_of_cell? w ⟨b, off, none⟩ cw0
 have HFN : Hid _ := hf
 have H1 : Hid (r ≠ [] → ∀ y : World, Below w.heap.size w y → ∃ s1 : ByteArray, y.cell? ⟨b, off + 1, none⟩ = some (.string s1) ∧ r[0]? = some s1.data.toList ∧ s1.size ≤ 200000) := fun hr y hy => by
  have hrl := List.length_pos_iff.2 hr
  obtain ⟨b', off', s1, he, cw, hs, hz⟩ := (HV.out.below hy).at (i := 1) (by omega)
  cases he
  refine ⟨s1, cw, ?_, hz⟩
  rw [hs]
  simp [List.getD, hrl]
 have HT0 : Hid (Tx w ((w.alloc (.cells #[.int .i64 0, .string { data := #[] }, .int .i64 0, .int .i64 0, .int .i64 0, .int .i64 0, .slice none 0 0] 44)).alloc (.cells #[.int .i64 0, .string { data := #[] }, .int .i64 0, .int .i64 0, .int .i64 0, .int .i64 0, .slice none 0 0] 44)) X.noIt (.slice none 0 0)) := Tx.new w _
 clear h hf hs0 hs0' hcount hsz hm
 have hr0 : r ≠ [] := fun e => by rw [e] at hr; simp at hr
 have n2 : n = 2 := by have := HCT.out; omega
 obtain ⟨x1, rfl⟩ : ∃ x1, r = [x1] := by
  match r, hr with
  | [x], _ => exact ⟨x, rfl⟩
 subst n2
 have h12 : 1 < 2 := by omega
 have qn1 : ((2 : Int) == 1) = false := rfl
 have qG : (s0.toList == [46, 103, 108, 111, 98, 97, 108]) = true := by rw [ByteArray.toList_eq]; exact beq_iff_eq.2 (HF.out.trans eG)
 go_enter Tryz.func37, Tryz.ntmps37
 go_wp2_with fail
 obtain ⟨Y, hY⟩ : ∃ Y, ((w.alloc (.cells #[.int .i64 0, .string { data := #[] }, .int .i64 0, .int .i64 0, .int .i64 0, .int .i64 0, .slice none 0 0] 44)).alloc (.cells #[.int .i64 0, .string { data := #[] }, .int .i64 0, .int .i64 0, .int .i64 0, .int .i64 0, .slice none 0 0] 44)) = Y := ⟨_, rfl⟩
 rw [hY]
 rw [hY] at HT0
 have HYS : Hid (∀ y : World, Below Y.heap.size Y y → y.cell? ⟨b, off, none⟩ = some (.string s0)) := fun y hy => HHS.out y (HT0.out.b.trans (hy.mono HT0.out.b.size))
 clear hY
 refine wp_region_held_drew (S := (fun y : World => y.cell? ⟨b, off, none⟩ = some (.string s0))) (by kernel_rfl) (HYS.out _ (Below.refl _ _).drew) (fun hHeld => ?_)
 refine tj 0 ?_
 simp only [Act.put, zA, zB, zC]
 refine tj 1 ?_
 simp only [Act.put, zA, zB, zC]
 refine tj 2 ?_
 simp only [Act.put, zA, zB, zC]
 refine tj 3 ?_
 simp only [Act.put, zA, zB, zC]
 refine tj 4 ?_
 simp only [Act.put, zA, zB, zC]
 refine tj 5 ?_
 simp only [Act.put, zA, zB, zC]
 refine tj 6 ?_
 simp only [Act.put, zA, zB, zC]
 refine tj 7 ?_
 simp only [Act.put, zA, zB, zC]
 refine tj 8 ?_
 simp only [Act.put, zA, zB, zC]
 refine tj 9 ?_
 simp only [Act.put, zA, zB, zC]
 refine wpAnyH_done (by kernel_rfl) ?_ _
 clear hHeld
 have HTD : Hid (Tx w Y.drew X.noIt (.slice none 0 0)) := HT0.out.below (Below.refl _ _).drew
 obtain ⟨Yd, hYd⟩ : ∃ Yd, Y.drew = Yd := ⟨_, rfl⟩
 rw [hYd] at HTD ⊢
 have HYD : Hid (∀ y : World, Below Yd.heap.size Yd y → y.cell? ⟨b, off, none⟩ = some (.string s0)) := fun y hy => HHS.out y (HTD.out.b.trans (hy.mono HTD.out.b.size))
 clear hYd HYS HT0
 obtain ⟨s1, cw1, hx1, hz1⟩ := H1.out hr0 Yd HTD.out.b
 have cwY := HYD.out _ (Below.refl _ _)
 have HL : Hid (X.read [f, x1] = X.keepOk (some ⟨4, s1.data.toList, 0, 0, 0, 0, []⟩)) := by show _ = _; rw [eG]; simp at hx1; rw [← hx1]; exact X.read_global
 clear hx1 eG
 have x0 := HTD.out.x.c 0 _ rfl; have x1 := HTD.out.x.c 1 _ rfl; have x2 := HTD.out.x.c 2 _ rfl; have x3 := HTD.out.x.c 3 _ rfl; have x4 := HTD.out.x.c 4 _ rfl; have x5 := HTD.out.x.c 5 _ rfl; have x6 := HTD.out.x.c 6 _ rfl
 have g0 := HTD.out.x.f 0; have g1 := HTD.out.x.f 1; have g2 := HTD.out.x.f 2; have g3 := HTD.out.x.f 3; have g4 := HTD.out.x.f 4; have g5 := HTD.out.x.f 5; have g6 := HTD.out.x.f 6
 go_wp2_with fail
 have HTW0 := HTD.out.put7 (⟨4, s1.data.toList, 0, 0, 0, 0, []⟩ : X.It) (.slice none 0 0)
 simp only [str_eq] at HTW0
 generalize (((((((Yd.setCell ⟨w.heap.size + 1, 0, none⟩ (.int .i64 4)).setCell ⟨w.heap.size + 1, 1, none⟩ (.string s1)).setCell ⟨w.heap.size + 1, 2, none⟩ (.int .i64 0)).setCell ⟨w.heap.size + 1, 3, none⟩ (.int .i64 0)).setCell ⟨w.heap.size + 1, 4, none⟩ (.int .i64 0)).setCell ⟨w.heap.size + 1, 5, none⟩ (.int .i64 0)).setCell ⟨w.heap.size + 1, 6, none⟩ (.slice none 0 0)) = Y1 at HTW0 ⊢
 clear x0 x1 x2 x3 x4 x5 x6 g0 g1 g2 g3 g4 g5 g6
 obtain ⟨t, ht⟩ : ∃ t, (⟨4, s1.data.toList, 0, 0, 0, 0, []⟩ : X.It) = t := ⟨_, rfl⟩
 rw [ht] at HTW0
 have ht2 : t.name.length ≤ 200000 := by rw [← ht]; simp only [len_list]; exact hz1
 have HR3 : Hid (X.read [f, x1] = X.keepOk (some t)) := by show _ = _; rw [← ht]; exact HL.out
 obtain ⟨aw, lw, cw, hsl⟩ : ∃ (aw : Option Addr) (lw cw : Nat), aw = none ∧ lw = 0 ∧ cw = 0 := ⟨_, _, _, rfl, rfl, rfl⟩
 have hlw : t.words.length = lw := by rw [← ht, hsl.2.1]; rfl
 have HOWN : Hid (Y1.ownsRow (w.heap.size + 2) 2 1 (.slice aw lw cw) lw (iC t.words)) := by
  show World.ownsRow _ _ _ _ _ _ _
  rw [← ht, hsl.1, hsl.2.1, hsl.2.2]
  exact own_none _ _ _
 have HTW : Hid (Tx w Y1 t (.slice aw lw cw)) := by show Tx _ _ _ _; rw [hsl.1, hsl.2.1, hsl.2.2]; exact HTW0
 clear HTW0 ht hsl
 have hmay := fun w => rmay_any t.kind (X.str t.name) t.op t.a t.b t.n aw lw cw t.words hlw (by rw [str_size]; unfold maxLen; omega) w
 simp only [str_list] at hmay
 have HIT : Hid ((⟨t.kind, t.name, t.op, t.a, t.b, t.n, t.words⟩ : X.It) = t) := rfl
 rw [HIT.out] at hmay
 obtain ⟨zt, hzt⟩ : ∃ z, X.itOk t = z := ⟨_, rfl⟩
 rw [hzt] at hmay
 have HZT : Hid _ := keepOk_some hzt
 have HT2 : Hid _ := ht2
 clear hzt ht2
 have HSX : Hid (∀ y : World, Below Y1.heap.size Y1 y → (fun y : World => y.cell? ⟨w.heap.size + 1, 0, none⟩ = some (.int .i64 t.kind) ∧ y.cell? ⟨w.heap.size + 1, 1, none⟩ = some (.string (X.str t.name)) ∧ y.cell? ⟨w.heap.size + 1, 2, none⟩ = some (.int .i64 t.op) ∧ y.cell? ⟨w.heap.size + 1, 3, none⟩ = some (.int .i64 t.a) ∧ y.cell? ⟨w.heap.size + 1, 4, none⟩ = some (.int .i64 t.b) ∧ y.cell? ⟨w.heap.size + 1, 5, none⟩ = some (.int .i64 t.n) ∧ y.cell? ⟨w.heap.size + 1, 6, none⟩ = some (.slice aw lw cw)) y) := fun y hy => ⟨cell_thru hy (HTW.out.x.c 0 _ rfl), cell_thru hy (HTW.out.x.c 1 _ rfl), cell_thru hy (HTW.out.x.c 2 _ rfl), cell_thru hy (HTW.out.x.c 3 _ rfl), cell_thru hy (HTW.out.x.c 4 _ rfl), cell_thru hy (HTW.out.x.c 5 _ rfl), cell_thru hy (HTW.out.x.c 6 _ rfl)⟩
 refine wp_region_held_drew (S := (fun y : World => y.cell? ⟨w.heap.size + 1, 0, none⟩ = some (.int .i64 t.kind) ∧ y.cell? ⟨w.heap.size + 1, 1, none⟩ = some (.string (X.str t.name)) ∧ y.cell? ⟨w.heap.size + 1, 2, none⟩ = some (.int .i64 t.op) ∧ y.cell? ⟨w.heap.size + 1, 3, none⟩ = some (.int .i64 t.a) ∧ y.cell? ⟨w.heap.size + 1, 4, none⟩ = some (.int .i64 t.b) ∧ y.cell? ⟨w.heap.size + 1, 5, none⟩ = some (.int .i64 t.n) ∧ y.cell? ⟨w.heap.size + 1, 6, none⟩ = some (.slice aw lw cw))) (by kernel_rfl) (HSX.out _ (Below.refl _ _).drew) (fun hHeld => ?_)
 refine tj 0 ?_
 simp only [Act.put, zA, zB, zC]
 refine tj 1 ?_
 simp only [Act.put, zA, zB, zC]
 refine tr [2] ?_
 refine AllReadyH.cons (tA rfl) (fun K hK => ?_) AllReadyH.nil
 go_simp
 refine (hmay _).mono ?_
 rintro e y7 ⟨he, hb7⟩
 rw [he]
 have HB7 : Hid (Below Y1.heap.size Y1 y7) := (Below.refl _ _).drew.trans hb7
 have HRES : Hid (Bx y7 w.heap.size [.int .i64 0, .string { data := #[] }, .int .i64 0, .int .i64 0, .int .i64 0, .int .i64 0, .slice none 0 0]) := HTW.out.r.below HB7.out
 have c0 := HRES.out.c 0 _ rfl; have c1 := HRES.out.c 1 _ rfl; have c2 := HRES.out.c 2 _ rfl; have c3 := HRES.out.c 3 _ rfl; have c4 := HRES.out.c 4 _ rfl; have c5 := HRES.out.c 5 _ rfl; have c6 := HRES.out.c 6 _ rfl
 have f0 := HRES.out.f 0; have f1 := HRES.out.f 1; have f2 := HRES.out.f 2; have f3 := HRES.out.f 3; have f4 := HRES.out.f 4; have f5 := HRES.out.f 5; have f6 := HRES.out.f 6
 clear hb7 he e
 refine hK.out _ _ (HSX.out _ HB7.out) (fun hHeld => ?_)
 clear hK K
 try simp only [Act.put, zA, zB, zC]
 refine tr [3] ?_
 refine AllReadyH.cons (tA rfl) (fun K hK => ?_) AllReadyH.nil
 go_simp
 have HX7 : Bx (((((((y7.setCell ⟨w.heap.size, 0, none⟩ (.int .i64 t.kind)).setCell ⟨w.heap.size, 1, none⟩ (.string (X.str t.name))).setCell ⟨w.heap.size, 2, none⟩ (.int .i64 t.op)).setCell ⟨w.heap.size, 3, none⟩ (.int .i64 t.a)).setCell ⟨w.heap.size, 4, none⟩ (.int .i64 t.b)).setCell ⟨w.heap.size, 5, none⟩ (.int .i64 t.n)).setCell ⟨w.heap.size, 6, none⟩ (.slice aw lw cw)) (w.heap.size + 1) (itC t (.slice aw lw cw)) := Bx.far7 (HTW.out.x.below HB7.out) (Nat.succ_ne_self _)
 refine hK.out _ _ ⟨HX7.c 0 _ rfl, HX7.c 1 _ rfl, HX7.c 2 _ rfl, HX7.c 3 _ rfl, HX7.c 4 _ rfl, HX7.c 5 _ rfl, HX7.c 6 _ rfl⟩ (fun hHeld => ?_)
 clear hK K
 try simp only [Act.put, zA, zB, zC]
 refine tj 4 ?_
 simp only [Act.put, zA, zB, zC]
 refine wpAnyH_done (by kernel_rfl) ?_ _
 clear hHeld
 have HF := Bx.put7 HRES.out rfl (.int .i64 t.kind) (.string (X.str t.name)) (.int .i64 t.op) (.int .i64 t.a) (.int .i64 t.b) (.int .i64 t.n) (.slice aw lw cw)
 have HE : Below w.heap.size w (((((((y7.setCell ⟨w.heap.size, 0, none⟩ (.int .i64 t.kind)).setCell ⟨w.heap.size, 1, none⟩ (.string (X.str t.name))).setCell ⟨w.heap.size, 2, none⟩ (.int .i64 t.op)).setCell ⟨w.heap.size, 3, none⟩ (.int .i64 t.a)).setCell ⟨w.heap.size, 4, none⟩ (.int .i64 t.b)).setCell ⟨w.heap.size, 5, none⟩ (.int .i64 t.n)).setCell ⟨w.heap.size, 6, none⟩ (.slice aw lw cw)) := below_put7 (HTW.out.b.trans (HB7.out.mono HTW.out.b.size)) (Nat.le_refl _)
 have HO9 : World.ownsRow (((((((y7.setCell ⟨w.heap.size, 0, none⟩ (.int .i64 t.kind)).setCell ⟨w.heap.size, 1, none⟩ (.string (X.str t.name))).setCell ⟨w.heap.size, 2, none⟩ (.int .i64 t.op)).setCell ⟨w.heap.size, 3, none⟩ (.int .i64 t.a)).setCell ⟨w.heap.size, 4, none⟩ (.int .i64 t.b)).setCell ⟨w.heap.size, 5, none⟩ (.int .i64 t.n)).setCell ⟨w.heap.size, 6, none⟩ (.slice aw lw cw)) (w.heap.size + 2) 2 1 (.slice aw lw cw) lw (iC t.words) := put7_own (own_thru HOWN.out HB7.out) (by omega)
 clear c0 c1 c2 c3 c4 c5 c6 f0 f1 f2 f3 f4 f5 f6 HX7
 generalize (((((((y7.setCell ⟨w.heap.size, 0, none⟩ (.int .i64 t.kind)).setCell ⟨w.heap.size, 1, none⟩ (.string (X.str t.name))).setCell ⟨w.heap.size, 2, none⟩ (.int .i64 t.op)).setCell ⟨w.heap.size, 3, none⟩ (.int .i64 t.a)).setCell ⟨w.heap.size, 4, none⟩ (.int .i64 t.b)).setCell ⟨w.heap.size, 5, none⟩ (.int .i64 t.n)).setCell ⟨w.heap.size, 6, none⟩ (.slice aw lw cw)) = Wf at HF HE HO9 ⊢
 have k0 := HF.c 0 _ rfl; have k1 := HF.c 1 _ rfl; have k2 := HF.c 2 _ rfl; have k3 := HF.c 3 _ rfl; have k4 := HF.c 4 _ rfl; have k5 := HF.c 5 _ rfl; have k6 := HF.c 6 _ rfl
 have HE' : Hid _ := HE
 have HO9' : Hid _ := HO9
 clear HF HE HO9
 go_wp2_with fail
 refine bodyPost_ret (v := .tuple #[.agg #[.int .i64 t.kind, .string (X.str t.name), .int .i64 t.op, .int .i64 t.a, .int .i64 t.b, .int .i64 t.n, .slice aw lw cw], .bool zt]) (by simp [results, Tryz.results37, go_sem, k0, k1, k2, k3, k4, k5, k6]) rfl ?_
 exact ⟨t, aw, lw, cw, zt, rfl, fun e => by rw [HR3.out, HZT.out, if_pos e], fun e => by rw [HR3.out, HZT.out, if_neg (by rw [e]; simp)], HT2.out, own_mono HO9'.out (by omega), HE'.out⟩
end Go.Proofs.YtgjingleolhkbaaGreatDoor

import Derived.Test.YtgjingleolhkbaaGreatDoorTBk
import Derived.Test.YtgjingleolhkbaaGreatDoorTBh
namespace Go.Proofs.YtgjingleolhkbaaGreatDoor
open Go.RowKit Go.Maps Go.Lib
set_option linter.unusedVariables false
set_option linter.unusedSimpArgs false

theorem row_len {k : Nat} (hk : k < 34) : (X.opsR (k : Int)).length = (X.row k).2.length := by
 unfold X.opsR; rw [if_pos ⟨by omega, by omega⟩, List.length_map]; simp
theorem mnem_row {k : Nat} (hk : k < 34) : X.mnem (k : Int) = (X.row k).1 := by
 unfold X.mnem; rw [if_pos ⟨by omega, by omega⟩]; simp
theorem insD_at {f : X.By} {r : List X.By} {k : Nat} (hk : k < 34) (hf : f ≠ []) (hm : X.mnem (k : Int) = f) (hl : r.length = (X.row k).2.length) : X.insD? f r = X.keepOk (X.setAllD ⟨2, [], (k : Int), 0, 0, 0, []⟩ (X.row k).2 r) := by
 rw [mnem_row hk] at hm
 have h := (X.row_mnem ⟨k, hk⟩ (by rw [hm]; exact hf)).2.1
 simp only [hm] at h
 unfold X.insD?
 rw [h]
 simp only
 rw [if_pos hl]
theorem insD_none {f : X.By} {r : List X.By} (hf : f ≠ []) (h : ∀ j : Nat, 1 ≤ j → j < 34 → ¬ (X.mnem (j : Int) = f ∧ (X.opsR (j : Int)).length = r.length)) : X.insD? f r = none := by
 unfold X.insD?
 cases ho : X.opOf f with
 | none => rfl
 | some k =>
  obtain ⟨h1, h2⟩ := X.opOf_some ho
  simp only
  split
  ·rename_i hl
   have hk0 : 1 ≤ k := by
    by_cases e : k = 0
    ·subst e; exact absurd h2.symm (by intro e2; exact hf e2)
    ·omega
   exact absurd ⟨(mnem_row h1).trans h2, (row_len h1).trans hl.symm⟩ (h k hk0 h1)
  ·rfl
theorem setAllD_step {t t' : X.It} {row : X.By} {r : List X.By} {j : Nat} {c : UInt8} {x : X.By} (hc : row[j]? = some c) (hx : r[j]? = some x) (h : X.setD t c x = some t') : X.setAllD t (row.drop j) (r.drop j) = X.setAllD t' (row.drop (j + 1)) (r.drop (j + 1)) := by
 have e2 : r.drop j = x :: r.drop (j + 1) := by
  obtain ⟨h1, h2⟩ := List.getElem?_eq_some_iff.1 hx
  rw [List.drop_eq_getElem_cons h1, h2]
 rw [drop_get hc, e2, X.setAllD, h]
 rfl
theorem setAllD_fail {t : X.It} {row : X.By} {r : List X.By} {j : Nat} {c : UInt8} {x : X.By} (hc : row[j]? = some c) (hx : r[j]? = some x) (h : X.setD t c x = none) : X.setAllD t (row.drop j) (r.drop j) = none := by
 have e2 : r.drop j = x :: r.drop (j + 1) := by
  obtain ⟨h1, h2⟩ := List.getElem?_eq_some_iff.1 hx
  rw [List.drop_eq_getElem_cons h1, h2]
 rw [drop_get hc, e2, X.setAllD, h]
 rfl
theorem setAllD_end {t : X.It} {row : X.By} {r : List X.By} {j : Nat} (h1 : j = row.length) (h2 : j = r.length) : X.setAllD t (row.drop j) (r.drop j) = some t := by
 rw [List.drop_of_length_le (by omega), List.drop_of_length_le (by omega)]; rfl
theorem keepOk_some {t : X.It} {z : Bool} (h : X.itOk t = z) : X.keepOk (some t) = if z = true then some t else none := by
 unfold X.keepOk; simp [h]
structure Tw (w W : World) (bx : Nat) (t : X.It) : Prop where
 x : Bx W bx (itC t (.slice none 0 0))
 r : Bx W w.heap.size [.int .i64 0, .string { data := #[] }, .int .i64 0, .int .i64 0, .int .i64 0, .int .i64 0, .slice none 0 0]
 b : Below w.heap.size w W
 ne : w.heap.size < bx
theorem Tw.below {w W W' : World} {bx : Nat} {t : X.It} (h : Tw w W bx t) (hb : Below W.heap.size W W') : Tw w W' bx t := ⟨h.x.below hb, h.r.below hb, h.b.trans (hb.mono h.b.size), h.ne⟩
theorem Tw.put {w W : World} {bx : Nat} {t t' : X.It} (h : Tw w W bx t) (k : Nat) (u : Value) (hk : k < 7) (e : (itC t (.slice none 0 0)).set k u = itC t' (.slice none 0 0)) : Tw w (W.setCell ⟨bx, k, none⟩ u) bx t' :=
 ⟨by rw [← e]; exact h.x.put k (by simpa [itC] using hk) u, h.r.gb (gb_set _ _ _) (Nat.ne_of_lt h.ne), h.b.setCell (Nat.le_of_lt h.ne) _, h.ne⟩
set_option maxRecDepth 100000 in
set_option maxHeartbeats 16000000 in
theorem rinstruction_any {w : World} {a : Option Addr} {n c : Nat} {f : X.By} {r : List X.By} (h : StrV w a n c (f :: r)) (hf : f ≠ []) :
  Calls Tryz.prog 61 #[.slice a n c] w (TakeOut w (X.insD? f r)) := by
 have HV : Hid _ := h
 have hcount : r.length + 1 = n := by have := h.count; simpa using this
 have hm : n ≤ 9223372036854775807 := by have := h.room; unfold maxLen at this; omega
 have HFN : Hid _ := hf
 clear h hf
 go_enter Tryz.func61, Tryz.ntmps61
 go_wp2_with fail
 go_loopg [4] 34 (fun rr iv wq => ∃ (k : Nat), iv = .int .i64 k ∧ 1 ≤ k ∧ k ≤ 34 ∧ 34 - k ≤ rr ∧ Hid (∀ j : Nat, 1 ≤ j → j < k → ¬ (X.mnem (j : Int) = f ∧ (X.opsR (j : Int)).length = r.length)) ∧ Hid (Bx wq w.heap.size [.int .i64 0, .string { data := #[] }, .int .i64 0, .int .i64 0, .int .i64 0, .int .i64 0, .slice none 0 0]) ∧ Hid (Below w.heap.size w wq))
 case atStart => exact ⟨1, rfl, by omega, by omega, by omega, (fun j h1 h2 => by omega : ∀ j : Nat, 1 ≤ j → j < 1 → ¬ (X.mnem (j : Int) = f ∧ (X.opsR (j : Int)).length = r.length)), Bx.new _ _ _, bl1 _ _⟩
 case round =>
  obtain ⟨k, rfl, hk1, hk, hr, HNO, HRES, HWY⟩ := hrel
  by_cases hk33 : k ≤ 33
  rotate_left
  ·have hii : ¬ (k : Int) ≤ 33 := by omega
   have HR : Hid (X.insD? f r = none) := insD_none HFN.out (fun j h1 h2 => HNO.out j h1 (by omega))
   have c0 := HRES.out.c 0 _ rfl; have c1 := HRES.out.c 1 _ rfl; have c2 := HRES.out.c 2 _ rfl; have c3 := HRES.out.c 3 _ rfl; have c4 := HRES.out.c 4 _ rfl; have c5 := HRES.out.c 5 _ rfl; have c6 := HRES.out.c 6 _ rfl
   have f0 := HRES.out.f 0; have f1 := HRES.out.f 1; have f2 := HRES.out.f 2; have f3 := HRES.out.f 3; have f4 := HRES.out.f 4; have f5 := HRES.out.f 5; have f6 := HRES.out.f 6
   go_wp2_with fail
   have HF := Bx.put7 HRES.out rfl (.int .i64 0) (.string { data := #[] }) (.int .i64 0) (.int .i64 0) (.int .i64 0) (.int .i64 0) (.slice none 0 0)
   have HE : Below w.heap.size w (((((((wr.setCell ⟨w.heap.size, 0, none⟩ (.int .i64 0)).setCell ⟨w.heap.size, 1, none⟩ (.string { data := #[] })).setCell ⟨w.heap.size, 2, none⟩ (.int .i64 0)).setCell ⟨w.heap.size, 3, none⟩ (.int .i64 0)).setCell ⟨w.heap.size, 4, none⟩ (.int .i64 0)).setCell ⟨w.heap.size, 5, none⟩ (.int .i64 0)).setCell ⟨w.heap.size, 6, none⟩ (.slice none 0 0)) := below_put7 HWY.out (Nat.le_refl _)
   generalize (((((((wr.setCell ⟨w.heap.size, 0, none⟩ (.int .i64 0)).setCell ⟨w.heap.size, 1, none⟩ (.string { data := #[] })).setCell ⟨w.heap.size, 2, none⟩ (.int .i64 0)).setCell ⟨w.heap.size, 3, none⟩ (.int .i64 0)).setCell ⟨w.heap.size, 4, none⟩ (.int .i64 0)).setCell ⟨w.heap.size, 5, none⟩ (.int .i64 0)).setCell ⟨w.heap.size, 6, none⟩ (.slice none 0 0)) = Wf at HF HE ⊢
   have k0 := HF.c 0 _ rfl; have k1 := HF.c 1 _ rfl; have k2 := HF.c 2 _ rfl; have k3 := HF.c 3 _ rfl; have k4 := HF.c 4 _ rfl; have k5 := HF.c 5 _ rfl; have k6 := HF.c 6 _ rfl
   refine bodyPost_ret (v := .tuple #[.agg #[.int .i64 0, .string { data := #[] }, .int .i64 0, .int .i64 0, .int .i64 0, .int .i64 0, .slice none 0 0], .bool false]) (by simp [results, Tryz.results61, go_sem, k0, k1, k2, k3, k4, k5, k6]) rfl ?_
   exact TakeOut.bad HR.out HE
  have hii : (k : Int) ≤ 33 := by omega
  have hop := fun w => roperands_any (k : Int) w
  have hmn := fun w => rmnemonic_any (k : Int) w
  have HOS : Hid ((X.str (X.opsR (k : Int))).size = (X.opsR (k : Int)).length) := str_size _
  have HOL : Hid ((X.opsR (k : Int)).length = (X.row k).2.length) := row_len (by omega)
  obtain ⟨b, off, s0, rfl, cw0, hs0, hz0⟩ := (HV.out.below HWY.out).at (i := 0) (by omega)
  simp only [Nat.add_zero] at cw0
  have hs0' : s0.data.toList = f := hs0
  have HMS : Hid ((X.str (X.mnem (k : Int))).data.toList = X.mnem (k : Int)) := str_list _
  have HBW : Hid (b < wr.heap.size) := World.block_lt_of_cell? wr ⟨b, off, none⟩ cw0
  have h0n : (0 : Int) < n := by omega
  have h0n2 : 0 < n := by omega
  have hmO : (X.str (X.opsR (k : Int))).size ≤ 3 := by rw [str_size]; exact opsR_len _
  obtain ⟨O, hO⟩ : ∃ O, X.str (X.opsR (k : Int)) = O := ⟨_, rfl⟩
  obtain ⟨M, hM⟩ : ∃ M, X.str (X.mnem (k : Int)) = M := ⟨_, rfl⟩
  rw [hO] at hop HOS hmO
  have HOG : Hid (∀ j (hj : j < O.size), ∃ c, (X.row k).2[j]? = some c ∧ O[j] = (if c = 64 then 83 else c)) := fun j hj => by
   subst hO
   obtain ⟨c, h1, h2⟩ := opsR_get (op := (k : Int)) (by omega) (by omega) hj
   exact ⟨c, by simpa using h1, h2⟩
  rw [hM] at hmn HMS
  clear hO hM hs0
  have HHS : Hid (∀ y : World, Below wr.heap.size wr y → y.cell? ⟨b, off, none⟩ = some (.string s0)) := fun y hy => cell_thru hy cw0
  by_cases hmm : X.mnem (k : Int) = f
  rotate_left
  ·have hne : (M.toList == s0.toList) = false := toList_ne' (by rw [HMS.out, hs0']; exact hmm)
   have HNO2 : Hid (∀ j : Nat, 1 ≤ j → j < k + 1 → ¬ (X.mnem (j : Int) = f ∧ (X.opsR (j : Int)).length = r.length)) := fun j h1 h2 e => by
    by_cases ej : j = k
    ·subst ej; exact hmm e.1
    ·exact HNO.out j h1 (by omega) e
   clear hmm hs0'
   go_wp2_with fail
   refine (hop _).mono ?_
   rintro e y ⟨rfl, hyw⟩
   rw [hyw]
   clear hyw y
   go_wp2_with fail
   refine wp_region_held_drew (S := (fun y : World => y.cell? ⟨b, off, none⟩ = some (.string s0))) (by kernel_rfl) (HHS.out _ (Below.refl _ _).drew) (fun hHeld => ?_)
   refine tj 0 ?_
   simp only [Act.put, zA, zB, zC]
   refine tj 2 ?_
   simp only [Act.put, zA, zB, zC]
   refine tj 3 ?_
   simp only [Act.put, zA, zB, zC]
   refine tj 4 ?_
   simp only [Act.put, zA, zB, zC]
   refine tr [1] ?_
   refine AllReadyH.cons (tA rfl) (fun K hK => ?_) AllReadyH.nil
   go_simp
   refine (hmn _).mono ?_
   rintro e y5 ⟨rfl, ob, hy5⟩
   have HB5 : Hid (Below wr.heap.size wr y5) := by
    show Below _ _ _
    rw [hy5]
    exact (Below.refl _ _).drew.alloc (Nat.le_refl _) _
   clear hy5
   refine hK.out _ _ (HHS.out _ HB5.out) (fun hHeld => ?_)
   clear hK K
   try simp only [Act.put, zA, zB, zC]
   refine tj 5 ?_
   simp only [Act.put, zA, zB, zC]
   refine tj 6 ?_
   simp only [Act.put, zA, zB, zC]
   refine tu 7 ?_
   simp only [Act.put, zA, zB, zC]
   refine tu 8 ?_
   simp only [Act.put, zA, zB, zC]
   refine tu 9 ?_
   simp only [Act.put, zA, zB, zC]
   refine tu 10 ?_
   simp only [Act.put, zA, zB, zC]
   refine tu 11 ?_
   simp only [Act.put, zA, zB, zC]
   refine tu 12 ?_
   simp only [Act.put, zA, zB, zC]
   refine tj 13 ?_
   simp only [Act.put, zA, zB, zC]
   refine wpAnyH_done (by kernel_rfl) ?_ _
   clear hHeld
   go_wp2_with fail
   go_roundg (34 - (k + 1))
   case measure => omega
   case rel => exact ⟨k + 1, by go_num, by omega, by omega, Nat.le_refl _, HNO2.out, HRES.out.below HB5.out, HWY.out.trans (HB5.out.mono HWY.out.size)⟩
  have heq : (M.toList == s0.toList) = true := toList_eq' (by rw [HMS.out, hs0']; exact hmm)
  by_cases hln : (X.opsR (k : Int)).length = r.length
  rotate_left
  ·obtain ⟨Q, hQ⟩ : ∃ Q : Nat, O.size + 1 = Q := ⟨_, rfl⟩
   have hwr : IntKind.i64.wrap (1 + (O.size : Int)) = (Q : Int) := by rw [IntKind.wrap_i64]; omega
   have hnl : ((n : Int) != (Q : Int)) = true := by have := HOS.out; simp; omega
   clear hQ
   have HNO2 : Hid (∀ j : Nat, 1 ≤ j → j < k + 1 → ¬ (X.mnem (j : Int) = f ∧ (X.opsR (j : Int)).length = r.length)) := fun j h1 h2 e => by
    by_cases ej : j = k
    ·subst ej; exact hln e.2
    ·exact HNO.out j h1 (by omega) e
   clear hmm hs0' hln
   go_wp2_with fail
   refine (hop _).mono ?_
   rintro e y ⟨rfl, hyw⟩
   rw [hyw]
   clear hyw y
   go_wp2_with fail
   refine wp_region_held_drew (S := (fun y : World => y.cell? ⟨b, off, none⟩ = some (.string s0))) (by kernel_rfl) (HHS.out _ (Below.refl _ _).drew) (fun hHeld => ?_)
   refine tj 0 ?_
   simp only [Act.put, zA, zB, zC]
   refine tj 2 ?_
   simp only [Act.put, zA, zB, zC]
   refine tj 3 ?_
   simp only [Act.put, zA, zB, zC]
   refine tj 4 ?_
   simp only [Act.put, zA, zB, zC]
   refine tr [1] ?_
   refine AllReadyH.cons (tA rfl) (fun K hK => ?_) AllReadyH.nil
   go_simp
   refine (hmn _).mono ?_
   rintro e y5 ⟨rfl, ob, hy5⟩
   have HB5 : Hid (Below wr.heap.size wr y5) := by
    show Below _ _ _
    rw [hy5]
    exact (Below.refl _ _).drew.alloc (Nat.le_refl _) _
   clear hy5
   refine hK.out _ _ (HHS.out _ HB5.out) (fun hHeld => ?_)
   clear hK K
   try simp only [Act.put, zA, zB, zC]
   refine tj 5 ?_
   simp only [Act.put, zA, zB, zC]
   refine tj 6 ?_
   simp only [Act.put, zA, zB, zC]
   refine tj 7 ?_
   simp only [Act.put, zA, zB, zC]
   refine tj 8 ?_
   simp only [Act.put, zA, zB, zC]
   refine tj 9 ?_
   simp only [Act.put, zA, zB, zC]
   refine tj 10 ?_
   simp only [Act.put, zA, zB, zC]
   refine tj 11 ?_
   simp only [Act.put, zA, zB, zC]
   refine tj 12 ?_
   simp only [Act.put, zA, zB, zC]
   refine tj 13 ?_
   simp only [Act.put, zA, zB, zC]
   refine wpAnyH_done (by kernel_rfl) ?_ _
   clear hHeld
   go_wp2_with fail
   go_roundg (34 - (k + 1))
   case measure => omega
   case rel => exact ⟨k + 1, by go_num, by omega, by omega, Nat.le_refl _, HNO2.out, HRES.out.below HB5.out, HWY.out.trans (HB5.out.mono HWY.out.size)⟩
  have hwr : IntKind.i64.wrap (1 + (O.size : Int)) = (n : Int) := by have := HOS.out; rw [IntKind.wrap_i64]; omega
  have HR : Hid (X.insD? f r = X.keepOk (X.setAllD ⟨2, [], (k : Int), 0, 0, 0, []⟩ (X.row k).2 r)) := insD_at (by omega) HFN.out hmm (by rw [← HOL.out, hln])
  have hOn : O.size + 1 = n := by rw [HOS.out]; omega
  have HOR : Hid (O.size = (X.row k).2.length) := by show _ = _; rw [HOS.out, HOL.out]
  have HORr : Hid (O.size = r.length) := by show _ = _; rw [HOS.out, hln]
  clear hmm hs0' hln
  go_wp2_with fail
  refine (hop _).mono ?_
  rintro e y ⟨rfl, hyw⟩
  rw [hyw]
  clear hyw y
  go_wp2_with fail
  refine wp_region_held_drew (S := (fun y : World => y.cell? ⟨b, off, none⟩ = some (.string s0))) (by kernel_rfl) (HHS.out _ (Below.refl _ _).drew) (fun hHeld => ?_)
  refine tj 0 ?_
  simp only [Act.put, zA, zB, zC]
  refine tj 2 ?_
  simp only [Act.put, zA, zB, zC]
  refine tj 3 ?_
  simp only [Act.put, zA, zB, zC]
  refine tj 4 ?_
  simp only [Act.put, zA, zB, zC]
  refine tr [1] ?_
  refine AllReadyH.cons (tA rfl) (fun K hK => ?_) AllReadyH.nil
  go_simp
  refine (hmn _).mono ?_
  rintro e y5 ⟨rfl, ob, hy5⟩
  have HB5 : Hid (Below wr.heap.size wr y5) := by
   show Below _ _ _
   rw [hy5]
   exact (Below.refl _ _).drew.alloc (Nat.le_refl _) _
  clear hy5
  refine hK.out _ _ (HHS.out _ HB5.out) (fun hHeld => ?_)
  clear hK K
  try simp only [Act.put, zA, zB, zC]
  refine tj 5 ?_
  simp only [Act.put, zA, zB, zC]
  refine tj 6 ?_
  simp only [Act.put, zA, zB, zC]
  refine tj 7 ?_
  simp only [Act.put, zA, zB, zC]
  refine tj 8 ?_
  simp only [Act.put, zA, zB, zC]
  refine tj 9 ?_
  simp only [Act.put, zA, zB, zC]
  refine tj 10 ?_
  simp only [Act.put, zA, zB, zC]
  refine tj 11 ?_
  simp only [Act.put, zA, zB, zC]
  refine tj 12 ?_
  simp only [Act.put, zA, zB, zC]
  refine tj 13 ?_
  simp only [Act.put, zA, zB, zC]
  refine wpAnyH_done (by kernel_rfl) ?_ _
  clear hHeld
  have HR5 : Hid (Bx y5 w.heap.size [.int .i64 0, .string { data := #[] }, .int .i64 0, .int .i64 0, .int .i64 0, .int .i64 0, .slice none 0 0]) := HRES.out.below HB5.out
  have HW5 : Hid (Below w.heap.size w y5) := HWY.out.trans (HB5.out.mono HWY.out.size)
  have HLT5 : Hid (w.heap.size < y5.heap.size) := HR5.out.lt
  clear hmn hop HRES HWY HB5 cw0 HHS HBW
  go_wp2_with fail
  go_loopg [7] O.size (fun rr iv wq => ∃ (j : Nat), iv = .int .i64 j ∧ j ≤ O.size ∧ O.size - j ≤ rr ∧ Hid (∃ t : X.It, t.words = [] ∧ t.name.length ≤ 200000 ∧ Tw w wq y5.heap.size t ∧ X.setAllD ⟨2, [], (k : Int), 0, 0, 0, []⟩ (X.row k).2 r = X.setAllD t ((X.row k).2.drop j) (r.drop j)))
  case atStart => exact ⟨0, rfl, Nat.zero_le _, by omega, ⟨⟨2, [], (k : Int), 0, 0, 0, []⟩, rfl, by simp, ⟨Bx.new _ _ _, HR5.out.below (bl1 _ _), HW5.out.alloc (by have := HLT5.out; omega) _, HLT5.out⟩, by simp⟩⟩
  case round =>
   obtain ⟨j, rfl, hj, hr2, HI⟩ := hrel
   obtain ⟨t, ht1, ht2, hTw, ht4⟩ := HI.out
   by_cases hlt : j < O.size
   ·obtain ⟨c, hc, hOc⟩ := HOG.out j hlt
    have hii : (j : Int) < O.size := by omega
    have hin : 0 ≤ (j : Int) := by omega
    have hjr : j < r.length := by rw [← HORr.out]; exact hlt
    obtain ⟨b', off', s, he, cw, hs, hz⟩ := (HV.out.below hTw.b).at (i := 1 + j) (by omega)
    cases he
    have hx : r[j]? = some s.data.toList := by
     rw [hs, Nat.add_comm 1 j]
     simp [List.getD, hjr]
    have hnat : IntKind.i64.wrap (1 + (j : Int)) = ((1 + j : Nat) : Int) := by rw [IntKind.wrap_i64]; omega
    have hi1 : ((1 + j : Nat) : Int) < n := by omega
    have hi2 : 1 + j < n := by omega
    rcases row_sign ⟨k, by omega⟩ c (List.mem_of_getElem? hc) with rfl | rfl | rfl | rfl
    ·have hq : O[j].toNat = 65 := by rw [hOc]; rfl
     have hq65 : ((O[j].toNat : Int) == 65) = true := by simp [hq]
     clear hq hOc
     have x3 := hTw.x.c 3 _ rfl
     have g3 := hTw.x.f 3
     have hcall := fun w => rregister_any s w
     cases hrg : X.regD s.data.toList with
     | none =>
      rw [hrg] at hcall
      go_wp2_with fail
      refine (hcall _).mono ?_
      rintro e y ⟨he, hyw⟩
      rw [hyw, show e = _ from he]
      clear hyw he y e hcall
      have HT' : Hid (Tw w (wr.setCell ⟨y5.heap.size, 3, none⟩ (.int .i64 0)) y5.heap.size { t with a := 0 }) := hTw.put 3 _ (by decide) rfl
      have HR2 : Hid (X.insD? f r = none) := by show _ = _; rw [HR.out, ht4, setAllD_fail hc hx (by simp [X.setD, hrg])]; rfl
      have HRES : Hid (Bx (wr.setCell ⟨y5.heap.size, 3, none⟩ (.int .i64 0)) w.heap.size [.int .i64 0, .string { data := #[] }, .int .i64 0, .int .i64 0, .int .i64 0, .int .i64 0, .slice none 0 0]) := HT'.out.r
      have HWY : Hid (Below w.heap.size w (wr.setCell ⟨y5.heap.size, 3, none⟩ (.int .i64 0))) := HT'.out.b
      clear hTw ht4 hc hx hz ht1 ht2 hs
      have c0 := HRES.out.c 0 _ rfl; have c1 := HRES.out.c 1 _ rfl; have c2 := HRES.out.c 2 _ rfl; have c3 := HRES.out.c 3 _ rfl; have c4 := HRES.out.c 4 _ rfl; have c5 := HRES.out.c 5 _ rfl; have c6 := HRES.out.c 6 _ rfl
      have f0 := HRES.out.f 0; have f1 := HRES.out.f 1; have f2 := HRES.out.f 2; have f3 := HRES.out.f 3; have f4 := HRES.out.f 4; have f5 := HRES.out.f 5; have f6 := HRES.out.f 6
      go_wp2_with fail
      have HF := Bx.put7 HRES.out rfl (.int .i64 0) (.string { data := #[] }) (.int .i64 0) (.int .i64 0) (.int .i64 0) (.int .i64 0) (.slice none 0 0)
      have HE : Below w.heap.size w ((((((((wr.setCell ⟨y5.heap.size, 3, none⟩ (.int .i64 0)).setCell ⟨w.heap.size, 0, none⟩ (.int .i64 0)).setCell ⟨w.heap.size, 1, none⟩ (.string { data := #[] })).setCell ⟨w.heap.size, 2, none⟩ (.int .i64 0)).setCell ⟨w.heap.size, 3, none⟩ (.int .i64 0)).setCell ⟨w.heap.size, 4, none⟩ (.int .i64 0)).setCell ⟨w.heap.size, 5, none⟩ (.int .i64 0)).setCell ⟨w.heap.size, 6, none⟩ (.slice none 0 0)) := below_put7 HWY.out (Nat.le_refl _)
      generalize ((((((((wr.setCell ⟨y5.heap.size, 3, none⟩ (.int .i64 0)).setCell ⟨w.heap.size, 0, none⟩ (.int .i64 0)).setCell ⟨w.heap.size, 1, none⟩ (.string { data := #[] })).setCell ⟨w.heap.size, 2, none⟩ (.int .i64 0)).setCell ⟨w.heap.size, 3, none⟩ (.int .i64 0)).setCell ⟨w.heap.size, 4, none⟩ (.int .i64 0)).setCell ⟨w.heap.size, 5, none⟩ (.int .i64 0)).setCell ⟨w.heap.size, 6, none⟩ (.slice none 0 0)) = Wf at HF HE ⊢
      have k0 := HF.c 0 _ rfl; have k1 := HF.c 1 _ rfl; have k2 := HF.c 2 _ rfl; have k3 := HF.c 3 _ rfl; have k4 := HF.c 4 _ rfl; have k5 := HF.c 5 _ rfl; have k6 := HF.c 6 _ rfl
      refine bodyPost_ret (v := .tuple #[.agg #[.int .i64 0, .string { data := #[] }, .int .i64 0, .int .i64 0, .int .i64 0, .int .i64 0, .slice none 0 0], .bool false]) (by simp [results, Tryz.results61, go_sem, k0, k1, k2, k3, k4, k5, k6]) rfl ?_
      exact TakeOut.bad HR2.out HE
     | some x =>
      rw [hrg] at hcall
      go_wp2_with fail
      refine (hcall _).mono ?_
      rintro e y ⟨he, hyw⟩
      rw [hyw, show e = _ from he]
      clear hyw he y e hcall
      have HT' : Hid (Tw w (wr.setCell ⟨y5.heap.size, 3, none⟩ (.int .i64 x)) y5.heap.size { t with a := x }) := hTw.put 3 _ (by decide) rfl
      have HS' : Hid _ := ht4.trans (setAllD_step hc hx (t' := { t with a := x }) (by simp [X.setD, hrg]))
      have HN' : Hid _ := ht2
      have HT1 : Hid _ := ht1
      clear hTw ht4 hc hx hz ht1 ht2 hs
      go_wp2_with fail
      go_roundg (O.size - (j + 1))
      case measure => omega
      case rel => exact ⟨j + 1, by go_num, by omega, Nat.le_refl _, ⟨{ t with a := x }, HT1.out, HN'.out, HT'.out, HS'.out⟩⟩
    ·have hq : O[j].toNat = 66 := by rw [hOc]; rfl
     have hq65 : ((O[j].toNat : Int) == 65) = false := by simp [hq]
     have hq66 : ((O[j].toNat : Int) == 66) = true := by simp [hq]
     clear hq hOc
     have x4 := hTw.x.c 4 _ rfl
     have g4 := hTw.x.f 4
     have hcall := fun w => rregister_any s w
     cases hrg : X.regD s.data.toList with
     | none =>
      rw [hrg] at hcall
      go_wp2_with fail
      refine (hcall _).mono ?_
      rintro e y ⟨he, hyw⟩
      rw [hyw, show e = _ from he]
      clear hyw he y e hcall
      have HT' : Hid (Tw w (wr.setCell ⟨y5.heap.size, 4, none⟩ (.int .i64 0)) y5.heap.size { t with b := 0 }) := hTw.put 4 _ (by decide) rfl
      have HR2 : Hid (X.insD? f r = none) := by show _ = _; rw [HR.out, ht4, setAllD_fail hc hx (by simp [X.setD, hrg])]; rfl
      have HRES : Hid (Bx (wr.setCell ⟨y5.heap.size, 4, none⟩ (.int .i64 0)) w.heap.size [.int .i64 0, .string { data := #[] }, .int .i64 0, .int .i64 0, .int .i64 0, .int .i64 0, .slice none 0 0]) := HT'.out.r
      have HWY : Hid (Below w.heap.size w (wr.setCell ⟨y5.heap.size, 4, none⟩ (.int .i64 0))) := HT'.out.b
      clear hTw ht4 hc hx hz ht1 ht2 hs
      have c0 := HRES.out.c 0 _ rfl; have c1 := HRES.out.c 1 _ rfl; have c2 := HRES.out.c 2 _ rfl; have c3 := HRES.out.c 3 _ rfl; have c4 := HRES.out.c 4 _ rfl; have c5 := HRES.out.c 5 _ rfl; have c6 := HRES.out.c 6 _ rfl
      have f0 := HRES.out.f 0; have f1 := HRES.out.f 1; have f2 := HRES.out.f 2; have f3 := HRES.out.f 3; have f4 := HRES.out.f 4; have f5 := HRES.out.f 5; have f6 := HRES.out.f 6
      go_wp2_with fail
      have HF := Bx.put7 HRES.out rfl (.int .i64 0) (.string { data := #[] }) (.int .i64 0) (.int .i64 0) (.int .i64 0) (.int .i64 0) (.slice none 0 0)
      have HE : Below w.heap.size w ((((((((wr.setCell ⟨y5.heap.size, 4, none⟩ (.int .i64 0)).setCell ⟨w.heap.size, 0, none⟩ (.int .i64 0)).setCell ⟨w.heap.size, 1, none⟩ (.string { data := #[] })).setCell ⟨w.heap.size, 2, none⟩ (.int .i64 0)).setCell ⟨w.heap.size, 3, none⟩ (.int .i64 0)).setCell ⟨w.heap.size, 4, none⟩ (.int .i64 0)).setCell ⟨w.heap.size, 5, none⟩ (.int .i64 0)).setCell ⟨w.heap.size, 6, none⟩ (.slice none 0 0)) := below_put7 HWY.out (Nat.le_refl _)
      generalize ((((((((wr.setCell ⟨y5.heap.size, 4, none⟩ (.int .i64 0)).setCell ⟨w.heap.size, 0, none⟩ (.int .i64 0)).setCell ⟨w.heap.size, 1, none⟩ (.string { data := #[] })).setCell ⟨w.heap.size, 2, none⟩ (.int .i64 0)).setCell ⟨w.heap.size, 3, none⟩ (.int .i64 0)).setCell ⟨w.heap.size, 4, none⟩ (.int .i64 0)).setCell ⟨w.heap.size, 5, none⟩ (.int .i64 0)).setCell ⟨w.heap.size, 6, none⟩ (.slice none 0 0)) = Wf at HF HE ⊢
      have k0 := HF.c 0 _ rfl; have k1 := HF.c 1 _ rfl; have k2 := HF.c 2 _ rfl; have k3 := HF.c 3 _ rfl; have k4 := HF.c 4 _ rfl; have k5 := HF.c 5 _ rfl; have k6 := HF.c 6 _ rfl
      refine bodyPost_ret (v := .tuple #[.agg #[.int .i64 0, .string { data := #[] }, .int .i64 0, .int .i64 0, .int .i64 0, .int .i64 0, .slice none 0 0], .bool false]) (by simp [results, Tryz.results61, go_sem, k0, k1, k2, k3, k4, k5, k6]) rfl ?_
      exact TakeOut.bad HR2.out HE
     | some x =>
      rw [hrg] at hcall
      go_wp2_with fail
      refine (hcall _).mono ?_
      rintro e y ⟨he, hyw⟩
      rw [hyw, show e = _ from he]
      clear hyw he y e hcall
      have HT' : Hid (Tw w (wr.setCell ⟨y5.heap.size, 4, none⟩ (.int .i64 x)) y5.heap.size { t with b := x }) := hTw.put 4 _ (by decide) rfl
      have HS' : Hid _ := ht4.trans (setAllD_step hc hx (t' := { t with b := x }) (by simp [X.setD, hrg]))
      have HN' : Hid _ := ht2
      have HT1 : Hid _ := ht1
      clear hTw ht4 hc hx hz ht1 ht2 hs
      go_wp2_with fail
      go_roundg (O.size - (j + 1))
      case measure => omega
      case rel => exact ⟨j + 1, by go_num, by omega, Nat.le_refl _, ⟨{ t with b := x }, HT1.out, HN'.out, HT'.out, HS'.out⟩⟩
    ·have hq : O[j].toNat = 78 := by rw [hOc]; rfl
     have hq65 : ((O[j].toNat : Int) == 65) = false := by simp [hq]
     have hq66 : ((O[j].toNat : Int) == 66) = false := by simp [hq]
     have hq78 : ((O[j].toNat : Int) == 78) = true := by simp [hq]
     clear hq hOc
     have x5 := hTw.x.c 5 _ rfl
     have g5 := hTw.x.f 5
     have hcall := fun w => rnumber_any s (by unfold maxLen; omega) w
     go_wp2_with fail
     refine (hcall _).mono ?_
     rintro e y ⟨⟨z, ok, he, hnum⟩, hyw⟩
     rw [hyw, he]
     clear hyw he y e hcall
     cases ok with
     | false =>
      have hrg : X.num s.data.toList = none := hnum.2 rfl
      clear hnum
      have HT' : Hid (Tw w (wr.setCell ⟨y5.heap.size, 5, none⟩ (.int .i64 z)) y5.heap.size { t with n := z }) := hTw.put 5 _ (by decide) rfl
      have HR2 : Hid (X.insD? f r = none) := by show _ = _; rw [HR.out, ht4, setAllD_fail hc hx (by simp [X.setD, hrg])]; rfl
      have HRES : Hid (Bx (wr.setCell ⟨y5.heap.size, 5, none⟩ (.int .i64 z)) w.heap.size [.int .i64 0, .string { data := #[] }, .int .i64 0, .int .i64 0, .int .i64 0, .int .i64 0, .slice none 0 0]) := HT'.out.r
      have HWY : Hid (Below w.heap.size w (wr.setCell ⟨y5.heap.size, 5, none⟩ (.int .i64 z))) := HT'.out.b
      clear hTw ht4 hc hx hz ht1 ht2 hs
      have c0 := HRES.out.c 0 _ rfl; have c1 := HRES.out.c 1 _ rfl; have c2 := HRES.out.c 2 _ rfl; have c3 := HRES.out.c 3 _ rfl; have c4 := HRES.out.c 4 _ rfl; have c5 := HRES.out.c 5 _ rfl; have c6 := HRES.out.c 6 _ rfl
      have f0 := HRES.out.f 0; have f1 := HRES.out.f 1; have f2 := HRES.out.f 2; have f3 := HRES.out.f 3; have f4 := HRES.out.f 4; have f5 := HRES.out.f 5; have f6 := HRES.out.f 6
      go_wp2_with fail
      have HF := Bx.put7 HRES.out rfl (.int .i64 0) (.string { data := #[] }) (.int .i64 0) (.int .i64 0) (.int .i64 0) (.int .i64 0) (.slice none 0 0)
      have HE : Below w.heap.size w ((((((((wr.setCell ⟨y5.heap.size, 5, none⟩ (.int .i64 z)).setCell ⟨w.heap.size, 0, none⟩ (.int .i64 0)).setCell ⟨w.heap.size, 1, none⟩ (.string { data := #[] })).setCell ⟨w.heap.size, 2, none⟩ (.int .i64 0)).setCell ⟨w.heap.size, 3, none⟩ (.int .i64 0)).setCell ⟨w.heap.size, 4, none⟩ (.int .i64 0)).setCell ⟨w.heap.size, 5, none⟩ (.int .i64 0)).setCell ⟨w.heap.size, 6, none⟩ (.slice none 0 0)) := below_put7 HWY.out (Nat.le_refl _)
      generalize ((((((((wr.setCell ⟨y5.heap.size, 5, none⟩ (.int .i64 z)).setCell ⟨w.heap.size, 0, none⟩ (.int .i64 0)).setCell ⟨w.heap.size, 1, none⟩ (.string { data := #[] })).setCell ⟨w.heap.size, 2, none⟩ (.int .i64 0)).setCell ⟨w.heap.size, 3, none⟩ (.int .i64 0)).setCell ⟨w.heap.size, 4, none⟩ (.int .i64 0)).setCell ⟨w.heap.size, 5, none⟩ (.int .i64 0)).setCell ⟨w.heap.size, 6, none⟩ (.slice none 0 0)) = Wf at HF HE ⊢
      have k0 := HF.c 0 _ rfl; have k1 := HF.c 1 _ rfl; have k2 := HF.c 2 _ rfl; have k3 := HF.c 3 _ rfl; have k4 := HF.c 4 _ rfl; have k5 := HF.c 5 _ rfl; have k6 := HF.c 6 _ rfl
      refine bodyPost_ret (v := .tuple #[.agg #[.int .i64 0, .string { data := #[] }, .int .i64 0, .int .i64 0, .int .i64 0, .int .i64 0, .slice none 0 0], .bool false]) (by simp [results, Tryz.results61, go_sem, k0, k1, k2, k3, k4, k5, k6]) rfl ?_
      exact TakeOut.bad HR2.out HE
     | true =>
      have hrg : X.num s.data.toList = some z := hnum.1 rfl
      clear hnum
      have HT' : Hid (Tw w (wr.setCell ⟨y5.heap.size, 5, none⟩ (.int .i64 z)) y5.heap.size { t with n := z }) := hTw.put 5 _ (by decide) rfl
      have HS' : Hid _ := ht4.trans (setAllD_step hc hx (t' := { t with n := z }) (by simp [X.setD, hrg]))
      have HN' : Hid _ := ht2
      have HT1 : Hid _ := ht1
      clear hTw ht4 hc hx hz ht1 ht2 hs
      go_wp2_with fail
      go_roundg (O.size - (j + 1))
      case measure => omega
      case rel => exact ⟨j + 1, by go_num, by omega, Nat.le_refl _, ⟨{ t with n := z }, HT1.out, HN'.out, HT'.out, HS'.out⟩⟩
    ·have hq : O[j].toNat = 83 := by rw [hOc]; rfl
     have hq65 : ((O[j].toNat : Int) == 65) = false := by simp [hq]
     have hq66 : ((O[j].toNat : Int) == 66) = false := by simp [hq]
     have hq78 : ((O[j].toNat : Int) == 78) = false := by simp [hq]
     clear hq hOc
     have x1 := hTw.x.c 1 _ rfl
     have g1 := hTw.x.f 1
     have HT' : Hid (Tw w (wr.setCell ⟨y5.heap.size, 1, none⟩ (.string s)) y5.heap.size { t with name := s.data.toList }) := hTw.put 1 _ (by decide) (by simp [itC, str_eq])
     have HS' : Hid _ := ht4.trans (setAllD_step hc hx (t' := { t with name := s.data.toList }) (by simp [X.setD]))
     have HN' : Hid (s.data.toList.length ≤ 200000) := by show _ ≤ _; rw [len_list]; exact hz
     have HT1 : Hid _ := ht1
     clear hTw ht4 hc hx hz ht1 ht2 hs
     go_wp2_with fail
     go_roundg (O.size - (j + 1))
     case measure => omega
     case rel => exact ⟨j + 1, by go_num, by omega, Nat.le_refl _, ⟨{ t with name := s.data.toList }, HT1.out, HN'.out, HT'.out, HS'.out⟩⟩
   ·obtain rfl : j = O.size := by omega
    have hii : ¬ (O.size : Int) < O.size := by omega
    have HR3 : Hid (X.insD? f r = X.keepOk (some t)) := by show _ = _; rw [HR.out, ht4, setAllD_end HOR.out HORr.out]
    have HT2 : Hid _ := ht2
    have HW1 : Hid _ := ht1
    have hmay := fun w => rmay_any t.kind (X.str t.name) t.op t.a t.b t.n none 0 0 [] rfl (by rw [str_size]; unfold maxLen; omega) w
    simp only [str_list] at hmay
    have HIT : Hid ((⟨t.kind, t.name, t.op, t.a, t.b, t.n, []⟩ : X.It) = t) := by show _ = _; cases t; simp at ht1; simp [ht1]
    rw [HIT.out] at hmay
    obtain ⟨zt, hzt⟩ : ∃ z, X.itOk t = z := ⟨_, rfl⟩
    rw [hzt] at hmay
    have HZT : Hid _ := keepOk_some hzt
    have HTW : Hid (Tw w wr y5.heap.size t) := hTw
    have HSX : Hid (∀ y : World, Below wr.heap.size wr y → (fun y : World => y.cell? ⟨y5.heap.size, 0, none⟩ = some (.int .i64 t.kind) ∧ y.cell? ⟨y5.heap.size, 1, none⟩ = some (.string (X.str t.name)) ∧ y.cell? ⟨y5.heap.size, 2, none⟩ = some (.int .i64 t.op) ∧ y.cell? ⟨y5.heap.size, 3, none⟩ = some (.int .i64 t.a) ∧ y.cell? ⟨y5.heap.size, 4, none⟩ = some (.int .i64 t.b) ∧ y.cell? ⟨y5.heap.size, 5, none⟩ = some (.int .i64 t.n) ∧ y.cell? ⟨y5.heap.size, 6, none⟩ = some (.slice none 0 0)) y) := fun y hy => ⟨cell_thru hy (hTw.x.c 0 _ rfl), cell_thru hy (hTw.x.c 1 _ rfl), cell_thru hy (hTw.x.c 2 _ rfl), cell_thru hy (hTw.x.c 3 _ rfl), cell_thru hy (hTw.x.c 4 _ rfl), cell_thru hy (hTw.x.c 5 _ rfl), cell_thru hy (hTw.x.c 6 _ rfl)⟩
    clear ht1 ht2 ht4 hTw HI hzt HR
    go_wp2_with fail
    refine wp_region_held_drew (S := (fun y : World => y.cell? ⟨y5.heap.size, 0, none⟩ = some (.int .i64 t.kind) ∧ y.cell? ⟨y5.heap.size, 1, none⟩ = some (.string (X.str t.name)) ∧ y.cell? ⟨y5.heap.size, 2, none⟩ = some (.int .i64 t.op) ∧ y.cell? ⟨y5.heap.size, 3, none⟩ = some (.int .i64 t.a) ∧ y.cell? ⟨y5.heap.size, 4, none⟩ = some (.int .i64 t.b) ∧ y.cell? ⟨y5.heap.size, 5, none⟩ = some (.int .i64 t.n) ∧ y.cell? ⟨y5.heap.size, 6, none⟩ = some (.slice none 0 0))) (by kernel_rfl) (HSX.out _ (Below.refl _ _).drew) (fun hHeld => ?_)
    refine tj 0 ?_
    simp only [Act.put, zA, zB, zC]
    refine tj 1 ?_
    simp only [Act.put, zA, zB, zC]
    refine tr [2] ?_
    refine AllReadyH.cons (tA rfl) (fun K hK => ?_) AllReadyH.nil
    go_simp
    refine (hmay _).mono ?_
    rintro e y7 ⟨he, hb7⟩
    rw [he]
    have HB7 : Hid (Below wr.heap.size wr y7) := (Below.refl _ _).drew.trans hb7
    have HRES : Hid (Bx y7 w.heap.size [.int .i64 0, .string { data := #[] }, .int .i64 0, .int .i64 0, .int .i64 0, .int .i64 0, .slice none 0 0]) := HTW.out.r.below HB7.out
    have c0 := HRES.out.c 0 _ rfl; have c1 := HRES.out.c 1 _ rfl; have c2 := HRES.out.c 2 _ rfl; have c3 := HRES.out.c 3 _ rfl; have c4 := HRES.out.c 4 _ rfl; have c5 := HRES.out.c 5 _ rfl; have c6 := HRES.out.c 6 _ rfl
    have f0 := HRES.out.f 0; have f1 := HRES.out.f 1; have f2 := HRES.out.f 2; have f3 := HRES.out.f 3; have f4 := HRES.out.f 4; have f5 := HRES.out.f 5; have f6 := HRES.out.f 6
    clear hb7 he e
    refine hK.out _ _ (HSX.out _ HB7.out) (fun hHeld => ?_)
    clear hK K
    try simp only [Act.put, zA, zB, zC]
    refine tr [3] ?_
    refine AllReadyH.cons (tA rfl) (fun K hK => ?_) AllReadyH.nil
    go_simp
    have HX7 : Bx (((((((y7.setCell ⟨w.heap.size, 0, none⟩ (.int .i64 t.kind)).setCell ⟨w.heap.size, 1, none⟩ (.string (X.str t.name))).setCell ⟨w.heap.size, 2, none⟩ (.int .i64 t.op)).setCell ⟨w.heap.size, 3, none⟩ (.int .i64 t.a)).setCell ⟨w.heap.size, 4, none⟩ (.int .i64 t.b)).setCell ⟨w.heap.size, 5, none⟩ (.int .i64 t.n)).setCell ⟨w.heap.size, 6, none⟩ (.slice none 0 0)) y5.heap.size (itC t (.slice none 0 0)) := Bx.far7 (HTW.out.x.below HB7.out) (Nat.ne_of_gt HTW.out.ne)
    refine hK.out _ _ ⟨HX7.c 0 _ rfl, HX7.c 1 _ rfl, HX7.c 2 _ rfl, HX7.c 3 _ rfl, HX7.c 4 _ rfl, HX7.c 5 _ rfl, HX7.c 6 _ rfl⟩ (fun hHeld => ?_)
    clear hK K
    try simp only [Act.put, zA, zB, zC]
    refine tj 4 ?_
    simp only [Act.put, zA, zB, zC]
    refine wpAnyH_done (by kernel_rfl) ?_ _
    clear hHeld
    have HF := Bx.put7 HRES.out rfl (.int .i64 t.kind) (.string (X.str t.name)) (.int .i64 t.op) (.int .i64 t.a) (.int .i64 t.b) (.int .i64 t.n) (.slice none 0 0)
    have HE : Below w.heap.size w (((((((y7.setCell ⟨w.heap.size, 0, none⟩ (.int .i64 t.kind)).setCell ⟨w.heap.size, 1, none⟩ (.string (X.str t.name))).setCell ⟨w.heap.size, 2, none⟩ (.int .i64 t.op)).setCell ⟨w.heap.size, 3, none⟩ (.int .i64 t.a)).setCell ⟨w.heap.size, 4, none⟩ (.int .i64 t.b)).setCell ⟨w.heap.size, 5, none⟩ (.int .i64 t.n)).setCell ⟨w.heap.size, 6, none⟩ (.slice none 0 0)) := below_put7 (HTW.out.b.trans (HB7.out.mono HTW.out.b.size)) (Nat.le_refl _)
    clear c0 c1 c2 c3 c4 c5 c6 f0 f1 f2 f3 f4 f5 f6 HX7
    generalize (((((((y7.setCell ⟨w.heap.size, 0, none⟩ (.int .i64 t.kind)).setCell ⟨w.heap.size, 1, none⟩ (.string (X.str t.name))).setCell ⟨w.heap.size, 2, none⟩ (.int .i64 t.op)).setCell ⟨w.heap.size, 3, none⟩ (.int .i64 t.a)).setCell ⟨w.heap.size, 4, none⟩ (.int .i64 t.b)).setCell ⟨w.heap.size, 5, none⟩ (.int .i64 t.n)).setCell ⟨w.heap.size, 6, none⟩ (.slice none 0 0)) = Wf at HF HE ⊢
    have k0 := HF.c 0 _ rfl; have k1 := HF.c 1 _ rfl; have k2 := HF.c 2 _ rfl; have k3 := HF.c 3 _ rfl; have k4 := HF.c 4 _ rfl; have k5 := HF.c 5 _ rfl; have k6 := HF.c 6 _ rfl
    have HF' : Hid _ := HF
    have HE' : Hid _ := HE
    clear HF HE
    go_wp2_with fail
    refine bodyPost_ret (v := .tuple #[.agg #[.int .i64 t.kind, .string (X.str t.name), .int .i64 t.op, .int .i64 t.a, .int .i64 t.b, .int .i64 t.n, .slice none 0 0], .bool zt]) (by simp [results, Tryz.results61, go_sem, k0, k1, k2, k3, k4, k5, k6]) rfl ?_
    exact ⟨t, none, 0, 0, zt, rfl, fun e => by rw [HR3.out, HZT.out, if_pos e], fun e => by rw [HR3.out, HZT.out, if_neg (by rw [e]; simp)], HT2.out, by rw [HW1.out]; exact own_none _ _ _, HE'.out⟩
end Go.Proofs.YtgjingleolhkbaaGreatDoor

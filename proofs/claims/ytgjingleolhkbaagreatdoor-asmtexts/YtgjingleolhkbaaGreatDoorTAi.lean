/- The item of a line's words. -/
import Derived.Test.YtgjingleolhkbaaGreatDoorTAh
namespace Go.Proofs.YtgjingleolhkbaaGreatDoor
open Go.RowKit
set_option linter.unusedVariables false
set_option linter.unusedSimpArgs false

theorem Bx.far7 {x : World} {b d : Nat} {vs : List Value} {u0 u1 u2 u3 u4 u5 u6 : Value} (h : Bx x b vs) (hne : b ≠ d) : Bx (((((((x.setCell ⟨d, 0, none⟩ (u0)).setCell ⟨d, 1, none⟩ (u1)).setCell ⟨d, 2, none⟩ (u2)).setCell ⟨d, 3, none⟩ (u3)).setCell ⟨d, 4, none⟩ (u4)).setCell ⟨d, 5, none⟩ (u5)).setCell ⟨d, 6, none⟩ (u6)) b vs := by
 have st : ∀ {y : World} {o : Nat} {u : Value}, Bx y b vs → Bx (y.setCell ⟨d, o, none⟩ u) b vs := fun h => h.gb (gb_set _ _ _) hne
 exact st (st (st (st (st (st (st h))))))
theorem put7_S {x : World} {b d : Nat} {u0 u1 u2 u3 u4 u5 u6 v0 v1 v2 v3 v4 v5 v6 : Value} (h : Bx x b [v0, v1, v2, v3, v4, v5, v6]) (hne : b ≠ d) : let z := (((((((x.setCell ⟨d, 0, none⟩ (u0)).setCell ⟨d, 1, none⟩ (u1)).setCell ⟨d, 2, none⟩ (u2)).setCell ⟨d, 3, none⟩ (u3)).setCell ⟨d, 4, none⟩ (u4)).setCell ⟨d, 5, none⟩ (u5)).setCell ⟨d, 6, none⟩ (u6)); z.cell? ⟨b, 0, none⟩ = some v0 ∧ z.cell? ⟨b, 1, none⟩ = some v1 ∧ z.cell? ⟨b, 2, none⟩ = some v2 ∧ z.cell? ⟨b, 3, none⟩ = some v3 ∧ z.cell? ⟨b, 4, none⟩ = some v4 ∧ z.cell? ⟨b, 5, none⟩ = some v5 ∧ z.cell? ⟨b, 6, none⟩ = some v6 := by
 have st : ∀ {y : World} {o : Nat} {u : Value}, Bx y b [v0, v1, v2, v3, v4, v5, v6] → Bx (y.setCell ⟨d, o, none⟩ u) b [v0, v1, v2, v3, v4, v5, v6] := fun h => h.gb (gb_set _ _ _) hne
 have q : Bx (((((((x.setCell ⟨d, 0, none⟩ (u0)).setCell ⟨d, 1, none⟩ (u1)).setCell ⟨d, 2, none⟩ (u2)).setCell ⟨d, 3, none⟩ (u3)).setCell ⟨d, 4, none⟩ (u4)).setCell ⟨d, 5, none⟩ (u5)).setCell ⟨d, 6, none⟩ (u6)) b [v0, v1, v2, v3, v4, v5, v6] := st (st (st (st (st (st (st h))))))
 exact ⟨q.c 0 _ rfl, q.c 1 _ rfl, q.c 2 _ rfl, q.c 3 _ rfl, q.c 4 _ rfl, q.c 5 _ rfl, q.c 6 _ rfl⟩

set_option maxRecDepth 100000 in
set_option maxHeartbeats 8000000 in
theorem read_any {w : World} {a : Option Addr} {n c : Nat} {ws : List X.By} (h : StrV w a n c ws) (hn : n ≤ 200000) (hne : ws ≠ []) (ht : Tab w) :
  Calls Tryz.prog 63 #[.slice a n c] w (TakeOut w (X.read ws)) := by
 have HT : Hid _ := ht
 have hz7 := ht.hz
 obtain ⟨x, ws, rfl⟩ : ∃ x r, ws = x :: r := by
  cases ws with
  | nil => exact absurd rfl hne
  | cons x r => exact ⟨x, r, rfl⟩
 obtain ⟨n, rfl⟩ : ∃ m, n = m + 1 := ⟨n - 1, by have := h.count; simp at this; omega⟩
 obtain ⟨c, rfl⟩ : ∃ m, c = m + 1 := ⟨c - 1, by have := h.room; omega⟩
 obtain ⟨b, off, f, rfl, d0, hs0, hf⟩ := h.at (i := 0) (by omega)
 have hx : f.data.toList = x := by simpa using hs0
 subst hx
 have hroom := h.room
 obtain ⟨hr1, hr2⟩ := hroom
 unfold maxLen at hr2
 have HV : Hid (StrV w (some ⟨b, off + 1, none⟩) n c ws) := h.tail
 have HCT : Hid (ws.length = n) := h.tail.count
 have d0' : w.cell? ⟨b, off, none⟩ = some (.string f) := by simpa using d0
 have HS : Hid (∀ y, Below (w.alloc (.cells #[.int .i64 0, .string { data := #[] }, .int .i64 0, .int .i64 0, .int .i64 0, .int .i64 0, .slice none 0 0] 44)).heap.size (w.alloc (.cells #[.int .i64 0, .string { data := #[] }, .int .i64 0, .int .i64 0, .int .i64 0, .int .i64 0, .slice none 0 0] 44)) y → y.cell? ⟨b, off, none⟩ = some (.string f)) := fun y hy => cell_thru hy (cell_thru (bl1 _ _) d0')
 have HZ : Hid (Bx (w.alloc (.cells #[.int .i64 0, .string { data := #[] }, .int .i64 0, .int .i64 0, .int .i64 0, .int .i64 0, .slice none 0 0] 44)) w.heap.size [.int .i64 0, .string { data := #[] }, .int .i64 0, .int .i64 0, .int .i64 0, .int .i64 0, .slice none 0 0]) := Bx.new _ _ _
 have hn : n ≤ 200000 := by omega
 have i1 : (0 : Int) < ((n + 1 : Nat) : Int) := by omega
 have i2 : (1 : Int) ≤ ((n + 1 : Nat) : Int) := by omega
 have i3 : ((n + 1 : Nat) : Int) ≤ ((c + 1 : Nat) : Int) := by omega
 have i4 : (1 : Int) ≤ (n : Int) + 1 := by omega
 have i5 : (0 : Int) < (n : Int) + 1 := by omega
 have i6 : (n : Int) + 1 ≤ (c : Int) + 1 := by omega
 clear h ht hs0 d0 d0' hne
 by_cases hc0 : c = 0
 ·subst hc0
  obtain rfl : n = 0 := by omega
  clear i1 i2 i3 i4 i5 i6 hr1 hr2
  have HV : Hid (StrV w (some ⟨b, off, none⟩) 0 0 ws) := ⟨HCT.out, ⟨Nat.le_refl _, Nat.zero_le _⟩, HV.out.small, .inl rfl⟩
  go_enter Tryz.func63, Tryz.ntmps63
  go_wp2_with fail
  refine wp_region_held_drew (S := (fun y : World => y.cell? ⟨b, off, none⟩ = some (.string f))) (by kernel_rfl) (HS.out _ (Below.refl _ _).drew) (fun hHeld => ?_)
  refine tj 0 ?_
  simp only [Act.put, zA, zB, zC]
  refine tj 1 ?_
  simp only [Act.put, zA, zB, zC]
  refine tj 2 ?_
  simp only [Act.put, zA, zB, zC]
  refine tj 3 ?_
  simp only [Act.put, zA, zB, zC]
  refine tj 4 ?_
  simp only [Act.put, zA, zB, zC]
  refine tr [5, 9] ?_
  refine AllReadyH.cons (tA rfl) (fun K hK => ?_) (AllReadyH.cons (tA rfl) (fun K hK => ?_) AllReadyH.nil)
  ·go_simp
   refine (take_any f hf (HV.out.below ((bl1 _ _).trans (Below.refl _ _).drew)) (by omega) ((HT.out.alloc _).below (Below.refl _ _).drew)).mono ?_
   rintro e y ⟨t, aw, lw, cw, ok, rfl, h1, h2, h3, ho, hb⟩
   have HH : Hid ((ok = true → X.take f.data.toList ws = some t) ∧ (ok = false → X.take f.data.toList ws = none) ∧ t.name.length ≤ 200000) := ⟨h1, h2, h3⟩
   have HB : Hid (Below (w.alloc (.cells #[.int .i64 0, .string { data := #[] }, .int .i64 0, .int .i64 0, .int .i64 0, .int .i64 0, .slice none 0 0] 44)).heap.size (w.alloc (.cells #[.int .i64 0, .string { data := #[] }, .int .i64 0, .int .i64 0, .int .i64 0, .int .i64 0, .slice none 0 0] 44)) y) := (Below.refl _ _).drew.trans hb
   have HO : Hid (y.ownsRow (w.alloc (.cells #[.int .i64 0, .string { data := #[] }, .int .i64 0, .int .i64 0, .int .i64 0, .int .i64 0, .slice none 0 0] 44)).heap.size 2 1 (.slice aw lw cw) lw (iC t.words)) := ho
   clear h1 h2 h3 ho hb
   refine hK.out _ _ (HS.out _ HB.out) (fun hHeld => ?_)
   clear hK K
   try simp only [Act.put, zA, zB, zC]
   refine tj 6 ?_
   simp only [Act.put, zA, zB, zC]
   refine tj 7 ?_
   simp only [Act.put, zA, zB, zC]
   refine tj 8 ?_
   simp only [Act.put, zA, zB, zC]
   refine tr [9] ?_
   refine AllReadyH.cons (tA rfl) (fun K hK => ?_) AllReadyH.nil
   go_simp
   refine hK.out _ _ (HS.out _ (HB.out.alloc HB.out.size _)) (fun hHeld => ?_)
   clear hK K
   try simp only [Act.put, zA, zB, zC]
   refine tr [10] ?_
   refine AllReadyH.cons (tA rfl) (fun K hK => ?_) AllReadyH.nil
   go_simp
   refine hK.out _ _ (HS.out _ (HB.out.alloc HB.out.size _)) (fun hHeld => ?_)
   clear hK K
   try simp only [Act.put, zA, zB, zC]
   refine tj 11 ?_
   simp only [Act.put, zA, zB, zC]
   refine wpAnyH_done (by kernel_rfl) ?_ _
   clear hHeld
   go_wp2_with fail
   have HBX : Hid (Bx (y.alloc (.cells #[.int .i64 t.kind, .string (X.str t.name), .int .i64 t.op, .int .i64 t.a, .int .i64 t.b, .int .i64 t.n, .slice aw lw cw] 44)) y.heap.size [.int .i64 t.kind, .string (X.str t.name), .int .i64 t.op, .int .i64 t.a, .int .i64 t.b, .int .i64 t.n, .slice aw lw cw]) := Bx.new _ _ _
   have HRS : Hid (Bx (y.alloc (.cells #[.int .i64 t.kind, .string (X.str t.name), .int .i64 t.op, .int .i64 t.a, .int .i64 t.b, .int .i64 t.n, .slice aw lw cw] 44)) w.heap.size [.int .i64 0, .string { data := #[] }, .int .i64 0, .int .i64 0, .int .i64 0, .int .i64 0, .slice none 0 0]) := (HZ.out.below HB.out).below (bl1 _ _)
   have HW : Hid (Below w.heap.size w (y.alloc (.cells #[.int .i64 t.kind, .string (X.str t.name), .int .i64 t.op, .int .i64 t.a, .int .i64 t.b, .int .i64 t.n, .slice aw lw cw] 44))) := (bl1 _ _).trans ((HB.out.alloc HB.out.size _).mono (bl1 _ _).size)
   have HTY : Hid (Tab (y.alloc (.cells #[.int .i64 t.kind, .string (X.str t.name), .int .i64 t.op, .int .i64 t.a, .int .i64 t.b, .int .i64 t.n, .slice aw lw cw] 44))) := HT.out.below HW.out
   have HOY : Hid (World.ownsRow (y.alloc (.cells #[.int .i64 t.kind, .string (X.str t.name), .int .i64 t.op, .int .i64 t.a, .int .i64 t.b, .int .i64 t.n, .slice aw lw cw] 44)) (w.alloc (.cells #[.int .i64 0, .string { data := #[] }, .int .i64 0, .int .i64 0, .int .i64 0, .int .i64 0, .slice none 0 0] 44)).heap.size 2 1 (.slice aw lw cw) lw (iC t.words)) := own_thru HO.out (bl1 _ _)
   have hlw : t.words.length = lw := by have := HOY.out.1; unfold iC at this; simpa using this
   have hmb := fun w h => mayBe_any t.kind (X.str t.name) t.op t.a t.b t.n aw lw cw t.words hlw (by rw [str_size]; have := HH.out.2.2; unfold maxLen; omega) w h
   simp only [str_list] at hmb
   rw [show (⟨t.kind, t.name, t.op, t.a, t.b, t.n, t.words⟩ : X.It) = t from rfl] at hmb
   have hly : y.heap.size ≠ w.heap.size := by have := HB.out.size; simp at this; omega
   generalize hY : (y.alloc (.cells #[.int .i64 t.kind, .string (X.str t.name), .int .i64 t.op, .int .i64 t.a, .int .i64 t.b, .int .i64 t.n, .slice aw lw cw] 44)) = Y at HBX HRS HW HTY HOY ⊢
   clear hY HB HO
   generalize y.heap.size = pb at *
   have HS2 : Hid (∀ z, Below Y.heap.size Y z → (fun z : World => z.cell? ⟨pb, 0, none⟩ = some (.int .i64 t.kind) ∧ z.cell? ⟨pb, 1, none⟩ = some (.string (X.str t.name)) ∧ z.cell? ⟨pb, 2, none⟩ = some (.int .i64 t.op) ∧ z.cell? ⟨pb, 3, none⟩ = some (.int .i64 t.a) ∧ z.cell? ⟨pb, 4, none⟩ = some (.int .i64 t.b) ∧ z.cell? ⟨pb, 5, none⟩ = some (.int .i64 t.n) ∧ z.cell? ⟨pb, 6, none⟩ = some (.slice aw lw cw)) z) := fun z hz => by
    have q := HBX.out.below hz
    exact ⟨q.c 0 _ rfl, q.c 1 _ rfl, q.c 2 _ rfl, q.c 3 _ rfl, q.c 4 _ rfl, q.c 5 _ rfl, q.c 6 _ rfl⟩
   cases ok with
   | false =>
    have HN : Hid (X.read (f.data.toList :: ws) = none) := by show _ = _; simp [X.read, HH.out.2.1 rfl]
    refine wp_region_held_drew (S := (fun z : World => z.cell? ⟨pb, 0, none⟩ = some (.int .i64 t.kind) ∧ z.cell? ⟨pb, 1, none⟩ = some (.string (X.str t.name)) ∧ z.cell? ⟨pb, 2, none⟩ = some (.int .i64 t.op) ∧ z.cell? ⟨pb, 3, none⟩ = some (.int .i64 t.a) ∧ z.cell? ⟨pb, 4, none⟩ = some (.int .i64 t.b) ∧ z.cell? ⟨pb, 5, none⟩ = some (.int .i64 t.n) ∧ z.cell? ⟨pb, 6, none⟩ = some (.slice aw lw cw))) (by kernel_rfl) (HS2.out _ (Below.refl _ _).drew) (fun hHeld => ?_)
    refine tj 0 ?_
    simp only [Act.put, zA, zB, zC]
    refine tj 1 ?_
    simp only [Act.put, zA, zB, zC]
    refine tj 2 ?_
    simp only [Act.put, zA, zB, zC]
    refine tu 3 ?_
    simp only [Act.put, zA, zB, zC]
    refine tu 4 ?_
    simp only [Act.put, zA, zB, zC]
    refine tj 5 ?_
    simp only [Act.put, zA, zB, zC]
    obtain ⟨Q, hQ⟩ : ∃ Q, Y.drew = Q := ⟨_, rfl⟩
    have HBQ : Hid (Below Y.heap.size Y Q) := by show Below _ _ _; rw [← hQ]; exact (Below.refl _ _).drew
    rw [hQ]
    clear hQ
    have HQ := HRS.out.below HBQ.out
    have HQ' : Hid _ := HQ
    have c0 := HQ.c 0 _ rfl; have c1 := HQ.c 1 _ rfl; have c2 := HQ.c 2 _ rfl; have c3 := HQ.c 3 _ rfl; have c4 := HQ.c 4 _ rfl; have c5 := HQ.c 5 _ rfl; have c6 := HQ.c 6 _ rfl
    have f0 := HQ.f 0; have f1 := HQ.f 1; have f2 := HQ.f 2; have f3 := HQ.f 3; have f4 := HQ.f 4; have f5 := HQ.f 5; have f6 := HQ.f 6
    have HWQ : Hid (Below w.heap.size w Q) := HW.out.trans (HBQ.out.mono HW.out.size)
    have HOQ : Hid (Q.ownsRow (w.alloc (.cells #[.int .i64 0, .string { data := #[] }, .int .i64 0, .int .i64 0, .int .i64 0, .int .i64 0, .slice none 0 0] 44)).heap.size 2 1 (.slice aw lw cw) lw (iC t.words)) := own_thru HOY.out HBQ.out
    clear HQ hmb
    refine tr [6] ?_
    refine AllReadyH.cons (tA rfl) (fun K hK => ?_) AllReadyH.nil
    clear hHeld
    go_simp
    have HPS := (HBX.out.below HBQ.out)
    refine hK.out _ _ ?_ (fun hHeld => ?_)
    ·exact put7_S HPS hly
    clear hK K
    try simp only [Act.put, zA, zB, zC]
    refine tj 7 ?_
    simp only [Act.put, zA, zB, zC]
    refine wpAnyH_done (by kernel_rfl) ?_ _
    clear hHeld c0 c1 c2 c3 c4 c5 c6 f0 f1 f2 f3 f4 f5 f6
    have HOF := put7_own (b := w.heap.size) (u0 := .int .i64 t.kind) (u1 := .string (X.str t.name)) (u2 := .int .i64 t.op) (u3 := .int .i64 t.a) (u4 := .int .i64 t.b) (u5 := .int .i64 t.n) (u6 := .slice aw lw cw) HOQ.out (show w.heap.size < (w.alloc (.cells #[.int .i64 0, .string { data := #[] }, .int .i64 0, .int .i64 0, .int .i64 0, .int .i64 0, .slice none 0 0] 44)).heap.size by simp)
    have HF := Bx.put7 HQ'.out rfl (.int .i64 t.kind) (.string (X.str t.name)) (.int .i64 t.op) (.int .i64 t.a) (.int .i64 t.b) (.int .i64 t.n) (.slice aw lw cw)
    have HE : Below w.heap.size w (((((((Q.setCell ⟨w.heap.size, 0, none⟩ (.int .i64 t.kind)).setCell ⟨w.heap.size, 1, none⟩ (.string (X.str t.name))).setCell ⟨w.heap.size, 2, none⟩ (.int .i64 t.op)).setCell ⟨w.heap.size, 3, none⟩ (.int .i64 t.a)).setCell ⟨w.heap.size, 4, none⟩ (.int .i64 t.b)).setCell ⟨w.heap.size, 5, none⟩ (.int .i64 t.n)).setCell ⟨w.heap.size, 6, none⟩ (.slice aw lw cw)) := below_put7 HWQ.out (Nat.le_refl _)
    generalize (((((((Q.setCell ⟨w.heap.size, 0, none⟩ (.int .i64 t.kind)).setCell ⟨w.heap.size, 1, none⟩ (.string (X.str t.name))).setCell ⟨w.heap.size, 2, none⟩ (.int .i64 t.op)).setCell ⟨w.heap.size, 3, none⟩ (.int .i64 t.a)).setCell ⟨w.heap.size, 4, none⟩ (.int .i64 t.b)).setCell ⟨w.heap.size, 5, none⟩ (.int .i64 t.n)).setCell ⟨w.heap.size, 6, none⟩ (.slice aw lw cw)) = Wf at HF HE HOF ⊢
    have k0 := HF.c 0 _ rfl; have k1 := HF.c 1 _ rfl; have k2 := HF.c 2 _ rfl; have k3 := HF.c 3 _ rfl; have k4 := HF.c 4 _ rfl; have k5 := HF.c 5 _ rfl; have k6 := HF.c 6 _ rfl
    clear HPS
    go_wp2_with fail
    refine bodyPost_ret (v := .tuple #[.agg #[.int .i64 t.kind, .string (X.str t.name), .int .i64 t.op, .int .i64 t.a, .int .i64 t.b, .int .i64 t.n, .slice aw lw cw], .bool false]) (by simp [results, Tryz.results63, go_sem, k0, k1, k2, k3, k4, k5, k6]) rfl ?_
    exact ⟨t, aw, lw, cw, false, rfl, (fun h => by cases h), fun _ => HN.out, HH.out.2.2, own_baseB HOF (by simp), HE⟩
   | true =>
    cases hmk : X.itOk t
    ·rw [hmk] at hmb
     have HN : Hid (X.read (f.data.toList :: ws) = none) := by show _ = _; simp [X.read, HH.out.1 rfl, hmk]
     refine wp_region_held_drew (S := (fun z : World => z.cell? ⟨pb, 0, none⟩ = some (.int .i64 t.kind) ∧ z.cell? ⟨pb, 1, none⟩ = some (.string (X.str t.name)) ∧ z.cell? ⟨pb, 2, none⟩ = some (.int .i64 t.op) ∧ z.cell? ⟨pb, 3, none⟩ = some (.int .i64 t.a) ∧ z.cell? ⟨pb, 4, none⟩ = some (.int .i64 t.b) ∧ z.cell? ⟨pb, 5, none⟩ = some (.int .i64 t.n) ∧ z.cell? ⟨pb, 6, none⟩ = some (.slice aw lw cw))) (by kernel_rfl) (HS2.out _ (Below.refl _ _).drew) (fun hHeld => ?_)
     refine tj 0 ?_
     simp only [Act.put, zA, zB, zC]
     refine tj 1 ?_
     simp only [Act.put, zA, zB, zC]
     refine tj 2 ?_
     simp only [Act.put, zA, zB, zC]
     refine tj 3 ?_
     simp only [Act.put, zA, zB, zC]
     refine tr [4] ?_
     refine AllReadyH.cons (tA rfl) (fun K hK => ?_) AllReadyH.nil
     go_simp
     refine (hmb _ (HTY.out.below (Below.refl _ _).drew)).mono ?_
     rintro e Q ⟨rfl, hb2⟩
     have HBQ : Hid (Below Y.heap.size Y Q) := (Below.refl _ _).drew.trans hb2
     clear hb2
     refine hK.out _ _ (HS2.out _ HBQ.out) (fun hHeld => ?_)
     clear hK K
     try simp only [Act.put, zA, zB, zC]
     refine tj 5 ?_
     simp only [Act.put, zA, zB, zC]
     have HQ := HRS.out.below HBQ.out
     have HQ' : Hid _ := HQ
     have c0 := HQ.c 0 _ rfl; have c1 := HQ.c 1 _ rfl; have c2 := HQ.c 2 _ rfl; have c3 := HQ.c 3 _ rfl; have c4 := HQ.c 4 _ rfl; have c5 := HQ.c 5 _ rfl; have c6 := HQ.c 6 _ rfl
     have f0 := HQ.f 0; have f1 := HQ.f 1; have f2 := HQ.f 2; have f3 := HQ.f 3; have f4 := HQ.f 4; have f5 := HQ.f 5; have f6 := HQ.f 6
     have HWQ : Hid (Below w.heap.size w Q) := HW.out.trans (HBQ.out.mono HW.out.size)
     have HOQ : Hid (Q.ownsRow (w.alloc (.cells #[.int .i64 0, .string { data := #[] }, .int .i64 0, .int .i64 0, .int .i64 0, .int .i64 0, .slice none 0 0] 44)).heap.size 2 1 (.slice aw lw cw) lw (iC t.words)) := own_thru HOY.out HBQ.out
     clear HQ hmb
     refine tr [6] ?_
     refine AllReadyH.cons (tA rfl) (fun K hK => ?_) AllReadyH.nil
     clear hHeld
     go_simp
     have HPS := (HBX.out.below HBQ.out)
     refine hK.out _ _ ?_ (fun hHeld => ?_)
     ·exact put7_S HPS hly
     clear hK K
     try simp only [Act.put, zA, zB, zC]
     refine tj 7 ?_
     simp only [Act.put, zA, zB, zC]
     refine wpAnyH_done (by kernel_rfl) ?_ _
     clear hHeld c0 c1 c2 c3 c4 c5 c6 f0 f1 f2 f3 f4 f5 f6
     have HOF := put7_own (b := w.heap.size) (u0 := .int .i64 t.kind) (u1 := .string (X.str t.name)) (u2 := .int .i64 t.op) (u3 := .int .i64 t.a) (u4 := .int .i64 t.b) (u5 := .int .i64 t.n) (u6 := .slice aw lw cw) HOQ.out (show w.heap.size < (w.alloc (.cells #[.int .i64 0, .string { data := #[] }, .int .i64 0, .int .i64 0, .int .i64 0, .int .i64 0, .slice none 0 0] 44)).heap.size by simp)
     have HF := Bx.put7 HQ'.out rfl (.int .i64 t.kind) (.string (X.str t.name)) (.int .i64 t.op) (.int .i64 t.a) (.int .i64 t.b) (.int .i64 t.n) (.slice aw lw cw)
     have HE : Below w.heap.size w (((((((Q.setCell ⟨w.heap.size, 0, none⟩ (.int .i64 t.kind)).setCell ⟨w.heap.size, 1, none⟩ (.string (X.str t.name))).setCell ⟨w.heap.size, 2, none⟩ (.int .i64 t.op)).setCell ⟨w.heap.size, 3, none⟩ (.int .i64 t.a)).setCell ⟨w.heap.size, 4, none⟩ (.int .i64 t.b)).setCell ⟨w.heap.size, 5, none⟩ (.int .i64 t.n)).setCell ⟨w.heap.size, 6, none⟩ (.slice aw lw cw)) := below_put7 HWQ.out (Nat.le_refl _)
     generalize (((((((Q.setCell ⟨w.heap.size, 0, none⟩ (.int .i64 t.kind)).setCell ⟨w.heap.size, 1, none⟩ (.string (X.str t.name))).setCell ⟨w.heap.size, 2, none⟩ (.int .i64 t.op)).setCell ⟨w.heap.size, 3, none⟩ (.int .i64 t.a)).setCell ⟨w.heap.size, 4, none⟩ (.int .i64 t.b)).setCell ⟨w.heap.size, 5, none⟩ (.int .i64 t.n)).setCell ⟨w.heap.size, 6, none⟩ (.slice aw lw cw)) = Wf at HF HE HOF ⊢
     have k0 := HF.c 0 _ rfl; have k1 := HF.c 1 _ rfl; have k2 := HF.c 2 _ rfl; have k3 := HF.c 3 _ rfl; have k4 := HF.c 4 _ rfl; have k5 := HF.c 5 _ rfl; have k6 := HF.c 6 _ rfl
     clear HPS
     go_wp2_with fail
     refine bodyPost_ret (v := .tuple #[.agg #[.int .i64 t.kind, .string (X.str t.name), .int .i64 t.op, .int .i64 t.a, .int .i64 t.b, .int .i64 t.n, .slice aw lw cw], .bool false]) (by simp [results, Tryz.results63, go_sem, k0, k1, k2, k3, k4, k5, k6]) rfl ?_
     exact ⟨t, aw, lw, cw, false, rfl, (fun h => by cases h), fun _ => HN.out, HH.out.2.2, own_baseB HOF (by simp), HE⟩
    ·rw [hmk] at hmb
     have HN : Hid (X.read (f.data.toList :: ws) = some t) := by show _ = _; simp [X.read, HH.out.1 rfl, hmk]
     refine wp_region_held_drew (S := (fun z : World => z.cell? ⟨pb, 0, none⟩ = some (.int .i64 t.kind) ∧ z.cell? ⟨pb, 1, none⟩ = some (.string (X.str t.name)) ∧ z.cell? ⟨pb, 2, none⟩ = some (.int .i64 t.op) ∧ z.cell? ⟨pb, 3, none⟩ = some (.int .i64 t.a) ∧ z.cell? ⟨pb, 4, none⟩ = some (.int .i64 t.b) ∧ z.cell? ⟨pb, 5, none⟩ = some (.int .i64 t.n) ∧ z.cell? ⟨pb, 6, none⟩ = some (.slice aw lw cw))) (by kernel_rfl) (HS2.out _ (Below.refl _ _).drew) (fun hHeld => ?_)
     refine tj 0 ?_
     simp only [Act.put, zA, zB, zC]
     refine tj 1 ?_
     simp only [Act.put, zA, zB, zC]
     refine tj 2 ?_
     simp only [Act.put, zA, zB, zC]
     refine tj 3 ?_
     simp only [Act.put, zA, zB, zC]
     refine tr [4] ?_
     refine AllReadyH.cons (tA rfl) (fun K hK => ?_) AllReadyH.nil
     go_simp
     refine (hmb _ (HTY.out.below (Below.refl _ _).drew)).mono ?_
     rintro e Q ⟨rfl, hb2⟩
     have HBQ : Hid (Below Y.heap.size Y Q) := (Below.refl _ _).drew.trans hb2
     clear hb2
     refine hK.out _ _ (HS2.out _ HBQ.out) (fun hHeld => ?_)
     clear hK K
     try simp only [Act.put, zA, zB, zC]
     refine tj 5 ?_
     simp only [Act.put, zA, zB, zC]
     have HQ := HRS.out.below HBQ.out
     have HQ' : Hid _ := HQ
     have c0 := HQ.c 0 _ rfl; have c1 := HQ.c 1 _ rfl; have c2 := HQ.c 2 _ rfl; have c3 := HQ.c 3 _ rfl; have c4 := HQ.c 4 _ rfl; have c5 := HQ.c 5 _ rfl; have c6 := HQ.c 6 _ rfl
     have f0 := HQ.f 0; have f1 := HQ.f 1; have f2 := HQ.f 2; have f3 := HQ.f 3; have f4 := HQ.f 4; have f5 := HQ.f 5; have f6 := HQ.f 6
     have HWQ : Hid (Below w.heap.size w Q) := HW.out.trans (HBQ.out.mono HW.out.size)
     have HOQ : Hid (Q.ownsRow (w.alloc (.cells #[.int .i64 0, .string { data := #[] }, .int .i64 0, .int .i64 0, .int .i64 0, .int .i64 0, .slice none 0 0] 44)).heap.size 2 1 (.slice aw lw cw) lw (iC t.words)) := own_thru HOY.out HBQ.out
     clear HQ hmb
     refine tr [6] ?_
     refine AllReadyH.cons (tA rfl) (fun K hK => ?_) AllReadyH.nil
     clear hHeld
     go_simp
     have HPS := (HBX.out.below HBQ.out)
     refine hK.out _ _ ?_ (fun hHeld => ?_)
     ·exact put7_S HPS hly
     clear hK K
     try simp only [Act.put, zA, zB, zC]
     refine tj 7 ?_
     simp only [Act.put, zA, zB, zC]
     refine wpAnyH_done (by kernel_rfl) ?_ _
     clear hHeld c0 c1 c2 c3 c4 c5 c6 f0 f1 f2 f3 f4 f5 f6
     have HOF := put7_own (b := w.heap.size) (u0 := .int .i64 t.kind) (u1 := .string (X.str t.name)) (u2 := .int .i64 t.op) (u3 := .int .i64 t.a) (u4 := .int .i64 t.b) (u5 := .int .i64 t.n) (u6 := .slice aw lw cw) HOQ.out (show w.heap.size < (w.alloc (.cells #[.int .i64 0, .string { data := #[] }, .int .i64 0, .int .i64 0, .int .i64 0, .int .i64 0, .slice none 0 0] 44)).heap.size by simp)
     have HF := Bx.put7 HQ'.out rfl (.int .i64 t.kind) (.string (X.str t.name)) (.int .i64 t.op) (.int .i64 t.a) (.int .i64 t.b) (.int .i64 t.n) (.slice aw lw cw)
     have HE : Below w.heap.size w (((((((Q.setCell ⟨w.heap.size, 0, none⟩ (.int .i64 t.kind)).setCell ⟨w.heap.size, 1, none⟩ (.string (X.str t.name))).setCell ⟨w.heap.size, 2, none⟩ (.int .i64 t.op)).setCell ⟨w.heap.size, 3, none⟩ (.int .i64 t.a)).setCell ⟨w.heap.size, 4, none⟩ (.int .i64 t.b)).setCell ⟨w.heap.size, 5, none⟩ (.int .i64 t.n)).setCell ⟨w.heap.size, 6, none⟩ (.slice aw lw cw)) := below_put7 HWQ.out (Nat.le_refl _)
     generalize (((((((Q.setCell ⟨w.heap.size, 0, none⟩ (.int .i64 t.kind)).setCell ⟨w.heap.size, 1, none⟩ (.string (X.str t.name))).setCell ⟨w.heap.size, 2, none⟩ (.int .i64 t.op)).setCell ⟨w.heap.size, 3, none⟩ (.int .i64 t.a)).setCell ⟨w.heap.size, 4, none⟩ (.int .i64 t.b)).setCell ⟨w.heap.size, 5, none⟩ (.int .i64 t.n)).setCell ⟨w.heap.size, 6, none⟩ (.slice aw lw cw)) = Wf at HF HE HOF ⊢
     have k0 := HF.c 0 _ rfl; have k1 := HF.c 1 _ rfl; have k2 := HF.c 2 _ rfl; have k3 := HF.c 3 _ rfl; have k4 := HF.c 4 _ rfl; have k5 := HF.c 5 _ rfl; have k6 := HF.c 6 _ rfl
     clear HPS
     go_wp2_with fail
     refine bodyPost_ret (v := .tuple #[.agg #[.int .i64 t.kind, .string (X.str t.name), .int .i64 t.op, .int .i64 t.a, .int .i64 t.b, .int .i64 t.n, .slice aw lw cw], .bool true]) (by simp [results, Tryz.results63, go_sem, k0, k1, k2, k3, k4, k5, k6]) rfl ?_
     exact ⟨t, aw, lw, cw, true, rfl, fun _ => HN.out, (fun h => by cases h), HH.out.2.2, own_baseB HOF (by simp), HE⟩
  ·go_simp
   have HXB : Hid (Below (w.alloc (.cells #[.int .i64 0, .string { data := #[] }, .int .i64 0, .int .i64 0, .int .i64 0, .int .i64 0, .slice none 0 0] 44)).heap.size (w.alloc (.cells #[.int .i64 0, .string { data := #[] }, .int .i64 0, .int .i64 0, .int .i64 0, .int .i64 0, .slice none 0 0] 44)) (((w.alloc (.cells #[.int .i64 0, .string { data := #[] }, .int .i64 0, .int .i64 0, .int .i64 0, .int .i64 0, .slice none 0 0] 44)).alloc (.cells #[.int .i64 0, .string { data := #[] }, .int .i64 0, .int .i64 0, .int .i64 0, .int .i64 0, .slice none 0 0] 44)).drew)) := (bl1 _ _).drew
   have HPB : Hid (Bx (((w.alloc (.cells #[.int .i64 0, .string { data := #[] }, .int .i64 0, .int .i64 0, .int .i64 0, .int .i64 0, .slice none 0 0] 44)).alloc (.cells #[.int .i64 0, .string { data := #[] }, .int .i64 0, .int .i64 0, .int .i64 0, .int .i64 0, .slice none 0 0] 44)).drew) (w.heap.size + 1) [.int .i64 0, .string { data := #[] }, .int .i64 0, .int .i64 0, .int .i64 0, .int .i64 0, .slice none 0 0]) := by show Bx _ _ _; have q := (Bx.new (w.alloc (.cells #[.int .i64 0, .string { data := #[] }, .int .i64 0, .int .i64 0, .int .i64 0, .int .i64 0, .slice none 0 0] 44)) #[.int .i64 0, .string { data := #[] }, .int .i64 0, .int .i64 0, .int .i64 0, .int .i64 0, .slice none 0 0] 44).below (Below.refl _ _).drew; simpa using q
   refine hK.out _ _ (HS.out _ HXB.out) (fun hHeld => ?_)
   clear hK K
   try simp only [Act.put, zA, zB, zC]
   refine tr [5] ?_
   refine AllReadyH.cons (tA rfl) (fun K hK => ?_) AllReadyH.nil
   go_simp
   refine (take_any f hf (HV.out.below ((bl1 _ _).trans (HXB.out.mono (bl1 _ _).size))) (by omega) ((HT.out.alloc _).below HXB.out)).mono ?_
   rintro e y ⟨t, aw, lw, cw, ok, rfl, h1, h2, h3, ho, hb⟩
   have HH : Hid ((ok = true → X.take f.data.toList ws = some t) ∧ (ok = false → X.take f.data.toList ws = none) ∧ t.name.length ≤ 200000) := ⟨h1, h2, h3⟩
   have HB : Hid (Below (w.alloc (.cells #[.int .i64 0, .string { data := #[] }, .int .i64 0, .int .i64 0, .int .i64 0, .int .i64 0, .slice none 0 0] 44)).heap.size (w.alloc (.cells #[.int .i64 0, .string { data := #[] }, .int .i64 0, .int .i64 0, .int .i64 0, .int .i64 0, .slice none 0 0] 44)) y) := HXB.out.trans (hb.mono HXB.out.size)
   have HPY : Hid (Bx y (w.heap.size + 1) [.int .i64 0, .string { data := #[] }, .int .i64 0, .int .i64 0, .int .i64 0, .int .i64 0, .slice none 0 0]) := HPB.out.below hb
   have HO : Hid (y.ownsRow (((w.alloc (.cells #[.int .i64 0, .string { data := #[] }, .int .i64 0, .int .i64 0, .int .i64 0, .int .i64 0, .slice none 0 0] 44)).alloc (.cells #[.int .i64 0, .string { data := #[] }, .int .i64 0, .int .i64 0, .int .i64 0, .int .i64 0, .slice none 0 0] 44)).drew).heap.size 2 1 (.slice aw lw cw) lw (iC t.words)) := ho
   clear h1 h2 h3 ho hb
   refine hK.out _ _ (HS.out _ HB.out) (fun hHeld => ?_)
   clear hK K
   try simp only [Act.put, zA, zB, zC]
   refine tj 6 ?_
   simp only [Act.put, zA, zB, zC]
   refine tj 7 ?_
   simp only [Act.put, zA, zB, zC]
   refine tj 8 ?_
   simp only [Act.put, zA, zB, zC]
   have HQ := HPY.out
   have c0 := HQ.c 0 _ rfl; have c1 := HQ.c 1 _ rfl; have c2 := HQ.c 2 _ rfl; have c3 := HQ.c 3 _ rfl; have c4 := HQ.c 4 _ rfl; have c5 := HQ.c 5 _ rfl; have c6 := HQ.c 6 _ rfl
   have f0 := HQ.f 0; have f1 := HQ.f 1; have f2 := HQ.f 2; have f3 := HQ.f 3; have f4 := HQ.f 4; have f5 := HQ.f 5; have f6 := HQ.f 6
   clear HQ
   refine tr [10] ?_
   refine AllReadyH.cons (tA rfl) (fun K hK => ?_) AllReadyH.nil
   go_simp
   have HCB : Hid (Below (w.alloc (.cells #[.int .i64 0, .string { data := #[] }, .int .i64 0, .int .i64 0, .int .i64 0, .int .i64 0, .slice none 0 0] 44)).heap.size (w.alloc (.cells #[.int .i64 0, .string { data := #[] }, .int .i64 0, .int .i64 0, .int .i64 0, .int .i64 0, .slice none 0 0] 44)) (((((((y.setCell ⟨w.heap.size + 1, 0, none⟩ (.int .i64 t.kind)).setCell ⟨w.heap.size + 1, 1, none⟩ (.string (X.str t.name))).setCell ⟨w.heap.size + 1, 2, none⟩ (.int .i64 t.op)).setCell ⟨w.heap.size + 1, 3, none⟩ (.int .i64 t.a)).setCell ⟨w.heap.size + 1, 4, none⟩ (.int .i64 t.b)).setCell ⟨w.heap.size + 1, 5, none⟩ (.int .i64 t.n)).setCell ⟨w.heap.size + 1, 6, none⟩ (.slice aw lw cw))) := below_put7 HB.out (by simp)
   refine hK.out _ _ (HS.out _ HCB.out) (fun hHeld => ?_)
   clear hK K c0 c1 c2 c3 c4 c5 c6 f0 f1 f2 f3 f4 f5 f6
   try simp only [Act.put, zA, zB, zC]
   refine tj 11 ?_
   simp only [Act.put, zA, zB, zC]
   refine wpAnyH_done (by kernel_rfl) ?_ _
   clear hHeld
   have HBX : Hid (Bx (((((((y.setCell ⟨w.heap.size + 1, 0, none⟩ (.int .i64 t.kind)).setCell ⟨w.heap.size + 1, 1, none⟩ (.string (X.str t.name))).setCell ⟨w.heap.size + 1, 2, none⟩ (.int .i64 t.op)).setCell ⟨w.heap.size + 1, 3, none⟩ (.int .i64 t.a)).setCell ⟨w.heap.size + 1, 4, none⟩ (.int .i64 t.b)).setCell ⟨w.heap.size + 1, 5, none⟩ (.int .i64 t.n)).setCell ⟨w.heap.size + 1, 6, none⟩ (.slice aw lw cw)) (w.heap.size + 1) [.int .i64 t.kind, .string (X.str t.name), .int .i64 t.op, .int .i64 t.a, .int .i64 t.b, .int .i64 t.n, .slice aw lw cw]) := Bx.put7 HPY.out rfl (.int .i64 t.kind) (.string (X.str t.name)) (.int .i64 t.op) (.int .i64 t.a) (.int .i64 t.b) (.int .i64 t.n) (.slice aw lw cw)
   have HRS : Hid (Bx (((((((y.setCell ⟨w.heap.size + 1, 0, none⟩ (.int .i64 t.kind)).setCell ⟨w.heap.size + 1, 1, none⟩ (.string (X.str t.name))).setCell ⟨w.heap.size + 1, 2, none⟩ (.int .i64 t.op)).setCell ⟨w.heap.size + 1, 3, none⟩ (.int .i64 t.a)).setCell ⟨w.heap.size + 1, 4, none⟩ (.int .i64 t.b)).setCell ⟨w.heap.size + 1, 5, none⟩ (.int .i64 t.n)).setCell ⟨w.heap.size + 1, 6, none⟩ (.slice aw lw cw)) w.heap.size [.int .i64 0, .string { data := #[] }, .int .i64 0, .int .i64 0, .int .i64 0, .int .i64 0, .slice none 0 0]) := Bx.far7 (HZ.out.below HB.out) (by simp)
   have HW : Hid (Below w.heap.size w (((((((y.setCell ⟨w.heap.size + 1, 0, none⟩ (.int .i64 t.kind)).setCell ⟨w.heap.size + 1, 1, none⟩ (.string (X.str t.name))).setCell ⟨w.heap.size + 1, 2, none⟩ (.int .i64 t.op)).setCell ⟨w.heap.size + 1, 3, none⟩ (.int .i64 t.a)).setCell ⟨w.heap.size + 1, 4, none⟩ (.int .i64 t.b)).setCell ⟨w.heap.size + 1, 5, none⟩ (.int .i64 t.n)).setCell ⟨w.heap.size + 1, 6, none⟩ (.slice aw lw cw))) := (bl1 _ _).trans (HCB.out.mono (bl1 _ _).size)
   have HTY : Hid (Tab (((((((y.setCell ⟨w.heap.size + 1, 0, none⟩ (.int .i64 t.kind)).setCell ⟨w.heap.size + 1, 1, none⟩ (.string (X.str t.name))).setCell ⟨w.heap.size + 1, 2, none⟩ (.int .i64 t.op)).setCell ⟨w.heap.size + 1, 3, none⟩ (.int .i64 t.a)).setCell ⟨w.heap.size + 1, 4, none⟩ (.int .i64 t.b)).setCell ⟨w.heap.size + 1, 5, none⟩ (.int .i64 t.n)).setCell ⟨w.heap.size + 1, 6, none⟩ (.slice aw lw cw))) := HT.out.below HW.out
   have HOY : Hid (World.ownsRow (((((((y.setCell ⟨w.heap.size + 1, 0, none⟩ (.int .i64 t.kind)).setCell ⟨w.heap.size + 1, 1, none⟩ (.string (X.str t.name))).setCell ⟨w.heap.size + 1, 2, none⟩ (.int .i64 t.op)).setCell ⟨w.heap.size + 1, 3, none⟩ (.int .i64 t.a)).setCell ⟨w.heap.size + 1, 4, none⟩ (.int .i64 t.b)).setCell ⟨w.heap.size + 1, 5, none⟩ (.int .i64 t.n)).setCell ⟨w.heap.size + 1, 6, none⟩ (.slice aw lw cw)) (w.alloc (.cells #[.int .i64 0, .string { data := #[] }, .int .i64 0, .int .i64 0, .int .i64 0, .int .i64 0, .slice none 0 0] 44)).heap.size 2 1 (.slice aw lw cw) lw (iC t.words)) := own_baseB (put7_own HO.out (by simp [World.drew])) (by simp [World.drew])
   have hlw : t.words.length = lw := by have := HOY.out.1; unfold iC at this; simpa using this
   have hmb := fun w h => mayBe_any t.kind (X.str t.name) t.op t.a t.b t.n aw lw cw t.words hlw (by rw [str_size]; have := HH.out.2.2; unfold maxLen; omega) w h
   simp only [str_list] at hmb
   rw [show (⟨t.kind, t.name, t.op, t.a, t.b, t.n, t.words⟩ : X.It) = t from rfl] at hmb
   have hly : w.heap.size + 1 ≠ w.heap.size := by omega
   generalize hY : (((((((y.setCell ⟨w.heap.size + 1, 0, none⟩ (.int .i64 t.kind)).setCell ⟨w.heap.size + 1, 1, none⟩ (.string (X.str t.name))).setCell ⟨w.heap.size + 1, 2, none⟩ (.int .i64 t.op)).setCell ⟨w.heap.size + 1, 3, none⟩ (.int .i64 t.a)).setCell ⟨w.heap.size + 1, 4, none⟩ (.int .i64 t.b)).setCell ⟨w.heap.size + 1, 5, none⟩ (.int .i64 t.n)).setCell ⟨w.heap.size + 1, 6, none⟩ (.slice aw lw cw)) = Y at HBX HRS HW HTY HOY ⊢
   clear hY HB HO HPB HXB HPY HCB
   go_wp2_with fail
   generalize hpb : w.heap.size + 1 = pb at HBX hly ⊢
   clear hpb
   have HS2 : Hid (∀ z, Below Y.heap.size Y z → (fun z : World => z.cell? ⟨pb, 0, none⟩ = some (.int .i64 t.kind) ∧ z.cell? ⟨pb, 1, none⟩ = some (.string (X.str t.name)) ∧ z.cell? ⟨pb, 2, none⟩ = some (.int .i64 t.op) ∧ z.cell? ⟨pb, 3, none⟩ = some (.int .i64 t.a) ∧ z.cell? ⟨pb, 4, none⟩ = some (.int .i64 t.b) ∧ z.cell? ⟨pb, 5, none⟩ = some (.int .i64 t.n) ∧ z.cell? ⟨pb, 6, none⟩ = some (.slice aw lw cw)) z) := fun z hz => by
    have q := HBX.out.below hz
    exact ⟨q.c 0 _ rfl, q.c 1 _ rfl, q.c 2 _ rfl, q.c 3 _ rfl, q.c 4 _ rfl, q.c 5 _ rfl, q.c 6 _ rfl⟩
   cases ok with
   | false =>
    have HN : Hid (X.read (f.data.toList :: ws) = none) := by show _ = _; simp [X.read, HH.out.2.1 rfl]
    refine wp_region_held_drew (S := (fun z : World => z.cell? ⟨pb, 0, none⟩ = some (.int .i64 t.kind) ∧ z.cell? ⟨pb, 1, none⟩ = some (.string (X.str t.name)) ∧ z.cell? ⟨pb, 2, none⟩ = some (.int .i64 t.op) ∧ z.cell? ⟨pb, 3, none⟩ = some (.int .i64 t.a) ∧ z.cell? ⟨pb, 4, none⟩ = some (.int .i64 t.b) ∧ z.cell? ⟨pb, 5, none⟩ = some (.int .i64 t.n) ∧ z.cell? ⟨pb, 6, none⟩ = some (.slice aw lw cw))) (by kernel_rfl) (HS2.out _ (Below.refl _ _).drew) (fun hHeld => ?_)
    refine tj 0 ?_
    simp only [Act.put, zA, zB, zC]
    refine tj 1 ?_
    simp only [Act.put, zA, zB, zC]
    refine tj 2 ?_
    simp only [Act.put, zA, zB, zC]
    refine tu 3 ?_
    simp only [Act.put, zA, zB, zC]
    refine tu 4 ?_
    simp only [Act.put, zA, zB, zC]
    refine tj 5 ?_
    simp only [Act.put, zA, zB, zC]
    obtain ⟨Q, hQ⟩ : ∃ Q, Y.drew = Q := ⟨_, rfl⟩
    have HBQ : Hid (Below Y.heap.size Y Q) := by show Below _ _ _; rw [← hQ]; exact (Below.refl _ _).drew
    rw [hQ]
    clear hQ
    have HQ := HRS.out.below HBQ.out
    have HQ' : Hid _ := HQ
    have c0 := HQ.c 0 _ rfl; have c1 := HQ.c 1 _ rfl; have c2 := HQ.c 2 _ rfl; have c3 := HQ.c 3 _ rfl; have c4 := HQ.c 4 _ rfl; have c5 := HQ.c 5 _ rfl; have c6 := HQ.c 6 _ rfl
    have f0 := HQ.f 0; have f1 := HQ.f 1; have f2 := HQ.f 2; have f3 := HQ.f 3; have f4 := HQ.f 4; have f5 := HQ.f 5; have f6 := HQ.f 6
    have HWQ : Hid (Below w.heap.size w Q) := HW.out.trans (HBQ.out.mono HW.out.size)
    have HOQ : Hid (Q.ownsRow (w.alloc (.cells #[.int .i64 0, .string { data := #[] }, .int .i64 0, .int .i64 0, .int .i64 0, .int .i64 0, .slice none 0 0] 44)).heap.size 2 1 (.slice aw lw cw) lw (iC t.words)) := own_thru HOY.out HBQ.out
    clear HQ hmb
    refine tr [6] ?_
    refine AllReadyH.cons (tA rfl) (fun K hK => ?_) AllReadyH.nil
    clear hHeld
    go_simp
    have HPS := (HBX.out.below HBQ.out)
    refine hK.out _ _ ?_ (fun hHeld => ?_)
    ·exact put7_S HPS hly
    clear hK K
    try simp only [Act.put, zA, zB, zC]
    refine tj 7 ?_
    simp only [Act.put, zA, zB, zC]
    refine wpAnyH_done (by kernel_rfl) ?_ _
    clear hHeld c0 c1 c2 c3 c4 c5 c6 f0 f1 f2 f3 f4 f5 f6
    have HOF := put7_own (b := w.heap.size) (u0 := .int .i64 t.kind) (u1 := .string (X.str t.name)) (u2 := .int .i64 t.op) (u3 := .int .i64 t.a) (u4 := .int .i64 t.b) (u5 := .int .i64 t.n) (u6 := .slice aw lw cw) HOQ.out (show w.heap.size < (w.alloc (.cells #[.int .i64 0, .string { data := #[] }, .int .i64 0, .int .i64 0, .int .i64 0, .int .i64 0, .slice none 0 0] 44)).heap.size by simp)
    have HF := Bx.put7 HQ'.out rfl (.int .i64 t.kind) (.string (X.str t.name)) (.int .i64 t.op) (.int .i64 t.a) (.int .i64 t.b) (.int .i64 t.n) (.slice aw lw cw)
    have HE : Below w.heap.size w (((((((Q.setCell ⟨w.heap.size, 0, none⟩ (.int .i64 t.kind)).setCell ⟨w.heap.size, 1, none⟩ (.string (X.str t.name))).setCell ⟨w.heap.size, 2, none⟩ (.int .i64 t.op)).setCell ⟨w.heap.size, 3, none⟩ (.int .i64 t.a)).setCell ⟨w.heap.size, 4, none⟩ (.int .i64 t.b)).setCell ⟨w.heap.size, 5, none⟩ (.int .i64 t.n)).setCell ⟨w.heap.size, 6, none⟩ (.slice aw lw cw)) := below_put7 HWQ.out (Nat.le_refl _)
    generalize (((((((Q.setCell ⟨w.heap.size, 0, none⟩ (.int .i64 t.kind)).setCell ⟨w.heap.size, 1, none⟩ (.string (X.str t.name))).setCell ⟨w.heap.size, 2, none⟩ (.int .i64 t.op)).setCell ⟨w.heap.size, 3, none⟩ (.int .i64 t.a)).setCell ⟨w.heap.size, 4, none⟩ (.int .i64 t.b)).setCell ⟨w.heap.size, 5, none⟩ (.int .i64 t.n)).setCell ⟨w.heap.size, 6, none⟩ (.slice aw lw cw)) = Wf at HF HE HOF ⊢
    have k0 := HF.c 0 _ rfl; have k1 := HF.c 1 _ rfl; have k2 := HF.c 2 _ rfl; have k3 := HF.c 3 _ rfl; have k4 := HF.c 4 _ rfl; have k5 := HF.c 5 _ rfl; have k6 := HF.c 6 _ rfl
    clear HPS
    go_wp2_with fail
    refine bodyPost_ret (v := .tuple #[.agg #[.int .i64 t.kind, .string (X.str t.name), .int .i64 t.op, .int .i64 t.a, .int .i64 t.b, .int .i64 t.n, .slice aw lw cw], .bool false]) (by simp [results, Tryz.results63, go_sem, k0, k1, k2, k3, k4, k5, k6]) rfl ?_
    exact ⟨t, aw, lw, cw, false, rfl, (fun h => by cases h), fun _ => HN.out, HH.out.2.2, own_baseB HOF (by simp), HE⟩
   | true =>
    cases hmk : X.itOk t
    ·rw [hmk] at hmb
     have HN : Hid (X.read (f.data.toList :: ws) = none) := by show _ = _; simp [X.read, HH.out.1 rfl, hmk]
     refine wp_region_held_drew (S := (fun z : World => z.cell? ⟨pb, 0, none⟩ = some (.int .i64 t.kind) ∧ z.cell? ⟨pb, 1, none⟩ = some (.string (X.str t.name)) ∧ z.cell? ⟨pb, 2, none⟩ = some (.int .i64 t.op) ∧ z.cell? ⟨pb, 3, none⟩ = some (.int .i64 t.a) ∧ z.cell? ⟨pb, 4, none⟩ = some (.int .i64 t.b) ∧ z.cell? ⟨pb, 5, none⟩ = some (.int .i64 t.n) ∧ z.cell? ⟨pb, 6, none⟩ = some (.slice aw lw cw))) (by kernel_rfl) (HS2.out _ (Below.refl _ _).drew) (fun hHeld => ?_)
     refine tj 0 ?_
     simp only [Act.put, zA, zB, zC]
     refine tj 1 ?_
     simp only [Act.put, zA, zB, zC]
     refine tj 2 ?_
     simp only [Act.put, zA, zB, zC]
     refine tj 3 ?_
     simp only [Act.put, zA, zB, zC]
     refine tr [4] ?_
     refine AllReadyH.cons (tA rfl) (fun K hK => ?_) AllReadyH.nil
     go_simp
     refine (hmb _ (HTY.out.below (Below.refl _ _).drew)).mono ?_
     rintro e Q ⟨rfl, hb2⟩
     have HBQ : Hid (Below Y.heap.size Y Q) := (Below.refl _ _).drew.trans hb2
     clear hb2
     refine hK.out _ _ (HS2.out _ HBQ.out) (fun hHeld => ?_)
     clear hK K
     try simp only [Act.put, zA, zB, zC]
     refine tj 5 ?_
     simp only [Act.put, zA, zB, zC]
     have HQ := HRS.out.below HBQ.out
     have HQ' : Hid _ := HQ
     have c0 := HQ.c 0 _ rfl; have c1 := HQ.c 1 _ rfl; have c2 := HQ.c 2 _ rfl; have c3 := HQ.c 3 _ rfl; have c4 := HQ.c 4 _ rfl; have c5 := HQ.c 5 _ rfl; have c6 := HQ.c 6 _ rfl
     have f0 := HQ.f 0; have f1 := HQ.f 1; have f2 := HQ.f 2; have f3 := HQ.f 3; have f4 := HQ.f 4; have f5 := HQ.f 5; have f6 := HQ.f 6
     have HWQ : Hid (Below w.heap.size w Q) := HW.out.trans (HBQ.out.mono HW.out.size)
     have HOQ : Hid (Q.ownsRow (w.alloc (.cells #[.int .i64 0, .string { data := #[] }, .int .i64 0, .int .i64 0, .int .i64 0, .int .i64 0, .slice none 0 0] 44)).heap.size 2 1 (.slice aw lw cw) lw (iC t.words)) := own_thru HOY.out HBQ.out
     clear HQ hmb
     refine tr [6] ?_
     refine AllReadyH.cons (tA rfl) (fun K hK => ?_) AllReadyH.nil
     clear hHeld
     go_simp
     have HPS := (HBX.out.below HBQ.out)
     refine hK.out _ _ ?_ (fun hHeld => ?_)
     ·exact put7_S HPS hly
     clear hK K
     try simp only [Act.put, zA, zB, zC]
     refine tj 7 ?_
     simp only [Act.put, zA, zB, zC]
     refine wpAnyH_done (by kernel_rfl) ?_ _
     clear hHeld c0 c1 c2 c3 c4 c5 c6 f0 f1 f2 f3 f4 f5 f6
     have HOF := put7_own (b := w.heap.size) (u0 := .int .i64 t.kind) (u1 := .string (X.str t.name)) (u2 := .int .i64 t.op) (u3 := .int .i64 t.a) (u4 := .int .i64 t.b) (u5 := .int .i64 t.n) (u6 := .slice aw lw cw) HOQ.out (show w.heap.size < (w.alloc (.cells #[.int .i64 0, .string { data := #[] }, .int .i64 0, .int .i64 0, .int .i64 0, .int .i64 0, .slice none 0 0] 44)).heap.size by simp)
     have HF := Bx.put7 HQ'.out rfl (.int .i64 t.kind) (.string (X.str t.name)) (.int .i64 t.op) (.int .i64 t.a) (.int .i64 t.b) (.int .i64 t.n) (.slice aw lw cw)
     have HE : Below w.heap.size w (((((((Q.setCell ⟨w.heap.size, 0, none⟩ (.int .i64 t.kind)).setCell ⟨w.heap.size, 1, none⟩ (.string (X.str t.name))).setCell ⟨w.heap.size, 2, none⟩ (.int .i64 t.op)).setCell ⟨w.heap.size, 3, none⟩ (.int .i64 t.a)).setCell ⟨w.heap.size, 4, none⟩ (.int .i64 t.b)).setCell ⟨w.heap.size, 5, none⟩ (.int .i64 t.n)).setCell ⟨w.heap.size, 6, none⟩ (.slice aw lw cw)) := below_put7 HWQ.out (Nat.le_refl _)
     generalize (((((((Q.setCell ⟨w.heap.size, 0, none⟩ (.int .i64 t.kind)).setCell ⟨w.heap.size, 1, none⟩ (.string (X.str t.name))).setCell ⟨w.heap.size, 2, none⟩ (.int .i64 t.op)).setCell ⟨w.heap.size, 3, none⟩ (.int .i64 t.a)).setCell ⟨w.heap.size, 4, none⟩ (.int .i64 t.b)).setCell ⟨w.heap.size, 5, none⟩ (.int .i64 t.n)).setCell ⟨w.heap.size, 6, none⟩ (.slice aw lw cw)) = Wf at HF HE HOF ⊢
     have k0 := HF.c 0 _ rfl; have k1 := HF.c 1 _ rfl; have k2 := HF.c 2 _ rfl; have k3 := HF.c 3 _ rfl; have k4 := HF.c 4 _ rfl; have k5 := HF.c 5 _ rfl; have k6 := HF.c 6 _ rfl
     clear HPS
     go_wp2_with fail
     refine bodyPost_ret (v := .tuple #[.agg #[.int .i64 t.kind, .string (X.str t.name), .int .i64 t.op, .int .i64 t.a, .int .i64 t.b, .int .i64 t.n, .slice aw lw cw], .bool false]) (by simp [results, Tryz.results63, go_sem, k0, k1, k2, k3, k4, k5, k6]) rfl ?_
     exact ⟨t, aw, lw, cw, false, rfl, (fun h => by cases h), fun _ => HN.out, HH.out.2.2, own_baseB HOF (by simp), HE⟩
    ·rw [hmk] at hmb
     have HN : Hid (X.read (f.data.toList :: ws) = some t) := by show _ = _; simp [X.read, HH.out.1 rfl, hmk]
     refine wp_region_held_drew (S := (fun z : World => z.cell? ⟨pb, 0, none⟩ = some (.int .i64 t.kind) ∧ z.cell? ⟨pb, 1, none⟩ = some (.string (X.str t.name)) ∧ z.cell? ⟨pb, 2, none⟩ = some (.int .i64 t.op) ∧ z.cell? ⟨pb, 3, none⟩ = some (.int .i64 t.a) ∧ z.cell? ⟨pb, 4, none⟩ = some (.int .i64 t.b) ∧ z.cell? ⟨pb, 5, none⟩ = some (.int .i64 t.n) ∧ z.cell? ⟨pb, 6, none⟩ = some (.slice aw lw cw))) (by kernel_rfl) (HS2.out _ (Below.refl _ _).drew) (fun hHeld => ?_)
     refine tj 0 ?_
     simp only [Act.put, zA, zB, zC]
     refine tj 1 ?_
     simp only [Act.put, zA, zB, zC]
     refine tj 2 ?_
     simp only [Act.put, zA, zB, zC]
     refine tj 3 ?_
     simp only [Act.put, zA, zB, zC]
     refine tr [4] ?_
     refine AllReadyH.cons (tA rfl) (fun K hK => ?_) AllReadyH.nil
     go_simp
     refine (hmb _ (HTY.out.below (Below.refl _ _).drew)).mono ?_
     rintro e Q ⟨rfl, hb2⟩
     have HBQ : Hid (Below Y.heap.size Y Q) := (Below.refl _ _).drew.trans hb2
     clear hb2
     refine hK.out _ _ (HS2.out _ HBQ.out) (fun hHeld => ?_)
     clear hK K
     try simp only [Act.put, zA, zB, zC]
     refine tj 5 ?_
     simp only [Act.put, zA, zB, zC]
     have HQ := HRS.out.below HBQ.out
     have HQ' : Hid _ := HQ
     have c0 := HQ.c 0 _ rfl; have c1 := HQ.c 1 _ rfl; have c2 := HQ.c 2 _ rfl; have c3 := HQ.c 3 _ rfl; have c4 := HQ.c 4 _ rfl; have c5 := HQ.c 5 _ rfl; have c6 := HQ.c 6 _ rfl
     have f0 := HQ.f 0; have f1 := HQ.f 1; have f2 := HQ.f 2; have f3 := HQ.f 3; have f4 := HQ.f 4; have f5 := HQ.f 5; have f6 := HQ.f 6
     have HWQ : Hid (Below w.heap.size w Q) := HW.out.trans (HBQ.out.mono HW.out.size)
     have HOQ : Hid (Q.ownsRow (w.alloc (.cells #[.int .i64 0, .string { data := #[] }, .int .i64 0, .int .i64 0, .int .i64 0, .int .i64 0, .slice none 0 0] 44)).heap.size 2 1 (.slice aw lw cw) lw (iC t.words)) := own_thru HOY.out HBQ.out
     clear HQ hmb
     refine tr [6] ?_
     refine AllReadyH.cons (tA rfl) (fun K hK => ?_) AllReadyH.nil
     clear hHeld
     go_simp
     have HPS := (HBX.out.below HBQ.out)
     refine hK.out _ _ ?_ (fun hHeld => ?_)
     ·exact put7_S HPS hly
     clear hK K
     try simp only [Act.put, zA, zB, zC]
     refine tj 7 ?_
     simp only [Act.put, zA, zB, zC]
     refine wpAnyH_done (by kernel_rfl) ?_ _
     clear hHeld c0 c1 c2 c3 c4 c5 c6 f0 f1 f2 f3 f4 f5 f6
     have HOF := put7_own (b := w.heap.size) (u0 := .int .i64 t.kind) (u1 := .string (X.str t.name)) (u2 := .int .i64 t.op) (u3 := .int .i64 t.a) (u4 := .int .i64 t.b) (u5 := .int .i64 t.n) (u6 := .slice aw lw cw) HOQ.out (show w.heap.size < (w.alloc (.cells #[.int .i64 0, .string { data := #[] }, .int .i64 0, .int .i64 0, .int .i64 0, .int .i64 0, .slice none 0 0] 44)).heap.size by simp)
     have HF := Bx.put7 HQ'.out rfl (.int .i64 t.kind) (.string (X.str t.name)) (.int .i64 t.op) (.int .i64 t.a) (.int .i64 t.b) (.int .i64 t.n) (.slice aw lw cw)
     have HE : Below w.heap.size w (((((((Q.setCell ⟨w.heap.size, 0, none⟩ (.int .i64 t.kind)).setCell ⟨w.heap.size, 1, none⟩ (.string (X.str t.name))).setCell ⟨w.heap.size, 2, none⟩ (.int .i64 t.op)).setCell ⟨w.heap.size, 3, none⟩ (.int .i64 t.a)).setCell ⟨w.heap.size, 4, none⟩ (.int .i64 t.b)).setCell ⟨w.heap.size, 5, none⟩ (.int .i64 t.n)).setCell ⟨w.heap.size, 6, none⟩ (.slice aw lw cw)) := below_put7 HWQ.out (Nat.le_refl _)
     generalize (((((((Q.setCell ⟨w.heap.size, 0, none⟩ (.int .i64 t.kind)).setCell ⟨w.heap.size, 1, none⟩ (.string (X.str t.name))).setCell ⟨w.heap.size, 2, none⟩ (.int .i64 t.op)).setCell ⟨w.heap.size, 3, none⟩ (.int .i64 t.a)).setCell ⟨w.heap.size, 4, none⟩ (.int .i64 t.b)).setCell ⟨w.heap.size, 5, none⟩ (.int .i64 t.n)).setCell ⟨w.heap.size, 6, none⟩ (.slice aw lw cw)) = Wf at HF HE HOF ⊢
     have k0 := HF.c 0 _ rfl; have k1 := HF.c 1 _ rfl; have k2 := HF.c 2 _ rfl; have k3 := HF.c 3 _ rfl; have k4 := HF.c 4 _ rfl; have k5 := HF.c 5 _ rfl; have k6 := HF.c 6 _ rfl
     clear HPS
     go_wp2_with fail
     refine bodyPost_ret (v := .tuple #[.agg #[.int .i64 t.kind, .string (X.str t.name), .int .i64 t.op, .int .i64 t.a, .int .i64 t.b, .int .i64 t.n, .slice aw lw cw], .bool true]) (by simp [results, Tryz.results63, go_sem, k0, k1, k2, k3, k4, k5, k6]) rfl ?_
     exact ⟨t, aw, lw, cw, true, rfl, fun _ => HN.out, (fun h => by cases h), HH.out.2.2, own_baseB HOF (by simp), HE⟩
 ·skip
  go_enter Tryz.func63, Tryz.ntmps63
  go_wp2_with fail
  refine wp_region_held_drew (S := (fun y : World => y.cell? ⟨b, off, none⟩ = some (.string f))) (by kernel_rfl) (HS.out _ (Below.refl _ _).drew) (fun hHeld => ?_)
  refine tj 0 ?_
  simp only [Act.put, zA, zB, zC]
  refine tj 1 ?_
  simp only [Act.put, zA, zB, zC]
  refine tj 2 ?_
  simp only [Act.put, zA, zB, zC]
  refine tj 3 ?_
  simp only [Act.put, zA, zB, zC]
  refine tj 4 ?_
  simp only [Act.put, zA, zB, zC]
  refine tr [5, 9] ?_
  refine AllReadyH.cons (tA rfl) (fun K hK => ?_) (AllReadyH.cons (tA rfl) (fun K hK => ?_) AllReadyH.nil)
  ·go_simp
   refine (take_any f hf (HV.out.below ((bl1 _ _).trans (Below.refl _ _).drew)) (by omega) ((HT.out.alloc _).below (Below.refl _ _).drew)).mono ?_
   rintro e y ⟨t, aw, lw, cw, ok, rfl, h1, h2, h3, ho, hb⟩
   have HH : Hid ((ok = true → X.take f.data.toList ws = some t) ∧ (ok = false → X.take f.data.toList ws = none) ∧ t.name.length ≤ 200000) := ⟨h1, h2, h3⟩
   have HB : Hid (Below (w.alloc (.cells #[.int .i64 0, .string { data := #[] }, .int .i64 0, .int .i64 0, .int .i64 0, .int .i64 0, .slice none 0 0] 44)).heap.size (w.alloc (.cells #[.int .i64 0, .string { data := #[] }, .int .i64 0, .int .i64 0, .int .i64 0, .int .i64 0, .slice none 0 0] 44)) y) := (Below.refl _ _).drew.trans hb
   have HO : Hid (y.ownsRow (w.alloc (.cells #[.int .i64 0, .string { data := #[] }, .int .i64 0, .int .i64 0, .int .i64 0, .int .i64 0, .slice none 0 0] 44)).heap.size 2 1 (.slice aw lw cw) lw (iC t.words)) := ho
   clear h1 h2 h3 ho hb
   refine hK.out _ _ (HS.out _ HB.out) (fun hHeld => ?_)
   clear hK K
   try simp only [Act.put, zA, zB, zC]
   refine tj 6 ?_
   simp only [Act.put, zA, zB, zC]
   refine tj 7 ?_
   simp only [Act.put, zA, zB, zC]
   refine tj 8 ?_
   simp only [Act.put, zA, zB, zC]
   refine tr [9] ?_
   refine AllReadyH.cons (tA rfl) (fun K hK => ?_) AllReadyH.nil
   go_simp
   refine hK.out _ _ (HS.out _ (HB.out.alloc HB.out.size _)) (fun hHeld => ?_)
   clear hK K
   try simp only [Act.put, zA, zB, zC]
   refine tr [10] ?_
   refine AllReadyH.cons (tA rfl) (fun K hK => ?_) AllReadyH.nil
   go_simp
   refine hK.out _ _ (HS.out _ (HB.out.alloc HB.out.size _)) (fun hHeld => ?_)
   clear hK K
   try simp only [Act.put, zA, zB, zC]
   refine tj 11 ?_
   simp only [Act.put, zA, zB, zC]
   refine wpAnyH_done (by kernel_rfl) ?_ _
   clear hHeld
   go_wp2_with fail
   have HBX : Hid (Bx (y.alloc (.cells #[.int .i64 t.kind, .string (X.str t.name), .int .i64 t.op, .int .i64 t.a, .int .i64 t.b, .int .i64 t.n, .slice aw lw cw] 44)) y.heap.size [.int .i64 t.kind, .string (X.str t.name), .int .i64 t.op, .int .i64 t.a, .int .i64 t.b, .int .i64 t.n, .slice aw lw cw]) := Bx.new _ _ _
   have HRS : Hid (Bx (y.alloc (.cells #[.int .i64 t.kind, .string (X.str t.name), .int .i64 t.op, .int .i64 t.a, .int .i64 t.b, .int .i64 t.n, .slice aw lw cw] 44)) w.heap.size [.int .i64 0, .string { data := #[] }, .int .i64 0, .int .i64 0, .int .i64 0, .int .i64 0, .slice none 0 0]) := (HZ.out.below HB.out).below (bl1 _ _)
   have HW : Hid (Below w.heap.size w (y.alloc (.cells #[.int .i64 t.kind, .string (X.str t.name), .int .i64 t.op, .int .i64 t.a, .int .i64 t.b, .int .i64 t.n, .slice aw lw cw] 44))) := (bl1 _ _).trans ((HB.out.alloc HB.out.size _).mono (bl1 _ _).size)
   have HTY : Hid (Tab (y.alloc (.cells #[.int .i64 t.kind, .string (X.str t.name), .int .i64 t.op, .int .i64 t.a, .int .i64 t.b, .int .i64 t.n, .slice aw lw cw] 44))) := HT.out.below HW.out
   have HOY : Hid (World.ownsRow (y.alloc (.cells #[.int .i64 t.kind, .string (X.str t.name), .int .i64 t.op, .int .i64 t.a, .int .i64 t.b, .int .i64 t.n, .slice aw lw cw] 44)) (w.alloc (.cells #[.int .i64 0, .string { data := #[] }, .int .i64 0, .int .i64 0, .int .i64 0, .int .i64 0, .slice none 0 0] 44)).heap.size 2 1 (.slice aw lw cw) lw (iC t.words)) := own_thru HO.out (bl1 _ _)
   have hlw : t.words.length = lw := by have := HOY.out.1; unfold iC at this; simpa using this
   have hmb := fun w h => mayBe_any t.kind (X.str t.name) t.op t.a t.b t.n aw lw cw t.words hlw (by rw [str_size]; have := HH.out.2.2; unfold maxLen; omega) w h
   simp only [str_list] at hmb
   rw [show (⟨t.kind, t.name, t.op, t.a, t.b, t.n, t.words⟩ : X.It) = t from rfl] at hmb
   have hly : y.heap.size ≠ w.heap.size := by have := HB.out.size; simp at this; omega
   generalize hY : (y.alloc (.cells #[.int .i64 t.kind, .string (X.str t.name), .int .i64 t.op, .int .i64 t.a, .int .i64 t.b, .int .i64 t.n, .slice aw lw cw] 44)) = Y at HBX HRS HW HTY HOY ⊢
   clear hY HB HO
   generalize y.heap.size = pb at *
   have HS2 : Hid (∀ z, Below Y.heap.size Y z → (fun z : World => z.cell? ⟨pb, 0, none⟩ = some (.int .i64 t.kind) ∧ z.cell? ⟨pb, 1, none⟩ = some (.string (X.str t.name)) ∧ z.cell? ⟨pb, 2, none⟩ = some (.int .i64 t.op) ∧ z.cell? ⟨pb, 3, none⟩ = some (.int .i64 t.a) ∧ z.cell? ⟨pb, 4, none⟩ = some (.int .i64 t.b) ∧ z.cell? ⟨pb, 5, none⟩ = some (.int .i64 t.n) ∧ z.cell? ⟨pb, 6, none⟩ = some (.slice aw lw cw)) z) := fun z hz => by
    have q := HBX.out.below hz
    exact ⟨q.c 0 _ rfl, q.c 1 _ rfl, q.c 2 _ rfl, q.c 3 _ rfl, q.c 4 _ rfl, q.c 5 _ rfl, q.c 6 _ rfl⟩
   cases ok with
   | false =>
    have HN : Hid (X.read (f.data.toList :: ws) = none) := by show _ = _; simp [X.read, HH.out.2.1 rfl]
    refine wp_region_held_drew (S := (fun z : World => z.cell? ⟨pb, 0, none⟩ = some (.int .i64 t.kind) ∧ z.cell? ⟨pb, 1, none⟩ = some (.string (X.str t.name)) ∧ z.cell? ⟨pb, 2, none⟩ = some (.int .i64 t.op) ∧ z.cell? ⟨pb, 3, none⟩ = some (.int .i64 t.a) ∧ z.cell? ⟨pb, 4, none⟩ = some (.int .i64 t.b) ∧ z.cell? ⟨pb, 5, none⟩ = some (.int .i64 t.n) ∧ z.cell? ⟨pb, 6, none⟩ = some (.slice aw lw cw))) (by kernel_rfl) (HS2.out _ (Below.refl _ _).drew) (fun hHeld => ?_)
    refine tj 0 ?_
    simp only [Act.put, zA, zB, zC]
    refine tj 1 ?_
    simp only [Act.put, zA, zB, zC]
    refine tj 2 ?_
    simp only [Act.put, zA, zB, zC]
    refine tu 3 ?_
    simp only [Act.put, zA, zB, zC]
    refine tu 4 ?_
    simp only [Act.put, zA, zB, zC]
    refine tj 5 ?_
    simp only [Act.put, zA, zB, zC]
    obtain ⟨Q, hQ⟩ : ∃ Q, Y.drew = Q := ⟨_, rfl⟩
    have HBQ : Hid (Below Y.heap.size Y Q) := by show Below _ _ _; rw [← hQ]; exact (Below.refl _ _).drew
    rw [hQ]
    clear hQ
    have HQ := HRS.out.below HBQ.out
    have HQ' : Hid _ := HQ
    have c0 := HQ.c 0 _ rfl; have c1 := HQ.c 1 _ rfl; have c2 := HQ.c 2 _ rfl; have c3 := HQ.c 3 _ rfl; have c4 := HQ.c 4 _ rfl; have c5 := HQ.c 5 _ rfl; have c6 := HQ.c 6 _ rfl
    have f0 := HQ.f 0; have f1 := HQ.f 1; have f2 := HQ.f 2; have f3 := HQ.f 3; have f4 := HQ.f 4; have f5 := HQ.f 5; have f6 := HQ.f 6
    have HWQ : Hid (Below w.heap.size w Q) := HW.out.trans (HBQ.out.mono HW.out.size)
    have HOQ : Hid (Q.ownsRow (w.alloc (.cells #[.int .i64 0, .string { data := #[] }, .int .i64 0, .int .i64 0, .int .i64 0, .int .i64 0, .slice none 0 0] 44)).heap.size 2 1 (.slice aw lw cw) lw (iC t.words)) := own_thru HOY.out HBQ.out
    clear HQ hmb
    refine tr [6] ?_
    refine AllReadyH.cons (tA rfl) (fun K hK => ?_) AllReadyH.nil
    clear hHeld
    go_simp
    have HPS := (HBX.out.below HBQ.out)
    refine hK.out _ _ ?_ (fun hHeld => ?_)
    ·exact put7_S HPS hly
    clear hK K
    try simp only [Act.put, zA, zB, zC]
    refine tj 7 ?_
    simp only [Act.put, zA, zB, zC]
    refine wpAnyH_done (by kernel_rfl) ?_ _
    clear hHeld c0 c1 c2 c3 c4 c5 c6 f0 f1 f2 f3 f4 f5 f6
    have HOF := put7_own (b := w.heap.size) (u0 := .int .i64 t.kind) (u1 := .string (X.str t.name)) (u2 := .int .i64 t.op) (u3 := .int .i64 t.a) (u4 := .int .i64 t.b) (u5 := .int .i64 t.n) (u6 := .slice aw lw cw) HOQ.out (show w.heap.size < (w.alloc (.cells #[.int .i64 0, .string { data := #[] }, .int .i64 0, .int .i64 0, .int .i64 0, .int .i64 0, .slice none 0 0] 44)).heap.size by simp)
    have HF := Bx.put7 HQ'.out rfl (.int .i64 t.kind) (.string (X.str t.name)) (.int .i64 t.op) (.int .i64 t.a) (.int .i64 t.b) (.int .i64 t.n) (.slice aw lw cw)
    have HE : Below w.heap.size w (((((((Q.setCell ⟨w.heap.size, 0, none⟩ (.int .i64 t.kind)).setCell ⟨w.heap.size, 1, none⟩ (.string (X.str t.name))).setCell ⟨w.heap.size, 2, none⟩ (.int .i64 t.op)).setCell ⟨w.heap.size, 3, none⟩ (.int .i64 t.a)).setCell ⟨w.heap.size, 4, none⟩ (.int .i64 t.b)).setCell ⟨w.heap.size, 5, none⟩ (.int .i64 t.n)).setCell ⟨w.heap.size, 6, none⟩ (.slice aw lw cw)) := below_put7 HWQ.out (Nat.le_refl _)
    generalize (((((((Q.setCell ⟨w.heap.size, 0, none⟩ (.int .i64 t.kind)).setCell ⟨w.heap.size, 1, none⟩ (.string (X.str t.name))).setCell ⟨w.heap.size, 2, none⟩ (.int .i64 t.op)).setCell ⟨w.heap.size, 3, none⟩ (.int .i64 t.a)).setCell ⟨w.heap.size, 4, none⟩ (.int .i64 t.b)).setCell ⟨w.heap.size, 5, none⟩ (.int .i64 t.n)).setCell ⟨w.heap.size, 6, none⟩ (.slice aw lw cw)) = Wf at HF HE HOF ⊢
    have k0 := HF.c 0 _ rfl; have k1 := HF.c 1 _ rfl; have k2 := HF.c 2 _ rfl; have k3 := HF.c 3 _ rfl; have k4 := HF.c 4 _ rfl; have k5 := HF.c 5 _ rfl; have k6 := HF.c 6 _ rfl
    clear HPS
    go_wp2_with fail
    refine bodyPost_ret (v := .tuple #[.agg #[.int .i64 t.kind, .string (X.str t.name), .int .i64 t.op, .int .i64 t.a, .int .i64 t.b, .int .i64 t.n, .slice aw lw cw], .bool false]) (by simp [results, Tryz.results63, go_sem, k0, k1, k2, k3, k4, k5, k6]) rfl ?_
    exact ⟨t, aw, lw, cw, false, rfl, (fun h => by cases h), fun _ => HN.out, HH.out.2.2, own_baseB HOF (by simp), HE⟩
   | true =>
    cases hmk : X.itOk t
    ·rw [hmk] at hmb
     have HN : Hid (X.read (f.data.toList :: ws) = none) := by show _ = _; simp [X.read, HH.out.1 rfl, hmk]
     refine wp_region_held_drew (S := (fun z : World => z.cell? ⟨pb, 0, none⟩ = some (.int .i64 t.kind) ∧ z.cell? ⟨pb, 1, none⟩ = some (.string (X.str t.name)) ∧ z.cell? ⟨pb, 2, none⟩ = some (.int .i64 t.op) ∧ z.cell? ⟨pb, 3, none⟩ = some (.int .i64 t.a) ∧ z.cell? ⟨pb, 4, none⟩ = some (.int .i64 t.b) ∧ z.cell? ⟨pb, 5, none⟩ = some (.int .i64 t.n) ∧ z.cell? ⟨pb, 6, none⟩ = some (.slice aw lw cw))) (by kernel_rfl) (HS2.out _ (Below.refl _ _).drew) (fun hHeld => ?_)
     refine tj 0 ?_
     simp only [Act.put, zA, zB, zC]
     refine tj 1 ?_
     simp only [Act.put, zA, zB, zC]
     refine tj 2 ?_
     simp only [Act.put, zA, zB, zC]
     refine tj 3 ?_
     simp only [Act.put, zA, zB, zC]
     refine tr [4] ?_
     refine AllReadyH.cons (tA rfl) (fun K hK => ?_) AllReadyH.nil
     go_simp
     refine (hmb _ (HTY.out.below (Below.refl _ _).drew)).mono ?_
     rintro e Q ⟨rfl, hb2⟩
     have HBQ : Hid (Below Y.heap.size Y Q) := (Below.refl _ _).drew.trans hb2
     clear hb2
     refine hK.out _ _ (HS2.out _ HBQ.out) (fun hHeld => ?_)
     clear hK K
     try simp only [Act.put, zA, zB, zC]
     refine tj 5 ?_
     simp only [Act.put, zA, zB, zC]
     have HQ := HRS.out.below HBQ.out
     have HQ' : Hid _ := HQ
     have c0 := HQ.c 0 _ rfl; have c1 := HQ.c 1 _ rfl; have c2 := HQ.c 2 _ rfl; have c3 := HQ.c 3 _ rfl; have c4 := HQ.c 4 _ rfl; have c5 := HQ.c 5 _ rfl; have c6 := HQ.c 6 _ rfl
     have f0 := HQ.f 0; have f1 := HQ.f 1; have f2 := HQ.f 2; have f3 := HQ.f 3; have f4 := HQ.f 4; have f5 := HQ.f 5; have f6 := HQ.f 6
     have HWQ : Hid (Below w.heap.size w Q) := HW.out.trans (HBQ.out.mono HW.out.size)
     have HOQ : Hid (Q.ownsRow (w.alloc (.cells #[.int .i64 0, .string { data := #[] }, .int .i64 0, .int .i64 0, .int .i64 0, .int .i64 0, .slice none 0 0] 44)).heap.size 2 1 (.slice aw lw cw) lw (iC t.words)) := own_thru HOY.out HBQ.out
     clear HQ hmb
     refine tr [6] ?_
     refine AllReadyH.cons (tA rfl) (fun K hK => ?_) AllReadyH.nil
     clear hHeld
     go_simp
     have HPS := (HBX.out.below HBQ.out)
     refine hK.out _ _ ?_ (fun hHeld => ?_)
     ·exact put7_S HPS hly
     clear hK K
     try simp only [Act.put, zA, zB, zC]
     refine tj 7 ?_
     simp only [Act.put, zA, zB, zC]
     refine wpAnyH_done (by kernel_rfl) ?_ _
     clear hHeld c0 c1 c2 c3 c4 c5 c6 f0 f1 f2 f3 f4 f5 f6
     have HOF := put7_own (b := w.heap.size) (u0 := .int .i64 t.kind) (u1 := .string (X.str t.name)) (u2 := .int .i64 t.op) (u3 := .int .i64 t.a) (u4 := .int .i64 t.b) (u5 := .int .i64 t.n) (u6 := .slice aw lw cw) HOQ.out (show w.heap.size < (w.alloc (.cells #[.int .i64 0, .string { data := #[] }, .int .i64 0, .int .i64 0, .int .i64 0, .int .i64 0, .slice none 0 0] 44)).heap.size by simp)
     have HF := Bx.put7 HQ'.out rfl (.int .i64 t.kind) (.string (X.str t.name)) (.int .i64 t.op) (.int .i64 t.a) (.int .i64 t.b) (.int .i64 t.n) (.slice aw lw cw)
     have HE : Below w.heap.size w (((((((Q.setCell ⟨w.heap.size, 0, none⟩ (.int .i64 t.kind)).setCell ⟨w.heap.size, 1, none⟩ (.string (X.str t.name))).setCell ⟨w.heap.size, 2, none⟩ (.int .i64 t.op)).setCell ⟨w.heap.size, 3, none⟩ (.int .i64 t.a)).setCell ⟨w.heap.size, 4, none⟩ (.int .i64 t.b)).setCell ⟨w.heap.size, 5, none⟩ (.int .i64 t.n)).setCell ⟨w.heap.size, 6, none⟩ (.slice aw lw cw)) := below_put7 HWQ.out (Nat.le_refl _)
     generalize (((((((Q.setCell ⟨w.heap.size, 0, none⟩ (.int .i64 t.kind)).setCell ⟨w.heap.size, 1, none⟩ (.string (X.str t.name))).setCell ⟨w.heap.size, 2, none⟩ (.int .i64 t.op)).setCell ⟨w.heap.size, 3, none⟩ (.int .i64 t.a)).setCell ⟨w.heap.size, 4, none⟩ (.int .i64 t.b)).setCell ⟨w.heap.size, 5, none⟩ (.int .i64 t.n)).setCell ⟨w.heap.size, 6, none⟩ (.slice aw lw cw)) = Wf at HF HE HOF ⊢
     have k0 := HF.c 0 _ rfl; have k1 := HF.c 1 _ rfl; have k2 := HF.c 2 _ rfl; have k3 := HF.c 3 _ rfl; have k4 := HF.c 4 _ rfl; have k5 := HF.c 5 _ rfl; have k6 := HF.c 6 _ rfl
     clear HPS
     go_wp2_with fail
     refine bodyPost_ret (v := .tuple #[.agg #[.int .i64 t.kind, .string (X.str t.name), .int .i64 t.op, .int .i64 t.a, .int .i64 t.b, .int .i64 t.n, .slice aw lw cw], .bool false]) (by simp [results, Tryz.results63, go_sem, k0, k1, k2, k3, k4, k5, k6]) rfl ?_
     exact ⟨t, aw, lw, cw, false, rfl, (fun h => by cases h), fun _ => HN.out, HH.out.2.2, own_baseB HOF (by simp), HE⟩
    ·rw [hmk] at hmb
     have HN : Hid (X.read (f.data.toList :: ws) = some t) := by show _ = _; simp [X.read, HH.out.1 rfl, hmk]
     refine wp_region_held_drew (S := (fun z : World => z.cell? ⟨pb, 0, none⟩ = some (.int .i64 t.kind) ∧ z.cell? ⟨pb, 1, none⟩ = some (.string (X.str t.name)) ∧ z.cell? ⟨pb, 2, none⟩ = some (.int .i64 t.op) ∧ z.cell? ⟨pb, 3, none⟩ = some (.int .i64 t.a) ∧ z.cell? ⟨pb, 4, none⟩ = some (.int .i64 t.b) ∧ z.cell? ⟨pb, 5, none⟩ = some (.int .i64 t.n) ∧ z.cell? ⟨pb, 6, none⟩ = some (.slice aw lw cw))) (by kernel_rfl) (HS2.out _ (Below.refl _ _).drew) (fun hHeld => ?_)
     refine tj 0 ?_
     simp only [Act.put, zA, zB, zC]
     refine tj 1 ?_
     simp only [Act.put, zA, zB, zC]
     refine tj 2 ?_
     simp only [Act.put, zA, zB, zC]
     refine tj 3 ?_
     simp only [Act.put, zA, zB, zC]
     refine tr [4] ?_
     refine AllReadyH.cons (tA rfl) (fun K hK => ?_) AllReadyH.nil
     go_simp
     refine (hmb _ (HTY.out.below (Below.refl _ _).drew)).mono ?_
     rintro e Q ⟨rfl, hb2⟩
     have HBQ : Hid (Below Y.heap.size Y Q) := (Below.refl _ _).drew.trans hb2
     clear hb2
     refine hK.out _ _ (HS2.out _ HBQ.out) (fun hHeld => ?_)
     clear hK K
     try simp only [Act.put, zA, zB, zC]
     refine tj 5 ?_
     simp only [Act.put, zA, zB, zC]
     have HQ := HRS.out.below HBQ.out
     have HQ' : Hid _ := HQ
     have c0 := HQ.c 0 _ rfl; have c1 := HQ.c 1 _ rfl; have c2 := HQ.c 2 _ rfl; have c3 := HQ.c 3 _ rfl; have c4 := HQ.c 4 _ rfl; have c5 := HQ.c 5 _ rfl; have c6 := HQ.c 6 _ rfl
     have f0 := HQ.f 0; have f1 := HQ.f 1; have f2 := HQ.f 2; have f3 := HQ.f 3; have f4 := HQ.f 4; have f5 := HQ.f 5; have f6 := HQ.f 6
     have HWQ : Hid (Below w.heap.size w Q) := HW.out.trans (HBQ.out.mono HW.out.size)
     have HOQ : Hid (Q.ownsRow (w.alloc (.cells #[.int .i64 0, .string { data := #[] }, .int .i64 0, .int .i64 0, .int .i64 0, .int .i64 0, .slice none 0 0] 44)).heap.size 2 1 (.slice aw lw cw) lw (iC t.words)) := own_thru HOY.out HBQ.out
     clear HQ hmb
     refine tr [6] ?_
     refine AllReadyH.cons (tA rfl) (fun K hK => ?_) AllReadyH.nil
     clear hHeld
     go_simp
     have HPS := (HBX.out.below HBQ.out)
     refine hK.out _ _ ?_ (fun hHeld => ?_)
     ·exact put7_S HPS hly
     clear hK K
     try simp only [Act.put, zA, zB, zC]
     refine tj 7 ?_
     simp only [Act.put, zA, zB, zC]
     refine wpAnyH_done (by kernel_rfl) ?_ _
     clear hHeld c0 c1 c2 c3 c4 c5 c6 f0 f1 f2 f3 f4 f5 f6
     have HOF := put7_own (b := w.heap.size) (u0 := .int .i64 t.kind) (u1 := .string (X.str t.name)) (u2 := .int .i64 t.op) (u3 := .int .i64 t.a) (u4 := .int .i64 t.b) (u5 := .int .i64 t.n) (u6 := .slice aw lw cw) HOQ.out (show w.heap.size < (w.alloc (.cells #[.int .i64 0, .string { data := #[] }, .int .i64 0, .int .i64 0, .int .i64 0, .int .i64 0, .slice none 0 0] 44)).heap.size by simp)
     have HF := Bx.put7 HQ'.out rfl (.int .i64 t.kind) (.string (X.str t.name)) (.int .i64 t.op) (.int .i64 t.a) (.int .i64 t.b) (.int .i64 t.n) (.slice aw lw cw)
     have HE : Below w.heap.size w (((((((Q.setCell ⟨w.heap.size, 0, none⟩ (.int .i64 t.kind)).setCell ⟨w.heap.size, 1, none⟩ (.string (X.str t.name))).setCell ⟨w.heap.size, 2, none⟩ (.int .i64 t.op)).setCell ⟨w.heap.size, 3, none⟩ (.int .i64 t.a)).setCell ⟨w.heap.size, 4, none⟩ (.int .i64 t.b)).setCell ⟨w.heap.size, 5, none⟩ (.int .i64 t.n)).setCell ⟨w.heap.size, 6, none⟩ (.slice aw lw cw)) := below_put7 HWQ.out (Nat.le_refl _)
     generalize (((((((Q.setCell ⟨w.heap.size, 0, none⟩ (.int .i64 t.kind)).setCell ⟨w.heap.size, 1, none⟩ (.string (X.str t.name))).setCell ⟨w.heap.size, 2, none⟩ (.int .i64 t.op)).setCell ⟨w.heap.size, 3, none⟩ (.int .i64 t.a)).setCell ⟨w.heap.size, 4, none⟩ (.int .i64 t.b)).setCell ⟨w.heap.size, 5, none⟩ (.int .i64 t.n)).setCell ⟨w.heap.size, 6, none⟩ (.slice aw lw cw)) = Wf at HF HE HOF ⊢
     have k0 := HF.c 0 _ rfl; have k1 := HF.c 1 _ rfl; have k2 := HF.c 2 _ rfl; have k3 := HF.c 3 _ rfl; have k4 := HF.c 4 _ rfl; have k5 := HF.c 5 _ rfl; have k6 := HF.c 6 _ rfl
     clear HPS
     go_wp2_with fail
     refine bodyPost_ret (v := .tuple #[.agg #[.int .i64 t.kind, .string (X.str t.name), .int .i64 t.op, .int .i64 t.a, .int .i64 t.b, .int .i64 t.n, .slice aw lw cw], .bool true]) (by simp [results, Tryz.results63, go_sem, k0, k1, k2, k3, k4, k5, k6]) rfl ?_
     exact ⟨t, aw, lw, cw, true, rfl, fun _ => HN.out, (fun h => by cases h), HH.out.2.2, own_baseB HOF (by simp), HE⟩
  ·go_simp
   have HXB : Hid (Below (w.alloc (.cells #[.int .i64 0, .string { data := #[] }, .int .i64 0, .int .i64 0, .int .i64 0, .int .i64 0, .slice none 0 0] 44)).heap.size (w.alloc (.cells #[.int .i64 0, .string { data := #[] }, .int .i64 0, .int .i64 0, .int .i64 0, .int .i64 0, .slice none 0 0] 44)) (((w.alloc (.cells #[.int .i64 0, .string { data := #[] }, .int .i64 0, .int .i64 0, .int .i64 0, .int .i64 0, .slice none 0 0] 44)).alloc (.cells #[.int .i64 0, .string { data := #[] }, .int .i64 0, .int .i64 0, .int .i64 0, .int .i64 0, .slice none 0 0] 44)).drew)) := (bl1 _ _).drew
   have HPB : Hid (Bx (((w.alloc (.cells #[.int .i64 0, .string { data := #[] }, .int .i64 0, .int .i64 0, .int .i64 0, .int .i64 0, .slice none 0 0] 44)).alloc (.cells #[.int .i64 0, .string { data := #[] }, .int .i64 0, .int .i64 0, .int .i64 0, .int .i64 0, .slice none 0 0] 44)).drew) (w.heap.size + 1) [.int .i64 0, .string { data := #[] }, .int .i64 0, .int .i64 0, .int .i64 0, .int .i64 0, .slice none 0 0]) := by show Bx _ _ _; have q := (Bx.new (w.alloc (.cells #[.int .i64 0, .string { data := #[] }, .int .i64 0, .int .i64 0, .int .i64 0, .int .i64 0, .slice none 0 0] 44)) #[.int .i64 0, .string { data := #[] }, .int .i64 0, .int .i64 0, .int .i64 0, .int .i64 0, .slice none 0 0] 44).below (Below.refl _ _).drew; simpa using q
   refine hK.out _ _ (HS.out _ HXB.out) (fun hHeld => ?_)
   clear hK K
   try simp only [Act.put, zA, zB, zC]
   refine tr [5] ?_
   refine AllReadyH.cons (tA rfl) (fun K hK => ?_) AllReadyH.nil
   go_simp
   refine (take_any f hf (HV.out.below ((bl1 _ _).trans (HXB.out.mono (bl1 _ _).size))) (by omega) ((HT.out.alloc _).below HXB.out)).mono ?_
   rintro e y ⟨t, aw, lw, cw, ok, rfl, h1, h2, h3, ho, hb⟩
   have HH : Hid ((ok = true → X.take f.data.toList ws = some t) ∧ (ok = false → X.take f.data.toList ws = none) ∧ t.name.length ≤ 200000) := ⟨h1, h2, h3⟩
   have HB : Hid (Below (w.alloc (.cells #[.int .i64 0, .string { data := #[] }, .int .i64 0, .int .i64 0, .int .i64 0, .int .i64 0, .slice none 0 0] 44)).heap.size (w.alloc (.cells #[.int .i64 0, .string { data := #[] }, .int .i64 0, .int .i64 0, .int .i64 0, .int .i64 0, .slice none 0 0] 44)) y) := HXB.out.trans (hb.mono HXB.out.size)
   have HPY : Hid (Bx y (w.heap.size + 1) [.int .i64 0, .string { data := #[] }, .int .i64 0, .int .i64 0, .int .i64 0, .int .i64 0, .slice none 0 0]) := HPB.out.below hb
   have HO : Hid (y.ownsRow (((w.alloc (.cells #[.int .i64 0, .string { data := #[] }, .int .i64 0, .int .i64 0, .int .i64 0, .int .i64 0, .slice none 0 0] 44)).alloc (.cells #[.int .i64 0, .string { data := #[] }, .int .i64 0, .int .i64 0, .int .i64 0, .int .i64 0, .slice none 0 0] 44)).drew).heap.size 2 1 (.slice aw lw cw) lw (iC t.words)) := ho
   clear h1 h2 h3 ho hb
   refine hK.out _ _ (HS.out _ HB.out) (fun hHeld => ?_)
   clear hK K
   try simp only [Act.put, zA, zB, zC]
   refine tj 6 ?_
   simp only [Act.put, zA, zB, zC]
   refine tj 7 ?_
   simp only [Act.put, zA, zB, zC]
   refine tj 8 ?_
   simp only [Act.put, zA, zB, zC]
   have HQ := HPY.out
   have c0 := HQ.c 0 _ rfl; have c1 := HQ.c 1 _ rfl; have c2 := HQ.c 2 _ rfl; have c3 := HQ.c 3 _ rfl; have c4 := HQ.c 4 _ rfl; have c5 := HQ.c 5 _ rfl; have c6 := HQ.c 6 _ rfl
   have f0 := HQ.f 0; have f1 := HQ.f 1; have f2 := HQ.f 2; have f3 := HQ.f 3; have f4 := HQ.f 4; have f5 := HQ.f 5; have f6 := HQ.f 6
   clear HQ
   refine tr [10] ?_
   refine AllReadyH.cons (tA rfl) (fun K hK => ?_) AllReadyH.nil
   go_simp
   have HCB : Hid (Below (w.alloc (.cells #[.int .i64 0, .string { data := #[] }, .int .i64 0, .int .i64 0, .int .i64 0, .int .i64 0, .slice none 0 0] 44)).heap.size (w.alloc (.cells #[.int .i64 0, .string { data := #[] }, .int .i64 0, .int .i64 0, .int .i64 0, .int .i64 0, .slice none 0 0] 44)) (((((((y.setCell ⟨w.heap.size + 1, 0, none⟩ (.int .i64 t.kind)).setCell ⟨w.heap.size + 1, 1, none⟩ (.string (X.str t.name))).setCell ⟨w.heap.size + 1, 2, none⟩ (.int .i64 t.op)).setCell ⟨w.heap.size + 1, 3, none⟩ (.int .i64 t.a)).setCell ⟨w.heap.size + 1, 4, none⟩ (.int .i64 t.b)).setCell ⟨w.heap.size + 1, 5, none⟩ (.int .i64 t.n)).setCell ⟨w.heap.size + 1, 6, none⟩ (.slice aw lw cw))) := below_put7 HB.out (by simp)
   refine hK.out _ _ (HS.out _ HCB.out) (fun hHeld => ?_)
   clear hK K c0 c1 c2 c3 c4 c5 c6 f0 f1 f2 f3 f4 f5 f6
   try simp only [Act.put, zA, zB, zC]
   refine tj 11 ?_
   simp only [Act.put, zA, zB, zC]
   refine wpAnyH_done (by kernel_rfl) ?_ _
   clear hHeld
   have HBX : Hid (Bx (((((((y.setCell ⟨w.heap.size + 1, 0, none⟩ (.int .i64 t.kind)).setCell ⟨w.heap.size + 1, 1, none⟩ (.string (X.str t.name))).setCell ⟨w.heap.size + 1, 2, none⟩ (.int .i64 t.op)).setCell ⟨w.heap.size + 1, 3, none⟩ (.int .i64 t.a)).setCell ⟨w.heap.size + 1, 4, none⟩ (.int .i64 t.b)).setCell ⟨w.heap.size + 1, 5, none⟩ (.int .i64 t.n)).setCell ⟨w.heap.size + 1, 6, none⟩ (.slice aw lw cw)) (w.heap.size + 1) [.int .i64 t.kind, .string (X.str t.name), .int .i64 t.op, .int .i64 t.a, .int .i64 t.b, .int .i64 t.n, .slice aw lw cw]) := Bx.put7 HPY.out rfl (.int .i64 t.kind) (.string (X.str t.name)) (.int .i64 t.op) (.int .i64 t.a) (.int .i64 t.b) (.int .i64 t.n) (.slice aw lw cw)
   have HRS : Hid (Bx (((((((y.setCell ⟨w.heap.size + 1, 0, none⟩ (.int .i64 t.kind)).setCell ⟨w.heap.size + 1, 1, none⟩ (.string (X.str t.name))).setCell ⟨w.heap.size + 1, 2, none⟩ (.int .i64 t.op)).setCell ⟨w.heap.size + 1, 3, none⟩ (.int .i64 t.a)).setCell ⟨w.heap.size + 1, 4, none⟩ (.int .i64 t.b)).setCell ⟨w.heap.size + 1, 5, none⟩ (.int .i64 t.n)).setCell ⟨w.heap.size + 1, 6, none⟩ (.slice aw lw cw)) w.heap.size [.int .i64 0, .string { data := #[] }, .int .i64 0, .int .i64 0, .int .i64 0, .int .i64 0, .slice none 0 0]) := Bx.far7 (HZ.out.below HB.out) (by simp)
   have HW : Hid (Below w.heap.size w (((((((y.setCell ⟨w.heap.size + 1, 0, none⟩ (.int .i64 t.kind)).setCell ⟨w.heap.size + 1, 1, none⟩ (.string (X.str t.name))).setCell ⟨w.heap.size + 1, 2, none⟩ (.int .i64 t.op)).setCell ⟨w.heap.size + 1, 3, none⟩ (.int .i64 t.a)).setCell ⟨w.heap.size + 1, 4, none⟩ (.int .i64 t.b)).setCell ⟨w.heap.size + 1, 5, none⟩ (.int .i64 t.n)).setCell ⟨w.heap.size + 1, 6, none⟩ (.slice aw lw cw))) := (bl1 _ _).trans (HCB.out.mono (bl1 _ _).size)
   have HTY : Hid (Tab (((((((y.setCell ⟨w.heap.size + 1, 0, none⟩ (.int .i64 t.kind)).setCell ⟨w.heap.size + 1, 1, none⟩ (.string (X.str t.name))).setCell ⟨w.heap.size + 1, 2, none⟩ (.int .i64 t.op)).setCell ⟨w.heap.size + 1, 3, none⟩ (.int .i64 t.a)).setCell ⟨w.heap.size + 1, 4, none⟩ (.int .i64 t.b)).setCell ⟨w.heap.size + 1, 5, none⟩ (.int .i64 t.n)).setCell ⟨w.heap.size + 1, 6, none⟩ (.slice aw lw cw))) := HT.out.below HW.out
   have HOY : Hid (World.ownsRow (((((((y.setCell ⟨w.heap.size + 1, 0, none⟩ (.int .i64 t.kind)).setCell ⟨w.heap.size + 1, 1, none⟩ (.string (X.str t.name))).setCell ⟨w.heap.size + 1, 2, none⟩ (.int .i64 t.op)).setCell ⟨w.heap.size + 1, 3, none⟩ (.int .i64 t.a)).setCell ⟨w.heap.size + 1, 4, none⟩ (.int .i64 t.b)).setCell ⟨w.heap.size + 1, 5, none⟩ (.int .i64 t.n)).setCell ⟨w.heap.size + 1, 6, none⟩ (.slice aw lw cw)) (w.alloc (.cells #[.int .i64 0, .string { data := #[] }, .int .i64 0, .int .i64 0, .int .i64 0, .int .i64 0, .slice none 0 0] 44)).heap.size 2 1 (.slice aw lw cw) lw (iC t.words)) := own_baseB (put7_own HO.out (by simp [World.drew])) (by simp [World.drew])
   have hlw : t.words.length = lw := by have := HOY.out.1; unfold iC at this; simpa using this
   have hmb := fun w h => mayBe_any t.kind (X.str t.name) t.op t.a t.b t.n aw lw cw t.words hlw (by rw [str_size]; have := HH.out.2.2; unfold maxLen; omega) w h
   simp only [str_list] at hmb
   rw [show (⟨t.kind, t.name, t.op, t.a, t.b, t.n, t.words⟩ : X.It) = t from rfl] at hmb
   have hly : w.heap.size + 1 ≠ w.heap.size := by omega
   generalize hY : (((((((y.setCell ⟨w.heap.size + 1, 0, none⟩ (.int .i64 t.kind)).setCell ⟨w.heap.size + 1, 1, none⟩ (.string (X.str t.name))).setCell ⟨w.heap.size + 1, 2, none⟩ (.int .i64 t.op)).setCell ⟨w.heap.size + 1, 3, none⟩ (.int .i64 t.a)).setCell ⟨w.heap.size + 1, 4, none⟩ (.int .i64 t.b)).setCell ⟨w.heap.size + 1, 5, none⟩ (.int .i64 t.n)).setCell ⟨w.heap.size + 1, 6, none⟩ (.slice aw lw cw)) = Y at HBX HRS HW HTY HOY ⊢
   clear hY HB HO HPB HXB HPY HCB
   go_wp2_with fail
   generalize hpb : w.heap.size + 1 = pb at HBX hly ⊢
   clear hpb
   have HS2 : Hid (∀ z, Below Y.heap.size Y z → (fun z : World => z.cell? ⟨pb, 0, none⟩ = some (.int .i64 t.kind) ∧ z.cell? ⟨pb, 1, none⟩ = some (.string (X.str t.name)) ∧ z.cell? ⟨pb, 2, none⟩ = some (.int .i64 t.op) ∧ z.cell? ⟨pb, 3, none⟩ = some (.int .i64 t.a) ∧ z.cell? ⟨pb, 4, none⟩ = some (.int .i64 t.b) ∧ z.cell? ⟨pb, 5, none⟩ = some (.int .i64 t.n) ∧ z.cell? ⟨pb, 6, none⟩ = some (.slice aw lw cw)) z) := fun z hz => by
    have q := HBX.out.below hz
    exact ⟨q.c 0 _ rfl, q.c 1 _ rfl, q.c 2 _ rfl, q.c 3 _ rfl, q.c 4 _ rfl, q.c 5 _ rfl, q.c 6 _ rfl⟩
   cases ok with
   | false =>
    have HN : Hid (X.read (f.data.toList :: ws) = none) := by show _ = _; simp [X.read, HH.out.2.1 rfl]
    refine wp_region_held_drew (S := (fun z : World => z.cell? ⟨pb, 0, none⟩ = some (.int .i64 t.kind) ∧ z.cell? ⟨pb, 1, none⟩ = some (.string (X.str t.name)) ∧ z.cell? ⟨pb, 2, none⟩ = some (.int .i64 t.op) ∧ z.cell? ⟨pb, 3, none⟩ = some (.int .i64 t.a) ∧ z.cell? ⟨pb, 4, none⟩ = some (.int .i64 t.b) ∧ z.cell? ⟨pb, 5, none⟩ = some (.int .i64 t.n) ∧ z.cell? ⟨pb, 6, none⟩ = some (.slice aw lw cw))) (by kernel_rfl) (HS2.out _ (Below.refl _ _).drew) (fun hHeld => ?_)
    refine tj 0 ?_
    simp only [Act.put, zA, zB, zC]
    refine tj 1 ?_
    simp only [Act.put, zA, zB, zC]
    refine tj 2 ?_
    simp only [Act.put, zA, zB, zC]
    refine tu 3 ?_
    simp only [Act.put, zA, zB, zC]
    refine tu 4 ?_
    simp only [Act.put, zA, zB, zC]
    refine tj 5 ?_
    simp only [Act.put, zA, zB, zC]
    obtain ⟨Q, hQ⟩ : ∃ Q, Y.drew = Q := ⟨_, rfl⟩
    have HBQ : Hid (Below Y.heap.size Y Q) := by show Below _ _ _; rw [← hQ]; exact (Below.refl _ _).drew
    rw [hQ]
    clear hQ
    have HQ := HRS.out.below HBQ.out
    have HQ' : Hid _ := HQ
    have c0 := HQ.c 0 _ rfl; have c1 := HQ.c 1 _ rfl; have c2 := HQ.c 2 _ rfl; have c3 := HQ.c 3 _ rfl; have c4 := HQ.c 4 _ rfl; have c5 := HQ.c 5 _ rfl; have c6 := HQ.c 6 _ rfl
    have f0 := HQ.f 0; have f1 := HQ.f 1; have f2 := HQ.f 2; have f3 := HQ.f 3; have f4 := HQ.f 4; have f5 := HQ.f 5; have f6 := HQ.f 6
    have HWQ : Hid (Below w.heap.size w Q) := HW.out.trans (HBQ.out.mono HW.out.size)
    have HOQ : Hid (Q.ownsRow (w.alloc (.cells #[.int .i64 0, .string { data := #[] }, .int .i64 0, .int .i64 0, .int .i64 0, .int .i64 0, .slice none 0 0] 44)).heap.size 2 1 (.slice aw lw cw) lw (iC t.words)) := own_thru HOY.out HBQ.out
    clear HQ hmb
    refine tr [6] ?_
    refine AllReadyH.cons (tA rfl) (fun K hK => ?_) AllReadyH.nil
    clear hHeld
    go_simp
    have HPS := (HBX.out.below HBQ.out)
    refine hK.out _ _ ?_ (fun hHeld => ?_)
    ·exact put7_S HPS hly
    clear hK K
    try simp only [Act.put, zA, zB, zC]
    refine tj 7 ?_
    simp only [Act.put, zA, zB, zC]
    refine wpAnyH_done (by kernel_rfl) ?_ _
    clear hHeld c0 c1 c2 c3 c4 c5 c6 f0 f1 f2 f3 f4 f5 f6
    have HOF := put7_own (b := w.heap.size) (u0 := .int .i64 t.kind) (u1 := .string (X.str t.name)) (u2 := .int .i64 t.op) (u3 := .int .i64 t.a) (u4 := .int .i64 t.b) (u5 := .int .i64 t.n) (u6 := .slice aw lw cw) HOQ.out (show w.heap.size < (w.alloc (.cells #[.int .i64 0, .string { data := #[] }, .int .i64 0, .int .i64 0, .int .i64 0, .int .i64 0, .slice none 0 0] 44)).heap.size by simp)
    have HF := Bx.put7 HQ'.out rfl (.int .i64 t.kind) (.string (X.str t.name)) (.int .i64 t.op) (.int .i64 t.a) (.int .i64 t.b) (.int .i64 t.n) (.slice aw lw cw)
    have HE : Below w.heap.size w (((((((Q.setCell ⟨w.heap.size, 0, none⟩ (.int .i64 t.kind)).setCell ⟨w.heap.size, 1, none⟩ (.string (X.str t.name))).setCell ⟨w.heap.size, 2, none⟩ (.int .i64 t.op)).setCell ⟨w.heap.size, 3, none⟩ (.int .i64 t.a)).setCell ⟨w.heap.size, 4, none⟩ (.int .i64 t.b)).setCell ⟨w.heap.size, 5, none⟩ (.int .i64 t.n)).setCell ⟨w.heap.size, 6, none⟩ (.slice aw lw cw)) := below_put7 HWQ.out (Nat.le_refl _)
    generalize (((((((Q.setCell ⟨w.heap.size, 0, none⟩ (.int .i64 t.kind)).setCell ⟨w.heap.size, 1, none⟩ (.string (X.str t.name))).setCell ⟨w.heap.size, 2, none⟩ (.int .i64 t.op)).setCell ⟨w.heap.size, 3, none⟩ (.int .i64 t.a)).setCell ⟨w.heap.size, 4, none⟩ (.int .i64 t.b)).setCell ⟨w.heap.size, 5, none⟩ (.int .i64 t.n)).setCell ⟨w.heap.size, 6, none⟩ (.slice aw lw cw)) = Wf at HF HE HOF ⊢
    have k0 := HF.c 0 _ rfl; have k1 := HF.c 1 _ rfl; have k2 := HF.c 2 _ rfl; have k3 := HF.c 3 _ rfl; have k4 := HF.c 4 _ rfl; have k5 := HF.c 5 _ rfl; have k6 := HF.c 6 _ rfl
    clear HPS
    go_wp2_with fail
    refine bodyPost_ret (v := .tuple #[.agg #[.int .i64 t.kind, .string (X.str t.name), .int .i64 t.op, .int .i64 t.a, .int .i64 t.b, .int .i64 t.n, .slice aw lw cw], .bool false]) (by simp [results, Tryz.results63, go_sem, k0, k1, k2, k3, k4, k5, k6]) rfl ?_
    exact ⟨t, aw, lw, cw, false, rfl, (fun h => by cases h), fun _ => HN.out, HH.out.2.2, own_baseB HOF (by simp), HE⟩
   | true =>
    cases hmk : X.itOk t
    ·rw [hmk] at hmb
     have HN : Hid (X.read (f.data.toList :: ws) = none) := by show _ = _; simp [X.read, HH.out.1 rfl, hmk]
     refine wp_region_held_drew (S := (fun z : World => z.cell? ⟨pb, 0, none⟩ = some (.int .i64 t.kind) ∧ z.cell? ⟨pb, 1, none⟩ = some (.string (X.str t.name)) ∧ z.cell? ⟨pb, 2, none⟩ = some (.int .i64 t.op) ∧ z.cell? ⟨pb, 3, none⟩ = some (.int .i64 t.a) ∧ z.cell? ⟨pb, 4, none⟩ = some (.int .i64 t.b) ∧ z.cell? ⟨pb, 5, none⟩ = some (.int .i64 t.n) ∧ z.cell? ⟨pb, 6, none⟩ = some (.slice aw lw cw))) (by kernel_rfl) (HS2.out _ (Below.refl _ _).drew) (fun hHeld => ?_)
     refine tj 0 ?_
     simp only [Act.put, zA, zB, zC]
     refine tj 1 ?_
     simp only [Act.put, zA, zB, zC]
     refine tj 2 ?_
     simp only [Act.put, zA, zB, zC]
     refine tj 3 ?_
     simp only [Act.put, zA, zB, zC]
     refine tr [4] ?_
     refine AllReadyH.cons (tA rfl) (fun K hK => ?_) AllReadyH.nil
     go_simp
     refine (hmb _ (HTY.out.below (Below.refl _ _).drew)).mono ?_
     rintro e Q ⟨rfl, hb2⟩
     have HBQ : Hid (Below Y.heap.size Y Q) := (Below.refl _ _).drew.trans hb2
     clear hb2
     refine hK.out _ _ (HS2.out _ HBQ.out) (fun hHeld => ?_)
     clear hK K
     try simp only [Act.put, zA, zB, zC]
     refine tj 5 ?_
     simp only [Act.put, zA, zB, zC]
     have HQ := HRS.out.below HBQ.out
     have HQ' : Hid _ := HQ
     have c0 := HQ.c 0 _ rfl; have c1 := HQ.c 1 _ rfl; have c2 := HQ.c 2 _ rfl; have c3 := HQ.c 3 _ rfl; have c4 := HQ.c 4 _ rfl; have c5 := HQ.c 5 _ rfl; have c6 := HQ.c 6 _ rfl
     have f0 := HQ.f 0; have f1 := HQ.f 1; have f2 := HQ.f 2; have f3 := HQ.f 3; have f4 := HQ.f 4; have f5 := HQ.f 5; have f6 := HQ.f 6
     have HWQ : Hid (Below w.heap.size w Q) := HW.out.trans (HBQ.out.mono HW.out.size)
     have HOQ : Hid (Q.ownsRow (w.alloc (.cells #[.int .i64 0, .string { data := #[] }, .int .i64 0, .int .i64 0, .int .i64 0, .int .i64 0, .slice none 0 0] 44)).heap.size 2 1 (.slice aw lw cw) lw (iC t.words)) := own_thru HOY.out HBQ.out
     clear HQ hmb
     refine tr [6] ?_
     refine AllReadyH.cons (tA rfl) (fun K hK => ?_) AllReadyH.nil
     clear hHeld
     go_simp
     have HPS := (HBX.out.below HBQ.out)
     refine hK.out _ _ ?_ (fun hHeld => ?_)
     ·exact put7_S HPS hly
     clear hK K
     try simp only [Act.put, zA, zB, zC]
     refine tj 7 ?_
     simp only [Act.put, zA, zB, zC]
     refine wpAnyH_done (by kernel_rfl) ?_ _
     clear hHeld c0 c1 c2 c3 c4 c5 c6 f0 f1 f2 f3 f4 f5 f6
     have HOF := put7_own (b := w.heap.size) (u0 := .int .i64 t.kind) (u1 := .string (X.str t.name)) (u2 := .int .i64 t.op) (u3 := .int .i64 t.a) (u4 := .int .i64 t.b) (u5 := .int .i64 t.n) (u6 := .slice aw lw cw) HOQ.out (show w.heap.size < (w.alloc (.cells #[.int .i64 0, .string { data := #[] }, .int .i64 0, .int .i64 0, .int .i64 0, .int .i64 0, .slice none 0 0] 44)).heap.size by simp)
     have HF := Bx.put7 HQ'.out rfl (.int .i64 t.kind) (.string (X.str t.name)) (.int .i64 t.op) (.int .i64 t.a) (.int .i64 t.b) (.int .i64 t.n) (.slice aw lw cw)
     have HE : Below w.heap.size w (((((((Q.setCell ⟨w.heap.size, 0, none⟩ (.int .i64 t.kind)).setCell ⟨w.heap.size, 1, none⟩ (.string (X.str t.name))).setCell ⟨w.heap.size, 2, none⟩ (.int .i64 t.op)).setCell ⟨w.heap.size, 3, none⟩ (.int .i64 t.a)).setCell ⟨w.heap.size, 4, none⟩ (.int .i64 t.b)).setCell ⟨w.heap.size, 5, none⟩ (.int .i64 t.n)).setCell ⟨w.heap.size, 6, none⟩ (.slice aw lw cw)) := below_put7 HWQ.out (Nat.le_refl _)
     generalize (((((((Q.setCell ⟨w.heap.size, 0, none⟩ (.int .i64 t.kind)).setCell ⟨w.heap.size, 1, none⟩ (.string (X.str t.name))).setCell ⟨w.heap.size, 2, none⟩ (.int .i64 t.op)).setCell ⟨w.heap.size, 3, none⟩ (.int .i64 t.a)).setCell ⟨w.heap.size, 4, none⟩ (.int .i64 t.b)).setCell ⟨w.heap.size, 5, none⟩ (.int .i64 t.n)).setCell ⟨w.heap.size, 6, none⟩ (.slice aw lw cw)) = Wf at HF HE HOF ⊢
     have k0 := HF.c 0 _ rfl; have k1 := HF.c 1 _ rfl; have k2 := HF.c 2 _ rfl; have k3 := HF.c 3 _ rfl; have k4 := HF.c 4 _ rfl; have k5 := HF.c 5 _ rfl; have k6 := HF.c 6 _ rfl
     clear HPS
     go_wp2_with fail
     refine bodyPost_ret (v := .tuple #[.agg #[.int .i64 t.kind, .string (X.str t.name), .int .i64 t.op, .int .i64 t.a, .int .i64 t.b, .int .i64 t.n, .slice aw lw cw], .bool false]) (by simp [results, Tryz.results63, go_sem, k0, k1, k2, k3, k4, k5, k6]) rfl ?_
     exact ⟨t, aw, lw, cw, false, rfl, (fun h => by cases h), fun _ => HN.out, HH.out.2.2, own_baseB HOF (by simp), HE⟩
    ·rw [hmk] at hmb
     have HN : Hid (X.read (f.data.toList :: ws) = some t) := by show _ = _; simp [X.read, HH.out.1 rfl, hmk]
     refine wp_region_held_drew (S := (fun z : World => z.cell? ⟨pb, 0, none⟩ = some (.int .i64 t.kind) ∧ z.cell? ⟨pb, 1, none⟩ = some (.string (X.str t.name)) ∧ z.cell? ⟨pb, 2, none⟩ = some (.int .i64 t.op) ∧ z.cell? ⟨pb, 3, none⟩ = some (.int .i64 t.a) ∧ z.cell? ⟨pb, 4, none⟩ = some (.int .i64 t.b) ∧ z.cell? ⟨pb, 5, none⟩ = some (.int .i64 t.n) ∧ z.cell? ⟨pb, 6, none⟩ = some (.slice aw lw cw))) (by kernel_rfl) (HS2.out _ (Below.refl _ _).drew) (fun hHeld => ?_)
     refine tj 0 ?_
     simp only [Act.put, zA, zB, zC]
     refine tj 1 ?_
     simp only [Act.put, zA, zB, zC]
     refine tj 2 ?_
     simp only [Act.put, zA, zB, zC]
     refine tj 3 ?_
     simp only [Act.put, zA, zB, zC]
     refine tr [4] ?_
     refine AllReadyH.cons (tA rfl) (fun K hK => ?_) AllReadyH.nil
     go_simp
     refine (hmb _ (HTY.out.below (Below.refl _ _).drew)).mono ?_
     rintro e Q ⟨rfl, hb2⟩
     have HBQ : Hid (Below Y.heap.size Y Q) := (Below.refl _ _).drew.trans hb2
     clear hb2
     refine hK.out _ _ (HS2.out _ HBQ.out) (fun hHeld => ?_)
     clear hK K
     try simp only [Act.put, zA, zB, zC]
     refine tj 5 ?_
     simp only [Act.put, zA, zB, zC]
     have HQ := HRS.out.below HBQ.out
     have HQ' : Hid _ := HQ
     have c0 := HQ.c 0 _ rfl; have c1 := HQ.c 1 _ rfl; have c2 := HQ.c 2 _ rfl; have c3 := HQ.c 3 _ rfl; have c4 := HQ.c 4 _ rfl; have c5 := HQ.c 5 _ rfl; have c6 := HQ.c 6 _ rfl
     have f0 := HQ.f 0; have f1 := HQ.f 1; have f2 := HQ.f 2; have f3 := HQ.f 3; have f4 := HQ.f 4; have f5 := HQ.f 5; have f6 := HQ.f 6
     have HWQ : Hid (Below w.heap.size w Q) := HW.out.trans (HBQ.out.mono HW.out.size)
     have HOQ : Hid (Q.ownsRow (w.alloc (.cells #[.int .i64 0, .string { data := #[] }, .int .i64 0, .int .i64 0, .int .i64 0, .int .i64 0, .slice none 0 0] 44)).heap.size 2 1 (.slice aw lw cw) lw (iC t.words)) := own_thru HOY.out HBQ.out
     clear HQ hmb
     refine tr [6] ?_
     refine AllReadyH.cons (tA rfl) (fun K hK => ?_) AllReadyH.nil
     clear hHeld
     go_simp
     have HPS := (HBX.out.below HBQ.out)
     refine hK.out _ _ ?_ (fun hHeld => ?_)
     ·exact put7_S HPS hly
     clear hK K
     try simp only [Act.put, zA, zB, zC]
     refine tj 7 ?_
     simp only [Act.put, zA, zB, zC]
     refine wpAnyH_done (by kernel_rfl) ?_ _
     clear hHeld c0 c1 c2 c3 c4 c5 c6 f0 f1 f2 f3 f4 f5 f6
     have HOF := put7_own (b := w.heap.size) (u0 := .int .i64 t.kind) (u1 := .string (X.str t.name)) (u2 := .int .i64 t.op) (u3 := .int .i64 t.a) (u4 := .int .i64 t.b) (u5 := .int .i64 t.n) (u6 := .slice aw lw cw) HOQ.out (show w.heap.size < (w.alloc (.cells #[.int .i64 0, .string { data := #[] }, .int .i64 0, .int .i64 0, .int .i64 0, .int .i64 0, .slice none 0 0] 44)).heap.size by simp)
     have HF := Bx.put7 HQ'.out rfl (.int .i64 t.kind) (.string (X.str t.name)) (.int .i64 t.op) (.int .i64 t.a) (.int .i64 t.b) (.int .i64 t.n) (.slice aw lw cw)
     have HE : Below w.heap.size w (((((((Q.setCell ⟨w.heap.size, 0, none⟩ (.int .i64 t.kind)).setCell ⟨w.heap.size, 1, none⟩ (.string (X.str t.name))).setCell ⟨w.heap.size, 2, none⟩ (.int .i64 t.op)).setCell ⟨w.heap.size, 3, none⟩ (.int .i64 t.a)).setCell ⟨w.heap.size, 4, none⟩ (.int .i64 t.b)).setCell ⟨w.heap.size, 5, none⟩ (.int .i64 t.n)).setCell ⟨w.heap.size, 6, none⟩ (.slice aw lw cw)) := below_put7 HWQ.out (Nat.le_refl _)
     generalize (((((((Q.setCell ⟨w.heap.size, 0, none⟩ (.int .i64 t.kind)).setCell ⟨w.heap.size, 1, none⟩ (.string (X.str t.name))).setCell ⟨w.heap.size, 2, none⟩ (.int .i64 t.op)).setCell ⟨w.heap.size, 3, none⟩ (.int .i64 t.a)).setCell ⟨w.heap.size, 4, none⟩ (.int .i64 t.b)).setCell ⟨w.heap.size, 5, none⟩ (.int .i64 t.n)).setCell ⟨w.heap.size, 6, none⟩ (.slice aw lw cw)) = Wf at HF HE HOF ⊢
     have k0 := HF.c 0 _ rfl; have k1 := HF.c 1 _ rfl; have k2 := HF.c 2 _ rfl; have k3 := HF.c 3 _ rfl; have k4 := HF.c 4 _ rfl; have k5 := HF.c 5 _ rfl; have k6 := HF.c 6 _ rfl
     clear HPS
     go_wp2_with fail
     refine bodyPost_ret (v := .tuple #[.agg #[.int .i64 t.kind, .string (X.str t.name), .int .i64 t.op, .int .i64 t.a, .int .i64 t.b, .int .i64 t.n, .slice aw lw cw], .bool true]) (by simp [results, Tryz.results63, go_sem, k0, k1, k2, k3, k4, k5, k6]) rfl ?_
     exact ⟨t, aw, lw, cw, true, rfl, fun _ => HN.out, (fun h => by cases h), HH.out.2.2, own_baseB HOF (by simp), HE⟩

end Go.Proofs.YtgjingleolhkbaaGreatDoor

/- The writer: a declaration. -/
import Derived.Test.YtikknlkdbjaonaaGreatDoorPBAt
import Derived.Test.YtikknlkdbjaonaaGreatDoorPBAn
import Derived.Recover
import Derived.Laws.IdiomStrings
import Derived.Lib.BufferRead
namespace Go.Proofs.YtikknlkdbjaonaaGreatDoor.Y
open Go.RowKit Go.Maps Go.Lib
set_option linter.unusedVariables false
set_option linter.unusedSimpArgs false
set_option maxRecDepth 100000 in
set_option maxHeartbeats 8000000 in
theorem wdecl_any {B C D : Nat} {wp : Nat} {vd vs ve : Value} {E : List Exp} {XS : List Sx} (hE : EOk E) (hS : SOk XS) {w : World} {T : By} (p : Dx) (h : WX B C w wp vd vs ve E T) (hM : MS D w vs XS) (hp : DxR D w p) (hd : D1 p.d) : Calls Tryz.prog 65 #[.pointer (some ⟨wp, 0, none⟩), dcV p] w (WXO B C w wp vd vs ve E (wdecl E (XS.map (·.s)) p.d T)) := by
  have hdd := hd
  obtain ⟨⟨kd, nm, ext, n, bs, ps, ct, rk, bd⟩, vp, vb⟩ := p
  obtain ⟨rp, rb⟩ := hp
  obtain ⟨hnm, hbs, hps, hn0, hn1, hc0, hc1, hr0, hr1⟩ := hd
  dsimp only at hnm hbs hps hn0 hn1 hc0 hc1 hr0 hr1 rp rb
  obtain ⟨ap, cp, hv⟩ := row_form rp
  subst hv
  obtain ⟨ab, cb, hv⟩ := row_form rb
  subst hv
  obtain ⟨R, hR⟩ : ∃ R, wdecl E (XS.map (·.s)) ⟨kd, nm, ext, n, bs, ps, ct, rk, bd⟩ T = R := ⟨_, rfl⟩
  rw [hR]
  unfold dcV
  dsimp only
  obtain ⟨y0, hY⟩ : ∃ Y, w.alloc (.cells #[.int .i64 kd, .string (X.str nm), .bool ext, .int .i64 n, .string (X.str bs), .slice ap ps.length cp, .int .i64 ct, .int .i64 rk, .slice ab bd.length cb] 54) = Y := ⟨_, rfl⟩
  have HBY : Hid (Below w.heap.size w y0) := by show Below _ _ _; rw [← hY]; exact bl1 _ _
  have HB : Hid (y0.heap[w.heap.size]? = some (.cells #[.int .i64 kd, .string (X.str nm), .bool ext, .int .i64 n, .string (X.str bs), .slice ap ps.length cp, .int .i64 ct, .int .i64 rk, .slice ab bd.length cb] 54)) := by show _ = _; rw [← hY]; exact heap_new _ _
  have HX0 : Hid (WX B C y0 wp vd vs ve E T) := h.below HBY.out
  have HK0 : Hid (Kp [80, 5] B w y0) := h.toKp HBY.out
  have HM0 : Hid (MS D y0 vs XS) := hM.kp HK0.out
  have HPR0 : Hid (y0.ownsRow D 9 1 (.slice ap ps.length cp) ps.length (ps.map sZ)) := row_thru' rp HBY.out
  have HBD0 : Hid (y0.ownsRow D 3 1 (.slice ab bd.length cb) bd.length (bd.map iZ)) := row_thru' rb HBY.out
  have b0 := cell_blk HB.out 0 rfl
  have b1 := cell_blk HB.out 1 rfl
  have b2 := cell_blk HB.out 2 rfl
  have b3 := cell_blk HB.out 3 rfl
  have b4 := cell_blk HB.out 4 rfl
  have b5 := cell_blk HB.out 5 rfl
  have b6 := cell_blk HB.out 6 rfl
  have b7 := cell_blk HB.out 7 rfl
  have b8 := cell_blk HB.out 8 rfl
  have HR : Hid (wdecl E (XS.map (·.s)) ⟨kd, nm, ext, n, bs, ps, ct, rk, bd⟩ T = R) := hR
  clear h hR rp rb hM HBY
  go_enter Tryz.func65, Tryz.ntmps65
  cases ext
  case true =>
    have HR0 : Hid (((puts T [[101, 120, 116, 101, 114, 110]]).bind fun T1 => wdK E (XS.map (·.s)) ⟨kd, nm, true, n, bs, ps, ct, rk, bd⟩ T1) = R) := HR.out
    clear HR
    obtain ⟨A1, hA1⟩ : ∃ A, y0.alloc (.cells #[.string { data := #[101, 120, 116, 101, 114, 110] }] 9) = A := ⟨_, rfl⟩
    have HP1 : Hid _ := put_new HX0.out [[101, 120, 116, 101, 114, 110]] (by intro s hs; simp only [List.mem_cons, List.not_mem_nil, or_false] at hs; rcases hs with rfl <;> first | assumption | decide | omega | (show (Go.Lib.itoa n).length ≤ _; have := Go.Lib.itoa_length_le n hn0 hn1; omega) | (show (Go.Lib.itoa ct).length ≤ _; have := Go.Lib.itoa_length_le ct hc0 hc1; omega) | (show (Go.Lib.itoa rk).length ≤ _; have := Go.Lib.itoa_length_le rk hr0 hr1; omega)) (by simp) hA1
    go_wp2_with fail
    refine Calls.mono HP1.out ?_
    intro e y1 hy
    have HY1 : Hid _ := hy
    clear hy HP1
    cases hp1 : puts T [[101, 120, 116, 101, 114, 110]] with
    | none =>
      obtain rfl : none = R := by have := HR0.out; rw [hp1] at this; exact this
      have h2 := HY1.out
      rw [hp1] at h2
      have h3' : e = _ := h2.2
      subst h3'
      have HF : Hid (WXO B C w wp vd vs ve E none _ y1) := ⟨HK0.out.trans h2.1, h2.2⟩
      clear h2 HY1 HX0 HK0 HR0
      go_wp2_with fail
      exact ⟨rfl, HF.out⟩
    | some T1 =>
    have h2 := HY1.out
    rw [hp1] at h2
    have h3' : e = _ := h2.2.1
    subst h3'
    have HX1 : Hid (WX B C y1 wp vd vs ve E T1) := h2.2.2
    have HK1 : Hid (Kp [80, 5] B w y1) := HK0.out.trans h2.1
    have hr1 := HR0.out
    rw [hp1] at hr1
    simp only [Option.bind_some] at hr1
    have HR1 : Hid (_ = R) := hr1
    clear hr1
    have HM1 : Hid (MS D y1 vs XS) := HM0.out.kp h2.1
    have HPR1 : Hid (y1.ownsRow D 9 1 (.slice ap ps.length cp) ps.length (ps.map sZ)) := row_kp HPR0.out h2.1 (by decide)
    have HBD1 : Hid (y1.ownsRow D 3 1 (.slice ab bd.length cb) bd.length (bd.map iZ)) := row_kp HBD0.out h2.1 (by decide)
    clear HM0 HPR0 HBD0
    have HB1 : Hid (y1.heap[w.heap.size]? = some (.cells #[.int .i64 kd, .string (X.str nm), .bool true, .int .i64 n, .string (X.str bs), .slice ap ps.length cp, .int .i64 ct, .int .i64 rk, .slice ab bd.length cb] 54)) := h2.1.keep _ _ _ _ HB.out (by decide)
    have b0 := cell_blk HB1.out 0 rfl
    have b1 := cell_blk HB1.out 1 rfl
    have b2 := cell_blk HB1.out 2 rfl
    have b3 := cell_blk HB1.out 3 rfl
    have b4 := cell_blk HB1.out 4 rfl
    have b5 := cell_blk HB1.out 5 rfl
    have b6 := cell_blk HB1.out 6 rfl
    have b7 := cell_blk HB1.out 7 rfl
    have b8 := cell_blk HB1.out 8 rfl
    clear h2 HY1 hp1 HX0 HR0 HK0
    have hr0 := HR1.out
    unfold wdK at hr0
    dsimp only at hr0
    have HR : Hid (_ = R) := hr0
    clear HR1 hr0
    by_cases k1 : kd = 1
    · subst k1
      have HRq : Hid (_ = R) := ((if_pos rfl).symm.trans HR.out)
      clear HR
      obtain ⟨A2, hA2⟩ : ∃ A, y1.alloc (.cells #[.string { data := #[108, 111, 99, 107] }, .string (X.str nm), .string { data := #[59] }] 9) = A := ⟨_, rfl⟩
      have HP2 : Hid _ := put_new HX1.out [[108, 111, 99, 107], nm, [59]] (by intro s hs; simp only [List.mem_cons, List.not_mem_nil, or_false] at hs; rcases hs with rfl | rfl | rfl <;> first | assumption | decide | omega | (show (Go.Lib.itoa n).length ≤ _; have := Go.Lib.itoa_length_le n hn0 hn1; omega) | (show (Go.Lib.itoa ct).length ≤ _; have := Go.Lib.itoa_length_le ct hc0 hc1; omega) | (show (Go.Lib.itoa rk).length ≤ _; have := Go.Lib.itoa_length_le rk hr0 hr1; omega)) (by simp) hA2
      go_wp2_with fail
      refine Calls.mono HP2.out ?_
      intro e y2 hy
      have HY2 : Hid (WXO B C w wp vd vs ve E R e y2) := by
        show _
        have h5 := hy
        rw [HRq.out] at h5
        exact h5.on HK1.out
      clear hy HP2
      cases R with
      | none =>
        have h3' : e = _ := HY2.out.2
        subst h3'
        clear HX1 HK1 HRq
        go_wp2_with fail
        exact ⟨rfl, HY2.out⟩
      | some T9 =>
        have h3' : e = _ := HY2.out.2.1
        subst h3'
        clear HX1 HK1 HRq
        go_wp2_with fail
        refine bodyPost_end (results_none rfl _ _ _) rfl ?_
        exact HY2.out
    have HRn : Hid (_ = R) := (if_neg k1).symm.trans HR.out
    clear HR
    have HR := HRn
    clear HRn
    have d1 : (kd == 1) = false := by simpa using k1
    by_cases k2 : kd = 2
    · subst k2
      have HRq : Hid (_ = R) := ((if_pos rfl).symm.trans HR.out)
      clear HR
      obtain ⟨A2, hA2⟩ : ∃ A, y1.alloc (.cells #[.string { data := #[116, 105, 99, 107, 101, 116] }, .string (X.str nm), .string { data := #[59] }] 9) = A := ⟨_, rfl⟩
      have HP2 : Hid _ := put_new HX1.out [[116, 105, 99, 107, 101, 116], nm, [59]] (by intro s hs; simp only [List.mem_cons, List.not_mem_nil, or_false] at hs; rcases hs with rfl | rfl | rfl <;> first | assumption | decide | omega | (show (Go.Lib.itoa n).length ≤ _; have := Go.Lib.itoa_length_le n hn0 hn1; omega) | (show (Go.Lib.itoa ct).length ≤ _; have := Go.Lib.itoa_length_le ct hc0 hc1; omega) | (show (Go.Lib.itoa rk).length ≤ _; have := Go.Lib.itoa_length_le rk hr0 hr1; omega)) (by simp) hA2
      go_wp2_with fail
      refine Calls.mono HP2.out ?_
      intro e y2 hy
      have HY2 : Hid (WXO B C w wp vd vs ve E R e y2) := by
        show _
        have h5 := hy
        rw [HRq.out] at h5
        exact h5.on HK1.out
      clear hy HP2
      cases R with
      | none =>
        have h3' : e = _ := HY2.out.2
        subst h3'
        clear HX1 HK1 HRq
        go_wp2_with fail
        exact ⟨rfl, HY2.out⟩
      | some T9 =>
        have h3' : e = _ := HY2.out.2.1
        subst h3'
        clear HX1 HK1 HRq
        go_wp2_with fail
        refine bodyPost_end (results_none rfl _ _ _) rfl ?_
        exact HY2.out
    have HRn : Hid (_ = R) := (if_neg k2).symm.trans HR.out
    clear HR
    have HR := HRn
    clear HRn
    have d2 : (kd == 2) = false := by simpa using k2
    by_cases k3 : kd = 3
    · subst k3
      have HRq : Hid (puts T1 [[113, 117, 101, 117, 101], nm, Go.Lib.itoa n, [59]] = R) := ((if_pos rfl).symm.trans HR.out)
      clear HR
      obtain ⟨Z, hZ⟩ : ∃ Z, y1.drew = Z := ⟨_, rfl⟩
      have HBZ : Hid (Below y1.heap.size y1 Z) := by show Below _ _ _; rw [← hZ]; exact (Below.refl _ _).drew
      have HXZ : Hid (WX B C Z wp vd vs ve E T1) := HX1.out.below HBZ.out
      have HKZ : Hid (Kp [80, 5] B w Z) := HK1.out.trans (HX1.out.toKp HBZ.out)
      have HBB : Hid (Z.heap[w.heap.size]? = some (.cells #[.int .i64 (3), .string (X.str nm), .bool true, .int .i64 n, .string (X.str bs), .slice ap ps.length cp, .int .i64 ct, .int .i64 rk, .slice ab bd.length cb] 54)) := blk_thru HBZ.out HB1.out
      have HQ : Hid (∀ y, Kp [80, 5] B Z y → y.cell? ⟨w.heap.size, 1, none⟩ = some (.string (X.str nm)) ∧ y.cell? ⟨w.heap.size, 3, none⟩ = some (.int .i64 n)) := fun y hy => ⟨cell_blk (hy.keep _ _ _ _ HBB.out (by decide)) 1 rfl, cell_blk (hy.keep _ _ _ _ HBB.out (by decide)) 3 rfl⟩
      go_wp2_with fail
      refine wp_region_held_drew (S := (fun w' : World => w'.cell? ⟨w.heap.size, 1, none⟩ = some (.string (X.str nm)) ∧ w'.cell? ⟨w.heap.size, 3, none⟩ = some (.int .i64 n))) (by kernel_rfl) (by rw [hZ]; exact HQ.out _ (Kp.refl _ _ _)) (fun hHeld => ?_)
      rw [hZ]
      rw [hZ] at hHeld
      clear hZ
      refine tj 0 ?_
      simp only [Act.put, zA, zB, zC]
      refine tj 1 ?_
      simp only [Act.put, zA, zB, zC]
      refine tj 2 ?_
      simp only [Act.put, zA, zB, zC]
      refine tj 3 ?_
      simp only [Act.put, zA, zB, zC]
      refine tj 4 ?_
      simp only [Act.put, zA, zB, zC]
      refine tr [5] ?_
      refine AllReadyH.cons (tA rfl) (fun K hK => ?_) AllReadyH.nil
      go_simp
      refine (Tryz.strconv_Itoa n hn0 hn1 _ HXZ.out.pw).mono ?_
      rintro e z ⟨rfl, kk, os, rfl⟩
      have HGR : Hid _ := below_grow' Z kk os
      generalize Go.Sort.grow (Z.drewN kk) os = q1 at *
      have HXq : Hid (WX B C q1 wp vd vs ve E T1) := HXZ.out.below HGR.out
      have HKq : Hid (Kp [80, 5] B Z q1) := HXZ.out.toKp HGR.out
      refine hK.out _ _ (HQ.out _ HKq.out) (fun hHeld => ?_)
      clear hK K
      try simp only [Act.put, zA, zB, zC]
      refine tr [6] ?_
      refine AllReadyH.cons (tA rfl) (fun K hK => ?_) AllReadyH.nil
      obtain ⟨A9, hA9⟩ : ∃ A, q1.alloc (.cells #[.string { data := #[113, 117, 101, 117, 101] }, .string (X.str nm), .string { data := (Go.Lib.itoa n).toArray }, .string { data := #[59] }] 9) = A := ⟨_, rfl⟩
      have HP9 : Hid _ := put_new HXq.out [[113, 117, 101, 117, 101], nm, Go.Lib.itoa n, [59]] (by intro s hs; simp only [List.mem_cons, List.not_mem_nil, or_false] at hs; rcases hs with rfl | rfl | rfl | rfl <;> first | assumption | decide | omega | (show (Go.Lib.itoa n).length ≤ _; have := Go.Lib.itoa_length_le n hn0 hn1; omega) | (show (Go.Lib.itoa ct).length ≤ _; have := Go.Lib.itoa_length_le ct hc0 hc1; omega) | (show (Go.Lib.itoa rk).length ≤ _; have := Go.Lib.itoa_length_le rk hr0 hr1; omega)) (by simp) hA9
      have HKA : Hid (Kp [80, 5] B Z A9) := HKq.out.trans (HXq.out.toKp (by rw [← hA9]; exact bl1 _ _))
      go_simp
      try rw [hA9]
      refine hK.out _ _ (HQ.out _ HKA.out) (fun hHeld => ?_)
      clear hK K
      try simp only [Act.put, zA, zB, zC]
      refine tr [7] ?_
      refine AllReadyH.cons (tA rfl) (fun K hK => ?_) AllReadyH.nil
      go_simp
      refine Calls.mono HP9.out ?_
      intro e y9 hy
      have HY9 : Hid (WXO B C w wp vd vs ve E R e y9) := by
        show _
        have h5 := hy
        rw [HRq.out] at h5
        exact h5.on (HKZ.out.trans HKq.out)
      have HKy : Hid (Kp [80, 5] B Z y9) := HKq.out.trans hy.1
      clear hy HP9 hA9
      cases R with
      | none =>
        have h3' : e = _ := HY9.out.2
        subst h3'
        clear HXZ HKZ HXq HKq HKA HKy HQ HBB HX1 HK1 HRq
        try go_wp2_with fail
        exact ⟨rfl, HY9.out⟩
      | some T9 =>
        have h3' : e = _ := HY9.out.2.1
        subst h3'
        refine hK.out _ _ (HQ.out _ HKy.out) (fun hHeld => ?_)
        clear hK K
        try simp only [Act.put, zA, zB, zC]
        refine wpAnyH_done (by kernel_rfl) ?_ _
        clear hHeld HXZ HKZ HXq HKq HKA HKy HQ HBB HX1 HK1 HRq
        go_wp2_with fail
        refine bodyPost_end (results_none rfl _ _ _) rfl ?_
        exact HY9.out
    have HRn : Hid (_ = R) := (if_neg k3).symm.trans HR.out
    clear HR
    have HR := HRn
    clear HRn
    have d3 : (kd == 3) = false := by simpa using k3
    by_cases k4 : kd = 4
    · subst k4
      have HRq : Hid (wglobal ⟨4, nm, true, n, bs, ps, ct, rk, bd⟩ T1 = R) := ((if_pos rfl).symm.trans HR.out)
      clear HR
      have HP2 : Hid _ := wglobal_any hE hS (⟨⟨4, nm, true, n, bs, ps, ct, rk, bd⟩, .slice ap ps.length cp, .slice ab bd.length cb⟩ : Dx) HX1.out HM1.out ⟨HPR1.out, HBD1.out⟩ hdd
      go_wp2_with fail
      refine Calls.mono HP2.out ?_
      intro e y2 hy
      have HY2 : Hid (WXO B C w wp vd vs ve E R e y2) := by
        show _
        have h5 := hy
        rw [HRq.out] at h5
        exact h5.on HK1.out
      clear hy HP2
      cases R with
      | none =>
        have h3' : e = _ := HY2.out.2
        subst h3'
        clear HX1 HK1 HRq
        go_wp2_with fail
        exact ⟨rfl, HY2.out⟩
      | some T9 =>
        have h3' : e = _ := HY2.out.2.1
        subst h3'
        clear HX1 HK1 HRq
        go_wp2_with fail
        refine bodyPost_end (results_none rfl _ _ _) rfl ?_
        exact HY2.out
    have HRn : Hid (_ = R) := (if_neg k4).symm.trans HR.out
    clear HR
    have HR := HRn
    clear HRn
    have d4 : (kd == 4) = false := by simpa using k4
    by_cases k5 : kd = 5
    · subst k5
      have HRq : Hid (wfunction E (XS.map (·.s)) ⟨5, nm, true, n, bs, ps, ct, rk, bd⟩ T1 = R) := ((if_pos rfl).symm.trans HR.out)
      clear HR
      have HP2 : Hid _ := wfunction_any hE hS (⟨⟨5, nm, true, n, bs, ps, ct, rk, bd⟩, .slice ap ps.length cp, .slice ab bd.length cb⟩ : Dx) HX1.out HM1.out ⟨HPR1.out, HBD1.out⟩ hdd
      go_wp2_with fail
      refine Calls.mono HP2.out ?_
      intro e y2 hy
      have HY2 : Hid (WXO B C w wp vd vs ve E R e y2) := by
        show _
        have h5 := hy
        rw [HRq.out] at h5
        exact h5.on HK1.out
      clear hy HP2
      cases R with
      | none =>
        have h3' : e = _ := HY2.out.2
        subst h3'
        clear HX1 HK1 HRq
        go_wp2_with fail
        exact ⟨rfl, HY2.out⟩
      | some T9 =>
        have h3' : e = _ := HY2.out.2.1
        subst h3'
        clear HX1 HK1 HRq
        go_wp2_with fail
        refine bodyPost_end (results_none rfl _ _ _) rfl ?_
        exact HY2.out
    have HRn : Hid (_ = R) := (if_neg k5).symm.trans HR.out
    clear HR
    have HR := HRn
    clear HRn
    have d5 : (kd == 5) = false := by simpa using k5
    by_cases k6 : kd = 6
    · subst k6
      have HRq : Hid (_ = R) := ((if_pos rfl).symm.trans HR.out)
      clear HR
      obtain ⟨A2, hA2⟩ : ∃ A, y1.alloc (.cells #[.string { data := #[116, 104, 114, 101, 97, 100] }, .string (X.str nm)] 9) = A := ⟨_, rfl⟩
      have HP2 : Hid _ := put_new HX1.out [[116, 104, 114, 101, 97, 100], nm] (by intro s hs; simp only [List.mem_cons, List.not_mem_nil, or_false] at hs; rcases hs with rfl | rfl <;> first | assumption | decide | omega | (show (Go.Lib.itoa n).length ≤ _; have := Go.Lib.itoa_length_le n hn0 hn1; omega) | (show (Go.Lib.itoa ct).length ≤ _; have := Go.Lib.itoa_length_le ct hc0 hc1; omega) | (show (Go.Lib.itoa rk).length ≤ _; have := Go.Lib.itoa_length_le rk hr0 hr1; omega)) (by simp) hA2
      go_wp2_with fail
      refine Calls.mono HP2.out ?_
      intro e y2 hy
      have HY2 : Hid _ := hy
      clear hy HP2
      cases hp2 : puts T1 [[116, 104, 114, 101, 97, 100], nm] with
      | none =>
        obtain rfl : none = R := by have := HRq.out; rw [hp2] at this; exact this
        have h2 := HY2.out
        rw [hp2] at h2
        have h3' : e = _ := h2.2
        subst h3'
        have HF : Hid (WXO B C w wp vd vs ve E none _ y2) := ⟨HK1.out.trans h2.1, h2.2⟩
        clear h2 HY2 HX1 HK1 HRq
        go_wp2_with fail
        exact ⟨rfl, HF.out⟩
      | some T2 =>
      have h2 := HY2.out
      rw [hp2] at h2
      have h3' : e = _ := h2.2.1
      subst h3'
      have HX2 : Hid (WX B C y2 wp vd vs ve E T2) := h2.2.2
      have HK2 : Hid (Kp [80, 5] B w y2) := HK1.out.trans h2.1
      have hr2 := HRq.out
      rw [hp2] at hr2
      simp only [Option.bind_some] at hr2
      have HR2 : Hid (_ = R) := hr2
      clear hr2
      have HM2 : Hid (MS D y2 vs XS) := HM1.out.kp h2.1
      have HPR2 : Hid (y2.ownsRow D 9 1 (.slice ap ps.length cp) ps.length (ps.map sZ)) := row_kp HPR1.out h2.1 (by decide)
      have HBD2 : Hid (y2.ownsRow D 3 1 (.slice ab bd.length cb) bd.length (bd.map iZ)) := row_kp HBD1.out h2.1 (by decide)
      clear HM1 HPR1 HBD1
      have HB2 : Hid (y2.heap[w.heap.size]? = some (.cells #[.int .i64 (6), .string (X.str nm), .bool true, .int .i64 n, .string (X.str bs), .slice ap ps.length cp, .int .i64 ct, .int .i64 rk, .slice ab bd.length cb] 54)) := h2.1.keep _ _ _ _ HB1.out (by decide)
      have b0 := cell_blk HB2.out 0 rfl
      have b1 := cell_blk HB2.out 1 rfl
      have b2 := cell_blk HB2.out 2 rfl
      have b3 := cell_blk HB2.out 3 rfl
      have b4 := cell_blk HB2.out 4 rfl
      have b5 := cell_blk HB2.out 5 rfl
      have b6 := cell_blk HB2.out 6 rfl
      have b7 := cell_blk HB2.out 7 rfl
      have b8 := cell_blk HB2.out 8 rfl
      clear h2 HY2 hp2 HX1 HRq HK1

      have HP3 : Hid _ := wblk_any hE hS bd HX2.out HM2.out HBD2.out
      go_wp2_with fail
      refine Calls.mono HP3.out ?_
      intro e y3 hy
      have HY3 : Hid (WXO B C w wp vd vs ve E R e y3) := by
        show _
        have h5 := hy
        rw [HR2.out] at h5
        exact h5.on HK2.out
      clear hy HP3
      cases R with
      | none =>
        have h3' : e = _ := HY3.out.2
        subst h3'
        clear HX2 HK2 HR2
        go_wp2_with fail
        exact ⟨rfl, HY3.out⟩
      | some T9 =>
        have h3' : e = _ := HY3.out.2.1
        subst h3'
        clear HX2 HK2 HR2
        go_wp2_with fail
        refine bodyPost_end (results_none rfl _ _ _) rfl ?_
        exact HY3.out
    have HRn : Hid (_ = R) := (if_neg k6).symm.trans HR.out
    clear HR
    have HR := HRn
    clear HRn
    have d6 : (kd == 6) = false := by simpa using k6
    obtain rfl : none = R := HR.out
    have HF : Hid (WXO B C w wp vd vs ve E none (.panicked [{ v := .iface 27 (.int .i64 1), recovered := false }]) y1) := ⟨HK1.out, rfl⟩
    clear HR HX1 HK1 HM1 HPR1 HBD1
    go_wp2_with fail
    exact ⟨rfl, HF.out⟩
  case false =>
    have hr0 : wdK E (XS.map (·.s)) ⟨kd, nm, false, n, bs, ps, ct, rk, bd⟩ T = R := HR.out
    unfold wdK at hr0
    dsimp only at hr0
    clear HR
    have HR : Hid (_ = R) := hr0
    clear hr0
    by_cases k1 : kd = 1
    · subst k1
      have HRq : Hid (_ = R) := ((if_pos rfl).symm.trans HR.out)
      clear HR
      obtain ⟨A1, hA1⟩ : ∃ A, y0.alloc (.cells #[.string { data := #[108, 111, 99, 107] }, .string (X.str nm), .string { data := #[59] }] 9) = A := ⟨_, rfl⟩
      have HP1 : Hid _ := put_new HX0.out [[108, 111, 99, 107], nm, [59]] (by intro s hs; simp only [List.mem_cons, List.not_mem_nil, or_false] at hs; rcases hs with rfl | rfl | rfl <;> first | assumption | decide | omega | (show (Go.Lib.itoa n).length ≤ _; have := Go.Lib.itoa_length_le n hn0 hn1; omega) | (show (Go.Lib.itoa ct).length ≤ _; have := Go.Lib.itoa_length_le ct hc0 hc1; omega) | (show (Go.Lib.itoa rk).length ≤ _; have := Go.Lib.itoa_length_le rk hr0 hr1; omega)) (by simp) hA1
      go_wp2_with fail
      refine Calls.mono HP1.out ?_
      intro e y1 hy
      have HY1 : Hid (WXO B C w wp vd vs ve E R e y1) := by
        show _
        have h5 := hy
        rw [HRq.out] at h5
        exact h5.on HK0.out
      clear hy HP1
      cases R with
      | none =>
        have h3' : e = _ := HY1.out.2
        subst h3'
        clear HX0 HK0 HRq
        go_wp2_with fail
        exact ⟨rfl, HY1.out⟩
      | some T9 =>
        have h3' : e = _ := HY1.out.2.1
        subst h3'
        clear HX0 HK0 HRq
        go_wp2_with fail
        refine bodyPost_end (results_none rfl _ _ _) rfl ?_
        exact HY1.out
    have HRn : Hid (_ = R) := (if_neg k1).symm.trans HR.out
    clear HR
    have HR := HRn
    clear HRn
    have d1 : (kd == 1) = false := by simpa using k1
    by_cases k2 : kd = 2
    · subst k2
      have HRq : Hid (_ = R) := ((if_pos rfl).symm.trans HR.out)
      clear HR
      obtain ⟨A1, hA1⟩ : ∃ A, y0.alloc (.cells #[.string { data := #[116, 105, 99, 107, 101, 116] }, .string (X.str nm), .string { data := #[59] }] 9) = A := ⟨_, rfl⟩
      have HP1 : Hid _ := put_new HX0.out [[116, 105, 99, 107, 101, 116], nm, [59]] (by intro s hs; simp only [List.mem_cons, List.not_mem_nil, or_false] at hs; rcases hs with rfl | rfl | rfl <;> first | assumption | decide | omega | (show (Go.Lib.itoa n).length ≤ _; have := Go.Lib.itoa_length_le n hn0 hn1; omega) | (show (Go.Lib.itoa ct).length ≤ _; have := Go.Lib.itoa_length_le ct hc0 hc1; omega) | (show (Go.Lib.itoa rk).length ≤ _; have := Go.Lib.itoa_length_le rk hr0 hr1; omega)) (by simp) hA1
      go_wp2_with fail
      refine Calls.mono HP1.out ?_
      intro e y1 hy
      have HY1 : Hid (WXO B C w wp vd vs ve E R e y1) := by
        show _
        have h5 := hy
        rw [HRq.out] at h5
        exact h5.on HK0.out
      clear hy HP1
      cases R with
      | none =>
        have h3' : e = _ := HY1.out.2
        subst h3'
        clear HX0 HK0 HRq
        go_wp2_with fail
        exact ⟨rfl, HY1.out⟩
      | some T9 =>
        have h3' : e = _ := HY1.out.2.1
        subst h3'
        clear HX0 HK0 HRq
        go_wp2_with fail
        refine bodyPost_end (results_none rfl _ _ _) rfl ?_
        exact HY1.out
    have HRn : Hid (_ = R) := (if_neg k2).symm.trans HR.out
    clear HR
    have HR := HRn
    clear HRn
    have d2 : (kd == 2) = false := by simpa using k2
    by_cases k3 : kd = 3
    · subst k3
      have HRq : Hid (puts T [[113, 117, 101, 117, 101], nm, Go.Lib.itoa n, [59]] = R) := ((if_pos rfl).symm.trans HR.out)
      clear HR
      obtain ⟨Z, hZ⟩ : ∃ Z, y0.drew = Z := ⟨_, rfl⟩
      have HBZ : Hid (Below y0.heap.size y0 Z) := by show Below _ _ _; rw [← hZ]; exact (Below.refl _ _).drew
      have HXZ : Hid (WX B C Z wp vd vs ve E T) := HX0.out.below HBZ.out
      have HKZ : Hid (Kp [80, 5] B w Z) := HK0.out.trans (HX0.out.toKp HBZ.out)
      have HBB : Hid (Z.heap[w.heap.size]? = some (.cells #[.int .i64 (3), .string (X.str nm), .bool false, .int .i64 n, .string (X.str bs), .slice ap ps.length cp, .int .i64 ct, .int .i64 rk, .slice ab bd.length cb] 54)) := blk_thru HBZ.out HB.out
      have HQ : Hid (∀ y, Kp [80, 5] B Z y → y.cell? ⟨w.heap.size, 1, none⟩ = some (.string (X.str nm)) ∧ y.cell? ⟨w.heap.size, 3, none⟩ = some (.int .i64 n)) := fun y hy => ⟨cell_blk (hy.keep _ _ _ _ HBB.out (by decide)) 1 rfl, cell_blk (hy.keep _ _ _ _ HBB.out (by decide)) 3 rfl⟩
      go_wp2_with fail
      refine wp_region_held_drew (S := (fun w' : World => w'.cell? ⟨w.heap.size, 1, none⟩ = some (.string (X.str nm)) ∧ w'.cell? ⟨w.heap.size, 3, none⟩ = some (.int .i64 n))) (by kernel_rfl) (by rw [hZ]; exact HQ.out _ (Kp.refl _ _ _)) (fun hHeld => ?_)
      rw [hZ]
      rw [hZ] at hHeld
      clear hZ
      refine tj 0 ?_
      simp only [Act.put, zA, zB, zC]
      refine tj 1 ?_
      simp only [Act.put, zA, zB, zC]
      refine tj 2 ?_
      simp only [Act.put, zA, zB, zC]
      refine tj 3 ?_
      simp only [Act.put, zA, zB, zC]
      refine tj 4 ?_
      simp only [Act.put, zA, zB, zC]
      refine tr [5] ?_
      refine AllReadyH.cons (tA rfl) (fun K hK => ?_) AllReadyH.nil
      go_simp
      refine (Tryz.strconv_Itoa n hn0 hn1 _ HXZ.out.pw).mono ?_
      rintro e z ⟨rfl, kk, os, rfl⟩
      have HGR : Hid _ := below_grow' Z kk os
      generalize Go.Sort.grow (Z.drewN kk) os = q1 at *
      have HXq : Hid (WX B C q1 wp vd vs ve E T) := HXZ.out.below HGR.out
      have HKq : Hid (Kp [80, 5] B Z q1) := HXZ.out.toKp HGR.out
      refine hK.out _ _ (HQ.out _ HKq.out) (fun hHeld => ?_)
      clear hK K
      try simp only [Act.put, zA, zB, zC]
      refine tr [6] ?_
      refine AllReadyH.cons (tA rfl) (fun K hK => ?_) AllReadyH.nil
      obtain ⟨A9, hA9⟩ : ∃ A, q1.alloc (.cells #[.string { data := #[113, 117, 101, 117, 101] }, .string (X.str nm), .string { data := (Go.Lib.itoa n).toArray }, .string { data := #[59] }] 9) = A := ⟨_, rfl⟩
      have HP9 : Hid _ := put_new HXq.out [[113, 117, 101, 117, 101], nm, Go.Lib.itoa n, [59]] (by intro s hs; simp only [List.mem_cons, List.not_mem_nil, or_false] at hs; rcases hs with rfl | rfl | rfl | rfl <;> first | assumption | decide | omega | (show (Go.Lib.itoa n).length ≤ _; have := Go.Lib.itoa_length_le n hn0 hn1; omega) | (show (Go.Lib.itoa ct).length ≤ _; have := Go.Lib.itoa_length_le ct hc0 hc1; omega) | (show (Go.Lib.itoa rk).length ≤ _; have := Go.Lib.itoa_length_le rk hr0 hr1; omega)) (by simp) hA9
      have HKA : Hid (Kp [80, 5] B Z A9) := HKq.out.trans (HXq.out.toKp (by rw [← hA9]; exact bl1 _ _))
      go_simp
      try rw [hA9]
      refine hK.out _ _ (HQ.out _ HKA.out) (fun hHeld => ?_)
      clear hK K
      try simp only [Act.put, zA, zB, zC]
      refine tr [7] ?_
      refine AllReadyH.cons (tA rfl) (fun K hK => ?_) AllReadyH.nil
      go_simp
      refine Calls.mono HP9.out ?_
      intro e y9 hy
      have HY9 : Hid (WXO B C w wp vd vs ve E R e y9) := by
        show _
        have h5 := hy
        rw [HRq.out] at h5
        exact h5.on (HKZ.out.trans HKq.out)
      have HKy : Hid (Kp [80, 5] B Z y9) := HKq.out.trans hy.1
      clear hy HP9 hA9
      cases R with
      | none =>
        have h3' : e = _ := HY9.out.2
        subst h3'
        clear HXZ HKZ HXq HKq HKA HKy HQ HBB HX0 HK0 HRq
        try go_wp2_with fail
        exact ⟨rfl, HY9.out⟩
      | some T9 =>
        have h3' : e = _ := HY9.out.2.1
        subst h3'
        refine hK.out _ _ (HQ.out _ HKy.out) (fun hHeld => ?_)
        clear hK K
        try simp only [Act.put, zA, zB, zC]
        refine wpAnyH_done (by kernel_rfl) ?_ _
        clear hHeld HXZ HKZ HXq HKq HKA HKy HQ HBB HX0 HK0 HRq
        go_wp2_with fail
        refine bodyPost_end (results_none rfl _ _ _) rfl ?_
        exact HY9.out
    have HRn : Hid (_ = R) := (if_neg k3).symm.trans HR.out
    clear HR
    have HR := HRn
    clear HRn
    have d3 : (kd == 3) = false := by simpa using k3
    by_cases k4 : kd = 4
    · subst k4
      have HRq : Hid (wglobal ⟨4, nm, false, n, bs, ps, ct, rk, bd⟩ T = R) := ((if_pos rfl).symm.trans HR.out)
      clear HR
      have HP1 : Hid _ := wglobal_any hE hS (⟨⟨4, nm, false, n, bs, ps, ct, rk, bd⟩, .slice ap ps.length cp, .slice ab bd.length cb⟩ : Dx) HX0.out HM0.out ⟨HPR0.out, HBD0.out⟩ hdd
      go_wp2_with fail
      refine Calls.mono HP1.out ?_
      intro e y1 hy
      have HY1 : Hid (WXO B C w wp vd vs ve E R e y1) := by
        show _
        have h5 := hy
        rw [HRq.out] at h5
        exact h5.on HK0.out
      clear hy HP1
      cases R with
      | none =>
        have h3' : e = _ := HY1.out.2
        subst h3'
        clear HX0 HK0 HRq
        go_wp2_with fail
        exact ⟨rfl, HY1.out⟩
      | some T9 =>
        have h3' : e = _ := HY1.out.2.1
        subst h3'
        clear HX0 HK0 HRq
        go_wp2_with fail
        refine bodyPost_end (results_none rfl _ _ _) rfl ?_
        exact HY1.out
    have HRn : Hid (_ = R) := (if_neg k4).symm.trans HR.out
    clear HR
    have HR := HRn
    clear HRn
    have d4 : (kd == 4) = false := by simpa using k4
    by_cases k5 : kd = 5
    · subst k5
      have HRq : Hid (wfunction E (XS.map (·.s)) ⟨5, nm, false, n, bs, ps, ct, rk, bd⟩ T = R) := ((if_pos rfl).symm.trans HR.out)
      clear HR
      have HP1 : Hid _ := wfunction_any hE hS (⟨⟨5, nm, false, n, bs, ps, ct, rk, bd⟩, .slice ap ps.length cp, .slice ab bd.length cb⟩ : Dx) HX0.out HM0.out ⟨HPR0.out, HBD0.out⟩ hdd
      go_wp2_with fail
      refine Calls.mono HP1.out ?_
      intro e y1 hy
      have HY1 : Hid (WXO B C w wp vd vs ve E R e y1) := by
        show _
        have h5 := hy
        rw [HRq.out] at h5
        exact h5.on HK0.out
      clear hy HP1
      cases R with
      | none =>
        have h3' : e = _ := HY1.out.2
        subst h3'
        clear HX0 HK0 HRq
        go_wp2_with fail
        exact ⟨rfl, HY1.out⟩
      | some T9 =>
        have h3' : e = _ := HY1.out.2.1
        subst h3'
        clear HX0 HK0 HRq
        go_wp2_with fail
        refine bodyPost_end (results_none rfl _ _ _) rfl ?_
        exact HY1.out
    have HRn : Hid (_ = R) := (if_neg k5).symm.trans HR.out
    clear HR
    have HR := HRn
    clear HRn
    have d5 : (kd == 5) = false := by simpa using k5
    by_cases k6 : kd = 6
    · subst k6
      have HRq : Hid (_ = R) := ((if_pos rfl).symm.trans HR.out)
      clear HR
      obtain ⟨A1, hA1⟩ : ∃ A, y0.alloc (.cells #[.string { data := #[116, 104, 114, 101, 97, 100] }, .string (X.str nm)] 9) = A := ⟨_, rfl⟩
      have HP1 : Hid _ := put_new HX0.out [[116, 104, 114, 101, 97, 100], nm] (by intro s hs; simp only [List.mem_cons, List.not_mem_nil, or_false] at hs; rcases hs with rfl | rfl <;> first | assumption | decide | omega | (show (Go.Lib.itoa n).length ≤ _; have := Go.Lib.itoa_length_le n hn0 hn1; omega) | (show (Go.Lib.itoa ct).length ≤ _; have := Go.Lib.itoa_length_le ct hc0 hc1; omega) | (show (Go.Lib.itoa rk).length ≤ _; have := Go.Lib.itoa_length_le rk hr0 hr1; omega)) (by simp) hA1
      go_wp2_with fail
      refine Calls.mono HP1.out ?_
      intro e y1 hy
      have HY1 : Hid _ := hy
      clear hy HP1
      cases hp1 : puts T [[116, 104, 114, 101, 97, 100], nm] with
      | none =>
        obtain rfl : none = R := by have := HRq.out; rw [hp1] at this; exact this
        have h2 := HY1.out
        rw [hp1] at h2
        have h3' : e = _ := h2.2
        subst h3'
        have HF : Hid (WXO B C w wp vd vs ve E none _ y1) := ⟨HK0.out.trans h2.1, h2.2⟩
        clear h2 HY1 HX0 HK0 HRq
        go_wp2_with fail
        exact ⟨rfl, HF.out⟩
      | some T1 =>
      have h2 := HY1.out
      rw [hp1] at h2
      have h3' : e = _ := h2.2.1
      subst h3'
      have HX1 : Hid (WX B C y1 wp vd vs ve E T1) := h2.2.2
      have HK1 : Hid (Kp [80, 5] B w y1) := HK0.out.trans h2.1
      have hr1 := HRq.out
      rw [hp1] at hr1
      simp only [Option.bind_some] at hr1
      have HR1 : Hid (_ = R) := hr1
      clear hr1
      have HM1 : Hid (MS D y1 vs XS) := HM0.out.kp h2.1
      have HPR1 : Hid (y1.ownsRow D 9 1 (.slice ap ps.length cp) ps.length (ps.map sZ)) := row_kp HPR0.out h2.1 (by decide)
      have HBD1 : Hid (y1.ownsRow D 3 1 (.slice ab bd.length cb) bd.length (bd.map iZ)) := row_kp HBD0.out h2.1 (by decide)
      clear HM0 HPR0 HBD0
      have HB1 : Hid (y1.heap[w.heap.size]? = some (.cells #[.int .i64 (6), .string (X.str nm), .bool false, .int .i64 n, .string (X.str bs), .slice ap ps.length cp, .int .i64 ct, .int .i64 rk, .slice ab bd.length cb] 54)) := h2.1.keep _ _ _ _ HB.out (by decide)
      have b0 := cell_blk HB1.out 0 rfl
      have b1 := cell_blk HB1.out 1 rfl
      have b2 := cell_blk HB1.out 2 rfl
      have b3 := cell_blk HB1.out 3 rfl
      have b4 := cell_blk HB1.out 4 rfl
      have b5 := cell_blk HB1.out 5 rfl
      have b6 := cell_blk HB1.out 6 rfl
      have b7 := cell_blk HB1.out 7 rfl
      have b8 := cell_blk HB1.out 8 rfl
      clear h2 HY1 hp1 HX0 HRq HK0

      have HP2 : Hid _ := wblk_any hE hS bd HX1.out HM1.out HBD1.out
      go_wp2_with fail
      refine Calls.mono HP2.out ?_
      intro e y2 hy
      have HY2 : Hid (WXO B C w wp vd vs ve E R e y2) := by
        show _
        have h5 := hy
        rw [HR1.out] at h5
        exact h5.on HK1.out
      clear hy HP2
      cases R with
      | none =>
        have h3' : e = _ := HY2.out.2
        subst h3'
        clear HX1 HK1 HR1
        go_wp2_with fail
        exact ⟨rfl, HY2.out⟩
      | some T9 =>
        have h3' : e = _ := HY2.out.2.1
        subst h3'
        clear HX1 HK1 HR1
        go_wp2_with fail
        refine bodyPost_end (results_none rfl _ _ _) rfl ?_
        exact HY2.out
    have HRn : Hid (_ = R) := (if_neg k6).symm.trans HR.out
    clear HR
    have HR := HRn
    clear HRn
    have d6 : (kd == 6) = false := by simpa using k6
    obtain rfl : none = R := HR.out
    have HF : Hid (WXO B C w wp vd vs ve E none (.panicked [{ v := .iface 27 (.int .i64 1), recovered := false }]) y0) := ⟨HK0.out, rfl⟩
    clear HR HX0 HK0 HM0 HPR0 HBD0
    go_wp2_with fail
    exact ⟨rfl, HF.out⟩
end Go.Proofs.YtikknlkdbjaonaaGreatDoor.Y

/- The writer: all declarations. -/
namespace Go.Proofs.YtikknlkdbjaonaaGreatDoor.Y
open Go.RowKit Go.Maps Go.Lib
set_option linter.unusedVariables false
set_option linter.unusedSimpArgs false
structure MDs (D : Nat) (w : World) (vd : Value) (DX : List Dx) : Prop where
  rd : w.ownsRow D 54 9 vd DX.length (DX.flatMap dcC)
  dr : ∀ p ∈ DX, DxR D w p
theorem MDs.kp {B D : Nat} {w y : World} {vd : Value} {DX : List Dx} (h : MDs D w vd DX) (hk : Kp [80, 5] B w y) : MDs D y vd DX := ⟨row_kp h.rd hk (by decide), fun p hp => ⟨row_kp (h.dr p hp).rp hk (by decide), row_kp (h.dr p hp).rb hk (by decide)⟩⟩
theorem dcC_len' (p : Dx) : (dcC p).length = 9 := rfl
theorem MDs.cells {C : Nat} {w : World} {vd : Value} {DX : List Dx} (h : MDs C w vd DX) {j : Nat} {p : Dx} (hp : DX[j]? = some p) : ∃ g c, vd = .slice (some ⟨g, 0, none⟩) DX.length c ∧ ∀ q u, (dcC p)[q]? = some u → w.cell? ⟨g, j * 9 + q, none⟩ = some u := by
  have hj : j < DX.length := (List.getElem?_eq_some_iff.1 hp).1
  rcases h.rd.2 with ⟨e1, e2⟩ | ⟨g, cap, cur, e1, -⟩
  · omega
  · subst e1
    refine ⟨g, cap, rfl, fun q u hu => ?_⟩
    have hq : q < 9 := by
      have := (List.getElem?_eq_some_iff.1 hu).1
      rw [dcC_len'] at this
      exact this
    have hf := h.rd.cellAt (j * 9 + q) (by omega)
    rw [flat_at dcC 9 p dcC_len' DX j q hj hq, List.getD_eq_getElem?_getD, hp, Option.getD_some, hu] at hf
    exact hf
set_option maxRecDepth 100000 in
set_option maxHeartbeats 8000000 in
theorem wall_any {B C D : Nat} {wp : Nat} {vd vs ve : Value} {E : List Exp} {XS : List Sx} {DX : List Dx} {w : World} {T : By} (h : WX B C w wp vd vs ve E T) (hM : MS D w vs XS) (hD : MDs D w vd DX) (hE : E.length ≤ 4000 → EOk E) (hS : SOk XS) (hd : ∀ p ∈ DX, D1 p.d) : Calls Tryz.prog 37 #[.pointer (some ⟨wp, 0, none⟩)] w (WXO B C w wp vd vs ve E (wall ⟨DX.map (·.d), XS.map (·.s), E⟩ T)) := by
  obtain ⟨R, hR⟩ : ∃ R, wall ⟨DX.map (·.d), XS.map (·.s), E⟩ T = R := ⟨_, rfl⟩
  rw [hR]
  unfold wall at hR
  dsimp only at hR
  have HR : Hid (_ = R) := hR
  have HX0 : Hid (WX B C w wp vd vs ve E T) := h
  have HK0 : Hid (Kp [80, 5] B w w) := Kp.refl _ _ _
  have HM0 : Hid (MS D w vs XS) := hM
  have HD0 : Hid (MDs D w vd DX) := hD
  have HDD : Hid (∀ p ∈ DX, D1 p.d) := hd
  obtain ⟨ae, ce, hv⟩ := row_form h.row
  subst hv
  obtain ⟨ad, cd, hv⟩ := row_form hD.rd
  subst hv
  obtain ⟨vt, hb, -⟩ := h.ws.blk
  have v2 := cell_blk hb 2 (v := .slice ae E.length ce) rfl
  have v0 := cell_blk hb 0 (v := .slice ad DX.length cd) rfl
  have hm2 : maxLen = 9223372036854775807 := rfl
  have hdm : DX.length ≤ maxLen := by rcases hD.rd.2 with ⟨e1, e2⟩ | ⟨g, cap, cur, e1, e2, e3, e4, e5, -⟩ <;> omega
  clear h hb hR hM hD hd
  go_enter Tryz.func37, Tryz.ntmps37
  by_cases hbig : 4000 < E.length
  · have eb : decide (4000 < (E.length : Int)) = true := by simp; omega
    obtain rfl : none = R := (if_pos hbig).symm.trans HR.out
    have HF : Hid (WXO B C w wp (.slice ad DX.length cd) vs (.slice ae E.length ce) E none (.panicked [{ v := .iface 27 (.int .i64 1), recovered := false }]) w) := ⟨HK0.out, rfl⟩
    clear HR HX0 HM0 HD0 HK0
    go_wp2_with fail
    exact ⟨rfl, HF.out⟩
  have hE := hE (by omega)
  have hl4 : E.length ≤ 4000 := by omega
  have HRS : Hid (wdecls E (XS.map (·.s)) ((DX.drop 0).map (·.d)) T = R) := (if_neg hbig).symm.trans HR.out
  clear HR
  go_wp2_with fail
  go_loopg [3, 18] DX.length (fun gg v3 v18 wq => ∃ (k : Nat) (T' : By), gg = DX.length - k ∧ v18 = .int .i64 (k : Int) ∧ k ≤ DX.length ∧ Hid (WX B C wq wp (.slice ad DX.length cd) vs (.slice ae E.length ce) E T') ∧ Hid (MS D wq vs XS) ∧ Hid (MDs D wq (.slice ad DX.length cd) DX) ∧ Hid (Kp [80, 5] B w wq) ∧ Hid (wdecls E (XS.map (·.s)) ((DX.drop k).map (·.d)) T' = R))
  case atStart => exact ⟨0, T, rfl, rfl, Nat.zero_le _, HX0, HM0, HD0, HK0, HRS⟩
  case round =>
    clear HRS HX0 HM0 HD0 HK0 v0 v2
    obtain ⟨k, T', rfl, rfl, hk, HX, HM, HD, HK, HR⟩ := hrel
    by_cases hkl : k < DX.length
    · have hki : (k : Int) < DX.length := by omega
      have hk0 : 0 ≤ (k : Int) := by omega
      obtain ⟨p, hp⟩ : ∃ p, DX[k]? = some p := ⟨_, List.getElem?_eq_getElem hkl⟩
      obtain ⟨rp, rb⟩ := HD.out.dr p (List.mem_of_getElem? hp)
      obtain ⟨dd, vp, vb⟩ := p
      dsimp only at rp rb
      obtain ⟨ap, cp, hv⟩ := row_form rp
      subst hv
      obtain ⟨ab, cb, hv⟩ := row_form rb
      subst hv
      have HDP : Hid ((⟨dd, .slice ap dd.params.length cp, .slice ab dd.body.length cb⟩ : Dx) ∈ DX) := List.mem_of_getElem? hp
      have hpk : DX[k] = (⟨dd, .slice ap dd.params.length cp, .slice ab dd.body.length cb⟩ : Dx) := by rw [List.getElem?_eq_getElem hkl] at hp; injection hp
      have hdk : DX.drop k = (⟨dd, .slice ap dd.params.length cp, .slice ab dd.body.length cb⟩ : Dx) :: DX.drop (k + 1) := by rw [← hpk]; exact List.drop_eq_getElem_cons hkl
      have hR1 := HR.out
      rw [hdk] at hR1
      obtain ⟨g, cs, hv, hc⟩ := HD.out.cells hp
      injection hv with hv1 _ hv2
      subst hv1 hv2
      have c0 : wr.cell? ⟨g, k * 9, none⟩ = some (.int .i64 dd.kind) := hc 0 _ rfl
      have c1 := hc 1 _ rfl
      have c2 := hc 2 _ rfl
      have c3 := hc 3 _ rfl
      have c4 := hc 4 _ rfl
      have c5 := hc 5 _ rfl
      have c6 := hc 6 _ rfl
      have c7 := hc 7 _ rfl
      have c8 := hc 8 _ rfl
      have HR0 : Hid (((wdecl E (XS.map (·.s)) dd T').bind fun T1 => wdecls E (XS.map (·.s)) ((DX.drop (k + 1)).map (·.d)) T1) = R) := hR1
      clear hc hp hpk hdk hR1 HR rp rb
      go_wp2_with fail
      obtain ⟨y0, hY⟩ : ∃ Y, wr.alloc (.cells #[.int .i64 dd.kind, .string (X.str dd.name), .bool dd.ext, .int .i64 dd.n, .string (X.str dd.by'), .slice ap dd.params.length cp, .int .i64 dd.count, .int .i64 dd.rank, .slice ab dd.body.length cb] 54) = Y := ⟨_, rfl⟩
      rw [hY]
      have HBY : Hid (Below wr.heap.size wr y0) := by show Below _ _ _; rw [← hY]; exact bl1 _ _
      have HKY : Hid (Kp [80, 5] B wr y0) := HX.out.toKp HBY.out
      have HX0 := HX.out.below HBY.out
      have HX0 : Hid _ := HX0
      have HM0 : Hid (MS D y0 vs XS) := HM.out.kp HKY.out
      have HD0 : Hid (MDs D y0 (.slice (some ⟨g, 0, none⟩) DX.length cd) DX) := HD.out.kp HKY.out
      have HK0 : Hid (Kp [80, 5] B w y0) := HK.out.trans HKY.out
      clear hY c0 c1 c2 c3 c4 c5 c6 c7 c8 HX HM HD HK HBY HKY
      have HP1 : Hid _ := wdecl_any hE hS (⟨dd, .slice ap dd.params.length cp, .slice ab dd.body.length cb⟩ : Dx) HX0.out HM0.out (HD0.out.dr _ HDP.out) (HDD.out _ HDP.out)
      refine Calls.mono HP1.out ?_
      intro e y1 hy
      have HY1 : Hid _ := hy
      clear hy HP1
      cases hp1 : wdecl E (XS.map (·.s)) dd T' with
      | none =>
        obtain rfl : none = R := by have := HR0.out; rw [hp1] at this; exact this
        have h2 := HY1.out
        rw [hp1] at h2
        have h3' : e = _ := h2.2
        subst h3'
        have HF : Hid (WXO B C w wp (.slice (some ⟨g, 0, none⟩) DX.length cd) vs (.slice ae E.length ce) E none _ y1) := ⟨HK0.out.trans h2.1, h2.2⟩
        clear h2 HY1 HX0 HK0 HR0
        go_wp2_with fail
        exact ⟨rfl, HF.out⟩
      | some T1 =>
      have h2 := HY1.out
      rw [hp1] at h2
      have h3' : e = _ := h2.2.1
      subst h3'
      have HX1 : Hid (WX B C y1 wp (.slice (some ⟨g, 0, none⟩) DX.length cd) vs (.slice ae E.length ce) E T1) := h2.2.2
      have HK1 : Hid (Kp [80, 5] B w y1) := HK0.out.trans h2.1
      have hr1 := HR0.out
      rw [hp1] at hr1
      simp only [Option.bind_some] at hr1
      have HR1 : Hid (_ = R) := hr1
      clear hr1
      have HMq : Hid (MS D y1 vs XS) := HM0.out.kp h2.1
      have HDq : Hid (MDs D y1 (.slice (some ⟨g, 0, none⟩) DX.length cd) DX) := HD0.out.kp h2.1
      clear h2 HY1 hp1 HX0 HR0 HK0
      go_wp2_with fail
      go_roundg (DX.length - (k + 1))
      case measure => omega
      case rel => exact ⟨k + 1, T1, rfl, by go_num, by omega, HX1, HMq, HDq, HK1, HR1⟩
    · obtain rfl : k = DX.length := by omega
      obtain rfl : some T' = R := by
        have := HR.out
        rw [List.drop_length] at this
        exact this
      have HF : Hid (WXO B C w wp (.slice ad DX.length cd) vs (.slice ae E.length ce) E (some T') (.returned (.tuple #[])) wr) := ⟨HK.out, rfl, HX.out⟩
      clear HR HX HM HD HK
      go_wp2_with fail
      refine bodyPost_end (results_none rfl _ _ _) rfl ?_
      exact HF.out
end Go.Proofs.YtikknlkdbjaonaaGreatDoor.Y

/- What write comes to: a writer of its own, all, and the panic that is recovered. -/
namespace Go.Proofs.YtikknlkdbjaonaaGreatDoor.Y
open Go.RowKit Go.Maps Go.Lib
set_option linter.unusedVariables false
set_option linter.unusedSimpArgs false
theorem conv_text {B : Nat} {y : World} {vt : Value} {T : By} (h : y.ownsRow B 5 1 vt T.length (strCells (X.str T))) : (convert 63 9 vt).run Tryz.prog y = .ok (.string (X.str T)) y := by
  rcases h.2 with ⟨e1, e2⟩ | ⟨g, cap, cur, e1, -⟩
  · have : T = [] := List.length_eq_zero_iff.1 e2
    subst this e1
    exact Lib.run_convert_nil_bytes (P := Tryz.prog) y 63 9 5 0 (by kernel_rfl) (by kernel_rfl) (by kernel_rfl)
  · subst e1
    refine run_convert_bytes_back (P := Tryz.prog) y 63 9 5 ⟨g, 0, none⟩ cap T (by kernel_rfl) (by kernel_rfl) (by kernel_rfl) fun j hj => ?_
    rw [Addr.add_lit, Nat.zero_add]
    have hc := World.ownsRow.cellAt h j (by omega)
    rw [hc]
    simp [strCells, X.str, List.getElem?_eq_getElem hj]
theorem catch_idleW (b0 b1 : Nat) (w : World) :
    CallsD Tryz.prog 36 #[.pointer (some ⟨b0, 0, none⟩), .pointer (some ⟨b1, 0, none⟩)] .returning w fun e u' w' => e = .returned (.tuple #[]) ∧ u' = .returning ∧ w' = w := by
  refine callsD_of_wpS Tryz.func36 rfl fun c₀ cs hu => ?_
  apply wpS_seq
  apply wpS_region
  simp [wpOpsS, go_sem, recoverD, hu, Tryz.ntmps36, Exit.thenS]
  apply wpS_seq
  apply wpS_region
  simp [wpOpsS, go_sem, Tryz.ntmps36, Exit.thenS]
  refine wpS_cond (t := false) (by simp [Act.eval, Array.replicate]) ?_
  simp only [Bool.false_eq_true, if_false]
  refine wpS_of_wp (wp_skip ?_)
  cases c₀
  simp_all [bodyPostS, results, Tryz.results36]
theorem hTAW (w : World) : (Instr.typeAssert (.iface 27 (.int .i64 1)) 20 27 false).run Tryz.prog w = .ok (.int .i64 1) w := by kernel_rfl
set_option maxRecDepth 100000 in
theorem catch_panickingW (b0 b1 : Nat) (hne : b0 ≠ b1) (older : List PanicEntry) (w : World) (v0 v4 : Value) (c0 : w.cell? ⟨b0, 0, none⟩ = some v0) (c4 : w.cell? ⟨b1, 0, none⟩ = some v4) (z0 : ∀ o, w.frozen? ⟨b0, o, none⟩ = false) (z1 : ∀ o, w.frozen? ⟨b1, o, none⟩ = false) :
    CallsD Tryz.prog 36 #[.pointer (some ⟨b0, 0, none⟩), .pointer (some ⟨b1, 0, none⟩)] (.panicking ({ v := .iface 27 (.int .i64 1), recovered := false } :: older)) w fun e u' w' =>
      e = .returned (.tuple #[]) ∧ u' = .panicking ({ v := .iface 27 (.int .i64 1), recovered := true } :: older) ∧ w' = (w.drew.setCell ⟨b0, 0, none⟩ (.string { data := #[] })).setCell ⟨b1, 0, none⟩ (.int .i64 1) := by
  have hta := hTAW
  have hne' : b1 ≠ b0 := hne.symm
  have e0 : w.drew.cell? ⟨b0, 0, none⟩ = some v0 := by rw [World.cell?_drew]; exact c0
  have e4 : w.drew.cell? ⟨b1, 0, none⟩ = some v4 := by rw [World.cell?_drew]; exact c4
  have f0 : ∀ o, w.drew.frozen? ⟨b0, o, none⟩ = false := z0
  have f1 : ∀ o, w.drew.frozen? ⟨b1, o, none⟩ = false := z1
  refine callsD_of_wpS Tryz.func36 rfl fun k₀ cs hu => ?_
  apply wpS_seq
  apply wpS_region
  simp [wpOpsS, go_sem, recoverD, hu, Tryz.ntmps36, Exit.thenS]
  apply wpS_seq
  apply wpS_region
  simp [wpOpsS, go_sem, Tryz.ntmps36, Exit.thenS]
  refine wpS_cond (t := true) (by simp [Act.eval, Array.replicate]) ?_
  simp only [if_true]
  refine wpS_of_wp ?_
  simp only [Array.replicate_succ, Array.replicate_zero, List.push_toArray, List.append_toArray, List.setIfInBounds_toArray, List.set_cons_zero, List.set_cons_succ, List.nil_append, List.cons_append]
  refine wp_region_held_drew (S := (fun w' : World => True)) (by kernel_rfl) trivial (fun hHeld => ?_)
  refine tj 0 ?_
  simp only [Act.put, zA, zB, zC]
  refine tj 1 ?_
  simp only [Act.put, zA, zB, zC]
  refine tr [2] ?_
  refine AllReadyH.cons (tA rfl) (fun K hK => ?_) AllReadyH.nil
  go_simp
  refine hK.out _ _ trivial (fun hHeld => ?_)
  clear hK K
  try simp only [Act.put, zA, zB, zC]
  refine tr [3] ?_
  refine AllReadyH.cons (tA rfl) (fun K hK => ?_) AllReadyH.nil
  go_simp
  refine hK.out _ _ trivial (fun hHeld => ?_)
  clear hK K
  try simp only [Act.put, zA, zB, zC]
  refine wpAnyH_done (by kernel_rfl) ?_ _
  simp [bodyPostS, results, Tryz.results36]
end Go.Proofs.YtikknlkdbjaonaaGreatDoor.Y

/- What write comes to, whole. -/
namespace Go.Proofs.YtikknlkdbjaonaaGreatDoor.Y
open Go.RowKit Go.Maps Go.Lib
set_option linter.unusedVariables false
set_option linter.unusedSimpArgs false
/-- What writing a module comes to. -/
def WrOut (w : World) (r : Option By) (e : Ending) (w' : World) : Prop :=
  Below w.heap.size w w' ∧ match r with
    | none => e = .returned (.tuple #[.string { data := #[] }, .int .i64 1])
    | some T => T.length ≤ 20001 ∧ e = .returned (.tuple #[.string (X.str T), .int .i64 0])
abbrev set2 (y : World) (b0 b1 : Nat) (v0 v1 : Value) : World := (y.setCell ⟨b0, 0, none⟩ v0).setCell ⟨b1, 0, none⟩ v1
theorem set2_low {B b0 b1 : Nat} {y : World} {c0 c1 : Array Value} (h0 : y.heap[b0]? = some (Obj.cells c0 9 (0, 0))) (h1 : y.heap[b1]? = some (Obj.cells c1 27 (0, 0))) (hB0 : B ≤ b0) (hB1 : B ≤ b1) (v0 v1 : Value) : Below B y (set2 y b0 b1 v0 v1) := by
  have hne : b0 ≠ b1 := blk_ne h0 h1 (by decide)
  have k0 : Kp [9, 27] B y _ := Kp.set (i := 0) h0 (by decide) hB0 v0
  have e0 := blk_far (k := 0) (u := v0) h1 hne
  have k1 : Kp [9, 27] B _ _ := Kp.set (i := 0) e0 (by decide) hB1 v1
  exact (k0.trans k1).low
set_option maxRecDepth 100000 in
set_option maxHeartbeats 4000000 in
theorem write_any {C D : Nat} {vd vs ve : Value} {E : List Exp} {XS : List Sx} {DX : List Dx} {w : World} (hr : w.ownsRow C 32 6 ve E.length (E.flatMap expC)) (hM : MS D w vs XS) (hD : MDs D w vd DX) (hE : E.length ≤ 4000 → EOk E) (hS : SOk XS) (hd : ∀ p ∈ DX, D1 p.d) (he : Env w) (hpw : Lib.TabIs Tryz.prog w "internal/strconv.uint64pow10" .u64 Lib.pow10Tab) : Calls Tryz.prog 22 #[.agg #[vd, vs, ve]] w (WrOut w (wall ⟨DX.map (·.d), XS.map (·.s), E⟩ [])) := by
  have HMF := hmf Tryz.prog
  obtain ⟨ad, cd, hv⟩ := row_form hD.rd
  subst hv
  obtain ⟨as', cs, hv⟩ := row_form hM.rs
  subst hv
  obtain ⟨ae, ce, hv⟩ := row_form hr
  subst hv
  obtain ⟨R, hR⟩ : ∃ R, wall ⟨DX.map (·.d), XS.map (·.s), E⟩ [] = R := ⟨_, rfl⟩
  obtain ⟨W1, hW1⟩ : ∃ W1, w.alloc (.cells #[.slice ad DX.length cd, .slice as' XS.length cs, .slice ae E.length ce] 26) = W1 := ⟨_, rfl⟩
  have s1 : W1.heap.size = w.heap.size + 1 := by rw [← hW1]; simp
  have b1 : Below w.heap.size w W1 := by rw [← hW1]; exact bl1 _ _
  obtain ⟨W2, hW2⟩ : ∃ W2, W1.alloc (.cells #[.string { data := #[] }] 9) = W2 := ⟨_, rfl⟩
  have s2 : W2.heap.size = w.heap.size + 2 := by rw [← hW2]; simp; omega
  have b2 : Below W1.heap.size W1 W2 := by rw [← hW2]; exact bl1 _ _
  obtain ⟨W3, hW3⟩ : ∃ W3, W2.alloc (.cells #[.int .i64 0] 27) = W3 := ⟨_, rfl⟩
  have s3 : W3.heap.size = w.heap.size + 3 := by rw [← hW3]; simp; omega
  have b3 : Below W2.heap.size W2 W3 := by rw [← hW3]; exact bl1 _ _
  obtain ⟨W4, hW4⟩ : ∃ W4, W3.alloc (.cells #[.slice ad DX.length cd, .slice as' XS.length cs, .slice ae E.length ce, .slice none 0 0] 80) = W4 := ⟨_, rfl⟩
  have s4 : W4.heap.size = w.heap.size + 4 := by rw [← hW4]; simp; omega
  have b4 : Below W3.heap.size W3 W4 := by rw [← hW4]; exact bl1 _ _
  have hz := he.hz
  have HBL : Hid (Below w.heap.size w W4) := ((b1.trans (b2.mono (by omega))).trans (b3.mono (by omega))).trans (b4.mono (by omega))
  have HMD : Hid (W4.heap[w.heap.size]? = some (.cells #[.slice ad DX.length cd, .slice as' XS.length cs, .slice ae E.length ce] 26)) := by
    show _ = _
    rw [b4.block _ (by omega), b3.block _ (by omega), b2.block _ (by omega), ← hW1]
    exact heap_new _ _
  have HM3 : Hid (W3.heap[w.heap.size]? = some (.cells #[.slice ad DX.length cd, .slice as' XS.length cs, .slice ae E.length ce] 26)) := by
    show _ = _
    rw [b3.block _ (by omega), b2.block _ (by omega), ← hW1]
    exact heap_new _ _
  have HM0 : Hid (W4.heap[W1.heap.size]? = some (.cells #[.string { data := #[] }] 9)) := by
    show _ = _
    rw [b4.block _ (by omega), b3.block _ (by omega), ← hW2]
    exact heap_new _ _
  have HE0 : Hid (W4.heap[W2.heap.size]? = some (.cells #[.int .i64 0] 27)) := by
    show _ = _
    rw [b4.block _ (by omega), ← hW3]
    exact heap_new _ _
  have HKB : Kp [80, 5] w.heap.size w W4 := Kp.of HBL.out (Nat.le_refl _)
  have HX : Hid (WX W3.heap.size C W4 W3.heap.size (.slice ad DX.length cd) (.slice as' XS.length cs) (.slice ae E.length ce) E []) := by
    refine ⟨⟨Nat.le_refl _, .slice none 0 0, ?_, World.ownsRow_nil _ _ _ _⟩, by simp, row_kp hr HKB (by decide), he.below (HBL.out.mono hz), pw_below hpw HBL.out hz, by omega⟩
    rw [← hW4]
    exact heap_new _ _
  have HAL : Hid (Calls Tryz.prog 37 #[.pointer (some ⟨W3.heap.size, 0, none⟩)] W4 (WXO W3.heap.size C W4 W3.heap.size (.slice ad DX.length cd) (.slice as' XS.length cs) (.slice ae E.length ce) E R)) := by
    rw [← hR]
    exact wall_any HX.out (hM.kp HKB) (hD.kp HKB) hE hS hd
  have HSZ : Hid (W1.heap.size = w.heap.size + 1 ∧ W2.heap.size = w.heap.size + 2 ∧ W3.heap.size = w.heap.size + 3) := ⟨s1, s2, s3⟩
  rw [hR]
  clear he hr hM hD hpw hR b1 b2 b3 b4 s1 s2 s3 s4 hE hS hd HKB hz
  have p0 := cell_blk HM3.out 0 (v := .slice ad DX.length cd) rfl
  have p1 := cell_blk HM3.out 1 (v := .slice as' XS.length cs) rfl
  have p2 := cell_blk HM3.out 2 (v := .slice ae E.length ce) rfl
  go_enter_defers Tryz.func22, Tryz.ntmps22
  go_wp2_with fail
  refine Calls.mono HAL.out ?_
  intro e y hy
  have HY : Hid (WXO W3.heap.size C W4 W3.heap.size (.slice ad DX.length cd) (.slice as' XS.length cs) (.slice ae E.length ce) E R e y) := hy
  have q0 := (HY.out.1.low.block _ (by have := HSZ.out; omega)).trans HM0.out
  have q4 := (HY.out.1.low.block _ (by have := HSZ.out; omega)).trans HE0.out
  have HQ : Hid (y.heap[W1.heap.size]? = some (Obj.cells #[.string { data := #[] }] 9 (0, 0)) ∧ y.heap[W2.heap.size]? = some (Obj.cells #[.int .i64 0] 27 (0, 0))) := ⟨q0, q4⟩
  have m0 := cell_blk q0 0 (v := .string { data := #[] }) rfl
  have m4 := cell_blk q4 0 (v := .int .i64 0) rfl
  have z0 : ∀ o, y.frozen? ⟨W1.heap.size, o, none⟩ = false := fun o => blk_fro q0
  have z1 : ∀ o, y.frozen? ⟨W2.heap.size, o, none⟩ = false := fun o => blk_fro q4
  have hne : W1.heap.size ≠ W2.heap.size := by have := HSZ.out; omega
  have HLW : Hid (Below w.heap.size w y) := HBL.out.trans (HY.out.1.low.mono (by have := HSZ.out; omega))
  have HB1 : Hid (w.heap.size ≤ W1.heap.size ∧ w.heap.size ≤ W2.heap.size ∧ w.heap.size ≤ y.heap.size) := ⟨by have := HSZ.out; omega, by have := HSZ.out; omega, HLW.out.size⟩
  clear hy q0 q4 HAL HX HM0 HE0 HMD HM3 hW1 hW2 hW3 hW4 p0 p1 p2
  cases R with
  | none =>
    have h3' : e = _ := HY.out.2
    subst h3'
    have HF : Hid (WrOut w none (.returned (.tuple #[.string { data := #[] }, .int .i64 1])) (set2 y.drew W1.heap.size W2.heap.size (.string { data := #[] }) (.int .i64 1))) := by
      have hd : Below y.heap.size y y.drew := (Below.refl _ _).drew
      exact ⟨(HLW.out.trans (hd.mono HB1.out.2.2)).trans (set2_low (blk_thru hd HQ.out.1) (blk_thru hd HQ.out.2) HB1.out.1 HB1.out.2.1 _ _), rfl⟩
    clear HY
    go_wp2
    refine leaves_cons (f := 36) (args := #[.pointer (some ⟨W1.heap.size, 0, none⟩), .pointer (some ⟨W2.heap.size, 0, none⟩)]) (by simp) (by simp [go_sem]) ?_
    refine (catch_panickingW W1.heap.size W2.heap.size hne [] _ _ _ m0 m4 z0 z1).mono ?_
    rintro e u' w'' ⟨rfl, rfl, rfl⟩
    simp [Leaves, settle, results, Tryz.results22, go_sem, m0, m4, hne, hne.symm]
    exact HF.out
  | some T =>
    obtain ⟨hk, rfl, hx⟩ := HY.out
    obtain ⟨vt, hb, hrow⟩ := hx.ws.blk
    obtain ⟨at', ct, rfl⟩ := row_form hrow
    have c3 := cell_blk hb 3 (v := .slice at' T.length ct) rfl
    have hcv := conv_text hrow
    have HF : Hid (WrOut w (some T) (.returned (.tuple #[.string (X.str T), .int .i64 0])) (set2 y W1.heap.size W2.heap.size (.string (X.str T)) (.int .i64 0))) :=
      ⟨HLW.out.trans (set2_low HQ.out.1 HQ.out.2 HB1.out.1 HB1.out.2.1 _ _), hx.len, rfl⟩
    clear HY hk hx hb hrow
    go_wp2
    refine leaves_cons (f := 36) (args := #[.pointer (some ⟨W1.heap.size, 0, none⟩), .pointer (some ⟨W2.heap.size, 0, none⟩)]) (by simp) (by simp [go_sem]) ?_
    refine (catch_idleW W1.heap.size W2.heap.size _).mono ?_
    rintro e u' w'' ⟨rfl, rfl, rfl⟩
    simp [Leaves, settle, results, Tryz.results22, go_sem, m0, m4, hne, hne.symm]
    exact HF.out
end Go.Proofs.YtikknlkdbjaonaaGreatDoor.Y

/- Lists of numbers and of texts, compared. -/
namespace Go.Proofs.YtikknlkdbjaonaaGreatDoor.Y
open Go.RowKit Go.Maps Go.Lib
set_option linter.unusedVariables false
set_option linter.unusedSimpArgs false
theorem row_at {α : Type} {C : Nat} {w : World} {t : TypeId} {a : Option Addr} {c : Nat} {l : List α} {f : α → Value} (h : w.ownsRow C t 1 (.slice a l.length c) l.length (l.map f)) {k : Nat} (hk : k < l.length) : ∃ g, a = some ⟨g, 0, none⟩ ∧ w.cell? ⟨g, k, none⟩ = some (f l[k]) := by
  rcases h.2 with ⟨e1, e2⟩ | ⟨g, cap, cur, e1, e2⟩
  · omega
  · injection e1 with e1 _ e3
    subst e1 e3
    have hc := World.ownsRow.cellAt h k (by omega)
    refine ⟨g, rfl, ?_⟩
    rw [hc, List.getElem?_map, List.getElem?_eq_getElem hk]
    rfl
set_option maxRecDepth 100000 in
set_option maxHeartbeats 4000000 in
theorem eqI_any {C D : Nat} {w : World} {a b : Option Addr} {c d : Nat} {l m : List Int} (hl : w.ownsRow C 3 1 (.slice a l.length c) l.length (l.map iZ)) (hm : w.ownsRow D 3 1 (.slice b m.length d) m.length (m.map iZ)) : Calls Tryz.prog 67 #[.slice a l.length c, .slice b m.length d] w fun e w' => e = .returned (.bool (decide (l = m))) ∧ Below w.heap.size w w' := by
  have hm2 : maxLen = 9223372036854775807 := rfl
  have hlm : l.length ≤ maxLen := by rcases hl.2 with ⟨e1, e2⟩ | ⟨g, cap, cur, e1, e2, e3, e4, e5, -⟩ <;> omega
  have hmm : m.length ≤ maxLen := by rcases hm.2 with ⟨e1, e2⟩ | ⟨g, cap, cur, e1, e2, e3, e4, e5, -⟩ <;> omega
  have HL : Hid (∀ y, Below w.heap.size w y → y.ownsRow C 3 1 (.slice a l.length c) l.length (l.map iZ)) := fun y hy => row_thru' hl hy
  have HM : Hid (∀ y, Below w.heap.size w y → y.ownsRow D 3 1 (.slice b m.length d) m.length (m.map iZ)) := fun y hy => row_thru' hm hy
  clear hl hm
  go_enter Tryz.func67, Tryz.ntmps67
  by_cases hlen : l.length = m.length
  case neg =>
    have e0 : ((l.length : Int) != (m.length : Int)) = true := by
      have : (l.length : Int) ≠ m.length := fun e => hlen (by omega)
      simpa using this
    have HF : Hid (decide (l = m) = false) := decide_eq_false fun e => hlen (by rw [e])
    clear hlen
    go_wp2_with fail
    go_ret
    exact ⟨by rw [HF.out]; rfl, Below.refl _ _⟩
  have e0 : ((l.length : Int) != (m.length : Int)) = false := by rw [hlen]; simp
  have HLE : Hid (l.length = m.length) := hlen
  clear hlen
  go_wp2_with fail
  go_loopg [5, 13] l.length (fun gg v5 v13 wq => ∃ (k : Nat), gg = l.length - k ∧ v13 = .int .i64 (k : Int) ∧ k ≤ l.length ∧ Hid (∀ j, j < k → l[j]? = m[j]?) ∧ Hid (Below w.heap.size w wq))
  case atStart => exact ⟨0, rfl, rfl, Nat.zero_le _, (fun j hj => by omega : ∀ j, j < 0 → l[j]? = m[j]?), Below.refl _ _⟩
  case round =>
    obtain ⟨k, rfl, rfl, hk, HE, HB⟩ := hrel
    by_cases hkl : k < l.length
    · have hkm : k < m.length := by have := HLE.out; omega
      have hki : (k : Int) < l.length := by omega
      have hkj : (k : Int) < m.length := by omega
      have hk0 : 0 ≤ (k : Int) := by omega
      obtain ⟨x, hx⟩ : ∃ x, l[k] = x := ⟨_, rfl⟩
      obtain ⟨y, hy⟩ : ∃ y, m[k] = y := ⟨_, rfl⟩
      have HXY : Hid (l[k]? = some x ∧ m[k]? = some y) := ⟨by rw [List.getElem?_eq_getElem hkl, hx], by rw [List.getElem?_eq_getElem hkm, hy]⟩
      obtain ⟨Z, hZ⟩ : ∃ Z, wr.drew = Z := ⟨_, rfl⟩
      have HBZ : Hid (Below w.heap.size w Z) := by show Below _ _ _; rw [← hZ]; exact HB.out.drew
      obtain ⟨g, rfl, hc1⟩ := row_at (HL.out _ HBZ.out) hkl
      obtain ⟨g2, rfl, hc2⟩ := row_at (HM.out _ HBZ.out) hkm
      rw [hx] at hc1
      rw [hy] at hc2
      clear hx hy
      go_wp2_with fail
      refine wp_region_held_drew (S := (fun w' : World => w'.cell? ⟨g, k, none⟩ = some (.int .i64 x) ∧ w'.cell? ⟨g2, k, none⟩ = some (.int .i64 y))) (by kernel_rfl) (by rw [hZ]; exact ⟨hc1, hc2⟩) (fun hHeld => ?_)
      rw [hZ]
      rw [hZ] at hHeld
      clear hZ
      refine tj 0 ?_
      simp only [Act.put, zA, zB, zC]
      refine tj 1 ?_
      simp only [Act.put, zA, zB, zC]
      refine tj 2 ?_
      simp only [Act.put, zA, zB, zC]
      refine tj 3 ?_
      simp only [Act.put, zA, zB, zC]
      refine tj 4 ?_
      simp only [Act.put, zA, zB, zC]
      refine tj 5 ?_
      simp only [Act.put, zA, zB, zC]
      refine tj 6 ?_
      simp only [Act.put, zA, zB, zC]
      refine tj 7 ?_
      simp only [Act.put, zA, zB, zC]
      refine tj 8 ?_
      simp only [Act.put, zA, zB, zC]
      refine wpAnyH_done (by kernel_rfl) ?_ _
      clear hHeld hc1 hc2
      by_cases hxy : x = y
      · subst hxy
        have e1 : (x != x) = false := by simp
        have e2 : (!(x == x)) = false := by simp
        go_wp2_with fail
        go_roundg (l.length - (k + 1))
        case measure => omega
        case rel =>
          refine ⟨k + 1, rfl, by go_num, by omega, ?_, HBZ⟩
          intro j hj
          by_cases e : j = k
          · subst e; rw [HXY.out.1, HXY.out.2]
          · exact HE.out j (by omega)
      · have HF : Hid (decide (l = m) = false) := decide_eq_false fun e => hxy (by
          have h1 := HXY.out.1
          rw [e, HXY.out.2] at h1
          injection h1 with h1
          exact h1.symm)
        have e1 : (x != y) = true := by simpa using hxy
        have e2 : (!(x == y)) = true := by simpa using hxy
        have e3 : (!decide (x = y)) = true := by simpa using hxy
        clear hxy
        go_wp2_with fail
        go_ret
        exact ⟨by rw [HF.out]; rfl, HBZ.out⟩
    · obtain rfl : k = l.length := by omega
      have HF : Hid (decide (l = m) = true) := decide_eq_true (List.ext_getElem? fun j => by
        by_cases hj : j < l.length
        · exact HE.out j hj
        · rw [List.getElem?_eq_none (by omega), List.getElem?_eq_none (by have := HLE.out; omega)])
      go_wp2_with fail
      go_ret
      exact ⟨by rw [HF.out]; rfl, HB.out⟩
set_option maxRecDepth 100000 in
set_option maxHeartbeats 4000000 in
theorem eqS_any {C D : Nat} {w : World} {a b : Option Addr} {c d : Nat} {l m : List By} (hl : w.ownsRow C 9 1 (.slice a l.length c) l.length (l.map sZ)) (hm : w.ownsRow D 9 1 (.slice b m.length d) m.length (m.map sZ)) : Calls Tryz.prog 66 #[.slice a l.length c, .slice b m.length d] w fun e w' => e = .returned (.bool (decide (l = m))) ∧ Below w.heap.size w w' := by
  have hm2 : maxLen = 9223372036854775807 := rfl
  have hlm : l.length ≤ maxLen := by rcases hl.2 with ⟨e1, e2⟩ | ⟨g, cap, cur, e1, e2, e3, e4, e5, -⟩ <;> omega
  have hmm : m.length ≤ maxLen := by rcases hm.2 with ⟨e1, e2⟩ | ⟨g, cap, cur, e1, e2, e3, e4, e5, -⟩ <;> omega
  have HL : Hid (∀ y, Below w.heap.size w y → y.ownsRow C 9 1 (.slice a l.length c) l.length (l.map sZ)) := fun y hy => row_thru' hl hy
  have HM : Hid (∀ y, Below w.heap.size w y → y.ownsRow D 9 1 (.slice b m.length d) m.length (m.map sZ)) := fun y hy => row_thru' hm hy
  clear hl hm
  go_enter Tryz.func66, Tryz.ntmps66
  by_cases hlen : l.length = m.length
  case neg =>
    have e0 : ((l.length : Int) != (m.length : Int)) = true := by
      have : (l.length : Int) ≠ m.length := fun e => hlen (by omega)
      simpa using this
    have HF : Hid (decide (l = m) = false) := decide_eq_false fun e => hlen (by rw [e])
    clear hlen
    go_wp2_with fail
    go_ret
    exact ⟨by rw [HF.out]; rfl, Below.refl _ _⟩
  have e0 : ((l.length : Int) != (m.length : Int)) = false := by rw [hlen]; simp
  have HLE : Hid (l.length = m.length) := hlen
  clear hlen
  go_wp2_with fail
  go_loopg [5, 13] l.length (fun gg v5 v13 wq => ∃ (k : Nat), gg = l.length - k ∧ v13 = .int .i64 (k : Int) ∧ k ≤ l.length ∧ Hid (∀ j, j < k → l[j]? = m[j]?) ∧ Hid (Below w.heap.size w wq))
  case atStart => exact ⟨0, rfl, rfl, Nat.zero_le _, (fun j hj => by omega : ∀ j, j < 0 → l[j]? = m[j]?), Below.refl _ _⟩
  case round =>
    obtain ⟨k, rfl, rfl, hk, HE, HB⟩ := hrel
    by_cases hkl : k < l.length
    · have hkm : k < m.length := by have := HLE.out; omega
      have hki : (k : Int) < l.length := by omega
      have hkj : (k : Int) < m.length := by omega
      have hk0 : 0 ≤ (k : Int) := by omega
      obtain ⟨x, hx⟩ : ∃ x, l[k] = x := ⟨_, rfl⟩
      obtain ⟨y, hy⟩ : ∃ y, m[k] = y := ⟨_, rfl⟩
      have HXY : Hid (l[k]? = some x ∧ m[k]? = some y) := ⟨by rw [List.getElem?_eq_getElem hkl, hx], by rw [List.getElem?_eq_getElem hkm, hy]⟩
      obtain ⟨Z, hZ⟩ : ∃ Z, wr.drew = Z := ⟨_, rfl⟩
      have HBZ : Hid (Below w.heap.size w Z) := by show Below _ _ _; rw [← hZ]; exact HB.out.drew
      obtain ⟨g, rfl, hc1⟩ := row_at (HL.out _ HBZ.out) hkl
      obtain ⟨g2, rfl, hc2⟩ := row_at (HM.out _ HBZ.out) hkm
      rw [hx] at hc1
      rw [hy] at hc2
      clear hx hy
      go_wp2_with fail
      refine wp_region_held_drew (S := (fun w' : World => w'.cell? ⟨g, k, none⟩ = some (.string (X.str x)) ∧ w'.cell? ⟨g2, k, none⟩ = some (.string (X.str y)))) (by kernel_rfl) (by rw [hZ]; exact ⟨hc1, hc2⟩) (fun hHeld => ?_)
      rw [hZ]
      rw [hZ] at hHeld
      clear hZ
      refine tj 0 ?_
      simp only [Act.put, zA, zB, zC]
      refine tj 1 ?_
      simp only [Act.put, zA, zB, zC]
      refine tj 2 ?_
      simp only [Act.put, zA, zB, zC]
      refine tj 3 ?_
      simp only [Act.put, zA, zB, zC]
      refine tj 4 ?_
      simp only [Act.put, zA, zB, zC]
      refine tj 5 ?_
      simp only [Act.put, zA, zB, zC]
      refine tj 6 ?_
      simp only [Act.put, zA, zB, zC]
      refine tj 7 ?_
      simp only [Act.put, zA, zB, zC]
      refine tj 8 ?_
      simp only [Act.put, zA, zB, zC]
      refine wpAnyH_done (by kernel_rfl) ?_ _
      clear hHeld hc1 hc2
      by_cases hxy : x = y
      · subst hxy
        have e1 := str_beq x x
        rw [decide_eq_true rfl] at e1
        simp only [e1, Bool.not_true]
        go_wp2_with fail
        go_roundg (l.length - (k + 1))
        case measure => omega
        case rel =>
          refine ⟨k + 1, rfl, by go_num, by omega, ?_, HBZ⟩
          intro j hj
          by_cases e : j = k
          · subst e; rw [HXY.out.1, HXY.out.2]
          · exact HE.out j (by omega)
      · have HF : Hid (decide (l = m) = false) := decide_eq_false fun e => hxy (by
          have h1 := HXY.out.1
          rw [e, HXY.out.2] at h1
          injection h1 with h1
          exact h1.symm)
        have e1 := str_beq x y
        rw [decide_eq_false hxy] at e1
        simp only [e1, Bool.not_false]
        clear hxy
        go_wp2_with fail
        go_ret
        exact ⟨by rw [HF.out]; rfl, HBZ.out⟩
    · obtain rfl : k = l.length := by omega
      have HF : Hid (decide (l = m) = true) := decide_eq_true (List.ext_getElem? fun j => by
        by_cases hj : j < l.length
        · exact HE.out j hj
        · rw [List.getElem?_eq_none (by omega), List.getElem?_eq_none (by have := HLE.out; omega)])
      go_wp2_with fail
      go_ret
      exact ⟨by rw [HF.out]; rfl, HB.out⟩
end Go.Proofs.YtikknlkdbjaonaaGreatDoor.Y

/- MemScripts. (Written by gen_scripts.py.) -/
import Derived.Test.YtfkpbmopneleiaaMemTwo
import Derived.Test.YtfkpbmopneleiaaMemStays
import Derived.Deep.LoopGhost
import Derived.Deep.RegionHeld3
namespace Go.Proofs.Ytfkpbmopneleiaa
open Go.RowKit Go.Maps
set_option linter.unusedVariables false

theorem row_len {w : World} {B : Nat} {e : TypeId} {size n : Nat} {v : Value} {xs : List Value} (o : w.ownsRow B e size v n xs) : n ≤ 9223372036854775807 := by
  rcases o.2 with ⟨-, h0⟩ | ⟨g, cap, cur, -, -, -, h1, h2, -⟩
  · omega
  · unfold maxLen at h2; omega
theorem cell_thruS {w w' : World} {p : Addr} {v : Value} (hb : Below w.heap.size w w') (h : w.cell? p = some v) : w'.cell? p = some v := (hb.cell (p := p) (World.block_lt_of_cell? w p h)).trans h
theorem minus_seven : (Lit.int .i64 (-7)).wf = true := by decide
theorem wf_ok {rs : List Reg} (h : AllOk rs) {i : Nat} (hi : i < rs.length) : (rs.getD i noReg).words.length ≤ 65536 := by
  have := h i hi
  unfold regOk at this
  simp only [Bool.and_eq_true, decide_eq_true_eq] at this
  exact this.2
theorem foot_same {w : World} {va vb : Value} {r ws : List Int} (ha : FootV w va r ws) (hb : FootV w vb r ws) (h1 : r.length ≤ 1000) (h2 : ws.length ≤ 1000) :
    Calls Try.prog 15 #[va, vb] w fun e w' => e = .returned (.bool true) ∧ Below w.heap.size w w' := by
  refine (samefoot_any ha hb (by omega) (by omega) (by omega) (by omega)).mono ?_
  rintro e w' ⟨rfl, hb⟩
  exact ⟨by simp, hb⟩
theorem list_same {w : World} {a1 a2 : Option Addr} {l1 c1 l2 c2 : Nat} {zs : List Int} (ha : View w a1 l1 c1 zs) (hb : View w a2 l2 c2 zs) (h1 : l1 ≤ 70000) (h2 : l2 ≤ 70000) :
    Calls Try.prog 18 #[.slice a1 l1 c1, .slice a2 l2 c2] w fun e w' => e = .returned (.bool true) ∧ Below w.heap.size w w' := by
  refine (same_any ha hb (by omega) (by omega)).mono ?_
  rintro e w' ⟨rfl, hb⟩
  exact ⟨by simp, hb⟩

set_option maxRecDepth 100000 in
set_option maxHeartbeats 16000000 in
theorem scripts_any {w : World} {a oa : Option Addr} {len cap olen ocap : Nat} {rs : List Reg} {os : List (Int × Int × Int)} (h : RegsV w a len cap rs) (hfit : ∀ r ∈ rs, ∀ n ∈ r.words, (Lit.int .i64 n).wf = true) (ho : OpsV w oa olen os) (hbig : len * 40 ≤ 140737488351232) :
    Calls Try.prog 3 #[.slice a len cap, .slice oa olen ocap] w fun e w' => e = .returned (.bool true) ∧ Below w.heap.size w w' := by
  have hcnt := h.count
  have HV : Hid _ := h
  have HFI : Hid _ := hfit
  have HOP : Hid _ := ho
  clear h hfit ho
  go_enter Try.func3, Try.ntmps3
  go_wp2_with fail
  go_loopg [5] len (fun r kv wr => ∃ (k : Nat), kv = .int .i64 k ∧ k ≤ len ∧ len - k ≤ r ∧ Hid (∀ i, i < k → (rs.getD i noReg).words.length ≤ 2000) ∧ Below w.heap.size w wr)
  case atStart => exact ⟨0, rfl, Nat.zero_le _, by omega, (fun i hi => by omega : ∀ i, i < 0 → (rs.getD i noReg).words.length ≤ 2000), Below.refl _ _⟩
  case round =>
    obtain ⟨k, rfl, hk, hr, HL, hb⟩ := hrel
    by_cases hlt : k < len
    · rcases HV.out.cells with h0 | ⟨b, off, hA, hc⟩
      · omega
      obtain ⟨a1, l1, c1, k0, k1, k2, V1⟩ := hc k hlt
      have hbl : b < w.heap.size := World.block_lt_of_cell? w ⟨b, off + k * 3, none⟩ k0
      have q1 := (hb.cell (p := ⟨b, off + k * 3 + 1, none⟩) hbl).trans k1
      have HC : Hid _ := V1.count
      have hki : (k : Int) < len := by omega
      have hkn : 0 ≤ (k : Int) := by omega
      subst hA
      clear hc k0 k1 k2 V1
      by_cases hl : (2000 : Int) < l1
      · go_wp2_with (go_at_call 8; refine (live_any _).mono ?_; rintro e v ⟨rfl, hbv⟩)
        go_ret
        exact ⟨rfl, hb.trans (hbv.mono hb.size)⟩
      · go_wp2_with fail
        go_roundg (len - (k + 1))
        case measure => omega
        case rel => exact ⟨k + 1, by first | rfl | (congr 1; omega), by omega, Nat.le_refl _, (fun i hi => by
          rcases Nat.lt_or_ge i k with c | c
          · exact HL.out i c
          · obtain rfl : i = k := by omega
            rw [HC.out]; omega : ∀ i, i < k + 1 → (rs.getD i noReg).words.length ≤ 2000), hb⟩
    · obtain rfl : k = len := by omega
      have HVr : Hid _ := HV.out.below hb
      go_wp2_with fail
      refine (copiedL_any HVr.out hbig HL.out HFI.out).mono ?_
      rintro e w1 ⟨lv, us, t0, rfl, hrow, hb1⟩
      obtain ⟨la, lc, hlv, -, -, -⟩ := hrow.form
      subst hlv
      rw [hcnt] at hrow
      have HROW : Hid (RegRow wr.heap.size w1 (.slice la k lc) rs us t0) := hrow
      have HRV : Hid (RegsV w1 la k lc rs) := by
        have := HROW.out
        show RegsV _ _ _ _ _
        rw [← hcnt] at this ⊢
        exact this.regs
      have q1 : Below w.heap.size w w1 := hb.trans (hb1.mono hb.size)
      have HV1 : Hid _ := HV.out.below q1
      have zr := hb.size
      have z1 := hb1.size
      clear hrow hb1
      cases hm : may rs with
      | false =>
        have HM : Hid _ := hm
        clear hm
        go_wp2_with fail
        refine (new_no HRV.out HM.out).mono ?_
        rintro e w2 ⟨rfl, hb2⟩
        have q2 : Below w.heap.size w w2 := q1.trans (hb2.mono q1.size)
        have HV2 : Hid _ := HV.out.below q2
        clear hb2
        go_wp2_with fail
        refine (rnew_no HV2.out HM.out).mono ?_
        rintro e w3 ⟨rfl, hb3⟩
        have q3 : Below w.heap.size w w3 := q2.trans (hb3.mono q2.size)
        clear hb3
        go_wp2_with (go_at_call 8; refine (live_any _).mono ?_; rintro e v ⟨rfl, hbv⟩)
        go_ret
        exact ⟨rfl, q3.trans (hbv.mono q3.size)⟩
      | true =>
        obtain ⟨h16, hok⟩ := may_allok hm
        have HM : Hid _ := hm
        have HOK : Hid _ := hok
        clear hm hok
        go_wp2_with fail
        refine (new_yes HRV.out HM.out (by omega) (fun i hi => by have := HL.out i hi; omega) HFI.out).mono ?_
        rintro e w2 ⟨bm, br, bw, lv, bs, rfl, hmv, hb2⟩
        obtain ⟨p, hp⟩ := mem_marks hmv
        have H2 : Hid (MemX w1.heap.size w2 bm rs [] [] p) := hp
        have q2 : Below w.heap.size w w2 := q1.trans (hb2.mono q1.size)
        have HV2 : Hid _ := HV.out.below q2
        have HROW2 : Hid _ := HROW.out.below hb2
        have z2 := hb2.size
        clear hb2 hmv hp
        go_wp2_with fail
        refine (rnew_yes HV2.out HM.out (by omega) (fun i hi => by have := HL.out i hi; omega) HFI.out).mono ?_
        rintro e w3 ⟨bx, t, rfl, hx, hb3⟩
        have q3 : Below w.heap.size w w3 := q2.trans (hb3.mono q2.size)
        have z3 := hb3.size
        have HT3 : Hid (Two w.heap.size w3 bm bx rs [] [] p t) := by
          refine ⟨(H2.out.frame (St.ofBelow (fun _ => 0) hb3) (fun _ _ => rfl)).base (by omega), hx.base (by omega), fun k hk => ?_, HOK.out, by omega⟩
          cases Nat.eq_zero_or_pos (p k) with
          | inl h0 => exact h0
          | inr h0 => have := (H2.out.lt k (by omega)).2; have := (hx.lt k hk).1; omega
        have HROW3 : Hid (RegRow w.heap.size w3 (.slice la k lc) rs us t0) := (HROW2.out.below hb3).base (by omega)
        have HD1 : Hid (∀ x, p x ≠ 0 → t0 x = 0) := fun x hx' => by
          cases Nat.eq_zero_or_pos (t0 x) with
          | inl h0 => exact h0
          | inr h0 => have := (HROW.out.lt x (by omega)).2; have := (H2.out.lt x hx').1; omega
        have HD2 : Hid (∀ x, t x ≠ 0 → t0 x = 0) := fun x hx' => by
          cases Nat.eq_zero_or_pos (t0 x) with
          | inl h0 => exact h0
          | inr h0 => have := (HROW.out.lt x (by omega)).2; have := (hx.lt x hx').1; omega
        have z03 : w.heap.size ≤ w3.heap.size := by omega
        clear hx hb3 HROW HROW2 H2 HV1 HV2 HVr HRV q1 q2 z1 z2 z3 zr hb HL HM HOK
        clear wr
        go_wp2_with fail
        go_loopg [11] k (fun r iv wq => ∃ (i : Nat) (rs' : List Reg), iv = .int .i64 i ∧ i ≤ k ∧ k - i ≤ r ∧ rs'.length = k ∧ Hid (RegRow w.heap.size wq (.slice la k lc) rs' us t0) ∧ Hid (St t0 t0 w3 wq))
        case atStart => exact ⟨0, rs, rfl, Nat.zero_le _, by omega, hcnt, HROW3.out, St.ofBelow t0 (Below.refl _ _)⟩
        case round =>
          obtain ⟨i, rs', rfl, hi, hr2, hl', HR, HS⟩ := hrel
          by_cases hit : i < k
          · have hii : (i : Int) < k := by omega
            have hin : 0 ≤ (i : Int) := by omega
            obtain ⟨n, hn⟩ : ∃ n, (rs'.getD i noReg).words.length = n := ⟨_, rfl⟩
            have hnb : n ≤ 9223372036854775807 := by rw [← hn]; exact row_len (HR.out.words i (by omega))
            go_wp2_with fail
            generalize wr = wo at *
            go_loopg [12] n (fun r jv wq => ∃ (j : Nat) (rs2 : List Reg), jv = .int .i64 j ∧ j ≤ n ∧ n - j ≤ r ∧ rs2.length = k ∧ (rs2.getD i noReg).words.length = n ∧ Hid (RegRow w.heap.size wq (.slice la k lc) rs2 us t0) ∧ Hid (St t0 t0 w3 wq))
            case atStart => exact ⟨0, rs', rfl, Nat.zero_le _, by omega, hl', hn, HR.out, HS.out⟩
            case round =>
              clear HR HS
              obtain ⟨j, rs2, rfl, hj, hr3, hl2, hn2, HR, HS⟩ := hrel
              obtain ⟨fa, fc, ef, -, -, hcs⟩ := HR.out.form
              rcases hcs with h0 | ⟨g, rfl, hgz, -, hc⟩
              · omega
              obtain ⟨ela, -, -⟩ := Value.slice.inj ef
              subst ela
              clear ef
              obtain ⟨-, k1, -⟩ := hc i (by omega)
              by_cases hjt : j < n
              · obtain ⟨gw, gc, e1, htg, hwc, hwf, HP⟩ := HR.out.put i j (by omega) (by omega) (-7) minus_seven
                rw [e1, hn2] at k1
                have HP2 : Hid _ := HP
                have HS2 : Hid (St t0 t0 w3 (wr.setCell ⟨gw, j, none⟩ (.int .i64 (-7)))) := HS.out.trans (St.ofGrown t0 (gb_set wr ⟨gw, j, none⟩ _) (by show t0 gw ≠ 0; rw [htg]; omega))
                have hjj : (j : Int) < n := by omega
                have hjn : 0 ≤ (j : Int) := by omega
                generalize (rs2.getD i noReg).words.getD j 0 = wv at *
                clear hc HP e1
                go_wp2_with fail
                go_roundg (n - (j + 1))
                case measure => omega
                case rel => exact ⟨j + 1, putWord rs2 i j (-7), by first | rfl | (congr 1; omega), by omega, Nat.le_refl _, (putWord_len _ _ _ _).trans hl2, (put_base rs2 i j i (-7)).2.1.trans hn2, HP2.out, HS2.out⟩
              · obtain rfl : j = n := by omega
                obtain ⟨va, vc, ev, -⟩ := HR.out.view i (by omega)
                rw [ev, hn2] at k1
                clear hc ev
                go_wp2_with fail
                go_roundg (k - (i + 1))
                case measure => omega
                case rel => exact ⟨i + 1, rs2, by first | rfl | (congr 1; omega), by omega, Nat.le_refl _, hl2, HR.out, HS.out⟩
          · obtain rfl : i = k := by omega
            have HT : Hid (Two w.heap.size wr bm bx rs [] [] p t) := HT3.out.other HS.out HD1.out HD2.out
            have q4 : Below w.heap.size w wr := q3.trans (HS.out.toBelow (fun x hx' => (HROW3.out.lt x hx').1) z03)
            clear HT3 HR HS HROW3 HD1 HD2 z03 q3 hl'
            generalize wr = w4 at *
            go_wp2_with fail
            go_loopg [13] olen (fun r iv wq => ∃ (c : Nat) (rs2 : List Reg) (R W : List Int) (p2 t2 : Nat → Nat), iv = .int .i64 c ∧ c ≤ olen ∧ c ≤ 80 ∧ olen - c ≤ r ∧ R.length ≤ c ∧ W.length ≤ c ∧ Hid (Two w.heap.size wq bm bx rs2 R W p2 t2) ∧ Below w.heap.size w wq)
            case atStart => exact ⟨0, rs, [], [], p, t, rfl, Nat.zero_le _, by omega, by omega, by simp, by simp, HT.out, q4⟩
            case round =>
              clear HT q4
              obtain ⟨c, rs2, R, W, p2, t2, rfl, hc0, hc80, hr4, hR, hW, HT, hb⟩ := hrel
              have hl16 := HT.out.len
              by_cases hct : c < olen ∧ c < 80
              · obtain ⟨hc1, hc2⟩ := hct
                rcases HOP.out.cells with h0 | ⟨ob, oo, hO, hco⟩
                · omega
                obtain ⟨d, x, n, k0, k1, k2, hx, hn⟩ := hco c hc1
                have obl : ob < w.heap.size := World.block_lt_of_cell? w ⟨ob, oo + c * 3, none⟩ k0
                have o0 := (hb.cell (p := ⟨ob, oo + c * 3, none⟩) obl).trans k0
                have o1 := (hb.cell (p := ⟨ob, oo + c * 3 + 1, none⟩) obl).trans k1
                have o2 := (hb.cell (p := ⟨ob, oo + c * 3 + 2, none⟩) obl).trans k2
                have HX : Hid _ := hx
                have HN : Hid _ := hn
                have hci : (c : Int) < olen := by omega
                have hci8 : (c : Int) < 80 := by omega
                have hcn : 0 ≤ (c : Int) := by omega
                have hfr := HT.out.fresh (Nat.le_refl _)
                subst hO
                clear hco k0 k1 k2 hx hn
                rcases (show d = 1 ∨ d = 2 ∨ d = 3 ∨ (¬ d = 1 ∧ ¬ d = 2 ∧ ¬ d = 3) by omega) with rfl | rfl | rfl | ⟨d1, d2, d3⟩
                · go_wp2_with fail
                  obtain ⟨Wd, hWd⟩ : ∃ Wd, (wr.alloc (.cells #[.int .i64 1, .int .i64 x, .int .i64 n] 37)) = Wd := ⟨_, rfl⟩
                  have bd : Below wr.heap.size wr Wd := by subst hWd; exact bl_one _ _
                  have sd : Wd.heap.size = wr.heap.size + 1 := by subst hWd; simp
                  have g1 : Wd.cell? ⟨wr.heap.size, 1, none⟩ = some (.int .i64 x) := by subst hWd; exact cell_last _ _ _ _ _ rfl rfl
                  have g2 : Wd.cell? ⟨wr.heap.size, 2, none⟩ = some (.int .i64 n) := by subst hWd; exact cell_last _ _ _ _ _ rfl rfl
                  have HTD : Hid (Two w.heap.size Wd bm bx rs2 R W p2 t2) := HT.out.below bd
                  have hbd : Below w.heap.size w Wd := hb.trans (bd.mono hb.size)
                  have hBd : w.heap.size ≤ Wd.heap.size := hbd.size
                  try rw [hWd]
                  have HTE : Hid (Two w.heap.size Wd.drew bm bx rs2 R W p2 t2) := HTD.out.below ((Below.refl _ _).drew)
                  refine wp_region_held_drew (S := (fun w' : World => w'.cell? ⟨wr.heap.size, 1, none⟩ = some (.int .i64 x) ∧ w'.cell? ⟨wr.heap.size, 2, none⟩ = some (.int .i64 n))) (by kernel_rfl) ⟨g1, g2⟩ (fun hHeld => ?_)
                  refine wpAnyH_take (i := 0) (v := ?_) (get0 _ _) (by kernel_rfl) (by kernel_rfl) (by kernel_rfl) (fun _ _ _ h => h) (Or.inl ⟨by rfl, ?_⟩) (by assumption) ?_
                  rotate_left
                  · (intro w hSw; (try dsimp only at hSw); go_simp <;> with_reducible rfl)
                  simp only [Act.put, List.setIfInBounds_toArray, List.set_cons_zero, List.set_cons_succ]
                  refine wpAnyH_take (i := 1) (v := ?_) (get1 (get0 _ _)) (by kernel_rfl) (by kernel_rfl) (by kernel_rfl) (fun _ _ _ h => h) (Or.inl ⟨by rfl, ?_⟩) (by assumption) ?_
                  rotate_left
                  · (intro w hSw; (try dsimp only at hSw); go_simp <;> with_reducible rfl)
                  simp only [Act.put, List.setIfInBounds_toArray, List.set_cons_zero, List.set_cons_succ]
                  refine wpAnyH_take (i := 2) (v := ?_) (get1 (get1 (get0 _ _))) (by kernel_rfl) (by kernel_rfl) (by kernel_rfl) (fun _ _ _ h => h) (Or.inl ⟨by rfl, ?_⟩) (by assumption) ?_
                  rotate_left
                  · (intro w hSw; (try dsimp only at hSw); go_simp <;> with_reducible rfl)
                  simp only [Act.put, List.setIfInBounds_toArray, List.set_cons_zero, List.set_cons_succ]
                  refine wpAnyH_take (i := 3) (v := ?_) (get1 (get1 (get1 (get0 _ _)))) (by kernel_rfl) (by kernel_rfl) (by kernel_rfl) (fun _ _ _ h => h) (Or.inl ⟨by rfl, ?_⟩) (by assumption) ?_
                  rotate_left
                  · (intro w hSw; (try dsimp only at hSw); go_simp <;> with_reducible rfl)
                  simp only [Act.put, List.setIfInBounds_toArray, List.set_cons_zero, List.set_cons_succ]
                  refine wpAnyH_take (i := 4) (v := ?_) (get1 (get1 (get1 (get1 (get0 _ _))))) (by kernel_rfl) (by kernel_rfl) (by kernel_rfl) (fun _ _ _ h => h) (Or.inl ⟨by rfl, ?_⟩) (by assumption) ?_
                  rotate_left
                  · (intro w hSw; (try dsimp only at hSw); go_simp <;> with_reducible rfl)
                  simp only [Act.put, List.setIfInBounds_toArray, List.set_cons_zero, List.set_cons_succ]
                  refine wpAnyH_take (i := 6) (v := ?_) (get1 (get1 (get1 (get1 (get1 (get1 (get0 _ _))))))) (by kernel_rfl) (by kernel_rfl) (by kernel_rfl) (fun _ _ _ h => h) (Or.inl ⟨by rfl, ?_⟩) (by assumption) ?_
                  rotate_left
                  · (intro w hSw; (try dsimp only at hSw); go_simp <;> with_reducible rfl)
                  simp only [Act.put, List.setIfInBounds_toArray, List.set_cons_zero, List.set_cons_succ]
                  refine wpAnyH_take (i := 7) (v := ?_) (get1 (get1 (get1 (get1 (get1 (get1 (get1 (get0 _ _)))))))) (by kernel_rfl) (by kernel_rfl) (by kernel_rfl) (fun _ _ _ h => h) (Or.inl ⟨by rfl, ?_⟩) (by assumption) ?_
                  rotate_left
                  · (intro w hSw; (try dsimp only at hSw); go_simp <;> with_reducible rfl)
                  simp only [Act.put, List.setIfInBounds_toArray, List.set_cons_zero, List.set_cons_succ]
                  refine wpAnyH_take (i := 8) (v := ?_) (get1 (get1 (get1 (get1 (get1 (get1 (get1 (get1 (get0 _ _))))))))) (by kernel_rfl) (by kernel_rfl) (by kernel_rfl) (fun _ _ _ h => h) (Or.inl ⟨by rfl, ?_⟩) (by assumption) ?_
                  rotate_left
                  · (intro w hSw; (try dsimp only at hSw); go_simp <;> with_reducible rfl)
                  simp only [Act.put, List.setIfInBounds_toArray, List.set_cons_zero, List.set_cons_succ]
                  refine wpAnyH_take (i := 9) (v := ?_) (get1 (get1 (get1 (get1 (get1 (get1 (get1 (get1 (get1 (get0 _ _)))))))))) (by kernel_rfl) (by kernel_rfl) (by kernel_rfl) (fun _ _ _ h => h) (Or.inl ⟨by rfl, ?_⟩) (by assumption) ?_
                  rotate_left
                  · (intro w hSw; (try dsimp only at hSw); go_simp <;> with_reducible rfl)
                  simp only [Act.put, List.setIfInBounds_toArray, List.set_cons_zero, List.set_cons_succ]
                  refine wpAnyH_take (i := 10) (v := ?_) (get1 (get1 (get1 (get1 (get1 (get1 (get1 (get1 (get1 (get1 (get0 _ _))))))))))) (by kernel_rfl) (by kernel_rfl) (by kernel_rfl) (fun _ _ _ h => h) (Or.inl ⟨by rfl, ?_⟩) (by assumption) ?_
                  rotate_left
                  · (intro w hSw; (try dsimp only at hSw); go_simp <;> with_reducible rfl)
                  simp only [Act.put, List.setIfInBounds_toArray, List.set_cons_zero, List.set_cons_succ]
                  refine wpAnyH_ready (rs := [5]) (by kernel_rfl) (by simp) ?_
                  refine AllReadyH.cons (get1 (get1 (get1 (get1 (get1 (get0 _ _)))))) (fun K hK => ?_) AllReadyH.nil
                  go_simp
                  refine (mstore_any HTE.out.m HTE.out.ok x n HX.out HN.out (by omega) hBd).mono ?_
                  rintro e y1 ⟨f1, rs3, W3, rfl, A1, M1, S1⟩
                  have sy : y1.cell? ⟨wr.heap.size, 1, none⟩ = some (.int .i64 x) ∧ y1.cell? ⟨wr.heap.size, 2, none⟩ = some (.int .i64 n) := ⟨S1.cell hfr.1 hHeld.1, S1.cell hfr.1 hHeld.2⟩
                  obtain ⟨X1, hB1, bb1⟩ := HTE.out.one S1 hBd
                  have HM1 : Hid (MemX w.heap.size y1 bm rs3 R W3 p2) := M1
                  have HX1 : Hid (RefX w.heap.size y1 bx rs2 R W t2) := X1
                  have HS1 : Hid (St p2 p2 Wd.drew y1) := S1
                  have HA1 : Hid _ := A1
                  clear hHeld M1 X1 S1 A1
                  try go_wp2_with fail
                  refine hK.out _ _ sy (fun hHeld => ?_)
                  clear hK K
                  try simp only [Act.put, List.setIfInBounds_toArray, List.set_cons_zero, List.set_cons_succ]
                  refine wpAnyH_ready (rs := [11]) (by kernel_rfl) (by simp) ?_
                  refine AllReadyH.cons (get1 (get1 (get1 (get1 (get1 (get1 (get1 (get1 (get1 (get1 (get1 (get0 _ _)))))))))))) (fun K hK => ?_) AllReadyH.nil
                  go_simp
                  refine (rstore_any HX1.out HTE.out.ok x n HX.out HN.out (by omega) (by omega) hB1).mono ?_
                  rintro e y2 ⟨f2, rs4, W4, t4, rfl, A2, X2, S2⟩
                  obtain ⟨u1, u2, u3⟩ := StA.uniq HA1.out A2
                  subst u1 u2 u3
                  have sy : y2.cell? ⟨wr.heap.size, 1, none⟩ = some (.int .i64 x) ∧ y2.cell? ⟨wr.heap.size, 2, none⟩ = some (.int .i64 n) := ⟨S2.cell hfr.2 hHeld.1, S2.cell hfr.2 hHeld.2⟩
                  obtain ⟨ok3, hl3, hw3⟩ := A2.ok HTE.out.ok
                  obtain ⟨T2, b2, -⟩ := HTE.out.step HM1.out HS1.out X2 S2 ok3 (by omega) hBd
                  have HNX : Hid (Two w.heap.size y2 bm bx rs3 R W3 p2 t4) := T2
                  have bb2 : Below w.heap.size w y2 := hbd.trans ((Below.refl _ _).drew.trans b2)
                  clear hHeld X2 S2 A2 T2 b2 ok3
                  try go_wp2_with fail
                  refine hK.out _ _ sy (fun hHeld => ?_)
                  clear hK K
                  try simp only [Act.put, List.setIfInBounds_toArray, List.set_cons_zero, List.set_cons_succ]
                  refine wpAnyH_take (i := 12) (v := ?_) (get1 (get1 (get1 (get1 (get1 (get1 (get1 (get1 (get1 (get1 (get1 (get1 (get0 _ _))))))))))))) (by kernel_rfl) (by kernel_rfl) (by kernel_rfl) (fun _ _ _ h => h) (Or.inl ⟨by rfl, ?_⟩) (by assumption) ?_
                  rotate_left
                  · (intro w hSw; (try dsimp only at hSw); go_simp <;> with_reducible rfl)
                  simp only [Act.put, List.setIfInBounds_toArray, List.set_cons_zero, List.set_cons_succ]
                  refine wpAnyH_done (by kernel_rfl) ?_ _
                  clear hHeld sy
                  go_wp2_with fail
                  go_roundg (olen - (c + 1))
                  case measure => omega
                  case rel => exact ⟨c + 1, rs3, R, W3, p2, t4, by first | rfl | (congr 1; omega), by omega, by omega, Nat.le_refl _, by omega, by omega, HNX.out, bb2⟩
                · go_wp2_with fail
                  obtain ⟨Wd, hWd⟩ : ∃ Wd, (wr.alloc (.cells #[.int .i64 2, .int .i64 x, .int .i64 n] 37)) = Wd := ⟨_, rfl⟩
                  have bd : Below wr.heap.size wr Wd := by subst hWd; exact bl_one _ _
                  have sd : Wd.heap.size = wr.heap.size + 1 := by subst hWd; simp
                  have g1 : Wd.cell? ⟨wr.heap.size, 1, none⟩ = some (.int .i64 x) := by subst hWd; exact cell_last _ _ _ _ _ rfl rfl
                  have g2 : Wd.cell? ⟨wr.heap.size, 2, none⟩ = some (.int .i64 n) := by subst hWd; exact cell_last _ _ _ _ _ rfl rfl
                  have HTD : Hid (Two w.heap.size Wd bm bx rs2 R W p2 t2) := HT.out.below bd
                  have hbd : Below w.heap.size w Wd := hb.trans (bd.mono hb.size)
                  have hBd : w.heap.size ≤ Wd.heap.size := hbd.size
                  try rw [hWd]
                  refine (mfoot_any HTD.out.m (by omega) (by omega) hBd).mono ?_
                  rintro e y1 ⟨fa, fc, L, fa', fc', L', p3, rfl, r1, r2, f1, f2, ow1, ow2, hz, M1, S1⟩
                  obtain ⟨X1, hB1, bb1⟩ := HTD.out.one S1 hBd
                  have HM1 : Hid (MemX w.heap.size y1 bm rs2 [] [] p3) := M1
                  have HX1 : Hid (RefX w.heap.size y1 bx rs2 R W t2) := X1
                  have HS1 : Hid (St p2 p3 Wd y1) := S1
                  have HZ : Hid (∀ g, (Value.slice fa L.length fc).ownBlock = some g → p3 g = 0 ∧ t2 g = 0 ∧ w.heap.size ≤ g ∧ g < y1.heap.size) := fun g hg => ⟨hz g (ow1.lt g hg).1 (row_cells ow1 hg).1 (row_cells ow1 hg).2, (HTD.out.fresh (ow1.lt g hg).1).2, by have := (ow1.lt g hg).1; omega, (ow1.lt g hg).2⟩
                  have HZ2 : Hid (∀ g, (Value.slice fa' L'.length fc').ownBlock = some g → t2 g = 0) := fun g hg => (HTD.out.fresh (ow2.lt g hg).1).2
                  have HO1 : Hid (y1.ownsRow Wd.heap.size 2 1 (.slice fa L.length fc) L.length (intsR L)) := ow1
                  have HO2 : Hid (y1.ownsRow Wd.heap.size 2 1 (.slice fa' L'.length fc') L'.length (intsR L')) := ow2
                  have hlL : L.length ≤ 1000 := by have := ris_len r1; omega
                  have hlL' : L'.length ≤ 1000 := by have := ris_len r2; omega
                  have HR1 : Hid (∀ K, M.Ris K (· ∈ R) → K = L) := fun K hK => M.ris_unique hK r1 (fun _ => Iff.rfl)
                  have HR2 : Hid (∀ K, M.Ris K (· ∈ W) → K = L') := fun K hK => M.ris_unique hK r2 (fun _ => Iff.rfl)
                  have HF1 : Hid _ := f1
                  have HF2 : Hid _ := f2
                  have sy1 := S1.size
                  have htg := (HTD.out.fresh (Nat.le_trans (Nat.le_refl _) sy1)).2
                  clear hz M1 X1 S1 ow1 ow2 f1 f2 r1 r2
                  go_wp2_with fail
                  obtain ⟨Y, hY⟩ : ∃ Y, y1.alloc (.cells #[.slice fa L.length fc, .slice fa' L'.length fc'] 40) = Y := ⟨_, rfl⟩
                  have a0 : Y.cell? ⟨y1.heap.size, 0, none⟩ = some (.slice fa L.length fc) := by subst hY; exact cell_last _ _ _ _ _ rfl rfl
                  have a1 : Y.cell? ⟨y1.heap.size, 1, none⟩ = some (.slice fa' L'.length fc') := by subst hY; exact cell_last _ _ _ _ _ rfl rfl
                  have bY : Below y1.heap.size y1 Y := by subst hY; exact bl_one _ _
                  have HXY : Hid (RefX w.heap.size Y.drew bx rs2 R W t2) := HX1.out.frame (St.ofBelow (fun _ => 0) bY.drew) (fun _ _ => rfl)
                  try rw [hY]
                  refine wp_region_held_drew (S := (fun w' : World => w'.cell? ⟨y1.heap.size, 0, none⟩ = some (.slice fa L.length fc) ∧ w'.cell? ⟨y1.heap.size, 1, none⟩ = some (.slice fa' L'.length fc'))) (by kernel_rfl) ⟨a0, a1⟩ (fun hHeld => ?_)
                  refine wpAnyH_take (i := 0) (v := ?_) (get0 _ _) (by kernel_rfl) (by kernel_rfl) (by kernel_rfl) (fun _ _ _ h => h) (Or.inl ⟨by rfl, ?_⟩) (by assumption) ?_
                  rotate_left
                  · (intro w hSw; (try dsimp only at hSw); go_simp <;> with_reducible rfl)
                  simp only [Act.put, List.setIfInBounds_toArray, List.set_cons_zero, List.set_cons_succ]
                  refine wpAnyH_take (i := 1) (v := ?_) (get1 (get0 _ _)) (by kernel_rfl) (by kernel_rfl) (by kernel_rfl) (fun _ _ _ h => h) (Or.inl ⟨by rfl, ?_⟩) (by assumption) ?_
                  rotate_left
                  · (intro w hSw; (try dsimp only at hSw); go_simp <;> with_reducible rfl)
                  simp only [Act.put, List.setIfInBounds_toArray, List.set_cons_zero, List.set_cons_succ]
                  refine wpAnyH_ready (rs := [2]) (by kernel_rfl) (by simp) ?_
                  refine AllReadyH.cons (get1 (get1 (get0 _ _))) (fun K hK => ?_) AllReadyH.nil
                  go_simp
                  refine (rfoot_any HXY.out).mono ?_
                  rintro e y2 ⟨va, K1, K2, rfl, s1, s2, FV2, X2, S2⟩
                  have sy : y2.cell? ⟨y1.heap.size, 0, none⟩ = some (.slice fa L.length fc) ∧ y2.cell? ⟨y1.heap.size, 1, none⟩ = some (.slice fa' L'.length fc') := ⟨S2.cell htg hHeld.1, S2.cell htg hHeld.2⟩
                  rw [HR1.out _ s1, HR2.out _ s2] at FV2
                  have HFV2 : Hid _ := FV2
                  have ST2 : St t2 t2 y1 y2 := (St.ofBelow t2 bY.drew).trans S2
                  have HFV1 : Hid (FootV y2 (.agg #[.slice fa L.length fc, .slice fa' L'.length fc']) L L') := foot_own HF1.out HF2.out (ST2.row HO1.out (fun g hg => (HZ.out g hg).2.1)) (ST2.row HO2.out HZ2.out)
                  have HX2 : Hid (RefX w.heap.size y2 bx rs2 [] [] t2) := X2
                  have HST2 : Hid _ := ST2
                  clear hHeld s1 s2 FV2 X2 S2 ST2
                  try go_wp2_with fail
                  refine hK.out _ _ sy (fun hHeld => ?_)
                  clear hK K
                  try simp only [Act.put, List.setIfInBounds_toArray, List.set_cons_zero, List.set_cons_succ]
                  refine wpAnyH_ready (rs := [3]) (by kernel_rfl) (by simp) ?_
                  refine AllReadyH.cons (get1 (get1 (get1 (get0 _ _)))) (fun K hK => ?_) AllReadyH.nil
                  go_simp
                  refine (foot_same HFV1.out HFV2.out hlL hlL').mono ?_
                  rintro e y3 ⟨rfl, hb3⟩
                  have sy : y3.cell? ⟨y1.heap.size, 0, none⟩ = some (.slice fa L.length fc) ∧ y3.cell? ⟨y1.heap.size, 1, none⟩ = some (.slice fa' L'.length fc') := ⟨cell_thruS hb3 hHeld.1, cell_thruS hb3 hHeld.2⟩
                  have ST3 : St t2 t2 y1 y3 := HST2.out.trans (St.ofBelow t2 hb3)
                  have HO3 : Hid (y3.ownsRow Wd.heap.size 2 1 (.slice fa L.length fc) L.length (intsR L)) := ST3.row HO1.out (fun g hg => (HZ.out g hg).2.1)
                  obtain ⟨T3, b3, -⟩ := HTD.out.step HM1.out HS1.out (HX2.out.frame (St.ofBelow (fun _ => 0) hb3) (fun _ _ => rfl)) ST3 HTD.out.ok (by omega) hBd
                  have HT3 : Hid (Two w.heap.size y3 bm bx rs2 [] [] p3 t2) := T3
                  have bb3 : Below w.heap.size w y3 := hbd.trans b3
                  clear hHeld hb3 ST3 T3 b3
                  try go_wp2_with fail
                  refine hK.out _ _ sy (fun hHeld => ?_)
                  clear hK K
                  try simp only [Act.put, List.setIfInBounds_toArray, List.set_cons_zero, List.set_cons_succ]
                  refine wpAnyH_take (i := 4) (v := ?_) (get1 (get1 (get1 (get1 (get0 _ _))))) (by kernel_rfl) (by kernel_rfl) (by kernel_rfl) (fun _ _ _ h => h) (Or.inl ⟨by rfl, ?_⟩) (by assumption) ?_
                  rotate_left
                  · (intro w hSw; (try dsimp only at hSw); go_simp <;> with_reducible rfl)
                  simp only [Act.put, List.setIfInBounds_toArray, List.set_cons_zero, List.set_cons_succ]
                  refine wpAnyH_done (by kernel_rfl) ?_ _
                  have HGA : Hid (∀ wq : World, St (fun k => if (Value.slice fa L.length fc).ownBlock = some k then 1 else 0) (fun k => if (Value.slice fa L.length fc).ownBlock = some k then 1 else 0) y3 wq → wq.cell? ⟨y1.heap.size, 0, none⟩ = some (.slice fa L.length fc)) := fun wq hs => hs.cell (if_neg (fun e => by have := (HZ.out _ e).2.2.2; omega)) hHeld.1
                  clear hHeld sy HXY bY a0 a1 HX1 HX2 HST2 HFV1 HFV2 HM1 HS1 HO1 HO2 HR1 HR2 HZ2 hB1 bb1 htg
                  go_wp2_with fail
                  clear HTD hfr sd bd hbd hBd o0 o1 o2 HT hb
                  try clear g1
                  try clear g2
                  generalize wr = w5 at *
                  go_loopg [16] L.length (fun r jv wq => ∃ (j : Nat) (zs : List Int), jv = .int .i64 j ∧ j ≤ L.length ∧ L.length - j ≤ r ∧ Hid (wq.ownsRow Wd.heap.size 2 1 (.slice fa L.length fc) L.length (intsR zs)) ∧ Hid (St (fun k => if (Value.slice fa L.length fc).ownBlock = some k then 1 else 0) (fun k => if (Value.slice fa L.length fc).ownBlock = some k then 1 else 0) y3 wq))
                  case atStart => exact ⟨0, L, rfl, Nat.zero_le _, by omega, HO3.out, St.ofBelow _ (Below.refl _ _)⟩
                  case round =>
                    obtain ⟨j, zs, rfl, hj, hr5, HO, HS⟩ := hrel
                    have c0 := HGA.out wr HS.out
                    by_cases hjt : j < L.length
                    · obtain ⟨g, hfa, hwc, hwf, HP⟩ := row_put HO.out j hjt (-7)
                      have HP2 : Hid _ := HP
                      have HS2 : Hid (St (fun k => if (Value.slice fa L.length fc).ownBlock = some k then 1 else 0) (fun k => if (Value.slice fa L.length fc).ownBlock = some k then 1 else 0) y3 (wr.setCell ⟨g, j, none⟩ (.int .i64 (-7)))) := HS.out.trans (St.ofGrown _ (gb_set wr ⟨g, j, none⟩ _) (by subst hfa; simp [Value.ownBlock]))
                      have hjj : (j : Int) < L.length := by omega
                      have hjn : 0 ≤ (j : Int) := by omega
                      generalize zs.getD j 0 = wv at *
                      subst hfa
                      clear HP
                      go_wp2_with fail
                      go_roundg (L.length - (j + 1))
                      case measure => omega
                      case rel => exact ⟨j + 1, _, by first | rfl | (congr 1; omega), by omega, Nat.le_refl _, HP2.out, HS2.out⟩
                    · have hje : j = L.length := by omega
                      subst hje
                      have HNX : Hid (Two w.heap.size wr bm bx rs2 [] [] p3 t2) := HT3.out.other HS.out (fun k hk => by
                        by_cases cc : (Value.slice fa L.length fc).ownBlock = some k
                        · exact absurd (HZ.out k cc).1 hk
                        · simp [cc]) (fun k hk => by
                        by_cases cc : (Value.slice fa L.length fc).ownBlock = some k
                        · exact absurd (HZ.out k cc).2.1 hk
                        · simp [cc])
                      have bb5 : Below w.heap.size w wr := bb3.trans (HS.out.toBelow (fun k hk => by
                        by_cases cc : (Value.slice fa L.length fc).ownBlock = some k
                        · have := (HZ.out k cc).2.2.1; omega
                        · simp [cc] at hk) bb3.size)
                      go_wp2_with fail
                      go_roundg (olen - (c + 1))
                      case measure => omega
                      case rel => exact ⟨c + 1, rs2, [], [], p3, t2, by first | rfl | (congr 1; omega), by omega, by omega, Nat.le_refl _, by first | (simp; done) | omega, by first | (simp; done) | omega, HNX.out, bb5⟩
                · go_wp2_with fail
                  obtain ⟨Wd, hWd⟩ : ∃ Wd, (wr.alloc (.cells #[.int .i64 3, .int .i64 x, .int .i64 n] 37)) = Wd := ⟨_, rfl⟩
                  have bd : Below wr.heap.size wr Wd := by subst hWd; exact bl_one _ _
                  have sd : Wd.heap.size = wr.heap.size + 1 := by subst hWd; simp
                  have g1 : Wd.cell? ⟨wr.heap.size, 1, none⟩ = some (.int .i64 x) := by subst hWd; exact cell_last _ _ _ _ _ rfl rfl
                  have g2 : Wd.cell? ⟨wr.heap.size, 2, none⟩ = some (.int .i64 n) := by subst hWd; exact cell_last _ _ _ _ _ rfl rfl
                  have HTD : Hid (Two w.heap.size Wd bm bx rs2 R W p2 t2) := HT.out.below bd
                  have hbd : Below w.heap.size w Wd := hb.trans (bd.mono hb.size)
                  have hBd : w.heap.size ≤ Wd.heap.size := hbd.size
                  try rw [hWd]
                  refine (mwords_any HTD.out.m HTD.out.ok (fun i hi => wf_ok HTD.out.ok hi) n).mono ?_
                  rintro e y1 ⟨fa, L, fc, rfl, A1, hlL, f1, ow1, hb1⟩
                  have HT1 : Hid (Two w.heap.size y1 bm bx rs2 R W p2 t2) := HTD.out.below hb1
                  have j2 := cell_thruS hb1 g2
                  have HZ : Hid (∀ g, (Value.slice fa L.length fc).ownBlock = some g → p2 g = 0 ∧ t2 g = 0 ∧ w.heap.size ≤ g ∧ g < y1.heap.size) := fun g hg => ⟨(HTD.out.fresh (ow1.lt g hg).1).1, (HTD.out.fresh (ow1.lt g hg).1).2, by have := (ow1.lt g hg).1; omega, (ow1.lt g hg).2⟩
                  have HO1 : Hid (y1.ownsRow Wd.heap.size 2 1 (.slice fa L.length fc) L.length (intsR L)) := ow1
                  have HA1 : Hid _ := A1
                  have HF1 : Hid _ := f1
                  have bb1 : Below w.heap.size w y1 := hbd.trans (hb1.mono hbd.size)
                  clear ow1 f1 A1 hb1
                  go_wp2_with fail
                  refine (rwords_any HT1.out.x (fun i hi => wf_ok HT1.out.ok hi) n).mono ?_
                  rintro e y2 ⟨ga, K, gc, rfl, A2, V2, hb2⟩
                  have eK := WdA.uniq A2 HA1.out
                  subst eK
                  obtain ⟨_, _, ev, V1⟩ := view_own HF1.out (own_kept HO1.out hb2)
                  cases ev
                  have HV1 : Hid _ := V1
                  have HV2 : Hid _ := V2
                  have HT2 : Hid (Two w.heap.size y2 bm bx rs2 R W p2 t2) := HT1.out.below hb2
                  have HO2 : Hid (y2.ownsRow Wd.heap.size 2 1 (.slice fa K.length fc) K.length (intsR K)) := own_kept HO1.out hb2
                  have bb2 : Below w.heap.size w y2 := bb1.trans (hb2.mono bb1.size)
                  clear V1 V2 hb2 j2 A2
                  go_wp2_with fail
                  refine (list_same HV1.out HV2.out (by omega) (by omega)).mono ?_
                  rintro e y3 ⟨rfl, hb3⟩
                  have HT3 : Hid (Two w.heap.size y3 bm bx rs2 R W p2 t2) := HT2.out.below hb3
                  have HO3 : Hid (y3.ownsRow Wd.heap.size 2 1 (.slice fa K.length fc) K.length (intsR K)) := own_kept HO2.out hb3
                  have bb3 : Below w.heap.size w y3 := bb2.trans (hb3.mono bb2.size)
                  clear hb3 HT1 HT2 HO1 HO2 HV1 HV2 bb1 bb2 HA1
                  go_wp2_with fail
                  clear HTD hfr sd bd hbd hBd o0 o1 o2 HT hb
                  try clear g1
                  try clear g2
                  generalize wr = w5 at *
                  go_loopg [18] K.length (fun r jv wq => ∃ (j : Nat) (zs : List Int), jv = .int .i64 j ∧ j ≤ K.length ∧ K.length - j ≤ r ∧ Hid (wq.ownsRow Wd.heap.size 2 1 (.slice fa K.length fc) K.length (intsR zs)) ∧ Hid (St (fun k => if (Value.slice fa K.length fc).ownBlock = some k then 1 else 0) (fun k => if (Value.slice fa K.length fc).ownBlock = some k then 1 else 0) y3 wq))
                  case atStart => exact ⟨0, K, rfl, Nat.zero_le _, by omega, HO3.out, St.ofBelow _ (Below.refl _ _)⟩
                  case round =>
                    obtain ⟨j, zs, rfl, hj, hr5, HO, HS⟩ := hrel
                    by_cases hjt : j < K.length
                    · obtain ⟨g, hfa, hwc, hwf, HP⟩ := row_put HO.out j hjt (-7)
                      have HP2 : Hid _ := HP
                      have HS2 : Hid (St (fun k => if (Value.slice fa K.length fc).ownBlock = some k then 1 else 0) (fun k => if (Value.slice fa K.length fc).ownBlock = some k then 1 else 0) y3 (wr.setCell ⟨g, j, none⟩ (.int .i64 (-7)))) := HS.out.trans (St.ofGrown _ (gb_set wr ⟨g, j, none⟩ _) (by subst hfa; simp [Value.ownBlock]))
                      have hjj : (j : Int) < K.length := by omega
                      have hjn : 0 ≤ (j : Int) := by omega
                      generalize zs.getD j 0 = wv at *
                      subst hfa
                      clear HP
                      go_wp2_with fail
                      go_roundg (K.length - (j + 1))
                      case measure => omega
                      case rel => exact ⟨j + 1, _, by first | rfl | (congr 1; omega), by omega, Nat.le_refl _, HP2.out, HS2.out⟩
                    · have hje : j = K.length := by omega
                      subst hje
                      have HNX : Hid (Two w.heap.size wr bm bx rs2 R W p2 t2) := HT3.out.other HS.out (fun k hk => by
                        by_cases cc : (Value.slice fa K.length fc).ownBlock = some k
                        · exact absurd (HZ.out k cc).1 hk
                        · simp [cc]) (fun k hk => by
                        by_cases cc : (Value.slice fa K.length fc).ownBlock = some k
                        · exact absurd (HZ.out k cc).2.1 hk
                        · simp [cc])
                      have bb5 : Below w.heap.size w wr := bb3.trans (HS.out.toBelow (fun k hk => by
                        by_cases cc : (Value.slice fa K.length fc).ownBlock = some k
                        · have := (HZ.out k cc).2.2.1; omega
                        · simp [cc] at hk) bb3.size)
                      go_wp2_with fail
                      go_roundg (olen - (c + 1))
                      case measure => omega
                      case rel => exact ⟨c + 1, rs2, R, W, p2, t2, by first | rfl | (congr 1; omega), by omega, by omega, Nat.le_refl _, by first | (simp; done) | omega, by first | (simp; done) | omega, HNX.out, bb5⟩
                · go_wp2_with fail
                  obtain ⟨Wd, hWd⟩ : ∃ Wd, (wr.alloc (.cells #[.int .i64 d, .int .i64 x, .int .i64 n] 37)) = Wd := ⟨_, rfl⟩
                  have bd : Below wr.heap.size wr Wd := by subst hWd; exact bl_one _ _
                  have sd : Wd.heap.size = wr.heap.size + 1 := by subst hWd; simp
                  have g1 : Wd.cell? ⟨wr.heap.size, 1, none⟩ = some (.int .i64 x) := by subst hWd; exact cell_last _ _ _ _ _ rfl rfl
                  have g2 : Wd.cell? ⟨wr.heap.size, 2, none⟩ = some (.int .i64 n) := by subst hWd; exact cell_last _ _ _ _ _ rfl rfl
                  have HTD : Hid (Two w.heap.size Wd bm bx rs2 R W p2 t2) := HT.out.below bd
                  have hbd : Below w.heap.size w Wd := hb.trans (bd.mono hb.size)
                  have hBd : w.heap.size ≤ Wd.heap.size := hbd.size
                  try rw [hWd]
                  refine (mload_any HTD.out.m HTD.out.ok x HX.out (by omega) hBd).mono ?_
                  rintro e y1 ⟨v1, f1, R3, rfl, A1, M1, S1⟩
                  obtain ⟨X1, hB1, bb1⟩ := HTD.out.one S1 hBd
                  have HM1 : Hid (MemX w.heap.size y1 bm rs2 R3 W p2) := M1
                  have HX1 : Hid (RefX w.heap.size y1 bx rs2 R W t2) := X1
                  have HS1 : Hid (St p2 p2 Wd y1) := S1
                  have HA1 : Hid _ := A1
                  have j1 := S1.cell hfr.1 g1
                  clear M1 X1 S1 A1 g1 g2
                  go_wp2_with fail
                  refine (rload_any HX1.out HTD.out.ok x HX.out (by omega) (by omega) hB1).mono ?_
                  rintro e y2 ⟨v2, f2, R4, t4, rfl, A2, X2, S2⟩
                  obtain ⟨u1, u2, u3⟩ := LdA.uniq HA1.out A2
                  subst u1 u2 u3
                  have hr3 := A2.len
                  obtain ⟨T2, b2, -⟩ := HTD.out.step HM1.out HS1.out X2 S2 HTD.out.ok (by omega) hBd
                  have HNX : Hid (Two w.heap.size y2 bm bx rs2 R3 W p2 t4) := T2
                  have bb2 : Below w.heap.size w y2 := hbd.trans b2
                  clear X2 S2 A2 T2 b2 j1
                  go_wp2_with fail
                  go_roundg (olen - (c + 1))
                  case measure => omega
                  case rel => exact ⟨c + 1, rs2, R3, W, p2, t4, by first | rfl | (congr 1; omega), by omega, by omega, Nat.le_refl _, by omega, by omega, HNX.out, bb2⟩
              · by_cases hco : c < olen
                · have hc8 : c = 80 := by omega
                  subst hc8
                  have hci : ((80 : Nat) : Int) < olen := by omega
                  go_wp2_with fail
                  refine (mfoot_any HT.out.m (by omega) (by omega) hb.size).mono ?_
                  rintro e y1 ⟨fa, fc, L, fa', fc', L', p3, rfl, r1, r2, f1, f2, ow1, ow2, hz, M1, S1⟩
                  obtain ⟨X1, hB1, bb1⟩ := HT.out.one S1 hb.size
                  have HX1 : Hid (RefX w.heap.size y1 bx rs2 R W t2) := X1
                  have hlL : L.length ≤ 1000 := by have := ris_len r1; omega
                  have hlL' : L'.length ≤ 1000 := by have := ris_len r2; omega
                  have HZ1 : Hid (∀ g, (Value.slice fa L.length fc).ownBlock = some g → t2 g = 0) := fun g hg => (HT.out.fresh (ow1.lt g hg).1).2
                  have HZ2 : Hid (∀ g, (Value.slice fa' L'.length fc').ownBlock = some g → t2 g = 0) := fun g hg => (HT.out.fresh (ow2.lt g hg).1).2
                  have HO1 : Hid (y1.ownsRow wr.heap.size 2 1 (.slice fa L.length fc) L.length (intsR L)) := ow1
                  have HO2 : Hid (y1.ownsRow wr.heap.size 2 1 (.slice fa' L'.length fc') L'.length (intsR L')) := ow2
                  have HR1 : Hid (∀ K, M.Ris K (· ∈ R) → K = L) := fun K hK => M.ris_unique hK r1 (fun _ => Iff.rfl)
                  have HR2 : Hid (∀ K, M.Ris K (· ∈ W) → K = L') := fun K hK => M.ris_unique hK r2 (fun _ => Iff.rfl)
                  have HF1 : Hid _ := f1
                  have HF2 : Hid _ := f2
                  have bq1 : Below w.heap.size w y1 := hb.trans bb1
                  clear hz M1 X1 S1 ow1 ow2 f1 f2 r1 r2 bb1
                  go_wp2_with fail
                  refine (rfoot_any HX1.out).mono ?_
                  rintro e y2 ⟨va, K1, K2, rfl, s1, s2, FV2, X2, S2⟩
                  rw [HR1.out _ s1, HR2.out _ s2] at FV2
                  have HFV2 : Hid _ := FV2
                  have HFV1 : Hid (FootV y2 (.agg #[.slice fa L.length fc, .slice fa' L'.length fc']) L L') := foot_own HF1.out HF2.out (S2.row HO1.out HZ1.out) (S2.row HO2.out HZ2.out)
                  have bq2 : Below w.heap.size w y2 := bq1.trans (S2.toBelow (fun k hk => (HX1.out.lt k hk).1) bq1.size)
                  clear FV2 X2 S2 s1 s2
                  go_wp2_with fail
                  refine (foot_same HFV1.out HFV2.out hlL hlL').mono ?_
                  rintro e y3 ⟨rfl, hb3⟩
                  have bq3 : Below w.heap.size w y3 := bq2.trans (hb3.mono bq2.size)
                  clear hb3
                  go_wp2_with (go_at_call 8; refine (live_any _).mono ?_; rintro e v ⟨rfl, hbv⟩)
                  go_ret
                  exact ⟨rfl, bq3.trans (hbv.mono bq3.size)⟩
                · have hce : c = olen := by omega
                  subst hce
                  go_wp2_with fail
                  refine (mfoot_any HT.out.m (by omega) (by omega) hb.size).mono ?_
                  rintro e y1 ⟨fa, fc, L, fa', fc', L', p3, rfl, r1, r2, f1, f2, ow1, ow2, hz, M1, S1⟩
                  obtain ⟨X1, hB1, bb1⟩ := HT.out.one S1 hb.size
                  have HX1 : Hid (RefX w.heap.size y1 bx rs2 R W t2) := X1
                  have hlL : L.length ≤ 1000 := by have := ris_len r1; omega
                  have hlL' : L'.length ≤ 1000 := by have := ris_len r2; omega
                  have HZ1 : Hid (∀ g, (Value.slice fa L.length fc).ownBlock = some g → t2 g = 0) := fun g hg => (HT.out.fresh (ow1.lt g hg).1).2
                  have HZ2 : Hid (∀ g, (Value.slice fa' L'.length fc').ownBlock = some g → t2 g = 0) := fun g hg => (HT.out.fresh (ow2.lt g hg).1).2
                  have HO1 : Hid (y1.ownsRow wr.heap.size 2 1 (.slice fa L.length fc) L.length (intsR L)) := ow1
                  have HO2 : Hid (y1.ownsRow wr.heap.size 2 1 (.slice fa' L'.length fc') L'.length (intsR L')) := ow2
                  have HR1 : Hid (∀ K, M.Ris K (· ∈ R) → K = L) := fun K hK => M.ris_unique hK r1 (fun _ => Iff.rfl)
                  have HR2 : Hid (∀ K, M.Ris K (· ∈ W) → K = L') := fun K hK => M.ris_unique hK r2 (fun _ => Iff.rfl)
                  have HF1 : Hid _ := f1
                  have HF2 : Hid _ := f2
                  have bq1 : Below w.heap.size w y1 := hb.trans bb1
                  clear hz M1 X1 S1 ow1 ow2 f1 f2 r1 r2 bb1
                  go_wp2_with fail
                  refine (rfoot_any HX1.out).mono ?_
                  rintro e y2 ⟨va, K1, K2, rfl, s1, s2, FV2, X2, S2⟩
                  rw [HR1.out _ s1, HR2.out _ s2] at FV2
                  have HFV2 : Hid _ := FV2
                  have HFV1 : Hid (FootV y2 (.agg #[.slice fa L.length fc, .slice fa' L'.length fc']) L L') := foot_own HF1.out HF2.out (S2.row HO1.out HZ1.out) (S2.row HO2.out HZ2.out)
                  have bq2 : Below w.heap.size w y2 := bq1.trans (S2.toBelow (fun k hk => (HX1.out.lt k hk).1) bq1.size)
                  clear FV2 X2 S2 s1 s2
                  go_wp2_with fail
                  refine (foot_same HFV1.out HFV2.out hlL hlL').mono ?_
                  rintro e y3 ⟨rfl, hb3⟩
                  have bq3 : Below w.heap.size w y3 := bq2.trans (hb3.mono bq2.size)
                  clear hb3
                  go_wp2_with (go_at_call 8; refine (live_any _).mono ?_; rintro e v ⟨rfl, hbv⟩)
                  go_ret
                  exact ⟨rfl, bq3.trans (hbv.mono bq3.size)⟩

end Go.Proofs.Ytfkpbmopneleiaa

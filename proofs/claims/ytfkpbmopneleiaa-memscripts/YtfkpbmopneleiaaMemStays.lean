/- What is stored is what is loaded, and the rest stays. -/
import Derived.Test.YtfkpbmopneleiaaMemLive
import Derived.Test.YtfkpbmopneleiaaMemStaysMath
import Derived.Deep.QuietTactic
import Derived.BigQuiet
import Derived.Deep.LoopGhost
namespace Go.Proofs.Ytfkpbmopneleiaa
open Go.RowKit Go.Maps
set_option linter.unusedVariables false

theorem bl_drewNM {B : Nat} {x y : World} (h : Below B x y) (m : Nat) : Below B x (y.drewN m) := ⟨h.os, h.tape, h.output, h.size, h.block⟩
theorem may_allok {rs : List Reg} (h : may rs = true) : rs.length ≤ 16 ∧ AllOk rs := by
  unfold may at h
  simp only [Bool.and_eq_true, decide_eq_true_eq, List.all_eq_true, List.mem_range] at h
  exact ⟨h.1, fun i hi => okAt_reg rs i (h.2 i hi)⟩
theorem RegsV.below {w w' : World} {a : Option Addr} {len cap : Nat} {rs : List Reg} (h : RegsV w a len cap rs) (hb : Below w.heap.size w w') : RegsV w' a len cap rs := by
  refine ⟨h.count, h.room, h.capOk, h.fits, ?_⟩
  rcases h.cells with h0 | ⟨b, off, hA, hc⟩
  · exact .inl h0
  · refine .inr ⟨b, off, hA, fun i hi => ?_⟩
    obtain ⟨a1, l1, c1, k0, k1, k2, V1⟩ := hc i hi
    have hbl : b < w.heap.size := World.block_lt_of_cell? w ⟨b, off + i * 3, none⟩ k0
    exact ⟨a1, l1, c1, (hb.cell (p := ⟨b, off + i * 3, none⟩) hbl).trans k0, (hb.cell (p := ⟨b, off + i * 3 + 1, none⟩) hbl).trans k1, (hb.cell (p := ⟨b, off + i * 3 + 2, none⟩) hbl).trans k2, V1.below hb⟩

set_option maxRecDepth 100000 in
set_option maxHeartbeats 8000000 in
theorem stays_any {w : World} {a : Option Addr} {len cap : Nat} {rs : List Reg} {x y n : Int} (h : RegsV w a len cap rs) (hfit : ∀ r ∈ rs, ∀ n ∈ r.words, (Lit.int .i64 n).wf = true) (hx : (Lit.int .i64 x).wf = true) (hy : (Lit.int .i64 y).wf = true) (hn : (Lit.int .i64 n).wf = true) :
    Calls Try.prog 4 #[.agg #[.slice a len cap, .int .i64 x, .int .i64 y, .int .i64 n]] w fun e w' => e = .returned (.bool true) ∧ Below w.heap.size w w' := by
  have hcnt := h.count
  have hroom := h.room
  have hcap := h.capOk
  have HV : Hid _ := h
  have HFI : Hid _ := hfit
  have HX : Hid _ := hx
  have HY : Hid _ := hy
  have HN : Hid _ := hn
  clear h hfit hx hy hn
  go_enter Try.func4, Try.ntmps4
  go_wp2_with fail
  go_quiet (fail)
  go_wp2_with fail
  go_loopg [7] len (fun r kv wr => ∃ (k : Nat), kv = .int .i64 k ∧ k ≤ len ∧ len - k ≤ r ∧ Hid (∀ i, i < k → (rs.getD i noReg).words.length ≤ 2000) ∧ Below w.heap.size w wr)
  case atStart => exact ⟨0, rfl, Nat.zero_le _, by omega, (fun i hi => by omega : ∀ i, i < 0 → (rs.getD i noReg).words.length ≤ 2000), bl_drewNM (bl_one _ _) _⟩
  case round =>
    obtain ⟨k, rfl, hk, hr, HL, hb⟩ := hrel
    by_cases hlt : k < len
    · rcases HV.out.cells with h0 | ⟨b, off, hA, hc⟩
      · omega
      obtain ⟨a1, l1, c1, k0, k1, k2, V1⟩ := hc k hlt
      have hbl : b < w.heap.size := World.block_lt_of_cell? w ⟨b, off + k * 3, none⟩ k0
      have q1 := (hb.cell (p := ⟨b, off + k * 3 + 1, none⟩) hbl).trans k1
      have HC : Hid _ := V1.count
      subst hA
      clear hc k0 k1 k2 V1
      by_cases hl : (2000 : Int) < l1
      · go_wp2_with (go_at_call 8; refine (live_any _).mono ?_; rintro e v ⟨rfl, hbv⟩)
        go_ret
        exact ⟨rfl, hb.trans (hbv.mono hb.size)⟩
      · go_wp2_with fail
        go_roundg (len - (k + 1))
        case measure => omega
        case rel => exact ⟨k + 1, by first | rfl | (congr 1; omega), by omega, Nat.le_refl _, (fun i hi => by
          rcases Nat.lt_or_ge i k with c | c
          · exact HL.out i c
          · obtain rfl : i = k := by omega
            rw [HC.out]; omega : ∀ i, i < k + 1 → (rs.getD i noReg).words.length ≤ 2000), hb⟩
    · obtain rfl : k = len := by omega
      cases hm : may rs with
      | false =>
        have HM : Hid _ := hm
        clear hm
        go_wp2_with (first | (go_at_call 8; refine (live_any _).mono ?_; rintro e v ⟨rfl, hbv⟩) | (go_at_call 10; refine (new_no (HV.out.below hb) HM.out).mono ?_; rintro e w1 ⟨rfl, hb1⟩))
        go_ret
        exact ⟨rfl, (hb.trans (hb1.mono hb.size)).trans (hbv.mono (Nat.le_trans hb.size hb1.size))⟩
      | true =>
        obtain ⟨h16, hok⟩ := may_allok hm
        have HM : Hid _ := hm
        have HOK : Hid _ := hok
        clear hm hok
        go_wp2_with fail
        refine (new_yes (HV.out.below hb) HM.out (by omega) (fun i hi => by have := HL.out i hi; omega) HFI.out).mono ?_
        rintro e w1 ⟨bm, br, bw, lv, bs, rfl, hmv, hb1⟩
        have H1 : Hid _ := hmv
        have q1 : Below w.heap.size w w1 := hb.trans (hb1.mono hb.size)
        have z1 := hb1.size
        clear hb1 hmv
        go_wp2_with fail
        refine (load_ans H1.out HOK.out y HY.out (by decide) z1).mono ?_
        rintro e w2 ⟨hb2, va, vf, R2, n2, rfl, A1, hn2, hmv⟩
        have H2 : Hid _ := hmv
        have HA1 : Hid _ := A1
        have q2 : Below w.heap.size w w2 := q1.trans (hb2.mono hb.size)
        have z2 := Nat.le_trans z1 hb2.size
        clear hb2 hmv A1
        go_wp2_with fail
        refine (store_ans H2.out HOK.out x n HX.out HN.out (by decide) z2).mono ?_
        rintro e w3 ⟨hb3, vg, rs', W3, n3, rfl, A2, ok3, hn3, hmv⟩
        have H3 : Hid _ := hmv
        have HA2 : Hid _ := A2
        have HOK3 : Hid _ := ok3
        have q3 : Below w.heap.size w w3 := q2.trans (hb3.mono hb.size)
        have z3 := Nat.le_trans z2 hb3.size
        clear hb3 hmv A2 ok3
        go_wp2_with fail
        refine (load_ans H3.out HOK3.out y HY.out (by unfold maxLen; omega) z3).mono ?_
        rintro e w4 ⟨hb4, vb, vh, R4, n4, rfl, A3, hn4, hmv⟩
        have H4 : Hid _ := hmv
        have HA3 : Hid _ := A3
        have q4 : Below w.heap.size w w4 := q3.trans (hb4.mono hb.size)
        have z4 := Nat.le_trans z3 hb4.size
        clear hb4 hmv A3
        go_wp2_with fail
        refine (load_ans H4.out HOK3.out x HX.out (by unfold maxLen; omega) z4).mono ?_
        rintro e w5 ⟨hb5, vd, vk, R5, n5, rfl, A4, hn5, -⟩
        have q5 : Below w.heap.size w w5 := q4.trans (hb5.mono hb.size)
        obtain ⟨s1, s2, s3⟩ := stays HOK.out HA1.out HA2.out HA3.out A4
        clear hb5 A4 HA1 HA2 HA3 H1 H2 H3 H4 q1 q2 q3 q4 z1 z2 z3 z4
        subst s1
        by_cases g0 : vg = 0
        · obtain ⟨rfl, rfl⟩ := s2 g0
          subst g0
          by_cases hxy : x = y
          · clear s2 s3
            go_wp2_with (go_at_call 8; refine (live_any _).mono ?_; rintro e v ⟨rfl, hbv⟩)
            go_ret
            exact ⟨rfl, q5.trans (hbv.mono q5.size)⟩
          · obtain rfl := s3 hxy
            clear s2 s3
            go_wp2_with (go_at_call 8; refine (live_any _).mono ?_; rintro e v ⟨rfl, hbv⟩)
            go_ret
            exact ⟨rfl, q5.trans (hbv.mono q5.size)⟩
        · clear s2
          by_cases hxy : x = y
          · clear s3
            go_wp2_with (go_at_call 8; refine (live_any _).mono ?_; rintro e v ⟨rfl, hbv⟩)
            go_ret
            exact ⟨rfl, q5.trans (hbv.mono q5.size)⟩
          · obtain rfl := s3 hxy
            clear s3
            go_wp2_with (go_at_call 8; refine (live_any _).mono ?_; rintro e v ⟨rfl, hbv⟩)
            go_ret
            exact ⟨rfl, q5.trans (hbv.mono q5.size)⟩

end Go.Proofs.Ytfkpbmopneleiaa

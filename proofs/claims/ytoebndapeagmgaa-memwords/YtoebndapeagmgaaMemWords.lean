/- A region's words are what Load tells. -/
import Derived.Test.YtoebndapeagmgaaMemWordsMath
namespace Go.Proofs.Ytoebndapeagmgaa
open Go.RowKit Go.Maps
set_option linter.unusedVariables false

theorem words_yes2 {B : Nat} {w : World} {bm : Nat} {rs : List Reg} {R W : List Int} {br bw nr nw : Nat} {lv : Value} {bs : List Nat} (h : MemV B w bm rs R W br bw nr nw lv bs) (i : Nat) (hi : i < rs.length) {ws : List Int} (hws : (rs.getD i noReg).words = ws) {l : Nat} (hl1 : ws.length = l) (hl : l ≤ 65536) :
    Calls Try.prog 17 #[.pointer (some ⟨bm, 0, none⟩), .int .i64 i] w fun e w' => e = .returned (.slice (some ⟨w.heap.size, 0, none⟩) l l) ∧ w'.heap[w.heap.size]? = some (.cells (ws.map (Value.int .i64)).toArray 2 (0, 0)) ∧ Below w.heap.size w w' := by
  subst hl1 hws
  exact words_yes h i hi hl

set_option maxRecDepth 100000 in
set_option maxHeartbeats 8000000 in
theorem wordslaw_any {w : World} {a : Option Addr} {len cap : Nat} {rs : List Reg} {z : Int} (h : RegsV w a len cap rs) (hfit : ∀ r ∈ rs, ∀ n ∈ r.words, (Lit.int .i64 n).wf = true) :
    Calls Try.prog 7 #[.slice a len cap, .int .i64 z] w fun e w' => e = .returned (.bool true) ∧ Below w.heap.size w w' := by
  have hcnt := h.count
  have hroom := h.room
  have hcap := h.capOk
  have HV : Hid _ := h
  have HFI : Hid _ := hfit
  clear h hfit
  go_enter Try.func7, Try.ntmps7
  go_wp2_with fail
  go_loopg [5] len (fun r kv wr => ∃ (k : Nat), kv = .int .i64 k ∧ k ≤ len ∧ len - k ≤ r ∧ Hid (∀ i, i < k → (rs.getD i noReg).words.length ≤ 2000) ∧ Below w.heap.size w wr)
  case atStart => exact ⟨0, rfl, Nat.zero_le _, by omega, (fun i hi => by omega : ∀ i, i < 0 → (rs.getD i noReg).words.length ≤ 2000), Below.refl _ _⟩
  case round =>
    obtain ⟨k, rfl, hk, hr, HL, hb⟩ := hrel
    by_cases hlt : k < len
    · rcases HV.out.cells with h0 | ⟨b, off, hA, hc⟩
      · omega
      obtain ⟨a1, l1, c1, k0, k1, k2, V1⟩ := hc k hlt
      have hbl : b < w.heap.size := World.block_lt_of_cell? w ⟨b, off + k * 3, none⟩ k0
      have q1 := (hb.cell (p := ⟨b, off + k * 3 + 1, none⟩) hbl).trans k1
      have HC : Hid _ := V1.count
      subst hA
      clear hc k0 k1 k2 V1
      by_cases hl : (2000 : Int) < l1
      · go_wp2_with (go_at_call 8; refine (live_any _).mono ?_; rintro e v ⟨rfl, hbv⟩)
        go_ret
        exact ⟨rfl, hb.trans (hbv.mono hb.size)⟩
      · go_wp2_with fail
        go_roundg (len - (k + 1))
        case measure => omega
        case rel => exact ⟨k + 1, by first | rfl | (congr 1; omega), by omega, Nat.le_refl _, (fun i hi => by
          rcases Nat.lt_or_ge i k with c | c
          · exact HL.out i c
          · obtain rfl : i = k := by omega
            rw [HC.out]; omega : ∀ i, i < k + 1 → (rs.getD i noReg).words.length ≤ 2000), hb⟩
    · obtain rfl : k = len := by omega
      cases hm : may rs with
      | false =>
        have HM : Hid _ := hm
        clear hm
        go_wp2_with (first | (go_at_call 8; refine (live_any _).mono ?_; rintro e v ⟨rfl, hbv⟩) | (go_at_call 10; refine (new_no (HV.out.below hb) HM.out).mono ?_; rintro e w1 ⟨rfl, hb1⟩))
        go_ret
        exact ⟨rfl, (hb.trans (hb1.mono hb.size)).trans (hbv.mono (Nat.le_trans hb.size hb1.size))⟩
      | true =>
        obtain ⟨h16, hok⟩ := may_allok hm
        have HM : Hid _ := hm
        have HOK : Hid _ := hok
        clear hm hok
        go_wp2_with fail
        refine (new_yes (HV.out.below hb) HM.out (by omega) (fun i hi => by have := HL.out i hi; omega) HFI.out).mono ?_
        rintro e w1 ⟨bm, br, bw, lv, bs, rfl, hmv, hb1⟩
        have H1 : Hid _ := hmv
        have q1 : Below w.heap.size w w1 := hb.trans (hb1.mono hb.size)
        have z1 := hb1.size
        clear hb1 hmv
        by_cases hz : 0 ≤ z ∧ z < k
        · obtain ⟨hz0, hz1⟩ := hz
          obtain ⟨i, rfl⟩ : ∃ i : Nat, z = i := ⟨z.toNat, by omega⟩
          have hir : i < rs.length := by omega
          have hil : i < k := by omega
          have HLOC : Hid _ := fun (j : Nat) (hj : j < (rs.getD i noReg).words.length) => loc_of HM.out hir hj
          have hbd := regOk_bd _ (HOK.out i hir)
          have HWA : Hid (∀ j, wordAt rs i j = (rs.getD i noReg).words.getD j 0) := fun j => rfl
          rcases HV.out.cells with h0 | ⟨b, off, hA, hc⟩
          · omega
          obtain ⟨a1, l1, c1, k0, k1, k2, V1⟩ := hc i hil
          have hbl : b < w.heap.size := World.block_lt_of_cell? w ⟨b, off + i * 3, none⟩ k0
          have HK0 : Hid _ := k0
          have HK1 : Hid _ := k1
          have hl1 := V1.count
          have hl2 : l1 ≤ 2000 := by have := HL.out i hil; rw [V1.count] at this; exact this
          subst hA
          clear hc k0 k1 k2 V1
          generalize (rs.getD i noReg).base = rb at *
          generalize hws : (rs.getD i noReg).words = ws at *
          have HWS : Hid _ := hws
          obtain ⟨hb0, hb40, -⟩ := hbd
          have HL1 : Hid _ := hl1
          clear hl1 hws
          go_wp2_with fail
          refine (words_yes2 H1.out i hir HWS.out HL1.out (by omega)).mono ?_
          rintro e w2 ⟨rfl, hg2, hb2⟩
          have H2 : Hid _ := H1.out.below hb2
          have q2 : Below w.heap.size w w2 := q1.trans (hb2.mono q1.size)
          have z2 := Nat.le_trans z1 hb2.size
          have zb : bm < w1.heap.size := H1.out.lt.1
          have G2 : Hid _ := hg2
          have zq := heap_lt hg2
          clear hb2 hg2 HWS
          go_wp2_with fail
          refine (foot_far H2.out z2 (by omega) (by omega)).mono ?_
          rintro e w3 ⟨fa, fc, L, fa', fc', L', x, y, rfl, r1, r2, f1, f2, o1, o2, hmv, hb3, far3, hx3⟩
          obtain rfl := ris_none r1
          obtain rfl := ris_none r2
          have H3 : Hid _ := hmv
          have q3 : Below w.heap.size w w3 := q2.trans (hb3.mono hb.size)
          have z3 := Nat.le_trans z2 hb3.size
          have z32 := hb3.size
          have G3 : Hid _ := far_heap far3 G2.out (by omega)
          clear hb3 far3 r1 r2 f1 f2 o1 o2 hmv H2 G2
          simp only [List.length_nil]
          have p1 := (q3.cell (p := ⟨b, off + i * 3 + 1, none⟩) hbl).trans HK1.out
          have zb3 : b < w3.heap.size := Nat.lt_of_lt_of_le hbl q3.size
          have n1 : decide (k ≤ i) = false := decide_eq_false (by omega)
          have n2 : decide ((i : Int) < 0) = false := decide_eq_false (by omega)
          go_wp2_with fail
          clear n1 n2
          have hbB := hb.size
          generalize wr.heap.size = B0 at *
          have zx1 : x ≠ w1.heap.size := by omega
          have zx3 : x < w3.heap.size := H3.out.lt.2.1
          have z13 : w1.heap.size < w3.heap.size := by omega
          have F3 : Hid ((w3.alloc (.cells #[.slice fa 0 fc, .slice fa' 0 fc'] 40)).heap[w3.heap.size]? = some (.cells #[.slice fa 0 fc, .slice fa' 0 fc'] 40 (0, 0))) := by
            show (w3.heap.push _)[w3.heap.size]? = _
            simp
          go_loopg [10] l1 (fun r kv wq => ∃ (j : Nat), kv = .int .i64 j ∧ j ≤ l1 ∧ l1 - j ≤ r ∧ Hid (MemV B0 wq bm rs (adrs rb j) [] x y j 0 lv bs) ∧ Hid (wq.heap[w1.heap.size]? = some (.cells (ws.map (Value.int .i64)).toArray 2 (0, 0))) ∧ Hid (wq.heap[w3.heap.size]? = some (.cells #[.slice fa 0 fc, .slice fa' 0 fc'] 40 (0, 0))) ∧ Below w.heap.size w wq)
          case atStart => exact ⟨0, rfl, Nat.zero_le _, by omega, H3.out.below (bl_one _ _), (Below.heap_alloc _ _ _ z13).trans G3.out, F3.out, q3.alloc q3.size _⟩
          case round =>
            obtain ⟨j, rfl, hj, hr2, HMJ, HGJ, HFJ, hbj⟩ := hrel
            have zfq := heap_lt HFJ.out
            have zBq : B0 ≤ wr.heap.size := by omega
            clear p1 zb3
            by_cases hjl : j < l1
            · have p0 := (hbj.cell (p := ⟨b, off + i * 3, none⟩) hbl).trans HK0.out
              have hlj := HLOC.out j (by rw [HL1.out]; exact hjl)
              have HLJ : Hid _ := hlj
              clear hlj
              go_wp2_with fail
              refine (load_far HMJ.out HOK.out (rb + 8 * (j : Int)) (adr_wf hb0 hb40 (by omega)) (by unfold maxLen; omega) zBq).mono ?_
              rintro e w4 ⟨hb4, far4, ⟨i', j', hl, rfl, hmv⟩ | ⟨hl, -⟩⟩
              case inr => exact (loc_excl HLJ.out hl).elim
              obtain ⟨e1, e2⟩ := loc_uniq HLJ.out hl
              rw [← e1, ← e2, HWA.out]
              have HM4 : Hid _ := hmv
              have HG4 : Hid _ := far_heap far4 HGJ.out (fun e => zx1 e.symm)
              have HF4 : Hid _ := far_heap far4 HFJ.out (by omega)
              have q4 : Below w.heap.size w w4 := hbj.trans (hb4.mono hbB)
              have c4 : w4.cell? ⟨w1.heap.size, j, none⟩ = some (.int .i64 (ws.getD j 0)) := (heap_cell HG4.out j).trans (map_at (by rw [HL1.out]; exact hjl))
              clear hl e1 e2 hmv far4 hb4 p0
              generalize ws.getD j 0 = wv at *
              go_wp2_with fail
              go_roundg (l1 - (j + 1))
              case measure => omega
              case rel => exact ⟨j + 1, by first | rfl | (congr 1; omega), by omega, Nat.le_refl _, (by rw [adrs_succ]; exact HM4.out : MemV B0 w4 bm rs (adrs rb (j + 1)) [] x y (j + 1) 0 lv bs), HG4.out, HF4.out, q4⟩
            · obtain rfl : j = l1 := by omega
              go_wp2_with fail
              refine (foot_far HMJ.out zBq (by omega) (by omega)).mono ?_
              rintro e w5 ⟨ga, gc, K1, ga', gc', K2, x', y', rfl, r1, r2, f1, f2, o1, o2, hmv, hb5, far5, -⟩
              obtain rfl := ris_none r2
              have hL := ris_adrs r1
              rw [hL]
              simp only [List.length_nil]
              have F5 := far_heap far5 HFJ.out (by omega)
              have s0 : w5.cell? ⟨w3.heap.size, 0, none⟩ = some (.slice fa 0 fc) := heap_cell F5 0
              have s1 : w5.cell? ⟨w3.heap.size, 1, none⟩ = some (.slice fa' 0 fc') := heap_cell F5 1
              have sf : ∀ o, w5.frozen? ⟨w3.heap.size, o, none⟩ = false := heap_froz F5
              have q5 : Below w.heap.size w w5 := hbj.trans (hb5.mono hbB)
              have z5 : w3.heap.size < w5.heap.size := heap_lt F5
              have zw : w.heap.size ≤ w3.heap.size := q3.size
              clear hL r1 r2 f1 f2 o1 o2 hmv hb5 far5 F5
              generalize w3.heap.size = fb at *
              go_wp2_with (go_at_call 8; refine (live_any _).mono ?_; rintro e v ⟨rfl, hbv⟩)
              go_ret
              refine ⟨rfl, Below.trans ((q5.setCell (p := ⟨fb, 0, none⟩) zw _).setCell (p := ⟨fb, 1, none⟩) zw _) (hbv.mono ?_)⟩
              have := q5.size
              simp [World.setCell]
              omega
        · have hz' : z < 0 ∨ (k : Int) ≤ z := by omega
          obtain ⟨ra, rc, hlv, -⟩ := H1.out.form
          have c2 := H1.out.c2
          rw [hlv, hcnt] at c2
          have HC2 : Hid _ := c2
          have HZ : Hid _ := hz'
          clear c2
          go_wp2_with fail
          refine (words_no HC2.out z HZ.out).mono ?_
          rintro e w2 ⟨rfl, rfl⟩
          go_wp2_with fail
          refine (foot_far H1.out z1 (by omega) (by omega)).mono ?_
          rintro e w3 ⟨fa, fc, L, fa', fc', L', x, y, rfl, r1, r2, f1, f2, o1, o2, hmv, hb3, -, -⟩
          obtain rfl := ris_none r1
          obtain rfl := ris_none r2
          have q3 : Below w.heap.size w w3 := q1.trans (hb3.mono hb.size)
          clear hb3 hmv H1 HC2 hz r1 r2 f1 f2 o1 o2
          simp only [List.length_nil]
          rcases (show z < 0 ∨ (0 ≤ z ∧ (k : Int) ≤ z) by omega) with hn | ⟨hn, hn'⟩
          all_goals
            clear hz'
            go_wp2_with (go_at_call 8; refine (live_any _).mono ?_; rintro e v ⟨rfl, hbv⟩)
            go_ret
            exact ⟨rfl, (q3.alloc q3.size _).trans (hbv.mono (by have := q3.size; simp; omega))⟩

end Go.Proofs.Ytoebndapeagmgaa

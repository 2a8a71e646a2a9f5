/- The walk of LinkOrder. -/
import Derived.Test.YtaoklmphcgigeaaLinkMoreW
import Derived.Test.YtaoklmphcgigeaaLinkOrderM
import Derived.Deep.RegionHeld3
import Derived.Deep.CutRange
namespace Go.Proofs.Ytaoklmphcgigeaa
open Go.RowKit Go.Lib
set_option linter.unusedVariables false
set_option linter.unusedSimpArgs false

theorem ObjsP.back {w : World} {ob off l c k : Nat} {pl : List (ObjD × Sl)} (h : ObjsP w (some ⟨ob, off, none⟩) l c pl) (hk : k ≤ l) : (((pl.drop k).flatMap objC).length = (l - k) * 4) ∧ ∀ ad, some (⟨ob, off + k * 4, none⟩ : Addr) = some ad → ∀ j u, ((pl.drop k).flatMap objC)[j]? = some u → w.cell? (ad.add j) = some u := by
  have hl : ((pl.take k).flatMap objC).length = k * 4 := by rw [flat_len' (m := 4) (fun _ => rfl), List.length_take, h.count, Nat.min_eq_left hk]
  refine ⟨by rw [flat_len' (m := 4) (fun _ => rfl), List.length_drop, h.count], fun ad e j u hu => ?_⟩
  cases e
  have := h.cells _ rfl (k * 4 + j) u (by
    rw [show pl.flatMap objC = (pl.take k).flatMap objC ++ (pl.drop k).flatMap objC by rw [← List.flatMap_append, List.take_append_drop], List.getElem?_append_right (by omega), hl, Nat.add_sub_cancel_left]
    exact hu)
  rw [Addr.add_lit] at this ⊢
  rw [Nat.add_assoc]
  exact this
theorem ObjsP.front {w : World} {a : Option Addr} {l c k : Nat} {pl : List (ObjD × Sl)} (h : ObjsP w a l c pl) (hk : k ≤ l) : (((pl.take k).flatMap objC).length = k * 4) ∧ ∀ ad, a = some ad → ∀ j u, ((pl.take k).flatMap objC)[j]? = some u → w.cell? (ad.add j) = some u := by
  have hl : ((pl.take k).flatMap objC).length = k * 4 := by rw [flat_len' (m := 4) (fun _ => rfl), List.length_take, h.count, Nat.min_eq_left hk]
  refine ⟨hl, fun ad e j u hu => h.cells ad e j u ?_⟩
  have hj := (List.getElem?_eq_some_iff.1 hu).1
  rw [show pl.flatMap objC = (pl.take k).flatMap objC ++ (pl.drop k).flatMap objC by rw [← List.flatMap_append, List.take_append_drop], List.getElem?_append_left hj]
  exact hu
theorem any_takeP {ss : List Sym} {p : Sym → Bool} {j : Nat} (hj : j < ss.length) : (ss.take (j + 1)).any p = ((ss.take j).any p || p (ss.getD j noSym)) := by
  rw [List.take_succ_eq_append_getElem hj, List.any_append]
  simp [List.getD, hj]
theorem objC_one (pl : List (ObjD × Sl)) : ∀ u ∈ pl.flatMap objC, u.oneCell' = true := fun u hu => by
  obtain ⟨x, -, hx⟩ := List.mem_flatMap.1 hu
  simp [objC] at hx
  rcases hx with rfl | rfl | rfl | rfl <;> rfl

set_option maxRecDepth 100000 in
set_option maxHeartbeats 8000000 in
theorem order_any {w : World} {a : Option Addr} {l c : Nat} {os : List ObjD} (h : ObjsV w a l c os) (hlc : l ≤ c) (hl : l * 88 ≤ 140737488351232) (hL : ∀ o ∈ os, Len 140737488351232 o) {by' : Int} (hby : (Lit.int .i64 by').wf = true) :
    Calls Try.prog 4 #[.slice a l c, .int .i64 by'] w fun e w' => e = .returned (.bool true) ∧ Below w.heap.size w w' := by
  obtain ⟨pl, hpl, hP⟩ := objs_p h
  have HV : Hid _ := h
  have HP : Hid _ := hP
  have HPL : Hid _ := hpl
  have hcnt := h.count
  have hb1 : -9223372036854775808 ≤ by' ∧ by' ≤ 9223372036854775807 := by
    have m1 : IntKind.i64.min = -9223372036854775808 := by decide
    have m2 : IntKind.i64.max = 9223372036854775807 := by decide
    simp only [Lit.wf, m1, m2, Bool.and_eq_true, decide_eq_true_eq] at hby
    exact hby
  have HLM : Hid (∀ p ∈ os, Len 140737488355328 p) := fun p hp => by
    have h1 := hL p hp
    unfold Len at *
    omega
  clear h hL hP hpl hby
  obtain ⟨i4, hi4, hz40, hz41, hz42⟩ := info_partsL infoO
  go_enter Try.func4, Try.ntmps4
  go_wp2_with fail
  refine (small_any HV.out HLM.out).mono ?_
  rintro e x1 ⟨rfl, b1⟩
  cases hsm : smallB os with
  | false =>
    clear hsm
    go_wp2_with (go_at_call 10; refine (live_any _).mono ?_; rintro e y ⟨rfl, hb⟩)
    go_ret
    exact ⟨rfl, b1.trans (hb.mono b1.size)⟩
  | true =>
    clear hsm
    by_cases hl0 : l = 0
    · subst hl0
      go_wp2_with (go_at_call 10; refine (live_any _).mono ?_; rintro e y ⟨rfl, hb⟩)
      go_ret
      exact ⟨rfl, b1.trans (hb.mono b1.size)⟩
    · have hle : ((l : Int) == 0) = false := by simp; omega
      have hlp : ¬ (l : Int) = 0 := by omega
      go_upto_if 24 with fail
      go_cut [1] from 14 to 138 (fun bv wc => ∃ z : Int, bv = .int .i64 z ∧ 0 ≤ z ∧ z ≤ 9223372036854775807 ∧ wc = x1)
      case first =>
        by_cases hneg : by' < 0
        · go_wp2_with fail
          go_meet
          case rel => exact ⟨-(by' + 1), by go_num, by omega, by omega, rfl⟩
        · go_wp2_with fail
          go_meet
          case rel => exact ⟨by', rfl, by omega, by omega, rfl⟩
      case rest =>
        obtain ⟨z, rfl, hz0, hz1, rfl⟩ := hcut
        obtain ⟨k, hkz, hkl⟩ : ∃ k : Nat, z % (l : Int) = (k : Int) ∧ k < l := by
          have h1 := Int.emod_nonneg z hlp
          have h2 := Int.emod_lt_of_pos z (by omega : (0 : Int) < l)
          exact ⟨(z % (l : Int)).toNat, by omega, by omega⟩
        rcases HP.out.spot with hx | ⟨ob, off, rfl⟩
        · omega
        have HP1 : Hid _ := HP.out.below b1
        have HBK : Hid _ := HP1.out.back (k := k) (by omega)
        have HFR : Hid _ := HP1.out.front (k := k) (by omega)
        have hk0 : (0 : Int) ≤ k := by omega
        have hk1 : (k : Int) ≤ l := by omega
        have hk2 : (k : Int) ≤ c := by omega
        have hk3 : ¬ c = k := by omega
        have hk4 : ¬ c - k = 0 := by omega
        have hlk : l - k + k = l := by omega
        have hkt : z.tmod (l : Int) = (k : Int) := by rw [Int.tmod_eq_emod_of_nonneg hz0]; exact hkz
        have hkt2 : IntKind.i64.wrap (z.tmod (l : Int)) = (k : Int) := by rw [hkt, IntKind.wrap_i64]; omega
        go_wp2_with (first | (at_builtin; refine wpList_append_more rfl _ _ 22 rfl wc.heap.size 40 i4 _ 4 88 Try.underlying22 hi4 hz40 hz41 hz42 rfl (by decide) (v := .slice none 0 0) (n := 0) (xs := []) rfl (World.ownsRow_nil _ _ _ _) (Nat.le_refl _) (a := some ⟨ob, off + k * 4, none⟩) (l := l - k) (c := c - k) (cs := (pl.drop k).flatMap objC) rfl (by intro e; cases e) HBK.out.1 HBK.out.2 (objC_one _) (by omega) (by omega) ?_) | go_in)
        intro v2 x2 ho2 hg2 hat2
        have B2 : Below wc.heap.size wc x2 := (Below.refl _ _).grown hg2 (Nat.le_refl _) (by intro k hk; simp [Value.ownBlock] at hk)
        obtain ⟨e2, f2, rfl⟩ := own_slice ho2
        have HO2 : Hid (x2.ownsRow wc.heap.size 40 4 (.slice e2 (l - k) f2) (l - k) ((pl.drop k).flatMap objC)) := ho2
        have HFR2 : Hid (∀ ad, some (⟨ob, off, none⟩ : Addr) = some ad → ∀ j u, ((pl.take k).flatMap objC)[j]? = some u → x2.cell? (ad.add j) = some u) := fun ad e j u hu => cell_thru B2 (HFR.out.2 ad e j u hu)
        have hvl : ∀ q, (Value.slice e2 (l - k) f2).ownBlock = some q → wc.heap.size ≤ q := fun q e => (HO2.out.lt _ e).1
        have HVL : Hid _ := hvl
        have hB2s := B2.size
        clear ho2 hg2 hat2 hvl
        go_wp2_with (first | (at_builtin; refine wpList_append_more rfl _ _ 22 rfl wc.heap.size 40 i4 _ 4 88 Try.underlying22 hi4 hz40 hz41 hz42 rfl (by decide) (v := .slice e2 (l - k) f2) rfl HO2.out hB2s (a := some ⟨ob, off, none⟩) (l := k) (c := c) (cs := (pl.take k).flatMap objC) rfl (by intro e; cases e) HFR.out.1 HFR2.out (objC_one _) (by omega) (by omega) ?_) | go_in)
        intro v3 x3 ho3 hg3 hat3
        have B3 : Below wc.heap.size wc x3 := B2.grown hg3 hB2s HVL.out
        have bw3 : Below w.heap.size w x3 := b1.trans (B3.mono b1.size)
        have hflat : (pl.drop k).flatMap objC ++ (pl.take k).flatMap objC = (pl.drop k ++ pl.take k).flatMap objC := by rw [List.flatMap_append]
        rw [hflat] at ho3
        have hpn := HP.out.count
        obtain ⟨e3, f3, rfl, hP3⟩ := objs_own ho3 (by rw [List.length_append, List.length_drop, List.length_take]; omega) (by unfold maxLen; omega) (fun p hp => by
          rcases List.mem_append.1 hp with h1 | h1
          · exact (HP.out.ov p (List.mem_of_mem_drop h1)).below bw3
          · exact (HP.out.ov p (List.mem_of_mem_take h1)).below bw3)
        have hV3 := objs_v hP3
        rw [List.map_append, List.map_drop, List.map_take, HPL.out] at hV3
        obtain ⟨ot, hot⟩ : ∃ ot, os.drop k ++ os.take k = ot := ⟨_, rfl⟩
        have hos : os.take k ++ os.drop k = os := List.take_append_drop k os
        have HOR : Hid (linkE os ≠ 7 → linkE ot ≠ 7 → (linkE os = 0 ↔ linkE ot = 0) ∧ (linkC os).length = (linkC ot).length ∧ (linkD os).length = (linkD ot).length ∧ (linkS os).length = (linkS ot).length ∧ ∀ s ∈ linkS os, ∃ u ∈ linkS ot, u.name = s.name ∧ u.kind = s.kind) := fun h1 h2 => by
          have := order_len (A := os.take k) (B := os.drop k) (by rw [hos]; exact h1) (by rw [hot]; exact h2)
          rw [hos, hot] at this
          exact this
        rw [hot] at hV3
        have HV3 : Hid (ObjsV x3 e3 l f3 ot) := hV3
        clear hV3 hP3 ho3 hg3 hat3 hflat hot hos HO2 HFR2 HVL
        go_wp2_with fail
        refine (link_any (HV.out.below bw3)).mono ?_
        rintro e x4 ⟨v1, v2, rfl, hR4⟩
        obtain ⟨p1, q1, p2, q2, rfl, rfl, hI4, hS4⟩ := imgR_view hR4 (link_fits HV.out).1 (link_fits HV.out).2
        have hb4 := hR4.low
        clear hR4 hI4
        obtain ⟨CA, hCA⟩ : ∃ CA : ByteArray, (⟨(linkC os).toArray⟩ : ByteArray) = CA := ⟨_, rfl⟩
        obtain ⟨EA, hEA⟩ : ∃ EA, linkE os = EA := ⟨_, rfl⟩
        obtain ⟨na, hna⟩ : ∃ na, (linkD os).length = na := ⟨_, rfl⟩
        obtain ⟨ma, hma⟩ : ∃ ma, (linkS os).length = ma := ⟨_, rfl⟩
        have hCAs : CA.size = (linkC os).length := by rw [← hCA]; show (linkC os).toArray.size = _; simp
        rw [hma] at hS4
        rw [hCA, hEA, hna, hma]
        have HS4 : Hid (SymsV x4 p2 ma q2 (linkS os)) := hS4
        clear hS4 hCA
        obtain ⟨Y4, hY4⟩ : ∃ Y, x4.alloc (.cells #[.string CA, .slice p1 na q1, .slice p2 ma q2] 29) = Y := ⟨_, rfl⟩
        have bY4 : Below x4.heap.size x4 Y4 := by subst hY4; exact bl_one _ _
        have HA4 : Hid (∀ y : World, Below Y4.heap.size Y4 y → y.cell? ⟨x4.heap.size, 0, none⟩ = some (.string CA) ∧ y.cell? ⟨x4.heap.size, 1, none⟩ = some (.slice p1 na q1) ∧ y.cell? ⟨x4.heap.size, 2, none⟩ = some (.slice p2 ma q2)) := fun y hb => by
          refine ⟨cell_thru hb ?_, cell_thru hb ?_, cell_thru hb ?_⟩
          all_goals
            subst hY4
            exact cell_last rfl rfl
        have b34 : Below x3.heap.size x3 Y4 := hb4.trans (bY4.mono hb4.size)
        have bw4 : Below w.heap.size w Y4 := bw3.trans (b34.mono bw3.size)
        have HV4 : Hid (ObjsV Y4 e3 l f3 ot) := HV3.out.below b34
        go_wp2_with fail
        refine (link_any HV4.out).mono ?_
        rintro e x5 ⟨v1, v2, rfl, hR5⟩
        obtain ⟨r1, t1, r2, t2, rfl, rfl, hI5, hS5⟩ := imgR_view hR5 (link_fits HV4.out).1 (link_fits HV4.out).2
        have hb5 := hR5.low
        clear hR5 hI5
        obtain ⟨CB, hCB⟩ : ∃ CB : ByteArray, (⟨(linkC ot).toArray⟩ : ByteArray) = CB := ⟨_, rfl⟩
        obtain ⟨EB, hEB⟩ : ∃ EB, linkE ot = EB := ⟨_, rfl⟩
        obtain ⟨nb, hnb⟩ : ∃ nb, (linkD ot).length = nb := ⟨_, rfl⟩
        obtain ⟨mb, hmb⟩ : ∃ mb, (linkS ot).length = mb := ⟨_, rfl⟩
        have hCBs : CB.size = (linkC ot).length := by rw [← hCB]; show (linkC ot).toArray.size = _; simp
        rw [hmb] at hS5
        rw [hCB, hEB, hnb, hmb]
        have HS5 : Hid (SymsV x5 r2 mb t2 (linkS ot)) := hS5
        clear hS5 hCB
        rw [hEA, hEB, hna, hnb, hma, hmb, ← hCAs, ← hCBs] at HOR
        clear hCAs hCBs hna hnb
        obtain ⟨Y5, hY5⟩ : ∃ Y, x5.alloc (.cells #[.string CB, .slice r1 nb t1, .slice r2 mb t2] 29) = Y := ⟨_, rfl⟩
        have bY5 : Below x5.heap.size x5 Y5 := by subst hY5; exact bl_one _ _
        have HA5 : Hid (∀ y : World, Below Y5.heap.size Y5 y → y.cell? ⟨x5.heap.size, 0, none⟩ = some (.string CB) ∧ y.cell? ⟨x5.heap.size, 1, none⟩ = some (.slice r1 nb t1) ∧ y.cell? ⟨x5.heap.size, 2, none⟩ = some (.slice r2 mb t2)) := fun y hb => by
          refine ⟨cell_thru hb ?_, cell_thru hb ?_, cell_thru hb ?_⟩
          all_goals
            subst hY5
            exact cell_last rfl rfl
        have b45 : Below Y4.heap.size Y4 Y5 := hb5.trans (bY5.mono hb5.size)
        have bw5 : Below w.heap.size w Y5 := bw4.trans (b45.mono bw4.size)
        by_cases h1 : EA = 7
        · subst h1
          clear hEA hEB
          go_wp2_with (go_at_call 10; refine (live_any _).mono ?_; rintro e y ⟨rfl, hb⟩)
          go_ret
          exact ⟨rfl, bw5.trans (hb.mono bw5.size)⟩
        by_cases h2 : EB = 7
        · have h1b : (EA == 7) = false := by simpa using h1
          subst h2
          clear hEA hEB
          go_wp2_with (go_at_call 10; refine (live_any _).mono ?_; rintro e y ⟨rfl, hb⟩)
          go_ret
          exact ⟨rfl, bw5.trans (hb.mono bw5.size)⟩
        obtain ⟨hiff, hc1, hc2, hc3, hc4⟩ := HOR.out h1 h2
        have h1b : (EA == 7) = false := by simpa using h1
        have h2b : (EB == 7) = false := by simpa using h2
        have h3b : (EA == 0) = (EB == 0) := by
          rw [Bool.eq_iff_iff]
          simpa using hiff
        obtain ⟨be, hbe⟩ : ∃ be, (EA == 0) = be := ⟨_, rfl⟩
        have hbe2 : (EB == 0) = be := by rw [← h3b]; exact hbe
        have hsz : (CA.size : Int) = (CB.size : Int) := by omega
        subst hc2 hc3
        have HC4 : Hid _ := hc4
        have hm5 : ma ≤ 1000 := by
          by_cases h0 : linkE os = 0
          · rw [← hma]; exact (link_sizes h0).2.2.2
          · rw [← hma, (link_bad h0).2.2]; simp
        have g0 := (HA4.out Y5 b45).1
        have g1 := (HA4.out Y5 b45).2.1
        have g2 := (HA4.out Y5 b45).2.2
        have g3 := (HA5.out Y5 (Below.refl _ _)).1
        have g4 := (HA5.out Y5 (Below.refl _ _)).2.1
        have g5 := (HA5.out Y5 (Below.refl _ _)).2.2
        clear hEA hEB HOR hiff hc1 hc4 h3b h1 h2
        cases be with
        | false =>
          go_wp2_with fail
          clear hY5 g0 g1 g2 g3 g4 g5
          go_loopg [11] ma (fun r iv wq => ∃ (i : Nat), iv = .int .i64 i ∧ i ≤ ma ∧ ma - i ≤ r ∧ Hid (Below Y5.heap.size Y5 wq))
          case atStart => exact ⟨0, rfl, Nat.zero_le _, by omega, Below.refl _ _⟩
          case round =>
            obtain ⟨i, rfl, hi, hr, HB⟩ := hrel
            have HB45 : Hid (Below Y4.heap.size Y4 wr) := b45.trans (HB.out.mono b45.size)
            have e2 := (HA4.out wr HB45.out).2.2
            by_cases hil : i < ma
            · have hii : (i : Int) < ma := by omega
              have hin : 0 ≤ (i : Int) := by omega
              rcases HS4.out.cells with hx | ⟨sb, so, hA4, hc4⟩
              · omega
              obtain ⟨n0, n1, -⟩ := hc4 i hil
              have HMM : Hid _ := HC4.out ((linkS os).getD i noSym) (by simp [List.getD, show i < (linkS os).length by omega])
              obtain ⟨y, hy⟩ : ∃ y, (linkS os).getD i noSym = y := ⟨_, rfl⟩
              rw [hy] at n0 n1 HMM
              obtain ⟨an, ak, ap⟩ := y
              simp only at n0 n1
              have HN : Hid (∀ y : World, Below Y4.heap.size Y4 y → y.cell? ⟨sb, so + i * 3, none⟩ = some (.string an) ∧ y.cell? ⟨sb, so + i * 3 + 1, none⟩ = some (.int .i64 ak)) := fun y hb => ⟨cell_thru hb (cell_thru bY4 n0), cell_thru hb (cell_thru bY4 n1)⟩
              subst hA4
              clear hc4 hy n0 n1
              go_wp2_with fail
              clear e2
              generalize wr = V at *
              go_loopg [12, 13] ma (fun r bv jv wq => ∃ (j : Nat), jv = .int .i64 j ∧ bv = .bool (((linkS ot).take j).any fun u => decide (u.name = an) && decide (u.kind = ak)) ∧ j ≤ ma ∧ ma - j ≤ r ∧ Hid (Below V.heap.size V wq))
              case atStart => exact ⟨0, rfl, rfl, Nat.zero_le _, by omega, Below.refl _ _⟩
              case round =>
                obtain ⟨j, rfl, rfl, hj, hr2, HB2⟩ := hrel
                have HAN : Hid (j < ma → (((linkS ot).take (j + 1)).any fun u => decide (u.name = an) && decide (u.kind = ak)) = ((((linkS ot).take j).any fun u => decide (u.name = an) && decide (u.kind = ak)) || (decide (((linkS ot).getD j noSym).name = an) && decide (((linkS ot).getD j noSym).kind = ak)))) := fun hx => any_takeP (p := fun u => decide (u.name = an) && decide (u.kind = ak)) (by omega)
                have HFU : Hid (j = ma → (((linkS ot).take j).any fun u => decide (u.name = an) && decide (u.kind = ak)) = true) := fun hx => by
                  rw [List.take_of_length_le (by omega), List.any_eq_true]
                  obtain ⟨u, hu, e1, e2⟩ := HMM.out
                  exact ⟨u, hu, by rw [e1, e2]; simp⟩
                obtain ⟨BB, hBB⟩ : ∃ BB, (((linkS ot).take j).any fun u => decide (u.name = an) && decide (u.kind = ak)) = BB := ⟨_, rfl⟩
                rw [hBB] at HAN HFU ⊢
                clear hBB
                have HB5 : Hid (Below Y5.heap.size Y5 wr) := HB.out.trans (HB2.out.mono HB.out.size)
                have HB4 : Hid (Below Y4.heap.size Y4 wr) := HB45.out.trans (HB2.out.mono HB45.out.size)
                have e5 := (HA5.out wr HB5.out).2.2
                by_cases hjl : j < ma
                · have hjj : (j : Int) < ma := by omega
                  have hjn : 0 ≤ (j : Int) := by omega
                  rcases HS5.out.cells with hx | ⟨tb, tf, hA5, hc5⟩
                  · omega
                  obtain ⟨m0, m1, -⟩ := hc5 j hjl
                  have hAN := HAN.out hjl
                  obtain ⟨y, hy⟩ : ∃ y, (linkS ot).getD j noSym = y := ⟨_, rfl⟩
                  rw [hy] at m0 m1 hAN
                  obtain ⟨bn, bk, bp⟩ := y
                  simp only at m0 m1 hAN
                  have m0 := cell_thru HB5.out (cell_thru bY5 m0)
                  have m1 := cell_thru HB5.out (cell_thru bY5 m1)
                  have n0 := (HN.out wr HB4.out).1
                  have n1 := (HN.out wr HB4.out).2
                  have e2 := (HA4.out wr HB4.out).2.2
                  subst hA5
                  have HBd : Hid (Below V.heap.size V wr.drew) := HB2.out.drew
                  clear hc5 hy HAN HFU
                  cases BB with
                  | true =>
                    have HAN2 : Hid ((((linkS ot).take (j + 1)).any fun u => decide (u.name = an) && decide (u.kind = ak)) = true) := by show _ = _; rw [hAN]; rfl
                    clear hAN
                    go_wp2_with fail
                    go_region
                    go_wp2_with fail
                    go_roundg (ma - (j + 1))
                    case measure => omega
                    case rel => exact ⟨j + 1, by go_num, by rw [HAN2.out], by omega, Nat.le_refl _, HBd.out⟩
                  | false =>
                    by_cases hnm : bn = an
                    · subst hnm
                      by_cases hkd : bk = ak
                      · subst hkd
                        have HAN2 : Hid ((((linkS ot).take (j + 1)).any fun u => decide (u.name = bn) && decide (u.kind = bk)) = true) := by show _ = _; rw [hAN]; simp
                        clear hAN
                        go_wp2_with fail
                        go_region
                        go_wp2_with fail
                        go_roundg (ma - (j + 1))
                        case measure => omega
                        case rel => exact ⟨j + 1, by go_num, by rw [HAN2.out], by omega, Nat.le_refl _, HBd.out⟩
                      · have HAN2 : Hid ((((linkS ot).take (j + 1)).any fun u => decide (u.name = bn) && decide (u.kind = ak)) = false) := by show _ = _; rw [hAN]; simp [hkd]
                        have hkb : (bk == ak) = false := by simpa using hkd
                        clear hAN
                        go_wp2_with fail
                        go_region
                        go_wp2_with fail
                        go_roundg (ma - (j + 1))
                        case measure => omega
                        case rel => exact ⟨j + 1, by go_num, by rw [HAN2.out], by omega, Nat.le_refl _, HBd.out⟩
                    · have HAN2 : Hid ((((linkS ot).take (j + 1)).any fun u => decide (u.name = an) && decide (u.kind = ak)) = false) := by show _ = _; rw [hAN]; simp [hnm]
                      have hne2 := toList_ne hnm
                      clear hAN
                      go_wp2_with fail
                      go_region
                      go_wp2_with fail
                      go_roundg (ma - (j + 1))
                      case measure => omega
                      case rel => exact ⟨j + 1, by go_num, by rw [HAN2.out], by omega, Nat.le_refl _, HBd.out⟩
                · obtain rfl : j = ma := by omega
                  obtain rfl : BB = true := HFU.out rfl
                  have hjj : ¬ (j : Int) < j := by omega
                  clear HAN HFU
                  go_wp2_with fail
                  go_roundg (j - (i + 1))
                  case measure => omega
                  case rel => exact ⟨i + 1, by go_num, by omega, Nat.le_refl _, HB5.out⟩
            · obtain rfl : i = ma := by omega
              have hii : ¬ (i : Int) < i := by omega
              have bw6 : Below w.heap.size w wr := bw5.trans (HB.out.mono bw5.size)
              go_wp2_with (go_at_call 10; refine (live_any _).mono ?_; rintro e y ⟨rfl, hb⟩)
              go_ret
              exact ⟨rfl, bw6.trans (hb.mono bw6.size)⟩
        | true =>
          go_wp2_with fail
          clear hY5 g0 g1 g2 g3 g4 g5
          go_loopg [11] ma (fun r iv wq => ∃ (i : Nat), iv = .int .i64 i ∧ i ≤ ma ∧ ma - i ≤ r ∧ Hid (Below Y5.heap.size Y5 wq))
          case atStart => exact ⟨0, rfl, Nat.zero_le _, by omega, Below.refl _ _⟩
          case round =>
            obtain ⟨i, rfl, hi, hr, HB⟩ := hrel
            have HB45 : Hid (Below Y4.heap.size Y4 wr) := b45.trans (HB.out.mono b45.size)
            have e2 := (HA4.out wr HB45.out).2.2
            by_cases hil : i < ma
            · have hii : (i : Int) < ma := by omega
              have hin : 0 ≤ (i : Int) := by omega
              rcases HS4.out.cells with hx | ⟨sb, so, hA4, hc4⟩
              · omega
              obtain ⟨n0, n1, -⟩ := hc4 i hil
              have HMM : Hid _ := HC4.out ((linkS os).getD i noSym) (by simp [List.getD, show i < (linkS os).length by omega])
              obtain ⟨y, hy⟩ : ∃ y, (linkS os).getD i noSym = y := ⟨_, rfl⟩
              rw [hy] at n0 n1 HMM
              obtain ⟨an, ak, ap⟩ := y
              simp only at n0 n1
              have HN : Hid (∀ y : World, Below Y4.heap.size Y4 y → y.cell? ⟨sb, so + i * 3, none⟩ = some (.string an) ∧ y.cell? ⟨sb, so + i * 3 + 1, none⟩ = some (.int .i64 ak)) := fun y hb => ⟨cell_thru hb (cell_thru bY4 n0), cell_thru hb (cell_thru bY4 n1)⟩
              subst hA4
              clear hc4 hy n0 n1
              go_wp2_with fail
              clear e2
              generalize wr = V at *
              go_loopg [12, 13] ma (fun r bv jv wq => ∃ (j : Nat), jv = .int .i64 j ∧ bv = .bool (((linkS ot).take j).any fun u => decide (u.name = an) && decide (u.kind = ak)) ∧ j ≤ ma ∧ ma - j ≤ r ∧ Hid (Below V.heap.size V wq))
              case atStart => exact ⟨0, rfl, rfl, Nat.zero_le _, by omega, Below.refl _ _⟩
              case round =>
                obtain ⟨j, rfl, rfl, hj, hr2, HB2⟩ := hrel
                have HAN : Hid (j < ma → (((linkS ot).take (j + 1)).any fun u => decide (u.name = an) && decide (u.kind = ak)) = ((((linkS ot).take j).any fun u => decide (u.name = an) && decide (u.kind = ak)) || (decide (((linkS ot).getD j noSym).name = an) && decide (((linkS ot).getD j noSym).kind = ak)))) := fun hx => any_takeP (p := fun u => decide (u.name = an) && decide (u.kind = ak)) (by omega)
                have HFU : Hid (j = ma → (((linkS ot).take j).any fun u => decide (u.name = an) && decide (u.kind = ak)) = true) := fun hx => by
                  rw [List.take_of_length_le (by omega), List.any_eq_true]
                  obtain ⟨u, hu, e1, e2⟩ := HMM.out
                  exact ⟨u, hu, by rw [e1, e2]; simp⟩
                obtain ⟨BB, hBB⟩ : ∃ BB, (((linkS ot).take j).any fun u => decide (u.name = an) && decide (u.kind = ak)) = BB := ⟨_, rfl⟩
                rw [hBB] at HAN HFU ⊢
                clear hBB
                have HB5 : Hid (Below Y5.heap.size Y5 wr) := HB.out.trans (HB2.out.mono HB.out.size)
                have HB4 : Hid (Below Y4.heap.size Y4 wr) := HB45.out.trans (HB2.out.mono HB45.out.size)
                have e5 := (HA5.out wr HB5.out).2.2
                by_cases hjl : j < ma
                · have hjj : (j : Int) < ma := by omega
                  have hjn : 0 ≤ (j : Int) := by omega
                  rcases HS5.out.cells with hx | ⟨tb, tf, hA5, hc5⟩
                  · omega
                  obtain ⟨m0, m1, -⟩ := hc5 j hjl
                  have hAN := HAN.out hjl
                  obtain ⟨y, hy⟩ : ∃ y, (linkS ot).getD j noSym = y := ⟨_, rfl⟩
                  rw [hy] at m0 m1 hAN
                  obtain ⟨bn, bk, bp⟩ := y
                  simp only at m0 m1 hAN
                  have m0 := cell_thru HB5.out (cell_thru bY5 m0)
                  have m1 := cell_thru HB5.out (cell_thru bY5 m1)
                  have n0 := (HN.out wr HB4.out).1
                  have n1 := (HN.out wr HB4.out).2
                  have e2 := (HA4.out wr HB4.out).2.2
                  subst hA5
                  have HBd : Hid (Below V.heap.size V wr.drew) := HB2.out.drew
                  clear hc5 hy HAN HFU
                  cases BB with
                  | true =>
                    have HAN2 : Hid ((((linkS ot).take (j + 1)).any fun u => decide (u.name = an) && decide (u.kind = ak)) = true) := by show _ = _; rw [hAN]; rfl
                    clear hAN
                    go_wp2_with fail
                    go_region
                    go_wp2_with fail
                    go_roundg (ma - (j + 1))
                    case measure => omega
                    case rel => exact ⟨j + 1, by go_num, by rw [HAN2.out], by omega, Nat.le_refl _, HBd.out⟩
                  | false =>
                    by_cases hnm : bn = an
                    · subst hnm
                      by_cases hkd : bk = ak
                      · subst hkd
                        have HAN2 : Hid ((((linkS ot).take (j + 1)).any fun u => decide (u.name = bn) && decide (u.kind = bk)) = true) := by show _ = _; rw [hAN]; simp
                        clear hAN
                        go_wp2_with fail
                        go_region
                        go_wp2_with fail
                        go_roundg (ma - (j + 1))
                        case measure => omega
                        case rel => exact ⟨j + 1, by go_num, by rw [HAN2.out], by omega, Nat.le_refl _, HBd.out⟩
                      · have HAN2 : Hid ((((linkS ot).take (j + 1)).any fun u => decide (u.name = bn) && decide (u.kind = ak)) = false) := by show _ = _; rw [hAN]; simp [hkd]
                        have hkb : (bk == ak) = false := by simpa using hkd
                        clear hAN
                        go_wp2_with fail
                        go_region
                        go_wp2_with fail
                        go_roundg (ma - (j + 1))
                        case measure => omega
                        case rel => exact ⟨j + 1, by go_num, by rw [HAN2.out], by omega, Nat.le_refl _, HBd.out⟩
                    · have HAN2 : Hid ((((linkS ot).take (j + 1)).any fun u => decide (u.name = an) && decide (u.kind = ak)) = false) := by show _ = _; rw [hAN]; simp [hnm]
                      have hne2 := toList_ne hnm
                      clear hAN
                      go_wp2_with fail
                      go_region
                      go_wp2_with fail
                      go_roundg (ma - (j + 1))
                      case measure => omega
                      case rel => exact ⟨j + 1, by go_num, by rw [HAN2.out], by omega, Nat.le_refl _, HBd.out⟩
                · obtain rfl : j = ma := by omega
                  obtain rfl : BB = true := HFU.out rfl
                  have hjj : ¬ (j : Int) < j := by omega
                  clear HAN HFU
                  go_wp2_with fail
                  go_roundg (j - (i + 1))
                  case measure => omega
                  case rel => exact ⟨i + 1, by go_num, by omega, Nat.le_refl _, HB5.out⟩
            · obtain rfl : i = ma := by omega
              have hii : ¬ (i : Int) < i := by omega
              have bw6 : Below w.heap.size w wr := bw5.trans (HB.out.mono bw5.size)
              go_wp2_with (go_at_call 10; refine (live_any _).mono ?_; rintro e y ⟨rfl, hb⟩)
              go_ret
              exact ⟨rfl, bw6.trans (hb.mono bw6.size)⟩
end Go.Proofs.Ytaoklmphcgigeaa

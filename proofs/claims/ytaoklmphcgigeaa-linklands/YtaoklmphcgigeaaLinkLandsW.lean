/- The walk of LinkLands. -/
import Derived.Test.YtaoklmphcgigeaaLinkMoreW
import Derived.Test.YtaoklmphcgigeaaLinkLandM
namespace Go.Proofs.Ytaoklmphcgigeaa
open Go.RowKit Go.Lib
set_option linter.unusedVariables false
set_option linter.unusedSimpArgs false

theorem look_uniq {ss : List Sym} (ht : L.twice ss = false) {s : Sym} (hs : s ∈ ss) : L.look ss s.name = some s := by
  induction ss with
  | nil => cases hs
  | cons x ss ih =>
    unfold L.twice at ht
    simp only [Bool.or_eq_false_iff] at ht
    unfold L.look
    rw [List.find?_cons]
    rcases List.mem_cons.1 hs with rfl | hs
    · simp
    · have hne : ¬ x.name = s.name := fun e => by
        have := ht.1
        rw [List.any_eq_false] at this
        exact this s hs (by simp [e])
      simp only [hne, decide_false]
      exact ih ht.2 hs
theorem any_take {ss : List Sym} {nm : ByteArray} {j : Nat} (hj : j < ss.length) : ((ss.take (j + 1)).any fun s => decide (s.name = nm)) = (((ss.take j).any fun s => decide (s.name = nm)) || decide ((ss.getD j noSym).name = nm)) := by
  rw [List.take_succ_eq_append_getElem hj, List.any_append]
  simp [List.getD, hj]
theorem may_kind {o : ObjD} (h : o.may = true) : ∀ r ∈ o.rels, r.kind = 1 ∨ r.kind = 2 := by
  unfold ObjD.may relsOk at h
  simp only [Bool.and_eq_true, decide_eq_true_eq, List.all_eq_true, List.mem_range] at h
  obtain ⟨-, -, -, h6⟩ := h
  intro r hr
  obtain ⟨i, hi, rfl⟩ := List.getElem_of_mem hr
  have h7 := h6 i hi
  have e : o.rels.getD i noRel = o.rels[i] := by simp [List.getD, hi]
  rw [e] at h7
  unfold relOk addOk at h7
  simp only [Bool.and_eq_true] at h7
  have h8 := h7.2.2
  split at h8
  · rename_i h9; exact .inl h9
  · split at h8
    · rename_i h9; exact .inr h9
    · cases h8

set_option maxRecDepth 100000 in
set_option maxHeartbeats 8000000 in
theorem lands_any {w : World} {a : Option Addr} {l c : Nat} {os : List ObjD} (h : ObjsV w a l c os) (hL : ∀ o ∈ os, Len 140737488351232 o) :
    Calls Try.prog 6 #[.slice a l c] w fun e w' => e = .returned (.bool true) ∧ Below w.heap.size w w' := by
  have HV : Hid _ := h
  have hcnt := h.count
  have HLM : Hid (∀ p ∈ os, Len 140737488355328 p) := fun p hp => by
    have h1 := hL p hp
    unfold Len at *
    omega
  clear h hL
  go_enter Try.func6, Try.ntmps6
  go_wp2_with fail
  refine (small_any HV.out HLM.out).mono ?_
  rintro e x1 ⟨rfl, b1⟩
  cases hsm : smallB os with
  | false =>
    clear hsm
    go_wp2_with (go_at_call 10; refine (live_any _).mono ?_; rintro e y ⟨rfl, hb⟩)
    go_ret
    exact ⟨rfl, b1.trans (hb.mono b1.size)⟩
  | true =>
    clear hsm
    go_wp2_with fail
    refine (link_any (HV.out.below b1)).mono ?_
    rintro e x2 ⟨v1, v2, rfl, hR2⟩
    obtain ⟨p1, q1, p2, q2, rfl, rfl, hI2, hS2⟩ := imgR_view hR2 (link_fits HV.out).1 (link_fits HV.out).2
    have hb2 := hR2.low
    clear hR2
    by_cases h0 : linkE os = 0
    · obtain ⟨CA, hCA⟩ : ∃ CA : ByteArray, (⟨(linkC os).toArray⟩ : ByteArray) = CA := ⟨_, rfl⟩
      obtain ⟨na, hna⟩ : ∃ na, (linkD os).length = na := ⟨_, rfl⟩
      obtain ⟨ns, hns⟩ : ∃ ns, (linkS os).length = ns := ⟨_, rfl⟩
      rw [hns] at hS2
      rw [hCA, h0, hna, hns]
      have HS2 : Hid (SymsV x2 p2 ns q2 (linkS os)) := hS2
      have hCS : CA.size = (linkC os).length := by rw [← hCA]; show (linkC os).toArray.size = _; simp
      obtain ⟨hz1, hz2, hz3, hz4⟩ := link_sizes h0
      have hCA6 : CA.size ≤ 65536 := by omega
      have HOK : Hid _ := link_ok h0
      have hl16 : l ≤ 16 := by have := HOK.out.1.1; omega
      have HLD : Hid (∀ k d, os[k]? = some d → ∀ r ∈ d.rels, ∃ p : Nat, (p : Int) = (L.sizes (os.take k)).b + r.pos ∧ p + 4 ≤ CA.size ∧ CA.extract p (p + 4) = strOfNums (W.bytesV (L.value (L.syms os) (L.sizes (os.take k)) r) 4) ∧ -2147483648 ≤ L.value (L.syms os) (L.sizes (os.take k)) r ∧ L.value (L.syms os) (L.sizes (os.take k)) r ≤ 2147483647) := fun k d hk r hr => by
        have := landed h0 hk hr
        rw [hCA, ← hCS] at this
        exact this
      have hbb : (L.sizes os).b = CA.size := by omega
      clear hI2 hS2 hCS hCA h0 hz1 hz2 hz3
      obtain ⟨Y2, hY2⟩ : ∃ Y, x2.alloc (.cells #[.string CA, .slice p1 na q1, .slice p2 ns q2] 29) = Y := ⟨_, rfl⟩
      have bY2 : Below x2.heap.size x2 Y2 := by subst hY2; exact bl_one _ _
      have HA2 : Hid (∀ y : World, Below Y2.heap.size Y2 y → y.cell? ⟨x2.heap.size, 0, none⟩ = some (.string CA) ∧ y.cell? ⟨x2.heap.size, 1, none⟩ = some (.slice p1 na q1) ∧ y.cell? ⟨x2.heap.size, 2, none⟩ = some (.slice p2 ns q2)) := fun y hb => by
        refine ⟨cell_thru hb ?_, cell_thru hb ?_, cell_thru hb ?_⟩
        all_goals
          subst hY2
          exact cell_last rfl rfl
      have b12 : Below x1.heap.size x1 Y2 := hb2.trans (bY2.mono hb2.size)
      have bw2 : Below w.heap.size w Y2 := b1.trans (b12.mono b1.size)
      go_wp2_with fail
      clear hY2
      go_loopg [5, 6] l (fun r av iv wq => ∃ (k : Nat), iv = .int .i64 k ∧ av = .int .i64 (L.sizes (os.take k)).b ∧ k ≤ l ∧ l - k ≤ r ∧ Hid (Below Y2.heap.size Y2 wq))
      case atStart => exact ⟨0, rfl, rfl, Nat.zero_le _, by omega, Below.refl _ _⟩
      case round =>
        obtain ⟨k, rfl, rfl, hk, hr, HB⟩ := hrel
        by_cases hlt : k < l
        · have hw3 : Below w.heap.size w wr := bw2.trans (HB.out.mono bw2.size)
          obtain ⟨d, hd⟩ : ∃ d, os[k]? = some d := ⟨os[k]'(by omega), by simp⟩
          have hg : os.getD k noObj = d := by simp [List.getD, hd]
          rcases HV.out.cells with hx | ⟨ob, off, hA, hc⟩
          · omega
          obtain ⟨s, hC, hO⟩ := hc k hlt
          rw [hg] at hC hO
          have hC := hC.below hw3
          have hmd : d.may = true := HOK.out.1.2 d (List.mem_of_getElem? hd)
          have hrn : s.l3 ≤ 8000 := by have := (may_sizes hmd).2.2.2.1; have h3 := hO.rels.count; omega
          have hah := sizes_ahead hd
          rw [hbb] at hah
          have HLK : Hid _ := HLD.out k d hd
          have HST : Hid ((L.sizes (os.take (k + 1))).b = (L.sizes (os.take k)).b + d.code.size) := by show _ = _; rw [sizes_take hd]; rfl
          have HRM : Hid _ := may_rels hmd
          have HKD : Hid _ := may_kind hmd
          have HFD : Hid (∀ r ∈ d.rels, ∃ y, L.look (L.syms os) r.name = some y) := fun r hr => by
            obtain ⟨y, hy, -⟩ := askOne_found (HOK.out.2.2.1 r (List.mem_flatMap.2 ⟨d, List.mem_of_getElem? hd, hr⟩))
            exact ⟨y, hy⟩
          obtain ⟨z, hz⟩ : ∃ z, L.sizes (os.take k) = z := ⟨_, rfl⟩
          rw [hz] at hah HLK HST ⊢
          obtain ⟨a1, l1, c1, a2, l2, c2, a3, l3, c3⟩ := s
          obtain ⟨k0, k1, k2, k3⟩ := hC
          simp only at k1 k2 k3 hrn
          subst hA
          have hin : 0 ≤ (k : Int) := by omega
          have hii : (k : Int) < l := by omega
          have HRV : Hid (RelsV w a3 l3 c3 d.rels) := hO.rels
          have hrc : d.rels.length = l3 := hO.rels.count
          clear hc hg hmd hO hz
          have HC0 : Hid (∀ y : World, Below wr.heap.size wr y → y.cell? ⟨ob, off + k * 4, none⟩ = some (.string d.code) ∧ y.cell? ⟨ob, off + k * 4 + 3, none⟩ = some (.slice a3 l3 c3)) := fun y hb => ⟨cell_thru hb k0, cell_thru hb k3⟩
          generalize wr = U at *
          go_wp2_with fail
          clear k0 k1 k2 k3
          go_loopg [7] l3 (fun r iv wq => ∃ (j : Nat), iv = .int .i64 j ∧ j ≤ l3 ∧ l3 - j ≤ r ∧ Hid (Below U.heap.size U wq))
          case atStart => exact ⟨0, rfl, Nat.zero_le _, by omega, Below.refl _ _⟩
          case round =>
            obtain ⟨j, rfl, hj, hr2, HB2⟩ := hrel
            have u0 := (HC0.out wr HB2.out).1
            have u3 := (HC0.out wr HB2.out).2
            by_cases hjl : j < l3
            · rcases HRV.out.cells with hx | ⟨rb, ro, hA3, hc3⟩
              · omega
              obtain ⟨m0, m1, m2, m3⟩ := hc3 j hjl
              have lowr : Below w.heap.size w wr := hw3.trans (HB2.out.mono hw3.size)
              have hrw : rb < w.heap.size := World.block_lt_of_cell? w ⟨rb, ro + j * 4, none⟩ m0
              have m0 := (lowr.cell (p := ⟨rb, ro + j * 4, none⟩) hrw).trans m0
              have m1 := (lowr.cell (p := ⟨rb, ro + j * 4 + 1, none⟩) hrw).trans m1
              have m2 := (lowr.cell (p := ⟨rb, ro + j * 4 + 2, none⟩) hrw).trans m2
              have m3 := (lowr.cell (p := ⟨rb, ro + j * 4 + 3, none⟩) hrw).trans m3
              have hmem : d.rels.getD j noRel ∈ d.rels := by simp [List.getD, show j < d.rels.length by omega]
              obtain ⟨pp, hp1, hp2, hp3, hv1, hv2⟩ := HLK.out _ hmem
              have hkind := HKD.out _ hmem
              have hrmm := HRM.out _ hmem
              obtain ⟨sy, hsy⟩ := HFD.out _ hmem
              have HVL : Hid (L.value (L.syms os) z (d.rels.getD j noRel) = if (d.rels.getD j noRel).kind = 1 then sy.pos - (z.b + (d.rels.getD j noRel).pos + 4) else 1048576 + 8 * sy.pos + (d.rels.getD j noRel).add) := by
                show _ = _
                unfold L.value
                rw [hsy]
                rfl
              obtain ⟨VV, hVV⟩ : ∃ VV, L.value (L.syms os) z (d.rels.getD j noRel) = VV := ⟨_, rfl⟩
              rw [hVV] at hp3 hv1 hv2 HVL
              have HSY : Hid _ := hsy
              clear hsy hVV hmem hc3
              obtain ⟨y, hy⟩ : ∃ y, d.rels.getD j noRel = y := ⟨_, rfl⟩
              rw [hy] at m0 m1 m2 m3 hp1 hkind hrmm HVL HSY
              clear hy
              obtain ⟨ry, ky, ny, ay⟩ := y
              simp only at m0 m1 m2 m3 hp1 hkind hrmm
              have hsp : 0 ≤ sy.pos ∧ sy.pos ≤ 4294967296 := by
                have := look_pos HOK.out.1.2 HOK.out.1.1 ny
                rw [HSY.out] at this
                exact this
              subst hA3
              have hin2 : 0 ≤ (j : Int) := by omega
              have hii2 : (j : Int) < l3 := by omega
              have hpe : (z.b : Int) + ry = pp := by omega
              have HP1 : Hid _ := hp1
              clear hp1
              have hp5 : (pp : Int) + 4 ≤ CA.size := by omega
              have hp6 : ¬ (CA.size : Int) < (pp : Int) + 4 := by omega
              have hp7 : ((pp : Int) + 4).toNat = pp + 4 := by omega
              have HNU : Hid (∀ X : World, Calls Try.prog 17 #[.string (strOfNums (W.bytesV VV 4))] X fun e w' => e = .returned (.tuple #[.int .i64 VV, .int .i64 0]) ∧ w' = X) := fun X => rnumber_back hv1 hv2 X
              have hE2 := (HA2.out wr (HB.out.trans (HB2.out.mono HB.out.size)))
              have w0 := hE2.1
              have w2 := hE2.2.2
              clear hE2
              obtain ⟨Y3, hY3⟩ : ∃ Y, wr.alloc (.cells #[.int .i64 ry, .int .i64 ky, .string ny, .int .i64 ay] 45) = Y := ⟨_, rfl⟩
              have bY3 : Below wr.heap.size wr Y3 := by subst hY3; exact bl_one _ _
              have HR3 : Hid (∀ y : World, Below Y3.heap.size Y3 y → y.cell? ⟨wr.heap.size, 0, none⟩ = some (.int .i64 ry) ∧ y.cell? ⟨wr.heap.size, 1, none⟩ = some (.int .i64 ky) ∧ y.cell? ⟨wr.heap.size, 2, none⟩ = some (.string ny) ∧ y.cell? ⟨wr.heap.size, 3, none⟩ = some (.int .i64 ay)) := fun y hb => by
                refine ⟨cell_thru hb ?_, cell_thru hb ?_, cell_thru hb ?_, cell_thru hb ?_⟩
                all_goals
                  subst hY3
                  exact cell_last rfl rfl
              have g0 := (HR3.out Y3 (Below.refl _ _)).1
              have w0' := cell_thru bY3 w0
              have w2' := cell_thru bY3 w2
              go_wp2_with fail
              refine (HNU.out _).mono ?_
              rintro e Y3' ⟨rfl, hY3'⟩
              rw [hY3']
              clear hY3'
              have HB3 : Hid (Below U.heap.size U Y3) := HB2.out.trans (bY3.mono HB2.out.size)
              have HBX : Hid (Below x2.heap.size x2 Y3) := by
                have h1 : Below Y2.heap.size Y2 Y3 := HB.out.trans (HB3.out.mono HB.out.size)
                exact bY2.trans (h1.mono bY2.size)
              have HBY : Hid (Below Y2.heap.size Y2 Y3) := HB.out.trans (HB3.out.mono HB.out.size)
              have HSY2 : Hid (L.look (L.syms os) ny = some sy) := HSY.out
              have HVL2 : Hid (VV = if ky = 1 then sy.pos - (z.b + ry + 4) else 1048576 + 8 * sy.pos + ay) := HVL.out
              have HP2 : Hid ((z.b : Int) + ry = pp) := hpe
              go_wp2_with fail
              clear hpe hY3 g0 w0 w2 w0' w2' m0 m1 m2 m3 u0 u3 hp3 hp7 HSY HVL bY3
              obtain ⟨br, hbr⟩ : ∃ br, wr.heap.size = br := ⟨_, rfl⟩
              rw [hbr] at HR3
              rw [hbr]
              clear hbr
              generalize wr = V at *
              go_loopg [12, 13] ns (fun r bv iv wq => ∃ (i : Nat), iv = .int .i64 i ∧ bv = .bool (((linkS os).take i).any fun s => decide (s.name = ny)) ∧ i ≤ ns ∧ ns - i ≤ r ∧ Hid (Below Y3.heap.size Y3 wq))
              case atStart => exact ⟨0, rfl, rfl, Nat.zero_le _, by omega, Below.refl _ _⟩
              case round =>
                obtain ⟨i, rfl, rfl, hi, hr3, HB4⟩ := hrel
                have HAN : Hid (i < ns → (((linkS os).take (i + 1)).any fun s => decide (s.name = ny)) = ((((linkS os).take i).any fun s => decide (s.name = ny)) || decide (((linkS os).getD i noSym).name = ny))) := fun hx => any_take (by omega)
                have HFU : Hid (i = ns → (((linkS os).take i).any fun s => decide (s.name = ny)) = true) := fun hx => by
                  rw [List.take_of_length_le (by omega)]
                  rw [HOK.out.2.2.2.2.2.2, List.any_eq_true]
                  have := look_mem HSY2.out
                  exact ⟨sy, this.1, by simp [this.2]⟩
                obtain ⟨BB, hBB⟩ : ∃ BB, (((linkS os).take i).any fun s => decide (s.name = ny)) = BB := ⟨_, rfl⟩
                rw [hBB] at HAN HFU ⊢
                clear hBB
                have e0 := (HA2.out wr (HBY.out.trans (HB4.out.mono HBY.out.size))).2.2
                by_cases hil : i < ns
                · rcases HS2.out.cells with hx | ⟨sb, so, hA4, hc4⟩
                  · omega
                  obtain ⟨n0, n1, n2⟩ := hc4 i hil
                  have hB5 : Below x2.heap.size x2 wr := HBX.out.trans (HB4.out.mono HBX.out.size)
                  have n0 := cell_thru hB5 n0
                  have n1 := cell_thru hB5 n1
                  have n2 := cell_thru hB5 n2
                  have hAN := HAN.out hil
                  have hms : (linkS os).getD i noSym ∈ L.syms os := by rw [← HOK.out.2.2.2.2.2.2]; simp [List.getD, show i < (linkS os).length by omega]
                  have HUQ : Hid _ := look_uniq HOK.out.2.1 hms
                  have hps := syms_pos os L.zero HOK.out.1.2 _ hms
                  obtain ⟨y, hy⟩ : ∃ y, (linkS os).getD i noSym = y := ⟨_, rfl⟩
                  rw [hy] at n0 n1 n2 hAN HUQ
                  clear hy hc4 hms hps HAN HFU
                  obtain ⟨sn, sk, sp⟩ := y
                  simp only at n0 n1 n2 hAN
                  have HAN : Hid _ := hAN
                  clear hAN
                  subst hA4
                  have hin3 : 0 ≤ (i : Int) := by omega
                  have hii3 : (i : Int) < ns := by omega
                  obtain ⟨Y4, hY4⟩ : ∃ Y, wr.alloc (.cells #[.string sn, .int .i64 sk, .int .i64 sp] 36) = Y := ⟨_, rfl⟩
                  have bY4 : Below wr.heap.size wr Y4 := by subst hY4; exact bl_one _ _
                  have s0 : Y4.cell? ⟨wr.heap.size, 0, none⟩ = some (.string sn) := by subst hY4; exact cell_last rfl rfl
                  have s2 : Y4.cell? ⟨wr.heap.size, 2, none⟩ = some (.int .i64 sp) := by subst hY4; exact cell_last rfl rfl
                  have hB6 : Below Y3.heap.size Y3 Y4 := HB4.out.trans (bY4.mono HB4.out.size)
                  have g1 := (HR3.out Y4 hB6).2.1
                  have g2 := (HR3.out Y4 hB6).2.2.1
                  have g3 := (HR3.out Y4 hB6).2.2.2
                  have HB6 : Hid _ := hB6
                  clear hB6
                  by_cases hnm : sn = ny
                  · subst hnm
                    have hsye : sy = ⟨sn, sk, sp⟩ := by
                      have := HUQ.out
                      rw [HSY2.out] at this
                      exact Option.some.inj this
                    subst hsye
                    simp only at hsp
                    have HAN2 : Hid ((((linkS os).take (i + 1)).any fun s => decide (s.name = sn)) = true) := by show _ = _; rw [HAN.out]; simp
                    have hVL := HVL2.out
                    simp only at hVL
                    clear HAN HUQ HSY2
                    rcases hkind with rfl | rfl
                    · rw [if_pos rfl] at hVL
                      have hck : (pp : Int) + 4 + VV = sp := by have := HP2.out; omega
                      clear hVL HVL2
                      go_wp2_with fail
                      go_roundg (ns - (i + 1))
                      case measure => omega
                      case rel => exact ⟨i + 1, by go_num, by rw [HAN2.out], by omega, Nat.le_refl _, HB6.out⟩
                    · rw [if_neg (by decide)] at hVL
                      have hck : 1048576 + 8 * sp + ay = VV := by omega
                      clear hVL HVL2
                      go_wp2_with fail
                      go_roundg (ns - (i + 1))
                      case measure => omega
                      case rel => exact ⟨i + 1, by go_num, by rw [HAN2.out], by omega, Nat.le_refl _, HB6.out⟩
                  · have HAN2 : Hid ((((linkS os).take (i + 1)).any fun s => decide (s.name = ny)) = BB) := by show _ = _; rw [HAN.out]; simp [hnm]
                    have hne2 := toList_ne hnm
                    clear HAN HUQ
                    go_wp2_with fail
                    go_roundg (ns - (i + 1))
                    case measure => omega
                    case rel => exact ⟨i + 1, by go_num, by rw [HAN2.out], by omega, Nat.le_refl _, HB6.out⟩
                · obtain rfl : i = ns := by omega
                  obtain rfl : BB = true := HFU.out rfl
                  have hii3 : ¬ (i : Int) < i := by omega
                  have HB7 : Hid (Below U.heap.size U wr) := HB3.out.trans (HB4.out.mono HB3.out.size)
                  clear HAN HFU
                  go_wp2_with fail
                  go_roundg (l3 - (j + 1))
                  case measure => omega
                  case rel => exact ⟨j + 1, by go_num, by omega, Nat.le_refl _, HB7.out⟩
            · obtain rfl : j = l3 := by omega
              have hjj : ¬ (j : Int) < j := by omega
              have hsum : ((z.b : Int) + d.code.size) ≤ 65536 := by omega
              have HBB : Hid (Below Y2.heap.size Y2 wr) := HB.out.trans (HB2.out.mono HB.out.size)
              go_wp2_with fail
              go_roundg (l - (k + 1))
              case measure => omega
              case rel => exact ⟨k + 1, by go_num, by rw [HST.out]; go_num, by omega, Nat.le_refl _, HBB.out⟩
        · obtain rfl : k = l := by omega
          have hii : ¬ (k : Int) < k := by omega
          have bw3 : Below w.heap.size w wr := bw2.trans (HB.out.mono bw2.size)
          go_wp2_with (go_at_call 10; refine (live_any _).mono ?_; rintro e y ⟨rfl, hb⟩)
          go_ret
          exact ⟨rfl, bw3.trans (hb.mono bw3.size)⟩
    · have bw3 : Below w.heap.size w x2 := b1.trans (hb2.mono b1.size)
      obtain ⟨EA, hEA⟩ : ∃ EA, linkE os = EA := ⟨_, rfl⟩
      rw [hEA]
      rw [hEA] at h0
      have hne : (EA == 0) = false := by simpa using h0
      obtain ⟨Y2, hY2⟩ : ∃ Y, x2.alloc (.cells #[.string ⟨(linkC os).toArray⟩, .slice p1 (linkD os).length q1, .slice p2 (linkS os).length q2] 29) = Y := ⟨_, rfl⟩
      have bY2 : Below x2.heap.size x2 Y2 := by subst hY2; exact bl_one _ _
      have bw4 : Below w.heap.size w Y2 := bw3.trans (bY2.mono bw3.size)
      clear hEA
      go_wp2_with (go_at_call 10; refine (live_any _).mono ?_; rintro e y ⟨rfl, hb⟩)
      go_ret
      exact ⟨rfl, bw4.trans (hb.mono bw4.size)⟩
end Go.Proofs.Ytaoklmphcgigeaa

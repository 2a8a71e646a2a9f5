/- What mem.Join comes to. -/
import Derived.Test.YtfkpbmopneleiaaMemTouch
namespace Go.Proofs.Ytfkpbmopneleiaa
open Go.RowKit Go.Maps

/-- Several footprints that lie one behind the other. -/
structure FootsV (w : World) (a : Option Addr) (len : Nat) (fs : List (List Int × List Int)) : Prop where
  count : fs.length = len
  cells : len = 0 ∨ ∃ b off, a = some ⟨b, off, none⟩ ∧ ∀ i, i < len → ∃ a1 l1 c1 a2 l2 c2, w.cell? ⟨b, off + i * 2, none⟩ = some (.slice a1 l1 c1) ∧ w.cell? ⟨b, off + i * 2 + 1, none⟩ = some (.slice a2 l2 c2) ∧ View w a1 l1 c1 (fs.getD i ([], [])).1 ∧ View w a2 l2 c2 (fs.getD i ([], [])).2

def rds (fs : List (List Int × List Int)) : List Int := fs.flatMap Prod.fst
def wrs (fs : List (List Int × List Int)) : List Int := fs.flatMap Prod.snd

theorem rds_snoc (fs : List (List Int × List Int)) (k : Nat) (h : k < fs.length) : rds (fs.take (k + 1)) = rds (fs.take k) ++ (fs.getD k ([], [])).1 := by
  rw [List.take_succ_eq_append_getElem h]; unfold rds; rw [List.flatMap_append]; congr 1; simp [List.getD, h]
theorem wrs_snoc (fs : List (List Int × List Int)) (k : Nat) (h : k < fs.length) : wrs (fs.take (k + 1)) = wrs (fs.take k) ++ (fs.getD k ([], [])).2 := by
  rw [List.take_succ_eq_append_getElem h]; unfold wrs; rw [List.flatMap_append]; congr 1; simp [List.getD, h]

theorem rds_le (fs : List (List Int × List Int)) (k : Nat) : (rds (fs.take k)).length ≤ (rds fs).length := by
  conv => rhs; rw [← List.take_append_drop k fs]
  simp only [rds, List.flatMap_append, List.length_append]; omega
theorem wrs_le (fs : List (List Int × List Int)) (k : Nat) : (wrs (fs.take k)).length ≤ (wrs fs).length := by
  conv => rhs; rw [← List.take_append_drop k fs]
  simp only [wrs, List.flatMap_append, List.length_append]; omega

/-- What holds of every world behind the making of the result's place. -/
theorem behind {w X : World} (hX : Below (w.heap.size + 1) (w.alloc (.cells #[.slice none 0 0, .slice none 0 0] 40)) X) : X.cell? ⟨w.heap.size, 0, none⟩ = some (.slice none 0 0) ∧ X.cell? ⟨w.heap.size, 1, none⟩ = some (.slice none 0 0) ∧ X.frozen? ⟨w.heap.size, 0, none⟩ = false ∧ X.frozen? ⟨w.heap.size, 1, none⟩ = false ∧ Below w.heap.size w X := by
  have hY : Below w.heap.size w (w.alloc (.cells #[.slice none 0 0, .slice none 0 0] 40)) := (Below.refl _ _).alloc (Nat.le_refl _) _
  exact ⟨(hX.cell (p := ⟨w.heap.size, 0, none⟩) (by simp)).trans (by simp), (hX.cell (p := ⟨w.heap.size, 1, none⟩) (by simp)).trans (by simp), (hX.frozen (p := ⟨w.heap.size, 0, none⟩) (by simp)).trans (by simp), (hX.frozen (p := ⟨w.heap.size, 1, none⟩) (by simp)).trans (by simp), hY.trans (hX.mono (Nat.le_succ _))⟩

set_option maxRecDepth 100000 in
set_option maxHeartbeats 4000000 in
theorem join_any {w : World} {a : Option Addr} {len cap : Nat} {fs : List (List Int × List Int)} (h : FootsV w a len fs) (h1 : (rds fs).length ≤ 17592186044416) (h2 : (wrs fs).length ≤ 17592186044416) (hl : len ≤ 140737488355328) :
    Calls Try.prog 23 #[.slice a len cap] w fun e w' => ∃ a1 c1 L1 a2 c2 L2, e = .returned (.agg #[.slice a1 L1.length c1, .slice a2 L2.length c2]) ∧ M.Ris L1 (· ∈ rds fs) ∧ M.Ris L2 (· ∈ wrs fs) ∧ View w' a1 L1.length c1 L1 ∧ View w' a2 L2.length c2 L2 ∧ Below w.heap.size w w' := by
  have HV : Hid _ := h
  have hcnt := h.count
  clear h
  go_enter Try.func23, Try.ntmps23
  go_wp2_with fail
  refine (new_touched _).mono ?_
  rintro e x1 ⟨rfl, m1, m2, hs, hb⟩
  simp only [World.size_alloc] at m1 m2 hs
  have hb0 : Below (w.heap.size + 1) (w.alloc (.cells #[.slice none 0 0, .slice none 0 0] 40)) (x1.alloc (.cells #[.map (some (w.heap.size + 1 + 1)), .map (some (w.heap.size + 1 + 2))] 61)) := (Below.alloc (by simpa using hb) (by omega) _)
  have hT0 : Touch (x1.alloc (.cells #[.map (some (w.heap.size + 1 + 1)), .map (some (w.heap.size + 1 + 2))] 61)) (w.heap.size + 1 + 3) [] [] (w.heap.size + 1 + 1) (w.heap.size + 1 + 2) 0 0 :=
    ⟨cell_last _ _ _ _ _ hs.symm rfl, cell_last _ _ _ _ _ hs.symm rfl, by omega, by omega, m1.alloc _, m2.alloc _⟩
  have hsz0 : (x1.alloc (.cells #[.map (some (w.heap.size + 1 + 1)), .map (some (w.heap.size + 1 + 2))] 61)).heap.size = w.heap.size + 5 := by simp; omega
  have H0 : Hid _ := hb0
  have HT0 : Hid _ := hT0
  have HS0 : Hid _ := hsz0
  clear m1 m2 hb hb0 hT0 hsz0
  go_wp2
  go_loopw [13] (fun i wr => ∃ k : Nat, k ≤ len ∧ i = .int .i64 k ∧ Hid (Touch wr (w.heap.size + 1 + 3) (rds (fs.take k)) (wrs (fs.take k)) (w.heap.size + 1 + 1) (w.heap.size + 1 + 2) (rds (fs.take k)).length (wrs (fs.take k)).length) ∧ w.heap.size + 5 ≤ wr.heap.size ∧ Hid (Below (w.heap.size + 1) (w.alloc (.cells #[.slice none 0 0, .slice none 0 0] 40)) wr)) (fun i _ => len - (RowKit.intOf i).toNat)
  case atStart => exact ⟨0, by omega, rfl, HT0.out, by rw [HS0.out]; exact Nat.le_refl _, H0.out⟩
  case round =>
    obtain ⟨k, hk, rfl, HT, hsz, HB⟩ := hrel
    clear H0 HT0 HS0
    by_cases hlt : k < len
    · rcases HV.out.cells with h0 | ⟨b, off, hA, hc⟩
      · omega
      obtain ⟨a1, l1, c1, a2, l2, c2, hk1, hk2, V1, V2⟩ := hc k hlt
      have hbw := (behind HB.out).2.2.2.2
      have hc1 : wr.cell? ⟨b, off + k * 2, none⟩ = some (.slice a1 l1 c1) := (hbw.cell (p := ⟨b, off + k * 2, none⟩) (World.block_lt_of_cell? w ⟨b, off + k * 2, none⟩ hk1)).trans hk1
      have hc2 : wr.cell? ⟨b, off + k * 2 + 1, none⟩ = some (.slice a2 l2 c2) := (hbw.cell (p := ⟨b, off + k * 2 + 1, none⟩) (World.block_lt_of_cell? w ⟨b, off + k * 2 + 1, none⟩ hk2)).trans hk2
      have hR := rds_snoc fs k (by omega)
      have hW := wrs_snoc fs k (by omega)
      have hRl := rds_le fs (k + 1)
      have hWl := wrs_le fs (k + 1)
      rw [hR, List.length_append] at hRl
      rw [hW, List.length_append] at hWl
      generalize (fs.getD k ([], [])).1 = rs at *
      generalize (fs.getD k ([], [])).2 = ws at *
      generalize rds (fs.take k) = Rk at *
      generalize wrs (fs.take k) = Wk at *
      have hn1 := V1.count
      have hn2 := V2.count
      have HR : Hid _ := hR
      have HW : Hid _ := hW
      have HV1 : Hid _ := V1
      have HV2 : Hid _ := V2
      subst hA
      clear hc hk1 hk2 hR hW V1 V2 hbw
      obtain ⟨wo, rfl⟩ : ∃ wo : World, wo = wr := ⟨_, rfl⟩
      go_wp2
      go_loopw [20] (fun i wr => ∃ j : Nat, j ≤ l1 ∧ i = .int .i64 j ∧ Hid (Touch wr (w.heap.size + 1 + 3) (Rk ++ rs.take j) (Wk) (w.heap.size + 1 + 1) (w.heap.size + 1 + 2) (Rk.length + j) (Wk.length)) ∧ w.heap.size + 5 ≤ wr.heap.size ∧ wo.heap.size < wr.heap.size ∧ wr.cell? ⟨wo.heap.size, 1, none⟩ = some (.slice a2 l2 c2) ∧ Hid (Below (w.heap.size + 1) (w.alloc (.cells #[.slice none 0 0, .slice none 0 0] 40)) wr)) (fun i _ => l1 - (RowKit.intOf i).toNat)
      case atStart => exact ⟨0, by omega, rfl, by show Touch _ _ _ _ _ _ _ _; simpa using (HT.out.below ((Below.refl _ _).alloc (Nat.le_refl _) _)), by simp; omega, by simp, cell_last _ _ _ _ _ rfl rfl, Below.alloc HB.out (by omega) _⟩
      case round =>
        obtain ⟨j, hjj, rfl, HTj, hzj, hoj, hcl, HBj⟩ := hrel
        by_cases hltj : j < l1
        · rcases HV1.out.cells with h0 | ⟨bj, oj, hAj, hcj⟩
          · omega
          have hck := hcj j hltj
          have hbw := (behind HBj.out).2.2.2.2
          have hck' : wr.cell? ⟨bj, oj + j, none⟩ = some (.int .i64 (rs.getD j 0)) := (hbw.cell (p := ⟨bj, oj + j, none⟩) (World.block_lt_of_cell? w ⟨bj, oj + j, none⟩ hck)).trans hck
          have hwf := getD_wf HV1.out.fits j
          have hTk := take_snoc rs j (by omega)
          generalize rs.getD j 0 = x at *
          have HWF : Hid _ := hwf
          have HTK : Hid _ := hTk
          subst hAj
          clear hcj hck hbw hwf hTk
          go_wp2_with fail
          refine (read_any HTj.out x HWF.out (by unfold maxLen; omega)).mono ?_
          rintro e x2 ⟨rfl, hT2, hg⟩
          have HT2 : Hid (Touch x2 (w.heap.size + 1 + 3) (Rk ++ rs.take (j + 1)) (Wk) (w.heap.size + 1 + 1) (w.heap.size + 1 + 2) (Rk.length + (j + 1)) (Wk.length)) := by show Touch _ _ _ _ _ _ _ _; rw [HTK.out]; simpa [List.append_assoc, Nat.add_assoc] using hT2
          have hgs := hg.size
          have HB2 : Hid _ := HBj.out.grown hg (by omega) (fun j hj => by cases hj; omega)
          have hcl2 := hg.cell hcl (by simp; omega)
          clear hT2 hg hck' HTj HBj hcl
          go_wp2
          go_roundw
          case rel => exact ⟨j + 1, by omega, by go_num, HT2, by omega, by omega, hcl2, HB2⟩
          case measure => simp [RowKit.intOf]; omega
        · obtain rfl : l1 = j := by omega
          have HTj2 : Hid (Touch wr (w.heap.size + 1 + 3) (Rk ++ rs) Wk (w.heap.size + 1 + 1) (w.heap.size + 1 + 2) (Rk.length + l1) Wk.length) := by
            show Touch _ _ _ _ _ _ _ _
            have t := HTj.out
            rw [List.take_of_length_le (by omega)] at t
            exact t
          clear HTj
          go_wp2
          go_loopw [30] (fun i wr => ∃ m : Nat, m ≤ l2 ∧ i = .int .i64 m ∧ Hid (Touch wr (w.heap.size + 1 + 3) (Rk ++ rs) (Wk ++ ws.take m) (w.heap.size + 1 + 1) (w.heap.size + 1 + 2) (Rk.length + l1) (Wk.length + m)) ∧ w.heap.size + 5 ≤ wr.heap.size ∧ wo.heap.size < wr.heap.size ∧ Hid (Below (w.heap.size + 1) (w.alloc (.cells #[.slice none 0 0, .slice none 0 0] 40)) wr)) (fun i _ => l2 - (RowKit.intOf i).toNat)
          case atStart => exact ⟨0, by omega, rfl, by show Touch _ _ _ _ _ _ _ _; simpa using HTj2.out, hzj, hoj, HBj⟩
          case round =>
            obtain ⟨m, hjm, rfl, HTm, hzm, hom, HBm⟩ := hrel
            by_cases hltm : m < l2
            · rcases HV2.out.cells with h0 | ⟨bm, om, hAm, hcm⟩
              · omega
              have hck := hcm m hltm
              have hbw := (behind HBm.out).2.2.2.2
              have hck' : wr.cell? ⟨bm, om + m, none⟩ = some (.int .i64 (ws.getD m 0)) := (hbw.cell (p := ⟨bm, om + m, none⟩) (World.block_lt_of_cell? w ⟨bm, om + m, none⟩ hck)).trans hck
              have hwf := getD_wf HV2.out.fits m
              have hTk := take_snoc ws m (by omega)
              generalize ws.getD m 0 = x at *
              have HWF : Hid _ := hwf
              have HTK : Hid _ := hTk
              subst hAm
              clear hcm hck hbw hwf hTk
              go_wp2_with fail
              refine (wrote_any HTm.out x HWF.out (by unfold maxLen; omega)).mono ?_
              rintro e x2 ⟨rfl, hT2, hg⟩
              have HT2 : Hid (Touch x2 (w.heap.size + 1 + 3) (Rk ++ rs) (Wk ++ ws.take (m + 1)) (w.heap.size + 1 + 1) (w.heap.size + 1 + 2) (Rk.length + l1) (Wk.length + (m + 1))) := by show Touch _ _ _ _ _ _ _ _; rw [HTK.out]; simpa [List.append_assoc, Nat.add_assoc] using hT2
              have hgs := hg.size
              have HB2 : Hid _ := HBm.out.grown hg (by omega) (fun j hj => by cases hj; omega)
              clear hT2 hg hck' HTm HBm
              go_wp2
              go_roundw
              case rel => exact ⟨m + 1, by omega, by go_num, HT2, by omega, by omega, HB2⟩
              case measure => simp [RowKit.intOf]; omega
            · obtain rfl : l2 = m := by omega
              have HT3 : Hid (Touch wr (w.heap.size + 1 + 3) (rds (fs.take (k + 1))) (wrs (fs.take (k + 1))) (w.heap.size + 1 + 1) (w.heap.size + 1 + 2) (rds (fs.take (k + 1))).length (wrs (fs.take (k + 1))).length) := by
                show Touch _ _ _ _ _ _ _ _
                have t := HTm.out
                rw [List.take_of_length_le (by omega)] at t
                rw [HR.out, HW.out, List.length_append, List.length_append, hn1, hn2]
                exact t
              clear HTm
              go_wp2
              go_roundw
              case rel => exact ⟨k + 1, by omega, by go_num, HT3, hzm, HBm⟩
              case measure => simp [RowKit.intOf]; omega
    · have hT := HT.out
      rw [List.take_of_length_le (by omega)] at hT
      have HT1 : Hid _ := hT
      clear hT HT HV
      go_wp2_with fail
      refine (listed_any HT1.out (by omega) (by omega)).mono ?_
      rintro e x3 ⟨a1, c1, L1, a2, c2, L2, rfl, R1, R2, F1, F2, O1, O2, b3⟩
      obtain ⟨y0, y1, y2, y3, hBx⟩ := behind (HB.out.trans (b3.mono (by omega)))
      have P : Hid _ := And.intro R1 (And.intro R2 (And.intro F1 (And.intro F2 (And.intro O1 O2))))
      clear R1 R2 F1 F2 O1 O2 b3 HB HT1
      go_wp2
      have O1 := ownsRow_setCell_below (ownsRow_setCell_below (a := ⟨w.heap.size, 0, none⟩) (own_base P.out.2.2.2.2.1 (show w.heap.size + 1 ≤ wr.heap.size + 1 by omega)) (by simp) (.slice a1 L1.length c1)) (a := ⟨w.heap.size, 1, none⟩) (by simp) (.slice a2 L2.length c2)
      have O2 := ownsRow_setCell_below (ownsRow_setCell_below (a := ⟨w.heap.size, 0, none⟩) (own_base P.out.2.2.2.2.2 (show w.heap.size + 1 ≤ wr.heap.size + 1 by omega)) (by simp) (.slice a1 L1.length c1)) (a := ⟨w.heap.size, 1, none⟩) (by simp) (.slice a2 L2.length c2)
      obtain ⟨p1, d1, e1, V1⟩ := view_own P.out.2.2.1 O1
      obtain ⟨p2, d2, e2, V2⟩ := view_own P.out.2.2.2.1 O2
      simp only [Value.slice.injEq, true_and] at e1 e2
      obtain ⟨rfl, rfl⟩ := e1
      obtain ⟨rfl, rfl⟩ := e2
      refine bodyPost_ret (v := .agg #[.slice a1 L1.length c1, .slice a2 L2.length c2]) (by simp [results, Try.results23, go_sem, y0, y1]) rfl ⟨a1, c1, L1, a2, c2, L2, rfl, P.out.1, P.out.2.1, V1, V2, ?_⟩
      exact (hBx.setCell (by simp) _).setCell (by simp) _

end Go.Proofs.Ytfkpbmopneleiaa

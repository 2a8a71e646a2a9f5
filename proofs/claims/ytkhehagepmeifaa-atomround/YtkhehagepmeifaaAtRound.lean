/- Numbers that are put into a queue are got as they were. (Written by gen_round.py.) -/
import Derived.Test.YtkhehagepmeifaaAtLive
namespace Go.Proofs.Ytkhehagepmeifaa
open Go.RowKit Go.Maps Go.Lib
set_option linter.unusedVariables false
set_option linter.unusedSimpArgs false

def pos (l : List Int) : List Int := l.filter (fun z => decide (0 ≤ z))
theorem pos_nn (l : List Int) : ∀ z ∈ pos l, 0 ≤ z := fun z hz => by
  have := (List.mem_filter.1 hz).2
  simpa using this
theorem pos_len (l : List Int) : (pos l).length ≤ l.length := List.length_filter_le _ _
theorem take_snocI (zs : List Int) (k : Nat) (h : k < zs.length) : zs.take (k + 1) = zs.take k ++ [zs.getD k 0] := by
  rw [List.take_succ_eq_append_getElem h]; congr 1; simp [List.getD, h]
theorem drop_consI (zs : List Int) (k : Nat) (h : k < zs.length) : zs.drop k = zs.getD k 0 :: zs.drop (k + 1) := by
  rw [List.drop_eq_getElem_cons h]; congr 1; simp [List.getD, h]
theorem pos_snoc_yes (l : List Int) {z : Int} (h : 0 ≤ z) : pos (l ++ [z]) = pos l ++ [z] := by simp [pos, List.filter_append, h]
theorem pos_snoc_no (l : List Int) {z : Int} (h : ¬ 0 ≤ z) : pos (l ++ [z]) = pos l := by simp [pos, List.filter_append, h]
theorem pos_cons_yes (l : List Int) {z : Int} (h : 0 ≤ z) : pos (z :: l) = z :: pos l := by simp [pos, h]
theorem pos_cons_no (l : List Int) {z : Int} (h : ¬ 0 ≤ z) : pos (z :: l) = pos l := by simp [pos, h]
theorem IntsV.cut {w : World} {a : Option Addr} {l c : Nat} {zs : List Int} (h : IntsV w a l c zs) {m : Nat} (hm : m ≤ l) (h0 : 0 < l) : IntsV w a m c (zs.take m) := by
  have hc := h.count
  have hr := h.room
  refine ⟨by rw [List.length_take]; omega, fun n hn => h.fits n (List.mem_of_mem_take hn), fun e => ?_, ⟨by omega, hr.2⟩, ?_⟩
  · have := h.nilOf e; omega
  · rcases h.cells with h1 | ⟨b, off, ha, hcl⟩
    · omega
    · refine .inr ⟨b, off, ha, fun i hi => ?_⟩
      rw [hcl i (by omega)]
      simp [List.getD, hi]
theorem qu_items {n : Int} {zs : List Int} (h : zs.length ≤ 1000) : ∀ x ∈ quA n zs, x.items.length * 8 ≤ 140737488355328 := fun x hx => by simp [quA] at hx; subst hx; simp; omega

set_option maxRecDepth 100000 in
set_option maxHeartbeats 8000000 in
theorem round_any {w : World} {a : Option Addr} {l c : Nat} {zs : List Int} (h : IntsV w a l c zs) :
    Calls Try.prog 7 #[.slice a l c] w fun e w' => e = .returned (.bool true) ∧ Below w.heap.size w w' := by
  by_cases h8 : l ≤ 8
  · have HV : Hid (IntsV w a l c zs) := h
    have hl8 : ¬ (8 : Int) < l := by omega
    clear h
    have HC : Hid (zs.length = l) := HV.out.count
    have HQ : Hid _ := ats_one w nmQ 8 0 (fit_lit _ (by decide) (by decide) (by decide))
    obtain ⟨W1, hW1⟩ : ∃ W1, w.alloc (.cells #[.string { data := #[113] }, .int .i64 8, .int .i64 0, .slice none 0 0] 35) = W1 := ⟨_, rfl⟩
    have b1 : Below w.heap.size w W1 := by subst hW1; exact bl_one _ _
    have HQ1 : Hid (AtsV W1 (some ⟨w.heap.size, 0, none⟩) 1 1 (quA 8 (pos (zs.take 0)))) := by show AtsV _ _ _ _ _; subst hW1; exact HQ.out
    have HB1 : Hid _ := b1
    clear b1 HQ
    go_enter Try.func7, Try.ntmps7
    go_wp2_with fail
    go_loopg [3, 4] l (fun r qv iv wq => ∃ (k g : Nat), qv = .slice (some ⟨g, 0, none⟩) 1 1 ∧ iv = .int .i64 k ∧ k ≤ l ∧ l - k ≤ r ∧ Hid (AtsV wq (some ⟨g, 0, none⟩) 1 1 (quA 8 (pos (zs.take k)))) ∧ Hid (Below w.heap.size w wq))
    case atStart => exact ⟨0, _, rfl, rfl, Nat.zero_le _, by omega, HQ1.out, HB1.out⟩
    case round =>
      obtain ⟨k, g, rfl, rfl, hk, hr, HAV, HBL⟩ := hrel
      by_cases hlt : k < l
      · rcases HV.out.cells with h0 | ⟨b, off, hA, hc⟩
        · omega
        have q0 := cell_thru HBL.out (hc k hlt)
        have HZC : Hid _ := hc k hlt
        have HFZ : Hid _ := HV.out.fits (zs.getD k 0) (by have := HC.out; simp [List.getD, show k < zs.length by omega])
        have HTK : Hid _ := take_snocI zs k (by have := HC.out; omega)
        obtain ⟨z, hz⟩ : ∃ z, zs.getD k 0 = z := ⟨_, rfl⟩
        rw [hz] at q0 HFZ HTK HZC
        have hii : (k : Int) < l := by omega
        have hin : 0 ≤ (k : Int) := by omega
        have HT0 : Hid (0 ≤ (k : Int) % 4) := by show _ ≤ _; omega
        have HT3 : Hid ((k : Int) % 4 ≤ 3) := by show _ ≤ _; omega
        have HPL : Hid ((pos (zs.take k)).length < 8) := by
          show _ < _
          have := pos_len (zs.take k)
          rw [List.length_take] at this
          omega
        cases hA
        clear hc hz
        by_cases hneg : 0 ≤ z
        · have HDO : Hid (doA (quA 8 (pos (zs.take k))) ((k : Int) % 4) 3 nmQ z = (quA 8 (pos (zs.take (k + 1))), 1, 0)) := by
            show _ = _
            have := HPL.out
            rw [put_yes (by decide) (by decide) (by omega) (pos_nn _) HT0.out HT3.out (by omega), HTK.out, pos_snoc_yes _ hneg]
          go_wp2_with fail
          refine (do_ats HAV.out (by decide) (qu_items (by have := HPL.out; omega)) HFZ.out HDO.out).mono ?_
          rintro e y ⟨rfl, h1, g1⟩
          have q1 := cell_thru g1 q0
          have A1 : Hid _ := h1
          have B1 : Hid _ := HBL.out.trans (g1.mono HBL.out.size)
          clear h1 g1 q0
          go_wp2_with fail
          go_roundg (l - (k + 1))
          case measure => omega
          case rel => exact ⟨k + 1, _, rfl, by first | rfl | (congr 1; omega), by omega, Nat.le_refl _, A1.out, B1.out⟩
        · have HDO : Hid (doA (quA 8 (pos (zs.take k))) ((k : Int) % 4) 3 nmQ z = (quA 8 (pos (zs.take (k + 1))), 0, 0)) := by
            show _ = _
            have := HPL.out
            rw [put_no (by decide) (by decide) (by omega) (pos_nn _) HT0.out HT3.out (by omega), HTK.out, pos_snoc_no _ hneg]
          go_wp2_with fail
          refine (do_ats HAV.out (by decide) (qu_items (by have := HPL.out; omega)) HFZ.out HDO.out).mono ?_
          rintro e y ⟨rfl, h1, g1⟩
          have q1 := cell_thru g1 q0
          have A1 : Hid _ := h1
          have B1 : Hid _ := HBL.out.trans (g1.mono HBL.out.size)
          clear h1 g1 q0
          go_wp2_with fail
          go_roundg (l - (k + 1))
          case measure => omega
          case rel => exact ⟨k + 1, _, rfl, by first | rfl | (congr 1; omega), by omega, Nat.le_refl _, A1.out, B1.out⟩
      · obtain rfl : k = l := by omega
        have HA2 : Hid (AtsV wr (some ⟨g, 0, none⟩) 1 1 (quA 8 (pos (zs.drop 0)))) := by
          have := HAV.out
          rw [List.take_of_length_le (by have := HC.out; omega)] at this
          exact this
        have HB2 : Hid _ := HBL.out
        clear HAV HBL
        generalize wr = wo at *
        generalize g = go at *
        go_wp2_with fail
        go_loopg [3, 8] k (fun r qv iv wq => ∃ (j g : Nat), qv = .slice (some ⟨g, 0, none⟩) 1 1 ∧ iv = .int .i64 j ∧ j ≤ k ∧ k - j ≤ r ∧ Hid (AtsV wq (some ⟨g, 0, none⟩) 1 1 (quA 8 (pos (zs.drop j)))) ∧ Hid (Below w.heap.size w wq))
        case atStart => exact ⟨0, _, rfl, rfl, Nat.zero_le _, by omega, HA2.out, HB2.out⟩
        case round =>
          obtain ⟨j, g, rfl, rfl, hj, hr2, HAV, HBL⟩ := hrel
          by_cases hlt2 : j < k
          · rcases HV.out.cells with h0 | ⟨b, off, hA, hc⟩
            · omega
            have q0 := cell_thru HBL.out (hc j hlt2)
            have HDR : Hid _ := drop_consI zs j (by have := HC.out; omega)
            obtain ⟨z, hz⟩ : ∃ z, zs.getD j 0 = z := ⟨_, rfl⟩
            rw [hz] at q0 HDR
            have hii : (j : Int) < k := by omega
            have hin : 0 ≤ (j : Int) := by omega
            have HT0 : Hid (0 ≤ (j : Int) % 4) := by show _ ≤ _; omega
            have HT3 : Hid ((j : Int) % 4 ≤ 3) := by show _ ≤ _; omega
            have HPL : Hid ((pos (zs.drop j)).length ≤ 8) := by
              show _ ≤ _
              have := pos_len (zs.drop j)
              rw [List.length_drop] at this
              have := HC.out
              omega
            cases hA
            clear hc hz
            by_cases hneg : 0 ≤ z
            · have HPE : Hid (pos (zs.drop j) = z :: pos (zs.drop (j + 1))) := by show _ = _; rw [HDR.out, pos_cons_yes _ hneg]
              have HDO : Hid (doA (quA 8 (pos (zs.drop j))) ((j : Int) % 4) 4 nmQ 0 = (quA 8 (pos (zs.drop (j + 1))), z, 0)) := by
                show _ = _
                have h8 := HPL.out
                have hn := pos_nn (zs.drop j)
                rw [HPE.out] at h8 hn ⊢
                exact get_yes (by decide) (by decide) (by omega) hn HT0.out HT3.out
              go_wp2_with fail
              refine (do_ats HAV.out (by decide) (qu_items (by have := HPL.out; omega)) (by decide) HDO.out).mono ?_
              rintro e y ⟨rfl, h1, g1⟩
              have q1 := cell_thru g1 q0
              have A1 : Hid _ := h1
              have B1 : Hid _ := HBL.out.trans (g1.mono HBL.out.size)
              clear h1 g1 q0
              go_wp2_with fail
              go_roundg (k - (j + 1))
              case measure => omega
              case rel => exact ⟨j + 1, _, rfl, by first | rfl | (congr 1; omega), by omega, Nat.le_refl _, A1.out, B1.out⟩
            · have A1 : Hid (AtsV wr (some ⟨g, 0, none⟩) 1 1 (quA 8 (pos (zs.drop (j + 1))))) := by
                have := HAV.out
                rw [HDR.out, pos_cons_no _ hneg] at this
                exact this
              go_wp2_with fail
              go_roundg (k - (j + 1))
              case measure => omega
              case rel => exact ⟨j + 1, _, rfl, by first | rfl | (congr 1; omega), by omega, Nat.le_refl _, A1.out, HBL.out⟩
          · obtain rfl : j = k := by omega
            have HA3 : Hid (AtsV wr (some ⟨g, 0, none⟩) 1 1 (quA 8 [])) := by
              have := HAV.out
              rw [List.drop_eq_nil_of_le (by have := HC.out; omega)] at this
              exact this
            clear HAV
            have HE : Hid _ := get_no (n := 8) (th := 0) (arg := 0) (by decide) (by decide) (by decide) (by decide)
            go_wp2_with fail
            refine (do_ats HA3.out (by decide) (by simp [quA]) (by decide) HE.out).mono ?_
            rintro e y ⟨rfl, h1, g1⟩
            have A4 : Hid _ := HA3.out.below g1
            have B4 : Hid _ := HBL.out.trans (g1.mono HBL.out.size)
            clear h1 g1
            have HQ5 : Hid _ := ats_one y nmQ 8 0 (fit_lit _ (by decide) (by decide) (by decide))
            obtain ⟨W5, hW5⟩ : ∃ W5, y.alloc (.cells #[.string { data := #[113] }, .int .i64 8, .int .i64 0, .slice none 0 0] 35) = W5 := ⟨_, rfl⟩
            have b5 : Below y.heap.size y W5 := by subst hW5; exact bl_one _ _
            have HQ6 : Hid (AtsV W5 (some ⟨y.heap.size, 0, none⟩) 1 1 (quA 8 [])) := by show AtsV _ _ _ _ _; subst hW5; exact HQ5.out
            have A5 : Hid _ := A4.out.below b5
            have B5 : Hid _ := B4.out.trans (b5.mono B4.out.size)
            clear b5 HQ5
            go_wp2_with fail
            refine (same_any A5.out HQ6.out true (by simp)).mono ?_
            rintro e y6 ⟨rfl, g6⟩
            have B6 : Hid _ := B5.out.trans (g6.mono B5.out.size)
            clear g6
            go_wp2_with fail
            refine (live_any _).mono ?_
            rintro e y7 ⟨rfl, g7⟩
            have B7 : Hid _ := B6.out.trans (g7.mono B6.out.size)
            clear g7
            go_wp2
            go_ret
            exact ⟨rfl, B7.out⟩
  · have HV : Hid (IntsV w a 8 c (zs.take 8)) := h.cut (by omega) (by omega)
    have hrm := h.room
    have hnil : a = none → False := fun e => by have := h.nilOf e; omega
    obtain ⟨ad, rfl⟩ : ∃ ad, a = some ad := by cases a with | none => exact absurd rfl hnil | some ad => exact ⟨ad, rfl⟩
    have hl8 : (8 : Int) < l := by omega
    have hc8 : (8 : Int) ≤ c := by omega
    have hc8' : 8 ≤ c := by omega
    clear h hnil
    generalize zs.take 8 = ys at HV
    have HC : Hid (ys.length = 8) := HV.out.count
    have HQ : Hid _ := ats_one w nmQ 8 0 (fit_lit _ (by decide) (by decide) (by decide))
    obtain ⟨W1, hW1⟩ : ∃ W1, w.alloc (.cells #[.string { data := #[113] }, .int .i64 8, .int .i64 0, .slice none 0 0] 35) = W1 := ⟨_, rfl⟩
    have b1 : Below w.heap.size w W1 := by subst hW1; exact bl_one _ _
    have HQ1 : Hid (AtsV W1 (some ⟨w.heap.size, 0, none⟩) 1 1 (quA 8 (pos (ys.take 0)))) := by show AtsV _ _ _ _ _; subst hW1; exact HQ.out
    have HB1 : Hid _ := b1
    clear b1 HQ
    go_enter Try.func7, Try.ntmps7
    go_wp2_with fail
    go_loopg [3, 4] 8 (fun r qv iv wq => ∃ (k g : Nat), qv = .slice (some ⟨g, 0, none⟩) 1 1 ∧ iv = .int .i64 k ∧ k ≤ 8 ∧ 8 - k ≤ r ∧ Hid (AtsV wq (some ⟨g, 0, none⟩) 1 1 (quA 8 (pos (ys.take k)))) ∧ Hid (Below w.heap.size w wq))
    case atStart => exact ⟨0, _, rfl, rfl, Nat.zero_le _, by omega, HQ1.out, HB1.out⟩
    case round =>
      obtain ⟨k, g, rfl, rfl, hk, hr, HAV, HBL⟩ := hrel
      by_cases hlt : k < 8
      · rcases HV.out.cells with h0 | ⟨b, off, hA, hc⟩
        · omega
        have q0 := cell_thru HBL.out (hc k hlt)
        have HZC : Hid _ := hc k hlt
        have HFZ : Hid _ := HV.out.fits (ys.getD k 0) (by have := HC.out; simp [List.getD, show k < ys.length by omega])
        have HTK : Hid _ := take_snocI ys k (by have := HC.out; omega)
        obtain ⟨z, hz⟩ : ∃ z, ys.getD k 0 = z := ⟨_, rfl⟩
        rw [hz] at q0 HFZ HTK HZC
        have hii : (k : Int) < 8 := by omega
        have hin : 0 ≤ (k : Int) := by omega
        have HT0 : Hid (0 ≤ (k : Int) % 4) := by show _ ≤ _; omega
        have HT3 : Hid ((k : Int) % 4 ≤ 3) := by show _ ≤ _; omega
        have HPL : Hid ((pos (ys.take k)).length < 8) := by
          show _ < _
          have := pos_len (ys.take k)
          rw [List.length_take] at this
          omega
        cases hA
        clear hc hz
        by_cases hneg : 0 ≤ z
        · have HDO : Hid (doA (quA 8 (pos (ys.take k))) ((k : Int) % 4) 3 nmQ z = (quA 8 (pos (ys.take (k + 1))), 1, 0)) := by
            show _ = _
            have := HPL.out
            rw [put_yes (by decide) (by decide) (by omega) (pos_nn _) HT0.out HT3.out (by omega), HTK.out, pos_snoc_yes _ hneg]
          go_wp2_with fail
          refine (do_ats HAV.out (by decide) (qu_items (by have := HPL.out; omega)) HFZ.out HDO.out).mono ?_
          rintro e y ⟨rfl, h1, g1⟩
          have q1 := cell_thru g1 q0
          have A1 : Hid _ := h1
          have B1 : Hid _ := HBL.out.trans (g1.mono HBL.out.size)
          clear h1 g1 q0
          go_wp2_with fail
          go_roundg (8 - (k + 1))
          case measure => omega
          case rel => exact ⟨k + 1, _, rfl, by first | rfl | (congr 1; omega), by omega, Nat.le_refl _, A1.out, B1.out⟩
        · have HDO : Hid (doA (quA 8 (pos (ys.take k))) ((k : Int) % 4) 3 nmQ z = (quA 8 (pos (ys.take (k + 1))), 0, 0)) := by
            show _ = _
            have := HPL.out
            rw [put_no (by decide) (by decide) (by omega) (pos_nn _) HT0.out HT3.out (by omega), HTK.out, pos_snoc_no _ hneg]
          go_wp2_with fail
          refine (do_ats HAV.out (by decide) (qu_items (by have := HPL.out; omega)) HFZ.out HDO.out).mono ?_
          rintro e y ⟨rfl, h1, g1⟩
          have q1 := cell_thru g1 q0
          have A1 : Hid _ := h1
          have B1 : Hid _ := HBL.out.trans (g1.mono HBL.out.size)
          clear h1 g1 q0
          go_wp2_with fail
          go_roundg (8 - (k + 1))
          case measure => omega
          case rel => exact ⟨k + 1, _, rfl, by first | rfl | (congr 1; omega), by omega, Nat.le_refl _, A1.out, B1.out⟩
      · obtain rfl : k = 8 := by omega
        have HA2 : Hid (AtsV wr (some ⟨g, 0, none⟩) 1 1 (quA 8 (pos (ys.drop 0)))) := by
          have := HAV.out
          rw [List.take_of_length_le (by have := HC.out; omega)] at this
          exact this
        have HB2 : Hid _ := HBL.out
        clear HAV HBL
        generalize wr = wo at *
        generalize g = go at *
        go_wp2_with fail
        go_loopg [3, 8] 8 (fun r qv iv wq => ∃ (j g : Nat), qv = .slice (some ⟨g, 0, none⟩) 1 1 ∧ iv = .int .i64 j ∧ j ≤ 8 ∧ 8 - j ≤ r ∧ Hid (AtsV wq (some ⟨g, 0, none⟩) 1 1 (quA 8 (pos (ys.drop j)))) ∧ Hid (Below w.heap.size w wq))
        case atStart => exact ⟨0, _, rfl, rfl, Nat.zero_le _, by omega, HA2.out, HB2.out⟩
        case round =>
          obtain ⟨j, g, rfl, rfl, hj, hr2, HAV, HBL⟩ := hrel
          by_cases hlt2 : j < 8
          · rcases HV.out.cells with h0 | ⟨b, off, hA, hc⟩
            · omega
            have q0 := cell_thru HBL.out (hc j hlt2)
            have HDR : Hid _ := drop_consI ys j (by have := HC.out; omega)
            obtain ⟨z, hz⟩ : ∃ z, ys.getD j 0 = z := ⟨_, rfl⟩
            rw [hz] at q0 HDR
            have hii : (j : Int) < 8 := by omega
            have hin : 0 ≤ (j : Int) := by omega
            have HT0 : Hid (0 ≤ (j : Int) % 4) := by show _ ≤ _; omega
            have HT3 : Hid ((j : Int) % 4 ≤ 3) := by show _ ≤ _; omega
            have HPL : Hid ((pos (ys.drop j)).length ≤ 8) := by
              show _ ≤ _
              have := pos_len (ys.drop j)
              rw [List.length_drop] at this
              have := HC.out
              omega
            cases hA
            clear hc hz
            by_cases hneg : 0 ≤ z
            · have HPE : Hid (pos (ys.drop j) = z :: pos (ys.drop (j + 1))) := by show _ = _; rw [HDR.out, pos_cons_yes _ hneg]
              have HDO : Hid (doA (quA 8 (pos (ys.drop j))) ((j : Int) % 4) 4 nmQ 0 = (quA 8 (pos (ys.drop (j + 1))), z, 0)) := by
                show _ = _
                have h8 := HPL.out
                have hn := pos_nn (ys.drop j)
                rw [HPE.out] at h8 hn ⊢
                exact get_yes (by decide) (by decide) (by omega) hn HT0.out HT3.out
              go_wp2_with fail
              refine (do_ats HAV.out (by decide) (qu_items (by have := HPL.out; omega)) (by decide) HDO.out).mono ?_
              rintro e y ⟨rfl, h1, g1⟩
              have q1 := cell_thru g1 q0
              have A1 : Hid _ := h1
              have B1 : Hid _ := HBL.out.trans (g1.mono HBL.out.size)
              clear h1 g1 q0
              go_wp2_with fail
              go_roundg (8 - (j + 1))
              case measure => omega
              case rel => exact ⟨j + 1, _, rfl, by first | rfl | (congr 1; omega), by omega, Nat.le_refl _, A1.out, B1.out⟩
            · have A1 : Hid (AtsV wr (some ⟨g, 0, none⟩) 1 1 (quA 8 (pos (ys.drop (j + 1))))) := by
                have := HAV.out
                rw [HDR.out, pos_cons_no _ hneg] at this
                exact this
              go_wp2_with fail
              go_roundg (8 - (j + 1))
              case measure => omega
              case rel => exact ⟨j + 1, _, rfl, by first | rfl | (congr 1; omega), by omega, Nat.le_refl _, A1.out, HBL.out⟩
          · obtain rfl : j = 8 := by omega
            have HA3 : Hid (AtsV wr (some ⟨g, 0, none⟩) 1 1 (quA 8 [])) := by
              have := HAV.out
              rw [List.drop_eq_nil_of_le (by have := HC.out; omega)] at this
              exact this
            clear HAV
            have HE : Hid _ := get_no (n := 8) (th := 0) (arg := 0) (by decide) (by decide) (by decide) (by decide)
            go_wp2_with fail
            refine (do_ats HA3.out (by decide) (by simp [quA]) (by decide) HE.out).mono ?_
            rintro e y ⟨rfl, h1, g1⟩
            have A4 : Hid _ := HA3.out.below g1
            have B4 : Hid _ := HBL.out.trans (g1.mono HBL.out.size)
            clear h1 g1
            have HQ5 : Hid _ := ats_one y nmQ 8 0 (fit_lit _ (by decide) (by decide) (by decide))
            obtain ⟨W5, hW5⟩ : ∃ W5, y.alloc (.cells #[.string { data := #[113] }, .int .i64 8, .int .i64 0, .slice none 0 0] 35) = W5 := ⟨_, rfl⟩
            have b5 : Below y.heap.size y W5 := by subst hW5; exact bl_one _ _
            have HQ6 : Hid (AtsV W5 (some ⟨y.heap.size, 0, none⟩) 1 1 (quA 8 [])) := by show AtsV _ _ _ _ _; subst hW5; exact HQ5.out
            have A5 : Hid _ := A4.out.below b5
            have B5 : Hid _ := B4.out.trans (b5.mono B4.out.size)
            clear b5 HQ5
            go_wp2_with fail
            refine (same_any A5.out HQ6.out true (by simp)).mono ?_
            rintro e y6 ⟨rfl, g6⟩
            have B6 : Hid _ := B5.out.trans (g6.mono B5.out.size)
            clear g6
            go_wp2_with fail
            refine (live_any _).mono ?_
            rintro e y7 ⟨rfl, g7⟩
            have B7 : Hid _ := B6.out.trans (g7.mono B6.out.size)
            clear g7
            go_wp2
            go_ret
            exact ⟨rfl, B7.out⟩
end Go.Proofs.Ytkhehagepmeifaa

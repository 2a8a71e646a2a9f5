/- The document's find. -/
import Derived.Test.YtfkpbmopneleiaaMemRefMay
import Derived.Test.YtfkpbmopneleiaaMemLocs
import Derived.Test.YtfkpbmopneleiaaMemSame
import Derived.Deep.QuietTactic
import Derived.BigQuiet
namespace Go.Proofs.Ytfkpbmopneleiaa
open Go.RowKit Go.Maps
set_option linter.unusedVariables false

set_option maxRecDepth 100000 in
set_option maxHeartbeats 8000000 in
theorem rfind_any {w : World} {bm : Nat} {a : Option Addr} {len cap : Nat} {rs : List Reg} {x : Int} (hm : w.cell? ⟨bm, 0, none⟩ = some (.slice a len cap)) (h : RegsV w a len cap rs) (ho : AllOk rs) (hl : len ≤ 1000000) (hx : (Lit.int .i64 x).wf = true) :
    Calls Try.prog 33 #[.pointer (some ⟨bm, 0, none⟩), .int .i64 x] w fun e w' => Below w.heap.size w w' ∧ ((∃ i j : Nat, Loc rs x i j ∧ e = .returned (.tuple #[.int .i64 i, .int .i64 j, .bool true])) ∨ (NoLoc rs x ∧ e = .returned (.tuple #[.int .i64 0, .int .i64 0, .bool false]))) := by
  have hcnt := h.count
  have hroom := h.room
  have hcap := h.capOk
  have HV : Hid _ := h
  have HOK : Hid _ := ho
  have HM : Hid _ := hm
  have zm : bm < w.heap.size := World.block_lt_of_cell? w ⟨bm, 0, none⟩ hm
  simp [Lit.wf, IntKind.min, IntKind.max, IntKind.signed, IntKind.bits] at hx
  obtain ⟨hx0, hx1⟩ := hx
  clear h ho hm
  rcases (show x < 0 ∨ (0 ≤ x ∧ ¬ x % 8 = 0) ∨ (0 ≤ x ∧ x % 8 = 0) by omega) with g | ⟨g, g1⟩ | ⟨g, g1⟩
  · have HN : Hid (NoLoc rs x) := .inr (fun i hi => by
      have := regOk_bd _ (HOK.out i hi)
      unfold inReg
      simp only [Bool.and_eq_false_iff, decide_eq_false_iff_not]
      omega)
    clear HV HM
    go_enter Try.func33, Try.ntmps33
    go_wp2_with fail
    go_ret3
    exact ⟨Below.refl _ _, .inr ⟨HN.out, rfl⟩⟩
  · have HN : Hid (NoLoc rs x) := .inl (by rw [Int.tmod_eq_emod_of_nonneg g]; exact g1)
    have d0 : decide (x < 0) = false := decide_eq_false (by omega)
    clear HV HM
    go_enter Try.func33, Try.ntmps33
    go_wp2_with fail
    go_ret3
    exact ⟨Below.refl _ _, .inr ⟨HN.out, rfl⟩⟩
  · have HX8 : Hid (x.tmod 8 = 0) := by show x.tmod 8 = 0; rw [Int.tmod_eq_emod_of_nonneg g]; exact g1
    have d0 : decide (x < 0) = false := decide_eq_false (by omega)
    go_enter Try.func33, Try.ntmps33
    go_wp2_with fail
    clear g1
    go_loopg [7] len (fun r kv wq => ∃ (k : Nat), kv = .int .i64 k ∧ k ≤ len ∧ len - k ≤ r ∧ Hid (noneTo rs x k) ∧ Hid (Below w.heap.size w wq))
    case atStart => exact ⟨0, rfl, Nat.zero_le _, by omega, (fun i hi => by omega : noneTo rs x 0), Below.refl _ _⟩
    case round =>
      obtain ⟨k, rfl, hk, hr, HN, HB⟩ := hrel
      have m0 := (HB.out.cell (p := ⟨bm, 0, none⟩) zm).trans HM.out
      by_cases hlt : k < len
      · rcases HV.out.cells with h0 | ⟨b, off, hA, hc⟩
        · omega
        obtain ⟨a1, l1, c1, k0, k1, k2, V1⟩ := hc k hlt
        have hbl : b < w.heap.size := World.block_lt_of_cell? w ⟨b, off + k * 3, none⟩ k0
        have q0 := (HB.out.cell (p := ⟨b, off + k * 3, none⟩) hbl).trans k0
        have q1 := (HB.out.cell (p := ⟨b, off + k * 3 + 1, none⟩) hbl).trans k1
        obtain ⟨o1, o2, o3⟩ := regOk_bd _ (HOK.out k (by omega))
        have HIN : Hid (inReg (rs.getD k noReg) x = (decide ((rs.getD k noReg).base ≤ x) && decide (x < (rs.getD k noReg).base + 8 * (l1 : Int)))) := by
          show inReg _ _ = _
          unfold inReg
          rw [V1.count]
        rw [V1.count] at o3
        have HLOC : Hid (inReg (rs.getD k noReg) x = true → ∃ j : Nat, Loc rs x k j ∧ (j : Int) = (x - (rs.getD k noReg).base) / 8) := fun h => by
          obtain ⟨j, hj⟩ := loc_j HX8.out (by omega) h HN.out
          exact ⟨j, hj, hj.2.2.2.2.1⟩
        have HSN : Hid (inReg (rs.getD k noReg) x = false → noneTo rs x (k + 1)) := fun h => noneTo_snoc HN.out h
        obtain ⟨rb, hrb⟩ : ∃ rb, (rs.getD k noReg).base = rb := ⟨_, rfl⟩
        rw [hrb] at q0 o1 o2 HIN HLOC
        subst hA
        clear hc k0 k1 k2 V1 hrb
        have hki : (k : Int) < len := by omega
        have hkn : 0 ≤ (k : Int) := by omega
        by_cases t1 : rb ≤ x
        · by_cases t2 : x - rb < 8 * (l1 : Int)
          · obtain ⟨j, hlj, hj8⟩ := HLOC.out (by rw [HIN.out, decide_eq_true t1, decide_eq_true (show x < rb + 8 * (l1 : Int) by omega)]; rfl)
            have HLJ : Hid _ := hlj
            have hq : (x - rb).tdiv 8 = (j : Int) := by rw [Int.tdiv_eq_ediv_of_nonneg (by omega)]; exact hj8.symm
            have hq' : (x - rb) / 8 = (j : Int) := hj8.symm
            clear hlj hj8
            go_wp2_with fail
            go_quiet (fail)
            go_wp2_with fail
            go_quiet (fail)
            go_wp2_with fail
            go_ret3
            refine ⟨below_drewN (below_drewN HB.out _) _, .inl ⟨k, j, HLJ.out, ?_⟩⟩
            first | rfl | (simp [hq, hq']; done)
          · have HS2 : Hid _ := HSN.out (by rw [HIN.out, decide_eq_false (show ¬ x < rb + 8 * (l1 : Int) by omega), Bool.and_false])
            go_wp2_with fail
            go_quiet (fail)
            go_wp2_with fail
            go_roundg (len - (k + 1))
            case measure => omega
            case rel => exact ⟨k + 1, by first | rfl | (congr 1; omega), by omega, Nat.le_refl _, HS2.out, below_drewN HB.out _⟩
        · have HS2 : Hid _ := HSN.out (by rw [HIN.out, decide_eq_false t1, Bool.false_and])
          have t3 : decide (rb ≤ x) = false := decide_eq_false t1
          have t4 : x < rb := by omega
          go_wp2_with fail
          go_quiet (fail)
          go_wp2_with fail
          go_roundg (len - (k + 1))
          case measure => omega
          case rel => exact ⟨k + 1, by first | rfl | (congr 1; omega), by omega, Nat.le_refl _, HS2.out, below_drewN HB.out _⟩
      · obtain rfl : k = len := by omega
        have HNL : Hid (NoLoc rs x) := .inr (by rw [hcnt]; exact HN.out)
        go_wp2_with fail
        go_ret3
        exact ⟨HB.out, .inr ⟨HNL.out, rfl⟩⟩

end Go.Proofs.Ytfkpbmopneleiaa

/- The document's All, whatever the bytes. -/
import Derived.Test.YtcllbbdkihmpgaaDoorInsRefDec
import Derived.Test.YtcllbbdkihmpgaaDoorInsAllMath
import Derived.Deep.LoopGhost
namespace Go.Proofs.YtcllbbdkihmpgaaDoor
open Go.RowKit
set_option linter.unusedVariables false
attribute [local go_sem ↓] Go.wp_at_zero Go.wp_at_succ

theorem cut_rest (s : ByteArray) (k : Nat) (h : I.dOk (I.cut s k) = true) : I.rest (I.cut s k) = I.cut s ((k + (I.psize (I.hd (I.cut s k))).toNat : Nat) : Int) ∧ k < s.size ∧ k + (I.psize (I.hd (I.cut s k))).toNat ≤ s.size ∧ 1 ≤ (I.psize (I.hd (I.cut s k))).toNat := by
  have hr := I.rest_size _ h
  have hp := I.dOk_pos h
  have hk : k < s.size := by
    unfold I.cut at hp
    simp at hp
    omega
  have hc := cut_size s k (by omega)
  refine ⟨?_, hk, by omega, hr.2⟩
  unfold I.rest
  rw [hc, cut_cut s k _ (s.size - k) (by omega)]
  unfold I.cut
  congr 1
  · omega

set_option maxRecDepth 100000 in
set_option maxHeartbeats 8000000 in
theorem rall_any (s : ByteArray) (hm : s.size ≤ 4398046511104) (w : World) :
    Calls Tryd.prog 17 #[.string s] w fun e w' => I.allPost s w.heap.size e w' ∧ Below w.heap.size w w' := by
  obtain ⟨i0, hi, hz0, hz1, hz2⟩ := info_parts infoIns
  go_enter Tryd.func17, Tryd.ntmps17
  go_wp2
  go_loopg [4, 5] s.size (fun r lv av wr => ∃ (k : Nat) (done : List I.Q), av = .int .i64 k ∧ k ≤ s.size ∧ s.size - k ≤ r ∧ done.length ≤ k ∧ wr.ownsRow w.heap.size 23 4 lv done.length (I.rows done) ∧ Below w.heap.size w wr ∧ Hid (I.allI s = (I.allI (I.cut s k)).map (done ++ ·)))
  case atStart => exact ⟨0, [], rfl, Nat.zero_le _, by omega, by simp, World.ownsRow_nil _ _ _ _, Below.refl _ _, by show _ = _; rw [show ((0 : Nat) : Int) = 0 from rfl, I.cut_zero]; simp⟩
  case round =>
    obtain ⟨k, done, rfl, hk, hr, hdn, ho, hb, HA⟩ := hrel
    by_cases h0 : k = s.size
    · have hlt : ¬ (k : Int) < (s.size : Int) := by omega
      have HK : Hid (k = s.size) := h0
      clear h0
      go_wp2
      go_ret2
      refine ⟨?_, hb⟩
      unfold I.allPost
      rw [HA.out, I.allI_zero (by rw [cut_size s k hk, HK.out]; omega)]
      simp only [Option.map_some, List.append_nil]
      exact ⟨_, rfl, ho⟩
    · have hlt : (k : Int) < (s.size : Int) := by omega
      have HR : Hid (∀ w, Calls Tryd.prog 15 #[.string s, .int .i64 k] w fun e w' => e = .returned (I.decR s k) ∧ Below w.heap.size w w') := fun w => rdecode_any s k (by omega) w
      unfold I.decR at HR
      rw [if_neg (show ¬ ((k : Int) < 0 ∨ (s.size : Int) < (k : Int)) by omega)] at HR
      have hcs := cut_size s k hk
      cases hx : I.dOk (I.cut s k) with
      | false =>
        rw [hx, if_neg (by decide)] at HR
        have HX : Hid (I.dOk (I.cut s k) = false) := hx
        have HCS : Hid ((I.cut s k).size = s.size - k) := hcs
        clear hx hcs
        go_wp2_with (go_at_call 15; refine (HR.out _).mono ?_; rintro e w1 ⟨rfl, hb1⟩)
        go_ret2
        refine ⟨?_, (hb.trans (hb1.mono hb.size)).alloc (by have := hb.size; have := hb1.size; omega) _⟩
        unfold I.allPost
        rw [HA.out, I.allI_no (by rw [HCS.out]; omega) HX.out]
        rfl
      | true =>
        rw [hx, if_pos rfl] at HR
        obtain ⟨hrest, -, hp1, hp2⟩ := cut_rest s k hx
        have HQ : Hid (I.dQ (I.cut s k) = ⟨I.hd (I.cut s k), I.dA (I.cut s k), I.dB (I.cut s k), I.dN (I.cut s k)⟩) := rfl
        have HT : Hid (I.rest (I.cut s k) = I.cut s ((k + (I.psize (I.hd (I.cut s k))).toNat : Nat) : Int)) := hrest
        generalize hq : I.dQ (I.cut s k) = q at *
        have hqe := HQ.out
        have q1 : I.hd (I.cut s k) = q.op := by rw [hqe]
        have q2 : I.dA (I.cut s k) = q.a := by rw [hqe]
        have q3 : I.dB (I.cut s k) = q.b := by rw [hqe]
        have q4 : I.dN (I.cut s k) = q.n := by rw [hqe]
        rw [q1, q2, q3, q4] at HR
        rw [q1] at HT hp1 hp2
        have HX : Hid (I.dOk (I.cut s k) = true) := hx
        have HQQ : Hid (I.dQ (I.cut s k) = q) := hq
        clear q1 q2 q3 q4 hqe HQ hq hx hrest hcs
        obtain ⟨z, hz⟩ : ∃ z : Nat, I.psize q.op = z := ⟨(I.psize q.op).toNat, by omega⟩
        rw [hz] at HR HT hp1 hp2
        rw [show ((z : Int)).toNat = z by omega] at HT hp1 hp2
        clear hz
        go_wp2_with fail
        refine (HR.out _).mono ?_
        rintro e w1 ⟨rfl, hb1⟩
        have ho1 := own_kept ho hb1
        have hs1 := hb1.size
        have hs0 := hb.size
        have hbb : Below w.heap.size w w1 := hb.trans (hb1.mono hs0)
        clear ho hb hb1
        go_wp2_with (first | (at_builtin; refine wpList_append_own _ rfl _ _ 32 rfl w.heap.size 23 i0 _ 4 32 Tryd.underlying32 hi hz0 hz1 hz2 rfl (by decide) _ _ _ rfl ((ho1.alloc _).alloc _) ⟨w1.heap.size + 1, 0, none⟩ 1 1 q.cs rfl rfl (ins_cells _ q _ (by simp)) (cs_one q) (by unfold maxLen; omega) (by omega) (by simp; omega) ?_) | go_in)
        intro v2 w2 ho2 hg2 _
        have hb2 : Below w.heap.size w w2 := below_own ((hbb.alloc (by omega) _).alloc (by simp; omega) _) ((ho1.alloc _).alloc _) hg2 (by simp; omega)
        rw [← I.rows_snoc] at ho2
        have ho3 : w2.ownsRow w.heap.size 23 4 v2 (done ++ [q]).length (I.rows (done ++ [q])) := by simpa using ho2
        clear ho2 hg2 ho1 hbb
        go_wp2
        go_roundg (s.size - (k + z))
        case measure => omega
        case rel =>
          refine ⟨k + z, done ++ [q], by first | rfl | (congr 1; omega), hp1, Nat.le_refl _, by simp; omega, ho3, hb2, ?_⟩
          show I.allI s = _
          rw [HA.out, I.allI_yes (I.dOk_pos HX.out) HX.out, HQQ.out, Option.map_map, HT.out]
          congr 1
          funext l
          simp

end Go.Proofs.YtcllbbdkihmpgaaDoor

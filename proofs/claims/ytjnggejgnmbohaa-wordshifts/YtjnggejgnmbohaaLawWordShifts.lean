/- Proved: WordShifts answers true for every int32 and every byte (no condition): a number of few bits, shifted to the left and back by fewer than 32 bits, is what it was, and a count of 64 more shifts the same; and the given answers of the layer stand. -/
import Derived.Test.YtjnggejgnmbohaaRows
import Derived.WalkKit
import Derived.ProofKit
import Derived.OpenShut
import Derived.ShutString
import Derived.ChangeOld
import Derived.Below
import Derived.Test.YtjnggejgnmbohaaWordLive
namespace Go.Proofs.Ytjnggejgnmbohaa.wordShifts
open Go.ChangeShapes Go.WideShapes Go.ChangeAt Go.RowKit
open Go.ChangeMaps (open_string shut_string)
set_option linter.unusedVariables false      -- a walk need not use every 'w<i>' (that an integer argument fits its kind)

theorem own : ownKnob Try.prog.godebug = none := by kernel_rfl

theorem pow_bd (k : Nat) (h : k < 32) : 1 ≤ (2 : Int) ^ k ∧ (2 : Int) ^ k ≤ 2147483648 := by
  have h1 : (2 : Int) ^ k = ((2 ^ k : Nat) : Int) := by rw [Int.natCast_pow]; rfl
  have h2 : 2 ^ k ≤ 2 ^ 31 := Nat.pow_le_pow_right (by omega) (by omega)
  have h3 : 1 ≤ 2 ^ k := Nat.one_le_two_pow
  rw [h1]
  omega

theorem shl_eq (a : Int) (k : Nat) (h : k < 32) (h1 : -2147483648 ≤ a) (h2 : a ≤ 2147483647) : W.bin 11 a k = a * 2 ^ k := by
  have hp := pow_bd k h
  have e : ((k : Int) % 64).toNat = k := by omega
  simp [W.bin, e]
  have u : a * 2 ^ k ≤ 2147483647 * 2147483648 := by
    rcases (show a ≤ 0 ∨ 0 ≤ a by omega) with h0 | h0
    · have := Int.mul_nonneg (show 0 ≤ -a by omega) (show (0 : Int) ≤ 2 ^ k by omega)
      rw [Int.neg_mul] at this
      omega
    · exact Int.mul_le_mul h2 hp.2 (by omega) (by omega)
  have l : -(2147483648 * 2147483648) ≤ a * 2 ^ k := by
    rcases (show a ≤ 0 ∨ 0 ≤ a by omega) with h0 | h0
    · have := Int.mul_le_mul (show -a ≤ 2147483648 by omega) hp.2 (by omega) (by omega)
      rw [Int.neg_mul] at this
      omega
    · have := Int.mul_nonneg h0 (show (0 : Int) ≤ 2 ^ k by omega)
      omega
  generalize a * 2 ^ k = y at *
  unfold wrap64
  omega

theorem back (a : Int) (k : Nat) (h : k < 32) (h1 : -2147483648 ≤ a) (h2 : a ≤ 2147483647) : W.bin 12 (W.bin 11 a k) k = a := by
  rw [shl_eq a k h h1 h2]
  have hp := pow_bd k h
  have e : ((k : Int) % 64).toNat = k := by omega
  simp [W.bin, e]
  exact Int.mul_ediv_cancel a (by omega)

theorem more (a : Int) (k : Nat) (h : k < 32) : W.bin 11 a ((k : Int) + 64) = W.bin 11 a k := by
  have e : (((k : Int) + 64) % 64).toNat = k := by omega
  have e' : ((k : Int) % 64).toNat = k := by omega
  simp [W.bin, e']

/-! ### THE WALK: the Go text returns true. 'Grown w w'': the world has at most new blocks (Derived/RowKit3.lean). Part the cases AHEAD of 'go_enter' where a test parts the walk; take each callee by a contract of your own. -/
set_option maxRecDepth 100000 in
set_option maxHeartbeats 1000000 in
theorem walk (a0 : Int) (a1 : Int) (w0 : (Lit.int .i32 a0).wf = true) (w1 : (Lit.int .u8 a1).wf = true) (w : World) :
    Calls Try.prog 5 #[.int .i32 a0, .int .u8 a1] w fun e w' => e = .returned (.bool true) ∧ Below w.heap.size w w' := by
  have ha := w0
  have hn := w1
  simp [Lit.wf, IntKind.min, IntKind.max, IntKind.signed, IntKind.bits] at ha hn
  obtain ⟨k, hk⟩ : ∃ k : Nat, a1 % 32 = k := ⟨(a1 % 32).toNat, by omega⟩
  have hk32 : k < 32 := by omega
  have HB : Hid _ := back a0 k hk32 ha.1 (by omega)
  have HM : Hid _ := more a0 k hk32
  go_enter Try.func5, Try.ntmps5
  go_wp2_with fail
  refine (bin_any 11 a0 k _).mono ?_
  rintro e x1 ⟨rfl, rfl⟩
  rw [show W.binE 11 k = 0 by simp [W.binE]]
  go_wp2_with fail
  refine (bin_any 12 _ k _).mono ?_
  rintro e x2 ⟨rfl, rfl⟩
  rw [show W.binE 12 k = 0 by simp [W.binE], HB.out]
  go_wp2_with fail
  refine (bin_any 11 a0 (k + 64) _).mono ?_
  rintro e x3 ⟨rfl, rfl⟩
  rw [show W.binE 11 (k + 64) = 0 by simp [W.binE], HM.out]
  go_wp2_with fail
  refine (live_any _).mono ?_
  rintro e x5 ⟨rfl, h5⟩
  go_wp2
  go_ret
  exact ⟨rfl, h5⟩

/-! ### THE ROW's STEP: WRITTEN OUT: LEAVE IT -/
set_option maxRecDepth 100000 in
theorem lifted (os : Os) (started : os.Started) (H : Type) (enc : TypeId × Value → H) :
    ReturnsInHanded {} Try.checked os 5 .any (Rows.wordShiftsSpec.pre6 enc Try.prog Try.f5 Rows.wordShiftsRow.domain false) (Rows.wordShiftsSpec.post enc Try.prog Try.f5 false true false false) := by
  refine returnsInHanded_of_change (C := Try.checked) own started (by kernel_rfl) Try.func5
    (ChangeSpec.witness6 (enc := enc) (C := Try.checked) false ⟨#[], #[.int .i32 0, .int .u8 0], []⟩ 8 (by kernel_rfl) (by kernel_rfl) (by kernel_rfl) (by kernel_rfl)) ?_
  intro W base args ds gs before hval0 hW hcnd _
  have hval : ∀ (j : Nat) t v, Try.f5.params[j]? = some t → args[j]? = some v → Value.okWide Try.prog W .any base t v := hval0
  have hW' := hW
  obtain ⟨p, q, hA0, hV, rfl, hfz, hnd⟩ := hW
  have hA : DataW.TrodAll enc Try.prog W 0 (fun _ => true) true Try.f5.params.toList args.toList ds p := hA0
  rw [Try.params5] at hA hval
  obtain ⟨v0, vs0, d0, ds0, p0, q0, hargs, rfl, rfl, h0, r0⟩ := trodAll_cons hA
  obtain ⟨v1, vs1, d1, ds1, p1, q1, rfl, rfl, rfl, h1, r1⟩ := trodAll_cons r0
  obtain ⟨rfl, rfl, rfl⟩ := trodAll_nil r1
  obtain rfl : args = #[v0, v1] := by cases args; simp_all
  obtain ⟨rfl, rfl⟩ := trodVars_none hV
  obtain ⟨a0, rfl, rfl, rfl, w0⟩ := open_int Try.underlying21 (hval 0 21 v0 rfl rfl) h0
  obtain ⟨a1, rfl, rfl, rfl, w1⟩ := open_int Try.underlying5 (hval 1 5 v1 rfl rfl) h1
  clear hA0 hval0
  simp only [List.append_nil] at hW'
  refine (walk a0 a1 w0 w1 W).mono fun e W' ⟨he, hg⟩ => ?_
  subst he
  exact ⟨_, rfl, _, _, _, [], _, [], hW', (trodAll_cons_mk (shut_bool Try.underlying4 _) trodAll_mk0), (trodAll_cons_mk (shut_int Try.underlying21 w0) (trodAll_cons_mk (shut_int Try.underlying5 w1) trodAll_mk0)), rfl, hg.frame _, fun h => by cases h⟩

theorem over : Rows.wordShiftsRow.holds Try.pinned (OpenSpec.ofChange Rows.wordShiftsSpec) :=
  OpenClaim.holds_of_wide 5 Try.f5 rfl rfl rfl rfl rfl rfl rfl ⟨rfl, rfl, rfl, rfl, rfl⟩ rfl rfl rfl rfl rfl (by kernel_rfl) Try.func5 (by kernel_rfl)
    (of_decide_eq_true (by kernel_rfl)) (by unfold Func.isWrapper; first | (rw [if_pos (by decide +kernel)]; kernel_rfl) | (rw [if_neg (by decide +kernel)]; exact ⟨rfl, rfl⟩))
    (fun os started H enc _ => lifted os started H enc)

/-- ████ THE STATEMENT ████ -/
theorem proved : Rows.WordShiftsSaid :=
  over
#print axioms proved
end Go.Proofs.Ytjnggejgnmbohaa.wordShifts
namespace Go.Proofs.Ytjnggejgnmbohaa
/-- The statement. -/
theorem wordShifts_holds : Rows.WordShiftsSaid := wordShifts.proved
end Go.Proofs.Ytjnggejgnmbohaa

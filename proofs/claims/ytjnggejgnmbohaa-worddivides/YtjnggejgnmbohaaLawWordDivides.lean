/- Proved: WordDivides answers true for every two numbers (no condition): by 0 both answers are the error; else the quotient times the divisor, and the rest, are the number, the rest has the number's sign and is nearer to 0 than the divisor; and the given answers of the layer stand. -/
import Derived.Test.YtjnggejgnmbohaaRows
import Derived.WalkKit
import Derived.ProofKit
import Derived.OpenShut
import Derived.ShutString
import Derived.ChangeOld
import Derived.Below
import Derived.Test.YtjnggejgnmbohaaWordLive
namespace Go.Proofs.Ytjnggejgnmbohaa.wordDivides
open Go.ChangeShapes Go.WideShapes Go.ChangeAt Go.RowKit
open Go.ChangeMaps (open_string shut_string)
set_option linter.unusedVariables false      -- a walk need not use every 'w<i>' (that an integer argument fits its kind)

theorem own : ownKnob Try.prog.godebug = none := by kernel_rfl

theorem mul_back (a b : Int) (hb : ¬ b = 0) (ha : (Lit.int .i64 a).wf = true) : W.bin 3 (W.bin 5 (W.bin 6 a b) b) (W.bin 7 a b) = a := by
  have h := W.rem_of_quo a b ha
  have hr : -9223372036854775808 ≤ a ∧ a ≤ 9223372036854775807 := by
    simp [Lit.wf, IntKind.min, IntKind.max, IntKind.signed, IntKind.bits] at ha
    omega
  simp [W.bin, hb]
  rw [← h]
  generalize wrap64 (wrap64 (a.tdiv b) * b) = y
  unfold wrap64
  omega

/-- The rest is nearer to 0 than the divisor, and has the number's sign. -/
theorem rest_bd (a b : Int) (hb : ¬ b = 0) : (a.tmod b).natAbs < b.natAbs ∧ (a ≤ 0 → a.tmod b ≤ 0) ∧ (0 ≤ a → 0 ≤ a.tmod b) := by
  refine ⟨?_, W.tmod_nonpos a b, fun h => Int.tmod_nonneg b h⟩
  rw [Int.natAbs_tmod]
  exact Nat.mod_lt _ (by omega)

/-! ### THE WALK: the Go text returns true. 'Grown w w'': the world has at most new blocks (Derived/RowKit3.lean). Part the cases AHEAD of 'go_enter' where a test parts the walk; take each callee by a contract of your own. -/
set_option maxRecDepth 100000 in
set_option maxHeartbeats 2000000 in
theorem walk (a0 : Int) (a1 : Int) (w0 : (Lit.int .i64 a0).wf = true) (w1 : (Lit.int .i64 a1).wf = true) (w : World) :
    Calls Try.prog 4 #[.int .i64 a0, .int .i64 a1] w fun e w' => e = .returned (.bool true) ∧ Below w.heap.size w w' := by
  by_cases hb : a1 = 0
  · subst hb
    go_enter Try.func4, Try.ntmps4
    go_wp2_with fail
    refine (bin_any 6 a0 0 _).mono ?_
    rintro e x1 ⟨rfl, rfl⟩
    rw [show W.binE 6 0 = 10 by decide +kernel, show W.bin 6 a0 0 = 0 by simp [W.bin]]
    go_wp2_with fail
    refine (bin_any 7 a0 0 _).mono ?_
    rintro e x2 ⟨rfl, rfl⟩
    rw [show W.binE 7 0 = 10 by decide +kernel, show W.bin 7 a0 0 = 0 by simp [W.bin]]
    go_wp2_with fail
    refine (live_any _).mono ?_
    rintro e x5 ⟨rfl, h5⟩
    go_wp2
    go_ret
    exact ⟨rfl, h5⟩
  · have hb0 : (a1 == 0) = false := by simpa using hb
    have HM : Hid _ := mul_back a0 a1 hb w0
    have HR : Hid _ := rest_bd a0 a1 hb
    have hw := w1
    simp [Lit.wf, IntKind.min, IntKind.max, IntKind.signed, IntKind.bits] at hw
    have HW : Hid (-9223372036854775808 ≤ a1 ∧ a1 ≤ 9223372036854775807) := by show _ ∧ _; omega
    have e6 : W.binE 6 a1 = 0 := by simp [W.binE, hb]
    have e7 : W.binE 7 a1 = 0 := by simp [W.binE, hb]
    have v7 : W.bin 7 a0 a1 = a0.tmod a1 := by simp [W.bin, hb]
    have E6 : Hid _ := e6
    have E7 : Hid _ := e7
    have V7 : Hid _ := v7
    clear e6 e7 v7 hw
    go_enter Try.func4, Try.ntmps4
    go_wp2_with fail
    refine (bin_any 6 a0 a1 _).mono ?_
    rintro e x1 ⟨rfl, rfl⟩
    rw [E6.out]
    go_wp2_with fail
    refine (bin_any 7 a0 a1 _).mono ?_
    rintro e x2 ⟨rfl, rfl⟩
    rw [E7.out]
    go_wp2_with fail
    refine (bin_any 5 _ a1 _).mono ?_
    rintro e x3 ⟨rfl, rfl⟩
    rw [show W.binE 5 a1 = 0 by simp [W.binE]]
    go_wp2_with fail
    refine (bin_any 3 _ _ _).mono ?_
    rintro e x4 ⟨rfl, rfl⟩
    rw [HM.out, show ∀ z, W.binE 3 z = 0 by intro z; simp [W.binE]]
    rw [V7.out]
    clear HM E6 E7 V7
    generalize a0.tmod a1 = r at *
    have hr := HR.out
    have hlim := HW.out
    have hneg : ¬ a1 = -9223372036854775808 → wrap64 (-a1) = -a1 := by intro h; unfold wrap64; omega
    have hcs : (r = 0 ∨ (r < 0 ∧ a0 < 0) ∨ (0 < r ∧ 0 ≤ a0)) ∧ (a1 = -9223372036854775808 ∨ (0 < a1 ∧ r < a1 ∧ -a1 < r) ∨ (a1 < 0 ∧ ¬ a1 = -9223372036854775808 ∧ a1 < r ∧ r < -a1)) := by omega
    obtain ⟨hc1, hc2⟩ := hcs
    clear hr hlim HR HW
    rcases hc1 with h1 | ⟨h1, h1'⟩ | ⟨h1, h1'⟩
    · have t0 : (r == 0) = true := by simpa using h1
      clear h1
      rcases hc2 with h2 | ⟨h2, h3, h4⟩ | ⟨h2, h3, h4, h5⟩
      · have t3 : (a1 == -9223372036854775808) = true := by simpa using h2
        clear h2 hneg
        go_wp2_with fail
        refine (live_any _).mono ?_
        rintro e x5 ⟨rfl, h5'⟩
        go_wp2
        go_ret
        exact ⟨rfl, h5'⟩
      · have t3 : (a1 == -9223372036854775808) = false := by simp; omega
        have t4 := hneg (by omega)
        clear hneg
        go_wp2_with fail
        refine (live_any _).mono ?_
        rintro e x5 ⟨rfl, h5'⟩
        go_wp2
        go_ret
        exact ⟨rfl, h5'⟩
      · have t3 : (a1 == -9223372036854775808) = false := by simpa using h3
        have t4 := hneg h3
        have t5 : ¬ r < a1 := by omega
        clear hneg h3
        go_wp2_with fail
        refine (live_any _).mono ?_
        rintro e x5 ⟨rfl, h5'⟩
        go_wp2
        go_ret
        exact ⟨rfl, h5'⟩
    · have t0 : (r == 0) = false := by simp; omega
      rcases hc2 with h2 | ⟨h2, h3, h4⟩ | ⟨h2, h3, h4, h5⟩
      · have t3 : (a1 == -9223372036854775808) = true := by simpa using h2
        clear h2 hneg
        go_wp2_with fail
        refine (live_any _).mono ?_
        rintro e x5 ⟨rfl, h5'⟩
        go_wp2
        go_ret
        exact ⟨rfl, h5'⟩
      · have t3 : (a1 == -9223372036854775808) = false := by simp; omega
        have t4 := hneg (by omega)
        clear hneg
        go_wp2_with fail
        refine (live_any _).mono ?_
        rintro e x5 ⟨rfl, h5'⟩
        go_wp2
        go_ret
        exact ⟨rfl, h5'⟩
      · have t3 : (a1 == -9223372036854775808) = false := by simpa using h3
        have t4 := hneg h3
        have t5 : ¬ r < a1 := by omega
        clear hneg h3
        go_wp2_with fail
        refine (live_any _).mono ?_
        rintro e x5 ⟨rfl, h5'⟩
        go_wp2
        go_ret
        exact ⟨rfl, h5'⟩
    · have t0 : (r == 0) = false := by simp; omega
      have t1 : ¬ r < 0 := by omega
      have t2 : ¬ a0 < 0 := by omega
      rcases hc2 with h2 | ⟨h2, h3, h4⟩ | ⟨h2, h3, h4, h5⟩
      · have t3 : (a1 == -9223372036854775808) = true := by simpa using h2
        clear h2 hneg
        go_wp2_with fail
        refine (live_any _).mono ?_
        rintro e x5 ⟨rfl, h5'⟩
        go_wp2
        go_ret
        exact ⟨rfl, h5'⟩
      · have t3 : (a1 == -9223372036854775808) = false := by simp; omega
        have t4 := hneg (by omega)
        clear hneg
        go_wp2_with fail
        refine (live_any _).mono ?_
        rintro e x5 ⟨rfl, h5'⟩
        go_wp2
        go_ret
        exact ⟨rfl, h5'⟩
      · have t3 : (a1 == -9223372036854775808) = false := by simpa using h3
        have t4 := hneg h3
        have t5 : ¬ r < a1 := by omega
        clear hneg h3
        go_wp2_with fail
        refine (live_any _).mono ?_
        rintro e x5 ⟨rfl, h5'⟩
        go_wp2
        go_ret
        exact ⟨rfl, h5'⟩

/-! ### THE ROW's STEP: WRITTEN OUT: LEAVE IT -/
set_option maxRecDepth 100000 in
theorem lifted (os : Os) (started : os.Started) (H : Type) (enc : TypeId × Value → H) :
    ReturnsInHanded {} Try.checked os 4 .any (Rows.wordDividesSpec.pre6 enc Try.prog Try.f4 Rows.wordDividesRow.domain false) (Rows.wordDividesSpec.post enc Try.prog Try.f4 false true false false) := by
  refine returnsInHanded_of_change (C := Try.checked) own started (by kernel_rfl) Try.func4
    (ChangeSpec.witness6 (enc := enc) (C := Try.checked) false ⟨#[], #[.int .i64 0, .int .i64 0], []⟩ 8 (by kernel_rfl) (by kernel_rfl) (by kernel_rfl) (by kernel_rfl)) ?_
  intro W base args ds gs before hval0 hW hcnd _
  have hval : ∀ (j : Nat) t v, Try.f4.params[j]? = some t → args[j]? = some v → Value.okWide Try.prog W .any base t v := hval0
  have hW' := hW
  obtain ⟨p, q, hA0, hV, rfl, hfz, hnd⟩ := hW
  have hA : DataW.TrodAll enc Try.prog W 0 (fun _ => true) true Try.f4.params.toList args.toList ds p := hA0
  rw [Try.params4] at hA hval
  obtain ⟨v0, vs0, d0, ds0, p0, q0, hargs, rfl, rfl, h0, r0⟩ := trodAll_cons hA
  obtain ⟨v1, vs1, d1, ds1, p1, q1, rfl, rfl, rfl, h1, r1⟩ := trodAll_cons r0
  obtain ⟨rfl, rfl, rfl⟩ := trodAll_nil r1
  obtain rfl : args = #[v0, v1] := by cases args; simp_all
  obtain ⟨rfl, rfl⟩ := trodVars_none hV
  obtain ⟨a0, rfl, rfl, rfl, w0⟩ := open_int Try.underlying2 (hval 0 2 v0 rfl rfl) h0
  obtain ⟨a1, rfl, rfl, rfl, w1⟩ := open_int Try.underlying2 (hval 1 2 v1 rfl rfl) h1
  clear hA0 hval0
  simp only [List.append_nil] at hW'
  refine (walk a0 a1 w0 w1 W).mono fun e W' ⟨he, hg⟩ => ?_
  subst he
  exact ⟨_, rfl, _, _, _, [], _, [], hW', (trodAll_cons_mk (shut_bool Try.underlying4 _) trodAll_mk0), (trodAll_cons_mk (shut_int Try.underlying2 w0) (trodAll_cons_mk (shut_int Try.underlying2 w1) trodAll_mk0)), rfl, hg.frame _, fun h => by cases h⟩

theorem over : Rows.wordDividesRow.holds Try.pinned (OpenSpec.ofChange Rows.wordDividesSpec) :=
  OpenClaim.holds_of_wide 4 Try.f4 rfl rfl rfl rfl rfl rfl rfl ⟨rfl, rfl, rfl, rfl, rfl⟩ rfl rfl rfl rfl rfl (by kernel_rfl) Try.func4 (by kernel_rfl)
    (of_decide_eq_true (by kernel_rfl)) (by unfold Func.isWrapper; first | (rw [if_pos (by decide +kernel)]; kernel_rfl) | (rw [if_neg (by decide +kernel)]; exact ⟨rfl, rfl⟩))
    (fun os started H enc _ => lifted os started H enc)

/-- ████ THE STATEMENT ████ -/
theorem proved : Rows.WordDividesSaid :=
  over
#print axioms proved
end Go.Proofs.Ytjnggejgnmbohaa.wordDivides
namespace Go.Proofs.Ytjnggejgnmbohaa
/-- The statement. -/
theorem wordDivides_holds : Rows.WordDividesSaid := wordDivides.proved
end Go.Proofs.Ytjnggejgnmbohaa

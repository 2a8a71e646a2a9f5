/- Proved: StepNear answers true for every thread, every choice of a jump, every register and every distance (no condition): a short jump does what the long one does, if both go on at the same place; and the given answers of the layer stand. -/
import Derived.Test.YtnfkklpionbnoaaStepOpen
import Derived.Test.YtnfkklpionbnoaaStepLive
import Derived.Test.YtnfkklpionbnoaaStepEq
import Derived.Test.YtnfkklpionbnoaaStepOpen2
import Derived.Test.YtnfkklpionbnoaaStepShift
import Derived.Test.YtnfkklpionbnoaaStepNearP
import Derived.Test.YtnfkklpionbnoaaStepNearPo
import Derived.Test.YtnfkklpionbnoaaStepNearM
import Derived.Test.YtnfkklpionbnoaaStepNearMo
import Derived.Deep.RegionHeld3
import Derived.Deep.DrawnRows
namespace Go.Proofs.Ytnfkklpionbnoaa.stepNear
open Go.ChangeShapes Go.WideShapes Go.ChangeAt Go.RowKit
set_option linter.unusedVariables false
attribute [local go_sem ↓] Go.wp_at_zero Go.wp_at_succ

theorem own : ownKnob Try.prog.godebug = none := by kernel_rfl
theorem laid : laidOutB Try.prog = true := by kernel_rfl

theorem walk (c : S.C) (m a n : Int) (w : World) (m1 : -9223372036854775808 ≤ m) (m2 : m ≤ 9223372036854775807) (n1 : -128 ≤ n) (n2 : n ≤ 127) :
    Calls Try.prog 7 #[nearV c m a n] w fun e w' => e = .returned (.bool true) ∧ Below w.heap.size w w' := by
  have two (x : Int) (hx : 0 < x) (h3 : x < 3) : ∃ (j : Nat) (op ops : Int), x = j ∧ (j : Int) < 3 ∧ ¬ (j : Int) = 0 ∧ (#[.int .i64 20, .int .i64 21, .int .i64 22] : Array Value)[j]? = some (.int .i64 op) ∧ (#[.int .i64 25, .int .i64 26, .int .i64 27] : Array Value)[j]? = some (.int .i64 ops) ∧ ((op = 20 ∧ ops = 25) ∨ (op = 21 ∧ ops = 26) ∨ (op = 22 ∧ ops = 27)) := by
    rcases (show x = 1 ∨ x = 2 by omega) with rfl | rfl
    · exact ⟨1, 21, 26, rfl, by decide, by decide, rfl, rfl, .inr (.inl ⟨rfl, rfl⟩)⟩
    · exact ⟨2, 22, 27, rfl, by decide, by decide, rfl, rfl, .inr (.inr ⟨rfl, rfl⟩)⟩
  by_cases hm : 0 ≤ m
  · by_cases h0 : m % 3 = 0
    · obtain ⟨e1, e2⟩ := S.near_C c 20 25 0 n 6 (.inl ⟨rfl, rfl⟩)
      exact n_po c m a n w hm h0 m1 m2 n1 n2 _ _ (show Hid _ from rfl) (show Hid _ from rfl) (show Hid _ from e1.symm) (show Hid _ from e2.symm)
    · obtain ⟨j, op, ops, hj, j3, hz, hL, hS, ho⟩ := two (m % 3) (by omega) (by omega)
      obtain ⟨e1, e2⟩ := S.near_C c op ops a n 6 ho
      exact n_p c m a n op ops j w hm hj hz m1 m2 n1 n2 j3 hL hS _ _ (show Hid _ from rfl) (show Hid _ from rfl) (show Hid _ from e1.symm) (show Hid _ from e2.symm)
  · have et : -((m + 1).tmod 3) = (-(m + 1)) % 3 := by rw [← Int.neg_tmod, Int.tmod_eq_emod_of_nonneg (by omega)]
    by_cases h0 : (-(m + 1)) % 3 = 0
    · obtain ⟨e1, e2⟩ := S.near_C c 20 25 0 n 6 (.inl ⟨rfl, rfl⟩)
      exact n_mo c m a n w (by omega) (et.trans h0) m1 m2 n1 n2 _ _ (show Hid _ from rfl) (show Hid _ from rfl) (show Hid _ from e1.symm) (show Hid _ from e2.symm)
    · obtain ⟨j, op, ops, hj, j3, hz, hL, hS, ho⟩ := two ((-(m + 1)) % 3) (by omega) (by omega)
      obtain ⟨e1, e2⟩ := S.near_C c op ops a n 6 ho
      exact n_m c m a n op ops j w (by omega) (et.trans hj) hz m1 m2 n1 n2 j3 hL hS _ _ (show Hid _ from rfl) (show Hid _ from rfl) (show Hid _ from e1.symm) (show Hid _ from e2.symm)

/-! ### The row -/
set_option maxRecDepth 100000 in
theorem lifted (os : Os) (started : os.Started) (H : Type) (enc : TypeId × Value → H) :
    ReturnsInHanded {} Try.checked os 7 .any (Rows.stepNearSpec.pre6 enc Try.prog Try.f7 Rows.stepNearRow.domain false) (Rows.stepNearSpec.post enc Try.prog Try.f7 false true false false) := by
  refine returnsInHanded_of_change (C := Try.checked) own started (by kernel_rfl) Try.func7
    (ChangeSpec.witness6 (enc := enc) (C := Try.checked) false ⟨#[], #[.agg #[.int .i64 0, .int .i64 0, .int .i64 0, .int .i64 0, .int .i64 0, .int .i64 0, .int .i64 0, .int .i64 0, .int .i64 0, .int .i64 0, .int .i64 0, .int .i64 0, .int .i64 0, .int .i8 0]], []⟩ 8 (by kernel_rfl) (by kernel_rfl) (by kernel_rfl) (by kernel_rfl)) ?_
  intro W base args ds gs before hval0 hW hcnd _
  have hval : ∀ (j : Nat) t v, Try.f7.params[j]? = some t → args[j]? = some v → Value.okWide Try.prog W .any base t v := hval0
  have hW' := hW
  obtain ⟨p, q, hA0, hV, rfl, hfz, hnd⟩ := hW
  have hA : DataW.TrodAll enc Try.prog W 0 (fun _ => true) true Try.f7.params.toList args.toList ds p := hA0
  have hlt := hA.lt
  rw [Try.params7] at hA hval
  obtain ⟨v0, vs0, d0, ds0, p0, q0, hargs, rfl, rfl, h0, r0⟩ := trodAll_cons hA
  obtain ⟨rfl, rfl, rfl⟩ := trodAll_nil r0
  obtain rfl : args = #[v0] := by cases args; simp_all
  obtain ⟨rfl, rfl⟩ := trodVars_none hV
  obtain ⟨c, m, a, n, rfl, hok, w0, w1⟩ := open_near (hval 0 40 v0 rfl rfl) h0
  have hm := bounds_i64 w0
  have hn := bounds_i8 w1
  clear hA0 hval0
  simp only [List.append_nil] at hW'
  refine (walk c m a n W (by omega) (by omega) (by omega) (by omega)).mono fun e W' ⟨he, hg⟩ => ?_
  subst he
  exact ⟨_, rfl, _, _, _, [], _, [], hW', (trodAll_cons_mk (shut_bool Try.underlying4 _) trodAll_mk0), (trodAll_cons_mk (Below.trod laid (by kernel_rfl) (of_decide_eq_true (by kernel_rfl)) h0 hg (fun x hx => hlt x (by simp [hx]))) trodAll_mk0), rfl, hg.frame _, fun h => by cases h⟩

theorem over : Rows.stepNearRow.holds Try.pinned (OpenSpec.ofChange Rows.stepNearSpec) :=
  OpenClaim.holds_of_wide 7 Try.f7 rfl rfl rfl rfl rfl rfl rfl ⟨rfl, rfl, rfl, rfl, rfl⟩ rfl rfl rfl rfl rfl (by kernel_rfl) Try.func7 (by kernel_rfl)
    (of_decide_eq_true (by kernel_rfl)) (by unfold Func.isWrapper; first | (rw [if_pos (by decide +kernel)]; kernel_rfl) | (rw [if_neg (by decide +kernel)]; exact ⟨rfl, rfl⟩))
    (fun os started H enc _ => lifted os started H enc)

/-- The statement. -/
theorem proved : Rows.StepNearSaid :=
  over
#print axioms proved
end Go.Proofs.Ytnfkklpionbnoaa.stepNear
namespace Go.Proofs.Ytnfkklpionbnoaa
/-- The statement. -/
theorem stepNear_holds : Rows.StepNearSaid := stepNear.proved
end Go.Proofs.Ytnfkklpionbnoaa

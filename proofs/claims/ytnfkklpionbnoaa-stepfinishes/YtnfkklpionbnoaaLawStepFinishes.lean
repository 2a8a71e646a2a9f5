/- Proved: StepFinishes answers true for every thread, every request and every number (no condition): what step.Finish makes of them is what the document says, and the given answers of the layer stand. -/
import Derived.Test.YtnfkklpionbnoaaStepOpen
import Derived.Test.YtnfkklpionbnoaaStepLive
import Derived.Test.YtnfkklpionbnoaaStepEq
import Derived.Test.YtnfkklpionbnoaaStepRFinish
import Derived.Deep.RegionHeld3
import Derived.Deep.DrawnRows
namespace Go.Proofs.Ytnfkklpionbnoaa.stepFinishes
open Go.ChangeShapes Go.WideShapes Go.ChangeAt Go.RowKit
set_option linter.unusedVariables false
attribute [local go_sem ↓] Go.wp_at_zero Go.wp_at_succ

theorem own : ownKnob Try.prog.godebug = none := by kernel_rfl
theorem laid : laidOutB Try.prog = true := by kernel_rfl

set_option maxRecDepth 100000 in
set_option maxHeartbeats 8000000 in
theorem walk (c : S.C) (k a v r n : Int) (w : World) :
    Calls Try.prog 4 #[c.v, S.reqV k a v r, .int .i64 n] w fun e w' => e = .returned (.bool true) ∧ Below w.heap.size w w' := by
  obtain ⟨d, hd⟩ : ∃ d, S.finish c k r n = d := ⟨_, rfl⟩
  have HD : Hid (S.finish c k r n = d) := hd
  clear hd
  have heq := eq8 d
  go_enter Try.func4, Try.ntmps4
  go_wp2_with fail
  go_region_held3 (fun w' => w'.cell? ⟨w.heap.size, 0, none⟩ = some (.int .i64 c.r0) ∧ w'.cell? ⟨w.heap.size, 1, none⟩ = some (.int .i64 c.r1) ∧ w'.cell? ⟨w.heap.size, 2, none⟩ = some (.int .i64 c.r2) ∧ w'.cell? ⟨w.heap.size, 3, none⟩ = some (.int .i64 c.r3) ∧ w'.cell? ⟨w.heap.size, 4, none⟩ = some (.int .i64 c.r4) ∧ w'.cell? ⟨w.heap.size, 5, none⟩ = some (.int .i64 c.r5) ∧ w'.cell? ⟨w.heap.size, 6, none⟩ = some (.int .i64 c.r6) ∧ w'.cell? ⟨w.heap.size, 7, none⟩ = some (.int .i64 c.r7) ∧ w'.cell? ⟨w.heap.size, 8, none⟩ = some (.int .i64 c.pc) ∧ w'.cell? ⟨w.heap.size, 9, none⟩ = some (.int .i64 c.st) ∧ w'.cell? ⟨w.heap.size, 10, none⟩ = some (.int .i64 c.tr) ∧ w'.cell? ⟨w.heap.size + 1, 0, none⟩ = some (.int .i64 k) ∧ w'.cell? ⟨w.heap.size + 1, 1, none⟩ = some (.int .i64 a) ∧ w'.cell? ⟨w.heap.size + 1, 2, none⟩ = some (.int .i64 v) ∧ w'.cell? ⟨w.heap.size + 1, 3, none⟩ = some (.int .i64 r)) (first | (refine ⟨?_, ?_, ?_, ?_, ?_, ?_, ?_, ?_, ?_, ?_, ?_, ?_, ?_, ?_, ?_⟩ <;> (simp (disch := (first | ((try simp) <;> omega) | fail)) only [World.cell?_drew, World.cell?_alloc_at, World.cell?_alloc_past] <;> rfl)) | (refine ⟨?_, ?_, ?_, ?_, ?_, ?_, ?_, ?_, ?_, ?_, ?_, ?_, ?_, ?_, ?_⟩ <;> (simp (disch := (first | ((try simp) <;> omega) | fail)) only [hc1, World.cell?_drew, World.cell?_alloc_at, World.cell?_alloc_past] <;> rfl)) | (refine ⟨?_, ?_, ?_, ?_, ?_, ?_, ?_, ?_, ?_, ?_, ?_, ?_, ?_, ?_, ?_⟩ <;> (simp (disch := (first | ((try simp) <;> omega) | fail)) only [hc2, hc1, World.cell?_drew, World.cell?_alloc_at, World.cell?_alloc_past] <;> rfl)) | (refine ⟨?_, ?_, ?_, ?_, ?_, ?_, ?_, ?_, ?_, ?_, ?_, ?_, ?_, ?_, ?_⟩ <;> (simp (disch := (first | ((try simp) <;> omega) | fail)) only [hc3, hc2, hc1, World.cell?_drew, World.cell?_alloc_at, World.cell?_alloc_past] <;> rfl))) (first | (go_at_call 12; refine (finish_any c _ _ _ _ _ _).mono ?_; rintro e w1 ⟨rfl, hb1⟩; rw [HD.out]; obtain ⟨hc1, hf1⟩ := bcell hb1; have hz1 := hb1.size; simp at hz1) | (go_at_call 13; refine (rfinish_any c _ _ _ _ _ _).mono ?_; rintro e w2 ⟨rfl, hb2⟩; rw [HD.out]; obtain ⟨hc2, hf2⟩ := bcell hb2; have hz2 := hb2.size) | (go_at_call 11; refine (live_any _).mono ?_; rintro e w3 ⟨rfl, hb3⟩; obtain ⟨hc3, hf3⟩ := bcell hb3; have hz3 := hb3.size))
  all_goals
    go_wp2
    go_ret
    exact ⟨rfl, (((bl2 _ _ _).drew.trans (hb1.mono (by simp; omega))).trans (hb2.mono (by omega))).trans (hb3.mono (by omega))⟩

/-! ### The row -/
set_option maxRecDepth 100000 in
theorem lifted (os : Os) (started : os.Started) (H : Type) (enc : TypeId × Value → H) :
    ReturnsInHanded {} Try.checked os 4 .any (Rows.stepFinishesSpec.pre6 enc Try.prog Try.f4 Rows.stepFinishesRow.domain false) (Rows.stepFinishesSpec.post enc Try.prog Try.f4 false true false false) := by
  refine returnsInHanded_of_change (C := Try.checked) own started (by kernel_rfl) Try.func4
    (ChangeSpec.witness6 (enc := enc) (C := Try.checked) false ⟨#[], #[.agg #[.int .i64 0, .int .i64 0, .int .i64 0, .int .i64 0, .int .i64 0, .int .i64 0, .int .i64 0, .int .i64 0, .int .i64 0, .int .i64 0, .int .i64 0], .agg #[.int .i64 0, .int .i64 0, .int .i64 0, .int .i64 0], .int .i64 0], []⟩ 8 (by kernel_rfl) (by kernel_rfl) (by kernel_rfl) (by kernel_rfl)) ?_
  intro W base args ds gs before hval0 hW hcnd _
  have hval : ∀ (j : Nat) t v, Try.f4.params[j]? = some t → args[j]? = some v → Value.okWide Try.prog W .any base t v := hval0
  have hW' := hW
  obtain ⟨p, q, hA0, hV, rfl, hfz, hnd⟩ := hW
  have hA : DataW.TrodAll enc Try.prog W 0 (fun _ => true) true Try.f4.params.toList args.toList ds p := hA0
  have hlt := hA.lt
  rw [Try.params4] at hA hval
  obtain ⟨v0, vs0, d0, ds0, p0, q0, hargs, rfl, rfl, h0, r0⟩ := trodAll_cons hA
  obtain ⟨v1, vs1, d1, ds1, p1, q1, rfl, rfl, rfl, h1, r1⟩ := trodAll_cons r0
  obtain ⟨v2, vs2, d2, ds2, p2, q2, rfl, rfl, rfl, h2, r2⟩ := trodAll_cons r1
  obtain ⟨rfl, rfl, rfl⟩ := trodAll_nil r2
  obtain rfl : args = #[v0, v1, v2] := by cases args; simp_all
  obtain ⟨rfl, rfl⟩ := trodVars_none hV
  obtain ⟨c, rfl, hok⟩ := open_cpu (hval 0 24 v0 rfl rfl) h0
  obtain ⟨k, a, v, r, rfl⟩ := open_req (hval 1 28 v1 rfl rfl) h1
  obtain ⟨z, rfl, rfl, rfl, wz⟩ := open_int Try.underlying2 (hval 2 2 v2 rfl rfl) h2
  clear hA0 hval0
  simp only [List.append_nil] at hW'
  refine (walk c k a v r z W).mono fun e W' ⟨he, hg⟩ => ?_
  subst he
  exact ⟨_, rfl, _, _, _, [], _, [], hW', (trodAll_cons_mk (shut_bool Try.underlying4 _) trodAll_mk0), (trodAll_cons_mk (Below.trod laid (by kernel_rfl) (of_decide_eq_true (by kernel_rfl)) h0 hg (fun x hx => hlt x (by simp [hx]))) (trodAll_cons_mk (Below.trod laid (by kernel_rfl) (of_decide_eq_true (by kernel_rfl)) h1 hg (fun x hx => hlt x (by simp [hx]))) (trodAll_cons_mk (shut_int Try.underlying2 wz) trodAll_mk0))), rfl, hg.frame _, fun h => by cases h⟩

theorem over : Rows.stepFinishesRow.holds Try.pinned (OpenSpec.ofChange Rows.stepFinishesSpec) :=
  OpenClaim.holds_of_wide 4 Try.f4 rfl rfl rfl rfl rfl rfl rfl ⟨rfl, rfl, rfl, rfl, rfl⟩ rfl rfl rfl rfl rfl (by kernel_rfl) Try.func4 (by kernel_rfl)
    (of_decide_eq_true (by kernel_rfl)) (by unfold Func.isWrapper; first | (rw [if_pos (by decide +kernel)]; kernel_rfl) | (rw [if_neg (by decide +kernel)]; exact ⟨rfl, rfl⟩))
    (fun os started H enc _ => lifted os started H enc)

/-- The statement. -/
theorem proved : Rows.StepFinishesSaid :=
  over
#print axioms proved
end Go.Proofs.Ytnfkklpionbnoaa.stepFinishes
namespace Go.Proofs.Ytnfkklpionbnoaa
/-- The statement. -/
theorem stepFinishes_holds : Rows.StepFinishesSaid := stepFinishes.proved
end Go.Proofs.Ytnfkklpionbnoaa

/- Proved: StepStarts answers true for every thread, every instruction and every size (no condition): what step.Start makes of them, and asks of memory, is what the document says, and the given answers of the layer stand. -/
import Derived.Test.YtnfkklpionbnoaaStepOpen
import Derived.Test.YtnfkklpionbnoaaStepLive
import Derived.Test.YtnfkklpionbnoaaStepEq
import Derived.Test.YtnfkklpionbnoaaStepRefAll
import Derived.Deep.RegionHeld3
import Derived.Deep.DrawnRows
namespace Go.Proofs.Ytnfkklpionbnoaa.stepStarts
open Go.ChangeShapes Go.WideShapes Go.ChangeAt Go.RowKit
set_option linter.unusedVariables false
attribute [local go_sem ↓] Go.wp_at_zero Go.wp_at_succ

theorem own : ownKnob Try.prog.godebug = none := by kernel_rfl
theorem laid : laidOutB Try.prog = true := by kernel_rfl

set_option maxRecDepth 100000 in
set_option maxHeartbeats 8000000 in
theorem walk (c : S.C) (hok : c.ok) (op a b n size : Int) (w : World) :
    Calls Try.prog 3 #[c.v, S.insV op a b n, .int .i64 size] w fun e w' => e = .returned (.bool true) ∧ Below w.heap.size w w' := by
  obtain ⟨d, hd⟩ : ∃ d, S.startC c op a b n size = d := ⟨_, rfl⟩
  have HD : Hid (S.startC c op a b n size = d) := hd
  obtain ⟨q, hq⟩ : ∃ q, S.startQ c op a b n size = q := ⟨_, rfl⟩
  have HQ : Hid (S.startQ c op a b n size = q) := hq
  clear hd hq
  have heq := eq8 d
  go_enter Try.func3, Try.ntmps3
  go_wp2_with fail
  refine (start_any c op a b n size _).mono ?_
  rintro e w1 ⟨rfl, hb1⟩
  rw [HD.out, HQ.out]
  obtain ⟨hc1, hf1⟩ := bcell hb1
  have hs1 := hb1.size
  simp at hs1
  have zc1 : w.heap.size < w1.heap.size := by omega
  have zi1 : w.heap.size + 1 < w1.heap.size := by omega
  have kc1 : ∀ o, w1.cell? ⟨w.heap.size, o, none⟩ = (#[.int .i64 c.r0, .int .i64 c.r1, .int .i64 c.r2, .int .i64 c.r3, .int .i64 c.r4, .int .i64 c.r5, .int .i64 c.r6, .int .i64 c.r7, .int .i64 c.pc, .int .i64 c.st, .int .i64 c.tr] : Array Value)[o]? := fun o => by rw [hc1 _ _ (by simp; omega), l_one]
  have ki1 : ∀ o, w1.cell? ⟨w.heap.size + 1, o, none⟩ = (#[.int .i64 op, .int .i64 a, .int .i64 b, .int .i64 n] : Array Value)[o]? := fun o => by rw [hc1 _ _ (by simp), l_two]
  have q1 : Below w.heap.size w w1 := (bl2 _ _ _).trans (hb1.mono (by simp; omega))
  clear hc1 hf1 hb1 hs1
  go_wp2_with fail
  refine (rstart_any c hok op a b n size _).mono ?_
  rintro e w2 ⟨rfl, hb2⟩
  rw [HD.out, HQ.out]
  obtain ⟨hc2, hf2⟩ := bcell hb2
  have hs2 := hb2.size
  simp at hs2
  have zd2 : w1.heap.size < w2.heap.size := by omega
  have zq2 : w1.heap.size + 1 < w2.heap.size := by omega
  have kd2 : ∀ o, w2.cell? ⟨w1.heap.size, o, none⟩ = (#[.int .i64 d.r0, .int .i64 d.r1, .int .i64 d.r2, .int .i64 d.r3, .int .i64 d.r4, .int .i64 d.r5, .int .i64 d.r6, .int .i64 d.r7, .int .i64 d.pc, .int .i64 d.st, .int .i64 d.tr] : Array Value)[o]? := fun o => by rw [hc2 _ _ (by simp; omega), l_one]
  have kq2 : ∀ o, w2.cell? ⟨w1.heap.size + 1, o, none⟩ = (#[.int .i64 q.k, .int .i64 q.a, .int .i64 q.v, .int .i64 q.r] : Array Value)[o]? := fun o => by rw [hc2 _ _ (by simp), l_two]
  have q2 : Below w.heap.size w w2 := ((q1.alloc (by omega) _).alloc (by simp; omega) _).trans (hb2.mono (by simp; omega))
  clear hc2 hf2 hb2 hs2
  go_wp2_with (go_at_call 11; refine (live_any _).mono ?_; rintro e w3 ⟨rfl, hb3⟩)
  go_ret
  exact ⟨rfl, ((q2.alloc (by omega) _).alloc (by simp; omega) _).trans (hb3.mono (by simp; omega))⟩

/-! ### The row -/
set_option maxRecDepth 100000 in
theorem lifted (os : Os) (started : os.Started) (H : Type) (enc : TypeId × Value → H) :
    ReturnsInHanded {} Try.checked os 3 .any (Rows.stepStartsSpec.pre6 enc Try.prog Try.f3 Rows.stepStartsRow.domain false) (Rows.stepStartsSpec.post enc Try.prog Try.f3 false true false false) := by
  refine returnsInHanded_of_change (C := Try.checked) own started (by kernel_rfl) Try.func3
    (ChangeSpec.witness6 (enc := enc) (C := Try.checked) false ⟨#[], #[.agg #[.int .i64 0, .int .i64 0, .int .i64 0, .int .i64 0, .int .i64 0, .int .i64 0, .int .i64 0, .int .i64 0, .int .i64 0, .int .i64 0, .int .i64 0], .agg #[.int .i64 0, .int .i64 0, .int .i64 0, .int .i64 0], .int .i64 0], []⟩ 8 (by kernel_rfl) (by kernel_rfl) (by kernel_rfl) (by kernel_rfl)) ?_
  intro W base args ds gs before hval0 hW hcnd _
  have hval : ∀ (j : Nat) t v, Try.f3.params[j]? = some t → args[j]? = some v → Value.okWide Try.prog W .any base t v := hval0
  have hW' := hW
  obtain ⟨p, q, hA0, hV, rfl, hfz, hnd⟩ := hW
  have hA : DataW.TrodAll enc Try.prog W 0 (fun _ => true) true Try.f3.params.toList args.toList ds p := hA0
  have hlt := hA.lt
  rw [Try.params3] at hA hval
  obtain ⟨v0, vs0, d0, ds0, p0, q0, hargs, rfl, rfl, h0, r0⟩ := trodAll_cons hA
  obtain ⟨v1, vs1, d1, ds1, p1, q1, rfl, rfl, rfl, h1, r1⟩ := trodAll_cons r0
  obtain ⟨v2, vs2, d2, ds2, p2, q2, rfl, rfl, rfl, h2, r2⟩ := trodAll_cons r1
  obtain ⟨rfl, rfl, rfl⟩ := trodAll_nil r2
  obtain rfl : args = #[v0, v1, v2] := by cases args; simp_all
  obtain ⟨rfl, rfl⟩ := trodVars_none hV
  obtain ⟨c, rfl, hok⟩ := open_cpu (hval 0 24 v0 rfl rfl) h0
  obtain ⟨op, a, b, n, rfl, w0, w1, w2, w3⟩ := open_ins (hval 1 26 v1 rfl rfl) h1
  obtain ⟨z, rfl, rfl, rfl, wz⟩ := open_int Try.underlying3 (hval 2 3 v2 rfl rfl) h2
  clear hA0 hval0
  simp only [List.append_nil] at hW'
  refine (walk c hok op a b n z W).mono fun e W' ⟨he, hg⟩ => ?_
  subst he
  exact ⟨_, rfl, _, _, _, [], _, [], hW', (trodAll_cons_mk (shut_bool Try.underlying4 _) trodAll_mk0), (trodAll_cons_mk (Below.trod laid (by kernel_rfl) (of_decide_eq_true (by kernel_rfl)) h0 hg (fun x hx => hlt x (by simp [hx]))) (trodAll_cons_mk (Below.trod laid (by kernel_rfl) (of_decide_eq_true (by kernel_rfl)) h1 hg (fun x hx => hlt x (by simp [hx]))) (trodAll_cons_mk (shut_int Try.underlying3 wz) trodAll_mk0))), rfl, hg.frame _, fun h => by cases h⟩

theorem over : Rows.stepStartsRow.holds Try.pinned (OpenSpec.ofChange Rows.stepStartsSpec) :=
  OpenClaim.holds_of_wide 3 Try.f3 rfl rfl rfl rfl rfl rfl rfl ⟨rfl, rfl, rfl, rfl, rfl⟩ rfl rfl rfl rfl rfl (by kernel_rfl) Try.func3 (by kernel_rfl)
    (of_decide_eq_true (by kernel_rfl)) (by unfold Func.isWrapper; first | (rw [if_pos (by decide +kernel)]; kernel_rfl) | (rw [if_neg (by decide +kernel)]; exact ⟨rfl, rfl⟩))
    (fun os started H enc _ => lifted os started H enc)

/-- The statement. -/
theorem proved : Rows.StepStartsSaid :=
  over
#print axioms proved
end Go.Proofs.Ytnfkklpionbnoaa.stepStarts
namespace Go.Proofs.Ytnfkklpionbnoaa
/-- The statement. -/
theorem stepStarts_holds : Rows.StepStartsSaid := stepStarts.proved
end Go.Proofs.Ytnfkklpionbnoaa

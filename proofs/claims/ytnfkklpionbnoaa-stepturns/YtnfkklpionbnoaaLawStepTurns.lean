/- Proved: StepTurns answers true for every thread, every instruction and every size (no condition): an instruction turns at most one register beside that of the stack, its first one, and a thread that does not run does nothing; and the given answers of the layer stand. -/
import Derived.Test.YtnfkklpionbnoaaStepOpen
import Derived.Test.YtnfkklpionbnoaaStepLive
import Derived.Test.YtnfkklpionbnoaaStepEq
import Derived.Test.YtnfkklpionbnoaaStepFacts
import Derived.Deep.RegionHeld3
import Derived.Deep.DrawnRows
import Derived.Deep.QuietTactic
import Derived.BigQuiet
namespace Go.Proofs.Ytnfkklpionbnoaa.stepTurns
open Go.ChangeShapes Go.WideShapes Go.ChangeAt Go.RowKit
set_option linter.unusedVariables false
attribute [local go_sem ↓] Go.wp_at_zero Go.wp_at_succ

theorem own : ownKnob Try.prog.godebug = none := by kernel_rfl
theorem laid : laidOutB Try.prog = true := by kernel_rfl

set_option maxRecDepth 100000 in
set_option maxHeartbeats 16000000 in
theorem still (c : S.C) (op a b n size : Int) (w : World) (hs : ¬ c.st = 0) :
    Calls Try.prog 5 #[c.v, S.insV op a b n, .int .i64 size] w fun e w' => e = .returned (.bool true) ∧ Below w.heap.size w w' := by
  obtain ⟨e1, e2⟩ := S.startC_not c op a b n size hs
  have HD : Hid (S.startC c op a b n size = c) := e1
  have HQ : Hid (S.startQ c op a b n size = ⟨0, 0, 0, 0⟩) := e2
  clear e1 e2
  have heq := eq8 c
  go_enter Try.func5, Try.ntmps5
  go_wp2_with fail
  refine (start_any c op a b n size _).mono ?_
  rintro e w1 ⟨rfl, hb1⟩
  rw [HD.out, HQ.out]
  obtain ⟨hc1, hf1⟩ := bcell hb1
  have hs1 := hb1.size
  simp at hs1
  have zc1 : w.heap.size < w1.heap.size := by omega
  have zi1 : w.heap.size + 1 < w1.heap.size := by omega
  have kc1 : ∀ o, w1.cell? ⟨w.heap.size, o, none⟩ = (#[.int .i64 c.r0, .int .i64 c.r1, .int .i64 c.r2, .int .i64 c.r3, .int .i64 c.r4, .int .i64 c.r5, .int .i64 c.r6, .int .i64 c.r7, .int .i64 c.pc, .int .i64 c.st, .int .i64 c.tr] : Array Value)[o]? := fun o => by rw [hc1 _ _ (by simp; omega), l_one]
  have ki1 : ∀ o, w1.cell? ⟨w.heap.size + 1, o, none⟩ = (#[.int .i64 op, .int .i64 a, .int .i64 b, .int .i64 n] : Array Value)[o]? := fun o => by rw [hc1 _ _ (by simp), l_two]
  have q1 : Below w.heap.size w w1 := (bl2 _ _ _).trans (hb1.mono (by simp; omega))
  clear hc1 hf1 hb1 hs1
  go_wp2_with (go_at_call 11; refine (live_any _).mono ?_; rintro e w3 ⟨rfl, hb3⟩)
  go_ret
  exact ⟨rfl, ((q1.alloc (by omega) _).alloc (by simp; omega) _).trans (hb3.mono (by simp; omega))⟩

theorem bl_drewN {B : Nat} {x y : World} (h : Below B x y) (m : Nat) : Below B x (y.drewN m) := ⟨h.os, h.tape, h.output, h.size, h.block⟩
theorem rd_at (c : S.C) (k : Nat) (h : k < 8) : (#[.int .i64 c.r0, .int .i64 c.r1, .int .i64 c.r2, .int .i64 c.r3, .int .i64 c.r4, .int .i64 c.r5, .int .i64 c.r6, .int .i64 c.r7, .int .i64 c.pc, .int .i64 c.st, .int .i64 c.tr] : Array Value)[k]? = some (.int .i64 (c.rd k)) := by
  rcases (show k = 0 ∨ k = 1 ∨ k = 2 ∨ k = 3 ∨ k = 4 ∨ k = 5 ∨ k = 6 ∨ k = 7 by omega) with rfl | rfl | rfl | rfl | rfl | rfl | rfl | rfl <;> rfl

set_option maxRecDepth 100000 in
set_option maxHeartbeats 16000000 in
theorem runs (c : S.C) (op a b n size : Int) (w : World) (hs : (c.st != 0) = false) :
    Calls Try.prog 5 #[c.v, S.insV op a b n, .int .i64 size] w fun e w' => e = .returned (.bool true) ∧ Below w.heap.size w w' := by
  obtain ⟨d, hd⟩ : ∃ d, S.startC c op a b n size = d := ⟨_, rfl⟩
  have HD : Hid (S.startC c op a b n size = d) := hd
  obtain ⟨q, hq⟩ : ∃ q, S.startQ c op a b n size = q := ⟨_, rfl⟩
  have HQ : Hid (S.startQ c op a b n size = q) := hq
  have HR : Hid (∀ k : Nat, (k : Int) ≠ a → (k = 7 → ¬ op = 23 ∧ ¬ op = 24) → d.rd k = c.rd k) := fun k h h7 => hd ▸ S.startC_rd c op a b n size k h h7
  clear hd hq
  go_enter Try.func5, Try.ntmps5
  go_wp2_with fail
  refine (start_any c op a b n size _).mono ?_
  rintro e w1 ⟨rfl, hb1⟩
  rw [HD.out, HQ.out]
  obtain ⟨hc1, hf1⟩ := bcell hb1
  have hs1 := hb1.size
  simp at hs1
  have zc1 : w.heap.size < w1.heap.size := by omega
  have zi1 : w.heap.size + 1 < w1.heap.size := by omega
  have kc1 : ∀ o, w1.cell? ⟨w.heap.size, o, none⟩ = (#[.int .i64 c.r0, .int .i64 c.r1, .int .i64 c.r2, .int .i64 c.r3, .int .i64 c.r4, .int .i64 c.r5, .int .i64 c.r6, .int .i64 c.r7, .int .i64 c.pc, .int .i64 c.st, .int .i64 c.tr] : Array Value)[o]? := fun o => by rw [hc1 _ _ (by simp; omega), l_one]
  have ki1 : ∀ o, w1.cell? ⟨w.heap.size + 1, o, none⟩ = (#[.int .i64 op, .int .i64 a, .int .i64 b, .int .i64 n] : Array Value)[o]? := fun o => by rw [hc1 _ _ (by simp), l_two]
  have q1 : Below w.heap.size w w1 := (bl2 _ _ _).trans (hb1.mono (by simp; omega))
  clear hc1 hf1 hb1 hs1
  have HI : Hid (w.heap.size + 1 < w1.heap.size) := zi1
  go_wp2_with fail
  go_loopw [9] (fun i wr => ∃ k : Nat, k ≤ 7 ∧ i = .int .i64 k ∧ (∀ o, wr.cell? ⟨w.heap.size, o, none⟩ = (#[.int .i64 c.r0, .int .i64 c.r1, .int .i64 c.r2, .int .i64 c.r3, .int .i64 c.r4, .int .i64 c.r5, .int .i64 c.r6, .int .i64 c.r7, .int .i64 c.pc, .int .i64 c.st, .int .i64 c.tr] : Array Value)[o]?) ∧ (∀ o, wr.cell? ⟨w.heap.size + 1, o, none⟩ = (#[.int .i64 op, .int .i64 a, .int .i64 b, .int .i64 n] : Array Value)[o]?) ∧ (∀ o, wr.cell? ⟨w1.heap.size, o, none⟩ = (#[.int .i64 d.r0, .int .i64 d.r1, .int .i64 d.r2, .int .i64 d.r3, .int .i64 d.r4, .int .i64 d.r5, .int .i64 d.r6, .int .i64 d.r7, .int .i64 d.pc, .int .i64 d.st, .int .i64 d.tr] : Array Value)[o]?) ∧ w.heap.size ≤ wr.heap.size ∧ Below w.heap.size w wr) (fun i _ => 7 - (intOf i).toNat)
  case atStart =>
    refine ⟨0, by omega, rfl, fun o => ?_, fun o => ?_, fun o => l_one _ _ _ _ _, by simp; omega, (q1.alloc (by omega) _).alloc (by simp; omega) _⟩
    · rw [l_old _ _ _ _ _ zc1, kc1]
    · rw [l_old _ _ _ _ _ zi1, ki1]
  case round =>
    obtain ⟨k, hk, rfl, hc, hi, hdd, hsz, hbl⟩ := hrel
    clear kc1 ki1 q1
    obtain ⟨wo, rfl⟩ : ∃ wo : World, wo = wr := ⟨_, rfl⟩
    by_cases hlt : k < 7
    · have xc := hc k
      have xd := hdd k
      rw [rd_at c k (by omega)] at xc
      rw [rd_at d k (by omega)] at xd
      have xa := hi 1
      have HC : Hid _ := hc
      have HII : Hid _ := hi
      have HDD : Hid _ := hdd
      clear hc hi hdd
      have k0 : (0 : Int) ≤ (k : Int) := by omega
      have k8 : (k : Int) < 8 := by omega
      by_cases hx : d.rd k = c.rd k
      · have hne : (d.rd k != c.rd k) = false := by simp [hx]
        have HX : Hid _ := hx
        clear hx
        go_wp2_with fail
        go_quiet (fail)
        go_wp2
        go_roundw
        case rel => exact ⟨k + 1, by omega, by go_num, fun o => by simpa using HC.out o, fun o => by simpa using HII.out o, fun o => by simpa using HDD.out o, by simpa using hsz, bl_drewN hbl _⟩
        case measure => simp [intOf]; omega
      · have hak : a = k := by
          apply Classical.byContradiction
          intro h
          exact hx (HR.out k (fun e => h e.symm) (fun e => by omega))
        have hne : (d.rd k != c.rd k) = true := by simpa using hx
        subst hak
        clear hx
        go_wp2_with fail
        go_quiet (fail)
        go_wp2
        go_roundw
        case rel => exact ⟨k + 1, by omega, by go_num, fun o => by simpa using HC.out o, fun o => by simpa using HII.out o, fun o => by simpa using HDD.out o, by simpa using hsz, bl_drewN hbl _⟩
        case measure => simp [intOf]; omega
    · obtain rfl : k = 7 := by omega
      have h7 : (d.r7 = c.r7) ∨ (¬ d.r7 = c.r7 ∧ a = 7) ∨ (¬ d.r7 = c.r7 ∧ ¬ a = 7 ∧ op = 23) ∨ (¬ d.r7 = c.r7 ∧ ¬ a = 7 ∧ ¬ op = 23 ∧ op = 24) := by
        by_cases e1 : d.r7 = c.r7
        · exact .inl e1
        by_cases e2 : a = 7
        · exact .inr (.inl ⟨e1, e2⟩)
        by_cases e3 : op = 23
        · exact .inr (.inr (.inl ⟨e1, e2, e3⟩))
        by_cases e4 : op = 24
        · exact .inr (.inr (.inr ⟨e1, e2, e3, e4⟩))
        exact absurd (HR.out 7 (fun e => e2 (by simpa using e.symm)) (fun _ => ⟨e3, e4⟩)) e1
      rcases h7 with e | ⟨e, rfl⟩ | ⟨e, e2, rfl⟩ | ⟨e, e2, e3, rfl⟩
      all_goals
        go_wp2_with (go_at_call 11; refine (live_any _).mono ?_; rintro e w3 ⟨rfl, hb3⟩)
        go_ret
        exact ⟨rfl, hbl.trans (hb3.mono hsz)⟩

theorem walk (c : S.C) (op a b n size : Int) (w : World) :
    Calls Try.prog 5 #[c.v, S.insV op a b n, .int .i64 size] w fun e w' => e = .returned (.bool true) ∧ Below w.heap.size w w' := by
  by_cases hs : c.st = 0
  · exact runs c op a b n size w (by simp [hs])
  · exact still c op a b n size w hs

/-! ### The row -/
set_option maxRecDepth 100000 in
theorem lifted (os : Os) (started : os.Started) (H : Type) (enc : TypeId × Value → H) :
    ReturnsInHanded {} Try.checked os 5 .any (Rows.stepTurnsSpec.pre6 enc Try.prog Try.f5 Rows.stepTurnsRow.domain false) (Rows.stepTurnsSpec.post enc Try.prog Try.f5 false true false false) := by
  refine returnsInHanded_of_change (C := Try.checked) own started (by kernel_rfl) Try.func5
    (ChangeSpec.witness6 (enc := enc) (C := Try.checked) false ⟨#[], #[.agg #[.int .i64 0, .int .i64 0, .int .i64 0, .int .i64 0, .int .i64 0, .int .i64 0, .int .i64 0, .int .i64 0, .int .i64 0, .int .i64 0, .int .i64 0], .agg #[.int .i64 0, .int .i64 0, .int .i64 0, .int .i64 0], .int .i64 0], []⟩ 8 (by kernel_rfl) (by kernel_rfl) (by kernel_rfl) (by kernel_rfl)) ?_
  intro W base args ds gs before hval0 hW hcnd _
  have hval : ∀ (j : Nat) t v, Try.f5.params[j]? = some t → args[j]? = some v → Value.okWide Try.prog W .any base t v := hval0
  have hW' := hW
  obtain ⟨p, q, hA0, hV, rfl, hfz, hnd⟩ := hW
  have hA : DataW.TrodAll enc Try.prog W 0 (fun _ => true) true Try.f5.params.toList args.toList ds p := hA0
  have hlt := hA.lt
  rw [Try.params5] at hA hval
  obtain ⟨v0, vs0, d0, ds0, p0, q0, hargs, rfl, rfl, h0, r0⟩ := trodAll_cons hA
  obtain ⟨v1, vs1, d1, ds1, p1, q1, rfl, rfl, rfl, h1, r1⟩ := trodAll_cons r0
  obtain ⟨v2, vs2, d2, ds2, p2, q2, rfl, rfl, rfl, h2, r2⟩ := trodAll_cons r1
  obtain ⟨rfl, rfl, rfl⟩ := trodAll_nil r2
  obtain rfl : args = #[v0, v1, v2] := by cases args; simp_all
  obtain ⟨rfl, rfl⟩ := trodVars_none hV
  obtain ⟨c, rfl, hok⟩ := open_cpu (hval 0 24 v0 rfl rfl) h0
  obtain ⟨op, a, b, n, rfl, w0, w1, w2, w3⟩ := open_ins (hval 1 26 v1 rfl rfl) h1
  obtain ⟨z, rfl, rfl, rfl, wz⟩ := open_int Try.underlying3 (hval 2 3 v2 rfl rfl) h2
  clear hA0 hval0
  simp only [List.append_nil] at hW'
  refine (walk c op a b n z W).mono fun e W' ⟨he, hg⟩ => ?_
  subst he
  exact ⟨_, rfl, _, _, _, [], _, [], hW', (trodAll_cons_mk (shut_bool Try.underlying4 _) trodAll_mk0), (trodAll_cons_mk (Below.trod laid (by kernel_rfl) (of_decide_eq_true (by kernel_rfl)) h0 hg (fun x hx => hlt x (by simp [hx]))) (trodAll_cons_mk (Below.trod laid (by kernel_rfl) (of_decide_eq_true (by kernel_rfl)) h1 hg (fun x hx => hlt x (by simp [hx]))) (trodAll_cons_mk (shut_int Try.underlying3 wz) trodAll_mk0))), rfl, hg.frame _, fun h => by cases h⟩

theorem over : Rows.stepTurnsRow.holds Try.pinned (OpenSpec.ofChange Rows.stepTurnsSpec) :=
  OpenClaim.holds_of_wide 5 Try.f5 rfl rfl rfl rfl rfl rfl rfl ⟨rfl, rfl, rfl, rfl, rfl⟩ rfl rfl rfl rfl rfl (by kernel_rfl) Try.func5 (by kernel_rfl)
    (of_decide_eq_true (by kernel_rfl)) (by unfold Func.isWrapper; first | (rw [if_pos (by decide +kernel)]; kernel_rfl) | (rw [if_neg (by decide +kernel)]; exact ⟨rfl, rfl⟩))
    (fun os started H enc _ => lifted os started H enc)

/-- The statement. -/
theorem proved : Rows.StepTurnsSaid :=
  over
#print axioms proved
end Go.Proofs.Ytnfkklpionbnoaa.stepTurns
namespace Go.Proofs.Ytnfkklpionbnoaa
/-- The statement. -/
theorem stepTurns_holds : Rows.StepTurnsSaid := stepTurns.proved
end Go.Proofs.Ytnfkklpionbnoaa

/- Proved: StepPlain answers true for every thread, every instruction and every size (no condition): an instruction that is no jump, call or return, and does not trap, goes on at the next place; and the given answers of the layer stand. -/
import Derived.Test.YtnfkklpionbnoaaStepOpen
import Derived.Test.YtnfkklpionbnoaaStepLive
import Derived.Test.YtnfkklpionbnoaaStepEq
import Derived.Test.YtnfkklpionbnoaaStepFacts
import Derived.Deep.RegionHeld3
import Derived.Deep.DrawnRows
namespace Go.Proofs.Ytnfkklpionbnoaa.stepPlain
open Go.ChangeShapes Go.WideShapes Go.ChangeAt Go.RowKit
set_option linter.unusedVariables false
attribute [local go_sem ↓] Go.wp_at_zero Go.wp_at_succ

theorem own : ownKnob Try.prog.godebug = none := by kernel_rfl
theorem laid : laidOutB Try.prog = true := by kernel_rfl

set_option maxRecDepth 100000 in
set_option maxHeartbeats 16000000 in
theorem calm (c : S.C) (op a b n size : Int) (w : World) (h : (c.pc < 0) ∨ (0 ≤ c.pc ∧ 1099511627776 < c.pc) ∨ (0 ≤ c.pc ∧ c.pc ≤ 1099511627776 ∧ size < 0) ∨ (0 ≤ c.pc ∧ c.pc ≤ 1099511627776 ∧ 0 ≤ size ∧ 100 < size)) :
    Calls Try.prog 8 #[c.v, S.insV op a b n, .int .i64 size] w fun e w' => e = .returned (.bool true) ∧ Below w.heap.size w w' := by
  rcases h with h1 | ⟨h1, h2⟩ | ⟨h1, h2, h3⟩ | ⟨h1, h2, h3, h4⟩
  all_goals
    go_enter Try.func8, Try.ntmps8
    go_wp2_with (go_at_call 11; refine (live_any _).mono ?_; rintro e w3 ⟨rfl, hb3⟩)
    go_ret
    exact ⟨rfl, (bl2 _ _ _).trans (hb3.mono (by simp; omega))⟩

set_option maxRecDepth 100000 in
set_option maxHeartbeats 16000000 in
theorem calm2 (c : S.C) (op a b n size : Int) (w : World) (g1 : 0 ≤ c.pc) (g2 : c.pc ≤ 1099511627776) (g3 : 0 ≤ size) (g4 : size ≤ 100)
    (h : ((c.st != 0) = true) ∨ ((c.st != 0) = false ∧ a < 0) ∨ ((c.st != 0) = false ∧ 0 ≤ a ∧ 7 < a) ∨ ((c.st != 0) = false ∧ 0 ≤ a ∧ a ≤ 7 ∧ b < 0) ∨ ((c.st != 0) = false ∧ 0 ≤ a ∧ a ≤ 7 ∧ 0 ≤ b ∧ 7 < b) ∨ ((c.st != 0) = false ∧ 0 ≤ a ∧ a ≤ 7 ∧ 0 ≤ b ∧ b ≤ 7 ∧ op < 1) ∨ ((c.st != 0) = false ∧ 0 ≤ a ∧ a ≤ 7 ∧ 0 ≤ b ∧ b ≤ 7 ∧ 1 ≤ op ∧ 33 < op) ∨ ((c.st != 0) = false ∧ 0 ≤ a ∧ a ≤ 7 ∧ 0 ≤ b ∧ b ≤ 7 ∧ 20 ≤ op ∧ op ≤ 27) ∨ ((c.st != 0) = false ∧ 0 ≤ a ∧ a ≤ 7 ∧ 0 ≤ b ∧ b ≤ 7 ∧ op = 33)) :
    Calls Try.prog 8 #[c.v, S.insV op a b n, .int .i64 size] w fun e w' => e = .returned (.bool true) ∧ Below w.heap.size w w' := by
  rcases h with h1 | ⟨h1, h2⟩ | ⟨h1, h2, h3⟩ | ⟨h1, h2, h3, h4⟩ | ⟨h1, h2, h3, h4, h5⟩ | ⟨h1, h2, h3, h4, h5, h6⟩ | ⟨h1, h2, h3, h4, h5, h6, h7⟩ | ⟨h1, h2, h3, h4, h5, h6, h7⟩ | ⟨h1, h2, h3, h4, h5, rfl⟩
  all_goals
    go_enter Try.func8, Try.ntmps8
    go_wp2_with (go_at_call 11; refine (live_any _).mono ?_; rintro e w3 ⟨rfl, hb3⟩)
    go_ret
    exact ⟨rfl, (bl2 _ _ _).trans (hb3.mono (by simp; omega))⟩

set_option maxRecDepth 100000 in
set_option maxHeartbeats 16000000 in
theorem real (c : S.C) (op : Int) (a b : Nat) (n size : Int) (w : World) (g1 : 0 ≤ c.pc) (g2 : c.pc ≤ 1099511627776) (g3 : 0 ≤ size) (g4 : size ≤ 100) (hst : (c.st != 0) = false) (a8 : (a : Int) ≤ 7) (b8 : (b : Int) ≤ 7) (o1 : 1 ≤ op) (o2 : op ≤ 32) (oj : op < 20 ∨ 27 < op) :
    Calls Try.prog 8 #[c.v, S.insV op a b n, .int .i64 size] w fun e w' => e = .returned (.bool true) ∧ Below w.heap.size w w' := by
  have hs0 : c.st = 0 := by simpa using hst
  have hp := S.plain c op a b n (wrap64 (c.pc + size)) hs0 oj (by omega)
  have hy := S.start_yes c op a b n size hs0 o1 (by omega) (by omega) (by omega)
  rw [← hy.1, ← hy.2, W.wrap_id (c.pc + size) (by omega) (by omega)] at hp
  clear hy hs0
  have a0 : (0 : Int) ≤ (a : Int) := by omega
  have b0 : (0 : Int) ≤ (b : Int) := by omega
  obtain ⟨d, hd⟩ : ∃ d, S.startC c op a b n size = d := ⟨_, rfl⟩
  have HD : Hid (S.startC c op a b n size = d) := hd
  obtain ⟨q, hq⟩ : ∃ q, S.startQ c op a b n size = q := ⟨_, rfl⟩
  have HQ : Hid (S.startQ c op a b n size = q) := hq
  rw [hd, hq] at hp
  clear hd hq
  by_cases h2 : d.st = 2
  · obtain ⟨ho, hpc, rfl⟩ := hp.1 h2
    obtain ⟨d0, d1, d2, d3, d4, d5, d6, d7, dp, ds, dt⟩ := d
    simp only at h2 hpc
    subst h2 hpc
    clear hp
    rcases ho with rfl | rfl
    · go_enter Try.func8, Try.ntmps8
      go_wp2_with fail
      refine (start_any c _ a b n size _).mono ?_
      rintro e w1 ⟨rfl, hb1⟩
      rw [HD.out, HQ.out]
      obtain ⟨hc1, hf1⟩ := bcell hb1
      have hs1 := hb1.size
      simp at hs1
      have zc1 : w.heap.size < w1.heap.size := by omega
      have zi1 : w.heap.size + 1 < w1.heap.size := by omega
      have kc1 : ∀ o, w1.cell? ⟨w.heap.size, o, none⟩ = (#[.int .i64 c.r0, .int .i64 c.r1, .int .i64 c.r2, .int .i64 c.r3, .int .i64 c.r4, .int .i64 c.r5, .int .i64 c.r6, .int .i64 c.r7, .int .i64 c.pc, .int .i64 c.st, .int .i64 c.tr] : Array Value)[o]? := fun o => by rw [hc1 _ _ (by simp; omega), l_one]
      have ki1 : ∀ o, w1.cell? ⟨w.heap.size + 1, o, none⟩ = (#[.int .i64 6, .int .i64 a, .int .i64 b, .int .i64 n] : Array Value)[o]? := fun o => by rw [hc1 _ _ (by simp), l_two]
      have q1 : Below w.heap.size w w1 := (bl2 _ _ _).trans (hb1.mono (by simp; omega))
      clear hc1 hf1 hb1 hs1
      go_wp2_with (go_at_call 11; refine (live_any _).mono ?_; rintro e w3 ⟨rfl, hb3⟩)
      go_ret
      exact ⟨rfl, ((q1.alloc (by omega) _).alloc (by simp; omega) _).trans (hb3.mono (by simp; omega))⟩
    · go_enter Try.func8, Try.ntmps8
      go_wp2_with fail
      refine (start_any c _ a b n size _).mono ?_
      rintro e w1 ⟨rfl, hb1⟩
      rw [HD.out, HQ.out]
      obtain ⟨hc1, hf1⟩ := bcell hb1
      have hs1 := hb1.size
      simp at hs1
      have zc1 : w.heap.size < w1.heap.size := by omega
      have zi1 : w.heap.size + 1 < w1.heap.size := by omega
      have kc1 : ∀ o, w1.cell? ⟨w.heap.size, o, none⟩ = (#[.int .i64 c.r0, .int .i64 c.r1, .int .i64 c.r2, .int .i64 c.r3, .int .i64 c.r4, .int .i64 c.r5, .int .i64 c.r6, .int .i64 c.r7, .int .i64 c.pc, .int .i64 c.st, .int .i64 c.tr] : Array Value)[o]? := fun o => by rw [hc1 _ _ (by simp; omega), l_one]
      have ki1 : ∀ o, w1.cell? ⟨w.heap.size + 1, o, none⟩ = (#[.int .i64 7, .int .i64 a, .int .i64 b, .int .i64 n] : Array Value)[o]? := fun o => by rw [hc1 _ _ (by simp), l_two]
      have q1 : Below w.heap.size w w1 := (bl2 _ _ _).trans (hb1.mono (by simp; omega))
      clear hc1 hf1 hb1 hs1
      go_wp2_with (go_at_call 11; refine (live_any _).mono ?_; rintro e w3 ⟨rfl, hb3⟩)
      go_ret
      exact ⟨rfl, ((q1.alloc (by omega) _).alloc (by simp; omega) _).trans (hb3.mono (by simp; omega))⟩
  · obtain ⟨hpc, hst2⟩ := hp.2 h2
    obtain ⟨d0, d1, d2, d3, d4, d5, d6, d7, dp, ds, dt⟩ := d
    simp only at h2 hpc hst2
    subst hpc
    have hbe : ((ds == 1) == (op == 32)) = true := by
      by_cases h : ds = 1
      · rw [hst2.1 h, h]; rfl
      · have h' : ¬ op = 32 := fun e => h (hst2.2 e)
        rw [show (ds == 1) = false by simpa using h, show (op == 32) = false by simpa using h']; rfl
    clear hp hst2
    have e33 : (op == 33) = false := by simp; omega
    have e1 : decide (op < 1) = false := by simp; omega
    have e32 : decide (33 < op) = false := by simp; omega
    have em : (op < 20 ∧ decide (20 ≤ op) = false) ∨ (27 < op ∧ 20 ≤ op ∧ decide (op ≤ 27) = false) := by simp; omega
    clear oj
    rcases em with ⟨o3, em⟩ | ⟨o3, o4, em⟩
    all_goals
      go_enter Try.func8, Try.ntmps8
      go_wp2_with fail
      refine (start_any c _ a b n size _).mono ?_
      rintro e w1 ⟨rfl, hb1⟩
      rw [HD.out, HQ.out]
      obtain ⟨hc1, hf1⟩ := bcell hb1
      have hs1 := hb1.size
      simp at hs1
      have zc1 : w.heap.size < w1.heap.size := by omega
      have zi1 : w.heap.size + 1 < w1.heap.size := by omega
      have kc1 : ∀ o, w1.cell? ⟨w.heap.size, o, none⟩ = (#[.int .i64 c.r0, .int .i64 c.r1, .int .i64 c.r2, .int .i64 c.r3, .int .i64 c.r4, .int .i64 c.r5, .int .i64 c.r6, .int .i64 c.r7, .int .i64 c.pc, .int .i64 c.st, .int .i64 c.tr] : Array Value)[o]? := fun o => by rw [hc1 _ _ (by simp; omega), l_one]
      have ki1 : ∀ o, w1.cell? ⟨w.heap.size + 1, o, none⟩ = (#[.int .i64 op, .int .i64 a, .int .i64 b, .int .i64 n] : Array Value)[o]? := fun o => by rw [hc1 _ _ (by simp), l_two]
      have q1 : Below w.heap.size w w1 := (bl2 _ _ _).trans (hb1.mono (by simp; omega))
      clear hc1 hf1 hb1 hs1
      go_wp2_with (go_at_call 11; refine (live_any _).mono ?_; rintro e w3 ⟨rfl, hb3⟩)
      go_ret
      exact ⟨rfl, ((q1.alloc (by omega) _).alloc (by simp; omega) _).trans (hb3.mono (by simp; omega))⟩

theorem walk (c : S.C) (op a b n size : Int) (w : World) :
    Calls Try.prog 8 #[c.v, S.insV op a b n, .int .i64 size] w fun e w' => e = .returned (.bool true) ∧ Below w.heap.size w w' := by
  by_cases h1 : 0 ≤ c.pc ∧ c.pc ≤ 1099511627776 ∧ 0 ≤ size ∧ size ≤ 100
  · by_cases h2 : c.st = 0
    · have h2' : (c.st != 0) = false := by simp [h2]
      by_cases h3 : 0 ≤ a ∧ a ≤ 7 ∧ 0 ≤ b ∧ b ≤ 7 ∧ 1 ≤ op ∧ op ≤ 32 ∧ (op < 20 ∨ 27 < op)
      · obtain ⟨x, rfl⟩ : ∃ x : Nat, a = x := ⟨a.toNat, by omega⟩
        obtain ⟨y, rfl⟩ : ∃ y : Nat, b = y := ⟨b.toNat, by omega⟩
        exact real c op x y n size w h1.1 h1.2.1 h1.2.2.1 h1.2.2.2 h2' (by omega) (by omega) (by omega) (by omega) (by omega)
      · refine calm2 c op a b n size w h1.1 h1.2.1 h1.2.2.1 h1.2.2.2 ?_
        simp only [h2', true_and]
        omega
    · exact calm2 c op a b n size w h1.1 h1.2.1 h1.2.2.1 h1.2.2.2 (.inl (by simpa using h2))
  · exact calm c op a b n size w (by omega)

/-! ### The row -/
set_option maxRecDepth 100000 in
theorem lifted (os : Os) (started : os.Started) (H : Type) (enc : TypeId × Value → H) :
    ReturnsInHanded {} Try.checked os 8 .any (Rows.stepPlainSpec.pre6 enc Try.prog Try.f8 Rows.stepPlainRow.domain false) (Rows.stepPlainSpec.post enc Try.prog Try.f8 false true false false) := by
  refine returnsInHanded_of_change (C := Try.checked) own started (by kernel_rfl) Try.func8
    (ChangeSpec.witness6 (enc := enc) (C := Try.checked) false ⟨#[], #[.agg #[.int .i64 0, .int .i64 0, .int .i64 0, .int .i64 0, .int .i64 0, .int .i64 0, .int .i64 0, .int .i64 0, .int .i64 0, .int .i64 0, .int .i64 0], .agg #[.int .i64 0, .int .i64 0, .int .i64 0, .int .i64 0], .int .i64 0], []⟩ 8 (by kernel_rfl) (by kernel_rfl) (by kernel_rfl) (by kernel_rfl)) ?_
  intro W base args ds gs before hval0 hW hcnd _
  have hval : ∀ (j : Nat) t v, Try.f8.params[j]? = some t → args[j]? = some v → Value.okWide Try.prog W .any base t v := hval0
  have hW' := hW
  obtain ⟨p, q, hA0, hV, rfl, hfz, hnd⟩ := hW
  have hA : DataW.TrodAll enc Try.prog W 0 (fun _ => true) true Try.f8.params.toList args.toList ds p := hA0
  have hlt := hA.lt
  rw [Try.params8] at hA hval
  obtain ⟨v0, vs0, d0, ds0, p0, q0, hargs, rfl, rfl, h0, r0⟩ := trodAll_cons hA
  obtain ⟨v1, vs1, d1, ds1, p1, q1, rfl, rfl, rfl, h1, r1⟩ := trodAll_cons r0
  obtain ⟨v2, vs2, d2, ds2, p2, q2, rfl, rfl, rfl, h2, r2⟩ := trodAll_cons r1
  obtain ⟨rfl, rfl, rfl⟩ := trodAll_nil r2
  obtain rfl : args = #[v0, v1, v2] := by cases args; simp_all
  obtain ⟨rfl, rfl⟩ := trodVars_none hV
  obtain ⟨c, rfl, hok⟩ := open_cpu (hval 0 24 v0 rfl rfl) h0
  obtain ⟨op, a, b, n, rfl, w0, w1, w2, w3⟩ := open_ins (hval 1 26 v1 rfl rfl) h1
  obtain ⟨z, rfl, rfl, rfl, wz⟩ := open_int Try.underlying3 (hval 2 3 v2 rfl rfl) h2
  clear hA0 hval0
  simp only [List.append_nil] at hW'
  refine (walk c op a b n z W).mono fun e W' ⟨he, hg⟩ => ?_
  subst he
  exact ⟨_, rfl, _, _, _, [], _, [], hW', (trodAll_cons_mk (shut_bool Try.underlying4 _) trodAll_mk0), (trodAll_cons_mk (Below.trod laid (by kernel_rfl) (of_decide_eq_true (by kernel_rfl)) h0 hg (fun x hx => hlt x (by simp [hx]))) (trodAll_cons_mk (Below.trod laid (by kernel_rfl) (of_decide_eq_true (by kernel_rfl)) h1 hg (fun x hx => hlt x (by simp [hx]))) (trodAll_cons_mk (shut_int Try.underlying3 wz) trodAll_mk0))), rfl, hg.frame _, fun h => by cases h⟩

theorem over : Rows.stepPlainRow.holds Try.pinned (OpenSpec.ofChange Rows.stepPlainSpec) :=
  OpenClaim.holds_of_wide 8 Try.f8 rfl rfl rfl rfl rfl rfl rfl ⟨rfl, rfl, rfl, rfl, rfl⟩ rfl rfl rfl rfl rfl (by kernel_rfl) Try.func8 (by kernel_rfl)
    (of_decide_eq_true (by kernel_rfl)) (by unfold Func.isWrapper; first | (rw [if_pos (by decide +kernel)]; kernel_rfl) | (rw [if_neg (by decide +kernel)]; exact ⟨rfl, rfl⟩))
    (fun os started H enc _ => lifted os started H enc)

/-- The statement. -/
theorem proved : Rows.StepPlainSaid :=
  over
#print axioms proved
end Go.Proofs.Ytnfkklpionbnoaa.stepPlain
namespace Go.Proofs.Ytnfkklpionbnoaa
/-- The statement. -/
theorem stepPlain_holds : Rows.StepPlainSaid := stepPlain.proved
end Go.Proofs.Ytnfkklpionbnoaa

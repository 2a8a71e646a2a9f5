/- step's small functions, and Finish. -/
import Derived.Test.YtnfkklpionbnoaaProg
import Derived.Test.YtnfkklpionbnoaaStepMath
import Derived.WalkKit
import Derived.WalkSpells
import Derived.WalkLawsBesides
import Derived.Below
namespace Go.Proofs.Ytnfkklpionbnoaa
open Go.RowKit

theorem ret_bool {a b : Bool} (h : a = b) : Ending.returned (.bool a) = .returned (.bool b) := by rw [h]

theorem isreg_any (r : Int) (w : World) :
    Calls Try.prog 22 #[.int .i64 r] w fun e w' => e = .returned (.bool (S.isr r)) ∧ w' = w := by
  by_cases h : 0 ≤ r
  · by_cases h2 : r < 8
    · go_enter Try.func22, Try.ntmps22
      go_wp2
      go_ret
      exact ⟨ret_bool (by rw [S.isr_yes (by omega)]), rfl⟩
    · go_enter Try.func22, Try.ntmps22
      go_wp2
      go_ret
      exact ⟨ret_bool (by rw [S.isr_no (by omega)]), rfl⟩
  · go_enter Try.func22, Try.ntmps22
    go_wp2
    go_ret
    exact ⟨ret_bool (by rw [S.isr_no (by omega)]), rfl⟩

set_option maxHeartbeats 1000000 in
theorem sum_any (c : S.C) (k : Nat) (hk : k < 8) (n : Int) (w : World) :
    Calls Try.prog 15 #[.agg c.regs, .int .i64 k, .int .i64 n] w fun e w' => e = .returned (.int .i64 (wrap64 (c.rd k + n))) ∧ w' = w.alloc (.cells c.regs 45) := by
  rcases (show k = 0 ∨ k = 1 ∨ k = 2 ∨ k = 3 ∨ k = 4 ∨ k = 5 ∨ k = 6 ∨ k = 7 by omega) with rfl | rfl | rfl | rfl | rfl | rfl | rfl | rfl
  all_goals
    go_enter Try.func15, Try.ntmps15
    go_wp2
    go_ret
    exact ⟨rfl, rfl⟩

theorem sum_7 (c : S.C) (n : Int) (w : World) :
    Calls Try.prog 15 #[.agg c.regs, .int .i64 7, .int .i64 n] w fun e w' => e = .returned (.int .i64 (wrap64 (c.rd 7 + n))) ∧ w' = w.alloc (.cells c.regs 45) :=
  sum_any c 7 (by omega) n w

theorem bcell {W w1 : World} (hb : Below W.heap.size W w1) : (∀ b o, b < W.heap.size → w1.cell? ⟨b, o, none⟩ = W.cell? ⟨b, o, none⟩) ∧ (∀ b o, b < W.heap.size → w1.frozen? ⟨b, o, none⟩ = W.frozen? ⟨b, o, none⟩) :=
  ⟨fun b o h => hb.cell (p := ⟨b, o, none⟩) h, fun b o h => hb.frozen (p := ⟨b, o, none⟩) h⟩

theorem bl1 (w : World) (x : Obj) : Below w.heap.size w (w.alloc x) := (Below.refl _ _).alloc (Nat.le_refl _) _
theorem bl2 (w : World) (x y : Obj) : Below w.heap.size w ((w.alloc x).alloc y) := (bl1 w x).alloc (by simp) _
theorem bl3 (w : World) (x y z : Obj) : Below w.heap.size w (((w.alloc x).alloc y).alloc z) := (bl2 w x y).alloc (by simp; omega) _
theorem bl4 (w : World) (x y z u : Obj) : Below w.heap.size w ((((w.alloc x).alloc y).alloc z).alloc u) := (bl3 w x y z).alloc (by simp; omega) _
theorem bl5 (w : World) (x y z u v : Obj) : Below w.heap.size w (((((w.alloc x).alloc y).alloc z).alloc u).alloc v) := (bl4 w x y z u).alloc (by simp; omega) _

theorem reads_any (k : Int) (w : World) :
    Calls Try.prog 21 #[.int .i64 k] w fun e w' => e = .returned (.bool (decide (k = 1 ∨ k = 3 ∨ k = 4))) ∧ w' = w := by
  by_cases h1 : k = 1
  · subst h1
    go_enter Try.func21, Try.ntmps21
    go_wp2
    go_ret
    exact ⟨rfl, rfl⟩
  · by_cases h3 : k = 3
    · subst h3
      go_enter Try.func21, Try.ntmps21
      go_wp2
      go_ret
      exact ⟨rfl, rfl⟩
    · have e1 : (k == 1) = false := by simpa using h1
      have e3 : (k == 3) = false := by simpa using h3
      go_enter Try.func21, Try.ntmps21
      go_wp2
      go_ret
      refine ⟨?_, rfl⟩
      by_cases h4 : k = 4
      · subst h4; rfl
      · rw [decide_eq_false (by omega)]; simp [h4]

set_option maxHeartbeats 1000000 in
theorem known_any (op a b n : Int) (w : World) :
    Calls Try.prog 14 #[S.insV op a b n] w fun e w' => e = .returned (.bool (S.known op a b)) ∧ w' = w.alloc (.cells #[.int .i64 op, .int .i64 a, .int .i64 b, .int .i64 n] 26) := by
  by_cases h1 : 1 ≤ op
  · by_cases h2 : op ≤ 33
    · by_cases h3 : 0 ≤ a ∧ a < 8
      · have ha : S.isr a = true := S.isr_yes h3
        go_enter Try.func14, Try.ntmps14
        go_wp2_with (go_at_call 22; refine (isreg_any _ _).mono ?_; rintro e w' ⟨rfl, rfl⟩)
        go_ret
        exact ⟨ret_bool (by rw [S.known_ab h1 h2 h3]), rfl⟩
      · have ha : S.isr a = false := S.isr_no h3
        go_enter Try.func14, Try.ntmps14
        go_wp2_with (go_at_call 22; refine (isreg_any _ _).mono ?_; rintro e w' ⟨rfl, rfl⟩)
        go_ret
        exact ⟨ret_bool (by rw [S.known_no (by omega)]), rfl⟩
    · go_enter Try.func14, Try.ntmps14
      go_wp2
      go_ret
      exact ⟨ret_bool (by rw [S.known_no (by omega)]), rfl⟩
  · go_enter Try.func14, Try.ntmps14
    go_wp2
    go_ret
    exact ⟨ret_bool (by rw [S.known_no (by omega)]), rfl⟩

set_option maxHeartbeats 1000000 in
theorem trapped_any (c : S.C) (n : Int) (w : World) :
    Calls Try.prog 23 #[c.v, .int .i64 n] w fun e w' => e = .returned { c with st := 2, tr := n }.v ∧ w' = (w.alloc (.cells #[.int .i64 c.r0, .int .i64 c.r1, .int .i64 c.r2, .int .i64 c.r3, .int .i64 c.r4, .int .i64 c.r5, .int .i64 c.r6, .int .i64 c.r7, .int .i64 c.pc, .int .i64 2, .int .i64 n] 24)).alloc (.cells #[.int .i64 c.r0, .int .i64 c.r1, .int .i64 c.r2, .int .i64 c.r3, .int .i64 c.r4, .int .i64 c.r5, .int .i64 c.r6, .int .i64 c.r7, .int .i64 c.pc, .int .i64 2, .int .i64 n] 24) := by
  go_enter Try.func23, Try.ntmps23
  go_wp2
  exact bodyPost_ret (v := { c with st := 2, tr := n }.v) (by simp [results, Try.results23, go_sem]) rfl ⟨rfl, rfl⟩

set_option maxHeartbeats 1000000 in
theorem rtrapped_any (c : S.C) (n : Int) (w : World) :
    Calls Try.prog 19 #[c.v, .int .i64 n] w fun e w' => e = .returned { c with st := 2, tr := n }.v ∧ w' = (w.alloc (.cells #[.int .i64 c.r0, .int .i64 c.r1, .int .i64 c.r2, .int .i64 c.r3, .int .i64 c.r4, .int .i64 c.r5, .int .i64 c.r6, .int .i64 c.r7, .int .i64 c.pc, .int .i64 2, .int .i64 n] 24)).alloc (.cells #[.int .i64 c.r0, .int .i64 c.r1, .int .i64 c.r2, .int .i64 c.r3, .int .i64 c.r4, .int .i64 c.r5, .int .i64 c.r6, .int .i64 c.r7, .int .i64 c.pc, .int .i64 2, .int .i64 n] 24) := by
  go_enter Try.func19, Try.ntmps19
  go_wp2
  exact bodyPost_ret (v := { c with st := 2, tr := n }.v) (by simp [results, Try.results19, go_sem]) rfl ⟨rfl, rfl⟩
end Go.Proofs.Ytnfkklpionbnoaa

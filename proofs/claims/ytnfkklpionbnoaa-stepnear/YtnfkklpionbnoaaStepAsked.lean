/- What an instruction asks of memory. -/
import Derived.Test.YtnfkklpionbnoaaStepSmall
import Derived.Deep.RegionHeld3
import Derived.Deep.DrawnRows
namespace Go.Proofs.Ytnfkklpionbnoaa
open Go.RowKit
set_option linter.unusedVariables false
attribute [local go_sem ↓] Go.wp_at_zero Go.wp_at_succ

set_option maxHeartbeats 4000000 in
theorem asked_17 (c : S.C) (a b : Nat) (ha : a < 8) (hb : b < 8) (n next : Int) (w : World) :
    Calls Try.prog 17 #[S.insV 17 a b n, .int .i64 next, .func (.func 15) #[.agg c.regs] #[]] w fun e w' => e = .returned (S.asked c 17 a b n next).w ∧ Below w.heap.size w w' := by
  go_enter Try.func17, Try.ntmps17
  go_wp2_with fail
  go_region_held3 (fun w' => w'.cell? ⟨w.heap.size, 0, none⟩ = some (.int .i64 17) ∧ w'.cell? ⟨w.heap.size, 1, none⟩ = some (.int .i64 a) ∧ w'.cell? ⟨w.heap.size, 2, none⟩ = some (.int .i64 b) ∧ w'.cell? ⟨w.heap.size, 3, none⟩ = some (.int .i64 n)) (go_keep) ((go_at_call 15; refine (sum_any c _ ?_ _ _).mono ?_; assumption; rintro e w' ⟨rfl, rfl⟩))
  all_goals go_wp2
  all_goals
    refine bodyPost_ret (v := S.Q.w ⟨1, wrap64 (c.rd b + n), 0, a⟩) (by simp [results, Try.results17, go_sem]) rfl ⟨rfl, ?_⟩
    first | exact bl2 _ _ _ | exact bl3 _ _ _ _ | exact (bl3 _ _ _ _).drew | exact (bl4 _ _ _ _ _).drew

set_option maxHeartbeats 4000000 in
theorem asked_18 (c : S.C) (a b : Nat) (ha : a < 8) (hb : b < 8) (n next : Int) (w : World) :
    Calls Try.prog 17 #[S.insV 18 a b n, .int .i64 next, .func (.func 15) #[.agg c.regs] #[]] w fun e w' => e = .returned (S.asked c 18 a b n next).w ∧ Below w.heap.size w w' := by
  go_enter Try.func17, Try.ntmps17
  go_wp2_with fail
  go_region_held3 (fun w' => w'.cell? ⟨w.heap.size, 0, none⟩ = some (.int .i64 18) ∧ w'.cell? ⟨w.heap.size, 1, none⟩ = some (.int .i64 a) ∧ w'.cell? ⟨w.heap.size, 2, none⟩ = some (.int .i64 b) ∧ w'.cell? ⟨w.heap.size, 3, none⟩ = some (.int .i64 n)) (go_keep) ((go_at_call 15; refine (sum_any c _ ?_ _ _).mono ?_; assumption; rintro e w' ⟨rfl, rfl⟩))
  all_goals go_wp2
  all_goals
    refine bodyPost_ret (v := S.Q.w ⟨2, wrap64 (c.rd a + n), wrap64 (c.rd b), 0⟩) (by simp [results, Try.results17, go_sem]) rfl ⟨rfl, ?_⟩
    first | exact bl2 _ _ _ | exact bl3 _ _ _ _ | exact (bl3 _ _ _ _).drew | exact (bl4 _ _ _ _ _).drew

set_option maxHeartbeats 4000000 in
theorem asked_28 (c : S.C) (a b : Nat) (ha : a < 8) (hb : b < 8) (n next : Int) (w : World) :
    Calls Try.prog 17 #[S.insV 28 a b n, .int .i64 next, .func (.func 15) #[.agg c.regs] #[]] w fun e w' => e = .returned (S.asked c 28 a b n next).w ∧ Below w.heap.size w w' := by
  go_enter Try.func17, Try.ntmps17
  go_wp2_with fail
  go_region_held3 (fun w' => w'.cell? ⟨w.heap.size, 0, none⟩ = some (.int .i64 28) ∧ w'.cell? ⟨w.heap.size, 1, none⟩ = some (.int .i64 a) ∧ w'.cell? ⟨w.heap.size, 2, none⟩ = some (.int .i64 b) ∧ w'.cell? ⟨w.heap.size, 3, none⟩ = some (.int .i64 n)) (go_keep) ((go_at_call 15; refine (sum_any c _ ?_ _ _).mono ?_; assumption; rintro e w' ⟨rfl, rfl⟩))
  all_goals go_wp2
  all_goals
    refine bodyPost_ret (v := S.Q.w ⟨3, wrap64 (c.rd a + n), wrap64 (c.rd b), b⟩) (by simp [results, Try.results17, go_sem]) rfl ⟨rfl, ?_⟩
    first | exact bl2 _ _ _ | exact bl3 _ _ _ _ | exact (bl3 _ _ _ _).drew | exact (bl4 _ _ _ _ _).drew

set_option maxHeartbeats 4000000 in
theorem asked_29 (c : S.C) (a b : Nat) (ha : a < 8) (hb : b < 8) (n next : Int) (w : World) :
    Calls Try.prog 17 #[S.insV 29 a b n, .int .i64 next, .func (.func 15) #[.agg c.regs] #[]] w fun e w' => e = .returned (S.asked c 29 a b n next).w ∧ Below w.heap.size w w' := by
  go_enter Try.func17, Try.ntmps17
  go_wp2_with fail
  go_region_held3 (fun w' => w'.cell? ⟨w.heap.size, 0, none⟩ = some (.int .i64 29) ∧ w'.cell? ⟨w.heap.size, 1, none⟩ = some (.int .i64 a) ∧ w'.cell? ⟨w.heap.size, 2, none⟩ = some (.int .i64 b) ∧ w'.cell? ⟨w.heap.size, 3, none⟩ = some (.int .i64 n)) (go_keep) ((go_at_call 15; refine (sum_any c _ ?_ _ _).mono ?_; assumption; rintro e w' ⟨rfl, rfl⟩))
  all_goals go_wp2
  all_goals
    refine bodyPost_ret (v := S.Q.w ⟨4, wrap64 (c.rd a + n), wrap64 (c.rd b), b⟩) (by simp [results, Try.results17, go_sem]) rfl ⟨rfl, ?_⟩
    first | exact bl2 _ _ _ | exact bl3 _ _ _ _ | exact (bl3 _ _ _ _).drew | exact (bl4 _ _ _ _ _).drew

set_option maxHeartbeats 4000000 in
theorem asked_23 (c : S.C) (a b : Nat) (ha : a < 8) (hb : b < 8) (n next : Int) (w : World) :
    Calls Try.prog 17 #[S.insV 23 a b n, .int .i64 next, .func (.func 15) #[.agg c.regs] #[]] w fun e w' => e = .returned (S.asked c 23 a b n next).w ∧ Below w.heap.size w w' := by
  go_enter Try.func17, Try.ntmps17
  go_wp2_with (go_at_call 15; refine (sum_7 c _ _).mono ?_; rintro e w' ⟨rfl, rfl⟩)
  all_goals
    refine bodyPost_ret (v := S.Q.w ⟨2, wrap64 (c.rd 7 + -8), next, 0⟩) (by simp [results, Try.results17, go_sem]) rfl ⟨rfl, ?_⟩
    first | exact bl2 _ _ _ | exact bl3 _ _ _ _ | exact (bl3 _ _ _ _).drew | exact (bl4 _ _ _ _ _).drew

set_option maxHeartbeats 4000000 in
theorem asked_24 (c : S.C) (a b : Nat) (ha : a < 8) (hb : b < 8) (n next : Int) (w : World) :
    Calls Try.prog 17 #[S.insV 24 a b n, .int .i64 next, .func (.func 15) #[.agg c.regs] #[]] w fun e w' => e = .returned (S.asked c 24 a b n next).w ∧ Below w.heap.size w w' := by
  go_enter Try.func17, Try.ntmps17
  go_wp2_with (go_at_call 15; refine (sum_7 c _ _).mono ?_; rintro e w' ⟨rfl, rfl⟩)
  all_goals
    refine bodyPost_ret (v := S.Q.w ⟨1, wrap64 (c.rd 7), 0, 8⟩) (by simp [results, Try.results17, go_sem]) rfl ⟨rfl, ?_⟩
    first | exact bl2 _ _ _ | exact bl3 _ _ _ _ | exact (bl3 _ _ _ _).drew | exact (bl4 _ _ _ _ _).drew

set_option maxHeartbeats 4000000 in
theorem asked_30 (c : S.C) (a b : Nat) (ha : a < 8) (hb : b < 8) (n next : Int) (w : World) :
    Calls Try.prog 17 #[S.insV 30 a b n, .int .i64 next, .func (.func 15) #[.agg c.regs] #[]] w fun e w' => e = .returned (S.asked c 30 a b n next).w ∧ Below w.heap.size w w' := by
  go_enter Try.func17, Try.ntmps17
  go_wp2
  all_goals
    refine bodyPost_ret (v := S.Q.w ⟨5, 0, 0, 0⟩) (by simp [results, Try.results17, go_sem]) rfl ⟨rfl, ?_⟩
    first | exact bl2 _ _ _ | exact bl3 _ _ _ _ | exact (bl3 _ _ _ _).drew | exact (bl4 _ _ _ _ _).drew

set_option maxHeartbeats 4000000 in
theorem asked_32 (c : S.C) (a b : Nat) (ha : a < 8) (hb : b < 8) (n next : Int) (w : World) :
    Calls Try.prog 17 #[S.insV 32 a b n, .int .i64 next, .func (.func 15) #[.agg c.regs] #[]] w fun e w' => e = .returned (S.asked c 32 a b n next).w ∧ Below w.heap.size w w' := by
  go_enter Try.func17, Try.ntmps17
  go_wp2
  all_goals
    refine bodyPost_ret (v := S.Q.w ⟨5, 0, 0, 0⟩) (by simp [results, Try.results17, go_sem]) rfl ⟨rfl, ?_⟩
    first | exact bl2 _ _ _ | exact bl3 _ _ _ _ | exact (bl3 _ _ _ _).drew | exact (bl4 _ _ _ _ _).drew

set_option maxHeartbeats 4000000 in
theorem asked_31 (c : S.C) (a b : Nat) (ha : a < 8) (hb : b < 8) (n next : Int) (w : World) :
    Calls Try.prog 17 #[S.insV 31 a b n, .int .i64 next, .func (.func 15) #[.agg c.regs] #[]] w fun e w' => e = .returned (S.asked c 31 a b n next).w ∧ Below w.heap.size w w' := by
  go_enter Try.func17, Try.ntmps17
  go_wp2_with (go_at_call 15; refine (sum_any c _ ?_ _ _).mono ?_; assumption; rintro e w' ⟨rfl, rfl⟩)
  all_goals
    refine bodyPost_ret (v := S.Q.w ⟨6, 0, wrap64 (c.rd a), 0⟩) (by simp [results, Try.results17, go_sem]) rfl ⟨rfl, ?_⟩
    first | exact bl2 _ _ _ | exact bl3 _ _ _ _ | exact (bl3 _ _ _ _).drew | exact (bl4 _ _ _ _ _).drew

set_option maxHeartbeats 4000000 in
theorem asked_no (c : S.C) (op : Int) (h : ¬ op = 17 ∧ ¬ op = 18 ∧ ¬ op = 28 ∧ ¬ op = 29 ∧ ¬ op = 23 ∧ ¬ op = 24 ∧ ¬ op = 30 ∧ ¬ op = 32 ∧ ¬ op = 31) (a b : Nat) (n next : Int) (w : World) :
    Calls Try.prog 17 #[S.insV op a b n, .int .i64 next, .func (.func 15) #[.agg c.regs] #[]] w fun e w' => e = .returned (S.asked c op a b n next).w ∧ Below w.heap.size w w' := by
  rw [S.asked_no h]
  obtain ⟨h1, h2, h3, h4, h5, h6, h7, h8, h9⟩ := h
  go_enter Try.func17, Try.ntmps17
  go_wp2
  exact bodyPost_ret (v := S.Q.w ⟨0, 0, 0, 0⟩) (by simp [results, Try.results17, go_sem]) rfl ⟨rfl, bl2 _ _ _⟩

theorem asked_any (c : S.C) (op : Int) (a b : Nat) (ha : a < 8) (hb : b < 8) (n next : Int) (w : World) :
    Calls Try.prog 17 #[S.insV op a b n, .int .i64 next, .func (.func 15) #[.agg c.regs] #[]] w fun e w' => e = .returned (S.asked c op a b n next).w ∧ Below w.heap.size w w' := by
  by_cases h17 : op = 17
  · subst h17; exact asked_17 c a b ha hb n next w
  by_cases h18 : op = 18
  · subst h18; exact asked_18 c a b ha hb n next w
  by_cases h28 : op = 28
  · subst h28; exact asked_28 c a b ha hb n next w
  by_cases h29 : op = 29
  · subst h29; exact asked_29 c a b ha hb n next w
  by_cases h23 : op = 23
  · subst h23; exact asked_23 c a b ha hb n next w
  by_cases h24 : op = 24
  · subst h24; exact asked_24 c a b ha hb n next w
  by_cases h30 : op = 30
  · subst h30; exact asked_30 c a b ha hb n next w
  by_cases h32 : op = 32
  · subst h32; exact asked_32 c a b ha hb n next w
  by_cases h31 : op = 31
  · subst h31; exact asked_31 c a b ha hb n next w
  exact asked_no c op (by omega) a b n next w

end Go.Proofs.Ytnfkklpionbnoaa

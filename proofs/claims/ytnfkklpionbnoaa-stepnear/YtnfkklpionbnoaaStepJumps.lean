/- Does an instruction jump? -/
import Derived.Test.YtnfkklpionbnoaaStepSmall
namespace Go.Proofs.Ytnfkklpionbnoaa
open Go.RowKit

set_option maxHeartbeats 4000000 in
theorem jumps_any (c : S.C) (op : Int) (a : Nat) (ha : a < 8) (b n : Int) (w : World) :
    Calls Try.prog 25 #[S.insV op a b n, .func (.func 15) #[.agg c.regs] #[]] w fun e w' => e = .returned (.bool (S.jumps c op a)) ∧ (w' = (w.alloc (.cells #[.int .i64 op, .int .i64 a, .int .i64 b, .int .i64 n] 26)) ∨ w' = (w.alloc (.cells #[.int .i64 op, .int .i64 a, .int .i64 b, .int .i64 n] 26)).alloc (.cells c.regs 45)) := by
  by_cases h1 : op = 20 ∨ op = 25 ∨ op = 23
  · rw [S.jumps_yes h1]
    rcases h1 with rfl | rfl | rfl
    all_goals
      go_enter Try.func25, Try.ntmps25
      go_wp2
      go_ret
      exact ⟨rfl, .inl rfl⟩
  · by_cases h2 : op = 21 ∨ op = 26
    · rw [S.jumps_z h2]
      rcases h2 with rfl | rfl
      all_goals
        go_enter Try.func25, Try.ntmps25
        go_wp2_with (first | (go_at_call 15; refine (sum_any c a ha 0 _).mono ?_; rintro e w' ⟨rfl, rfl⟩))
        go_ret
        exact ⟨ret_bool (by first | rfl | simp), .inr rfl⟩
    · by_cases h3 : op = 22 ∨ op = 27
      · rw [S.jumps_nz h3]
        rcases h3 with rfl | rfl
        all_goals
          go_enter Try.func25, Try.ntmps25
          go_wp2_with (first | (go_at_call 15; refine (sum_any c a ha 0 _).mono ?_; rintro e w' ⟨rfl, rfl⟩))
          go_ret
          exact ⟨ret_bool (by first | rfl | simp), .inr rfl⟩
      · rw [S.jumps_no h1 h2 h3]
        have e20 : ¬ op = 20 := by omega
        have e25 : ¬ op = 25 := by omega
        have e23 : ¬ op = 23 := by omega
        have e21 : ¬ op = 21 := by omega
        have e26 : ¬ op = 26 := by omega
        have e22 : ¬ op = 22 := by omega
        have e27 : ¬ op = 27 := by omega
        clear h1 h2 h3
        go_enter Try.func25, Try.ntmps25
        go_wp2
        go_ret
        exact ⟨rfl, .inl rfl⟩

end Go.Proofs.Ytnfkklpionbnoaa

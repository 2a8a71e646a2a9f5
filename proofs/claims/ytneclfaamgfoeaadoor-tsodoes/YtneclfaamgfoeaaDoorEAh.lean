/- What word.Bin comes to, instruction by instruction. -/
import Derived.Test.YtneclfaamgfoeaaDoorProg
import Derived.Test.YtneclfaamgfoeaaDoorEAa
import Derived.WalkKit
import Derived.WalkSpells
import Derived.WalkLawsBesides
import Derived.Test.YtneclfaamgfoeaaDoorEAg
import Derived.Deep.RegionHeld3
import Derived.Deep.DrawnRows
namespace Go.Proofs.YtneclfaamgfoeaaDoor
open Go.RowKit

set_option maxHeartbeats 400000 in
theorem bin_add (a b : Int)  (w : World) :
    Calls Tryd.prog 100 #[.int .i64 3, .int .i64 a, .int .i64 b] w fun e w' => e = .returned (.tuple #[.int .i64 (wrap64 (a + b)), .int .i64 0]) ∧ w' = w := by
  by_cases hb : b = 0
  · subst hb
    go_enter Tryd.func100, Tryd.ntmps100
    go_wp2
    go_ret2
    exact ⟨ret2 (by first | (simp; done) | simp [wrap64]) rfl, rfl⟩
  · have hb1 : (b == 0) = false := by simpa using hb
    go_enter Tryd.func100, Tryd.ntmps100
    go_wp2
    go_ret2
    exact ⟨rfl, rfl⟩

set_option maxHeartbeats 400000 in
theorem bin_sub (a b : Int)  (w : World) :
    Calls Tryd.prog 100 #[.int .i64 4, .int .i64 a, .int .i64 b] w fun e w' => e = .returned (.tuple #[.int .i64 (wrap64 (a - b)), .int .i64 0]) ∧ w' = w := by
  by_cases hb : b = 0
  · subst hb
    go_enter Tryd.func100, Tryd.ntmps100
    go_wp2
    go_ret2
    exact ⟨ret2 (by first | (simp; done) | simp [wrap64]) rfl, rfl⟩
  · have hb1 : (b == 0) = false := by simpa using hb
    go_enter Tryd.func100, Tryd.ntmps100
    go_wp2
    go_ret2
    exact ⟨rfl, rfl⟩

set_option maxHeartbeats 400000 in
theorem bin_mul (a b : Int)  (w : World) :
    Calls Tryd.prog 100 #[.int .i64 5, .int .i64 a, .int .i64 b] w fun e w' => e = .returned (.tuple #[.int .i64 (wrap64 (a * b)), .int .i64 0]) ∧ w' = w := by
  by_cases hb : b = 0
  · subst hb
    go_enter Tryd.func100, Tryd.ntmps100
    go_wp2
    go_ret2
    exact ⟨ret2 (by first | (simp; done) | simp [wrap64]) rfl, rfl⟩
  · have hb1 : (b == 0) = false := by simpa using hb
    go_enter Tryd.func100, Tryd.ntmps100
    go_wp2
    go_ret2
    exact ⟨rfl, rfl⟩

set_option maxHeartbeats 400000 in
theorem bin_quo0 (a : Int)  (w : World) :
    Calls Tryd.prog 100 #[.int .i64 6, .int .i64 a, .int .i64 0] w fun e w' => e = .returned (.tuple #[.int .i64 (0), .int .i64 10]) ∧ w' = w := by
  go_enter Tryd.func100, Tryd.ntmps100
  go_wp2
  go_ret2
  exact ⟨rfl, rfl⟩

set_option maxHeartbeats 400000 in
theorem bin_quo (a b : Int) (hb : ¬ b = 0) (w : World) :
    Calls Tryd.prog 100 #[.int .i64 6, .int .i64 a, .int .i64 b] w fun e w' => e = .returned (.tuple #[.int .i64 (wrap64 (a.tdiv b)), .int .i64 0]) ∧ w' = w := by
  have hb1 : (b == 0) = false := by simpa using hb
  go_enter Tryd.func100, Tryd.ntmps100
  go_wp2
  go_ret2
  exact ⟨rfl, rfl⟩

set_option maxHeartbeats 400000 in
theorem bin_rem0 (a : Int)  (w : World) :
    Calls Tryd.prog 100 #[.int .i64 7, .int .i64 a, .int .i64 0] w fun e w' => e = .returned (.tuple #[.int .i64 (0), .int .i64 10]) ∧ w' = w := by
  go_enter Tryd.func100, Tryd.ntmps100
  go_wp2
  go_ret2
  exact ⟨rfl, rfl⟩

set_option maxHeartbeats 400000 in
theorem bin_rem (a b : Int) (hb : ¬ b = 0) (w : World) :
    Calls Tryd.prog 100 #[.int .i64 7, .int .i64 a, .int .i64 b] w fun e w' => e = .returned (.tuple #[.int .i64 (a.tmod b), .int .i64 0]) ∧ w' = w := by
  have hb1 : (b == 0) = false := by simpa using hb
  go_enter Tryd.func100, Tryd.ntmps100
  go_wp2
  go_ret2
  exact ⟨rfl, rfl⟩

set_option maxHeartbeats 400000 in
theorem bin_and (a b : Int)  (w : World) :
    Calls Tryd.prog 100 #[.int .i64 8, .int .i64 a, .int .i64 b] w fun e w' => e = .returned (.tuple #[.int .i64 (bits .and .i64 a b), .int .i64 0]) ∧ w' = w := by
  by_cases hb : b = 0
  · subst hb
    go_enter Tryd.func100, Tryd.ntmps100
    go_wp2
    go_ret2
    exact ⟨ret2 (by first | (simp; done) | simp [wrap64]) rfl, rfl⟩
  · have hb1 : (b == 0) = false := by simpa using hb
    go_enter Tryd.func100, Tryd.ntmps100
    go_wp2
    go_ret2
    exact ⟨rfl, rfl⟩

set_option maxHeartbeats 400000 in
theorem bin_or (a b : Int)  (w : World) :
    Calls Tryd.prog 100 #[.int .i64 9, .int .i64 a, .int .i64 b] w fun e w' => e = .returned (.tuple #[.int .i64 (bits .or .i64 a b), .int .i64 0]) ∧ w' = w := by
  by_cases hb : b = 0
  · subst hb
    go_enter Tryd.func100, Tryd.ntmps100
    go_wp2
    go_ret2
    exact ⟨ret2 (by first | (simp; done) | simp [wrap64]) rfl, rfl⟩
  · have hb1 : (b == 0) = false := by simpa using hb
    go_enter Tryd.func100, Tryd.ntmps100
    go_wp2
    go_ret2
    exact ⟨rfl, rfl⟩

set_option maxHeartbeats 400000 in
theorem bin_xor (a b : Int)  (w : World) :
    Calls Tryd.prog 100 #[.int .i64 10, .int .i64 a, .int .i64 b] w fun e w' => e = .returned (.tuple #[.int .i64 (bits .xor .i64 a b), .int .i64 0]) ∧ w' = w := by
  by_cases hb : b = 0
  · subst hb
    go_enter Tryd.func100, Tryd.ntmps100
    go_wp2
    go_ret2
    exact ⟨ret2 (by first | (simp; done) | simp [wrap64]) rfl, rfl⟩
  · have hb1 : (b == 0) = false := by simpa using hb
    go_enter Tryd.func100, Tryd.ntmps100
    go_wp2
    go_ret2
    exact ⟨rfl, rfl⟩

set_option maxHeartbeats 400000 in
theorem bin_shl (a b : Int)  (w : World) :
    Calls Tryd.prog 100 #[.int .i64 11, .int .i64 a, .int .i64 b] w fun e w' => e = .returned (.tuple #[.int .i64 (wrap64 (a * 2 ^ (b % 64).toNat)), .int .i64 0]) ∧ w' = w := by
  have hc3 : bits .and .u64 0 63 = 0 := W.and63_u 0
  have hc := W.and63_uw b
  have hc2 := W.and63_i b
  have hb0 : 0 ≤ b % 64 := by omega
  have hb2 : b % 64 ≤ 63 := by omega
  by_cases hb : b = 0
  · subst hb
    go_enter Tryd.func100, Tryd.ntmps100
    go_wp2
    go_ret2
    exact ⟨ret2 (by first | (simp; done) | simp [wrap64]) rfl, rfl⟩
  · have hb1 : (b == 0) = false := by simpa using hb
    go_enter Tryd.func100, Tryd.ntmps100
    go_wp2
    go_ret2
    exact ⟨rfl, rfl⟩

set_option maxHeartbeats 400000 in
theorem bin_sar (a b : Int)  (w : World) :
    Calls Tryd.prog 100 #[.int .i64 12, .int .i64 a, .int .i64 b] w fun e w' => e = .returned (.tuple #[.int .i64 (a / 2 ^ (b % 64).toNat), .int .i64 0]) ∧ w' = w := by
  have hc3 : bits .and .u64 0 63 = 0 := W.and63_u 0
  have hc := W.and63_uw b
  have hc2 := W.and63_i b
  have hb0 : 0 ≤ b % 64 := by omega
  have hb2 : b % 64 ≤ 63 := by omega
  by_cases hb : b = 0
  · subst hb
    go_enter Tryd.func100, Tryd.ntmps100
    go_wp2
    go_ret2
    exact ⟨ret2 (by first | (simp; done) | simp [wrap64]) rfl, rfl⟩
  · have hb1 : (b == 0) = false := by simpa using hb
    go_enter Tryd.func100, Tryd.ntmps100
    go_wp2
    go_ret2
    exact ⟨rfl, rfl⟩

set_option maxHeartbeats 400000 in
theorem bin_eql (a b : Int)  (w : World) :
    Calls Tryd.prog 100 #[.int .i64 13, .int .i64 a, .int .i64 b] w fun e w' => e = .returned (.tuple #[.int .i64 (W.tr (a == b)), .int .i64 0]) ∧ w' = w := by
  by_cases hb : b = 0
  all_goals
    cases h : (a == b)
  all_goals
    have hb1 := hb
    first | subst hb1 | (have hb3 : (b == 0) = false := by simpa using hb)
    go_enter Tryd.func100, Tryd.ntmps100
    go_wp2
    go_ret2
    exact ⟨ret2 (by simp [W.tr]) rfl, rfl⟩

set_option maxHeartbeats 400000 in
theorem bin_neq (a b : Int)  (w : World) :
    Calls Tryd.prog 100 #[.int .i64 14, .int .i64 a, .int .i64 b] w fun e w' => e = .returned (.tuple #[.int .i64 (W.tr (a != b)), .int .i64 0]) ∧ w' = w := by
  by_cases hb : b = 0
  all_goals
    cases h : (a != b)
  all_goals
    have hb1 := hb
    first | subst hb1 | (have hb3 : (b == 0) = false := by simpa using hb)
    go_enter Tryd.func100, Tryd.ntmps100
    go_wp2
    go_ret2
    exact ⟨ret2 (by simp [W.tr]) rfl, rfl⟩

set_option maxHeartbeats 400000 in
theorem bin_lss (a b : Int)  (w : World) :
    Calls Tryd.prog 100 #[.int .i64 15, .int .i64 a, .int .i64 b] w fun e w' => e = .returned (.tuple #[.int .i64 (W.tr (decide (a < b))), .int .i64 0]) ∧ w' = w := by
  by_cases hb : b = 0
  all_goals
    by_cases h : a < b
  all_goals
    have hb1 := hb
    first | subst hb1 | (have hb3 : (b == 0) = false := by simpa using hb)
    go_enter Tryd.func100, Tryd.ntmps100
    go_wp2
    go_ret2
    exact ⟨ret2 (by simp [W.tr, h]) rfl, rfl⟩

set_option maxHeartbeats 400000 in
theorem bin_leq (a b : Int)  (w : World) :
    Calls Tryd.prog 100 #[.int .i64 16, .int .i64 a, .int .i64 b] w fun e w' => e = .returned (.tuple #[.int .i64 (W.tr (decide (a ≤ b))), .int .i64 0]) ∧ w' = w := by
  by_cases hb : b = 0
  all_goals
    by_cases h : a ≤ b
  all_goals
    have hb1 := hb
    first | subst hb1 | (have hb3 : (b == 0) = false := by simpa using hb)
    go_enter Tryd.func100, Tryd.ntmps100
    go_wp2
    go_ret2
    exact ⟨ret2 (by simp [W.tr, h]) rfl, rfl⟩

set_option maxHeartbeats 400000 in
theorem bin_lo (op a b : Int) (h : op < 3) (w : World) :
    Calls Tryd.prog 100 #[.int .i64 op, .int .i64 a, .int .i64 b] w fun e w' => e = .returned (.tuple #[.int .i64 (0), .int .i64 1]) ∧ w' = w := by
  go_enter Tryd.func100, Tryd.ntmps100
  go_wp2
  go_ret2
  exact ⟨rfl, rfl⟩

set_option maxHeartbeats 400000 in
theorem bin_hi (op a b : Int) (h : 16 < op) (w : World) :
    Calls Tryd.prog 100 #[.int .i64 op, .int .i64 a, .int .i64 b] w fun e w' => e = .returned (.tuple #[.int .i64 (0), .int .i64 1]) ∧ w' = w := by
  go_enter Tryd.func100, Tryd.ntmps100
  go_wp2
  go_ret2
  exact ⟨rfl, rfl⟩

/-- Whatever the instruction: the document's number, the document's error, nothing touched. -/
theorem bin_any (op a b : Int) (w : World) :
    Calls Tryd.prog 100 #[.int .i64 op, .int .i64 a, .int .i64 b] w fun e w' => e = .returned (.tuple #[.int .i64 (W.bin op a b), .int .i64 (W.binE op b)]) ∧ w' = w := by
  have cases16 : op < 3 ∨ 16 < op ∨ op = 3 ∨ op = 4 ∨ op = 5 ∨ op = 6 ∨ op = 7 ∨ op = 8 ∨ op = 9 ∨ op = 10 ∨ op = 11 ∨ op = 12 ∨ op = 13 ∨ op = 14 ∨ op = 15 ∨ op = 16 := by omega
  rcases cases16 with h | h | rfl | rfl | rfl | rfl | rfl | rfl | rfl | rfl | rfl | rfl | rfl | rfl | rfl | rfl
  · refine (bin_lo op a b h w).mono ?_
    rintro e w' ⟨rfl, rfl⟩
    exact ⟨ret2 (by unfold W.bin; repeat (rw [if_neg (by omega)])) (by unfold W.binE; rw [if_pos (by omega)]), rfl⟩
  · refine (bin_hi op a b h w).mono ?_
    rintro e w' ⟨rfl, rfl⟩
    exact ⟨ret2 (by unfold W.bin; repeat (rw [if_neg (by omega)])) (by unfold W.binE; rw [if_pos (by omega)]), rfl⟩
  · refine (bin_add a b w).mono ?_
    rintro e w' ⟨rfl, rfl⟩
    exact ⟨ret2 (by simp [W.bin]) (by simp [W.binE]), rfl⟩
  · refine (bin_sub a b w).mono ?_
    rintro e w' ⟨rfl, rfl⟩
    exact ⟨ret2 (by simp [W.bin]) (by simp [W.binE]), rfl⟩
  · refine (bin_mul a b w).mono ?_
    rintro e w' ⟨rfl, rfl⟩
    exact ⟨ret2 (by simp [W.bin]) (by simp [W.binE]), rfl⟩
  · by_cases hb : b = 0
    · subst hb
      refine (bin_quo0 a w).mono ?_
      rintro e w' ⟨rfl, rfl⟩
      exact ⟨ret2 (by simp [W.bin]) (by simp [W.binE]), rfl⟩
    · refine (bin_quo a b hb w).mono ?_
      rintro e w' ⟨rfl, rfl⟩
      exact ⟨ret2 (by simp [W.bin, hb]) (by simp [W.binE, hb]), rfl⟩
  · by_cases hb : b = 0
    · subst hb
      refine (bin_rem0 a w).mono ?_
      rintro e w' ⟨rfl, rfl⟩
      exact ⟨ret2 (by simp [W.bin]) (by simp [W.binE]), rfl⟩
    · refine (bin_rem a b hb w).mono ?_
      rintro e w' ⟨rfl, rfl⟩
      exact ⟨ret2 (by simp [W.bin, hb]) (by simp [W.binE, hb]), rfl⟩
  · refine (bin_and a b w).mono ?_
    rintro e w' ⟨rfl, rfl⟩
    exact ⟨ret2 (by simp [W.bin]) (by simp [W.binE]), rfl⟩
  · refine (bin_or a b w).mono ?_
    rintro e w' ⟨rfl, rfl⟩
    exact ⟨ret2 (by simp [W.bin]) (by simp [W.binE]), rfl⟩
  · refine (bin_xor a b w).mono ?_
    rintro e w' ⟨rfl, rfl⟩
    exact ⟨ret2 (by simp [W.bin]) (by simp [W.binE]), rfl⟩
  · refine (bin_shl a b w).mono ?_
    rintro e w' ⟨rfl, rfl⟩
    exact ⟨ret2 (by simp [W.bin]) (by simp [W.binE]), rfl⟩
  · refine (bin_sar a b w).mono ?_
    rintro e w' ⟨rfl, rfl⟩
    exact ⟨ret2 (by simp [W.bin]) (by simp [W.binE]), rfl⟩
  · refine (bin_eql a b w).mono ?_
    rintro e w' ⟨rfl, rfl⟩
    exact ⟨ret2 (by simp [W.bin]) (by simp [W.binE]), rfl⟩
  · refine (bin_neq a b w).mono ?_
    rintro e w' ⟨rfl, rfl⟩
    exact ⟨ret2 (by simp [W.bin]) (by simp [W.binE]), rfl⟩
  · refine (bin_lss a b w).mono ?_
    rintro e w' ⟨rfl, rfl⟩
    exact ⟨ret2 (by simp [W.bin]) (by simp [W.binE]), rfl⟩
  · refine (bin_leq a b w).mono ?_
    rintro e w' ⟨rfl, rfl⟩
    exact ⟨ret2 (by simp [W.bin]) (by simp [W.binE]), rfl⟩

end Go.Proofs.YtneclfaamgfoeaaDoor

/- What the instructions that compute do. -/
namespace Go.Proofs.YtneclfaamgfoeaaDoor
open Go.RowKit
set_option linter.unusedVariables false
attribute [local go_sem ↓] Go.wp_at_zero Go.wp_at_succ

set_option maxHeartbeats 4000000 in
theorem computed_any (c : S.C) (op : Int) (a b : Nat) (ha : a < 8) (hb : b < 8) (n next : Int) (w : World) :
    Calls Tryd.prog 94 #[c.v, S.insV op a b n, .int .i64 next, .func (.func 75) #[.agg c.regs] #[]] w fun e w' => e = .returned (S.computed c op a b next).v ∧ Below w.heap.size w w' := by
  by_cases he : W.binE op (wrap64 (c.rd b)) = 0
  · rw [S.computed_yes he]
    have HE : Hid (W.binE op (wrap64 (c.rd b)) = 0) := he
    generalize hm : W.bin op (wrap64 (c.rd a)) (wrap64 (c.rd b)) = m
    have HM : Hid (W.bin op (wrap64 (c.rd a)) (wrap64 (c.rd b)) = m) := hm
    clear he hm
    have h0 : (0 : Int) ≤ (a : Int) := by omega
    have h8 : (a : Int) < 8 := by omega
    go_enter Tryd.func94, Tryd.ntmps94
    go_wp2_with fail
    go_region_held3 (fun w' => w'.cell? ⟨w.heap.size + 1, 0, none⟩ = some (.int .i64 op) ∧ w'.cell? ⟨w.heap.size + 1, 1, none⟩ = some (.int .i64 a) ∧ w'.cell? ⟨w.heap.size + 1, 2, none⟩ = some (.int .i64 b)) ((refine ⟨?_, ?_, ?_⟩ <;> (simp (disch := (first | ((try simp only [World.size_alloc]) <;> omega) | fail)) only [World.cell?_drew, World.cell?_alloc_at, World.cell?_alloc_past]; rfl))) (first | (go_at_call 75; refine (sum_any c _ ?_ _ _).mono ?_; assumption; rintro e w' ⟨rfl, rfl⟩) | (go_at_call 100; refine (bin_any _ _ _ _).mono ?_; rintro e w' ⟨rfl, rfl⟩))
    all_goals
      rw [HM.out, HE.out]
      rcases (show a = 0 ∨ a = 1 ∨ a = 2 ∨ a = 3 ∨ a = 4 ∨ a = 5 ∨ a = 6 ∨ a = 7 by omega) with rfl | rfl | rfl | rfl | rfl | rfl | rfl | rfl
      all_goals
        go_wp2
        refine bodyPost_ret (v := { c.put _ m with pc := next }.v) (by simp [results, Tryd.results94, go_sem, S.C.put]) rfl ⟨rfl, ?_⟩
        exact (bl5 _ _ _ _ _ _).drew
  · rw [S.computed_no he]
    obtain ⟨ee, hee⟩ : ∃ ee, W.binE op (wrap64 (c.rd b)) = ee := ⟨_, rfl⟩
    have HE : Hid (W.binE op (wrap64 (c.rd b)) = ee) := hee
    have hne : ¬ ee = 0 := by omega
    clear he hee
    go_enter Tryd.func94, Tryd.ntmps94
    go_wp2_with fail
    go_region_held3 (fun w' => w'.cell? ⟨w.heap.size + 1, 0, none⟩ = some (.int .i64 op) ∧ w'.cell? ⟨w.heap.size + 1, 1, none⟩ = some (.int .i64 a) ∧ w'.cell? ⟨w.heap.size + 1, 2, none⟩ = some (.int .i64 b)) ((refine ⟨?_, ?_, ?_⟩ <;> (simp (disch := (first | ((try simp only [World.size_alloc]) <;> omega) | fail)) only [World.cell?_drew, World.cell?_alloc_at, World.cell?_alloc_past]; rfl))) (first | (go_at_call 75; refine (sum_any c _ ?_ _ _).mono ?_; assumption; rintro e w' ⟨rfl, rfl⟩) | (go_at_call 100; refine (bin_any _ _ _ _).mono ?_; rintro e w' ⟨rfl, rfl⟩))
    all_goals
      rw [HE.out]
      go_wp2_with (go_at_call 93; refine (trapped_any c _ _).mono ?_; rintro e w' ⟨rfl, rfl⟩)
      exact bodyPost_ret (v := { c with st := 2, tr := 1 }.v) (by simp [results, Tryd.results94, go_sem]) rfl ⟨rfl, ((bl5 _ _ _ _ _ _).drew.alloc (by simp; omega) _).alloc (by simp; omega) _⟩

end Go.Proofs.YtneclfaamgfoeaaDoor

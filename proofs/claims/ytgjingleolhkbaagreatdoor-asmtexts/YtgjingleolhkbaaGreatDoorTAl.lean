/- The forms' small functions. -/
import Derived.Test.YtgjingleolhkbaaGreatDoorTAd
import Derived.WalkKit
import Derived.WalkSpells
import Derived.WalkLawsBesides
namespace Go.Proofs.YtgjingleolhkbaaGreatDoor.J
open Go.RowKit
set_option linter.unusedVariables false

theorem bcell {W w1 : World} (hb : Below W.heap.size W w1) : (∀ b o, b < W.heap.size → w1.cell? ⟨b, o, none⟩ = W.cell? ⟨b, o, none⟩) ∧ (∀ b o, b < W.heap.size → w1.frozen? ⟨b, o, none⟩ = W.frozen? ⟨b, o, none⟩) :=
 ⟨fun b o h => hb.cell (p := ⟨b, o, none⟩) h, fun b o h => hb.frozen (p := ⟨b, o, none⟩) h⟩
theorem bl1 (w : World) (x : Obj) : Below w.heap.size w (w.alloc x) := (Below.refl _ _).alloc (Nat.le_refl _) _
theorem bl2 (w : World) (x y : Obj) : Below w.heap.size w ((w.alloc x).alloc y) := (bl1 w x).alloc (by simp) _
theorem bl3 (w : World) (x y z : Obj) : Below w.heap.size w (((w.alloc x).alloc y).alloc z) := (bl2 w x y).alloc (by simp; omega) _
theorem ret_boolI {a b : Bool} (h : a = b) : Ending.returned (.bool a) = .returned (.bool b) := by rw [h]

set_option maxRecDepth 100000 in
set_option maxHeartbeats 8000000 in
theorem formOf_yes (op : Int) (h : 1 ≤ op ∧ op ≤ 33) (w : World) (ht : Tab w) :
  Calls Tryz.prog 93 #[.int .i64 op] w fun e w' => e = .returned (.tuple #[I.fv op, .bool true]) ∧ w' = w.alloc (.cells #[.int .i64 (I.regs op), .int .i64 (I.num op), .bool (I.nat op)] 130) := by
 obtain ⟨h0, h1, hz⟩ := ht
 have z0 : 1 < w.heap.size := by omega
 have z1 : 2 < w.heap.size := by omega
 rcases I.cases33 op h.1 h.2 with rfl | rfl | rfl | rfl | rfl | rfl | rfl | rfl | rfl | rfl | rfl | rfl | rfl | rfl | rfl | rfl | rfl | rfl | rfl | rfl | rfl | rfl | rfl | rfl | rfl | rfl | rfl | rfl | rfl | rfl | rfl | rfl | rfl
 all_goals
  go_enter Tryz.func93, Tryz.ntmps93
  go_wp2
  exact bodyPost_ret (v := .tuple #[I.fv _, .bool true]) (by simp [results, Tryz.results93, go_sem]; decide) rfl ⟨rfl, by rfl⟩

set_option maxRecDepth 100000 in
set_option maxHeartbeats 8000000 in
theorem formOf_no (op : Int) (h : op < 1 ∨ 33 < op) (w : World) (ht : Tab w) :
  Calls Tryz.prog 93 #[.int .i64 op] w fun e w' => e = .returned (.tuple #[.agg #[.int .i64 0, .int .i64 0, .bool false], .bool false]) ∧ w' = w.alloc (.cells #[.int .i64 0, .int .i64 0, .bool false] 130) := by
 obtain ⟨h0, h1, hz⟩ := ht
 have z0 : 1 < w.heap.size := by omega
 rcases (show op < 0 ∨ op = 0 ∨ 34 ≤ op by omega) with h | rfl | h
 all_goals
  go_enter Tryz.func93, Tryz.ntmps93
  go_wp2
  exact bodyPost_ret (v := .tuple #[.agg #[.int .i64 0, .int .i64 0, .bool false], .bool false]) (by simp [results, Tryz.results93, go_sem]) rfl ⟨rfl, rfl⟩

set_option maxHeartbeats 4000000 in
theorem fsize_any (r n : Int) (b : Bool) (hr : r = 0 ∨ r = 1 ∨ r = 2) (hn : n = 0 ∨ n = 1 ∨ n = 4 ∨ n = 8) (w : World) :
  Calls Tryz.prog 94 #[.agg #[.int .i64 r, .int .i64 n, .bool b]] w fun e w' => e = .returned (.int .i64 (if r = 0 then 1 + n else 2 + n)) ∧ w' = w.alloc (.cells #[.int .i64 r, .int .i64 n, .bool b] 130) := by
 by_cases h : r = 0
 ·subst h
  rcases hn with rfl | rfl | rfl | rfl
  all_goals
   go_enter Tryz.func94, Tryz.ntmps94
   go_wp2
   go_ret
   exact ⟨rfl, rfl⟩
 ·rw [if_neg h]
  rcases hn with rfl | rfl | rfl | rfl
  all_goals
   go_enter Tryz.func94, Tryz.ntmps94
   go_wp2
   go_ret
   exact ⟨rfl, rfl⟩

theorem isregI_any (r : Int) (w : World) :
  Calls Tryz.prog 109 #[.int .i64 r] w fun e w' => e = .returned (.bool (I.isr r)) ∧ w' = w := by
 by_cases h : 0 ≤ r
 ·by_cases h2 : r < 8
  ·go_enter Tryz.func109, Tryz.ntmps109
   go_wp2
   go_ret
   exact ⟨ret_boolI (by rw [I.isr_yes (by omega)]), rfl⟩
  ·go_enter Tryz.func109, Tryz.ntmps109
   go_wp2
   go_ret
   exact ⟨ret_boolI (by rw [I.isr_no (by omega)]), rfl⟩
 ·go_enter Tryz.func109, Tryz.ntmps109
  go_wp2
  go_ret
  exact ⟨ret_boolI (by rw [I.isr_no (by omega)]), rfl⟩

theorem allows_any (r m n : Int) (b : Bool) (w : World) :
  Calls Tryz.prog 111 #[.agg #[.int .i64 r, .int .i64 m, .bool b], .int .i64 n] w fun e w' => e = .returned (.bool (decide (0 ≤ n) || !b)) ∧ w' = w.alloc (.cells #[.int .i64 r, .int .i64 m, .bool b] 130) := by
 by_cases h : 0 ≤ n
 ·go_enter Tryz.func111, Tryz.ntmps111
  go_wp2
  go_ret
  exact ⟨ret_boolI (by simp [h]), rfl⟩
 ·have h' : decide (0 ≤ n) = false := decide_eq_false h
  go_enter Tryz.func111, Tryz.ntmps111
  go_wp2
  go_ret
  exact ⟨ret_boolI (by simp), rfl⟩

end Go.Proofs.YtgjingleolhkbaaGreatDoor.J

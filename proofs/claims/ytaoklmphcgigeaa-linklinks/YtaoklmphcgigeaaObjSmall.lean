/- What nameMayBe, room and addMayBe come to. -/
import Derived.Test.YtaoklmphcgigeaaObjMath
import Derived.Deep.LoopGhost
import Derived.Deep.RegionHeld3
namespace Go.Proofs.Ytaoklmphcgigeaa
open Go.RowKit Go.Maps
set_option linter.unusedVariables false

theorem name_any (s : ByteArray) (w : World) : Calls Try.prog 44 #[.string s] w fun e w' => e = .returned (.bool (nameOk s)) ∧ w' = w := by
  rcases (show ¬ 1 ≤ s.size ∨ (1 ≤ s.size ∧ s.size ≤ 28) ∨ (1 ≤ s.size ∧ ¬ s.size ≤ 28) by omega) with h | ⟨h, h'⟩ | ⟨h, h'⟩
  all_goals
    have HN : Hid (nameOk s = (decide (1 ≤ s.size) && decide (s.size ≤ 28))) := rfl
    go_enter Try.func44, Try.ntmps44
    go_wp2
    go_ret
    refine ⟨?_, rfl⟩
    rw [HN.out]
    simp [h] <;> omega

theorem room_any (code : ByteArray) {a1 a2 a3 : Option Addr} {l1 c1 l2 c2 l3 c3 : Nat} (k : Int) (w : World) : Calls Try.prog 45 #[.agg #[.string code, .slice a1 l1 c1, .slice a2 l2 c2, .slice a3 l3 c3], .int .i64 k] w fun e w' => e = .returned (.int .i64 (roomOf code.size l1 k)) ∧ Below w.heap.size w w' := by
  have hb : Below w.heap.size w (w.alloc (.cells #[.string code, .slice a1 l1 c1, .slice a2 l2 c2, .slice a3 l3 c3] 40)) := bl_one _ _
  rcases (show k = 1 ∨ k = 3 ∨ k = 2 ∨ (¬ k = 1 ∧ ¬ k = 3 ∧ ¬ k = 2) by omega) with rfl | rfl | rfl | ⟨h1, h2, h3⟩
  all_goals
    go_enter Try.func45, Try.ntmps45
    go_wp2
    go_ret
    refine ⟨?_, hb⟩
    simp [roomOf, *]

theorem add_any (k n : Int) (w : World) : Calls Try.prog 46 #[.int .i64 k, .int .i64 n] w fun e w' => e = .returned (.bool (addOk k n)) ∧ w' = w := by
  rcases (show k = 1 ∨ (k = 2 ∧ -2147483648 ≤ n) ∨ (k = 2 ∧ ¬ -2147483648 ≤ n) ∨ (¬ k = 1 ∧ ¬ k = 2) by omega) with rfl | ⟨rfl, h⟩ | ⟨rfl, h⟩ | ⟨h1, h2⟩
  all_goals
    go_enter Try.func46, Try.ntmps46
    go_wp2
    go_ret
    refine ⟨?_, rfl⟩
    first | (simp [addOk, *]; done) | (simp [addOk, *]; omega) | (simp [addOk]; rfl)

end Go.Proofs.Ytaoklmphcgigeaa

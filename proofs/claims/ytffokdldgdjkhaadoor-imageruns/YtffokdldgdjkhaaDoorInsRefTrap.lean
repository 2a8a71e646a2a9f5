/- The document's Encode: TRAP with a number out of range. (Written by gen_rall.py.) -/
import Derived.Test.YtffokdldgdjkhaaDoorInsRefBad
namespace Go.Proofs.YtffokdldgdjkhaaDoor
set_option maxRecDepth 100000
open Go.RowKit
set_option linter.unusedVariables false

set_option maxRecDepth 100000 in
set_option maxHeartbeats 16000000 in
theorem rtrap (op a b n : Int) (HF : Hid (I.form op = 10)) (h1 : 0 ≤ a) (h2 : a ≤ 7) (h3 : 0 ≤ b) (h4 : b ≤ 7) (h5 : (a != 0) = false) (h6 : (b != 0) = false) (h : n < 0 ∨ (0 ≤ n ∧ 127 < n)) (w : World) :
    Calls Tryd.prog 54 #[insV op a b n] w fun e w' => e = .returned (.tuple #[.string (strOfNums []), .int .i64 7]) ∧ Below w.heap.size w w' := by
  have pA : I.hasA 10 = false := by decide
  have pB : I.hasB 10 = false := by decide
  have pN : I.numB 10 = 1 := by decide
  rcases h with h7 | ⟨h7, h8⟩
  all_goals
    go_enter Tryd.func54, Tryd.ntmps54
    go_wp2_with (first | (go_at_call 37; refine (form_any _ _).mono ?_; rintro e w' ⟨rfl, rfl⟩; rw [HF.out]) | (go_at_call 38; refine (parts_any _ ?_ ?_ _).mono ?_; omega; omega; rintro e w' ⟨rfl, rfl⟩; rw [pA, pB, pN]))
    go_ret2
    exact ⟨rfl, bl1 _ _⟩

end Go.Proofs.YtffokdldgdjkhaaDoor

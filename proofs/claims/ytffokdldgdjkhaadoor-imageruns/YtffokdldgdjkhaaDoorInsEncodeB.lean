/- ins.Encode, where the form has room for all. -/
import Derived.Test.YtffokdldgdjkhaaDoorInsEncode
import Derived.Test.YtffokdldgdjkhaaDoorInsEncMath
import Derived.Deep.RegionWith
namespace Go.Proofs.YtffokdldgdjkhaaDoor
set_option maxRecDepth 100000
open Go.RowKit
set_option linter.unusedVariables false
attribute [local go_sem ↓] Go.wp_at_zero Go.wp_at_succ

theorem strOfNums_app (a b : List Int) : strOfNums a ++ strOfNums b = strOfNums (a ++ b) := by
  apply ByteArray.ext
  simp [strOfNums]

theorem conv_at (w : World) (b : Nat) (x : Int) (h : w.cell? ⟨b, 0, none⟩ = some (.int .u8 x)) : (convert 74 9 (.slice (some ⟨b, 0, none⟩) 1 1)).run Tryd.prog w = .ok (.string (strOfNums [x])) w := by
  refine run_convert_bytes_arg (P := Tryd.prog) _ 74 5 Tryd.underlying74 Tryd.underlying5 b 0 1 1 [x] rfl ?_ 9 Tryd.underlying9
  intro i hi
  obtain rfl : i = 0 := by simp at hi; omega
  simpa using h
theorem conv_drew (W : World) (b : Nat) (x : Int) (hb : b = W.heap.size) : (convert 74 9 (.slice (some ⟨b, 0, none⟩) 1 1)).run Tryd.prog (W.alloc (.cells #[.int .u8 x] 5)).drew = .ok (.string (strOfNums [x])) (W.alloc (.cells #[.int .u8 x] 5)).drew := by
  subst hb
  exact conv_at _ _ _ (by simp)
theorem conv_below {W w3 : World} (hb : Below W.heap.size W w3) (b : Nat) (x : Int) (h1 : b < W.heap.size) (h2 : W.cell? ⟨b, 0, none⟩ = some (.int .u8 x)) : (convert 74 9 (.slice (some ⟨b, 0, none⟩) 1 1)).run Tryd.prog w3 = .ok (.string (strOfNums [x])) w3 :=
  conv_at _ _ _ ((hb.cell (p := ⟨b, 0, none⟩) h1).trans h2)

theorem cell_thruI {W w3 : World} (hb : Below W.heap.size W w3) {b o : Nat} {v : Value} (h : W.cell? ⟨b, o, none⟩ = some v) : w3.cell? ⟨b, o, none⟩ = some v :=
  (hb.cell (p := ⟨b, o, none⟩) (World.block_lt_of_cell? W ⟨b, o, none⟩ h)).trans h

end Go.Proofs.YtffokdldgdjkhaaDoor

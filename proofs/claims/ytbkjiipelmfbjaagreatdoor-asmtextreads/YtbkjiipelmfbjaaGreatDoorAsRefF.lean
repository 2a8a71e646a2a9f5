/- An instruction's line, and any item's, by the document. -/
import Derived.Test.YtbkjiipelmfbjaaGreatDoorAsRefE
namespace Go.Proofs.YtbkjiipelmfbjaaGreatDoor
open Go.RowKit Go.Lib
set_option linter.unusedVariables false
set_option linter.unusedSimpArgs false

theorem opsR_get {op : Int} (h0 : 0 ≤ op) (h1 : op < 34) {k : Nat} (hk : k < (X.str (X.opsR op)).size) : ∃ c, (X.row op.toNat).2[k]? = some c ∧ (X.str (X.opsR op))[k] = (if c = 64 then 83 else c) := by
  have hl := get_list (X.str (X.opsR op)) k hk
  rw [str_list] at hl
  generalize (X.str (X.opsR op))[k] = g at hl ⊢
  unfold X.opsR at hl
  rw [if_pos ⟨h0, h1⟩, List.getElem?_map] at hl
  cases hc : (X.row op.toNat).2[k]? with
  | none => rw [hc] at hl; cases hl
  | some c => rw [hc] at hl; exact ⟨c, rfl, (Option.some.inj hl).symm⟩
theorem opsR_size {op : Int} (h0 : 0 ≤ op) (h1 : op < 34) : (X.str (X.opsR op)).size = (X.row op.toNat).2.length := by
  rw [str_size]; unfold X.opsR; rw [if_pos ⟨h0, h1⟩, List.length_map]
theorem row_sign : ∀ op : Fin 34, ∀ c ∈ (X.row op.val).2, c = 65 ∨ c = 66 ∨ c = 78 ∨ c = 64 := by decide
theorem mnem_len : ∀ op : Fin 34, (X.row op.val).1.length ≤ 5 := by decide

end Go.Proofs.YtbkjiipelmfbjaaGreatDoor

/- The arguments of layer 2's statements, opened: footprints. -/
import Derived.Test.YtfkpbmopneleiaaRows
import Derived.Test.YtfkpbmopneleiaaMemMeet
import Derived.WalkKit
import Derived.ProofKit
import Derived.OpenShut
import Derived.ChangeOld
import Derived.Below
import Derived.Carry
import Derived.Lib.SmallJoins
namespace Go.Proofs.Ytfkpbmopneleiaa
open Go.ChangeShapes Go.WideShapes Go.ChangeAt Go.RowKit Go.Joins

section
variable {H : Type} {enc : TypeId × Value → H} {w : World} {base : Nat} {spare : Nat → Bool} {held : Bool}

theorem cell_i64 : Try.prog.cellsOf 2 = 1 := by kernel_rfl

/-- A list of numbers, as it is read. -/
theorem open_view {fuel : Nat} {v : Value} {x : DataW H × List MemPlace} (hsp : ∀ b, spare b = true) (h : DataW.trod enc Try.prog w base spare held fuel 24 [v] = some x) : ∃ a l c zs, v = .slice a l c ∧ View w a l c zs := by
  rcases open_ints Try.underlying24 Try.underlying2 cell_i64 h with ⟨hcs, -⟩ | ⟨a, l, c, zs, hcs, -, hl, hm, hz, -, hcell, hwz⟩
  · simp at hcs
    subst hcs
    exact ⟨none, 0, 0, [], rfl, view_nil w⟩
  · simp at hcs
    subst hcs
    rw [hsp, if_pos rfl] at hz
    refine ⟨some a, l, c, zs.take l, rfl, by simp; omega, fun n hn => hwz n (List.mem_of_mem_take hn), by simp, ?_⟩
    by_cases h0 : l = 0
    · exact .inl h0
    · obtain ⟨b, off, rfl, hc'⟩ := ints_at hcell (by omega)
      refine .inr ⟨b, off, rfl, fun i hi => ?_⟩
      rw [hc' i (by omega)]
      simp [List.getD, hi]

set_option maxRecDepth 100000 in
theorem open_foot {r : Reach} {b0 : Nat} {v : Value} {d : DataW H} {p : List MemPlace} (hsp : ∀ b, spare b = true) (hv : Value.okWide Try.prog w r b0 40 v) (h : DataW.Trod enc Try.prog w base spare held 40 v d p) :
    ∃ a1 l1 c1 a2 l2 c2 rs ws, v = .agg #[.slice a1 l1 c1, .slice a2 l2 c2] ∧ View w a1 l1 c1 rs ∧ View w a2 l2 c2 ws := by
  obtain ⟨v0, v1, y0, y1, n, rfl, -, -, h0, h1⟩ := open_agg2 Try.underlying40 (by kernel_rfl) (by kernel_rfl) hv h
  obtain ⟨a1, l1, c1, rs, rfl, V1⟩ := open_view hsp h0
  obtain ⟨a2, l2, c2, ws, rfl, V2⟩ := open_view hsp h1
  exact ⟨a1, l1, c1, a2, l2, c2, rs, ws, rfl, V1, V2⟩
end
end Go.Proofs.Ytfkpbmopneleiaa

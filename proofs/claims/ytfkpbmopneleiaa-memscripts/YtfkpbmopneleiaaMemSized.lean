/- What the reach says of regions: how many there can be. -/
import Derived.Test.YtfkpbmopneleiaaMemOpenO
namespace Go.Proofs.Ytfkpbmopneleiaa
open Go.ChangeShapes Go.WideShapes Go.ChangeAt Go.RowKit Go.Joins

theorem bytes40 : Try.prog.bytesOf 26 = 40 := by kernel_rfl
section
variable {H : Type} {enc : TypeId × Value → H} {w : World} {base : Nat} {spare : Nat → Bool} {held : Bool}
theorem sized_Rg {fuel : Nat} {a : Option Addr} {len cap : Nat} {x : DataW H × List MemPlace} {R : Nat} (h : DataW.trod enc Try.prog w base spare held fuel 22 [.slice a len cap] = some x) (hR : ∀ n ∈ x.1.weights Try.prog 22, n ≤ R) : len * 40 ≤ R := by
  rcases Deep.open_slice Try.underlying22 h with ⟨hcs, -⟩ | ⟨a', len', cap', m, n, D, Pl, hcs, -, hl, hm, hmm, rfl, hx⟩
  · simp at hcs
    omega
  · simp at hcs
    obtain ⟨rfl, rfl, rfl⟩ := hcs
    have h1 := hR ((((List.range len).map D).length + ((List.range (m - len)).map fun j => D (len + j)).length) * Try.prog.bytesOf 26) (by simp [DataW.weights, Try.underlying22])
    rw [bytes40] at h1
    simp only [List.length_map, List.length_range] at h1
    omega
end
end Go.Proofs.Ytfkpbmopneleiaa

/- A list of objects has no more elements than room. -/
import Derived.Test.YtaoklmphcgigeaaLinkOpen
namespace Go.Proofs.Ytaoklmphcgigeaa
open Go.ChangeShapes Go.WideShapes Go.ChangeAt Go.RowKit Go.Joins
theorem open_cap {H : Type} {enc : TypeId × Value → H} {w : World} {base : Nat} {spare : Nat → Bool} {held : Bool} {fuel : Nat} {a : Option Addr} {l c : Nat} {x : DataW H × List MemPlace} (h : DataW.trod enc Try.prog w base spare held fuel 22 [.slice a l c] = some x) : l ≤ c := by
  rcases Deep.open_slice Try.underlying22 h with ⟨hcs, -⟩ | ⟨a', len, cap, m, n, D, Pl, hcs, -, hl, -⟩
  · simp at hcs
    omega
  · simp at hcs
    omega
end Go.Proofs.Ytaoklmphcgigeaa

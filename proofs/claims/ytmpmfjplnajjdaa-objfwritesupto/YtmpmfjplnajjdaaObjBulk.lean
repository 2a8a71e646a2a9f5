/- How many elements an object's lists have at most, by its bulk. -/
import Derived.Test.YtmpmfjplnajjdaaObjOpen
import Derived.Test.YtmpmfjplnajjdaaBulk
namespace Go.Proofs.Ytmpmfjplnajjdaa
open Go.ChangeShapes Go.WideShapes Go.ChangeAt Go.RowKit Go.Joins

section
variable {H : Type} {enc : TypeId × Value → H} {w : World} {base : Nat} {spare : Nat → Bool} {held : Bool}
theorem slice_bulk {fuel : Nat} {t e : TypeId} (ht : Try.prog.underlying t = some (.slice e)) {a : Option Addr} {len cap : Nat} {x : DataW H × List MemPlace} (h : DataW.trod enc Try.prog w base spare held fuel t [.slice a len cap] = some x) : len ≤ Rows.uptoBulk x.1 := by
  rcases Deep.open_slice ht h with ⟨hcs, rfl⟩ | ⟨a', len', cap', m, n, D, Pl, hcs, -, -, -, -, rfl, -⟩
  · simp at hcs; omega
  · simp at hcs
    obtain ⟨-, rfl, -⟩ := hcs
    have := bulks.slice_le ((List.range len).map D) ((List.range (m - len)).map fun j => D (len + j))
    simp only [List.length_map, List.length_range] at this
    show len ≤ Rows.uptoBulk (DataW.slice _ _)
    omega
set_option maxRecDepth 100000 in
theorem obj_bulk {r : Reach} {b0 : Nat} {v : Value} {d : DataW H} {p : List MemPlace} (hv : Value.okWide Try.prog w r b0 26 v) (h : DataW.Trod enc Try.prog w base spare held 26 v d p) {o : ObjD} (V : ObjV w v o) :
    o.data.length ≤ Rows.uptoBulk d ∧ o.syms.length ≤ Rows.uptoBulk d ∧ o.rels.length ≤ Rows.uptoBulk d := by
  obtain ⟨v0, v1, v2, v3, y0, y1, y2, y3, n, rfl, rfl, -, h0, h1, h2, h3⟩ := open_agg4 Try.underlying26 (by kernel_rfl) (by kernel_rfl) hv h
  obtain ⟨a1, l1, c1, a2, l2, c2, a3, l3, c3, e, -, V1, V2, V3⟩ := V.form
  simp at e
  obtain ⟨rfl, rfl, rfl, rfl⟩ := e
  have k1 := slice_bulk Try.underlying22 h1
  have k2 := slice_bulk Try.underlying23 h2
  have k3 := slice_bulk Try.underlying24 h3
  have n1 := V1.count
  have n2 := V2.count
  have n3 := V3.count
  simp only [Rows.uptoBulk, Rows.uptoBulkAll]
  omega
end
end Go.Proofs.Ytmpmfjplnajjdaa

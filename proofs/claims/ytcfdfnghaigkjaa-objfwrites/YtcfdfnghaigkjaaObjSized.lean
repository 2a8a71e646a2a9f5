/- How long an object's lists can be: the reach that the form gives. -/
import Derived.Test.YtcfdfnghaigkjaaObjOpen
import Derived.SizedLaws
namespace Go.Proofs.Ytcfdfnghaigkjaa
set_option maxRecDepth 100000
open Go.ChangeShapes Go.WideShapes Go.ChangeAt Go.RowKit Go.Joins

theorem bytesI : Try.prog.bytesOf 2 = 8 := by kernel_rfl
theorem bytesS : Try.prog.bytesOf 41 = 32 := by kernel_rfl
theorem bytesR : Try.prog.bytesOf 43 = 40 := by kernel_rfl
section
variable {H : Type} {enc : TypeId × Value → H} {w : World} {base : Nat} {spare : Nat → Bool} {held : Bool}
theorem slice_weight {fuel : Nat} {t e : TypeId} (ht : Try.prog.underlying t = some (.slice e)) {a : Option Addr} {len cap : Nat} {x : DataW H × List MemPlace} {R : Nat} (h : DataW.trod enc Try.prog w base spare held fuel t [.slice a len cap] = some x) (hR : ∀ n ∈ x.1.weights Try.prog t, n ≤ R) : len * Try.prog.bytesOf e ≤ R := by
  rcases Deep.open_slice ht h with ⟨hcs, rfl⟩ | ⟨a', len', cap', m, n, D, Pl, hcs, -, -, -, -, rfl, -⟩
  · simp at hcs
    obtain ⟨-, rfl, -⟩ := hcs
    simp
  · simp at hcs
    obtain ⟨-, rfl, -⟩ := hcs
    have := hR ((((List.range len).map D).length + ((List.range (m - len)).map fun j => D (len + j)).length) * Try.prog.bytesOf e) (by simp [DataW.weights, ht])
    simp only [List.length_map, List.length_range] at this
    exact Nat.le_trans (Nat.mul_le_mul_right _ (Nat.le_add_right _ _)) this
theorem obj_sized {r : Reach} {b0 : Nat} {v : Value} {d : DataW H} {p : List MemPlace} {R : Nat} (hv : Value.okWide Try.prog w r b0 26 v) (h : DataW.Trod enc Try.prog w base spare held 26 v d p) {o : ObjD} (V : ObjV w v o) (hR : ∀ n ∈ d.weights Try.prog 26, n ≤ R) :
    o.data.length * 8 ≤ R ∧ o.syms.length * 32 ≤ R ∧ o.rels.length * 40 ≤ R := by
  obtain ⟨v0, v1, v2, v3, y0, y1, y2, y3, n, rfl, rfl, -, h0, h1, h2, h3⟩ := open_agg4 Try.underlying26 (by kernel_rfl) (by kernel_rfl) hv h
  obtain ⟨a1, l1, c1, a2, l2, c2, a3, l3, c3, e, -, V1, V2, V3⟩ := V.form
  simp at e
  obtain ⟨rfl, rfl, rfl, rfl⟩ := e
  have n1 := V1.count
  have n2 := V2.count
  have n3 := V3.count
  rw [n1, n2, n3, ← bytesI, ← bytesS, ← bytesR]
  simp only [DataW.weights, Try.underlying26] at hR
  simp only [List.map_cons, List.map_nil, DataW.weightsEach, List.mem_append] at hR
  exact ⟨slice_weight Try.underlying22 h1 (fun n hn => hR n (Or.inr (Or.inl hn))), slice_weight Try.underlying23 h2 (fun n hn => hR n (Or.inr (Or.inr (Or.inl hn)))), slice_weight Try.underlying24 h3 (fun n hn => hR n (Or.inr (Or.inr (Or.inr (Or.inl hn)))))⟩
end
end Go.Proofs.Ytcfdfnghaigkjaa

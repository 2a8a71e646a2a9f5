/- How long an image's words can be: the reach that the form gives. -/
import Derived.Test.YtmplnkfjaeegdaaDoorPImD
import Derived.SizedLaws
namespace Go.Proofs.YtmplnkfjaeegdaaDoor
set_option maxRecDepth 100000
open Go.ChangeShapes Go.WideShapes Go.ChangeAt Go.RowKit Go.Joins

theorem bytes8 : Tryd.prog.bytesOf 2 = 8 := by kernel_rfl
section
variable {H : Type} {enc : TypeId × Value → H} {w : World} {base : Nat} {spare : Nat → Bool} {held : Bool}
theorem slice_weight {fuel : Nat} {t e : TypeId} (ht : Tryd.prog.underlying t = some (.slice e)) {a : Option Addr} {len cap : Nat} {x : DataW H × List MemPlace} {R : Nat} (h : DataW.trod enc Tryd.prog w base spare held fuel t [.slice a len cap] = some x) (hR : ∀ n ∈ x.1.weights Tryd.prog t, n ≤ R) : len * Tryd.prog.bytesOf e ≤ R := by
  rcases Deep.open_slice ht h with ⟨hcs, rfl⟩ | ⟨a', len', cap', m, n, D, Pl, hcs, -, -, -, -, rfl, -⟩
  · simp at hcs
    obtain ⟨-, rfl, -⟩ := hcs
    simp
  · simp at hcs
    obtain ⟨-, rfl, -⟩ := hcs
    have := hR ((((List.range len).map D).length + ((List.range (m - len)).map fun j => D (len + j)).length) * Tryd.prog.bytesOf e) (by simp [DataW.weights, ht])
    simp only [List.length_map, List.length_range] at this
    exact Nat.le_trans (Nat.mul_le_mul_right _ (Nat.le_add_right _ _)) this
theorem img_sized {r : Reach} {b0 : Nat} {v : Value} {d : DataW H} {p : List MemPlace} {R : Nat} (hv : Value.okWide Tryd.prog w r b0 25 v) (h : DataW.Trod enc Tryd.prog w base spare held 25 v d p) {m : ImgD} (V : ImgV w v m) (hR : ∀ n ∈ d.weights Tryd.prog 25, n ≤ R) :
    m.data.length * 8 ≤ R := by
  obtain ⟨v0, v1, v2, y0, y1, y2, n, rfl, rfl, -, h0, h1, h2⟩ := open_agg3 Tryd.underlying25 (by kernel_rfl) (by kernel_rfl) hv h
  obtain ⟨a1, l1, c1, a2, l2, c2, e, -, V1, V2⟩ := V.form
  simp at e
  obtain ⟨rfl, rfl, rfl⟩ := e
  have n1 := V1.count
  rw [n1, ← bytes8]
  refine slice_weight Tryd.underlying22 h1 (fun n hn => hR n ?_)
  simp only [DataW.weights, Tryd.underlying25]
  simp only [List.map_cons, List.map_nil, DataW.weightsEach, List.mem_append]
  exact Or.inr (Or.inl hn)
end
end Go.Proofs.YtmplnkfjaeegdaaDoor

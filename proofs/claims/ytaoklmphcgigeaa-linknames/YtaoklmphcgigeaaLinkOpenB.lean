/- An object, opened, with how long its lists are. -/
import Derived.Test.YtaoklmphcgigeaaLinkOpen
namespace Go.Proofs.Ytaoklmphcgigeaa
open Go.ChangeShapes Go.WideShapes Go.ChangeAt Go.RowKit Go.Joins
section
variable {H : Type} {enc : TypeId × Value → H} {w : World} {base : Nat} {spare : Nat → Bool} {held : Bool}
set_option maxRecDepth 100000 in
theorem open_objL {r : Reach} {b0 : Nat} {v : Value} {d : DataW H} {p : List MemPlace} (hsp : ∀ b, spare b = true) (hv : Value.okWide Try.prog w r b0 40 v) (h : DataW.Trod enc Try.prog w base spare held 40 v d p) {R : Nat} (hR : ∀ n ∈ d.weights Try.prog 40, n ≤ R) :
    ∃ (o : ObjD) (s : Sl), v = s.val o ∧ OV w o s ∧ Len R o := by
  obtain ⟨v0, v1, v2, v3, y0, y1, y2, y3, n, rfl, rfl, -, h0, h1, h2, h3⟩ := open_agg4 Try.underlying40 (by kernel_rfl) (by kernel_rfl) hv h
  obtain ⟨s, e0, -, hs⟩ := DataW.trod_string Try.underlying9 h0
  obtain ⟨a1, l1, c1, z1, rfl, V1, k1⟩ := open_I hsp h1
  obtain ⟨a2, l2, c2, z2, rfl, V2, k2⟩ := open_S hsp h2
  obtain ⟨a3, l3, c3, z3, rfl, V3, k3⟩ := open_R hsp h3
  simp at e0
  subst e0
  refine ⟨⟨s, z1, z2, z3⟩, ⟨a1, l1, c1, a2, l2, c2, a3, l3, c3⟩, rfl, ⟨hs, V1, V2, V3⟩, ?_⟩
  simp only [DataW.weights, Try.underlying40] at hR
  simp only [List.map_cons, List.map_nil, DataW.weightsEach, List.mem_append] at hR
  have n1 := V1.count
  have n2 := V2.count
  have n3 := V3.count
  unfold Len
  simp only
  rw [n1, n2, n3, ← bytesI, ← bytesS, ← bytesR]
  exact ⟨slice_weight Try.underlying26 h1 (fun n hn => hR n (Or.inr (Or.inl hn))), slice_weight Try.underlying27 h2 (fun n hn => hR n (Or.inr (Or.inr (Or.inl hn)))), slice_weight Try.underlying38 h3 (fun n hn => hR n (Or.inr (Or.inr (Or.inr (Or.inl hn)))))⟩
end
end Go.Proofs.Ytaoklmphcgigeaa

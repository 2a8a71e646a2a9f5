/- A row of bytes that a call has made, as a string. -/
import Derived.Test.YtgjingleolhkbaaGreatDoorProg
import Derived.WalkKit
import Derived.WalkSpells
import Derived.WalkLawsBesides
import Derived.Laws.BytesArg
import Derived.Maps.AppendAt
namespace Go.Proofs.YtgjingleolhkbaaGreatDoor.J
open Go.RowKit

theorem infoB : (Tryz.prog.info? 5).map (fun i => (i.zero, i.size, i.bytes)) = some (some (.int .u8 0), 1, 1) := by kernel_rfl

theorem strOfNums_nil : strOfNums [] = ByteArray.empty := rfl

/-- 'string(b)', b a row of the call's own, nil or not. -/
theorem conv_own {w : World} {base n : Nat} {v : Value} {xs : List Int} (h : w.ownsRow base 5 1 v n (xs.map (Value.int .u8))) :
    (convert 65 9 v).run Tryz.prog w = .ok (.string (strOfNums xs)) w := by
  have hl := h.1
  rcases h.2 with ⟨rfl, rfl⟩ | ⟨g, cap, cur, rfl, hb, hg, hnc, hcm, hcs, htake⟩
  · have hx : xs = [] := by simpa using hl
    subst hx
    exact run_convert_bytes_nil (P := Tryz.prog) w 65 5 Tryz.underlying65 Tryz.underlying5 0 0 9 Tryz.underlying9
  · refine run_convert_bytes_arg (P := Tryz.prog) w 65 5 Tryz.underlying65 Tryz.underlying5 g 0 n cap xs (by simpa using hl) ?_ 9 Tryz.underlying9
    intro i hi
    have hc := h.cellAt i (by simpa using hi)
    rw [Nat.zero_add, hc]
    have hi' : i < xs.length := by simp at hl; omega
    simp [List.getD, hi']

theorem below_own {w w1 w2 : World} {B : Nat} {v : Value} {e : TypeId} {size n : Nat} {xs : List Value} (h : Below B w w1) (o : w1.ownsRow B e size v n xs) (hg : w1.grownBy w2 v.ownBlock) (hB : B ≤ w1.heap.size) : Below B w w2 :=
  h.grown hg hB (fun k hk => (o.lt k hk).1)

/-- What is owned stays owned where nothing that was there has turned. -/
theorem own_kept {w w1 : World} {B : Nat} {v : Value} {e : TypeId} {size n : Nat} {xs : List Value} (o : w.ownsRow B e size v n xs) (h : Below w.heap.size w w1) : w1.ownsRow B e size v n xs := by
  refine ⟨o.1, ?_⟩
  rcases o.2 with h2 | ⟨g, cap, cur, hv, hg, hh, r⟩
  · exact Or.inl h2
  · exact Or.inr ⟨g, cap, cur, hv, hg, (h.block g (Array.getElem?_eq_some_iff.1 hh).1).trans hh, r⟩

end Go.Proofs.YtgjingleolhkbaaGreatDoor.J

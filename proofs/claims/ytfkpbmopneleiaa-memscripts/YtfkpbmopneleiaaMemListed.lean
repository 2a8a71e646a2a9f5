/- What was touched, listed: two lists that rise. -/
import Derived.Test.YtfkpbmopneleiaaMemIter
import Derived.Deep.RegionWith
namespace Go.Proofs.Ytfkpbmopneleiaa
open Go.RowKit Go.Maps

/-- What a block holds, and that it is not frozen, behind whatever is done above. -/
theorem cell_thru {W x : World} {p : Addr} {v : Value} {B : Nat} (b : Below B W x) (hB : p.block < B) (k : W.cell? p = some v) : x.cell? p = some v := (b.cell (p := p) hB).trans k
theorem froz_thru {W x : World} {p : Addr} {B : Nat} {f : Bool} (b : Below B W x) (hB : p.block < B) (k : W.frozen? p = f) : x.frozen? p = f := (b.frozen (p := p) hB).trans k

theorem own_base {w : World} {B B' : Nat} {v : Value} {e : TypeId} {size n : Nat} {xs : List Value} (o : w.ownsRow B e size v n xs) (h : B' ≤ B) : w.ownsRow B' e size v n xs := by
  refine ⟨o.1, ?_⟩
  rcases o.2 with h2 | ⟨g, cap, cur, hv, hg, r⟩
  · exact Or.inl h2
  · exact Or.inr ⟨g, cap, cur, hv, Nat.le_trans h hg, r⟩

theorem own_kept {w w1 : World} {B : Nat} {v : Value} {e : TypeId} {size n : Nat} {xs : List Value} (o : w.ownsRow B e size v n xs) (h : Below w.heap.size w w1) : w1.ownsRow B e size v n xs := by
  refine ⟨o.1, ?_⟩
  rcases o.2 with h2 | ⟨g, cap, cur, hv, hg, hh, r⟩
  · exact Or.inl h2
  · exact Or.inr ⟨g, cap, cur, hv, hg, (h.block g (Array.getElem?_eq_some_iff.1 hh).1).trans hh, r⟩

theorem own_map {w w1 : World} {b n : Nat} {D : DataW Unit} (o : w.ownsMap Try.prog 2 unitElem b n D) (h : Below w.heap.size w w1) : w1.ownsMap Try.prog 2 unitElem b n D :=
  o.kept (row := none) ⟨h.os, h.tape, h.output, h.size, fun k hk _ => h.block k hk⟩ (by simp)

/-- What was touched, as it lies in memory: two sets. -/
structure Touch (w : World) (bt : Nat) (rs ws : List Int) (br bw nr nw : Nat) : Prop where
  c0 : w.cell? ⟨bt, 0, none⟩ = some (.map (some br))
  c1 : w.cell? ⟨bt, 1, none⟩ = some (.map (some bw))
  ne : br ≠ bw
  nt : bt ≠ br ∧ bt ≠ bw
  r : w.ownsMap Try.prog 2 unitElem br nr (M.set rs)
  w' : w.ownsMap Try.prog 2 unitElem bw nw (M.set ws)

set_option maxRecDepth 100000 in
set_option maxHeartbeats 1000000 in
theorem listed_any {w : World} {bt : Nat} {rs ws : List Int} {br bw nr nw : Nat} (h : Touch w bt rs ws br bw nr nw) (h1 : nr * 8 ≤ 140737488355328) (h2 : nw * 8 ≤ 140737488355328) :
    Calls Try.prog 35 #[.pointer (some ⟨bt, 0, none⟩)] w fun e w' => ∃ a c L a' c' L', e = .returned (.agg #[.slice a L.length c, .slice a' L'.length c']) ∧ M.Ris L (· ∈ rs) ∧ M.Ris L' (· ∈ ws) ∧ (∀ n ∈ L, (Lit.int .i64 n).wf = true) ∧ (∀ n ∈ L', (Lit.int .i64 n).wf = true) ∧ w'.ownsRow (w.heap.size + 1) 2 1 (.slice a L.length c) L.length (L.map (Value.int .i64)) ∧ w'.ownsRow (w.heap.size + 1) 2 1 (.slice a' L'.length c') L'.length (L'.map (Value.int .i64)) ∧ Below w.heap.size w w' := by
  have hR : ∀ W, Below w.heap.size w W → W.ownsMap Try.prog 2 unitElem br nr (M.set rs) := fun W hW => own_map h.r hW
  have hW : ∀ W, Below w.heap.size w W → W.ownsMap Try.prog 2 unitElem bw nw (M.set ws) := fun W hW => own_map h.w' hW
  have k0 := h.c0
  have k1 := h.c1
  have HR : Hid _ := hR
  have HW : Hid _ := hW
  have hbt : bt < w.heap.size := World.block_lt_of_cell? w ⟨bt, 0, none⟩ k0
  clear hR hW h
  have hres : ∀ X, Below (w.heap.size + 1) (w.alloc (.cells #[.slice none 0 0, .slice none 0 0] 40)) X → X.cell? ⟨w.heap.size, 0, none⟩ = some (.slice none 0 0) ∧ X.cell? ⟨w.heap.size, 1, none⟩ = some (.slice none 0 0) ∧ X.frozen? ⟨w.heap.size, 0, none⟩ = false ∧ X.frozen? ⟨w.heap.size, 1, none⟩ = false ∧ X.cell? ⟨bt, 0, none⟩ = some (.map (some br)) ∧ X.cell? ⟨bt, 1, none⟩ = some (.map (some bw)) ∧ w.heap.size + 1 ≤ X.heap.size ∧ Below w.heap.size w X := by
    intro X hX
    have hY : Below w.heap.size w (w.alloc (.cells #[.slice none 0 0, .slice none 0 0] 40)) := (Below.refl _ _).alloc (Nat.le_refl _) _
    have hZ := hY.trans (hX.mono (Nat.le_succ _))
    have hs := hX.size
    simp at hs
    exact ⟨(hX.cell (p := ⟨w.heap.size, 0, none⟩) (by simp)).trans (by simp), (hX.cell (p := ⟨w.heap.size, 1, none⟩) (by simp)).trans (by simp), (hX.frozen (p := ⟨w.heap.size, 0, none⟩) (by simp)).trans (by simp), (hX.frozen (p := ⟨w.heap.size, 1, none⟩) (by simp)).trans (by simp), (hZ.cell (p := ⟨bt, 0, none⟩) hbt).trans k0, (hZ.cell (p := ⟨bt, 1, none⟩) hbt).trans k1, hs, hZ⟩
  have HRES : Hid _ := hres
  clear hres
  have tok1 : True := trivial
  go_enter Try.func35, Try.ntmps35
  go_wp2_with fail
  go_region_with (first
    | (go_at_call 43; refine (keys_c _ _).mono ?_; rintro e x ⟨rfl, rfl⟩)
    | (go_at_call 42; have _t := tok1; refine (sorted_c _ br nr (M.set rs) _ ?_ ?_ h1).mono ?_; (first | (simp; done) | exact cell_last _ _ _ _ _ (by simp) rfl); (refine HR.out _ ?_; repeat (first | exact Below.refl _ _ | assumption | refine Below.drew ?_ | refine Below.alloc ?_ (by first | omega | (simp; done) | (simp; omega)) _)); rintro e x1 ⟨a1, c1, L1, rfl, r1, v1, o1, b1⟩; have t1 : Below (w.heap.size + 1) (w.alloc (.cells #[.slice none 0 0, .slice none 0 0] 40)) x1 := Below.trans (by repeat (first | exact Below.refl _ _ | assumption | refine Below.drew ?_ | refine Below.alloc ?_ (by first | omega | (simp; done) | (simp; omega)) _)) (b1.mono (by simp; try omega)); obtain ⟨q0, q1, q2, q3, k0b, k1b, z1, hB1⟩ := HRES.out _ t1; have V1 : Hid _ := v1.fits; have R1 : Hid _ := r1; have O1 : Hid (x1.ownsRow (w.heap.size + 1) 2 1 (.slice a1 L1.length c1) L1.length (L1.map (Value.int .i64))) := own_base o1 (by simp; try omega); clear tok1 o1 b1 v1 r1)
    | (go_at_call 42; refine (sorted_c _ bw nw (M.set ws) _ ?_ ?_ h2).mono ?_; (first | (simp; done) | exact cell_last _ _ _ _ _ (by simp) rfl); (refine HW.out _ ?_; repeat (first | exact Below.refl _ _ | assumption | refine Below.drew ?_ | refine Below.alloc ?_ (by first | omega | (simp; done) | (simp; omega)) _)); rintro e x2 ⟨a2, c2, L2, rfl, r2, v2, o2, b2⟩; have t12 : Below x1.heap.size x1 x2 := Below.trans (by repeat (first | exact Below.refl _ _ | assumption | refine Below.drew ?_ | refine Below.alloc ?_ (by first | omega | (simp; done) | (simp; omega)) _)) (b2.mono (by simp; try omega)); have t2 : Below (w.heap.size + 1) (w.alloc (.cells #[.slice none 0 0, .slice none 0 0] 40)) x2 := t1.trans (t12.mono z1); obtain ⟨y0, y1, y2, y3, k0c, k1c, z2, hB2⟩ := HRES.out _ t2; have V2 : Hid _ := v2.fits; have R2 : Hid _ := r2; have O2 : Hid (x2.ownsRow (w.heap.size + 1) 2 1 (.slice a2 L2.length c2) L2.length (L2.map (Value.int .i64))) := own_base o2 (by simp; try omega); have O1b : Hid (x2.ownsRow (w.heap.size + 1) 2 1 (.slice a1 L1.length c1) L1.length (L1.map (Value.int .i64))) := own_kept O1.out t12; clear o2 b2 v2 r2 q0 q1 q2 q3 k0b k1b))
  all_goals go_wp2
  all_goals refine bodyPost_ret (v := .agg #[.slice a1 L1.length c1, .slice a2 L2.length c2]) (by simp [results, Try.results35, go_sem, y0, y1]) rfl ⟨a1, c1, L1, a2, c2, L2, rfl, ⟨R1.out.up, fun x => (R1.out.mem x).trans (by rw [M.has_set]; simp)⟩, ⟨R2.out.up, fun x => (R2.out.mem x).trans (by rw [M.has_set]; simp)⟩, V1.out, V2.out, ?_, ?_, ?_⟩
  all_goals first | exact ownsRow_setCell_below (ownsRow_setCell_below O1b.out (by simp) _) (by simp) _ | exact ownsRow_setCell_below (ownsRow_setCell_below O2.out (by simp) _) (by simp) _ | exact (hB2.setCell (by simp) _).setCell (by simp) _

end Go.Proofs.Ytfkpbmopneleiaa

/- MemEven: the walk. -/
import Derived.Test.YtoebndapeagmgaaMemLive
import Derived.Test.YtoebndapeagmgaaMemEvenMath
import Derived.Deep.RegionHeld3
namespace Go.Proofs.Ytoebndapeagmgaa
open Go.RowKit Go.Maps
set_option linter.unusedVariables false

/-- Two footprints side by side in a block. -/
theorem foots_two {w : World} {g : Nat} {a1 a2 b1 b2 : Option Addr} {l1 c1 l2 c2 m1 d1 m2 d2 : Nat} {ra wa rb wb : List Int} (h0 : w.cell? ⟨g, 0, none⟩ = some (.slice a1 l1 c1)) (h1 : w.cell? ⟨g, 1, none⟩ = some (.slice a2 l2 c2)) (h2 : w.cell? ⟨g, 2, none⟩ = some (.slice b1 m1 d1)) (h3 : w.cell? ⟨g, 3, none⟩ = some (.slice b2 m2 d2))
    (v1 : View w a1 l1 c1 ra) (v2 : View w a2 l2 c2 wa) (v3 : View w b1 m1 d1 rb) (v4 : View w b2 m2 d2 wb) : FootsV w (some ⟨g, 0, none⟩) 2 [(ra, wa), (rb, wb)] := by
  refine ⟨rfl, .inr ⟨g, 0, rfl, fun i hi => ?_⟩⟩
  rcases (show i = 0 ∨ i = 1 by omega) with rfl | rfl
  · exact ⟨_, _, _, _, _, _, h0, h1, v1, v2⟩
  · exact ⟨_, _, _, _, _, _, h2, h3, v3, v4⟩

theorem cl1 (x : World) (cs : Array Value) (t : TypeId) (i : Nat) (v : Value) (h : cs[i]? = some v) : (x.alloc (.cells cs t)).cell? ⟨x.heap.size, i, none⟩ = some v :=
  (World.cell?_alloc_at cs t _ i rfl).trans h
theorem cl2 (x : World) (o : Obj) (cs : Array Value) (t : TypeId) (i : Nat) (v : Value) (h : cs[i]? = some v) : ((x.alloc (.cells cs t)).alloc o).cell? ⟨x.heap.size, i, none⟩ = some v :=
  (World.cell?_alloc_past o _ i (by simp)).trans (cl1 x cs t i v h)
theorem cl3 (x : World) (o : Obj) (cs : Array Value) (t : TypeId) (i : Nat) (v : Value) (h : cs[i]? = some v) : ((x.alloc o).alloc (.cells cs t)).cell? ⟨x.heap.size + 1, i, none⟩ = some v :=
  (World.cell?_alloc_at cs t _ i (by simp)).trans h
theorem cA (w : World) (o o' : Obj) (cs : Array Value) (t : TypeId) (i : Nat) (v : Value) (h : cs[i]? = some v) : (((w.alloc (.cells cs t)).alloc o).alloc o').cell? ⟨w.heap.size, i, none⟩ = some v :=
  (World.cell?_alloc_past o' _ i (by simp; omega)).trans (cl2 w o cs t i v h)
theorem cB (w : World) (o o' : Obj) (cs : Array Value) (t : TypeId) (i : Nat) (v : Value) (h : cs[i]? = some v) : (((w.alloc o).alloc (.cells cs t)).alloc o').cell? ⟨w.heap.size + 1, i, none⟩ = some v :=
  (World.cell?_alloc_past o' _ i (by simp)).trans (cl3 w o cs t i v h)
theorem cC (w : World) (o o' : Obj) (cs : Array Value) (t : TypeId) (i : Nat) (v : Value) (h : cs[i]? = some v) : (((w.alloc o).alloc o').alloc (.cells cs t)).cell? ⟨w.heap.size + 1 + 1, i, none⟩ = some v :=
  (World.cell?_alloc_at cs t _ i (by simp)).trans h
/-- How far the walk has come. -/
inductive Mark : Nat → Prop
  | mk (n : Nat) : Mark n
theorem cell_thru' {W x : World} (b : Below W.heap.size W x) {p : Addr} {v : Value} (k : W.cell? p = some v) : x.cell? p = some v := (b.cell (p := p) (World.block_lt_of_cell? W p k)).trans k

set_option maxRecDepth 100000 in
set_option maxHeartbeats 16000000 in
theorem even_all {w : World} {a1 a2 b1 b2 k1 k2 : Option Addr} {l1 c1 l2 c2 m1 d1 m2 d2 n1 e1 n2 e2 : Nat} {ra wa rb wb rc wc : List Int}
    (hA1 : View w a1 l1 c1 ra) (hA2 : View w a2 l2 c2 wa) (hB1 : View w b1 m1 d1 rb) (hB2 : View w b2 m2 d2 wb) (hC1 : View w k1 n1 e1 rc) (hC2 : View w k2 n2 e2 wc)
    (s1 : ra.length ≤ 40) (s2 : wa.length ≤ 40) (s3 : rb.length ≤ 40) (s4 : wb.length ≤ 40) (s5 : rc.length ≤ 40) (s6 : wc.length ≤ 40) :
    Calls Try.prog 6 #[.agg #[.slice a1 l1 c1, .slice a2 l2 c2], .agg #[.slice b1 m1 d1, .slice b2 m2 d2], .agg #[.slice k1 n1 e1, .slice k2 n2 e2]] w fun e w' => e = .returned (.bool true) ∧ Below w.heap.size w w' := by
  have VA : Hid (View w a1 l1 c1 ra ∧ View w a2 l2 c2 wa) := ⟨hA1, hA2⟩
  have VB : Hid (View w b1 m1 d1 rb ∧ View w b2 m2 d2 wb) := ⟨hB1, hB2⟩
  have VC : Hid (View w k1 n1 e1 rc ∧ View w k2 n2 e2 wc) := ⟨hC1, hC2⟩
  clear hA1 hA2 hB1 hB2 hC1 hC2
  have FA : Hid (∀ {x : World}, Below w.heap.size w x → FootV x (.agg #[.slice a1 l1 c1, .slice a2 l2 c2]) ra wa) := fun hb => ⟨⟨_, _, _, _, _, _, rfl, VA.out.1.below hb, VA.out.2.below hb⟩⟩
  have FB : Hid (∀ {x : World}, Below w.heap.size w x → FootV x (.agg #[.slice b1 m1 d1, .slice b2 m2 d2]) rb wb) := fun hb => ⟨⟨_, _, _, _, _, _, rfl, VB.out.1.below hb, VB.out.2.below hb⟩⟩
  have FC : Hid (∀ {x : World}, Below w.heap.size w x → FootV x (.agg #[.slice k1 n1 e1, .slice k2 n2 e2]) rc wc) := fun hb => ⟨⟨_, _, _, _, _, _, rfl, VC.out.1.below hb, VC.out.2.below hb⟩⟩
  have fa : (decide (ra.length ≤ 40) && decide (wa.length ≤ 40)) = true := by simp [s1, s2]
  have fb : (decide (rb.length ≤ 40) && decide (wb.length ≤ 40)) = true := by simp [s3, s4]
  have fc : (decide (rc.length ≤ 40) && decide (wc.length ≤ 40)) = true := by simp [s5, s6]
  have HFA : Hid _ := fa
  have HFB : Hid _ := fb
  have HFC : Hid _ := fc
  clear fa fb fc
  have bl3 : Below w.heap.size w (((w.alloc (.cells #[.slice a1 l1 c1, .slice a2 l2 c2] 40)).alloc (.cells #[.slice b1 m1 d1, .slice b2 m2 d2] 40)).alloc (.cells #[.slice k1 n1 e1, .slice k2 n2 e2] 40)) := ((bl_one w _).alloc (by simp) _).alloc (by simp; omega) _
  go_enter Try.func6, Try.ntmps6
  go_wp2_with fail
  refine (few_any (FA.out bl3)).mono ?_
  rintro e x1 ⟨rfl, hb1⟩
  rw [HFA.out]
  have q1 : Below w.heap.size w x1 := bl3.trans (hb1.mono (by simp; omega))
  have hz := hb1.size
  simp at hz
  have c00 : x1.cell? ⟨w.heap.size, 0, none⟩ = some (.slice a1 l1 c1) := (hb1.cell (p := ⟨w.heap.size, 0, none⟩) (by simp; omega)).trans (cA _ _ _ _ _ _ _ rfl)
  have c01 : x1.cell? ⟨w.heap.size, 1, none⟩ = some (.slice a2 l2 c2) := (hb1.cell (p := ⟨w.heap.size, 1, none⟩) (by simp; omega)).trans (cA _ _ _ _ _ _ _ rfl)
  have c10 : x1.cell? ⟨w.heap.size + 1, 0, none⟩ = some (.slice b1 m1 d1) := (hb1.cell (p := ⟨w.heap.size + 1, 0, none⟩) (by simp)).trans (cB _ _ _ _ _ _ _ rfl)
  have c11 : x1.cell? ⟨w.heap.size + 1, 1, none⟩ = some (.slice b2 m2 d2) := (hb1.cell (p := ⟨w.heap.size + 1, 1, none⟩) (by simp)).trans (cB _ _ _ _ _ _ _ rfl)
  have c20 : x1.cell? ⟨w.heap.size + 1 + 1, 0, none⟩ = some (.slice k1 n1 e1) := (hb1.cell (p := ⟨w.heap.size + 1 + 1, 0, none⟩) (by simp)).trans (cC _ _ _ _ _ _ _ rfl)
  have c21 : x1.cell? ⟨w.heap.size + 1 + 1, 1, none⟩ = some (.slice k2 n2 e2) := (hb1.cell (p := ⟨w.heap.size + 1 + 1, 1, none⟩) (by simp)).trans (cC _ _ _ _ _ _ _ rfl)
  generalize w.heap.size + 1 + 1 = gc at *
  generalize w.heap.size + 1 = gb at *
  have CC : Hid (∀ {y : World}, Below x1.heap.size x1 y → (y.cell? ⟨w.heap.size, 0, none⟩ = some (.slice a1 l1 c1) ∧ y.cell? ⟨w.heap.size, 1, none⟩ = some (.slice a2 l2 c2) ∧ y.cell? ⟨gb, 0, none⟩ = some (.slice b1 m1 d1) ∧ y.cell? ⟨gb, 1, none⟩ = some (.slice b2 m2 d2) ∧ y.cell? ⟨gc, 0, none⟩ = some (.slice k1 n1 e1) ∧ y.cell? ⟨gc, 1, none⟩ = some (.slice k2 n2 e2))) := fun hb => ⟨cell_thru' hb c00, cell_thru' hb c01, cell_thru' hb c10, cell_thru' hb c11, cell_thru' hb c20, cell_thru' hb c21⟩
  have rx1 : Below x1.heap.size x1 x1 := Below.refl _ _
  have qx1 := q1
  clear hb1 q1
  go_wp2_with fail
  refine (few_any (FB.out qx1)).mono ?_
  rintro e x2 ⟨rfl, hb⟩
  rw [HFB.out]
  have qx2 : Below w.heap.size w x2 := qx1.trans (hb.mono qx1.size)
  have rx2 : Below x1.heap.size x1 x2 := rx1.trans (hb.mono rx1.size)
  obtain ⟨u0, u1, u2, u3, u4, u5⟩ := CC.out rx2
  clear hb
  clear c00 c01 c10 c11 c20 c21
  go_wp2_with fail
  refine (few_any (FC.out qx2)).mono ?_
  rintro e x3 ⟨rfl, hb⟩
  rw [HFC.out]
  clear u0 u1 u2 u3 u4 u5
  have qx3 : Below w.heap.size w x3 := qx2.trans (hb.mono qx2.size)
  have rx3 : Below x1.heap.size x1 x3 := rx2.trans (hb.mono rx2.size)
  obtain ⟨u0, u1, u2, u3, u4, u5⟩ := CC.out rx3
  clear hb
  go_wp2_with fail
  refine (clash_any (FA.out qx3) (FC.out qx3) (by omega) (by omega) (by omega) (by omega)).mono ?_
  rintro e x4 ⟨rfl, hb⟩
  clear u0 u1 u2 u3 u4 u5
  have qx4 : Below w.heap.size w x4 := qx3.trans (hb.mono qx3.size)
  have rx4 : Below x1.heap.size x1 x4 := rx3.trans (hb.mono rx3.size)
  obtain ⟨u0, u1, u2, u3, u4, u5⟩ := CC.out rx4
  clear hb
  have hX : ∀ L L', M.Ris L (· ∈ rds [(ra, wa), (rb, wb)]) → M.Ris L' (· ∈ wrs [(ra, wa), (rb, wb)]) → clash L L' rc wc = (clash ra wa rc wc || clash rb wb rc wc) := fun L L' h1 h2 => clash_join h1 h2
  have HX : Hid _ := hX
  clear hX
  have SS : Hid (∀ {x y : World}, (x.cell? ⟨w.heap.size, 0, none⟩ = some (.slice a1 l1 c1) ∧ x.cell? ⟨w.heap.size, 1, none⟩ = some (.slice a2 l2 c2) ∧ x.cell? ⟨gb, 0, none⟩ = some (.slice b1 m1 d1) ∧ x.cell? ⟨gb, 1, none⟩ = some (.slice b2 m2 d2) ∧ x.cell? ⟨gc, 0, none⟩ = some (.slice k1 n1 e1) ∧ x.cell? ⟨gc, 1, none⟩ = some (.slice k2 n2 e2)) ∧ Below x1.heap.size x1 x → Below x.heap.size x y → (y.cell? ⟨w.heap.size, 0, none⟩ = some (.slice a1 l1 c1) ∧ y.cell? ⟨w.heap.size, 1, none⟩ = some (.slice a2 l2 c2) ∧ y.cell? ⟨gb, 0, none⟩ = some (.slice b1 m1 d1) ∧ y.cell? ⟨gb, 1, none⟩ = some (.slice b2 m2 d2) ∧ y.cell? ⟨gc, 0, none⟩ = some (.slice k1 n1 e1) ∧ y.cell? ⟨gc, 1, none⟩ = some (.slice k2 n2 e2)) ∧ Below x1.heap.size x1 y) := fun h hb => ⟨CC.out (h.2.trans (hb.mono h.2.size)), h.2.trans (hb.mono h.2.size)⟩
  have SA : Hid (∀ {x : World} {o : Obj}, (x.cell? ⟨w.heap.size, 0, none⟩ = some (.slice a1 l1 c1) ∧ x.cell? ⟨w.heap.size, 1, none⟩ = some (.slice a2 l2 c2) ∧ x.cell? ⟨gb, 0, none⟩ = some (.slice b1 m1 d1) ∧ x.cell? ⟨gb, 1, none⟩ = some (.slice b2 m2 d2) ∧ x.cell? ⟨gc, 0, none⟩ = some (.slice k1 n1 e1) ∧ x.cell? ⟨gc, 1, none⟩ = some (.slice k2 n2 e2)) ∧ Below x1.heap.size x1 x → ((x.alloc o).cell? ⟨w.heap.size, 0, none⟩ = some (.slice a1 l1 c1) ∧ (x.alloc o).cell? ⟨w.heap.size, 1, none⟩ = some (.slice a2 l2 c2) ∧ (x.alloc o).cell? ⟨gb, 0, none⟩ = some (.slice b1 m1 d1) ∧ (x.alloc o).cell? ⟨gb, 1, none⟩ = some (.slice b2 m2 d2) ∧ (x.alloc o).cell? ⟨gc, 0, none⟩ = some (.slice k1 n1 e1) ∧ (x.alloc o).cell? ⟨gc, 1, none⟩ = some (.slice k2 n2 e2)) ∧ Below x1.heap.size x1 (x.alloc o)) := fun h => ⟨CC.out (h.2.alloc h.2.size _), h.2.alloc h.2.size _⟩
  have FAs : Hid (∀ {x : World}, (x.cell? ⟨w.heap.size, 0, none⟩ = some (.slice a1 l1 c1) ∧ x.cell? ⟨w.heap.size, 1, none⟩ = some (.slice a2 l2 c2) ∧ x.cell? ⟨gb, 0, none⟩ = some (.slice b1 m1 d1) ∧ x.cell? ⟨gb, 1, none⟩ = some (.slice b2 m2 d2) ∧ x.cell? ⟨gc, 0, none⟩ = some (.slice k1 n1 e1) ∧ x.cell? ⟨gc, 1, none⟩ = some (.slice k2 n2 e2)) ∧ Below x1.heap.size x1 x → FootV x (.agg #[.slice a1 l1 c1, .slice a2 l2 c2]) ra wa) := fun h => FA.out (qx1.trans (h.2.mono qx1.size))
  have FBs : Hid (∀ {x : World}, (x.cell? ⟨w.heap.size, 0, none⟩ = some (.slice a1 l1 c1) ∧ x.cell? ⟨w.heap.size, 1, none⟩ = some (.slice a2 l2 c2) ∧ x.cell? ⟨gb, 0, none⟩ = some (.slice b1 m1 d1) ∧ x.cell? ⟨gb, 1, none⟩ = some (.slice b2 m2 d2) ∧ x.cell? ⟨gc, 0, none⟩ = some (.slice k1 n1 e1) ∧ x.cell? ⟨gc, 1, none⟩ = some (.slice k2 n2 e2)) ∧ Below x1.heap.size x1 x → FootV x (.agg #[.slice b1 m1 d1, .slice b2 m2 d2]) rb wb) := fun h => FB.out (qx1.trans (h.2.mono qx1.size))
  have FCs : Hid (∀ {x : World}, (x.cell? ⟨w.heap.size, 0, none⟩ = some (.slice a1 l1 c1) ∧ x.cell? ⟨w.heap.size, 1, none⟩ = some (.slice a2 l2 c2) ∧ x.cell? ⟨gb, 0, none⟩ = some (.slice b1 m1 d1) ∧ x.cell? ⟨gb, 1, none⟩ = some (.slice b2 m2 d2) ∧ x.cell? ⟨gc, 0, none⟩ = some (.slice k1 n1 e1) ∧ x.cell? ⟨gc, 1, none⟩ = some (.slice k2 n2 e2)) ∧ Below x1.heap.size x1 x → FootV x (.agg #[.slice k1 n1 e1, .slice k2 n2 e2]) rc wc) := fun h => FC.out (qx1.trans (h.2.mono qx1.size))
  have FRA : Hid (∀ {x : World}, (x.cell? ⟨w.heap.size, 0, none⟩ = some (.slice a1 l1 c1) ∧ x.cell? ⟨w.heap.size, 1, none⟩ = some (.slice a2 l2 c2) ∧ x.cell? ⟨gb, 0, none⟩ = some (.slice b1 m1 d1) ∧ x.cell? ⟨gb, 1, none⟩ = some (.slice b2 m2 d2) ∧ x.cell? ⟨gc, 0, none⟩ = some (.slice k1 n1 e1) ∧ x.cell? ⟨gc, 1, none⟩ = some (.slice k2 n2 e2)) ∧ Below x1.heap.size x1 x → FootV x (.agg #[.slice a1 l1 c1, .slice none 0 0]) ra []) := fun h => ⟨⟨_, _, _, _, _, _, rfl, VA.out.1.below (qx1.trans (h.2.mono qx1.size)), view_nil _⟩⟩
  have FRB : Hid (∀ {x : World}, (x.cell? ⟨w.heap.size, 0, none⟩ = some (.slice a1 l1 c1) ∧ x.cell? ⟨w.heap.size, 1, none⟩ = some (.slice a2 l2 c2) ∧ x.cell? ⟨gb, 0, none⟩ = some (.slice b1 m1 d1) ∧ x.cell? ⟨gb, 1, none⟩ = some (.slice b2 m2 d2) ∧ x.cell? ⟨gc, 0, none⟩ = some (.slice k1 n1 e1) ∧ x.cell? ⟨gc, 1, none⟩ = some (.slice k2 n2 e2)) ∧ Below x1.heap.size x1 x → FootV x (.agg #[.slice b1 m1 d1, .slice none 0 0]) rb []) := fun h => ⟨⟨_, _, _, _, _, _, rfl, VB.out.1.below (qx1.trans (h.2.mono qx1.size)), view_nil _⟩⟩
  have JAB : Hid (∀ {x : World} {g : Nat}, (x.cell? ⟨w.heap.size, 0, none⟩ = some (.slice a1 l1 c1) ∧ x.cell? ⟨w.heap.size, 1, none⟩ = some (.slice a2 l2 c2) ∧ x.cell? ⟨gb, 0, none⟩ = some (.slice b1 m1 d1) ∧ x.cell? ⟨gb, 1, none⟩ = some (.slice b2 m2 d2) ∧ x.cell? ⟨gc, 0, none⟩ = some (.slice k1 n1 e1) ∧ x.cell? ⟨gc, 1, none⟩ = some (.slice k2 n2 e2)) ∧ Below x1.heap.size x1 x → x.cell? ⟨g, 0, none⟩ = some (.slice a1 l1 c1) → x.cell? ⟨g, 1, none⟩ = some (.slice a2 l2 c2) → x.cell? ⟨g, 2, none⟩ = some (.slice b1 m1 d1) → x.cell? ⟨g, 3, none⟩ = some (.slice b2 m2 d2) → FootsV x (some ⟨g, 0, none⟩) 2 [(ra, wa), (rb, wb)]) := fun h h0 h1 h2 h3 => foots_two h0 h1 h2 h3 (VA.out.1.below (qx1.trans (h.2.mono qx1.size))) (VA.out.2.below (qx1.trans (h.2.mono qx1.size))) (VB.out.1.below (qx1.trans (h.2.mono qx1.size))) (VB.out.2.below (qx1.trans (h.2.mono qx1.size)))
  have JBA : Hid (∀ {x : World} {g : Nat}, (x.cell? ⟨w.heap.size, 0, none⟩ = some (.slice a1 l1 c1) ∧ x.cell? ⟨w.heap.size, 1, none⟩ = some (.slice a2 l2 c2) ∧ x.cell? ⟨gb, 0, none⟩ = some (.slice b1 m1 d1) ∧ x.cell? ⟨gb, 1, none⟩ = some (.slice b2 m2 d2) ∧ x.cell? ⟨gc, 0, none⟩ = some (.slice k1 n1 e1) ∧ x.cell? ⟨gc, 1, none⟩ = some (.slice k2 n2 e2)) ∧ Below x1.heap.size x1 x → x.cell? ⟨g, 0, none⟩ = some (.slice b1 m1 d1) → x.cell? ⟨g, 1, none⟩ = some (.slice b2 m2 d2) → x.cell? ⟨g, 2, none⟩ = some (.slice a1 l1 c1) → x.cell? ⟨g, 3, none⟩ = some (.slice a2 l2 c2) → FootsV x (some ⟨g, 0, none⟩) 2 [(rb, wb), (ra, wa)]) := fun h h0 h1 h2 h3 => foots_two h0 h1 h2 h3 (VB.out.1.below (qx1.trans (h.2.mono qx1.size))) (VB.out.2.below (qx1.trans (h.2.mono qx1.size))) (VA.out.1.below (qx1.trans (h.2.mono qx1.size))) (VA.out.2.below (qx1.trans (h.2.mono qx1.size)))
  have hcm : clash rb wb ra wa = clash ra wa rb wb := clash_comm rb wb ra wa
  have hrd : clash ra [] rb [] = false := clash_reads ra rb
  have HCX : Hid (clash ra wa rc wc = clash ra wa rc wc) := rfl
  generalize hcx : clash ra wa rc wc = cx at *
  cases cx with
  | true =>
    rw [Bool.true_or] at HX
    go_wp2_with fail
    have h4 : (x4.drew.cell? ⟨w.heap.size, 0, none⟩ = some (.slice a1 l1 c1) ∧ x4.drew.cell? ⟨w.heap.size, 1, none⟩ = some (.slice a2 l2 c2) ∧ x4.drew.cell? ⟨gb, 0, none⟩ = some (.slice b1 m1 d1) ∧ x4.drew.cell? ⟨gb, 1, none⟩ = some (.slice b2 m2 d2) ∧ x4.drew.cell? ⟨gc, 0, none⟩ = some (.slice k1 n1 e1) ∧ x4.drew.cell? ⟨gc, 1, none⟩ = some (.slice k2 n2 e2)) ∧ Below x1.heap.size x1 x4.drew := ⟨⟨u0, u1, u2, u3, u4, u5⟩, rx4.drew⟩
    clear u0 u1 u2 u3 u4 u5
    first | (go_region_held3 (fun w' : World => (w'.cell? ⟨w.heap.size, 0, none⟩ = some (.slice a1 l1 c1) ∧ w'.cell? ⟨w.heap.size, 1, none⟩ = some (.slice a2 l2 c2) ∧ w'.cell? ⟨gb, 0, none⟩ = some (.slice b1 m1 d1) ∧ w'.cell? ⟨gb, 1, none⟩ = some (.slice b2 m2 d2) ∧ w'.cell? ⟨gc, 0, none⟩ = some (.slice k1 n1 e1) ∧ w'.cell? ⟨gc, 1, none⟩ = some (.slice k2 n2 e2)) ∧ Below x1.heap.size x1 w') (first | assumption | exact SA.out (by assumption) | exact sy) (first | (go_at_call 23; rename Mark 2 => _k; refine (join_any (cap := 2) (JBA.out ?_ ?_ ?_ ?_ ?_) ?_ ?_ ?_).mono ?_; assumption; (first | ((first | exact cl1 _ _ _ _ _ rfl | exact cl2 _ _ _ _ _ _ rfl | exact cl3 _ _ _ _ _ _ rfl)) | (refine cell_thru' hb61 ?_; (first | exact cl1 _ _ _ _ _ rfl | exact cl2 _ _ _ _ _ _ rfl | exact cl3 _ _ _ _ _ _ rfl))); (first | ((first | exact cl1 _ _ _ _ _ rfl | exact cl2 _ _ _ _ _ _ rfl | exact cl3 _ _ _ _ _ _ rfl)) | (refine cell_thru' hb61 ?_; (first | exact cl1 _ _ _ _ _ rfl | exact cl2 _ _ _ _ _ _ rfl | exact cl3 _ _ _ _ _ _ rfl))); (first | ((first | exact cl1 _ _ _ _ _ rfl | exact cl2 _ _ _ _ _ _ rfl | exact cl3 _ _ _ _ _ _ rfl)) | (refine cell_thru' hb61 ?_; (first | exact cl1 _ _ _ _ _ rfl | exact cl2 _ _ _ _ _ _ rfl | exact cl3 _ _ _ _ _ _ rfl))); (first | ((first | exact cl1 _ _ _ _ _ rfl | exact cl2 _ _ _ _ _ _ rfl | exact cl3 _ _ _ _ _ _ rfl)) | (refine cell_thru' hb61 ?_; (first | exact cl1 _ _ _ _ _ rfl | exact cl2 _ _ _ _ _ _ rfl | exact cl3 _ _ _ _ _ _ rfl))); (simp [rds]; omega); (simp [wrs]; omega); decide; rintro e y65 ⟨_, _, Lr65, _, _, Ls65, rfl, r65, s65, v65, u65, hb65⟩; have sy := SS.out (by assumption) hb65; have F65 : FootV y65 _ Lr65 Ls65 := ⟨⟨_, _, _, _, _, _, rfl, v65, u65⟩⟩; have n65 := ris_len r65; have m65 := ris_len s65; simp [rds] at n65; simp [wrs] at m65; (first | have G61 := F61.below hb65 | have G61 := (F61.below (bl_one _ _)).below hb65)) | (go_at_call 23; rename Mark 1 => _k; refine (join_any (cap := 2) (JAB.out ?_ ?_ ?_ ?_ ?_) ?_ ?_ ?_).mono ?_; assumption; (first | ((first | exact cl1 _ _ _ _ _ rfl | exact cl2 _ _ _ _ _ _ rfl | exact cl3 _ _ _ _ _ _ rfl))); (first | ((first | exact cl1 _ _ _ _ _ rfl | exact cl2 _ _ _ _ _ _ rfl | exact cl3 _ _ _ _ _ _ rfl))); (first | ((first | exact cl1 _ _ _ _ _ rfl | exact cl2 _ _ _ _ _ _ rfl | exact cl3 _ _ _ _ _ _ rfl))); (first | ((first | exact cl1 _ _ _ _ _ rfl | exact cl2 _ _ _ _ _ _ rfl | exact cl3 _ _ _ _ _ _ rfl))); (simp [rds]; omega); (simp [wrs]; omega); decide; rintro e y61 ⟨_, _, Lr61, _, _, Ls61, rfl, r61, s61, v61, u61, hb61⟩; have sy := SS.out (by assumption) hb61; have F61 : FootV y61 _ Lr61 Ls61 := ⟨⟨_, _, _, _, _, _, rfl, v61, u61⟩⟩; have n61 := ris_len r61; have m61 := ris_len s61; simp [rds] at n61; simp [wrs] at m61; have mk2 : Mark 2 := Mark.mk 2) | (go_at_call 23; refine (join_any (cap := 2) (JAB.out ?_ ?_ ?_ ?_ ?_) ?_ ?_ ?_).mono ?_; assumption; (first | ((first | exact cl1 _ _ _ _ _ rfl | exact cl2 _ _ _ _ _ _ rfl | exact cl3 _ _ _ _ _ _ rfl))); (first | ((first | exact cl1 _ _ _ _ _ rfl | exact cl2 _ _ _ _ _ _ rfl | exact cl3 _ _ _ _ _ _ rfl))); (first | ((first | exact cl1 _ _ _ _ _ rfl | exact cl2 _ _ _ _ _ _ rfl | exact cl3 _ _ _ _ _ _ rfl))); (first | ((first | exact cl1 _ _ _ _ _ rfl | exact cl2 _ _ _ _ _ _ rfl | exact cl3 _ _ _ _ _ _ rfl))); (simp [rds]; omega); (simp [wrs]; omega); decide; rintro e y41 ⟨_, _, Lr41, _, _, Ls41, rfl, r41, s41, v41, u41, hb41⟩; have sy := SS.out (by assumption) hb41; have F41 : FootV y41 _ Lr41 Ls41 := ⟨⟨_, _, _, _, _, _, rfl, v41, u41⟩⟩; have n41 := ris_len r41; have m41 := ris_len s41; simp [rds] at n41; simp [wrs] at m41; have hx41 := HX.out _ _ r41 s41; have mk1 : Mark 1 := Mark.mk 1) | (go_at_call 15; refine (samefoot_any G61 F65 (by omega) (by omega) (by omega) (by omega)).mono ?_; rintro e y ⟨rfl, hb⟩; rw [join_swap r61 r65, join_swap' s61 s65]; have sy := SS.out (by assumption) hb) | (go_at_call 8; refine (live_any _).mono ?_; rintro e y ⟨rfl, hb⟩; have sy := SS.out (by assumption) hb) | (go_at_call 25; refine (clash_any (ra := ?_) (wa := ?_) (rb := ?_) (wb := ?_) ?_ ?_ ?_ ?_ ?_ ?_).mono ?_; rotate_left 4; (first | (refine FAs.out ?_; assumption) | (refine FBs.out ?_; assumption) | (refine FCs.out ?_; assumption) | (refine FRA.out ?_; assumption) | (refine FRB.out ?_; assumption) | assumption); (first | (refine FAs.out ?_; assumption) | (refine FBs.out ?_; assumption) | (refine FCs.out ?_; assumption) | (refine FRA.out ?_; assumption) | (refine FRB.out ?_; assumption) | assumption); (first | omega | simp); (first | omega | simp); (first | omega | simp); (first | omega | simp); rintro e y ⟨rfl, hb⟩; have sy := SS.out (by assumption) hb)))
    all_goals
      go_wp2
      go_ret
      exact ⟨rfl, qx1.trans (Below.mono (And.right (by assumption)) qx1.size)⟩
  | false =>
    rw [Bool.false_or] at HX
    go_wp2_with fail
    refine (clash_any (FB.out qx4) (FC.out qx4) (by omega) (by omega) (by omega) (by omega)).mono ?_
    rintro e x5 ⟨rfl, hb⟩
    have rx5 : Below x1.heap.size x1 x5 := rx4.trans (hb.mono rx4.size)
    obtain ⟨p0, p1, p2, p3, p4, p5⟩ := CC.out rx5
    clear hb u0 u1 u2 u3 u4 u5
    generalize hcy : clash rb wb rc wc = cy at *
    go_wp2_with fail
    have h4 : (x5.drew.cell? ⟨w.heap.size, 0, none⟩ = some (.slice a1 l1 c1) ∧ x5.drew.cell? ⟨w.heap.size, 1, none⟩ = some (.slice a2 l2 c2) ∧ x5.drew.cell? ⟨gb, 0, none⟩ = some (.slice b1 m1 d1) ∧ x5.drew.cell? ⟨gb, 1, none⟩ = some (.slice b2 m2 d2) ∧ x5.drew.cell? ⟨gc, 0, none⟩ = some (.slice k1 n1 e1) ∧ x5.drew.cell? ⟨gc, 1, none⟩ = some (.slice k2 n2 e2)) ∧ Below x1.heap.size x1 x5.drew := ⟨⟨p0, p1, p2, p3, p4, p5⟩, rx5.drew⟩
    clear p0 p1 p2 p3 p4 p5
    first | (go_region_held3 (fun w' : World => (w'.cell? ⟨w.heap.size, 0, none⟩ = some (.slice a1 l1 c1) ∧ w'.cell? ⟨w.heap.size, 1, none⟩ = some (.slice a2 l2 c2) ∧ w'.cell? ⟨gb, 0, none⟩ = some (.slice b1 m1 d1) ∧ w'.cell? ⟨gb, 1, none⟩ = some (.slice b2 m2 d2) ∧ w'.cell? ⟨gc, 0, none⟩ = some (.slice k1 n1 e1) ∧ w'.cell? ⟨gc, 1, none⟩ = some (.slice k2 n2 e2)) ∧ Below x1.heap.size x1 w') (first | assumption | exact SA.out (by assumption) | exact sy) (first | (go_at_call 23; rename Mark 2 => _k; refine (join_any (cap := 2) (JBA.out ?_ ?_ ?_ ?_ ?_) ?_ ?_ ?_).mono ?_; assumption; (first | ((first | exact cl1 _ _ _ _ _ rfl | exact cl2 _ _ _ _ _ _ rfl | exact cl3 _ _ _ _ _ _ rfl)) | (refine cell_thru' hb61 ?_; (first | exact cl1 _ _ _ _ _ rfl | exact cl2 _ _ _ _ _ _ rfl | exact cl3 _ _ _ _ _ _ rfl))); (first | ((first | exact cl1 _ _ _ _ _ rfl | exact cl2 _ _ _ _ _ _ rfl | exact cl3 _ _ _ _ _ _ rfl)) | (refine cell_thru' hb61 ?_; (first | exact cl1 _ _ _ _ _ rfl | exact cl2 _ _ _ _ _ _ rfl | exact cl3 _ _ _ _ _ _ rfl))); (first | ((first | exact cl1 _ _ _ _ _ rfl | exact cl2 _ _ _ _ _ _ rfl | exact cl3 _ _ _ _ _ _ rfl)) | (refine cell_thru' hb61 ?_; (first | exact cl1 _ _ _ _ _ rfl | exact cl2 _ _ _ _ _ _ rfl | exact cl3 _ _ _ _ _ _ rfl))); (first | ((first | exact cl1 _ _ _ _ _ rfl | exact cl2 _ _ _ _ _ _ rfl | exact cl3 _ _ _ _ _ _ rfl)) | (refine cell_thru' hb61 ?_; (first | exact cl1 _ _ _ _ _ rfl | exact cl2 _ _ _ _ _ _ rfl | exact cl3 _ _ _ _ _ _ rfl))); (simp [rds]; omega); (simp [wrs]; omega); decide; rintro e y65 ⟨_, _, Lr65, _, _, Ls65, rfl, r65, s65, v65, u65, hb65⟩; have sy := SS.out (by assumption) hb65; have F65 : FootV y65 _ Lr65 Ls65 := ⟨⟨_, _, _, _, _, _, rfl, v65, u65⟩⟩; have n65 := ris_len r65; have m65 := ris_len s65; simp [rds] at n65; simp [wrs] at m65; (first | have G61 := F61.below hb65 | have G61 := (F61.below (bl_one _ _)).below hb65)) | (go_at_call 23; rename Mark 1 => _k; refine (join_any (cap := 2) (JAB.out ?_ ?_ ?_ ?_ ?_) ?_ ?_ ?_).mono ?_; assumption; (first | ((first | exact cl1 _ _ _ _ _ rfl | exact cl2 _ _ _ _ _ _ rfl | exact cl3 _ _ _ _ _ _ rfl))); (first | ((first | exact cl1 _ _ _ _ _ rfl | exact cl2 _ _ _ _ _ _ rfl | exact cl3 _ _ _ _ _ _ rfl))); (first | ((first | exact cl1 _ _ _ _ _ rfl | exact cl2 _ _ _ _ _ _ rfl | exact cl3 _ _ _ _ _ _ rfl))); (first | ((first | exact cl1 _ _ _ _ _ rfl | exact cl2 _ _ _ _ _ _ rfl | exact cl3 _ _ _ _ _ _ rfl))); (simp [rds]; omega); (simp [wrs]; omega); decide; rintro e y61 ⟨_, _, Lr61, _, _, Ls61, rfl, r61, s61, v61, u61, hb61⟩; have sy := SS.out (by assumption) hb61; have F61 : FootV y61 _ Lr61 Ls61 := ⟨⟨_, _, _, _, _, _, rfl, v61, u61⟩⟩; have n61 := ris_len r61; have m61 := ris_len s61; simp [rds] at n61; simp [wrs] at m61; have mk2 : Mark 2 := Mark.mk 2) | (go_at_call 23; refine (join_any (cap := 2) (JAB.out ?_ ?_ ?_ ?_ ?_) ?_ ?_ ?_).mono ?_; assumption; (first | ((first | exact cl1 _ _ _ _ _ rfl | exact cl2 _ _ _ _ _ _ rfl | exact cl3 _ _ _ _ _ _ rfl))); (first | ((first | exact cl1 _ _ _ _ _ rfl | exact cl2 _ _ _ _ _ _ rfl | exact cl3 _ _ _ _ _ _ rfl))); (first | ((first | exact cl1 _ _ _ _ _ rfl | exact cl2 _ _ _ _ _ _ rfl | exact cl3 _ _ _ _ _ _ rfl))); (first | ((first | exact cl1 _ _ _ _ _ rfl | exact cl2 _ _ _ _ _ _ rfl | exact cl3 _ _ _ _ _ _ rfl))); (simp [rds]; omega); (simp [wrs]; omega); decide; rintro e y41 ⟨_, _, Lr41, _, _, Ls41, rfl, r41, s41, v41, u41, hb41⟩; have sy := SS.out (by assumption) hb41; have F41 : FootV y41 _ Lr41 Ls41 := ⟨⟨_, _, _, _, _, _, rfl, v41, u41⟩⟩; have n41 := ris_len r41; have m41 := ris_len s41; simp [rds] at n41; simp [wrs] at m41; have hx41 := HX.out _ _ r41 s41; have mk1 : Mark 1 := Mark.mk 1) | (go_at_call 15; refine (samefoot_any G61 F65 (by omega) (by omega) (by omega) (by omega)).mono ?_; rintro e y ⟨rfl, hb⟩; rw [join_swap r61 r65, join_swap' s61 s65]; have sy := SS.out (by assumption) hb) | (go_at_call 8; refine (live_any _).mono ?_; rintro e y ⟨rfl, hb⟩; have sy := SS.out (by assumption) hb) | (go_at_call 25; refine (clash_any (ra := ?_) (wa := ?_) (rb := ?_) (wb := ?_) ?_ ?_ ?_ ?_ ?_ ?_).mono ?_; rotate_left 4; (first | (refine FAs.out ?_; assumption) | (refine FBs.out ?_; assumption) | (refine FCs.out ?_; assumption) | (refine FRA.out ?_; assumption) | (refine FRB.out ?_; assumption) | assumption); (first | (refine FAs.out ?_; assumption) | (refine FBs.out ?_; assumption) | (refine FCs.out ?_; assumption) | (refine FRA.out ?_; assumption) | (refine FRB.out ?_; assumption) | assumption); (first | omega | simp); (first | omega | simp); (first | omega | simp); (first | omega | simp); rintro e y ⟨rfl, hb⟩; have sy := SS.out (by assumption) hb)))
    all_goals
      go_wp2
      go_ret
      exact ⟨rfl, qx1.trans (Below.mono (And.right (by assumption)) qx1.size)⟩

end Go.Proofs.Ytoebndapeagmgaa

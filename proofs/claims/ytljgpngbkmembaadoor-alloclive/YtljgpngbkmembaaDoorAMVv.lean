/- What the rows' list gives: the table of shapes lies in the first block. -/
import Derived.Test.YtljgpngbkmembaaDoorRows
import Derived.Test.YtljgpngbkmembaaDoorAMAc
import Derived.OpenShut
import Derived.Deep.Strs
import Derived.Lib.LaidTab
import Derived.Lib.SmallJoins
import Derived.Test.YtljgpngbkmembaaDoorAMAa
import Derived.ProofKit
import Derived.ShutString
import Derived.ChangeOld
import Derived.ChangeMaps5
import Derived.Below
import Derived.Carry
import Derived.Deep.Slices
import Derived.SizedLaws
import Derived.Test.YtljgpngbkmembaaDoorCards
import Derived.Test.YtljgpngbkmembaaDoorTie
import Derived.Test.YtljgpngbkmembaaDoorAMAi
import Derived.WalkKit
import Derived.Deep.DeepHandedRow
import Derived.LaidMore
namespace Go.Proofs.YtljgpngbkmembaaDoor
open Go.ChangeShapes Go.WideShapes Go.ChangeAt Go.RowKit Go.Joins
set_option linter.unusedVariables false
set_option linter.unusedSimpArgs false
theorem gShapes : Tryd.prog.globalNamed "cotter/flow.shapes" = some 0 := by kernel_rfl
theorem tShapes : (Tryd.prog.globals[0]?).map (·.type) = some 96 := by kernel_rfl
theorem cShapes : Tryd.prog.cellsOf 96 = 153 := by kernel_rfl
theorem cShape : Tryd.prog.cellsOf 95 = 9 := by kernel_rfl
theorem cInt : Tryd.prog.cellsOf 3 = 1 := by kernel_rfl
theorem cBool : Tryd.prog.cellsOf 4 = 1 := by kernel_rfl
set_option maxRecDepth 100000 in
theorem trod_shape {W : World} {fuel : Nat} {cs : List Value} {d a b : Int} {b3 b4 b5 b6 b7 b8 : Bool} {p : List MemPlace} {enc : TypeId × Value → Unit} {base : Nat} {sp : Nat → Bool} {held : Bool}
    (h : DataW.trod enc Tryd.prog W base sp held fuel 95 cs = some (.agg [.lit (.int .i64 d), .lit (.int .i64 a), .lit (.int .i64 b), .lit (.bool b3), .lit (.bool b4), .lit (.bool b5), .lit (.bool b6), .lit (.bool b7), .lit (.bool b8)], p)) : cs[0]? = some (.int .i64 d) ∧ cs[1]? = some (.int .i64 a) ∧ cs[2]? = some (.int .i64 b) ∧ cs[3]? = some (.bool b3) ∧ cs[4]? = some (.bool b4) ∧ cs[5]? = some (.bool b5) ∧ cs[6]? = some (.bool b6) ∧ cs[7]? = some (.bool b7) ∧ cs[8]? = some (.bool b8) := by
  obtain ⟨xs, n, _, hx, hl, hlen, hf⟩ := DataW.trod_struct Tryd.underlying95 h
  match xs, hlen, hx with
  | [y0, y1, y2, y3, y4, y5, y6, y7, y8], _, hx =>
    have h0 := hf 0 _ rfl
    have h1 := hf 1 _ rfl
    have h2 := hf 2 _ rfl
    have h3 := hf 3 _ rfl
    have h4 := hf 4 _ rfl
    have h5 := hf 5 _ rfl
    have h6 := hf 6 _ rfl
    have h7 := hf 7 _ rfl
    have h8 := hf 8 _ rfl
    simp only [List.getElem?_cons_zero, List.getElem?_cons_succ] at h0 h1 h2 h3 h4 h5 h6 h7 h8
    obtain ⟨a0, e0, g0, -⟩ := DataW.trod_int Tryd.underlying3 h0
    obtain ⟨a1, e1, g1, -⟩ := DataW.trod_int Tryd.underlying3 h1
    obtain ⟨a2, e2, g2, -⟩ := DataW.trod_int Tryd.underlying3 h2
    obtain ⟨a3, e3, g3⟩ := DataW.trod_bool Tryd.underlying4 h3
    obtain ⟨a4, e4, g4⟩ := DataW.trod_bool Tryd.underlying4 h4
    obtain ⟨a5, e5, g5⟩ := DataW.trod_bool Tryd.underlying4 h5
    obtain ⟨a6, e6, g6⟩ := DataW.trod_bool Tryd.underlying4 h6
    obtain ⟨a7, e7, g7⟩ := DataW.trod_bool Tryd.underlying4 h7
    obtain ⟨a8, e8, g8⟩ := DataW.trod_bool Tryd.underlying4 h8
    subst g0 g1 g2 g3 g4 g5 g6 g7 g8
    simp at hx
    obtain ⟨⟨rfl, rfl, rfl, rfl, rfl, rfl, rfl, rfl, rfl⟩, -⟩ := hx
    have k0 := congrArg (·[0]?) e0
    have k1 := congrArg (·[0]?) e1
    have k2 := congrArg (·[0]?) e2
    have k3 := congrArg (·[0]?) e3
    have k4 := congrArg (·[0]?) e4
    have k5 := congrArg (·[0]?) e5
    have k6 := congrArg (·[0]?) e6
    have k7 := congrArg (·[0]?) e7
    have k8 := congrArg (·[0]?) e8
    simp [cInt, cBool, List.getElem?_drop] at k0 k1 k2 k3 k4 k5 k6 k7 k8
    exact ⟨k0, k1, k2, k3, k4, k5, k6, k7, k8⟩
set_option maxRecDepth 100000 in
theorem shapes_of_trod {W : World} {fuel : Nat} {cs : List Value} {p : List MemPlace} {enc : TypeId × Value → Unit} {base : Nat} {sp : Nat → Bool} {held : Bool}
    (h : DataW.trod enc Tryd.prog W base sp held fuel 96 cs = some (Rows.laid_cotter_flow_shapes, p)) : ∀ k, k < 17 → cs[k * 9]? = some (.int .i64 (F.sh k).d) ∧ cs[k * 9 + 1]? = some (.int .i64 (F.sh k).a) ∧ cs[k * 9 + 2]? = some (.int .i64 (F.sh k).b) ∧ cs[k * 9 + 3]? = some (.bool (F.sh k).what) ∧ cs[k * 9 + 4]? = some (.bool (F.sh k).name) ∧ cs[k * 9 + 5]? = some (.bool (F.sh k).n) ∧ cs[k * 9 + 6]? = some (.bool (F.sh k).args) ∧ cs[k * 9 + 7]? = some (.bool (F.sh k).dest) ∧ cs[k * 9 + 8]? = some (.bool (F.sh k).ends) := by
  obtain ⟨xs, m, -, hx, hl, hn, hel⟩ := DataW.trod_array Tryd.underlying96 h
  rw [cShapes] at hl
  rw [cShape] at hel
  match xs, hn, hx with
  | [⟨x0, p0⟩, ⟨x1, p1⟩, ⟨x2, p2⟩, ⟨x3, p3⟩, ⟨x4, p4⟩, ⟨x5, p5⟩, ⟨x6, p6⟩, ⟨x7, p7⟩, ⟨x8, p8⟩, ⟨x9, p9⟩, ⟨x10, p10⟩, ⟨x11, p11⟩, ⟨x12, p12⟩, ⟨x13, p13⟩, ⟨x14, p14⟩, ⟨x15, p15⟩, ⟨x16, p16⟩], _, hx =>
    simp only [Rows.laid_cotter_flow_shapes, List.map_cons, List.map_nil, Prod.mk.injEq, DataW.agg.injEq, List.cons.injEq, and_true] at hx
    obtain ⟨⟨rfl, rfl, rfl, rfl, rfl, rfl, rfl, rfl, rfl, rfl, rfl, rfl, rfl, rfl, rfl, rfl, rfl⟩, -⟩ := hx
    intro k hk
    rcases F.cases17 hk with rfl | rfl | rfl | rfl | rfl | rfl | rfl | rfl | rfl | rfl | rfl | rfl | rfl | rfl | rfl | rfl | rfl
    · have q := trod_shape (hel 0 (by decide))
      simp only [List.getElem?_take, List.getElem?_drop] at q
      exact q
    · have q := trod_shape (hel 1 (by decide))
      simp only [List.getElem?_take, List.getElem?_drop] at q
      exact q
    · have q := trod_shape (hel 2 (by decide))
      simp only [List.getElem?_take, List.getElem?_drop] at q
      exact q
    · have q := trod_shape (hel 3 (by decide))
      simp only [List.getElem?_take, List.getElem?_drop] at q
      exact q
    · have q := trod_shape (hel 4 (by decide))
      simp only [List.getElem?_take, List.getElem?_drop] at q
      exact q
    · have q := trod_shape (hel 5 (by decide))
      simp only [List.getElem?_take, List.getElem?_drop] at q
      exact q
    · have q := trod_shape (hel 6 (by decide))
      simp only [List.getElem?_take, List.getElem?_drop] at q
      exact q
    · have q := trod_shape (hel 7 (by decide))
      simp only [List.getElem?_take, List.getElem?_drop] at q
      exact q
    · have q := trod_shape (hel 8 (by decide))
      simp only [List.getElem?_take, List.getElem?_drop] at q
      exact q
    · have q := trod_shape (hel 9 (by decide))
      simp only [List.getElem?_take, List.getElem?_drop] at q
      exact q
    · have q := trod_shape (hel 10 (by decide))
      simp only [List.getElem?_take, List.getElem?_drop] at q
      exact q
    · have q := trod_shape (hel 11 (by decide))
      simp only [List.getElem?_take, List.getElem?_drop] at q
      exact q
    · have q := trod_shape (hel 12 (by decide))
      simp only [List.getElem?_take, List.getElem?_drop] at q
      exact q
    · have q := trod_shape (hel 13 (by decide))
      simp only [List.getElem?_take, List.getElem?_drop] at q
      exact q
    · have q := trod_shape (hel 14 (by decide))
      simp only [List.getElem?_take, List.getElem?_drop] at q
      exact q
    · have q := trod_shape (hel 15 (by decide))
      simp only [List.getElem?_take, List.getElem?_drop] at q
      exact q
    · have q := trod_shape (hel 16 (by decide))
      simp only [List.getElem?_take, List.getElem?_drop] at q
      exact q
theorem shp_of_laid {W : World} (h : laidMetH Tryd.prog Rows.allocLiveRow.laid W) : Shp W := by
  have h' : laidMet Tryd.prog Rows.allocLiveRow.laid W := h
  obtain ⟨ps, ⟨g0, t0, cs0, f0, p0, q0, hg0, ht0, hv0, hd0, ⟨g1, t1, cs1, f1, p1, q1, hg1, ht1, hv1, hd1, _, _⟩, _⟩, _⟩ := h'
  obtain rfl := Option.some.inj (gShapes.symm.trans hg1)
  obtain rfl := Option.some.inj (tShapes.symm.trans ht1)
  have e1 := shapes_of_trod hd1
  have k1 := World.var?_cell hg1 hv1
  have q : ∀ o u, cs1.toList[o]? = some u → W.cell? ⟨0, o, none⟩ = some u := fun o u hu => by rw [k1 o, ← Array.getElem?_toList]; exact hu
  refine ⟨fun k hk => ?_⟩
  obtain ⟨c0, c1, c2, c3, c4, c5, c6, c7, c8⟩ := e1 k hk
  exact ⟨q _ _ c0, q _ _ c1, q _ _ c2, q _ _ c3, q _ _ c4, q _ _ c5, q _ _ c6, q _ _ c7, q _ _ c8⟩
end Go.Proofs.YtljgpngbkmembaaDoor

/- The arguments of layer 21's statements, opened: a function, places, a number. -/
namespace Go.Proofs.YtljgpngbkmembaaDoor
open Go.ChangeShapes Go.WideShapes Go.ChangeAt Go.RowKit Go.Joins
set_option linter.unusedVariables false
set_option linter.unusedSimpArgs false
theorem weightsAll_of {H : Type} {P : Program} {e : TypeId} : ∀ {l : List (DataW H)} {d : DataW H}, d ∈ l → ∀ n ∈ d.weights P e, n ∈ DataW.weightsAll P e l
  | d' :: r, d, hd, n, hn => by
    simp only [DataW.weightsAll, List.mem_append]
    rcases List.mem_cons.1 hd with rfl | h
    · exact Or.inl hn
    · exact Or.inr (weightsAll_of h n hn)
theorem bytes8 : Tryd.prog.bytesOf 3 = 8 := by kernel_rfl
theorem cell_i64 : Tryd.prog.cellsOf 2 = 1 := by kernel_rfl
theorem cell_int : Tryd.prog.cellsOf 3 = 1 := by kernel_rfl
theorem cell_str : Tryd.prog.cellsOf 9 = 1 := by kernel_rfl
theorem cell_sl : Tryd.prog.cellsOf 30 = 1 := by kernel_rfl
theorem cell_op : Tryd.prog.cellsOf 46 = 9 := by kernel_rfl
section
variable {H : Type} {enc : TypeId × Value → H} {w : World} {base : Nat} {spare : Nat → Bool} {held : Bool}
/-- Numbers, as they are read. -/
theorem open_N {fuel : Nat} {v : Value} {x : DataW H × List MemPlace} {R : Nat} (hsp : ∀ b, spare b = true) (h : DataW.trod enc Tryd.prog w base spare held fuel 30 [v] = some x) (hR : ∀ n ∈ x.1.weights Tryd.prog 30, n ≤ R) : ∃ a l c zs, v = .slice a l c ∧ NumV w a l c zs ∧ l * 8 ≤ R := by
  rcases open_ints Tryd.underlying30 Tryd.underlying3 cell_int h with ⟨hcs, -⟩ | ⟨a, l, c, zs, hcs, -, hl, hm, hz, hx, hcell, hwz⟩
  · simp at hcs
    subst hcs
    exact ⟨none, 0, 0, [], rfl, NumV.nil w, by omega⟩
  · simp at hcs
    subst hcs
    rw [hsp, if_pos rfl] at hz
    refine ⟨some a, l, c, zs.take l, rfl, ⟨by simp; omega, fun n hn => hwz n (List.mem_of_mem_take hn), fun e => (by cases e), ⟨hl, hm⟩, ?_⟩, ?_⟩
    · by_cases h0 : l = 0
      · exact .inl h0
      · obtain ⟨b, off, rfl, hc'⟩ := ints_at hcell (by omega)
        refine .inr ⟨b, off, rfl, fun i hi => ?_⟩
        rw [hc' i (by omega)]
        simp [List.getD, hi]
    · have := hR ((((lits (H := H) .i64 (zs.take l)).length + (lits (H := H) .i64 (zs.drop l)).length) * Tryd.prog.bytesOf 3)) (by rw [hx]; simp [DataW.weights, Tryd.underlying30])
      rw [bytes8] at this
      have h1 : (lits (H := H) .i64 (zs.take l)).length = l := by
        simp only [lits, List.length_map, List.length_take]
        omega
      rw [h1] at this
      omega
set_option maxRecDepth 100000 in
theorem trod_op {fuel : Nat} {cs : List Value} {x : DataW H × List MemPlace} {R : Nat} (hsp : ∀ b, spare b = true) (h : DataW.trod enc Tryd.prog w base spare held fuel 46 cs = some x) (hR : ∀ n ∈ x.1.weights Tryd.prog 46, n ≤ R) :
    ∃ (o : F.Op) (r : Ar), cs = opC o r ∧ OpFit o ∧ NumV w r.a r.l r.c o.args ∧ o.args.length * 8 ≤ R := by
  obtain ⟨xs, n, _, hx, hl, hlen, hf⟩ := DataW.trod_struct Tryd.underlying46 h
  rw [cell_op] at hl
  match xs, hlen, hx with
  | [y0, y1, y2, y3, y4, y5, y6, y7, y8], _, hx =>
    match cs, hl with
    | [u0, u1, u2, u3, u4, u5, u6, u7, u8], _ =>
      have h0 : DataW.trod enc Tryd.prog w base spare held n 3 (([u0, u1, u2, u3, u4, u5, u6, u7, u8].drop 0).take (Tryd.prog.cellsOf 3)) = some y0 := hf 0 _ rfl
      rw [cell_int] at h0
      have h1 : DataW.trod enc Tryd.prog w base spare held n 3 (([u0, u1, u2, u3, u4, u5, u6, u7, u8].drop 1).take (Tryd.prog.cellsOf 3)) = some y1 := hf 1 _ rfl
      rw [cell_int] at h1
      have h2 : DataW.trod enc Tryd.prog w base spare held n 9 (([u0, u1, u2, u3, u4, u5, u6, u7, u8].drop 2).take (Tryd.prog.cellsOf 9)) = some y2 := hf 2 _ rfl
      rw [cell_str] at h2
      have h3 : DataW.trod enc Tryd.prog w base spare held n 3 (([u0, u1, u2, u3, u4, u5, u6, u7, u8].drop 3).take (Tryd.prog.cellsOf 3)) = some y3 := hf 3 _ rfl
      rw [cell_int] at h3
      have h4 : DataW.trod enc Tryd.prog w base spare held n 3 (([u0, u1, u2, u3, u4, u5, u6, u7, u8].drop 4).take (Tryd.prog.cellsOf 3)) = some y4 := hf 4 _ rfl
      rw [cell_int] at h4
      have h5 : DataW.trod enc Tryd.prog w base spare held n 3 (([u0, u1, u2, u3, u4, u5, u6, u7, u8].drop 5).take (Tryd.prog.cellsOf 3)) = some y5 := hf 5 _ rfl
      rw [cell_int] at h5
      have h6 : DataW.trod enc Tryd.prog w base spare held n 2 (([u0, u1, u2, u3, u4, u5, u6, u7, u8].drop 6).take (Tryd.prog.cellsOf 2)) = some y6 := hf 6 _ rfl
      rw [cell_i64] at h6
      have h7 : DataW.trod enc Tryd.prog w base spare held n 30 (([u0, u1, u2, u3, u4, u5, u6, u7, u8].drop 7).take (Tryd.prog.cellsOf 30)) = some y7 := hf 7 _ rfl
      rw [cell_sl] at h7
      have h8 : DataW.trod enc Tryd.prog w base spare held n 3 (([u0, u1, u2, u3, u4, u5, u6, u7, u8].drop 8).take (Tryd.prog.cellsOf 3)) = some y8 := hf 8 _ rfl
      rw [cell_int] at h8
      obtain ⟨a0, e0, -, w0⟩ := DataW.trod_int Tryd.underlying3 h0
      obtain ⟨a1, e1, -, w1⟩ := DataW.trod_int Tryd.underlying3 h1
      obtain ⟨a2, e2, -, w2⟩ := DataW.trod_string Tryd.underlying9 h2
      obtain ⟨a3, e3, -, w3⟩ := DataW.trod_int Tryd.underlying3 h3
      obtain ⟨a4, e4, -, w4⟩ := DataW.trod_int Tryd.underlying3 h4
      obtain ⟨a5, e5, -, w5⟩ := DataW.trod_int Tryd.underlying3 h5
      obtain ⟨a6, e6, -, w6⟩ := DataW.trod_int Tryd.underlying2 h6
      obtain ⟨a8, e8, -, w8⟩ := DataW.trod_int Tryd.underlying3 h8
      have h7' : DataW.trod enc Tryd.prog w base spare held n 30 [u7] = some y7 := by simpa using h7
      obtain ⟨ad, l1, c1, zs, e7, V, hb⟩ := open_N (R := R) hsp h7' (fun m hm => hR m (by
        rw [hx]
        simp only [DataW.weights, Tryd.underlying46]
        simp only [List.map_cons, List.map_nil, DataW.weightsEach, List.mem_append]
        exact Or.inr (Or.inr (Or.inr (Or.inr (Or.inr (Or.inr (Or.inr (Or.inl hm)))))))))
      simp at e0 e1 e2 e3 e4 e5 e6 e8
      subst e0 e1 e2 e3 e4 e5 e6 e7 e8
      refine ⟨⟨a0, a1, a2, a3, a4, a5, a6, zs, a8⟩, ⟨ad, l1, c1⟩, rfl, ⟨w0, w1, w2, w3, w4, w5, w6, w8⟩, V, ?_⟩
      show zs.length * 8 ≤ R
      rw [V.count]
      exact hb
/-- Operations, as they are read. -/
theorem open_ops {fuel : Nat} {v : Value} {x : DataW H × List MemPlace} {R : Nat} (hsp : ∀ b, spare b = true) (h : DataW.trod enc Tryd.prog w base spare held fuel 22 [v] = some x) (hR : ∀ n ∈ x.1.weights Tryd.prog 22, n ≤ R) :
    ∃ a l c xs, v = .slice a l c ∧ OpsV w a l c xs ∧ ∀ o ∈ xs, o.args.length * 8 ≤ R := by
  rcases Deep.open_slice Tryd.underlying22 h with ⟨hcs, -⟩ | ⟨a, len, cap, m, n, D, Pl, hcs, -, hl, hm, hmm, hxx, hx⟩
  · simp at hcs
    subst hcs
    exact ⟨none, 0, 0, [], rfl, ⟨rfl, by simp, fun _ => ⟨rfl, rfl⟩, ⟨Nat.le_refl _, by decide⟩, .inl rfl⟩, by simp⟩
  · simp at hcs
    subst hcs
    rw [hsp, if_pos rfl] at hmm
    subst hmm
    have hel : ∀ i, i < len → ∃ (o : F.Op), ∃ (r : Ar), w.cells? base (a.add (i * 9)) 9 = some (opC o r) ∧ OpFit o ∧ NumV w r.a r.l r.c o.args ∧ o.args.length * 8 ≤ R := by
      intro i hi
      obtain ⟨cs', h1, h2⟩ := hx i (by omega)
      rw [cell_op] at h1
      obtain ⟨o, r, rfl, hr, V, hb⟩ := trod_op (R := R) hsp h2 (fun n hn => hR n (by
        rw [hxx]
        simp only [DataW.weights, Tryd.underlying22, List.mem_cons, List.mem_append]
        exact Or.inr (Or.inl (weightsAll_of (List.mem_map.2 ⟨i, List.mem_range.2 hi, rfl⟩) n hn))))
      exact ⟨o, r, h1, hr, V, hb⟩
    have hf : ∃ f : Nat → F.Op, ∀ i, i < len → ∃ (r : Ar), w.cells? base (a.add (i * 9)) 9 = some (opC (f i) r) ∧ OpFit (f i) ∧ NumV w r.a r.l r.c (f i).args ∧ (f i).args.length * 8 ≤ R :=
      ⟨fun i => if h : i < len then Classical.choose (hel i h) else F.noOp, fun i hi => by
        have := Classical.choose_spec (hel i hi)
        simp only [dif_pos hi]
        exact this⟩
    obtain ⟨f, hf⟩ := hf
    have hget : ∀ i, i < len → ((List.range len).map f).getD i F.noOp = f i := fun i hi => by simp [List.getD, hi]
    refine ⟨some a, len, m, (List.range len).map f, rfl, ⟨by simp, ?_, fun e => (by cases e), ⟨hl, hm⟩, ?_⟩, ?_⟩
    · intro r hr
      obtain ⟨i, hi, rfl⟩ := List.mem_map.1 hr
      obtain ⟨_, -, h, -⟩ := hf i (by simpa using hi)
      exact h
    · by_cases h0 : len = 0
      · exact .inl h0
      · have c0 : ∀ i, i < len → ∃ (r : Ar), (∀ j u, (opC (f i) r)[j]? = some u → w.cell? ((a.add (i * 9)).add j) = some u) ∧ NumV w r.a r.l r.c (f i).args := fun i hi => by
          obtain ⟨r, hc, -, V, -⟩ := hf i hi
          refine ⟨r, fun j u hu => ?_, V⟩
          obtain ⟨-, -, hx⟩ := World.cells?_some hc
          have hj : j < 9 := by have := (List.getElem?_eq_some_iff.1 hu).1; simpa [opC] using this
          rw [hx j hj]
          exact hu
        obtain ⟨b, off, spot⟩ := a
        have hspot : spot = none := by
          obtain ⟨_, k, -⟩ := c0 0 (by omega)
          have := k 0 _ rfl
          rw [Addr.add_add] at this
          simpa [Addr.add] using World.cell?_spot this
        subst hspot
        refine .inr ⟨b, off, rfl, fun i hi => ?_⟩
        rw [hget i hi]
        obtain ⟨r, k, V⟩ := c0 i hi
        simp only [Addr.add_lit] at k
        exact ⟨r, ⟨k 0 _ rfl, k 1 _ rfl, k 2 _ rfl, k 3 _ rfl, k 4 _ rfl, k 5 _ rfl, k 6 _ rfl, k 7 _ rfl, k 8 _ rfl⟩, V⟩
    · intro o ho
      obtain ⟨i, hi, rfl⟩ := List.mem_map.1 ho
      obtain ⟨_, -, -, -, h⟩ := hf i (by simpa using hi)
      exact h
set_option maxRecDepth 100000 in
/-- A function, as it is read. -/
theorem open_func {r : Reach} {b0 : Nat} {v : Value} {d : DataW H} {p : List MemPlace} {R : Nat} (hsp : ∀ b, spare b = true) (hv : Value.okWide Tryd.prog w r b0 24 v) (h : DataW.Trod enc Tryd.prog w base spare held 24 v d p) (hR : ∀ n ∈ d.weights Tryd.prog 24, n ≤ R) :
    ∃ (f : F.Fn) (a : Option Addr) (l c : Nat), v = fnV f a l c ∧ f.name.size ≤ maxLen ∧ (Lit.int .i64 f.params).wf = true ∧ (Lit.int .i64 f.temps).wf = true ∧ OpsV w a l c f.code ∧ ∀ o ∈ f.code, o.args.length * 8 ≤ R := by
  obtain ⟨v0, v1, v2, v3, y0, y1, y2, y3, n, rfl, hd, -, h0, h1, h2, h3⟩ := open_agg4 Tryd.underlying24 (by kernel_rfl) (by kernel_rfl) hv h
  obtain ⟨s, e0, -, hs⟩ := DataW.trod_string Tryd.underlying9 h0
  obtain ⟨z1, e1, -, w1⟩ := DataW.trod_int Tryd.underlying3 h1
  obtain ⟨z2, e2, -, w2⟩ := DataW.trod_int Tryd.underlying3 h2
  obtain ⟨a, l, c, xs, rfl, V, hb⟩ := open_ops (R := R) hsp h3 (fun n hn => hR n (by
    rw [hd]
    simp only [DataW.weights, Tryd.underlying24]
    simp only [List.map_cons, List.map_nil, DataW.weightsEach, List.mem_append]
    exact Or.inr (Or.inr (Or.inr (Or.inl hn)))))
  simp at e0 e1 e2
  subst e0 e1 e2
  exact ⟨⟨s, z1, z2, xs⟩, a, l, c, rfl, hs, w1, w2, V, hb⟩
set_option maxRecDepth 100000 in
/-- Places, as they are read. -/
theorem open_alloc {r : Reach} {b0 : Nat} {v : Value} {d : DataW H} {p : List MemPlace} (hsp : ∀ b, spare b = true) (hv : Value.okWide Tryd.prog w r b0 38 v) (h : DataW.Trod enc Tryd.prog w base spare held 38 v d p) :
    ∃ (a : Option Addr) (l c : Nat) (ws : List Int) (s : Int), v = .agg #[.slice a l c, .int .i64 s] ∧ NumV w a l c ws ∧ (Lit.int .i64 s).wf = true := by
  obtain ⟨v0, v1, y0, y1, n, rfl, hd, -, h0, h1⟩ := open_agg2 Tryd.underlying38 (by kernel_rfl) (by kernel_rfl) hv h
  obtain ⟨z1, e1, -, w1⟩ := DataW.trod_int Tryd.underlying3 h1
  obtain ⟨a, l, c, ws, rfl, V, -⟩ := open_N (R := (y0.1.weights Tryd.prog 30).foldr max 0) hsp h0 (fun n hn => by
    generalize y0.1.weights Tryd.prog 30 = L at hn
    induction L with
    | nil => cases hn
    | cons q L ih =>
      rw [List.foldr_cons]
      rcases List.mem_cons.1 hn with rfl | hn
      · exact Nat.le_max_left _ _
      · exact Nat.le_trans (ih hn) (Nat.le_max_right _ _))
  simp at e1
  subst e1
  exact ⟨a, l, c, ws, z1, rfl, V, w1⟩
end
/-! ### The variables -/
theorem gB64 : Tryd.prog.globalNamed "math/bits.deBruijn64tab" = some 1 := by kernel_rfl
theorem tB64 : (Tryd.prog.globals[1]?).map (·.type) = some 103 := by kernel_rfl
theorem cB64 : Tryd.prog.cellsOf 103 = 64 := by kernel_rfl
theorem cU8 : Tryd.prog.cellsOf 5 = 1 := by kernel_rfl
end Go.Proofs.YtljgpngbkmembaaDoor

/- A world for the witness: the two tables hold what their initialisers lay; and what the rows' list gives. -/
namespace Go.Proofs.YtljgpngbkmembaaDoor
open Go.ChangeShapes Go.WideShapes Go.ChangeAt Go.RowKit Go.Joins Go.Shelf
set_option maxRecDepth 100000
/-- A block that holds these cells in the place of its own. -/
def setObj (cs : Array Value) : Obj → Obj
  | .cells _ t frozen => .cells cs t frozen
  | o => o
def shapesV : Array Value := List.toArray (.int .i64 0 :: .int .i64 0 :: .int .i64 0 :: .bool false :: .bool false :: .bool false :: .bool false :: .bool false :: .bool false :: .int .i64 1 :: .int .i64 0 :: .int .i64 0 :: .bool false :: .bool false :: .bool true :: .bool false :: .bool false :: .bool false :: .int .i64 1 :: .int .i64 1 :: .int .i64 0 :: .bool false :: .bool false :: .bool false :: .bool false :: .bool false :: .bool false :: .int .i64 1 :: .int .i64 1 :: .int .i64 1 :: .bool true :: .bool false :: .bool false :: .bool false :: .bool false :: .bool false :: .int .i64 1 :: .int .i64 2 :: .int .i64 0 :: .bool false :: .bool true :: .bool false :: .bool false :: .bool false :: .bool false :: .int .i64 0 :: .int .i64 2 :: .int .i64 1 :: .bool false :: .bool true :: .bool false :: .bool false :: .bool false :: .bool false :: .int .i64 2 :: .int .i64 0 :: .int .i64 0 :: .bool false :: .bool true :: .bool false :: .bool true :: .bool false :: .bool false :: .int .i64 2 :: .int .i64 0 :: .int .i64 0 :: .bool false :: .bool true :: .bool false :: .bool false :: .bool false :: .bool false :: .int .i64 2 :: .int .i64 0 :: .int .i64 1 :: .bool false :: .bool true :: .bool false :: .bool false :: .bool false :: .bool false :: .int .i64 0 :: .int .i64 0 :: .int .i64 0 :: .bool false :: .bool true :: .bool false :: .bool false :: .bool false :: .bool false :: .int .i64 0 :: .int .i64 0 :: .int .i64 0 :: .bool false :: .bool true :: .bool false :: .bool false :: .bool false :: .bool false :: .int .i64 0 :: .int .i64 0 :: .int .i64 0 :: .bool false :: .bool false :: .bool false :: .bool false :: .bool true :: .bool true :: .int .i64 0 :: .int .i64 1 :: .int .i64 0 :: .bool false :: .bool false :: .bool false :: .bool false :: .bool true :: .bool false :: .int .i64 0 :: .int .i64 1 :: .int .i64 0 :: .bool false :: .bool false :: .bool false :: .bool false :: .bool false :: .bool false :: .int .i64 0 :: .int .i64 1 :: .int .i64 0 :: .bool false :: .bool false :: .bool false :: .bool false :: .bool false :: .bool true :: .int .i64 0 :: .int .i64 0 :: .int .i64 0 :: .bool false :: .bool false :: .bool false :: .bool false :: .bool false :: .bool true :: .int .i64 0 :: .int .i64 0 :: .int .i64 0 :: .bool false :: .bool false :: .bool true :: .bool false :: .bool false :: .bool true :: [])
def tab64V : Array Value := (Lib.deBruijn64tab.map fun n : Nat => Value.int .u8 (n : Int)).toArray
/-- A world for the witness: the settled one, the tables holding what their initialisers lay. -/
noncomputable def laidWorld (os : Os) : World :=
  let w0 := World.holding Tryd.prog os ⟨#[], #[], []⟩
  { w0 with heap := (w0.heap.modify 0 (setObj shapesV)).modify 1 (setObj tab64V) }
theorem laidB64 : Rows.laid_math_bits_deBruijn64tab (H := Unit) = Lib.tabData .u8 (Lib.deBruijn64tab.map fun n : Nat => (n : Int)) := by rfl
theorem env_of_laid {W : World} (h : laidMetH Tryd.prog Rows.allocLiveRow.laid W) : Env W := by
  have hs := shp_of_laid h
  have h' : laidMet Tryd.prog Rows.allocLiveRow.laid W := h
  obtain ⟨ps, ⟨g0, t0, cs0, f0, p0, q0, hg0, ht0, hv0, hd0, _, _⟩, _⟩ := h'
  obtain rfl := Option.some.inj (gB64.symm.trans hg0)
  obtain rfl := Option.some.inj (tB64.symm.trans ht0)
  have e0 : cs0.toList = (Lib.deBruijn64tab.map fun n : Nat => (n : Int)).map fun z => Value.int .u8 z := Lib.cells_of_tab Tryd.underlying103 Tryd.underlying5 cU8 cB64 (by rw [← laidB64]; exact hd0)
  have k0 := World.var?_cell hg0 hv0
  have ht : TabAt 1 Lib.deBruijn64tab W := fun j hj => by
    rw [k0 j, ← Array.getElem?_toList, e0]
    simp [List.getD, hj]
  exact ⟨hs, ht, lt_of_cell (ht 0 (by decide))⟩
end Go.Proofs.YtljgpngbkmembaaDoor

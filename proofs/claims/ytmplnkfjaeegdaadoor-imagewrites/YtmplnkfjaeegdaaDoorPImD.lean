/- What the rows' list gives: the two tables stand in memory as the program's text lays them. -/
import Derived.Test.YtmplnkfjaeegdaaDoorRows
import Derived.Test.YtmplnkfjaeegdaaDoorPInsA
import Derived.OpenShut
import Derived.Deep.Strs
import Derived.Lib.LaidTab
import Derived.Lib.SmallJoins
import Derived.Test.YtmplnkfjaeegdaaDoorCards
import Derived.Test.YtmplnkfjaeegdaaDoorTie
import Derived.Test.YtmplnkfjaeegdaaDoorPImA
import Derived.Test.YtmplnkfjaeegdaaDoorPObjE
import Derived.WalkKit
import Derived.ProofKit
import Derived.ShutString
import Derived.ChangeOld
import Derived.Below
import Derived.Carry
import Derived.Deep.DeepHandedRow
namespace Go.Proofs.YtmplnkfjaeegdaaDoor
open Go.ChangeShapes Go.WideShapes Go.ChangeAt Go.RowKit Go.Joins

theorem gForms : Tryd.prog.globalNamed "cotter/ins.forms" = some 1 := by kernel_rfl
theorem gNums : Tryd.prog.globalNamed "cotter/ins.formNumbers" = some 0 := by kernel_rfl
theorem tForms : (Tryd.prog.globals[1]?).map (·.type) = some 169 := by kernel_rfl
theorem tNums : (Tryd.prog.globals[0]?).map (·.type) = some 168 := by kernel_rfl
theorem cForms : Tryd.prog.cellsOf 169 = 33 := by kernel_rfl
theorem cNums : Tryd.prog.cellsOf 168 = 34 := by kernel_rfl
theorem cForm : Tryd.prog.cellsOf 159 = 3 := by kernel_rfl
theorem cInt : Tryd.prog.cellsOf 3 = 1 := by kernel_rfl
theorem cBool : Tryd.prog.cellsOf 4 = 1 := by kernel_rfl

/-- A form's three cells, read. -/
theorem trod_form {W : World} {fuel : Nat} {cs : List Value} {r m : Int} {t : Bool} {p : List MemPlace} {enc : TypeId × Value → Unit} {base : Nat} {sp : Nat → Bool} {held : Bool}
    (h : DataW.trod enc Tryd.prog W base sp held fuel 159 cs = some (.agg [.lit (.int .i64 r), .lit (.int .i64 m), .lit (.bool t)], p)) : cs[0]? = some (.int .i64 r) ∧ cs[1]? = some (.int .i64 m) ∧ cs[2]? = some (.bool t) := by
  obtain ⟨y0, y1, y2, n, hx, -, h0, h1, h2⟩ := Deep.trod_struct3 Tryd.underlying159 h
  obtain ⟨a0, e0, g0, -⟩ := DataW.trod_int Tryd.underlying3 h0
  obtain ⟨a1, e1, g1, -⟩ := DataW.trod_int Tryd.underlying3 h1
  obtain ⟨a2, e2, g2⟩ := DataW.trod_bool Tryd.underlying4 h2
  subst g0 g1 g2
  simp at hx
  obtain ⟨⟨rfl, rfl, rfl⟩, -⟩ := hx
  have k0 := congrArg (·[0]?) e0
  have k1 := congrArg (·[0]?) e1
  have k2 := congrArg (·[0]?) e2
  simp [cInt, cBool, List.getElem?_drop] at k0 k1 k2
  exact ⟨k0, k1, k2⟩

theorem forms_of_trod {W : World} {fuel : Nat} {cs : List Value} {p : List MemPlace} {enc : TypeId × Value → Unit} {base : Nat} {sp : Nat → Bool} {held : Bool}
    (h : DataW.trod enc Tryd.prog W base sp held fuel 169 cs = some (Rows.laid_cotter_ins_forms, p)) : ∀ o : Nat, cs[o]? = I.forms[o]? := by
  obtain ⟨xs, m, -, hx, hl, hn, hel⟩ := DataW.trod_array Tryd.underlying169 h
  rw [cForms] at hl
  rw [cForm] at hel
  match xs, hn, hx with
  | [⟨x0, p0⟩, ⟨x1, p1⟩, ⟨x2, p2⟩, ⟨x3, p3⟩, ⟨x4, p4⟩, ⟨x5, p5⟩, ⟨x6, p6⟩, ⟨x7, p7⟩, ⟨x8, p8⟩, ⟨x9, p9⟩, ⟨xa, pa⟩], _, hx =>
    simp only [Rows.laid_cotter_ins_forms, List.map_cons, List.map_nil, Prod.mk.injEq, DataW.agg.injEq, List.cons.injEq, and_true] at hx
    obtain ⟨⟨rfl, rfl, rfl, rfl, rfl, rfl, rfl, rfl, rfl, rfl, rfl⟩, -⟩ := hx
    have k0 := trod_form (hel 0 (by decide))
    have k1 := trod_form (hel 1 (by decide))
    have k2 := trod_form (hel 2 (by decide))
    have k3 := trod_form (hel 3 (by decide))
    have k4 := trod_form (hel 4 (by decide))
    have k5 := trod_form (hel 5 (by decide))
    have k6 := trod_form (hel 6 (by decide))
    have k7 := trod_form (hel 7 (by decide))
    have k8 := trod_form (hel 8 (by decide))
    have k9 := trod_form (hel 9 (by decide))
    have ka := trod_form (hel 10 (by decide))
    simp only [List.getElem?_take, List.getElem?_drop] at k0 k1 k2 k3 k4 k5 k6 k7 k8 k9 ka
    intro o
    by_cases ho : o < 33
    · obtain ⟨q, r, hr, rfl⟩ : ∃ q r, r < 3 ∧ o = q * 3 + r := ⟨o / 3, o % 3, by omega, by omega⟩
      have hq : q < 11 := by omega
      rcases (show q = 0 ∨ q = 1 ∨ q = 2 ∨ q = 3 ∨ q = 4 ∨ q = 5 ∨ q = 6 ∨ q = 7 ∨ q = 8 ∨ q = 9 ∨ q = 10 by omega) with rfl | rfl | rfl | rfl | rfl | rfl | rfl | rfl | rfl | rfl | rfl <;>
        rcases (show r = 0 ∨ r = 1 ∨ r = 2 by omega) with rfl | rfl | rfl
      all_goals first | exact k0.1 | exact k0.2.1 | exact k0.2.2 | exact k1.1 | exact k1.2.1 | exact k1.2.2 | exact k2.1 | exact k2.2.1 | exact k2.2.2 | exact k3.1 | exact k3.2.1 | exact k3.2.2 | exact k4.1 | exact k4.2.1 | exact k4.2.2 | exact k5.1 | exact k5.2.1 | exact k5.2.2 | exact k6.1 | exact k6.2.1 | exact k6.2.2 | exact k7.1 | exact k7.2.1 | exact k7.2.2 | exact k8.1 | exact k8.2.1 | exact k8.2.2 | exact k9.1 | exact k9.2.1 | exact k9.2.2 | exact ka.1 | exact ka.2.1 | exact ka.2.2
    · rw [List.getElem?_eq_none (by omega), Array.getElem?_eq_none (by simp; omega)]

theorem nums_eq : ([0, 8, 3, 3, 3, 3, 3, 3, 3, 3, 3, 3, 3, 3, 3, 3, 3, 9, 9, 7, 5, 7, 7, 5, 1, 4, 6, 6, 9, 9, 1, 2, 1, 10].map fun z => Value.int .i64 z) = I.nums.toList := by kernel_rfl

theorem tab_of_laid {W : World} (h : laidMetH Tryd.prog Rows.imageBackRow.laid W) : Tab W := by
  have h' : laidMet Tryd.prog Rows.imageBackRow.laid W := h
  obtain ⟨ps, ⟨g0, t0, cs0, f0, p0, q0, hg0, ht0, hv0, hd0, ⟨g1, t1, cs1, f1, p1, q1, hg1, ht1, hv1, hd1, _, _⟩, _⟩, _⟩ := h'
  obtain rfl := Option.some.inj (gForms.symm.trans hg0)
  obtain rfl := Option.some.inj (gNums.symm.trans hg1)
  obtain rfl := Option.some.inj (tForms.symm.trans ht0)
  obtain rfl := Option.some.inj (tNums.symm.trans ht1)
  have e0 := forms_of_trod hd0
  have e1 := Lib.cells_of_tab (zs := [0, 8, 3, 3, 3, 3, 3, 3, 3, 3, 3, 3, 3, 3, 3, 3, 3, 9, 9, 7, 5, 7, 7, 5, 1, 4, 6, 6, 9, 9, 1, 2, 1, 10]) Tryd.underlying168 Tryd.underlying3 cInt cNums hd1
  have k0 := World.var?_cell hg0 hv0
  have k1 := World.var?_cell hg1 hv1
  have f0 : ∀ o, W.cell? ⟨1, o, none⟩ = I.forms[o]? := fun o => by rw [k0 o, ← Array.getElem?_toList, e0 o]
  have f1 : ∀ o, W.cell? ⟨0, o, none⟩ = I.nums[o]? := fun o => by rw [k1 o, ← Array.getElem?_toList, e1, nums_eq, Array.getElem?_toList]
  have hz := World.block_lt_of_cell? W ⟨1, 0, none⟩ (f0 0)
  exact ⟨f1, f0, hz⟩

end Go.Proofs.YtmplnkfjaeegdaaDoor

/- The arguments of layer 8's statements, opened; a world that holds the tables. -/
namespace Go.Proofs.YtmplnkfjaeegdaaDoor
open Go.ChangeShapes Go.WideShapes Go.ChangeAt Go.RowKit Go.Joins

section
variable {H : Type} {enc : TypeId × Value → H} {w : World} {base : Nat} {spare : Nat → Bool} {held : Bool}
set_option maxRecDepth 100000 in
theorem open_img {r : Reach} {b0 : Nat} {v : Value} {d : DataW H} {p : List MemPlace} (hsp : ∀ b, spare b = true) (hv : Value.okWide Tryd.prog w r b0 25 v) (h : DataW.Trod enc Tryd.prog w base spare held 25 v d p) :
    ∃ m, ImgV w v m := by
  obtain ⟨v0, v1, v2, y0, y1, y2, n, rfl, -, -, h0, h1, h2⟩ := open_agg3 Tryd.underlying25 (by kernel_rfl) (by kernel_rfl) hv h
  obtain ⟨s, e0, -, hs⟩ := DataW.trod_string Tryd.underlying9 h0
  obtain ⟨a1, l1, c1, z1, rfl, V1, k1⟩ := open_I hsp h1
  obtain ⟨a2, l2, c2, z2, rfl, V2, k2⟩ := open_S hsp h2
  simp at e0
  subst e0
  exact ⟨⟨s, z1, z2⟩, ⟨⟨_, _, _, _, _, _, rfl, hs, V1, V2⟩⟩⟩
end
/-- A block that holds these cells in the place of its own. -/
def setObj (cs : Array Value) : Obj → Obj
  | .cells _ t frozen => .cells cs t frozen
  | o => o
/-- A world for the witness: the settled one, the tables holding what their initialisers lay. -/
noncomputable def laidWorld (os : Os) : World :=
  { World.holding Tryd.prog os ⟨#[], #[], []⟩ with heap := ((World.holding Tryd.prog os ⟨#[], #[], []⟩).heap.modify 0 (setObj I.nums)).modify 1 (setObj I.forms) }

end Go.Proofs.YtmplnkfjaeegdaaDoor

/- The arguments of layer 4's statements, opened. -/
import Derived.Test.YtnfkklpionbnoaaRows
import Derived.Test.YtnfkklpionbnoaaStepMath
import Derived.WalkKit
import Derived.ProofKit
import Derived.OpenShut
import Derived.ShutString
import Derived.ChangeOld
import Derived.Below
import Derived.Carry
import Derived.Lib.SmallJoins
namespace Go.Proofs.Ytnfkklpionbnoaa
open Go.ChangeShapes Go.WideShapes Go.ChangeAt Go.RowKit Go.Joins

/-- Each of its numbers fits. -/
def S.C.ok (c : S.C) : Prop := ((Lit.int .i64 c.r0).wf = true ∧ (Lit.int .i64 c.r1).wf = true ∧ (Lit.int .i64 c.r2).wf = true ∧ (Lit.int .i64 c.r3).wf = true) ∧ ((Lit.int .i64 c.r4).wf = true ∧ (Lit.int .i64 c.r5).wf = true ∧ (Lit.int .i64 c.r6).wf = true ∧ (Lit.int .i64 c.r7).wf = true) ∧ (Lit.int .i64 c.pc).wf = true ∧ (Lit.int .i64 c.st).wf = true ∧ (Lit.int .i64 c.tr).wf = true

theorem array11 {α : Type} {cs : Array α} (h : cs.size = 11) : ∃ c0 c1 c2 c3 c4 c5 c6 c7 c8 c9 ca, cs = #[c0, c1, c2, c3, c4, c5, c6, c7, c8, c9, ca] := by
  obtain ⟨l⟩ := cs
  match l, h with
  | [c0, c1, c2, c3, c4, c5, c6, c7, c8, c9, ca], _ => exact ⟨c0, c1, c2, c3, c4, c5, c6, c7, c8, c9, ca, rfl⟩

section
variable {H : Type} {enc : TypeId × Value → H} {w : World} {base : Nat} {spare : Nat → Bool} {held : Bool}

theorem cells_cpu : Try.prog.cellsOf 24 = 11 := by kernel_rfl
theorem cells_regs : Try.prog.cellsOf 22 = 8 := by kernel_rfl
theorem cells_i64 : Try.prog.cellsOf 2 = 1 := by kernel_rfl
theorem cells_int : Try.prog.cellsOf 3 = 1 := by kernel_rfl

/-- A thread's cells, read. -/
theorem trod_cpu {fuel : Nat} {c0 c1 c2 c3 c4 c5 c6 c7 c8 c9 ca : Value} {x : DataW H × List MemPlace} (h : DataW.trod enc Try.prog w base spare held fuel 24 [c0, c1, c2, c3, c4, c5, c6, c7, c8, c9, ca] = some x) :
    ∃ c : S.C, [c0, c1, c2, c3, c4, c5, c6, c7, c8, c9, ca] = [.int .i64 c.r0, .int .i64 c.r1, .int .i64 c.r2, .int .i64 c.r3, .int .i64 c.r4, .int .i64 c.r5, .int .i64 c.r6, .int .i64 c.r7, .int .i64 c.pc, .int .i64 c.st, .int .i64 c.tr] ∧ c.ok := by
  obtain ⟨y0, y1, y2, y3, n, -, -, h0, h1, h2, h3⟩ := trod_struct4 Try.underlying24 h
  obtain ⟨a8, e8, -, w8⟩ := DataW.trod_int Try.underlying2 h1
  obtain ⟨a9, e9, -, w9⟩ := DataW.trod_int Try.underlying3 h2
  obtain ⟨aa, ea, -, wa⟩ := DataW.trod_int Try.underlying2 h3
  obtain ⟨xs, m, -, -, -, hxs, he⟩ := DataW.trod_array Try.underlying22 h0
  simp only [cells_regs, cells_i64, cells_int] at e8 e9 ea he
  have g : ∀ i, i < 8 → ∃ n, (((([c0, c1, c2, c3, c4, c5, c6, c7, c8, c9, ca] : List Value).drop 0).take 8).drop (i * 1)).take 1 = [.int .i64 n] ∧ (Lit.int .i64 n).wf = true := by
    intro i hi
    have h1 := he i hi
    rw [List.getElem?_eq_getElem (by omega)] at h1
    obtain ⟨n, e, -, wn⟩ := DataW.trod_int Try.underlying2 h1
    exact ⟨n, e, wn⟩
  obtain ⟨n0, e0, w0⟩ := g 0 (by omega)
  obtain ⟨n1, e1, w1⟩ := g 1 (by omega)
  obtain ⟨n2, e2, w2⟩ := g 2 (by omega)
  obtain ⟨n3, e3, w3⟩ := g 3 (by omega)
  obtain ⟨n4, e4, w4⟩ := g 4 (by omega)
  obtain ⟨n5, e5, w5⟩ := g 5 (by omega)
  obtain ⟨n6, e6, w6⟩ := g 6 (by omega)
  obtain ⟨n7, e7, w7⟩ := g 7 (by omega)
  simp at e0 e1 e2 e3 e4 e5 e6 e7 e8 e9 ea
  subst e0 e1 e2 e3 e4 e5 e6 e7 e8 e9 ea
  exact ⟨⟨n0, n1, n2, n3, n4, n5, n6, n7, a8, a9, aa⟩, rfl, ⟨w0, w1, w2, w3⟩, ⟨w4, w5, w6, w7⟩, w8, w9, wa⟩

theorem open_cpu {r : Reach} {b0 : Nat} {v : Value} {d : DataW H} {p : List MemPlace} (hv : Value.okWide Try.prog w r b0 24 v) (h : DataW.Trod enc Try.prog w base spare held 24 v d p) : ∃ c : S.C, v = c.v ∧ c.ok := by
  obtain ⟨cs, rfl, hsz⟩ := okWide_struct Try.underlying24 hv
  obtain ⟨c0, c1, c2, c3, c4, c5, c6, c7, c8, c9, ca, rfl⟩ := array11 (hsz.trans cells_cpu)
  obtain ⟨fuel, hf⟩ := h
  obtain ⟨c, e, ho⟩ := trod_cpu (by simpa [Value.cells] using hf)
  simp only [List.cons.injEq, and_true] at e
  obtain ⟨rfl, rfl, rfl, rfl, rfl, rfl, rfl, rfl, rfl, rfl, rfl⟩ := e
  exact ⟨c, rfl, ho⟩

theorem open_ins {r : Reach} {b0 : Nat} {v : Value} {d : DataW H} {p : List MemPlace} (hv : Value.okWide Try.prog w r b0 26 v) (h : DataW.Trod enc Try.prog w base spare held 26 v d p) :
    ∃ op a b n : Int, v = S.insV op a b n ∧ (Lit.int .i64 op).wf = true ∧ (Lit.int .i64 a).wf = true ∧ (Lit.int .i64 b).wf = true ∧ (Lit.int .i64 n).wf = true := by
  obtain ⟨v0, v1, v2, v3, y0, y1, y2, y3, n, rfl, -, -, h0, h1, h2, h3⟩ := open_agg4 Try.underlying26 (by kernel_rfl) (by kernel_rfl) hv h
  obtain ⟨a0, e0, -, w0⟩ := DataW.trod_int Try.underlying3 h0
  obtain ⟨a1, e1, -, w1⟩ := DataW.trod_int Try.underlying3 h1
  obtain ⟨a2, e2, -, w2⟩ := DataW.trod_int Try.underlying3 h2
  obtain ⟨a3, e3, -, w3⟩ := DataW.trod_int Try.underlying2 h3
  simp only [List.cons.injEq, and_true] at e0 e1 e2 e3
  subst e0 e1 e2 e3
  exact ⟨a0, a1, a2, a3, rfl, w0, w1, w2, w3⟩

theorem open_req {r : Reach} {b0 : Nat} {v : Value} {d : DataW H} {p : List MemPlace} (hv : Value.okWide Try.prog w r b0 28 v) (h : DataW.Trod enc Try.prog w base spare held 28 v d p) :
    ∃ k a n g : Int, v = S.reqV k a n g := by
  obtain ⟨v0, v1, v2, v3, y0, y1, y2, y3, n, rfl, -, -, h0, h1, h2, h3⟩ := open_agg4 Try.underlying28 (by kernel_rfl) (by kernel_rfl) hv h
  obtain ⟨a0, e0, -, -⟩ := DataW.trod_int Try.underlying3 h0
  obtain ⟨a1, e1, -, -⟩ := DataW.trod_int Try.underlying2 h1
  obtain ⟨a2, e2, -, -⟩ := DataW.trod_int Try.underlying2 h2
  obtain ⟨a3, e3, -, -⟩ := DataW.trod_int Try.underlying3 h3
  simp only [List.cons.injEq, and_true] at e0 e1 e2 e3
  subst e0 e1 e2 e3
  exact ⟨a0, a1, a2, a3, rfl⟩
end
end Go.Proofs.Ytnfkklpionbnoaa

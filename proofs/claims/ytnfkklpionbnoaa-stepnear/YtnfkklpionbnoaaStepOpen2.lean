/- The arguments of StepShifted and StepNear, opened. -/
import Derived.Test.YtnfkklpionbnoaaStepOpen
namespace Go.Proofs.Ytnfkklpionbnoaa
open Go.ChangeShapes Go.WideShapes Go.ChangeAt Go.RowKit Go.Joins

theorem array17 {α : Type} {cs : Array α} (h : cs.size = 17) : ∃ c0 c1 c2 c3 c4 c5 c6 c7 c8 c9 ca cb cc cd ce cf cg, cs = #[c0, c1, c2, c3, c4, c5, c6, c7, c8, c9, ca, cb, cc, cd, ce, cf, cg] := by
  obtain ⟨l⟩ := cs
  match l, h with
  | [c0, c1, c2, c3, c4, c5, c6, c7, c8, c9, ca, cb, cc, cd, ce, cf, cg], _ => exact ⟨c0, c1, c2, c3, c4, c5, c6, c7, c8, c9, ca, cb, cc, cd, ce, cf, cg, rfl⟩
theorem array14 {α : Type} {cs : Array α} (h : cs.size = 14) : ∃ c0 c1 c2 c3 c4 c5 c6 c7 c8 c9 ca cb cc cd, cs = #[c0, c1, c2, c3, c4, c5, c6, c7, c8, c9, ca, cb, cc, cd] := by
  obtain ⟨l⟩ := cs
  match l, h with
  | [c0, c1, c2, c3, c4, c5, c6, c7, c8, c9, ca, cb, cc, cd], _ => exact ⟨c0, c1, c2, c3, c4, c5, c6, c7, c8, c9, ca, cb, cc, cd, rfl⟩

abbrev caseV (c : S.C) (op a b n size d : Int) : Value := .agg #[.int .i64 c.r0, .int .i64 c.r1, .int .i64 c.r2, .int .i64 c.r3, .int .i64 c.r4, .int .i64 c.r5, .int .i64 c.r6, .int .i64 c.r7, .int .i64 c.pc, .int .i64 c.st, .int .i64 c.tr, .int .i64 op, .int .i64 a, .int .i64 b, .int .i64 n, .int .i64 size, .int .i32 d]
abbrev nearV (c : S.C) (m a n : Int) : Value := .agg #[.int .i64 c.r0, .int .i64 c.r1, .int .i64 c.r2, .int .i64 c.r3, .int .i64 c.r4, .int .i64 c.r5, .int .i64 c.r6, .int .i64 c.r7, .int .i64 c.pc, .int .i64 c.st, .int .i64 c.tr, .int .i64 m, .int .i64 a, .int .i8 n]

section
variable {H : Type} {enc : TypeId × Value → H} {w : World} {base : Nat} {spare : Nat → Bool} {held : Bool}
theorem cells_ins : Try.prog.cellsOf 26 = 4 := by kernel_rfl
theorem cells_i32 : Try.prog.cellsOf 21 = 1 := by kernel_rfl
theorem cells_i8 : Try.prog.cellsOf 38 = 1 := by kernel_rfl

theorem open_case {r : Reach} {b0 : Nat} {v : Value} {d : DataW H} {p : List MemPlace} (hv : Value.okWide Try.prog w r b0 36 v) (h : DataW.Trod enc Try.prog w base spare held 36 v d p) :
    ∃ (c : S.C) (op a b n size m : Int), v = caseV c op a b n size m ∧ c.ok ∧ (Lit.int .i64 op).wf = true ∧ (Lit.int .i64 size).wf = true ∧ (Lit.int .i32 m).wf = true := by
  obtain ⟨cs, rfl, hsz⟩ := okWide_struct Try.underlying36 hv
  obtain ⟨c0, c1, c2, c3, c4, c5, c6, c7, c8, c9, ca, cb, cc, cd, ce, cf, cg, rfl⟩ := array17 (hsz.trans (by kernel_rfl))
  obtain ⟨fuel, hf⟩ := h
  obtain ⟨y0, y1, y2, y3, n, -, -, h0, h1, h2, h3⟩ := trod_struct4 Try.underlying36 hf
  simp only [cells_cpu, cells_ins, cells_int, cells_i32, Value.cells, List.drop_zero, List.take_succ_cons, List.take_zero, List.drop_succ_cons] at h0 h1 h2 h3
  obtain ⟨c, e, ho⟩ := trod_cpu h0
  obtain ⟨z0, z1, z2, z3, n', -, -, g0, g1, g2, g3⟩ := trod_struct4 Try.underlying26 h1
  obtain ⟨a0, e0, -, w0⟩ := DataW.trod_int Try.underlying3 g0
  obtain ⟨a1, e1, -, w1⟩ := DataW.trod_int Try.underlying3 g1
  obtain ⟨a2, e2, -, w2⟩ := DataW.trod_int Try.underlying3 g2
  obtain ⟨a3, e3, -, w3⟩ := DataW.trod_int Try.underlying2 g3
  obtain ⟨a4, e4, -, w4⟩ := DataW.trod_int Try.underlying3 h2
  obtain ⟨a5, e5, -, w5⟩ := DataW.trod_int Try.underlying21 h3
  simp [cells_int, cells_i64] at e e0 e1 e2 e3 e4 e5
  obtain ⟨rfl, rfl, rfl, rfl, rfl, rfl, rfl, rfl, rfl, rfl, rfl⟩ := e
  subst e0 e1 e2 e3 e4 e5
  exact ⟨c, a0, a1, a2, a3, a4, a5, rfl, ho, w0, w4, w5⟩

theorem open_near {r : Reach} {b0 : Nat} {v : Value} {d : DataW H} {p : List MemPlace} (hv : Value.okWide Try.prog w r b0 40 v) (h : DataW.Trod enc Try.prog w base spare held 40 v d p) :
    ∃ (c : S.C) (m a n : Int), v = nearV c m a n ∧ c.ok ∧ (Lit.int .i64 m).wf = true ∧ (Lit.int .i8 n).wf = true := by
  obtain ⟨cs, rfl, hsz⟩ := okWide_struct Try.underlying40 hv
  obtain ⟨c0, c1, c2, c3, c4, c5, c6, c7, c8, c9, ca, cb, cc, cd, rfl⟩ := array14 (hsz.trans (by kernel_rfl))
  obtain ⟨fuel, hf⟩ := h
  obtain ⟨y0, y1, y2, y3, n, -, -, h0, h1, h2, h3⟩ := trod_struct4 Try.underlying40 hf
  simp only [cells_cpu, cells_int, cells_i8, Value.cells, List.drop_zero, List.take_succ_cons, List.take_zero, List.drop_succ_cons] at h0 h1 h2 h3
  obtain ⟨c, e, ho⟩ := trod_cpu h0
  obtain ⟨a0, e0, -, w0⟩ := DataW.trod_int Try.underlying3 h1
  obtain ⟨a1, e1, -, w1⟩ := DataW.trod_int Try.underlying3 h2
  obtain ⟨a2, e2, -, w2⟩ := DataW.trod_int Try.underlying38 h3
  simp at e e0 e1 e2
  obtain ⟨rfl, rfl, rfl, rfl, rfl, rfl, rfl, rfl, rfl, rfl, rfl⟩ := e
  subst e0 e1 e2
  exact ⟨c, a0, a1, a2, rfl, ho, w0, w2⟩
end
end Go.Proofs.Ytnfkklpionbnoaa

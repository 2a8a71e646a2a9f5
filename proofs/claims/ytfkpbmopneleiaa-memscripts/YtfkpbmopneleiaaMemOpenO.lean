/- The arguments of MemScripts, opened: calls, one behind the other; and how many there are. -/
import Derived.Test.YtfkpbmopneleiaaMemOpenR
import Derived.Test.YtfkpbmopneleiaaMemTwo
import Derived.Test.YtfkpbmopneleiaaBulk
namespace Go.Proofs.Ytfkpbmopneleiaa
open Go.ChangeShapes Go.WideShapes Go.ChangeAt Go.RowKit Go.Joins

section
variable {H : Type} {enc : TypeId × Value → H} {w : World} {base : Nat} {spare : Nat → Bool} {held : Bool}

theorem cell_op : Try.prog.cellsOf 37 = 3 := by kernel_rfl
theorem cell_in : Try.prog.cellsOf 3 = 1 := by kernel_rfl

set_option maxRecDepth 100000 in
/-- A call's three cells. -/
theorem trod_op {fuel : Nat} {cs : List Value} {x : DataW H × List MemPlace} (h : DataW.trod enc Try.prog w base spare held fuel 37 cs = some x) :
    ∃ (d b n : Int), cs = [.int .i64 d, .int .i64 b, .int .i64 n] ∧ (Lit.int .i64 b).wf = true ∧ (Lit.int .i64 n).wf = true := by
  obtain ⟨y0, y1, y2, n, -, hl, h0, h1, h2⟩ := Deep.trod_struct3 Try.underlying37 h
  rw [cell_op] at hl
  match cs, hl with
  | [u0, u1, u2], _ =>
    simp only [cell_i64, cell_in] at h0 h1 h2
    obtain ⟨d, e0, -, w0⟩ := DataW.trod_int Try.underlying3 h0
    obtain ⟨b, e1, -, w1⟩ := DataW.trod_int Try.underlying2 h1
    obtain ⟨n, e2, -, w2⟩ := DataW.trod_int Try.underlying2 h2
    simp at e0 e1 e2
    subst e0 e1 e2
    exact ⟨d, b, n, rfl, w1, w2⟩

/-- Calls that lie one behind the other. -/
theorem open_ops {fuel : Nat} {v : Value} {x : DataW H × List MemPlace} (hsp : ∀ b, spare b = true) (h : DataW.trod enc Try.prog w base spare held fuel 23 [v] = some x) :
    ∃ a len cap os, v = .slice a len cap ∧ OpsV w a len os := by
  rcases Deep.open_slice Try.underlying23 h with ⟨hcs, -⟩ | ⟨a, len, cap, m, n, D, Pl, hcs, -, hl, hm, hmm, -, hx⟩
  · simp at hcs
    subst hcs
    exact ⟨none, 0, 0, [], rfl, ⟨rfl, .inl rfl⟩⟩
  · simp at hcs
    subst hcs
    rw [hsp, if_pos rfl] at hmm
    subst hmm
    refine ⟨some a, len, m, List.replicate len (0, 0, 0), rfl, ⟨by simp, ?_⟩⟩
    by_cases h0 : len = 0
    · exact .inl h0
    · have c0 : ∀ i, i < len → ∃ d b n, w.cell? (a.add (i * 3)) = some (.int .i64 d) ∧ w.cell? ((a.add (i * 3)).add 1) = some (.int .i64 b) ∧ w.cell? ((a.add (i * 3)).add 2) = some (.int .i64 n) ∧ (Lit.int .i64 b).wf = true ∧ (Lit.int .i64 n).wf = true := fun i hi => by
        obtain ⟨cs', h1, h2⟩ := hx i (by omega)
        rw [cell_op] at h1
        obtain ⟨d, b, n, rfl, w1, w2⟩ := trod_op h2
        obtain ⟨-, -, hx⟩ := World.cells?_some h1
        refine ⟨d, b, n, ?_, ?_, ?_, w1, w2⟩
        · have := hx 0 (by decide); rw [Addr.add_add] at this; simpa using this
        · have := hx 1 (by decide); simpa using this
        · have := hx 2 (by decide); simpa using this
      obtain ⟨b, off, spot⟩ := a
      have hspot : spot = none := by
        obtain ⟨_, _, _, h, -⟩ := c0 0 (by omega)
        simpa [Addr.add] using World.cell?_spot h
      subst hspot
      refine .inr ⟨b, off, rfl, fun i hi => ?_⟩
      obtain ⟨d, x, n, k0, k1, k2, w1, w2⟩ := c0 i hi
      simp only [Addr.add_lit] at k0 k1 k2
      exact ⟨d, x, n, k0, k1, k2, w1, w2⟩

/-- How many elements a slice has, by the bound. -/
theorem slice_bulk {fuel : Nat} {t e : TypeId} (ht : Try.prog.underlying t = some (.slice e)) {a : Option Addr} {len cap : Nat} {x : DataW H × List MemPlace} (h : DataW.trod enc Try.prog w base spare held fuel t [.slice a len cap] = some x) : len ≤ Rows.uptoBulk x.1 := by
  rcases Deep.open_slice ht h with ⟨hcs, rfl⟩ | ⟨a', len', cap', m, n, D, Pl, hcs, -, -, -, -, rfl, -⟩
  · simp at hcs; omega
  · simp at hcs
    obtain ⟨-, rfl, -⟩ := hcs
    have := bulks.slice_le ((List.range len).map D) ((List.range (m - len)).map fun j => D (len + j))
    simp only [List.length_map, List.length_range] at this
    show len ≤ Rows.uptoBulk (DataW.slice _ _)
    omega
end
end Go.Proofs.Ytfkpbmopneleiaa

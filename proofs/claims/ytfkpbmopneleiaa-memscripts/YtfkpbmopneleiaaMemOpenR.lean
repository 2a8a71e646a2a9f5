/- The arguments of layer 2's statements, opened: regions. -/
import Derived.Test.YtfkpbmopneleiaaMemOpen
import Derived.Test.YtfkpbmopneleiaaMemMay
import Derived.Deep.Slices
import Derived.Deep.Strs
namespace Go.Proofs.Ytfkpbmopneleiaa
open Go.ChangeShapes Go.WideShapes Go.ChangeAt Go.RowKit Go.Joins

section
variable {H : Type} {enc : TypeId × Value → H} {w : World} {base : Nat} {spare : Nat → Bool} {held : Bool}

theorem cell_reg : Try.prog.cellsOf 26 = 3 := by kernel_rfl
theorem cell_sl : Try.prog.cellsOf 24 = 1 := by kernel_rfl
theorem cell_bo : Try.prog.cellsOf 4 = 1 := by kernel_rfl

set_option maxRecDepth 100000 in
/-- A region's three cells. -/
theorem trod_reg {fuel : Nat} {cs : List Value} {x : DataW H × List MemPlace} (hsp : ∀ b, spare b = true) (h : DataW.trod enc Try.prog w base spare held fuel 26 cs = some x) :
    ∃ (b : Int) (a : Option Addr) (l c : Nat) (zs : List Int) (wr : Bool), cs = [.int .i64 b, .slice a l c, .bool wr] ∧ (Lit.int .i64 b).wf = true ∧ View w a l c zs := by
  obtain ⟨y0, y1, y2, n, -, hl, h0, h1, h2⟩ := Deep.trod_struct3 Try.underlying26 h
  rw [cell_reg] at hl
  match cs, hl with
  | [u0, u1, u2], _ =>
    simp only [cell_i64, cell_sl, cell_bo] at h0 h1 h2
    obtain ⟨b, e0, -, w0⟩ := DataW.trod_int Try.underlying2 h0
    obtain ⟨a, l, c, zs, e1, V⟩ := open_view hsp (v := u1) (by simpa using h1)
    obtain ⟨wr, e2, -⟩ := DataW.trod_bool Try.underlying4 h2
    simp at e0 e2
    subst e0 e1 e2
    exact ⟨b, a, l, c, zs, wr, rfl, w0, V⟩

/-- Regions that lie one behind the other, as they are read. -/
theorem open_regs {fuel : Nat} {v : Value} {x : DataW H × List MemPlace} (hsp : ∀ b, spare b = true) (h : DataW.trod enc Try.prog w base spare held fuel 22 [v] = some x) :
    ∃ a len cap rs, v = .slice a len cap ∧ RegsV w a len cap rs ∧ (∀ r ∈ rs, ∀ n ∈ r.words, (Lit.int .i64 n).wf = true) := by
  rcases Deep.open_slice Try.underlying22 h with ⟨hcs, -⟩ | ⟨a, len, cap, m, n, D, Pl, hcs, -, hl, hm, hmm, -, hx⟩
  · simp at hcs
    subst hcs
    exact ⟨none, 0, 0, [], rfl, ⟨rfl, Nat.le_refl _, by decide, by simp, .inl rfl⟩, by simp⟩
  · simp at hcs
    subst hcs
    rw [hsp, if_pos rfl] at hmm
    subst hmm
    have hel : ∀ i, i < len → ∃ (r : Reg) (a1 : Option Addr) (l1 c1 : Nat), w.cells? base (a.add (i * 3)) 3 = some [.int .i64 r.base, .slice a1 l1 c1, .bool r.write] ∧ (Lit.int .i64 r.base).wf = true ∧ View w a1 l1 c1 r.words := by
      intro i hi
      obtain ⟨cs', h1, h2⟩ := hx i (by omega)
      rw [cell_reg] at h1
      obtain ⟨b, a1, l1, c1, zs, wr, rfl, wb, V⟩ := trod_reg hsp h2
      exact ⟨⟨b, zs, wr⟩, a1, l1, c1, h1, wb, V⟩
    have hf : ∃ f : Nat → Reg, ∀ i, i < len → ∃ (a1 : Option Addr) (l1 c1 : Nat), w.cells? base (a.add (i * 3)) 3 = some [.int .i64 (f i).base, .slice a1 l1 c1, .bool (f i).write] ∧ (Lit.int .i64 (f i).base).wf = true ∧ View w a1 l1 c1 (f i).words :=
      ⟨fun i => if h : i < len then Classical.choose (hel i h) else noReg, fun i hi => by
        have := Classical.choose_spec (hel i hi)
        simp only [dif_pos hi]
        exact this⟩
    obtain ⟨f, hf⟩ := hf
    have hget : ∀ i, i < len → ((List.range len).map f).getD i noReg = f i := fun i hi => by simp [List.getD, hi]
    refine ⟨some a, len, m, (List.range len).map f, rfl, ⟨by simp, hl, by unfold maxLen at hm; omega, ?_, ?_⟩, ?_⟩
    · intro r hr
      obtain ⟨i, hi, rfl⟩ := List.mem_map.1 hr
      exact (hf i (by simpa using hi)).choose_spec.choose_spec.choose_spec.2.1
    · by_cases h0 : len = 0
      · exact .inl h0
      · have c0 : ∀ i, i < len → ∃ (a1 : Option Addr) (l1 c1 : Nat), w.cell? (a.add (i * 3)) = some (.int .i64 (f i).base) ∧ w.cell? ((a.add (i * 3)).add 1) = some (.slice a1 l1 c1) ∧ w.cell? ((a.add (i * 3)).add 2) = some (.bool (f i).write) ∧ View w a1 l1 c1 (f i).words := fun i hi => by
          obtain ⟨a1, l1, c1, hc, -, V⟩ := hf i hi
          obtain ⟨-, -, hx⟩ := World.cells?_some hc
          refine ⟨a1, l1, c1, ?_, ?_, ?_, V⟩
          · have := hx 0 (by decide); rw [Addr.add_add] at this; simpa using this
          · have := hx 1 (by decide); simpa using this
          · have := hx 2 (by decide); simpa using this
        obtain ⟨b, off, spot⟩ := a
        have hspot : spot = none := by
          obtain ⟨_, _, _, h, -⟩ := c0 0 (by omega)
          simpa [Addr.add] using World.cell?_spot h
        subst hspot
        refine .inr ⟨b, off, rfl, fun i hi => ?_⟩
        rw [hget i hi]
        obtain ⟨a1, l1, c1, k0, k1, k2, V⟩ := c0 i hi
        simp only [Addr.add_lit] at k0 k1 k2
        exact ⟨a1, l1, c1, k0, k1, k2, V⟩
    · intro r hr n hn
      obtain ⟨i, hi, rfl⟩ := List.mem_map.1 hr
      exact (hf i (by simpa using hi)).choose_spec.choose_spec.choose_spec.2.2.fits n hn
end
end Go.Proofs.Ytfkpbmopneleiaa

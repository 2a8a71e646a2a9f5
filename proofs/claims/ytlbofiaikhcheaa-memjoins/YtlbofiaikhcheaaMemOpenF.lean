/- The arguments of layer 2's statements, opened: a list of footprints. -/
import Derived.Test.YtlbofiaikhcheaaMemOpenR
import Derived.Test.YtlbofiaikhcheaaMemJoin
namespace Go.Proofs.Ytlbofiaikhcheaa
open Go.ChangeShapes Go.WideShapes Go.ChangeAt Go.RowKit Go.Joins

section
variable {H : Type} {enc : TypeId × Value → H} {w : World} {base : Nat} {spare : Nat → Bool} {held : Bool}

theorem cell_ft : Try.prog.cellsOf 40 = 2 := by kernel_rfl

set_option maxRecDepth 100000 in
/-- A footprint's two cells. -/
theorem trod_ft {fuel : Nat} {cs : List Value} {x : DataW H × List MemPlace} (hsp : ∀ b, spare b = true) (h : DataW.trod enc Try.prog w base spare held fuel 40 cs = some x) :
    ∃ (a1 : Option Addr) (l1 c1 : Nat) (r1 : List Int) (a2 : Option Addr) (l2 c2 : Nat) (r2 : List Int), cs = [.slice a1 l1 c1, .slice a2 l2 c2] ∧ View w a1 l1 c1 r1 ∧ View w a2 l2 c2 r2 := by
  obtain ⟨y0, y1, n, -, hl, h0, h1⟩ := trod_struct2 Try.underlying40 h
  rw [cell_ft] at hl
  match cs, hl with
  | [u0, u1], _ =>
    simp only [cell_sl] at h0 h1
    obtain ⟨a1, l1, c1, r1, e1, V1⟩ := open_view hsp (v := u0) (by simpa using h0)
    obtain ⟨a2, l2, c2, r2, e2, V2⟩ := open_view hsp (v := u1) (by simpa using h1)
    subst e1 e2
    exact ⟨a1, l1, c1, r1, a2, l2, c2, r2, rfl, V1, V2⟩

/-- Footprints that lie one behind the other, as they are read. -/
theorem open_foots {fuel : Nat} {v : Value} {x : DataW H × List MemPlace} (hsp : ∀ b, spare b = true) (h : DataW.trod enc Try.prog w base spare held fuel 51 [v] = some x) :
    ∃ a len cap fs, v = .slice a len cap ∧ FootsV w a len fs ∧ len ≤ cap ∧ cap ≤ 9223372036854775807 := by
  rcases Deep.open_slice Try.underlying51 h with ⟨hcs, -⟩ | ⟨a, len, cap, m, n, D, Pl, hcs, -, hl, hm, hmm, -, hx⟩
  · simp at hcs
    subst hcs
    exact ⟨none, 0, 0, [], rfl, ⟨rfl, .inl rfl⟩, Nat.le_refl _, by decide⟩
  · simp at hcs
    subst hcs
    rw [hsp, if_pos rfl] at hmm
    subst hmm
    have hel : ∀ i, i < len → ∃ (r : List Int × List Int) (a1 : Option Addr) (l1 c1 : Nat) (a2 : Option Addr) (l2 c2 : Nat), w.cells? base (a.add (i * 2)) 2 = some [.slice a1 l1 c1, .slice a2 l2 c2] ∧ View w a1 l1 c1 r.1 ∧ View w a2 l2 c2 r.2 := by
      intro i hi
      obtain ⟨cs', h1, h2⟩ := hx i (by omega)
      rw [cell_ft] at h1
      obtain ⟨a1, l1, c1, r1, a2, l2, c2, r2, rfl, V1, V2⟩ := trod_ft hsp h2
      exact ⟨(r1, r2), a1, l1, c1, a2, l2, c2, h1, V1, V2⟩
    have hf : ∃ f : Nat → List Int × List Int, ∀ i, i < len → ∃ (a1 : Option Addr) (l1 c1 : Nat) (a2 : Option Addr) (l2 c2 : Nat), w.cells? base (a.add (i * 2)) 2 = some [.slice a1 l1 c1, .slice a2 l2 c2] ∧ View w a1 l1 c1 (f i).1 ∧ View w a2 l2 c2 (f i).2 :=
      ⟨fun i => if h : i < len then Classical.choose (hel i h) else ([], []), fun i hi => by
        have := Classical.choose_spec (hel i hi)
        simp only [dif_pos hi]
        exact this⟩
    obtain ⟨f, hf⟩ := hf
    have hget : ∀ i, i < len → ((List.range len).map f).getD i ([], []) = f i := fun i hi => by simp [List.getD, hi]
    refine ⟨some a, len, m, (List.range len).map f, rfl, ⟨by simp, ?_⟩, hl, by unfold maxLen at hm; omega⟩
    by_cases h0 : len = 0
    · exact .inl h0
    · have c0 : ∀ i, i < len → ∃ (a1 : Option Addr) (l1 c1 : Nat) (a2 : Option Addr) (l2 c2 : Nat), w.cell? (a.add (i * 2)) = some (.slice a1 l1 c1) ∧ w.cell? ((a.add (i * 2)).add 1) = some (.slice a2 l2 c2) ∧ View w a1 l1 c1 (f i).1 ∧ View w a2 l2 c2 (f i).2 := fun i hi => by
        obtain ⟨a1, l1, c1, a2, l2, c2, hc, V1, V2⟩ := hf i hi
        obtain ⟨-, -, hx⟩ := World.cells?_some hc
        refine ⟨a1, l1, c1, a2, l2, c2, ?_, ?_, V1, V2⟩
        · have := hx 0 (by decide); rw [Addr.add_add] at this; simpa using this
        · have := hx 1 (by decide); simpa using this
      obtain ⟨b, off, spot⟩ := a
      have hspot : spot = none := by
        obtain ⟨_, _, _, _, _, _, h, -⟩ := c0 0 (by omega)
        simpa [Addr.add] using World.cell?_spot h
      subst hspot
      refine .inr ⟨b, off, rfl, fun i hi => ?_⟩
      rw [hget i hi]
      obtain ⟨a1, l1, c1, a2, l2, c2, k0, k1, V1, V2⟩ := c0 i hi
      simp only [Addr.add_lit] at k0 k1
      exact ⟨a1, l1, c1, a2, l2, c2, k0, k1, V1, V2⟩
end
end Go.Proofs.Ytlbofiaikhcheaa

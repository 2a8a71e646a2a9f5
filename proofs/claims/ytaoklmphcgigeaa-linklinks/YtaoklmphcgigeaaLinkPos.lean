/- Where symbols come to stand. -/
import Derived.Test.YtaoklmphcgigeaaLinkFill
namespace Go.Proofs.Ytaoklmphcgigeaa
open Go.RowKit
set_option linter.unusedVariables false
set_option linter.unusedSimpArgs false

theorem grow_monoD : ∀ (l : List ObjD) (z : L.Sz), z.d ≤ (l.foldl L.grow z).d
  | [], z => Nat.le_refl _
  | o :: l, z => Nat.le_trans (Nat.le_add_right _ _) (grow_monoD l (L.grow z o))
theorem syms_pos : ∀ (l : List ObjD) (z : L.Sz), (∀ o ∈ l, o.may = true) → ∀ s ∈ L.symsFrom z l, 0 ≤ s.pos ∧ s.pos ≤ 65536 + ((l.foldl L.grow z).b : Int) + (l.foldl L.grow z).d
  | [], z, _, s, hs => by simp [L.symsFrom] at hs
  | o :: l, z, hm, s, hs => by
    simp only [L.symsFrom, List.mem_append, List.mem_map] at hs
    rcases hs with ⟨y, hy, rfl⟩ | hs
    · have h1 := (may_sizes (hm o (List.mem_cons_self ..))).2.2.2.2 y hy
      have h2 := grow_mono l (L.grow z o)
      have h3 := grow_monoD l (L.grow z o)
      have g1 : (L.grow z o).b = z.b + o.code.size := rfl
      have g2 : (L.grow z o).d = z.d + o.data.length := rfl
      simp only [List.foldl_cons, L.moved]
      split <;> omega
    · simpa using syms_pos l (L.grow z o) (fun q hq => hm q (List.mem_cons_of_mem _ hq)) s hs
theorem look_pos {os : List ObjD} (hm : ∀ o ∈ os, o.may = true) (hn : os.length ≤ 16) (nm : ByteArray) : 0 ≤ ((L.look (L.syms os) nm).getD noSym).pos ∧ ((L.look (L.syms os) nm).getD noSym).pos ≤ 4294967296 := by
  cases e : L.look (L.syms os) nm with
  | none => exact ⟨by simp [noSym], by simp [noSym]⟩
  | some s =>
    have hs : s ∈ L.symsFrom L.zero os := List.mem_of_find?_eq_some e
    have h1 := syms_pos os L.zero hm s hs
    have h2 := sizes_le os L.zero hm
    have z1 : L.zero.b = 0 := rfl
    have z2 : L.zero.d = 0 := rfl
    simp only [Option.getD_some]
    omega
end Go.Proofs.Ytaoklmphcgigeaa

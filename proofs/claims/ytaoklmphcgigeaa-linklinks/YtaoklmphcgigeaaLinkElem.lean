/- The map of names, as it lies. -/
import Derived.Test.YtaoklmphcgigeaaLinkGrow
import Derived.Maps.OwnSet
import Derived.StringKeys
namespace Go.Proofs.Ytaoklmphcgigeaa
open Go.RowKit Go.Maps
set_option linter.unusedVariables false
set_option linter.unusedSimpArgs false

theorem lawStr : Keyed Try.prog 9 := string_keyed Try.underlying9
/-- A symbol's value. -/
def symV (s : Sym) : Value := .agg #[.string s.name, .int .i64 s.kind, .int .i64 s.pos]
/-- How a symbol reads. -/
def symElem (v : Value) : Option (DataW Unit × List MemPlace) := match v with
  | .agg xs => match xs.toList with
    | [.string nm, .int .i64 k, .int .i64 p] => some (L.symD ⟨nm, k, p⟩, [])
    | _ => none
  | _ => none
theorem symElem_mk (s : Sym) : symElem (symV s) = some (L.symD s, []) := rfl
theorem symD_inj {s u : Sym} (h : L.symD s = L.symD u) : s = u := by
  cases s; cases u
  simp only [L.symD, DataW.agg.injEq, List.cons.injEq, DataW.lit.injEq, Lit.string.injEq, Lit.int.injEq, true_and, and_true] at h
  obtain ⟨h1, h2, h3⟩ := h
  have := bytes_ext h1
  simp_all
theorem symElem_inv {v : Value} {s : Sym} {ps : List MemPlace} (h : symElem v = some (L.symD s, ps)) : v = symV s := by
  unfold symElem at h
  split at h
  · rename_i xs
    split at h
    · rename_i nm k p hx
      simp only [Option.some.injEq, Prod.mk.injEq] at h
      obtain rfl := symD_inj h.1
      unfold symV
      rw [show xs = #[.string nm, .int .i64 k, .int .i64 p] from by rw [← hx]]
    · cases h
  · cases h
/-- Block b is the map of these symbols by their names. -/
structure NM (w : World) (b : Nat) (ss : List Sym) : Prop where
  own : w.ownsMap Try.prog 9 symElem b ss.length (L.mapD ss)
  uniq : L.twice ss = false
theorem zeroSymV (w : World) : (zeroValue 36).run Try.prog w = .ok (symV noSym) w := by kernel_rfl
theorem keyStr {nm : ByteArray} (h : nm.size ≤ maxLen) : keyOf Try.prog 9 (.string nm) = some (L.key nm) := Go.WideMaps.keyOf_string_mk Try.underlying9 h
theorem NM.has {w : World} {b : Nat} {ss : List Sym} (h : NM w b ss) (nm : ByteArray) : has (L.mapD ss) (L.key nm) = (L.look ss nm).isSome := by
  have m := L.mapD_look _ ss rfl h.2 nm
  cases e : L.look ss nm with
  | none => exact m.1 e
  | some s => exact (m.2 s e).1
theorem NM.at {w : World} {b : Nat} {ss : List Sym} (h : NM w b ss) (nm : ByteArray) : (L.mapD ss).atKey (L.key nm) (L.symD noSym) = L.symD ((L.look ss nm).getD noSym) := by
  have m := L.mapD_look _ ss rfl h.2 nm
  cases e : L.look ss nm with
  | none => exact atKey_of_not_has (m.1 e) _
  | some s => exact (m.2 s e).2 _
theorem NM.look {w : World} {b : Nat} {ss : List Sym} (h : NM w b ss) (nm : ByteArray) (hs : nm.size ≤ maxLen) :
    (Instr.lookup 52 (.map (some b)) (.string nm) true).run Try.prog w = .ok (.tuple #[symV ((L.look ss nm).getD noSym), .bool (L.look ss nm).isSome]) w := by
  obtain ⟨v, ps, hr, hv⟩ := h.1.look_ok lawStr Try.underlying52 (zeroSymV w) (symElem_mk noSym) (keyStr hs)
  rw [h.at nm] at hv
  rw [hr, h.has nm, symElem_inv hv]
theorem NM.look1 {w : World} {b : Nat} {ss : List Sym} (h : NM w b ss) (nm : ByteArray) (hs : nm.size ≤ maxLen) :
    (Instr.lookup 52 (.map (some b)) (.string nm) false).run Try.prog w = .ok (symV ((L.look ss nm).getD noSym)) w := by
  obtain ⟨v, ps, hr, hv⟩ := h.1.lookup lawStr Try.underlying52 (zeroSymV w) (symElem_mk noSym) (keyStr hs)
  rw [h.at nm] at hv
  rw [hr, symElem_inv hv]
theorem NM.kept {w w' : World} {b : Nat} {ss : List Sym} {row : Option Nat} (h : NM w b ss) (hg : w.grownBy w' row) (hne : some b ≠ row) : NM w' b ss := ⟨h.1.kept hg hne, h.2⟩
theorem NM.lt {w : World} {b : Nat} {ss : List Sym} (h : NM w b ss) : b < w.heap.size := h.1.lt
theorem NM.below {w w' : World} {b : Nat} {ss : List Sym} (h : NM w b ss) (hb : Below w.heap.size w w') : NM w' b ss := h.kept (gb_of_below hb none) (by simp)
theorem NM.store {w : World} {b : Nat} {ss : List Sym} (h : NM w b ss) (u : Sym) (hs : u.name.size ≤ maxLen) (hn : ss.length < maxLen) (hno : L.look ss u.name = none) :
    ∃ w', (Instr.mapUpdate 52 (.map (some b)) (.string u.name) (symV u)).run Try.prog w = .ok () w' ∧ NM w' b (ss ++ [u]) ∧ w.grownBy w' (some b) := by
  obtain ⟨w', hr, ho, hg⟩ := h.1.update lawStr Try.underlying52 hn (keyStr hs) (symElem_mk u)
  refine ⟨w', hr, ⟨?_, ?_⟩, hg⟩
  · rw [L.mapD_snoc, List.length_append]
    exact ho
  · rw [L.twice_snoc, h.2, hno]
    rfl
end Go.Proofs.Ytaoklmphcgigeaa

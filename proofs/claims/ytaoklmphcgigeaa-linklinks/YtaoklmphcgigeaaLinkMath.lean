/- What linking comes to, as plain functions of objects. -/
import Derived.Test.YtaoklmphcgigeaaObjMath
namespace Go.Proofs.Ytaoklmphcgigeaa
open Go.RowKit Go.Maps
set_option linter.unusedVariables false

namespace L
/-- How much there is of all that has a limit. -/
structure Sz where
  b : Nat
  d : Nat
  s : Nat
  t : Nat
def zero : Sz := ⟨0, 0, 0, 0⟩
def thr (ss : List Sym) : Nat := (ss.filter fun s => decide (s.kind = 3)).length
def grow (z : Sz) (o : ObjD) : Sz := ⟨z.b + o.code.size, z.d + o.data.length, z.s + o.syms.length, z.t + thr o.syms⟩
def sizes (l : List ObjD) : Sz := l.foldl grow zero
/-- A symbol as it is in the whole. -/
def moved (z : Sz) (s : Sym) : Sym := ⟨s.name, s.kind, if s.kind = 2 then s.pos + z.d else s.pos + z.b⟩
def symsFrom : Sz → List ObjD → List Sym
  | _, [] => []
  | z, o :: l => o.syms.map (moved z) ++ symsFrom (grow z o) l
def syms (l : List ObjD) : List Sym := symsFrom zero l
def look (ss : List Sym) (nm : ByteArray) : Option Sym := ss.find? fun s => decide (s.name = nm)
/-- Has a name been given twice? -/
def twice : List Sym → Bool
  | [] => false
  | s :: ss => ss.any (fun u => decide (u.name = s.name)) || twice ss
def askOne (ss : List Sym) (r : Rel) : Int := match look ss r.name with
  | none => 6
  | some s => if decide (r.kind = 2) = decide (s.kind = 2) then 0 else 3
def ask (ss : List Sym) : List Rel → Int
  | [] => 0
  | r :: rs => if askOne ss r = 0 then ask ss rs else askOne ss r
def rels (l : List ObjD) : List Rel := l.flatMap (·.rels)
def fit (z : Sz) : Bool := (decide (z.b ≤ 65536) && decide (z.d ≤ 4096) && decide (z.s ≤ 1000)) && (decide (1 ≤ z.t) && decide (z.t ≤ 4))
/-- What a place is filled with. -/
def value (ss : List Sym) (z : Sz) (r : Rel) : Int := if r.kind = 1 then ((look ss r.name).getD noSym).pos - (z.b + r.pos + 4) else 1048576 + 8 * ((look ss r.name).getD noSym).pos + r.add
def valueOk (ss : List Sym) (z : Sz) (r : Rel) : Bool := if r.kind = 1 then true else decide (0 ≤ value ss z r) && decide (value ss z r ≤ 2147483647)

theorem sizes_snoc (l : List ObjD) (o : ObjD) : sizes (l ++ [o]) = grow (sizes l) o := by simp [sizes, List.foldl_append]
theorem symsFrom_append : ∀ (z : Sz) (l m : List ObjD), symsFrom z (l ++ m) = symsFrom z l ++ symsFrom (l.foldl grow z) m
  | z, [], m => rfl
  | z, o :: l, m => by
    show o.syms.map (moved z) ++ symsFrom (grow z o) (l ++ m) = _
    rw [symsFrom_append (grow z o) l m, ← List.append_assoc]
    rfl
theorem syms_snoc (l : List ObjD) (o : ObjD) : syms (l ++ [o]) = syms l ++ o.syms.map (moved (sizes l)) := by
  unfold syms sizes
  rw [symsFrom_append]
  simp [symsFrom]
theorem twice_append (l m : List Sym) : twice (l ++ m) = (twice l || twice m || l.any fun s => m.any fun u => decide (u.name = s.name)) := by
  induction l with
  | nil => simp [twice]
  | cons s l ih =>
    simp only [List.cons_append, twice, List.any_append, ih, List.any_cons]
    cases l.any (fun u => decide (u.name = s.name)) <;> cases m.any (fun u => decide (u.name = s.name)) <;> cases twice l <;> cases twice m <;> simp
theorem twice_snoc (l : List Sym) (u : Sym) : twice (l ++ [u]) = (twice l || (look l u.name).isSome) := by
  rw [twice_append]
  have h : (look l u.name).isSome = l.any (fun s => [u].any fun v => decide (v.name = s.name)) := by
    unfold look
    rw [Bool.eq_iff_iff, List.find?_isSome, List.any_eq_true]
    constructor
    · rintro ⟨x, hx, h⟩
      exact ⟨x, hx, by simpa using (by simpa using h : x.name = u.name).symm⟩
    · rintro ⟨x, hx, h⟩
      exact ⟨x, hx, by simpa using (by simpa using h : u.name = x.name).symm⟩
  rw [h]
  simp [twice]
theorem look_snoc (l : List Sym) (u : Sym) (nm : ByteArray) (h : look l u.name = none) : look (l ++ [u]) nm = if nm = u.name then some u else look l nm := by
  unfold look at *
  rw [List.find?_append]
  by_cases e : nm = u.name
  · subst e
    rw [h, if_pos rfl]
    simp
  · rw [if_neg e]
    have : ¬ u.name = nm := fun e' => e e'.symm
    simp [this]

/-! ### The map of names -/
def symD (s : Sym) : DataW Unit := .agg [.lit (.string s.name.data.toList), .lit (.int .i64 s.kind), .lit (.int .i64 s.pos)]
def key (nm : ByteArray) : Lit := .string nm.data.toList
def mapD (ss : List Sym) : DataW Unit := ss.foldl (fun D s => D.put (key s.name) (symD s)) (.map [])
theorem mapD_snoc (l : List Sym) (u : Sym) : mapD (l ++ [u]) = (mapD l).put (key u.name) (symD u) := by simp [mapD, List.foldl_append]
theorem mapD_isMap (l : List Sym) : IsMap (mapD l) := by
  unfold mapD
  suffices h : ∀ (l : List Sym) (D : DataW Unit), IsMap D → IsMap (l.foldl (fun D s => D.put (key s.name) (symD s)) D) from h l _ ⟨[], rfl⟩
  intro l
  induction l with
  | nil => exact fun D h => h
  | cons s l ih => exact fun D h => ih _ (h.put _ _)
theorem key_inj {a b : ByteArray} (h : key a = key b) : a = b := by
  unfold key at h
  injection h with h
  exact bytes_ext h
theorem key_lit (nm : ByteArray) : WideAt.IsKeyLit (key nm) := by
  unfold key
  trivial
theorem look_none_snoc {l : List Sym} {u : Sym} {nm : ByteArray} (h : look (l ++ [u]) nm = none) : look l nm = none ∧ nm ≠ u.name := by
  unfold look at *
  rw [List.find?_append] at h
  cases e : l.find? (fun s => decide (s.name = nm)) with
  | some v => rw [e] at h; simp at h
  | none =>
    rw [e] at h
    refine ⟨rfl, fun e' => ?_⟩
    subst e'
    simp at h
theorem mapD_look : ∀ (n : Nat) (l : List Sym), l.length = n → twice l = false → ∀ nm : ByteArray, (look l nm = none → has (mapD l) (key nm) = false) ∧ ∀ s, look l nm = some s → has (mapD l) (key nm) = true ∧ ∀ zd, (mapD l).atKey (key nm) zd = symD s
  | 0, l, hl, _, nm => by
    obtain rfl : l = [] := List.eq_nil_of_length_eq_zero hl
    refine ⟨fun _ => rfl, fun s h => ?_⟩
    simp [look] at h
  | n + 1, l, hl, ht, nm => by
    obtain ⟨m, u, rfl⟩ : ∃ m u, l = m ++ [u] := ⟨l.dropLast, l.getLast (by intro e; rw [e] at hl; simp at hl), (List.dropLast_concat_getLast _).symm⟩
    have hm : m.length = n := by simpa using hl
    rw [twice_snoc] at ht
    simp only [Bool.or_eq_false_iff] at ht
    have hno : look m u.name = none := by
      cases e : look m u.name with
      | none => rfl
      | some v => rw [e] at ht; simp at ht
    have ih := mapD_look n m hm ht.1 nm
    rw [look_snoc m u nm hno, mapD_snoc]
    by_cases e : nm = u.name
    · subst e
      rw [if_pos rfl]
      refine ⟨(fun h => by cases h), fun s h => ?_⟩
      cases h
      exact ⟨has_put_same (mapD_isMap m) (key_lit _) _, fun zd => atKey_put_same (mapD_isMap m) (key_lit _) _ _⟩
    · rw [if_neg e]
      have hk : key nm ≠ key u.name := fun e' => e (key_inj e')
      refine ⟨fun h => ?_, fun s h => ?_⟩
      · rw [has_put_other hk]; exact ih.1 h
      · obtain ⟨h1, h2⟩ := ih.2 s h
        exact ⟨by rw [has_put_other hk]; exact h1, fun zd => by rw [atKey_put_other hk]; exact h2 zd⟩
end L
end Go.Proofs.Ytaoklmphcgigeaa

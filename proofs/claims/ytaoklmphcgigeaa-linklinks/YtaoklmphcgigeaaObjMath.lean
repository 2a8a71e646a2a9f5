/- Objects: what may be, no program in sight; and how an object lies. -/
import Derived.Test.YtaoklmphcgigeaaProg
import Derived.WalkKit
import Derived.WalkSpells
import Derived.WalkLawsBesides
import Derived.Maps.OwnSet
import Derived.Maps.Keyed
import Derived.OpenShut
namespace Go.Proofs.Ytaoklmphcgigeaa
open Go.RowKit Go.Maps

structure Sym where
  name : ByteArray
  kind : Int
  pos : Int
structure Rel where
  pos : Int
  kind : Int
  name : ByteArray
  add : Int
def noSym : Sym := ⟨.empty, 0, 0⟩
def noRel : Rel := ⟨0, 0, .empty, 0⟩
/-- An object. -/
structure ObjD where
  code : ByteArray
  data : List Int
  syms : List Sym
  rels : List Rel

def nameOk (s : ByteArray) : Bool := decide (1 ≤ s.size) && decide (s.size ≤ 28)
def roomOf (cl dl : Nat) (k : Int) : Int := if k = 1 ∨ k = 3 then cl else if k = 2 then dl else 0
def addOk (k n : Int) : Bool := if k = 1 then decide (n = 0) else if k = 2 then decide (-2147483648 ≤ n) && decide (n ≤ 2147483647) else false
def symOk (cl dl : Nat) (s : Sym) : Bool := nameOk s.name && (decide (0 ≤ s.pos) && decide (s.pos < roomOf cl dl s.kind))
def symAt (cl dl : Nat) (ss : List Sym) (i : Nat) : Bool := (List.range i).all (fun j => decide ((ss.getD j noSym).name ≠ (ss.getD i noSym).name)) && symOk cl dl (ss.getD i noSym)
def symsOk (cl dl : Nat) (ss : List Sym) : Bool := decide (ss.length ≤ 1000) && (List.range ss.length).all (symAt cl dl ss)
def freeAt (rs : List Rel) (i : Nat) : Int := if i = 0 then 0 else (rs.getD (i - 1) noRel).pos + 4
def relOk (cl : Nat) (free : Int) (r : Rel) : Bool := (decide (free ≤ r.pos) && decide (r.pos ≤ (cl : Int) - 4)) && (nameOk r.name && addOk r.kind r.add)
def relsOk (cl : Nat) (rs : List Rel) : Bool := decide (rs.length ≤ 8000) && (List.range rs.length).all fun i => relOk cl (freeAt rs i) (rs.getD i noRel)
def ObjD.may (o : ObjD) : Bool := (decide (o.code.size ≤ 65536) && decide (o.data.length ≤ 4096)) && (symsOk o.code.size o.data.length o.syms && relsOk o.code.size o.rels)

theorem all_range_no {n i : Nat} {f : Nat → Bool} (hi : i < n) (h : f i = false) : (List.range n).all f = false := by
  rw [← Bool.not_eq_true, List.all_eq_true]
  intro h'
  have := h' i (List.mem_range.2 hi)
  rw [h] at this
  cases this
theorem all_range_yes {n : Nat} {f : Nat → Bool} (h : ∀ i, i < n → f i = true) : (List.range n).all f = true := by
  rw [List.all_eq_true]
  intro i hi
  exact h i (List.mem_range.1 hi)

/-- Lists as they lie. -/
structure IntsV (w : World) (a : Option Addr) (len cap : Nat) (zs : List Int) : Prop where
  count : zs.length = len
  fits : ∀ n ∈ zs, (Lit.int .i64 n).wf = true
  nilOf : a = none → len = 0 ∧ cap = 0
  cells : len = 0 ∨ ∃ b off, a = some ⟨b, off, none⟩ ∧ ∀ i, i < len → w.cell? ⟨b, off + i, none⟩ = some (.int .i64 (zs.getD i 0))
structure SymsV (w : World) (a : Option Addr) (len cap : Nat) (ss : List Sym) : Prop where
  count : ss.length = len
  fits : ∀ s ∈ ss, s.name.size ≤ maxLen ∧ (Lit.int .i64 s.kind).wf = true ∧ (Lit.int .i64 s.pos).wf = true
  nilOf : a = none → len = 0 ∧ cap = 0
  cells : len = 0 ∨ ∃ b off, a = some ⟨b, off, none⟩ ∧ ∀ i, i < len → w.cell? ⟨b, off + i * 3, none⟩ = some (.string (ss.getD i noSym).name) ∧ w.cell? ⟨b, off + i * 3 + 1, none⟩ = some (.int .i64 (ss.getD i noSym).kind) ∧ w.cell? ⟨b, off + i * 3 + 2, none⟩ = some (.int .i64 (ss.getD i noSym).pos)
structure RelsV (w : World) (a : Option Addr) (len cap : Nat) (rs : List Rel) : Prop where
  count : rs.length = len
  fits : ∀ r ∈ rs, r.name.size ≤ maxLen ∧ (Lit.int .i64 r.kind).wf = true ∧ (Lit.int .i64 r.pos).wf = true ∧ (Lit.int .i64 r.add).wf = true
  nilOf : a = none → len = 0 ∧ cap = 0
  cells : len = 0 ∨ ∃ b off, a = some ⟨b, off, none⟩ ∧ ∀ i, i < len → w.cell? ⟨b, off + i * 4, none⟩ = some (.int .i64 (rs.getD i noRel).pos) ∧ w.cell? ⟨b, off + i * 4 + 1, none⟩ = some (.int .i64 (rs.getD i noRel).kind) ∧ w.cell? ⟨b, off + i * 4 + 2, none⟩ = some (.string (rs.getD i noRel).name) ∧ w.cell? ⟨b, off + i * 4 + 3, none⟩ = some (.int .i64 (rs.getD i noRel).add)

theorem IntsV.below {w w1 : World} {a : Option Addr} {len cap : Nat} {zs : List Int} (h : IntsV w a len cap zs) (hb : Below w.heap.size w w1) : IntsV w1 a len cap zs := by
  refine ⟨h.count, h.fits, h.nilOf, ?_⟩
  rcases h.cells with h0 | ⟨b, off, ha, hc⟩
  · exact .inl h0
  · exact .inr ⟨b, off, ha, fun i hi => (hb.cell (p := ⟨b, off + i, none⟩) (World.block_lt_of_cell? w ⟨b, off + i, none⟩ (hc i hi))).trans (hc i hi)⟩
theorem SymsV.below {w w1 : World} {a : Option Addr} {len cap : Nat} {ss : List Sym} (h : SymsV w a len cap ss) (hb : Below w.heap.size w w1) : SymsV w1 a len cap ss := by
  refine ⟨h.count, h.fits, h.nilOf, ?_⟩
  rcases h.cells with h0 | ⟨b, off, ha, hc⟩
  · exact .inl h0
  · refine .inr ⟨b, off, ha, fun i hi => ?_⟩
    obtain ⟨k0, k1, k2⟩ := hc i hi
    have hbl : b < w.heap.size := World.block_lt_of_cell? w ⟨b, off + i * 3, none⟩ k0
    exact ⟨(hb.cell (p := ⟨b, off + i * 3, none⟩) hbl).trans k0, (hb.cell (p := ⟨b, off + i * 3 + 1, none⟩) hbl).trans k1, (hb.cell (p := ⟨b, off + i * 3 + 2, none⟩) hbl).trans k2⟩
theorem RelsV.below {w w1 : World} {a : Option Addr} {len cap : Nat} {rs : List Rel} (h : RelsV w a len cap rs) (hb : Below w.heap.size w w1) : RelsV w1 a len cap rs := by
  refine ⟨h.count, h.fits, h.nilOf, ?_⟩
  rcases h.cells with h0 | ⟨b, off, ha, hc⟩
  · exact .inl h0
  · refine .inr ⟨b, off, ha, fun i hi => ?_⟩
    obtain ⟨k0, k1, k2, k3⟩ := hc i hi
    have hbl : b < w.heap.size := World.block_lt_of_cell? w ⟨b, off + i * 4, none⟩ k0
    exact ⟨(hb.cell (p := ⟨b, off + i * 4, none⟩) hbl).trans k0, (hb.cell (p := ⟨b, off + i * 4 + 1, none⟩) hbl).trans k1, (hb.cell (p := ⟨b, off + i * 4 + 2, none⟩) hbl).trans k2, (hb.cell (p := ⟨b, off + i * 4 + 3, none⟩) hbl).trans k3⟩
/-- An object as it is handed over. -/
structure ObjV (w : World) (v : Value) (o : ObjD) : Prop where
  form : ∃ a1 l1 c1 a2 l2 c2 a3 l3 c3, v = .agg #[.string o.code, .slice a1 l1 c1, .slice a2 l2 c2, .slice a3 l3 c3] ∧ o.code.size ≤ maxLen ∧ IntsV w a1 l1 c1 o.data ∧ SymsV w a2 l2 c2 o.syms ∧ RelsV w a3 l3 c3 o.rels
theorem ObjV.below {w w1 : World} {v : Value} {o : ObjD} (h : ObjV w v o) (hb : Below w.heap.size w w1) : ObjV w1 v o := by
  obtain ⟨a1, l1, c1, a2, l2, c2, a3, l3, c3, e, hs, h1, h2, h3⟩ := h.form
  exact ⟨⟨a1, l1, c1, a2, l2, c2, a3, l3, c3, e, hs, h1.below hb, h2.below hb, h3.below hb⟩⟩

theorem cell_last {w : World} {A : Array Value} {t g j : Nat} (hg : g = w.heap.size) {v : Value} (hv : A[j]? = some v) : (w.alloc (.cells A t)).cell? ⟨g, j, none⟩ = some v := by
  subst hg
  simp [hv]
theorem cell_thru {w w' : World} {p : Addr} {v : Value} (hb : Below w.heap.size w w') (h : w.cell? p = some v) : w'.cell? p = some v := (hb.cell (p := p) (World.block_lt_of_cell? w p h)).trans h
theorem bl_one (w : World) (x : Obj) : Below w.heap.size w (w.alloc x) := (Below.refl _ _).alloc (Nat.le_refl _) _

/-- A set of names, as a map reads. -/
def nset (l : List ByteArray) : DataW Unit := setOf (.agg []) (l.map fun s => Lit.string s.data.toList)
theorem nset_snoc (l : List ByteArray) (x : ByteArray) : nset (l ++ [x]) = (nset l).put (.string x.data.toList) (.agg []) := by
  unfold nset
  rw [List.map_append, List.map_cons, List.map_nil, setOf_snoc]
theorem bytes_ext {a b : ByteArray} (h : a.data.toList = b.data.toList) : a = b := by
  cases a; cases b; simp at h; rw [h]
theorem has_nset (l : List ByteArray) (x : ByteArray) : Maps.has (nset l) (.string x.data.toList) = l.any (fun y => decide (y = x)) := by
  unfold nset
  rw [has_setOf _ _ _ (fun y hy => by obtain ⟨_, _, rfl⟩ := List.mem_map.1 hy; trivial), List.any_map]
  congr 1
  funext y
  show (y.data.toList == x.data.toList) = decide (y = x)
  by_cases e : y = x
  · subst e; simp
  · have : ¬ y.data.toList = x.data.toList := fun h => e (bytes_ext h)
    simp only [e, decide_false]
    exact beq_eq_false_iff_ne.2 this

end Go.Proofs.Ytaoklmphcgigeaa

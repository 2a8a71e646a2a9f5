/- Objects that are done at once: what may be, what an operation makes of them, no program in sight; and how they lie. -/
import Derived.Test.YtafdjmccgijmnaaProg
import Derived.WalkKit
import Derived.WalkSpells
import Derived.WalkLawsBesides
import Derived.Maps.OwnSet
import Derived.Maps.OwnOps
import Derived.Maps.Keyed
import Derived.OpenShut
import Derived.StringKeys
import Derived.Deep.LoopGhost
import Derived.Deep.RegionHeld3
namespace Go.Proofs.Ytafdjmccgijmnaa.A
open Go.RowKit Go.Maps

/-- An object: a lock or a queue. -/
structure At where
  name : ByteArray
  cap : Int
  owner : Int
  items : List Int
def noAt : At := ⟨.empty, 0, 0, []⟩
def kindOk (x : At) : Bool := if x.cap = 0 then decide (x.items.length = 0) && (decide (0 ≤ x.owner) && decide (x.owner ≤ 4)) else (decide (1 ≤ x.cap) && decide (x.cap ≤ 8)) && (decide (x.owner = 0) && (decide ((x.items.length : Int) ≤ x.cap) && x.items.all (fun n => decide (0 ≤ n))))
def oneOk (x : At) : Bool := decide (x.name.size ≠ 0) && kindOk x
def freeName (os : List At) (i : Nat) : Bool := (List.range i).all (fun j => decide ((os.getD j noAt).name ≠ (os.getD i noAt).name))
def atOk (os : List At) (i : Nat) : Bool := freeName os i && oneOk (os.getD i noAt)
def mayAll (os : List At) : Bool := (List.range os.length).all (atOk os)
/-- What an operation of a lock or a queue makes of it: the object then, the answer, what came of it. -/
def stepA (x : At) (own d arg : Int) : At × Int × Int :=
  if d = 1 then (if x.owner ≠ 0 then (x, 0, 1) else ({ x with owner := own }, 0, 0))
  else if d = 2 then (if x.owner ≠ own then (x, 0, 2) else ({ x with owner := 0 }, 0, 0))
  else if d = 3 then (if arg < 0 ∨ (x.items.length : Int) = x.cap then (x, 0, 0) else ({ x with items := x.items ++ [arg] }, 1, 0))
  else (if x.items.length = 0 then (x, -1, 0) else ({ x with items := x.items.drop 1 }, x.items.getD 0 0, 0))
def whereA (os : List At) (nm : ByteArray) : Nat := os.findIdx (fun x => decide (x.name = nm))
def badA (os : List At) (th d : Int) : Bool := !(mayAll os) || (decide (th < 0) || (decide (4 ≤ th) || (decide (d < 1) || decide (5 < d))))
/-- What Do comes to. -/
def doA (os : List At) (th d : Int) (nm : ByteArray) (arg : Int) : List At × Int × Int :=
  if badA os th d = true then (os, 0, 2)
  else if d = 5 then (os, 0, 0)
  else if ¬ whereA os nm < os.length then (os, 0, 2)
  else if decide ((os.getD (whereA os nm) noAt).cap = 0) ≠ decide (d ≤ 2) then (os, 0, 2)
  else (os.set (whereA os nm) (stepA (os.getD (whereA os nm) noAt) (th + 1) d arg).1, (stepA (os.getD (whereA os nm) noAt) (th + 1) d arg).2)

theorem all_range_no {n i : Nat} {f : Nat → Bool} (hi : i < n) (h : f i = false) : (List.range n).all f = false := by
  rw [← Bool.not_eq_true, List.all_eq_true]
  intro h'
  have := h' i (List.mem_range.2 hi)
  rw [h] at this
  cases this
theorem all_range_yes {n : Nat} {f : Nat → Bool} (h : ∀ i, i < n → f i = true) : (List.range n).all f = true := by
  rw [List.all_eq_true]
  intro i hi
  exact h i (List.mem_range.1 hi)
theorem may_no {os : List At} {i : Nat} (hi : i < os.length) (h : atOk os i = false) : mayAll os = false := all_range_no hi h

/-- Lists os they lie. -/
structure IntsV (w : World) (a : Option Addr) (len cap : Nat) (zs : List Int) : Prop where
  count : zs.length = len
  fits : ∀ n ∈ zs, (Lit.int .i64 n).wf = true
  nilOf : a = none → len = 0 ∧ cap = 0
  room : len ≤ cap ∧ cap ≤ maxLen
  cells : len = 0 ∨ ∃ b off, a = some ⟨b, off, none⟩ ∧ ∀ i, i < len → w.cell? ⟨b, off + i, none⟩ = some (.int .i64 (zs.getD i 0))
def AtFit (x : At) : Prop := x.name.size ≤ maxLen ∧ (Lit.int .i64 x.cap).wf = true ∧ (Lit.int .i64 x.owner).wf = true ∧ ∀ n ∈ x.items, (Lit.int .i64 n).wf = true
structure AtsV (w : World) (a : Option Addr) (len cap : Nat) (os : List At) : Prop where
  count : os.length = len
  fits : ∀ x ∈ os, AtFit x
  nilOf : a = none → len = 0 ∧ cap = 0
  room : len ≤ cap ∧ cap ≤ maxLen
  cells : len = 0 ∨ ∃ b off, a = some ⟨b, off, none⟩ ∧ ∀ i, i < len → w.cell? ⟨b, off + i * 4, none⟩ = some (.string (os.getD i noAt).name) ∧ w.cell? ⟨b, off + i * 4 + 1, none⟩ = some (.int .i64 (os.getD i noAt).cap) ∧ w.cell? ⟨b, off + i * 4 + 2, none⟩ = some (.int .i64 (os.getD i noAt).owner) ∧ ∃ a1 l1 c1, w.cell? ⟨b, off + i * 4 + 3, none⟩ = some (.slice a1 l1 c1) ∧ IntsV w a1 l1 c1 (os.getD i noAt).items

theorem IntsV.below {w w1 : World} {a : Option Addr} {len cap : Nat} {zs : List Int} (h : IntsV w a len cap zs) (hb : Below w.heap.size w w1) : IntsV w1 a len cap zs := by
  refine ⟨h.count, h.fits, h.nilOf, h.room, ?_⟩
  rcases h.cells with h0 | ⟨b, off, ha, hc⟩
  · exact .inl h0
  · exact .inr ⟨b, off, ha, fun i hi => (hb.cell (p := ⟨b, off + i, none⟩) (World.block_lt_of_cell? w ⟨b, off + i, none⟩ (hc i hi))).trans (hc i hi)⟩
theorem AtsV.below {w w1 : World} {a : Option Addr} {len cap : Nat} {os : List At} (h : AtsV w a len cap os) (hb : Below w.heap.size w w1) : AtsV w1 a len cap os := by
  refine ⟨h.count, h.fits, h.nilOf, h.room, ?_⟩
  rcases h.cells with h0 | ⟨b, off, ha, hc⟩
  · exact .inl h0
  · refine .inr ⟨b, off, ha, fun i hi => ?_⟩
    obtain ⟨k0, k1, k2, a1, l1, c1, k3, V⟩ := hc i hi
    have hbl : b < w.heap.size := World.block_lt_of_cell? w ⟨b, off + i * 4, none⟩ k0
    exact ⟨(hb.cell (p := ⟨b, off + i * 4, none⟩) hbl).trans k0, (hb.cell (p := ⟨b, off + i * 4 + 1, none⟩) hbl).trans k1, (hb.cell (p := ⟨b, off + i * 4 + 2, none⟩) hbl).trans k2, a1, l1, c1, (hb.cell (p := ⟨b, off + i * 4 + 3, none⟩) hbl).trans k3, V.below hb⟩
theorem AtsV.fit {w : World} {a : Option Addr} {len cap : Nat} {os : List At} (h : AtsV w a len cap os) {i : Nat} (hi : i < len) : AtFit (os.getD i noAt) := by
  have : i < os.length := by rw [h.count]; exact hi
  exact h.fits _ (by simp [List.getD, this])

theorem cell_last {w : World} {A : Array Value} {t g j : Nat} (hg : g = w.heap.size) {v : Value} (hv : A[j]? = some v) : (w.alloc (.cells A t)).cell? ⟨g, j, none⟩ = some v := by
  subst hg
  simp [hv]
theorem cell_thru {w w' : World} {p : Addr} {v : Value} (hb : Below w.heap.size w w') (h : w.cell? p = some v) : w'.cell? p = some v := (hb.cell (p := p) (World.block_lt_of_cell? w p h)).trans h
theorem bl_one (w : World) (x : Obj) : Below w.heap.size w (w.alloc x) := (Below.refl _ _).alloc (Nat.le_refl _) _

/-- Names that are counted, os a map reads: each is there once. -/
def nset (l : List ByteArray) : DataW Unit := setOf (.lit (.int .i64 1)) (l.map fun s => Lit.string s.data.toList)
theorem nset_snoc (l : List ByteArray) (x : ByteArray) : nset (l ++ [x]) = (nset l).put (.string x.data.toList) (.lit (.int .i64 1)) := by
  unfold nset
  rw [List.map_append, List.map_cons, List.map_nil, setOf_snoc]
theorem bytes_ext {a b : ByteArray} (h : a.data.toList = b.data.toList) : a = b := by
  cases a; cases b; simp at h; rw [h]
theorem isMap_nset (l : List ByteArray) : IsMap (nset l) := by
  obtain ⟨es, h, -⟩ := tidy_setOf (.lit (.int .i64 1) : DataW Unit) (l.map fun s => Lit.string s.data.toList) (fun y hy => by obtain ⟨_, _, rfl⟩ := List.mem_map.1 hy; trivial)
  exact ⟨es, h⟩
theorem at_one (l : List ByteArray) (y x : ByteArray) (v : DataW Unit) (h : (nset l).atKey (.string x.data.toList) (.lit (.int .i64 0)) = v) : (nset (l ++ [y])).atKey (.string x.data.toList) (.lit (.int .i64 0)) = if y = x then .lit (.int .i64 1) else v := by
  rw [nset_snoc]
  by_cases e : y = x
  · subst e
    rw [atKey_put_same (isMap_nset l) (show WideAt.IsKeyLit (.string y.data.toList) from trivial), if_pos rfl]
  · rw [atKey_put_other (fun h => e (bytes_ext (by injection h with h; exact h.symm))), if_neg e, h]
theorem at_nset (l : List ByteArray) (x : ByteArray) : (nset l).atKey (.string x.data.toList) (.lit (.int .i64 0)) = .lit (.int .i64 (if l.any (fun y => decide (y = x)) = true then 1 else 0)) := by
  obtain ⟨r, rfl⟩ : ∃ r, l = r.reverse := ⟨l.reverse, by simp⟩
  induction r with
  | nil => rfl
  | cons y r ih =>
    rw [List.reverse_cons, at_one _ _ _ _ ih]
    rw [List.any_append]
    by_cases e : y = x
    · simp [e]
    · simp only [e, decide_false, List.any_cons, List.any_nil, Bool.or_false, if_false]
end Go.Proofs.Ytafdjmccgijmnaa.A

/- A world for the witness. -/
import Derived.Test.YtgjingleolhkbaaGreatDoorCards
import Derived.Test.YtgjingleolhkbaaGreatDoorTie
import Derived.Test.YtgjingleolhkbaaGreatDoorTAd
import Derived.WalkKit
import Derived.ProofKit
import Derived.OpenShut
import Derived.ShutString
import Derived.ChangeOld
import Derived.Below
import Derived.Carry
import Derived.Deep.DeepHandedRow
import Derived.Lib.SmallJoins
import Derived.LaidMore
import Derived.Test.YtgjingleolhkbaaGreatDoorTAa
import Derived.Deep.AppendLies
import Derived.Laws.OwnMore
import Derived.Maps.Own
import Derived.Maps.OwnOps
import Derived.Maps.OwnSet
namespace Go.Proofs.YtgjingleolhkbaaGreatDoor
open Go.ChangeShapes Go.WideShapes Go.ChangeAt Go.RowKit Go.Joins

def setObj (cs : Array Value) : Obj → Obj
 | .cells _ t frozen => .cells cs t frozen
 | o => o
def pow10V : Array Value := #[.int .u64 1, .int .u64 10, .int .u64 100, .int .u64 1000, .int .u64 10000, .int .u64 100000, .int .u64 1000000, .int .u64 10000000, .int .u64 100000000, .int .u64 1000000000, .int .u64 10000000000, .int .u64 100000000000, .int .u64 1000000000000, .int .u64 10000000000000, .int .u64 100000000000000, .int .u64 1000000000000000, .int .u64 10000000000000000, .int .u64 100000000000000000, .int .u64 1000000000000000000, .int .u64 10000000000000000000]
def tab32V : Array Value := #[.int .u8 0, .int .u8 1, .int .u8 28, .int .u8 2, .int .u8 29, .int .u8 14, .int .u8 24, .int .u8 3, .int .u8 30, .int .u8 22, .int .u8 20, .int .u8 15, .int .u8 25, .int .u8 17, .int .u8 4, .int .u8 8, .int .u8 31, .int .u8 27, .int .u8 13, .int .u8 23, .int .u8 21, .int .u8 19, .int .u8 16, .int .u8 7, .int .u8 26, .int .u8 12, .int .u8 18, .int .u8 6, .int .u8 11, .int .u8 5, .int .u8 10, .int .u8 9]
def tab64V : Array Value := #[.int .u8 0, .int .u8 1, .int .u8 56, .int .u8 2, .int .u8 57, .int .u8 49, .int .u8 28, .int .u8 3, .int .u8 61, .int .u8 58, .int .u8 42, .int .u8 50, .int .u8 38, .int .u8 29, .int .u8 17, .int .u8 4, .int .u8 62, .int .u8 47, .int .u8 59, .int .u8 36, .int .u8 45, .int .u8 43, .int .u8 51, .int .u8 22, .int .u8 53, .int .u8 39, .int .u8 33, .int .u8 30, .int .u8 24, .int .u8 18, .int .u8 12, .int .u8 5, .int .u8 63, .int .u8 55, .int .u8 48, .int .u8 27, .int .u8 60, .int .u8 41, .int .u8 37, .int .u8 16, .int .u8 46, .int .u8 35, .int .u8 44, .int .u8 21, .int .u8 52, .int .u8 32, .int .u8 23, .int .u8 11, .int .u8 54, .int .u8 26, .int .u8 40, .int .u8 15, .int .u8 34, .int .u8 20, .int .u8 31, .int .u8 10, .int .u8 25, .int .u8 14, .int .u8 19, .int .u8 9, .int .u8 13, .int .u8 8, .int .u8 7, .int .u8 6]
noncomputable def low : Nat := (World.holding Tryz.prog default ⟨#[], #[], []⟩).heap.size
noncomputable def laidWorld (os : Os) : World :=
 let w0 := World.holding Tryz.prog os ⟨#[.cells #[.string { data := #[118, 97, 108, 117, 101, 32, 111, 117, 116, 32, 111, 102, 32, 114, 97, 110, 103, 101] }] 185, .cells #[.string { data := #[105, 110, 118, 97, 108, 105, 100, 32, 115, 121, 110, 116, 97, 120] }] 185], #[], []⟩
 {w0 with heap := (((((((w0.heap.modify 0 (setObj X.rowsL.toArray)).modify 4 (setObj #[.iface 183 (.pointer (some ⟨low + 1, 0, none⟩))])).modify 5 (setObj #[.iface 183 (.pointer (some ⟨low, 0, none⟩))])).modify 6 (setObj pow10V)).modify 7 (setObj tab32V)).modify 8 (setObj tab64V)).modify 1 (setObj J.I.nums)).modify 2 (setObj J.I.forms) }

end Go.Proofs.YtgjingleolhkbaaGreatDoor

/- What an assembler makes of items, ads plain functions: no walk. -/
namespace Go.Proofs.YtgjingleolhkbaaGreatDoor
namespace Z
set_option linter.unusedVariables false
set_option linter.unusedSimpArgs false

def place (t : X.It) : Bool := decide (t.kind = 1) || decide (t.kind = 3)
def shown (t : X.It) : Bool := decide (t.kind = 4) || decide (t.kind = 5)
def shortOf (op : Int) : Int := if op = 20 then 25 else if op = 21 then 26 else if op = 22 then 27 else 0
def jump (t : X.It) : Bool := decide (shortOf t.op ≠ 0)
def isLab (nm : X.By) (t : X.It) : Bool := decide (t.kind = 1) && decide (t.name = nm)
def lab (ts : List X.It) (nm : X.By) : Option Nat := ts.findIdx? (isLab nm)
def labN (ts : List X.It) (nm : X.By) : Nat := (lab ts nm).getD 0
def nms (p : X.It → Bool) (ts : List X.It) : List X.By := (ts.filter p).map (·.name)
def unl (p : X.It → Bool) (ts : List X.It) : Bool := decide (nms p ts).Nodup
def unk (ts : List X.It) : Bool := ts.any fun t => (shown t || jump t) && (lab ts t.name).isNone
def nameE (ts : List X.It) : Nat := if unl place ts = true ∧ unl shown ts = true then (if unk ts = true then 6 else 0) else 5

theorem nms_snoc_no {p : X.It → Bool} {ts : List X.It} {t : X.It} (h : p t = false) : nms p (ts ++ [t]) = nms p ts := by simp [nms, h]
theorem nms_snoc_yes {p : X.It → Bool} {ts : List X.It} {t : X.It} (h : p t = true) : nms p (ts ++ [t]) = nms p ts ++ [t.name] := by simp [nms, h]
theorem nms_sub {p : X.It → Bool} (ts : List X.It) (k : Nat) : List.Sublist (nms p (ts.take k)) (nms p ts) := (((List.take_sublist k ts).filter p).map _)
theorem take_snoc {ts : List X.It} {k : Nat} {t : X.It} (h : ts[k]? = some t) : ts.take (k + 1) = ts.take k ++ [t] := by rw [List.take_add_one, h]; rfl
theorem unl_no {p : X.It → Bool} {ts : List X.It} {k : Nat} {t : X.It} (h : ts[k]? = some t) (hp : p t = true) (hm : t.name ∈ nms p (ts.take k)) : unl p ts = false := by
 unfold unl
 refine decide_eq_false fun hn => ?_
 have h1 := (nms_sub (p := p) ts (k + 1)).nodup hn
 rw [take_snoc h, nms_snoc_yes hp] at h1
 rw [List.nodup_append] at h1
 exact h1.2.2 _ hm _ (by simp) rfl
def Once (ts : List X.It) : Prop := ∀ i j nm, i < ts.length → j < ts.length → isLab nm (ts.getD i X.noIt) = true → isLab nm (ts.getD j X.noIt) = true → i = j
theorem nodup_once : ∀ (ts : List X.It), (nms place ts).Nodup → Once ts
 | [], _, i, j, nm, hi, _, _, _ => by simp at hi
 | t :: ts, h, i, j, nm, hi, hj, h1, h2 => by
  have hr : (nms place ts).Nodup := by
   by_cases hp : place t = true
   ·unfold nms at h ⊢; rw [List.filter_cons_of_pos hp, List.map_cons] at h; exact (List.nodup_cons.1 h).2
   ·unfold nms at h ⊢; rw [List.filter_cons_of_neg hp] at h; exact h
  have key : ∀ k, k < ts.length → isLab nm t = true → isLab nm (ts.getD k X.noIt) = true → False := fun k hk e1 e2 => by
   simp only [isLab, Bool.and_eq_true, decide_eq_true_eq] at e1 e2
   have hp : place t = true := by simp [place, e1.1]
   unfold nms at h
   rw [List.filter_cons_of_pos hp, List.map_cons] at h
   refine (List.nodup_cons.1 h).1 (List.mem_map.2 ⟨ts.getD k X.noIt, List.mem_filter.2 ⟨by simp [List.getD, hk], by unfold place; rw [e2.1]; rfl⟩, by rw [e2.2, e1.2]⟩)
  cases i with
  | zero =>
   cases j with
   | zero => rfl
   | succ j => exact (key j (by simpa using hj) (by simpa using h1) (by simpa using h2)).elim
  | succ i =>
   cases j with
   | zero => exact (key i (by simpa using hi) (by simpa using h2) (by simpa using h1)).elim
   | succ j =>
    have := nodup_once ts hr i j nm (by simpa using hi) (by simpa using hj) (by simpa using h1) (by simpa using h2)
    omega
theorem lab_some {ts : List X.It} {nm : X.By} {i : Nat} (h : lab ts nm = some i) : i < ts.length ∧ isLab nm (ts.getD i X.noIt) = true := by
 unfold lab at h
 obtain ⟨h1, h2, -⟩ := List.findIdx?_eq_some_iff_getElem.1 h
 exact ⟨h1, by simpa [List.getD, h1] using h2⟩
theorem lab_none {ts : List X.It} {nm : X.By} (h : lab ts nm = none) : ∀ i, i < ts.length → isLab nm (ts.getD i X.noIt) = false := by
 intro i hi
 unfold lab at h
 have := List.findIdx?_eq_none_iff.1 h ts[i] (List.getElem_mem hi)
 simpa [List.getD, hi] using this

/-! ### Lengths of jumps -/
def sz (op : Int) : Int := J.I.size op
def beg (ops : List Int) (k : Nat) : Int := ((ops.take k).map sz).sum
def ats (ops : List Int) : List Int := (List.range ops.length).map (beg ops)
def tot (ops : List Int) : Int := beg ops ops.length
def far (ops ads : List Int) (i k : Nat) : Int := ads.getD k 0 - (ads.getD i 0 + sz (ops.getD i 0))
def tooFar (ts : List X.It) (ops ads : List Int) (j : Nat × Nat) : Bool := decide (ops.getD j.1 0 ≠ (ts.getD j.1 X.noIt).op) && (decide (far ops ads j.1 j.2 < -128) || decide (127 < far ops ads j.1 j.2))
def jumpsOf (ts : List X.It) (l : List (X.It × Nat)) : List (Nat × Nat) := (l.filter fun p => jump p.1).map fun p => (p.2, labN ts p.1.name)
def js (ts : List X.It) : List (Nat × Nat) := jumpsOf ts ts.zipIdx
def op0 (t : X.It) : Int := if jump t = true then shortOf t.op else t.op
def lens (ts : List X.It) (ads : List Int) : List (Nat × Nat) → List Int → List Int
 | [], ops => ops
 | j :: r, ops => lens ts ads r (if tooFar ts ops ads j = true then ops.set j.1 (ts.getD j.1 X.noIt).op else ops)
def anyFar (ts : List X.It) (ops : List Int) : Bool := (js ts).any (tooFar ts ops (ats ops))
def settle (ts : List X.It) : Nat → List Int → List Int
 | 0, ops => ops
 | n + 1, ops => if anyFar ts ops = true then settle ts n (lens ts (ats ops) (js ts) ops) else ops
def ops (ts : List X.It) : List Int := settle ts ts.length (ts.map op0)

theorem beg_zero (ops : List Int) : beg ops 0 = 0 := by simp [beg]
theorem beg_succ (ops : List Int) {k : Nat} (h : k < ops.length) : beg ops (k + 1) = beg ops k + sz (ops.getD k 0) := by
 unfold beg
 rw [List.take_add_one, List.getElem?_eq_getElem h, List.map_append, List.sum_append]
 simp [List.getD, h]
theorem ats_len (ops : List Int) : (ats ops).length = ops.length := by simp [ats]
theorem ats_at (ops : List Int) {k : Nat} (h : k < ops.length) : (ats ops).getD k 0 = beg ops k := by simp [ats, List.getD, h]
theorem lens_len (ts : List X.It) (ads : List Int) : ∀ (l : List (Nat × Nat)) (ops : List Int), (lens ts ads l ops).length = ops.length
 | [], ops => rfl
 | j :: r, ops => by
  rw [lens, lens_len ts ads r]
  split <;> simp
theorem settle_len (ts : List X.It) : ∀ (n : Nat) (ops : List Int), (settle ts n ops).length = ops.length
 | 0, ops => rfl
 | n + 1, ops => by
  rw [settle]
  split
  ·rw [settle_len ts n, lens_len]
  ·rfl
theorem ops_len (ts : List X.It) : (ops ts).length = ts.length := by unfold ops; rw [settle_len]; simp
theorem lens_skip {ts : List X.It} {ads ops : List Int} : ∀ {a b : List (Nat × Nat)}, (∀ j ∈ a, tooFar ts ops ads j = false) → lens ts ads (a ++ b) ops = lens ts ads b ops
 | [], b, _ => rfl
 | j :: a, b, h => by
  rw [List.cons_append, lens, h j (by simp)]
  simp only [Bool.false_eq_true, if_false]
  exact lens_skip (fun x hx => h x (by simp [hx]))
def shorts (ts : List X.It) (ops : List Int) : Nat := ((js ts).filter fun j => decide (ops.getD j.1 0 ≠ (ts.getD j.1 X.noIt).op)).length

end Z
end Go.Proofs.YtgjingleolhkbaaGreatDoor

/- An item's words, and its line. -/
namespace Go.Proofs.YtgjingleolhkbaaGreatDoor
open Go.RowKit
set_option linter.unusedVariables false
set_option linter.unusedSimpArgs false

def sC (ws : List X.By) : List Value := ws.map fun x => Value.string (X.str x)
theorem infoS : (Tryz.prog.info? 9).map (fun i => (i.zero, i.size, i.bytes)) = some (some (.string { data := #[] }), 1, 16) := by kernel_rfl
theorem own_thru {w w1 : World} {B : Nat} {ty : TypeId} {k : Nat} {u : Value} {n : Nat} {cs : List Value} (hu : w.ownsRow B ty k u n cs) (hb : Below w.heap.size w w1) : w1.ownsRow B ty k u n cs := by
 have g : w.grownBy w1 none := ⟨hb.os, hb.tape, hb.output, hb.size, fun k hk _ => hb.block k hk⟩
 cases e : u.ownBlock with
 | none => exact hu.kept g (.inl e)
 | some b => exact hu.kept g (.inr (by rw [e]; simp))
theorem own_baseB {w : World} {B B' : Nat} {v : Value} {e : TypeId} {size n : Nat} {xs : List Value} (o : w.ownsRow B e size v n xs) (h : B' ≤ B) : w.ownsRow B' e size v n xs := by
 refine ⟨o.1, ?_⟩
 rcases o.2 with h1 | ⟨g, cap, cur, h1, h2, h3⟩
 ·exact .inl h1
 ·exact .inr ⟨g, cap, cur, h1, Nat.le_trans h h2, h3⟩
theorem own_slice {w : World} {B : Nat} {ty : TypeId} {k : Nat} {u : Value} {n : Nat} {cs : List Value} (hu : w.ownsRow B ty k u n cs) : ∃ a c, u = .slice a n c := by
 rcases hu.2 with ⟨e1, e2⟩ | ⟨g, cap, cur, e1, -⟩
 ·exact ⟨_, _, by rw [e1, e2]⟩
 ·exact ⟨_, _, e1⟩
theorem below_grownB {B C : Nat} {w x y : World} {v : Value} {e : TypeId} {k n : Nat} {cs : List Value} (hb : Below C w x) (ho : x.ownsRow B e k v n cs) (hg : x.grownBy y v.ownBlock) (hw : B ≤ x.heap.size) (hc : C ≤ B) : Below C w y :=
 ⟨hg.os.trans hb.os, hg.tape.trans hb.tape, hg.output.trans hb.output, Nat.le_trans hb.size hg.size, fun i hi => (hg.block i (by omega) (fun e => by have := (ho.lt i e.symm).1; omega)).trans (hb.block i hi)⟩
theorem shape_len {op : Int} (h : 0 ≤ op ∧ op < 34) : (X.row op.toNat).2.length ≤ 3 := by
 have h1 : ∀ o : Fin 34, (X.row o.val).2.length ≤ 3 := by decide
 exact h1 ⟨op.toNat, by omega⟩

def SaidOut (w : World) (ws : List X.By) (e : Ending) (w' : World) : Prop := ∃ g c, e = .returned (.slice (some ⟨g, 0, none⟩) ws.length c) ∧ w'.ownsRow w.heap.size 9 1 (.slice (some ⟨g, 0, none⟩) ws.length c) ws.length (sC ws) ∧ Below w.heap.size w w'

end Go.Proofs.YtgjingleolhkbaaGreatDoor

/- A box that a call stores into; 'set'. -/
namespace Go.Proofs.YtgjingleolhkbaaGreatDoor
open Go.RowKit
set_option linter.unusedVariables false
set_option linter.unusedSimpArgs false

structure Bx (x : World) (b : Nat) (vs : List Value) : Prop where
 c : ∀ j u, vs[j]? = some u → x.cell? ⟨b, j, none⟩ = some u
 f : ∀ o, x.frozen? ⟨b, o, none⟩ = false
 lt : b < x.heap.size
theorem Bx.new (w : World) (a : Array Value) (t : TypeId) : Bx (w.alloc (.cells a t)) w.heap.size a.toList :=
 ⟨fun j u hu => row_cell (by simpa using hu), fun o => World.frozen?_alloc_at _ _ _ _ rfl, by simp⟩
theorem Bx.below {x y : World} {b : Nat} {vs : List Value} (h : Bx x b vs) (hb : Below x.heap.size x y) : Bx y b vs :=
 ⟨fun j u hu => cell_thru hb (h.c j u hu), fun o => (hb.frozen (p := ⟨b, o, none⟩) h.lt).trans (h.f o), Nat.lt_of_lt_of_le h.lt hb.size⟩
theorem Bx.gb {x y : World} {b r : Nat} {vs : List Value} (h : Bx x b vs) (hg : x.grownBy y (some r)) (hne : b ≠ r) : Bx y b vs :=
 ⟨fun j u hu => hg.cell (h.c j u hu) (by simpa using hne), fun o => (hg.frozen_far ⟨b, o, none⟩ h.lt (by simpa using hne)).trans (h.f o), Nat.lt_of_lt_of_le h.lt hg.size⟩
theorem Bx.put {x : World} {b : Nat} {vs : List Value} (h : Bx x b vs) (k : Nat) (hk : k < vs.length) (u : Value) : Bx (x.setCell ⟨b, k, none⟩ u) b (vs.set k u) := by
 refine ⟨fun j v hv => ?_, fun o => by rw [World.frozen?_setCell]; exact h.f o, by rw [World.size_setCell]; exact h.lt⟩
 by_cases e : k = j
 ·subst e
  rw [List.getElem?_set_self hk] at hv
  cases hv
  refine World.cell?_setCell_same' _ _ _ ?_
  rw [h.c k vs[k] (by simp [hk])]
  rfl
 ·rw [List.getElem?_set_ne e] at hv
  rw [World.cell?_setCell_other _ _ _ _ (fun e' => e (by have := congrArg Addr.off e'; simpa using this))]
  exact h.c j v hv
theorem gb_set (w : World) (a : Addr) (u : Value) : w.grownBy (w.setCell a u) (some a.block) :=
 ⟨rfl, rfl, rfl, by rw [World.size_setCell]; exact Nat.le_refl _, fun k _ hk => Below.heap_setCell _ _ _ _ (fun e => hk (by rw [e]))⟩
theorem gbt {w w1 w2 : World} {r : Option Nat} (h : w.grownBy w1 r) (k : w1.grownBy w2 r) : w.grownBy w2 r :=
 ⟨k.os.trans h.os, k.tape.trans h.tape, k.output.trans h.output, Nat.le_trans h.size k.size, fun i hi hr => (k.block i (Nat.lt_of_lt_of_le hi h.size) hr).trans (h.block i hi hr)⟩
theorem gb_of_below {w x : World} (h : Below w.heap.size w x) (r : Option Nat) : w.grownBy x r := ⟨h.os, h.tape, h.output, h.size, fun k hk _ => h.block k hk⟩
theorem below_gb {w x y : World} {B b : Nat} (h : Below B w x) (hg : x.grownBy y (some b)) (hB : B ≤ b) (hw : B ≤ x.heap.size) : Below B w y :=
 ⟨hg.os.trans h.os, hg.tape.trans h.tape, hg.output.trans h.output, Nat.le_trans h.size hg.size, fun i hi => (hg.block i (by omega) (fun e => by cases e; omega)).trans (h.block i hi)⟩
theorem Tab.gb {w w' : World} {b : Nat} (h : Tab w) (hg : w.grownBy w' (some b)) (hb : 9 ≤ b) : Tab w' := by
 have hz := h.hz
 have k : ∀ a : Nat, a < 9 → w'.heap[a]? = w.heap[a]? := fun a ha => hg.block a (by omega) (fun e => by cases e; omega)
 have kc : ∀ a o, a < 9 → w'.cell? ⟨a, o, none⟩ = w.cell? ⟨a, o, none⟩ := fun a o ha => by
  unfold World.cell?
  simp only
  rw [k a ha]
 obtain ⟨e1, h1, h2⟩ := h.es
 obtain ⟨e2, h3, h4⟩ := h.er
 obtain ⟨m, h5⟩ := h.ml
 refine ⟨fun j hj => ⟨(kc 0 _ (by omega)).trans (h.rw j hj).1, (kc 0 _ (by omega)).trans (h.rw j hj).2⟩, ⟨m, (kc 3 0 (by omega)).trans h5⟩, ?_, ⟨e1, (kc 4 0 (by omega)).trans h1, h2⟩, ⟨e2, (kc 5 0 (by omega)).trans h3, h4⟩, Nat.le_trans hz hg.size⟩
 have hp := h.pw
 unfold Lib.TabIs World.var? at *
 rw [gPow] at *
 simp only [Option.bind_some] at hp ⊢
 rw [k 6 (by omega)]
 exact hp

def itC (t : X.It) (v : Value) : List Value := [.int .i64 t.kind, .string (X.str t.name), .int .i64 t.op, .int .i64 t.a, .int .i64 t.b, .int .i64 t.n, v]
def SetOut (w : World) (b : Nat) (v : Value) (r : Option X.It) (e : Ending) (w' : World) : Prop :=
 ∃ ok, e = .returned (.bool ok) ∧ (ok = true → ∃ t', r = some t' ∧ Bx w' b (itC t' v)) ∧ (ok = false → r = none) ∧ w.grownBy w' (some b)

set_option maxRecDepth 100000 in
set_option maxHeartbeats 8000000 in
theorem set_any (kd : Int) (nm : X.By) (op a bb n : Int) (ws : List Int) (v : Value) (b : Nat) (c : UInt8) (s : ByteArray) (hs : s.size ≤ 200000) (w : World) (ht : Tab w) (hb : Bx w b (itC ⟨kd, nm, op, a, bb, n, ws⟩ v)) :
  Calls Tryz.prog 116 #[.pointer (some ⟨b, 0, none⟩), .int .u8 c.toNat, .string s] w (SetOut w b v (X.set ⟨kd, nm, op, a, bb, n, ws⟩ c s.data.toList)) := by
 have e65 : c.toNat = 65 ↔ c = 65 := ⟨fun e => UInt8.toNat_inj.1 (by rw [e]; rfl), fun e => by rw [e]; rfl⟩
 have e66 : c.toNat = 66 ↔ c = 66 := ⟨fun e => UInt8.toNat_inj.1 (by rw [e]; rfl), fun e => by rw [e]; rfl⟩
 have e78 : c.toNat = 78 ↔ c = 78 := ⟨fun e => UInt8.toNat_inj.1 (by rw [e]; rfl), fun e => by rw [e]; rfl⟩
 have e64 : c.toNat = 64 ↔ c = 64 := ⟨fun e => UInt8.toNat_inj.1 (by rw [e]; rfl), fun e => by rw [e]; rfl⟩
 have HX : Hid _ := hb
 have HT : Hid _ := ht
 have c1 := hb.c 1 _ rfl
 have c3 := hb.c 3 _ rfl
 have c4 := hb.c 4 _ rfl
 have c5 := hb.c 5 _ rfl
 have f1 := hb.f 1
 have f3 := hb.f 3
 have f4 := hb.f 4
 have f5 := hb.f 5
 have hlt := hb.lt
 clear hb ht
 by_cases h65 : c.toNat = 65
 ·have HR : Hid (X.set ⟨kd, nm, op, a, bb, n, ws⟩ c s.data.toList = (X.reg s.data.toList).map fun x => ⟨kd, nm, op, x, bb, n, ws⟩) := by show _ = _; unfold X.set; rw [if_pos (e65.1 h65)]
  have hreg := register_any s
  rw [h65]
  clear h65 e65 e66 e78 e64
  cases hr : X.reg s.data.toList with
  | none =>
   rw [hr] at HR
   go_enter Tryz.func116, Tryz.ntmps116
   go_wp2_with (go_at_call 126; refine (hreg _).mono ?_; rw [hr]; rintro e y ⟨rfl, rfl⟩)
   go_ret
   exact ⟨false, rfl, (fun h => by cases h), fun _ => HR.out, gb_set _ _ _⟩
  | some x =>
   rw [hr] at HR
   go_enter Tryz.func116, Tryz.ntmps116
   go_wp2_with (go_at_call 126; refine (hreg _).mono ?_; rw [hr]; rintro e y ⟨rfl, rfl⟩)
   go_ret
   exact ⟨true, rfl, fun _ => ⟨_, HR.out, HX.out.put 3 (by simp [itC]) _⟩, (fun h => by cases h), gb_set _ _ _⟩
 by_cases h66 : c.toNat = 66
 ·have HR : Hid (X.set ⟨kd, nm, op, a, bb, n, ws⟩ c s.data.toList = (X.reg s.data.toList).map fun x => ⟨kd, nm, op, a, x, n, ws⟩) := by show _ = _; unfold X.set; rw [if_neg (fun e => h65 (e65.2 e)), if_pos (e66.1 h66)]
  have hreg := register_any s
  rw [h66]
  clear h65 h66 e65 e66 e78 e64
  cases hr : X.reg s.data.toList with
  | none =>
   rw [hr] at HR
   go_enter Tryz.func116, Tryz.ntmps116
   go_wp2_with (go_at_call 126; refine (hreg _).mono ?_; rw [hr]; rintro e y ⟨rfl, rfl⟩)
   go_ret
   exact ⟨false, rfl, (fun h => by cases h), fun _ => HR.out, gb_set _ _ _⟩
  | some x =>
   rw [hr] at HR
   go_enter Tryz.func116, Tryz.ntmps116
   go_wp2_with (go_at_call 126; refine (hreg _).mono ?_; rw [hr]; rintro e y ⟨rfl, rfl⟩)
   go_ret
   exact ⟨true, rfl, fun _ => ⟨_, HR.out, HX.out.put 4 (by simp [itC]) _⟩, (fun h => by cases h), gb_set _ _ _⟩
 by_cases h78 : c.toNat = 78
 ·have HR : Hid (X.set ⟨kd, nm, op, a, bb, n, ws⟩ c s.data.toList = (X.num s.data.toList).map fun x => ⟨kd, nm, op, a, bb, x, ws⟩) := by show _ = _; unfold X.set; rw [if_neg (fun e => h65 (e65.2 e)), if_neg (fun e => h66 (e66.2 e)), if_pos (e78.1 h78)]
  have hnum := number_any s (by omega)
  rw [h78]
  clear h65 h66 h78 e65 e66 e78 e64 c1 c3 c4 f1 f3 f4
  go_enter Tryz.func116, Tryz.ntmps116
  go_wp2_with fail
  refine (hnum _ HT.out).mono ?_
  rintro e y ⟨z, ok, rfl, ⟨h1, h2⟩, hb⟩
  have HB : Hid (Below w.heap.size w y) := hb
  have d5 := cell_thru hb c5
  have g5 : y.frozen? ⟨b, 5, none⟩ = false := (hb.frozen (p := ⟨b, 5, none⟩) hlt).trans f5
  have hlt2 : b < y.heap.size := Nat.lt_of_lt_of_le hlt hb.size
  clear hb c5 f5 hnum
  cases ok with
  | false =>
   have HN : Hid (X.num s.data.toList = none) := h2 rfl
   clear h1 h2
   go_wp2_with fail
   go_ret
   exact ⟨false, rfl, (fun h => by cases h), (fun _ => by rw [HR.out, HN.out]; rfl), gbt (gb_of_below HB.out _) (gb_set _ _ _)⟩
  | true =>
   have HN : Hid (X.num s.data.toList = some z) := h1 rfl
   clear h1 h2
   go_wp2_with fail
   go_ret
   exact ⟨true, rfl, (fun _ => ⟨_, by rw [HR.out, HN.out]; rfl, (HX.out.below HB.out).put 5 (by simp [itC]) _⟩), (fun h => by cases h), gbt (gb_of_below HB.out _) (gb_set _ _ _)⟩
 have k1 : ((c.toNat : Int) == 65) = false := by simp; omega
 have k2 : ((c.toNat : Int) == 66) = false := by simp; omega
 have k3 : ((c.toNat : Int) == 78) = false := by simp; omega
 by_cases h64 : c.toNat = 64
 ·have HR : Hid (X.set ⟨kd, nm, op, a, bb, n, ws⟩ c s.data.toList = some ⟨kd, s.data.toList, op, a, bb, n, ws⟩) := by show _ = _; unfold X.set; rw [if_neg (fun e => h65 (e65.2 e)), if_neg (fun e => h66 (e66.2 e)), if_neg (fun e => h78 (e78.2 e)), if_pos (e64.1 h64)]
  have HP := HX.out.put 1 (by simp [itC]) (.string s)
  have HP2 : Hid (Bx (w.setCell ⟨b, 1, none⟩ (.string s)) b (itC ⟨kd, s.data.toList, op, a, bb, n, ws⟩ v)) := by
   have e : (itC ⟨kd, nm, op, a, bb, n, ws⟩ v).set 1 (.string s) = itC ⟨kd, s.data.toList, op, a, bb, n, ws⟩ v := by simp [itC, str_eq]
   rw [e] at HP
   exact HP
  clear HP
  rw [h64]
  clear h65 h66 h78 h64 e65 e66 e78 e64 k1 k2 k3
  go_enter Tryz.func116, Tryz.ntmps116
  go_wp2_with fail
  go_ret
  exact ⟨true, rfl, fun _ => ⟨_, HR.out, HP2.out⟩, (fun h => by cases h), gb_set _ _ _⟩
 ·have HR : Hid (X.set ⟨kd, nm, op, a, bb, n, ws⟩ c s.data.toList = none) := by show _ = _; unfold X.set; rw [if_neg (fun e => h65 (e65.2 e)), if_neg (fun e => h66 (e66.2 e)), if_neg (fun e => h78 (e78.2 e)), if_neg (fun e => h64 (e64.2 e))]
  have k4 : ((c.toNat : Int) == 64) = false := by simp; omega
  clear h65 h66 h78 h64 e65 e66 e78 e64
  go_enter Tryz.func116, Tryz.ntmps116
  go_wp2_with fail
  go_ret
  exact ⟨false, rfl, (fun h => by cases h), fun _ => HR.out, gb_of_below (Below.refl _ _) _⟩

end Go.Proofs.YtgjingleolhkbaaGreatDoor

/- What kinds of items are. -/
namespace Go.Proofs.YtgjingleolhkbaaGreatDoor
open Go.RowKit Go.Maps
set_option linter.unusedVariables false
set_option linter.unusedSimpArgs false

theorem shortOf_any (op : Int) (w : World) : Calls Tryz.prog 70 #[.int .i64 op] w fun e w' => e = .returned (.int .i64 (Z.shortOf op)) ∧ w' = w := by
 rcases (show op = 20 ∨ op = 21 ∨ op = 22 ∨ (¬ op = 20 ∧ ¬ op = 21 ∧ ¬ op = 22) by omega) with rfl | rfl | rfl | ⟨h1, h2, h3⟩
 ·go_enter Tryz.func70, Tryz.ntmps70
  go_wp2
  go_ret
  exact ⟨rfl, rfl⟩
 ·go_enter Tryz.func70, Tryz.ntmps70
  go_wp2
  go_ret
  exact ⟨rfl, rfl⟩
 ·go_enter Tryz.func70, Tryz.ntmps70
  go_wp2
  go_ret
  exact ⟨rfl, rfl⟩
 ·have HR : Hid (Z.shortOf op = 0) := by show _ = _; unfold Z.shortOf; rw [if_neg h1, if_neg h2, if_neg h3]
  go_enter Tryz.func70, Tryz.ntmps70
  go_wp2
  go_ret
  exact ⟨by rw [HR.out]; rfl, rfl⟩

abbrev itV (t : X.It) (v : Value) : Value := .agg #[.int .i64 t.kind, .string (X.str t.name), .int .i64 t.op, .int .i64 t.a, .int .i64 t.b, .int .i64 t.n, v]

theorem isPlace_any (t : X.It) (aw : Option Addr) (lw cw : Nat) (w : World) : Calls Tryz.prog 46 #[itV t (.slice aw lw cw)] w fun e w' => e = .returned (.bool (Z.place t)) ∧ Below w.heap.size w w' := by
 obtain ⟨kd, nm, op, a, b, n, ws⟩ := t
 rcases (show kd = 1 ∨ kd = 3 ∨ (¬ kd = 1 ∧ ¬ kd = 3) by omega) with rfl | rfl | ⟨h1, h2⟩
 all_goals
  go_enter Tryz.func46, Tryz.ntmps46
  go_wp2
  go_ret
  refine ⟨?_, bl1 _ _⟩
  simp [Z.place, *]

theorem isShown_any (t : X.It) (aw : Option Addr) (lw cw : Nat) (w : World) : Calls Tryz.prog 47 #[itV t (.slice aw lw cw)] w fun e w' => e = .returned (.bool (Z.shown t)) ∧ Below w.heap.size w w' := by
 obtain ⟨kd, nm, op, a, b, n, ws⟩ := t
 rcases (show kd = 4 ∨ kd = 5 ∨ (¬ kd = 4 ∧ ¬ kd = 5) by omega) with rfl | rfl | ⟨h1, h2⟩
 all_goals
  go_enter Tryz.func47, Tryz.ntmps47
  go_wp2
  go_ret
  refine ⟨?_, bl1 _ _⟩
  simp [Z.shown, *]

theorem isJump_any (t : X.It) (aw : Option Addr) (lw cw : Nat) (w : World) : Calls Tryz.prog 48 #[itV t (.slice aw lw cw)] w fun e w' => e = .returned (.bool (Z.jump t)) ∧ Below w.heap.size w w' := by
 obtain ⟨kd, nm, op, a, b, n, ws⟩ := t
 have hs := shortOf_any op
 have HJ : Hid (Z.jump ⟨kd, nm, op, a, b, n, ws⟩ = decide (Z.shortOf op ≠ 0)) := rfl
 generalize Z.shortOf op = so at *
 go_enter Tryz.func48, Tryz.ntmps48
 go_wp2_with fail
 refine (hs _).mono ?_
 rintro e w' ⟨rfl, hw⟩
 rw [hw]
 go_wp2
 go_ret
 refine ⟨?_, bl1 _ _⟩
 rw [HJ.out]
 by_cases h : so = 0
 ·simp [h]
 ·simp [h]

/-! ### Names that were seen -/
theorem lawS : Keyed Tryz.prog 9 := string_keyed Tryz.underlying9
theorem zeroU (w : World) : (zeroValue 106).run Tryz.prog w = .ok (.agg #[]) w := by kernel_rfl
theorem zeroI (w : World) : (zeroValue 3).run Tryz.prog w = .ok (.int .i64 0) w := by kernel_rfl
def kset (l : List X.By) : DataW Unit := setOf (.agg []) (l.map Lit.string)
theorem kset_snoc (l : List X.By) (x : X.By) : kset (l ++ [x]) = (kset l).put (.string x) (.agg []) := by unfold kset; rw [List.map_append]; exact setOf_snoc _ _ _
theorem isKeyStr (x : X.By) : WideAt.IsKeyLit (.string x) := by simp [WideAt.IsKeyLit]
theorem has_kset (l : List X.By) (x : X.By) : Maps.has (kset l) (.string x) = decide (x ∈ l) := by
 unfold kset
 rw [has_setOf _ _ _ (fun y hy => by obtain ⟨z, -, rfl⟩ := List.mem_map.1 hy; exact isKeyStr z), List.any_map]
 induction l with
 | nil => simp
 | cons y l ih =>
  rw [List.any_cons, ih]
  by_cases h : x = y
  ·subst h; simp [Lit.sameKey]
  ·have h' : ¬ y = x := fun e => h e.symm
   simp [Lit.sameKey, h, h']
theorem keyStr (x : X.By) (h : x.length ≤ maxLen) : keyOf Tryz.prog 9 (.string (X.str x)) = some (.string x) := by
 have := Go.WideMaps.keyOf_string_mk Tryz.underlying9 (s := X.str x) (by rw [str_size]; exact h)
 rw [str_list] at this
 exact this

end Go.Proofs.YtgjingleolhkbaaGreatDoor

/- The document's assembler: jumps, labels, what is wrong with names. -/
namespace Go.Proofs.YtgjingleolhkbaaGreatDoor
open Go.RowKit Go.Maps
set_option linter.unusedVariables false
set_option linter.unusedSimpArgs false
namespace Z
def jumpD (t : X.It) : Bool := decide (t.kind = 2) && jump t
end Z
set_option maxRecDepth 100000 in
set_option maxHeartbeats 4000000 in
theorem rjump_any (t : X.It) (aw : Option Addr) (lw cw : Nat) (w : World) : Calls Tryz.prog 57 #[itV t (.slice aw lw cw)] w fun e w' => e = .returned (.bool (Z.jumpD t)) ∧ Below w.heap.size w w' := by
 obtain ⟨kd, nm, op, a, b, n, ws⟩ := t
 have HR : Hid (Z.jumpD ⟨kd, nm, op, a, b, n, ws⟩ = (decide (kd = 2) && decide (Z.shortOf op ≠ 0))) := rfl
 by_cases hk : kd = 2
 ·subst hk
  rcases (show op = 20 ∨ op = 21 ∨ op = 22 ∨ (¬ op = 20 ∧ ¬ op = 21 ∧ ¬ op = 22) by omega) with rfl | rfl | rfl | ⟨h1, h2, h3⟩
  ·go_enter Tryz.func57, Tryz.ntmps57
   go_wp2
   go_ret
   exact ⟨by rw [HR.out]; rfl, bl1 _ _⟩
  ·go_enter Tryz.func57, Tryz.ntmps57
   go_wp2
   go_ret
   exact ⟨by rw [HR.out]; rfl, bl1 _ _⟩
  ·go_enter Tryz.func57, Tryz.ntmps57
   go_wp2
   go_ret
   exact ⟨by rw [HR.out]; rfl, bl1 _ _⟩
  ·have e1 : (op == 20) = false := by simpa using h1
   have e2 : (op == 21) = false := by simpa using h2
   have e3 : (op == 22) = false := by simpa using h3
   have HZ : Hid (Z.shortOf op = 0) := by show _ = _; unfold Z.shortOf; rw [if_neg h1, if_neg h2, if_neg h3]
   clear h1 h2 h3
   go_enter Tryz.func57, Tryz.ntmps57
   go_wp2
   go_ret
   exact ⟨by rw [HR.out, HZ.out]; rfl, bl1 _ _⟩
 ·have e1 : (kd == 2) = false := by simpa using hk
  have HZ : Hid (decide (kd = 2) = false) := decide_eq_false hk
  clear hk
  go_enter Tryz.func57, Tryz.ntmps57
  go_wp2
  go_ret
  exact ⟨by rw [HR.out, HZ.out]; rfl, bl1 _ _⟩

theorem lab_first {ts : List X.It} {nm : X.By} {k : Nat} (hk : k < ts.length) (hb : ∀ i, i < k → Z.isLab nm (ts.getD i X.noIt) = false) (h : Z.isLab nm (ts.getD k X.noIt) = true) : Z.lab ts nm = some k := by
 unfold Z.lab
 rw [List.findIdx?_eq_some_iff_getElem]
 refine ⟨hk, by simpa [List.getD, hk] using h, fun j hj => ?_⟩
 have hjl : j < ts.length := by omega
 have := hb j hj
 rw [show ts.getD j X.noIt = ts[j] by simp [List.getD, hjl]] at this
 rw [this]
 simp
theorem lab_no {ts : List X.It} {nm : X.By} (hb : ∀ i, i < ts.length → Z.isLab nm (ts.getD i X.noIt) = false) : Z.lab ts nm = none := by
 unfold Z.lab
 rw [List.findIdx?_eq_none_iff]
 intro x hx
 obtain ⟨i, hi, rfl⟩ := List.getElem_of_mem hx
 have := hb i hi
 rw [show ts.getD i X.noIt = ts[i] by simp [List.getD, hi]] at this
 simpa using this
set_option maxRecDepth 100000 in
set_option maxHeartbeats 8000000 in
theorem rlabel_any {w : World} {a : Option Addr} {l c : Nat} {ts : List X.It} (h : ItsV w a l c ts) (nm : X.By) :
  Calls Tryz.prog 33 #[.slice a l c, .string (X.str nm)] w fun e w' => e = .returned (.tuple #[.int .i64 (Z.labN ts nm), .bool (Z.lab ts nm).isSome]) ∧ Below w.heap.size w w' := by
 have HV : Hid _ := h
 have HC : Hid (ts.length = l) := h.count
 have hm : l ≤ 9223372036854775807 := by have := h.room; unfold maxLen at this; omega
 clear h
 go_enter Tryz.func33, Tryz.ntmps33
 go_wp2_with fail
 go_loopg [6] l (fun r iv wq => ∃ (k : Nat), iv = .int .i64 k ∧ k ≤ l ∧ l - k ≤ r ∧ Hid (∀ i, i < k → Z.isLab nm (ts.getD i X.noIt) = false) ∧ Hid (Below w.heap.size w wq))
 case atStart => exact ⟨0, rfl, Nat.zero_le _, by omega, (fun i hi => by omega : ∀ i, i < 0 → Z.isLab nm (ts.getD i X.noIt) = false), Below.refl _ _⟩
 case round =>
  obtain ⟨k, rfl, hk, hr, HAL, HB⟩ := hrel
  by_cases hlt : k < l
  ·have hii : (k : Int) < l := by omega
   have hin : 0 ≤ (k : Int) := by omega
   obtain ⟨b, off, t, aw, lw, cw, rfl, hg, hmem, c0, c1, c2, c3, c4, c5, c6, hi⟩ := (HV.out.below HB.out).at hlt
   have HGD : Hid (ts.getD k X.noIt = t) := hg
   have HNX : Hid (Z.isLab nm t = false → ∀ i, i < k + 1 → Z.isLab nm (ts.getD i X.noIt) = false) := fun he i hi => by
    by_cases e : i = k
    ·subst e; rw [HGD.out]; exact he
    ·exact HAL.out i (by omega)
   clear hg hmem hi
   by_cases hkd : t.kind = 1
   ·have hkd' : (t.kind == 1) = true := by simpa using hkd
    by_cases hn : t.name = nm
    ·have hy : Z.isLab nm t = true := by unfold Z.isLab; rw [decide_eq_true hkd, decide_eq_true hn]; rfl
     have HR : Hid (Z.lab ts nm = some k) := lab_first (by rw [HC.out]; exact hlt) HAL.out (by rw [HGD.out]; exact hy)
     have HR2 : Hid (Z.labN ts nm = k) := by show _ = _; unfold Z.labN; rw [HR.out]; rfl
     have hne : ((X.str t.name).toList == (X.str nm).toList) = true := by rw [hn]; simp
     clear hkd hn hy
     go_wp2_with fail
     go_ret2
     exact ⟨by rw [HR.out, HR2.out]; rfl, HB.out⟩
    ·have hy : Z.isLab nm t = false := by unfold Z.isLab; rw [decide_eq_false hn, Bool.and_false]
     have HN2 : Hid _ := HNX.out hy
     have hne : ((X.str t.name).toList == (X.str nm).toList) = false := by
      rw [ByteArray.toList_eq, ByteArray.toList_eq, str_list, str_list]
      simpa using hn
     clear hkd hn hy
     go_wp2_with fail
     go_roundg (l - (k + 1))
     case measure => omega
     case rel => exact ⟨k + 1, by go_num, by omega, Nat.le_refl _, HN2.out, HB.out⟩
   ·have hkd' : (t.kind == 1) = false := by simpa using hkd
    have hy : Z.isLab nm t = false := by unfold Z.isLab; rw [decide_eq_false hkd, Bool.false_and]
    have HN2 : Hid _ := HNX.out hy
    clear hkd hy
    go_wp2_with fail
    go_roundg (l - (k + 1))
    case measure => omega
    case rel => exact ⟨k + 1, by go_num, by omega, Nat.le_refl _, HN2.out, HB.out⟩
  ·obtain rfl : k = l := by omega
   have hii : ¬ (k : Int) < k := by omega
   have HR : Hid (Z.lab ts nm = none) := lab_no (fun i hi => HAL.out i (by rw [← HC.out]; exact hi))
   have HR2 : Hid (Z.labN ts nm = 0) := by show _ = _; unfold Z.labN; rw [HR.out]; rfl
   go_wp2_with fail
   go_ret2
   exact ⟨by rw [HR.out, HR2.out]; rfl, HB.out⟩

end Go.Proofs.YtgjingleolhkbaaGreatDoor

/- What is wrong with names, and where labels are. -/
namespace Go.Proofs.YtgjingleolhkbaaGreatDoor
open Go.RowKit Go.Maps
set_option linter.unusedVariables false
set_option linter.unusedSimpArgs false

theorem cellA {w : World} {A : Array Value} {t g j : Nat} (hg : g = w.heap.size) {v : Value} (hv : A[j]? = some v) : (w.alloc (.cells A t)).cell? ⟨g, j, none⟩ = some v := by
 subst hg
 simp [hv]
theorem keptB {W W' : World} {k : TypeId} {R : Value → Option (DataW Unit × List MemPlace)} {b n : Nat} {D : DataW Unit} (h : W.ownsMap Tryz.prog k R b n D) (hb : Below W.heap.size W W') : W'.ownsMap Tryz.prog k R b n D :=
 h.kept (row := none) ⟨hb.os, hb.tape, hb.output, hb.size, fun j hj _ => hb.block j hj⟩ (by simp)

set_option maxRecDepth 100000 in
set_option maxHeartbeats 8000000 in
theorem unlike_any {w : World} {a : Option Addr} {l c : Nat} {ts : List X.It} (h : ItsV w a l c ts) (hl : l ≤ 20000) (f : Nat) (p : X.It → Bool)
  (hf : ∀ (t : X.It) (aw : Option Addr) (lw cw : Nat) (W : World), Calls Tryz.prog f #[itV t (.slice aw lw cw)] W fun e w' => e = .returned (.bool (p t)) ∧ Below W.heap.size W w')
  (hcf : ∀ (args : Array Value) (W : World), (callFunc f args).run Tryz.prog W = .ok (.enter f args) W) :
  Calls Tryz.prog 45 #[.slice a l c, .func (.func f) #[] #[]] w fun e w' => e = .returned (.bool (Z.unl p ts)) ∧ Below w.heap.size w w' := by
 have HV : Hid _ := h
 have HF : Hid _ := hf
 have HC : Hid (ts.length = l) := h.count
 clear h hf
 have hmm := @run_makeMap Tryz.prog
 go_enter Tryz.func45, Tryz.ntmps45
 go_wp2_with fail
 go_loopg [13] l (fun r iv wq => ∃ (k : Nat), iv = .int .i64 k ∧ k ≤ l ∧ l - k ≤ r ∧ Hid (wq.ownsMap Tryz.prog 9 unitElem w.heap.size k (kset (Z.nms p (ts.take k)))) ∧ Hid ((Z.nms p (ts.take k)).Nodup) ∧ Hid (Below w.heap.size w wq))
 case atStart =>
  refine ⟨0, rfl, Nat.zero_le _, by omega, ?_, ?_, bl1 _ _⟩
  ·show World.ownsMap _ _ _ _ _ _ _
   have := World.ownsMap_made w Tryz.prog 9 (unitElem (H := Unit))
   simpa [Z.nms, kset, setOf] using this
  ·show List.Nodup _
   simp [Z.nms]
 case round =>
  obtain ⟨k, rfl, hk, hr, HM, HN, HB⟩ := hrel
  by_cases hlt : k < l
  ·have hii : (k : Int) < l := by omega
   have hin : 0 ≤ (k : Int) := by omega
   obtain ⟨b, off, t, aw, lw, cw, rfl, hg, hmem, c0, c1, c2, c3, c4, c5, c6, hi⟩ := (HV.out.below HB.out).at hlt
   have HTK : Hid (ts.take (k + 1) = ts.take k ++ [t]) := by
    show _ = _
    have hk2 : k < ts.length := by rw [HC.out]; exact hlt
    rw [List.take_add_one, List.getElem?_eq_getElem hk2]
    simp only [List.getD, List.getElem?_eq_getElem hk2, Option.getD_some] at hg
    rw [hg]
    rfl
   have HGT : Hid (ts[k]? = some t) := by
    show _ = _
    have hk2 : k < ts.length := by rw [HC.out]; exact hlt
    simp only [List.getD, List.getElem?_eq_getElem hk2, Option.getD_some] at hg
    rw [List.getElem?_eq_getElem hk2, hg]
   have hfit := (HV.out.fit t hmem).1
   have hkey := keyStr t.name hfit
   have hsz : w.heap.size ≤ wr.heap.size := HB.out.size
   clear hg hmem hi hfit
   obtain ⟨Y0, hY0⟩ : ∃ Y0, wr.alloc (.cells #[.int .i64 t.kind, .string (X.str t.name), .int .i64 t.op, .int .i64 t.a, .int .i64 t.b, .int .i64 t.n, .slice aw lw cw] 44) = Y0 := ⟨_, rfl⟩
   have f0 : Y0.cell? ⟨wr.heap.size, 0, none⟩ = some (.int .i64 t.kind) := by subst hY0; exact cellA rfl rfl
   have f1 : Y0.cell? ⟨wr.heap.size, 1, none⟩ = some (.string (X.str t.name)) := by subst hY0; exact cellA rfl rfl
   have f2 : Y0.cell? ⟨wr.heap.size, 2, none⟩ = some (.int .i64 t.op) := by subst hY0; exact cellA rfl rfl
   have f3 : Y0.cell? ⟨wr.heap.size, 3, none⟩ = some (.int .i64 t.a) := by subst hY0; exact cellA rfl rfl
   have f4 : Y0.cell? ⟨wr.heap.size, 4, none⟩ = some (.int .i64 t.b) := by subst hY0; exact cellA rfl rfl
   have f5 : Y0.cell? ⟨wr.heap.size, 5, none⟩ = some (.int .i64 t.n) := by subst hY0; exact cellA rfl rfl
   have f6 : Y0.cell? ⟨wr.heap.size, 6, none⟩ = some (.slice aw lw cw) := by subst hY0; exact cellA rfl rfl
   have bY0 : Below wr.heap.size wr Y0 := by subst hY0; exact bl1 _ _
   have HY0 : Hid (Below w.heap.size w Y0) := HB.out.trans (bY0.mono hsz)
   have HM0 : Hid (Y0.ownsMap Tryz.prog 9 unitElem w.heap.size k (kset (Z.nms p (ts.take k)))) := keptB HM.out bY0
   clear bY0
   have hcall := HF.out t aw lw cw Y0
   cases hp : p t with
   | false =>
    rw [hp] at hcall
    have HNX : Hid (Z.nms p (ts.take (k + 1)) = Z.nms p (ts.take k)) := by show _ = _; rw [HTK.out, Z.nms_snoc_no hp]
    clear hp
    go_wp2_with fail
    refine hcall.mono ?_
    rintro e w1 ⟨rfl, hb1⟩
    have HW1 : Hid (Below w.heap.size w w1) := HY0.out.trans (hb1.mono HY0.out.size)
    have HM1 : Hid _ := keptB HM0.out hb1
    clear hb1 hcall f0 f1 f2 f3 f4 f5 f6
    go_wp2_with fail
    go_roundg (l - (k + 1))
    case measure => omega
    case rel => exact ⟨k + 1, by go_num, by omega, Nat.le_refl _, (by rw [HNX.out]; exact World.ownsMap.mono HM1.out (Nat.le_succ _)), (by rw [HNX.out]; exact HN.out), HW1.out⟩
   | true =>
    rw [hp] at hcall
    have HNX : Hid (Z.nms p (ts.take (k + 1)) = Z.nms p (ts.take k) ++ [t.name]) := by show _ = _; rw [HTK.out, Z.nms_snoc_yes hp]
    have HNO : Hid (t.name ∈ Z.nms p (ts.take k) → Z.unl p ts = false) := fun hm => Z.unl_no HGT.out hp hm
    have hH := has_kset (Z.nms p (ts.take k)) t.name
    clear hp
    go_wp2_with fail
    refine hcall.mono ?_
    rintro e w1 ⟨rfl, hb1⟩
    have HW1 : Hid (Below w.heap.size w w1) := HY0.out.trans (hb1.mono HY0.out.size)
    have HM1 : Hid (w1.ownsMap Tryz.prog 9 unitElem w.heap.size k (kset (Z.nms p (ts.take k)))) := keptB HM0.out hb1
    have g1 := cell_thru hb1 f1
    have hsz1 : w.heap.size ≤ w1.heap.size := HW1.out.size
    clear hb1 hcall f0 f1 f2 f3 f4 f5 f6 c0 c1 c2 c3 c4 c5 c6
    by_cases hm : t.name ∈ Z.nms p (ts.take k)
    ·rw [decide_eq_true hm] at hH
     have HR : Hid (Z.unl p ts = false) := HNO.out hm
     clear hm
     go_wp2_with (first | (at_lookup; refine wpList_lookup_own_unit _ rfl _ _ 105 rfl 9 106 lawS Tryz.underlying105 (zeroU _) w.heap.size k _ rfl HM1.out _ _ rfl hkey ?_) | go_in)
     go_ret
     exact ⟨by rw [HR.out]; rfl, HW1.out.alloc hsz1 _⟩
    ·rw [decide_eq_false hm] at hH
     have HND : Hid ((Z.nms p (ts.take (k + 1))).Nodup) := by
      show List.Nodup _
      rw [HNX.out, List.nodup_append]
      refine ⟨HN.out, by simp, fun x hx y hy e => ?_⟩
      simp at hy
      subst hy e
      exact hm hx
     clear hm
     obtain ⟨Y2, hY2⟩ : ∃ Y2, w1.alloc (.cells #[] 106) = Y2 := ⟨_, rfl⟩
     have bY2 : Below w1.heap.size w1 Y2 := by subst hY2; exact bl1 _ _
     have HM2 : Hid (Y2.ownsMap Tryz.prog 9 unitElem w.heap.size k (kset (Z.nms p (ts.take k)))) := keptB HM1.out bY2
     have g2 := cell_thru bY2 g1
     have HW2 : Hid (Below w.heap.size w Y2) := HW1.out.trans (bY2.mono hsz1)
     have hsz2 : w.heap.size ≤ Y2.heap.size := HW2.out.size
     clear bY2
     go_wp2_with (first | (at_lookup; refine wpList_lookup_own_unit _ rfl _ _ 105 rfl 9 106 lawS Tryz.underlying105 (zeroU _) w.heap.size k _ rfl HM1.out _ _ rfl hkey ?_) | (at_mapUpdate; refine wpList_mapUpdate_own _ rfl _ _ _ 105 rfl 9 106 lawS Tryz.underlying105 (unitElem (H := Unit)) w.heap.size k _ rfl HM2.out (by unfold maxLen; omega) _ _ _ rfl rfl hkey _ [] unitElem_mk ?_; intro w5 hown5 hg5) | go_in)
     have HO5 : Hid (w5.ownsMap Tryz.prog 9 unitElem w.heap.size (k + 1) (kset (Z.nms p (ts.take (k + 1))))) := by
      show World.ownsMap _ _ _ _ _ _ _
      rw [HNX.out, kset_snoc]
      exact hown5
     have HB5 : Hid (Below w.heap.size w w5) := HW2.out.grown hg5 hsz2 (fun j hj => by cases hj; exact Nat.le_refl _)
     clear hown5 hg5
     go_roundg (l - (k + 1))
     case measure => omega
     case rel => exact ⟨k + 1, by go_num, by omega, Nat.le_refl _, HO5.out, HND.out, HB5.out⟩
  ·obtain rfl : k = l := by omega
   have hii : ¬ (k : Int) < k := by omega
   have HR : Hid (Z.unl p ts = true) := by
    show _ = _
    have := HN.out
    rw [List.take_of_length_le (by rw [HC.out]; exact Nat.le_refl _)] at this
    exact decide_eq_true this
   go_wp2_with fail
   go_ret
   exact ⟨by rw [HR.out]; rfl, HB.out⟩

end Go.Proofs.YtgjingleolhkbaaGreatDoor

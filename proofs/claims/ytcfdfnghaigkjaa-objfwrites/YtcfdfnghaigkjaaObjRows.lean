/- An object that is being read: its block, its rows, beside the reader. -/
import Derived.Test.YtcfdfnghaigkjaaObjBackMath
namespace Go.Proofs.Ytcfdfnghaigkjaa
open Go.RowKit Go.Maps Go.Lib
set_option linter.unusedVariables false

/-- A row of the call's own. -/
structure Row where
  ty : TypeId
  k : Nat
  v : Value
  n : Nat
  cs : List Value
structure OB (w x : World) (br : Nat) (s : ByteArray) (i z : Nat) (cv : Value) (rs : List Row) (os : List Value) : Prop where
  rd : RdV x br s i
  g : w.grownBy x (some br)
  c0 : x.cell? ⟨z, 0, none⟩ = some cv
  ck : ∀ (k : Nat) (r : Row), rs[k]? = some r → x.cell? ⟨z, k + 1, none⟩ = some r.v
  fz : ∀ o, x.frozen? ⟨z, o, none⟩ = false
  res : Cells x w.heap.size os
  rz : ∀ o, x.frozen? ⟨w.heap.size, o, none⟩ = false
  own : ∀ (k : Nat) (r : Row), rs[k]? = some r → x.ownsRow (w.heap.size + 1) r.ty r.k r.v r.n r.cs ∧ r.v.ownBlock ≠ some z
  dis : ∀ (k l : Nat) (r q : Row), rs[k]? = some r → rs[l]? = some q → k ≠ l → ∀ b, r.v.ownBlock = some b → q.v.ownBlock ≠ some b
  zw : w.heap.size < z
  zl : z < x.heap.size
  lt : br < w.heap.size

theorem grown_row {w x : World} {b o : Nat} {v : Value} {row : Option Nat} (h : w.grownBy x row) (hc : w.cell? ⟨b, o, none⟩ = some v) (hne : row ≠ some b) : x.cell? ⟨b, o, none⟩ = some v := h.cell hc (fun e => hne e.symm)
theorem RdV.grown {w x : World} {br : Nat} {s : ByteArray} {i : Nat} {row : Option Nat} (h : RdV w br s i) (g : w.grownBy x row) (hne : row ≠ some br) : RdV x br s i :=
  ⟨grown_row g h.c0 hne, grown_row g h.c1 hne, fun o => (g.frozen_far ⟨br, o, none⟩ h.lt (fun e => hne e.symm)).trans (h.fz o), h.le, h.sz⟩
theorem grown_into {w x y : World} {br : Nat} {row : Option Nat} (h : w.grownBy x (some br)) (k : x.grownBy y row) (hr : ∀ b, row = some b → w.heap.size ≤ b) : w.grownBy y (some br) :=
  ⟨k.os.trans h.os, k.tape.trans h.tape, k.output.trans h.output, Nat.le_trans h.size k.size, fun j hj hne => (k.block j (Nat.lt_of_lt_of_le hj h.size) (fun e => by have := hr j e.symm; omega)).trans (h.block j hj hne)⟩

theorem OB.call {w x y : World} {br : Nat} {s : ByteArray} {i j z : Nat} {cv : Value} {rs : List Row} {os : List Value} (h : OB w x br s i z cv rs os) (hr : RdV y br s j) (hg : x.grownBy y (some br)) : OB w y br s j z cv rs os :=
  have hl := h.lt
  have hz := h.zw
  have hx := h.zl
  { rd := hr, g := grown_trans h.g hg, c0 := grown_cell hg h.c0 (by omega), ck := fun k r hk => grown_cell hg (h.ck k r hk) (by omega), fz := fun o => grown_froz hg h.zl (by omega) (h.fz o), res := fun k u hu => grown_cell hg (h.res k u hu) (by omega), rz := fun o => grown_froz hg (by omega) (by omega) (h.rz o), own := fun k r hk => ⟨(h.own k r hk).1.kept hg (.inr fun e => by have := ((h.own k r hk).1.lt _ e).1; omega), (h.own k r hk).2⟩, dis := h.dis, zw := h.zw, zl := Nat.lt_of_lt_of_le h.zl hg.size, lt := h.lt }
theorem OB.below {w x y : World} {br : Nat} {s : ByteArray} {i z : Nat} {cv : Value} {rs : List Row} {os : List Value} (h : OB w x br s i z cv rs os) (hb : Below x.heap.size x y) : OB w y br s i z cv rs os :=
  h.call (h.rd.below hb) ⟨hb.os, hb.tape, hb.output, hb.size, fun k hk _ => hb.block k hk⟩
theorem OB.drew {w x : World} {br : Nat} {s : ByteArray} {i z : Nat} {cv : Value} {rs : List Row} {os : List Value} (h : OB w x br s i z cv rs os) : OB w x.drew br s i z cv rs os := h.below (Below.refl _ _).drew
theorem OB.code {w x : World} {br : Nat} {s : ByteArray} {i z : Nat} {cv : Value} {rs : List Row} {os : List Value} (h : OB w x br s i z cv rs os) (u : Value) : OB w (x.setCell ⟨z, 0, none⟩ u) br s i z u rs os :=
  have hl := h.lt
  have hz := h.zw
  { rd := h.rd.far _ _ (by show z ≠ br; omega), g := grown_far h.g _ _ (by show w.heap.size ≤ z; omega), c0 := World.cell?_setCell_same' _ _ _ (by rw [h.c0]; rfl), ck := fun k r hk => (World.cell?_setCell_other _ _ _ _ (by simp)).trans (h.ck k r hk), fz := fun o => by rw [World.frozen?_setCell]; exact h.fz o, res := fun k u hu => (World.cell?_setCell_far _ _ _ _ (by show z ≠ w.heap.size; omega)).trans (h.res k u hu), rz := fun o => by rw [World.frozen?_setCell]; exact h.rz o, own := fun k r hk => ⟨(h.own k r hk).1.kept (gb_setO x ⟨z, 0, none⟩ u) (.inr (h.own k r hk).2), (h.own k r hk).2⟩, dis := h.dis, zw := h.zw, zl := by rw [World.size_setCell]; exact h.zl, lt := h.lt }
theorem OB.ret {w x : World} {br : Nat} {s : ByteArray} {i z : Nat} {cv : Value} {rs : List Row} {os : List Value} (h : OB w x br s i z cv rs os) (k : Nat) (hk : k < os.length) (u : Value) : OB w (x.setCell ⟨w.heap.size, k, none⟩ u) br s i z cv rs (os.set k u) :=
  have hl := h.lt
  have hz := h.zw
  { rd := h.rd.far _ _ (by show w.heap.size ≠ br; omega), g := grown_far h.g _ _ (Nat.le_refl _), c0 := (World.cell?_setCell_far _ _ _ _ (by show w.heap.size ≠ z; omega)).trans h.c0, ck := fun k r hk => (World.cell?_setCell_far _ _ _ _ (by show w.heap.size ≠ z; omega)).trans (h.ck k r hk), fz := fun o => by rw [World.frozen?_setCell]; exact h.fz o,
    res := fun j v hv => by
      by_cases e : k = j
      · subst e
        rw [List.getElem?_set_self hk] at hv
        cases hv
        refine World.cell?_setCell_same' _ _ _ ?_
        rw [h.res k os[k] (by simp [hk])]
        rfl
      · rw [List.getElem?_set_ne e] at hv
        rw [World.cell?_setCell_other _ _ _ _ (fun e' => e (by have := congrArg Addr.off e'; simpa using this))]
        exact h.res j v hv
    rz := fun o => by rw [World.frozen?_setCell]; exact h.rz o, own := fun k r hk => ⟨(h.own k r hk).1.kept (gb_setO x ⟨w.heap.size, _, none⟩ u) (.inr fun e => by have := ((h.own k r hk).1.lt _ e).1; simp at this; omega), (h.own k r hk).2⟩, dis := h.dis, zw := h.zw, zl := by rw [World.size_setCell]; exact h.zl, lt := h.lt }
theorem OB.push {w x y : World} {br : Nat} {s : ByteArray} {i z : Nat} {cv : Value} {rs : List Row} {os : List Value} (h : OB w x br s i z cv rs os) {k : Nat} {r : Row} (hk : rs[k]? = some r) {g n cap : Nat} {cs : List Value} {H : Nat} (ho : y.ownsRow (w.heap.size + 1) r.ty r.k (.slice (some ⟨g, 0, none⟩) n cap) n cs) (hg : x.grownBy y r.v.ownBlock) (hat : r.v.ownBlock = some g ∨ g = H) (hH : x.heap.size = H) :
    OB w (y.setCell ⟨z, k + 1, none⟩ (.slice (some ⟨g, 0, none⟩) n cap)) br s i z cv (rs.set k ⟨r.ty, r.k, .slice (some ⟨g, 0, none⟩) n cap, n, cs⟩) os := by
  subst hH
  have hl := h.lt
  have hz := h.zw
  have hx := h.zl
  obtain ⟨hor, hzr⟩ := h.own k r hk
  have hrb : ∀ b, r.v.ownBlock = some b → w.heap.size + 1 ≤ b := fun b e => (hor.lt b e).1
  have nbr : r.v.ownBlock ≠ some br := fun e => by have := hrb _ e; omega
  have nws : r.v.ownBlock ≠ some w.heap.size := fun e => by have := hrb _ e; omega
  have gz : g ≠ z := fun e => by
    subst e
    rcases hat with h1 | h1
    · exact hzr h1
    · omega
  have hkl : k < rs.length := (List.getElem?_eq_some_iff.1 hk).1
  have hY : RdV y br s i := h.rd.grown hg nbr
  have row : ∀ l q, (rs.set k ⟨r.ty, r.k, .slice (some ⟨g, 0, none⟩) n cap, n, cs⟩)[l]? = some q → (l = k ∧ q = ⟨r.ty, r.k, .slice (some ⟨g, 0, none⟩) n cap, n, cs⟩) ∨ (l ≠ k ∧ rs[l]? = some q) := fun l q hq => by
    by_cases e : k = l
    · subst e
      rw [List.getElem?_set_self hkl] at hq
      exact .inl ⟨rfl, by simpa using hq.symm⟩
    · rw [List.getElem?_set_ne e] at hq
      exact .inr ⟨fun e' => e e'.symm, hq⟩
  refine { rd := hY.far _ _ (by show z ≠ br; omega), g := grown_far (grown_into h.g hg (fun b e => by have := hrb b e; omega)) _ _ (by show w.heap.size ≤ z; omega), c0 := (World.cell?_setCell_other _ _ _ _ (by simp)).trans (grown_row hg h.c0 hzr), ck := ?_, fz := fun o => by rw [World.frozen?_setCell]; exact (hg.frozen_far ⟨z, o, none⟩ hx (fun e => hzr e.symm)).trans (h.fz o), res := fun j u hu => (World.cell?_setCell_far _ _ _ _ (by show z ≠ w.heap.size; omega)).trans (grown_row hg (h.res j u hu) nws), rz := fun o => by rw [World.frozen?_setCell]; exact (hg.frozen_far ⟨w.heap.size, o, none⟩ (by show w.heap.size < _; omega) (fun e => nws e.symm)).trans (h.rz o), own := ?_, dis := ?_, zw := h.zw, zl := by rw [World.size_setCell]; exact Nat.lt_of_lt_of_le hx hg.size, lt := h.lt }
  · intro l q hq
    rcases row l q hq with ⟨rfl, rfl⟩ | ⟨hne, hq'⟩
    · exact World.cell?_setCell_same' _ _ _ (by rw [grown_row hg (h.ck l r hk) hzr]; rfl)
    · exact (World.cell?_setCell_other _ _ _ _ (fun e => hne (by have := congrArg Addr.off e; simp at this; omega))).trans (grown_row hg (h.ck l q hq') hzr)
  · intro l q hq
    rcases row l q hq with ⟨rfl, rfl⟩ | ⟨hne, hq'⟩
    · exact ⟨ho.kept (gb_setO y ⟨z, _, none⟩ _) (.inr fun e => gz (by simpa [Value.ownBlock] using e)), fun e => gz (by simpa [Value.ownBlock] using e)⟩
    · obtain ⟨o1, o2⟩ := h.own l q hq'
      refine ⟨(o1.kept hg ?_).kept (gb_setO y ⟨z, _, none⟩ _) (.inr o2), o2⟩
      cases e : q.v.ownBlock with
      | none => exact .inl rfl
      | some b => exact .inr fun e' => h.dis l k q r hq' hk hne b e e'.symm
  · intro l m q p hq hp hlm b hb
    rcases row l q hq with ⟨rfl, rfl⟩ | ⟨hne, hq'⟩
    · rcases row m p hp with ⟨rfl, rfl⟩ | ⟨hne', hp'⟩
      · exact absurd rfl hlm
      · have : g = b := by simpa [Value.ownBlock] using hb
        subst this
        intro e
        rcases hat with h1 | h1
        · exact h.dis m l p r hp' hk hne' g e h1
        · have := ((h.own m p hp').1.lt _ e).2
          omega
    · rcases row m p hp with ⟨rfl, rfl⟩ | ⟨hne', hp'⟩
      · intro e
        have : g = b := by simpa [Value.ownBlock] using e
        subst this
        rcases hat with h1 | h1
        · exact h.dis l m q r hq' hk hne g hb h1
        · have := ((h.own l q hq').1.lt _ hb).2
          omega
      · exact h.dis l m q p hq' hp' hlm b hb

def intC (x : Int) : List Value := [.int .i64 x]
def symC (x : Sym) : List Value := [.string x.name, .int .i64 x.kind, .int .i64 x.pos]
def relC (x : Rel) : List Value := [.int .i64 x.pos, .int .i64 x.kind, .string x.name, .int .i64 x.add]
/-- An object whose rows are all of them new: nothing of it lies below B. -/
structure ObjF (B : Nat) (w : World) (v : Value) (o : ObjD) : Prop where
  form : ∃ v1 v2 v3, v = .agg #[.string o.code, v1, v2, v3] ∧ w.ownsRow B 2 1 v1 o.data.length (o.data.flatMap intC) ∧ w.ownsRow B 41 3 v2 o.syms.length (o.syms.flatMap symC) ∧ w.ownsRow B 43 4 v3 o.rels.length (o.rels.flatMap relC)
  isin : ObjIn o

theorem flat_at {α : Type} (f : α → List Value) (m : Nat) (d : α) (hm : ∀ x, (f x).length = m) : ∀ (l : List α) (i j : Nat), i < l.length → j < m → (l.flatMap f)[i * m + j]? = (f (l.getD i d))[j]?
  | [], i, j, hi, _ => by simp at hi
  | x :: l, 0, j, hi, hj => by
    rw [List.flatMap_cons, Nat.zero_mul, Nat.zero_add, List.getElem?_append_left (by rw [hm]; exact hj)]
    rfl
  | x :: l, i + 1, j, hi, hj => by
    rw [List.flatMap_cons, List.getElem?_append_right (by rw [hm, Nat.succ_mul]; omega), hm, show (i + 1) * m + j - m = i * m + j by rw [Nat.succ_mul]; omega, flat_at f m d hm l i j (by simpa using hi) hj]
    rfl
theorem row_at {w : World} {B : Nat} {ty : TypeId} {m n : Nat} {v : Value} {α : Type} {f : α → List Value} {l : List α} (d : α) (hm : ∀ x, (f x).length = m) (h : w.ownsRow B ty m v n (l.flatMap f)) (hn : l.length = n) :
    ∃ a c, v = .slice a n c ∧ (a = none → n = 0 ∧ c = 0) ∧ (n = 0 ∨ ∃ b off, a = some ⟨b, off, none⟩ ∧ ∀ i, i < n → ∀ j u, j < m → (f (l.getD i d))[j]? = some u → w.cell? ⟨b, off + i * m + j, none⟩ = some u) := by
  rcases h.2 with ⟨rfl, rfl⟩ | ⟨g, cap, cur, rfl, hb, hh, h1, h2, h3, h4⟩
  · exact ⟨none, 0, rfl, fun _ => ⟨rfl, rfl⟩, .inl rfl⟩
  · refine ⟨_, _, rfl, fun e => (by cases e), .inr ⟨g, 0, rfl, fun i hi j u hj hu => ?_⟩⟩
    have hlt : i * m + j < n * m := by
      have : (i + 1) * m ≤ n * m := Nat.mul_le_mul_right m hi
      rw [Nat.succ_mul] at this
      omega
    rw [Nat.zero_add, h.cellAt _ hlt, flat_at f m d hm l i j (by omega) hj]
    exact hu
theorem ObjF.toV {B : Nat} {w : World} {v : Value} {o : ObjD} (h : ObjF B w v o) : ObjV w v o := by
  obtain ⟨v1, v2, v3, rfl, o1, o2, o3⟩ := h.form
  obtain ⟨hc, ⟨-, hd⟩, ⟨-, hs⟩, ⟨-, hr⟩⟩ := h.isin
  obtain ⟨a1, c1, rfl, n1, k1⟩ := row_at (m := 1) (f := intC) 0 (fun _ => rfl) o1 rfl
  obtain ⟨a2, c2, rfl, n2, k2⟩ := row_at (m := 3) (f := symC) noSym (fun _ => rfl) o2 rfl
  obtain ⟨a3, c3, rfl, n3, k3⟩ := row_at (m := 4) (f := relC) noRel (fun _ => rfl) o3 rfl
  have w64 : ∀ {x : Int} {m : Int}, 0 ≤ x → x ≤ 65536 → (Lit.int .i64 x).wf = true := fun h0 h1 => by
    simp [Lit.wf, IntKind.min, IntKind.max, IntKind.signed, IntKind.bits]
    omega
  refine ⟨⟨_, _, _, _, _, _, _, _, _, rfl, by unfold maxLen; omega, ⟨rfl, hd, n1, ?_⟩, ⟨rfl, fun x hx => ?_, n2, ?_⟩, ⟨rfl, fun x hx => ?_, n3, ?_⟩⟩⟩
  · rcases k1 with h0 | ⟨b, off, ha, hk⟩
    · exact .inl h0
    · exact .inr ⟨b, off, ha, fun i hi => by have := hk i hi 0 _ (by decide) rfl; simpa using this⟩
  · obtain ⟨h1, h2, h3⟩ := hs x hx
    exact ⟨by unfold maxLen; omega, w64 (m := 0) h2.1 (by omega), w64 (m := 0) h3.1 h3.2⟩
  · rcases k2 with h0 | ⟨b, off, ha, hk⟩
    · exact .inl h0
    · exact .inr ⟨b, off, ha, fun i hi => ⟨by have := hk i hi 0 _ (by decide) rfl; simpa using this, hk i hi 1 _ (by decide) rfl, hk i hi 2 _ (by decide) rfl⟩⟩
  · obtain ⟨h1, h2, h3, h4⟩ := hr x hx
    exact ⟨by unfold maxLen; omega, w64 (m := 0) h2.1 (by omega), w64 (m := 0) h1.1 h1.2, h4⟩
  · rcases k3 with h0 | ⟨b, off, ha, hk⟩
    · exact .inl h0
    · exact .inr ⟨b, off, ha, fun i hi => ⟨by have := hk i hi 0 _ (by decide) rfl; simpa using this, hk i hi 1 _ (by decide) rfl, hk i hi 2 _ (by decide) rfl, hk i hi 3 _ (by decide) rfl⟩⟩
theorem ObjF.below {B : Nat} {w w1 : World} {v : Value} {o : ObjD} (h : ObjF B w v o) (hb : Below w.heap.size w w1) : ObjF B w1 v o := by
  obtain ⟨v1, v2, v3, e, o1, o2, o3⟩ := h.form
  have g : w.grownBy w1 none := ⟨hb.os, hb.tape, hb.output, hb.size, fun k hk _ => hb.block k hk⟩
  have kp : ∀ {ty : TypeId} {k : Nat} {u : Value} {n : Nat} {cs : List Value}, w.ownsRow B ty k u n cs → w1.ownsRow B ty k u n cs := fun {ty k u n cs} hu => by
    cases e : u.ownBlock with
    | none => exact hu.kept g (.inl e)
    | some b => exact hu.kept g (.inr (by rw [e]; simp))
  exact ⟨⟨v1, v2, v3, e, kp o1, kp o2, kp o3⟩, h.isin⟩

end Go.Proofs.Ytcfdfnghaigkjaa

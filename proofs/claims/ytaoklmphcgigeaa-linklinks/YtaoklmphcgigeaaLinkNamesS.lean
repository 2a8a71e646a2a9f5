/- Objects of one's own, whose names are turned. -/
import Derived.Test.YtaoklmphcgigeaaLinkCopies
import Derived.Test.YtaoklmphcgigeaaLinkNameM
namespace Go.Proofs.Ytaoklmphcgigeaa
open Go.RowKit Go.Lib
set_option linter.unusedVariables false
set_option linter.unusedSimpArgs false

theorem symC_set : ∀ (l : List Sym) (k : Nat) (s : Sym) (nm : ByteArray), l[k]? = some s → (l.flatMap symC).set (k * 3) (.string nm) = (l.set k ⟨nm, s.kind, s.pos⟩).flatMap symC
  | [], k, s, nm, h => by simp at h
  | x :: l, 0, s, nm, h => by
    simp at h
    subst h
    rfl
  | x :: l, k + 1, s, nm, h => by
    rw [List.set_cons_succ, List.flatMap_cons, List.flatMap_cons, ← symC_set l k s nm (by simpa using h), show (k + 1) * 3 = k * 3 + 3 by omega]
    rfl
theorem relC_set : ∀ (l : List Rel) (k : Nat) (s : Rel) (nm : ByteArray), l[k]? = some s → (l.flatMap relC).set (k * 4 + 2) (.string nm) = (l.set k ⟨s.pos, s.kind, nm, s.add⟩).flatMap relC
  | [], k, s, nm, h => by simp at h
  | x :: l, 0, s, nm, h => by
    simp at h
    subst h
    rfl
  | x :: l, k + 1, s, nm, h => by
    rw [List.set_cons_succ, List.flatMap_cons, List.flatMap_cons, ← relC_set l k s nm (by simpa using h), show (k + 1) * 4 + 2 = k * 4 + 2 + 4 by omega]
    rfl
theorem rows_setS : ∀ (pl : List (ObjD × Sl)) (i : Nat) (o o' : ObjD) (s : Sl), pl[i]? = some (o, s) → o'.code = o.code → o'.data = o.data → o'.rels = o.rels → (pl.set i (o', s)).flatMap objRows = (pl.flatMap objRows).set (i * 3 + 1) (rowS o' (.slice s.a2 s.l2 s.c2)) ∧ (pl.set i (o', s)).flatMap objC = pl.flatMap objC
  | [], i, o, o', s, h, _, _, _ => by simp at h
  | x :: pl, 0, o, o', s, h, h1, h2, h3 => by
    simp at h
    subst h
    constructor
    · simp [objRows, rowI, rowR, h2, h3]
    · simp [objC, h1]
  | x :: pl, i + 1, o, o', s, h, h1, h2, h3 => by
    obtain ⟨k1, k2⟩ := rows_setS pl i o o' s (by simpa using h) h1 h2 h3
    rw [List.set_cons_succ, List.flatMap_cons, List.flatMap_cons, List.flatMap_cons, List.flatMap_cons, k1, k2, show (i + 1) * 3 + 1 = i * 3 + 1 + 3 by omega]
    exact ⟨rfl, rfl⟩
theorem rows_setR : ∀ (pl : List (ObjD × Sl)) (i : Nat) (o o' : ObjD) (s : Sl), pl[i]? = some (o, s) → o'.code = o.code → o'.data = o.data → o'.syms = o.syms → (pl.set i (o', s)).flatMap objRows = (pl.flatMap objRows).set (i * 3 + 2) (rowR o' (.slice s.a3 s.l3 s.c3)) ∧ (pl.set i (o', s)).flatMap objC = pl.flatMap objC
  | [], i, o, o', s, h, _, _, _ => by simp at h
  | x :: pl, 0, o, o', s, h, h1, h2, h3 => by
    simp at h
    subst h
    constructor
    · simp [objRows, rowI, rowS, h2, h3]
    · simp [objC, h1]
  | x :: pl, i + 1, o, o', s, h, h1, h2, h3 => by
    obtain ⟨k1, k2⟩ := rows_setR pl i o o' s (by simpa using h) h1 h2 h3
    rw [List.set_cons_succ, List.flatMap_cons, List.flatMap_cons, List.flatMap_cons, List.flatMap_cons, k1, k2, show (i + 1) * 3 + 2 = i * 3 + 2 + 3 by omega]
    exact ⟨rfl, rfl⟩
/-- Objects of one's own. -/
structure OwnSt (w x : World) (v : Value) (cur : List ObjD) : Prop where
  ex : ∃ pl, pl.map Prod.fst = cur ∧ BS w x (ownRows v pl) []
theorem OwnSt.low {w x : World} {v : Value} {cur : List ObjD} (h : OwnSt w x v cur) : Below w.heap.size w x := by
  obtain ⟨pl, -, h⟩ := h.ex
  exact h.low
theorem OwnSt.below {w x y : World} {v : Value} {cur : List ObjD} (h : OwnSt w x v cur) (hb : Below x.heap.size x y) : OwnSt w y v cur := by
  obtain ⟨pl, h1, h⟩ := h.ex
  exact ⟨pl, h1, h.below hb⟩
theorem OwnSt.objs {w x : World} {v : Value} {cur : List ObjD} (h : OwnSt w x v cur) (hf : ∀ o ∈ cur, FitO o) (hn : cur.length ≤ maxLen) : ∃ a c, v = .slice a cur.length c ∧ ObjsV x a cur.length c cur := by
  obtain ⟨pl, h1, h⟩ := h.ex
  have hl : pl.length = cur.length := by rw [← h1, List.length_map]
  obtain ⟨a, c, e, hP⟩ := own_objs h (fun p hp => hf p.1 (by rw [← h1]; exact List.mem_map.2 ⟨p, hp, rfl⟩)) (by omega)
  have := objs_v hP
  rw [h1, hl] at this
  rw [hl] at e
  exact ⟨a, c, e, this⟩
/-- A symbol's name is stored. -/
theorem OwnSt.setS {w x : World} {v : Value} {pl : List (ObjD × Sl)} (h : BS w x (ownRows v pl) []) {i k g : Nat} {o : ObjD} {s : Sl} {y : Sym} (hi : pl[i]? = some (o, s)) (hy : o.syms[k]? = some y) (hg : s.a2 = some ⟨g, 0, none⟩) (nm : ByteArray) : OwnSt w (x.setCell ⟨g, k * 3, none⟩ (.string nm)) v ((pl.map Prod.fst).set i ⟨o.code, o.data, o.syms.set k ⟨nm, y.kind, y.pos⟩, o.rels⟩) := by
  have hr := h.own _ _ (h.obj hi 1 _ (by decide) rfl)
  have hrow := h.obj hi 1 _ (by decide) rfl
  have hc := own_cap hr
  simp only [rowS] at hr hc
  rw [hg] at hr
  have hc1 : s.l2 = o.syms.length := hc.1
  rw [hc1] at hr
  have hst := hr.stored (k * 3) (.string nm)
  rw [symC_set _ _ _ _ hy] at hst
  have hp := h.push (k := i * 3 + 1 + 1) hrow (v' := .slice s.a2 s.l2 s.c2) (n := o.syms.length) (cs := (o.syms.set k ⟨nm, y.kind, y.pos⟩).flatMap symC) (y := x.setCell ⟨g, k * 3, none⟩ (.string nm)) (by rw [hg, hc1]; exact hst.1) (by simp only [rowS, hg]; exact hst.2) (fun q hq => .inl hq)
  refine ⟨pl.set i (⟨o.code, o.data, o.syms.set k ⟨nm, y.kind, y.pos⟩, o.rels⟩, s), by rw [List.map_set], ?_⟩
  obtain ⟨k1, k2⟩ := rows_setS pl i o ⟨o.code, o.data, o.syms.set k ⟨nm, y.kind, y.pos⟩, o.rels⟩ s hi rfl rfl rfl
  unfold ownRows at hp ⊢
  rw [k1, k2, List.length_set]
  rw [List.set_cons_succ] at hp
  have e : rowS ⟨o.code, o.data, o.syms.set k ⟨nm, y.kind, y.pos⟩, o.rels⟩ (.slice s.a2 s.l2 s.c2) = ⟨36, 3, .slice s.a2 s.l2 s.c2, o.syms.length, (o.syms.set k ⟨nm, y.kind, y.pos⟩).flatMap symC⟩ := by
    unfold rowS
    simp
  rw [e]
  exact hp
theorem OwnSt.setR {w x : World} {v : Value} {pl : List (ObjD × Sl)} (h : BS w x (ownRows v pl) []) {i k g : Nat} {o : ObjD} {s : Sl} {y : Rel} (hi : pl[i]? = some (o, s)) (hy : o.rels[k]? = some y) (hg : s.a3 = some ⟨g, 0, none⟩) (nm : ByteArray) : OwnSt w (x.setCell ⟨g, k * 4 + 2, none⟩ (.string nm)) v ((pl.map Prod.fst).set i ⟨o.code, o.data, o.syms, o.rels.set k ⟨y.pos, y.kind, nm, y.add⟩⟩) := by
  have hr := h.own _ _ (h.obj hi 2 _ (by decide) rfl)
  have hrow := h.obj hi 2 _ (by decide) rfl
  have hc := own_cap hr
  simp only [rowR] at hr hc
  rw [hg] at hr
  have hc1 : s.l3 = o.rels.length := hc.1
  rw [hc1] at hr
  have hst := hr.stored (k * 4 + 2) (.string nm)
  rw [relC_set _ _ _ _ hy] at hst
  have hp := h.push (k := i * 3 + 2 + 1) hrow (v' := .slice s.a3 s.l3 s.c3) (n := o.rels.length) (cs := (o.rels.set k ⟨y.pos, y.kind, nm, y.add⟩).flatMap relC) (y := x.setCell ⟨g, k * 4 + 2, none⟩ (.string nm)) (by rw [hg, hc1]; exact hst.1) (by simp only [rowR, hg]; exact hst.2) (fun q hq => .inl hq)
  refine ⟨pl.set i (⟨o.code, o.data, o.syms, o.rels.set k ⟨y.pos, y.kind, nm, y.add⟩⟩, s), by rw [List.map_set], ?_⟩
  obtain ⟨k1, k2⟩ := rows_setR pl i o ⟨o.code, o.data, o.syms, o.rels.set k ⟨y.pos, y.kind, nm, y.add⟩⟩ s hi rfl rfl rfl
  unfold ownRows at hp ⊢
  rw [k1, k2, List.length_set]
  rw [List.set_cons_succ] at hp
  have e : rowR ⟨o.code, o.data, o.syms, o.rels.set k ⟨y.pos, y.kind, nm, y.add⟩⟩ (.slice s.a3 s.l3 s.c3) = ⟨45, 4, .slice s.a3 s.l3 s.c3, o.rels.length, (o.rels.set k ⟨y.pos, y.kind, nm, y.add⟩).flatMap relC⟩ := by
    unfold rowR
    simp
  rw [e]
  exact hp
/-- What is seen of an object of one's own. -/
structure Seen (w x : World) (v : Value) (cur : List ObjD) (i g : Nat) (o : ObjD) (s : Sl) : Prop where
  c2 : x.cell? ⟨g, i * 4 + 2, none⟩ = some (.slice s.a2 s.l2 s.c2)
  c3 : x.cell? ⟨g, i * 4 + 3, none⟩ = some (.slice s.a3 s.l3 s.c3)
  n2 : s.l2 = o.syms.length
  n3 : s.l3 = o.rels.length
  sym : ∀ k y, o.syms[k]? = some y → ∃ b, s.a2 = some ⟨b, 0, none⟩ ∧ x.cell? ⟨b, k * 3, none⟩ = some (.string y.name) ∧ x.frozen? ⟨b, k * 3, none⟩ = false ∧ ∀ nm, OwnSt w (x.setCell ⟨b, k * 3, none⟩ (.string nm)) v (cur.set i ⟨o.code, o.data, o.syms.set k ⟨nm, y.kind, y.pos⟩, o.rels⟩)
  rel : ∀ k y, o.rels[k]? = some y → ∃ b, s.a3 = some ⟨b, 0, none⟩ ∧ x.cell? ⟨b, k * 4 + 2, none⟩ = some (.string y.name) ∧ x.frozen? ⟨b, k * 4 + 2, none⟩ = false ∧ ∀ nm, OwnSt w (x.setCell ⟨b, k * 4 + 2, none⟩ (.string nm)) v (cur.set i ⟨o.code, o.data, o.syms, o.rels.set k ⟨y.pos, y.kind, nm, y.add⟩⟩)
theorem OwnSt.see {w x : World} {g l c : Nat} {cur : List ObjD} (h : OwnSt w x (.slice (some ⟨g, 0, none⟩) l c) cur) {i : Nat} {o : ObjD} (hi : cur[i]? = some o) : ∃ s, Seen w x (.slice (some ⟨g, 0, none⟩) l c) cur i g o s := by
  obtain ⟨pl, h1, h⟩ := h.ex
  have hil : i < pl.length := by
    have := (List.getElem?_eq_some_iff.1 hi).1
    rw [← h1, List.length_map] at this
    exact this
  obtain ⟨s, hs⟩ : ∃ s, pl[i]? = some (o, s) := by
    rw [← h1, List.getElem?_map] at hi
    cases e : pl[i]? with
    | none => rw [e] at hi; cases hi
    | some p => rw [e] at hi; cases hi; exact ⟨p.2, rfl⟩
  have hrow := h.own 0 _ rfl
  simp only at hrow
  have hcl := own_cap hrow
  have hat : ∀ j u, j < 4 → (objC (o, s))[j]? = some u → x.cell? ⟨g, i * 4 + j, none⟩ = some u := fun j u hj hu => by
    have := hrow.cells (g := g) rfl (i * 4 + j) u (by rw [flatR objC 4 (fun _ => rfl) pl i j _ hs hj]; exact hu)
    rw [Addr.add_lit, Nat.zero_add] at this
    exact this
  have h2 := h.own _ _ (h.obj hs 1 _ (by decide) rfl)
  have h3 := h.own _ _ (h.obj hs 2 _ (by decide) rfl)
  have c2 := own_cap h2
  have c3 := own_cap h3
  simp only [rowS, rowR] at h2 h3 c2 c3
  refine ⟨s, hat 2 _ (by decide) rfl, hat 3 _ (by decide) rfl, c2.1, c3.1, fun k y hy => ?_, fun k y hy => ?_⟩
  · have hk : k < o.syms.length := (List.getElem?_eq_some_iff.1 hy).1
    obtain ⟨b, cap, e, -, -⟩ := h2.form (by omega)
    simp only [Value.slice.injEq] at e
    have hb : s.a2 = some ⟨b, 0, none⟩ := e.1
    refine ⟨b, hb, ?_, ?_, fun nm => by rw [← h1]; exact OwnSt.setS h hs hy hb nm⟩
    · have := h2.cells (g := b) (by rw [hb]; rfl) (k * 3 + 0) _ (by rw [flatR symC 3 (fun _ => rfl) o.syms k 0 y hy (by decide)]; rfl)
      rw [Addr.add_lit, Nat.zero_add] at this
      exact this
    · rw [hb, c2.1] at h2
      exact h2.frozenAt _
  · have hk : k < o.rels.length := (List.getElem?_eq_some_iff.1 hy).1
    obtain ⟨b, cap, e, -, -⟩ := h3.form (by omega)
    simp only [Value.slice.injEq] at e
    have hb : s.a3 = some ⟨b, 0, none⟩ := e.1
    refine ⟨b, hb, ?_, ?_, fun nm => by rw [← h1]; exact OwnSt.setR h hs hy hb nm⟩
    · have := h3.cells (g := b) (by rw [hb]; rfl) (k * 4 + 2) _ (by rw [flatR relC 4 (fun _ => rfl) o.rels k 2 y hy (by decide)]; rfl)
      rw [Addr.add_lit, Nat.zero_add] at this
      exact this
    · rw [hb, c3.1] at h3
      exact h3.frozenAt _
/-- A list, turned so far. -/
def upto {α : Type} (f : α → α) (l : List α) (k : Nat) : List α := (l.take k).map f ++ l.drop k
theorem upto_at {α : Type} {f : α → α} {l : List α} {k : Nat} {x : α} (h : l[k]? = some x) : (upto f l k)[k]? = some x := by
  unfold upto
  have hk := (List.getElem?_eq_some_iff.1 h).1
  rw [List.getElem?_append_right (by simp; omega), List.length_map, List.length_take, Nat.min_eq_left (by omega), Nat.sub_self, List.getElem?_drop, Nat.add_zero]
  exact h
theorem upto_set {α : Type} {f : α → α} {l : List α} {k : Nat} {x : α} (h : l[k]? = some x) : (upto f l k).set k (f x) = upto f l (k + 1) := by
  unfold upto
  obtain ⟨hk, e⟩ := List.getElem?_eq_some_iff.1 h
  have hl : ((l.take k).map f).length = k := by rw [List.length_map, List.length_take]; omega
  rw [List.set_append_right _ _ (by omega), hl, Nat.sub_self, List.drop_eq_getElem_cons hk, List.set_cons_zero, List.take_succ_eq_append_getElem hk, List.map_append, e]
  simp
theorem upto_same {α : Type} {f : α → α} {l : List α} {k : Nat} {x : α} (h : l[k]? = some x) (hf : f x = x) : upto f l k = upto f l (k + 1) := by
  rw [← upto_set h, hf]
  have := upto_at (f := f) h
  obtain ⟨hk, e⟩ := List.getElem?_eq_some_iff.1 this
  rw [← e]
  simp
theorem upto_len {α : Type} (f : α → α) (l : List α) (k : Nat) : (upto f l k).length = l.length := by
  unfold upto
  simp
  omega
theorem upto_all {α : Type} (f : α → α) (l : List α) : upto f l l.length = l.map f := by simp [upto]
theorem upto_none {α : Type} (f : α → α) (l : List α) : upto f l 0 = l := by simp [upto]
end Go.Proofs.Ytaoklmphcgigeaa

/- What the document's Copy comes to. -/
import Derived.Test.YtcfdfnghaigkjaaObjRefNum
import Derived.Deep.AppendLies
import Derived.Laws.OwnMore
namespace Go.Proofs.Ytcfdfnghaigkjaa
open Go.RowKit Go.Maps Go.Lib
set_option linter.unusedVariables false

/-- append of a whole list, nil or not, onto nil. -/
theorem run_append_copy (w : World) (t e : TypeId) (i0 : TypeInfo) (z : Value) (size bytes : Nat) (ht : Try.prog.underlying t = some (.slice e)) (hi : Try.prog.info? e = some i0) (hz : i0.zero = some z) (hsize : i0.size = size) (hby : i0.bytes = bytes) (hzs : z.cells.size = size) (hsz : 0 < size)
    {a : Option Addr} {l c : Nat} {cs : List Value} (hnil : a = none → l = 0 ∧ c = 0) (hlen : cs.length = l * size) (hcells : ∀ ad, a = some ad → ∀ j u, cs[j]? = some u → w.cell? (ad.add j) = some u) (h1 : ∀ u ∈ cs, u.oneCell' = true) (hb : l * bytes ≤ 140737488355328) (hm : l ≤ 140737488355328) (ty : TypeId) :
    ∃ a' c' w', (Builtin.append_ #[t, t] ty #[.slice none 0 0, .slice a l c]).run Try.prog w = .ok (.slice a' l c') w' ∧ w'.ownsRow w.heap.size e size (.slice a' l c') l cs ∧ Below w.heap.size w w' := by
  have key : ∃ v' w', (Builtin.append_ #[t, t] ty #[.slice none 0 0, .slice a l c]).run Try.prog w = .ok v' w' ∧ w'.ownsRow w.heap.size e size v' l cs ∧ Below w.heap.size w w' := by
    cases a with
    | none =>
      obtain ⟨rfl, rfl⟩ := hnil rfl
      obtain rfl : cs = [] := List.eq_nil_of_length_eq_zero (by simpa using hlen)
      exact ⟨_, _, run_append_owned_none (P := Try.prog) w w.heap.size t ty e i0 size ht hi (.slice none 0 0) 0 [] (World.ownsRow_nil _ _ _ _), World.ownsRow_nil _ _ _ _, Below.refl _ _⟩
    | some ad =>
      obtain ⟨v', w', hr, ho, hg, -, -⟩ := run_append_own_at (P := Try.prog) w w.heap.size t ty e i0 z size bytes ht hi hz hsize hby hzs hsz (.slice none 0 0) 0 [] (World.ownsRow_nil _ _ _ _) ad l c cs hlen (hcells ad rfl) h1 (by unfold maxLen; omega) (by simpa using hb) (Nat.le_refl _)
      exact ⟨v', w', hr, by simpa using ho, (Below.refl _ _).grown hg (Nat.le_refl _) (by intro k hk; cases hk)⟩
  obtain ⟨v', w', hr, ho, hbl⟩ := key
  rcases ho.2 with ⟨rfl, rfl⟩ | ⟨g, cap, cur, rfl, -⟩
  · exact ⟨_, _, _, hr, ho, hbl⟩
  · exact ⟨_, _, _, hr, ho, hbl⟩
theorem wpList_append_copy {ops : Array Oper} {rest : List Oper} {o : Oper} {ac : Act} {w : World} {Q : Exit → Act → World → Prop} (hgd : o.guard = none) (s x : Operand) (t : TypeId)
    (ho : o.op = .call { callee := .builtin .append, args := #[s, x], argTypes := #[t, t] }) (e : TypeId) (i0 : TypeInfo) (z : Value) (size bytes : Nat) (ht : Try.prog.underlying t = some (.slice e)) (hi : Try.prog.info? e = some i0) (hz : i0.zero = some z) (hsize : i0.size = size) (hby : i0.bytes = bytes) (hzs : z.cells.size = size) (hsz : 0 < size)
    {a : Option Addr} {l c : Nat} {cs : List Value} (hs : ac.eval s = .slice none 0 0) (hx : ac.eval x = .slice a l c) (hnil : a = none → l = 0 ∧ c = 0) (hlen : cs.length = l * size) (hcells : ∀ ad, a = some ad → ∀ j u, cs[j]? = some u → w.cell? (ad.add j) = some u) (h1 : ∀ u ∈ cs, u.oneCell' = true) (hb : l * bytes ≤ 140737488355328) (hm : l ≤ 140737488355328)
    (hk : ∀ a' c' w', w'.ownsRow w.heap.size e size (.slice a' l c') l cs → Below w.heap.size w w' → wpList Try.prog ops Q rest (ac.put o.dst (.slice a' l c')) w') : wpList Try.prog ops Q (o :: rest) ac w := by
  refine wpList_plain hgd fun K hK => ?_
  obtain ⟨a', c', w', hr, h2, h3⟩ := run_append_copy w t e i0 z size bytes ht hi hz hsize hby hzs hsz hnil hlen hcells h1 hb hm o.type
  unfold Oper.wp execOp
  simp only [ho, resolve, invoke, builtin, Sem.run_bind, Sem.run_pure, Result.andThen_ok, List.map_toArray, List.map_cons, List.map_nil, hs, hx, hr]
  exact hK _ _ (hk a' c' w' h2 h3)

theorem flat_cells {α : Type} {w : World} {f : α → List Value} {m : Nat} {l : List α} {d : α} {b off : Nat} (hm : ∀ x, (f x).length = m) (hm0 : 0 < m) (h : ∀ i, i < l.length → ∀ j u, j < m → (f (l.getD i d))[j]? = some u → w.cell? ⟨b, off + i * m + j, none⟩ = some u) : ∀ q u, (l.flatMap f)[q]? = some u → w.cell? ⟨b, off + q, none⟩ = some u := by
  intro q u hu
  have hl : (l.flatMap f).length = l.length * m := by
    clear h hu
    induction l with
    | nil => simp
    | cons x l ih => rw [List.flatMap_cons, List.length_append, hm, ih, List.length_cons, Nat.succ_mul]; omega
  have hq : q < l.length * m := by rw [← hl]; exact (List.getElem?_eq_some_iff.1 hu).1
  have hqd : q / m * m + q % m = q := by rw [Nat.mul_comm]; exact Nat.div_add_mod q m
  have hi : q / m < l.length := Nat.div_lt_of_lt_mul (by rw [Nat.mul_comm]; exact hq)
  have hj : q % m < m := Nat.mod_lt _ hm0
  have h2 := h (q / m) hi (q % m) u hj (by rw [← flat_at f m d hm l _ _ hi hj, hqd]; exact hu)
  rwa [Nat.add_assoc, hqd] at h2
theorem flat_len' {α : Type} {f : α → List Value} {m : Nat} (hm : ∀ x, (f x).length = m) (l : List α) : (l.flatMap f).length = l.length * m := by
  induction l with
  | nil => simp
  | cons x l ih => rw [List.flatMap_cons, List.length_append, hm, ih, List.length_cons, Nat.succ_mul]; omega
/-- Copied lists, as they lie. -/
theorem intsV_own {w : World} {B : Nat} {a : Option Addr} {n c : Nat} {zs : List Int} (hf : ∀ z ∈ zs, (Lit.int .i64 z).wf = true) (hn : zs.length = n) (h : w.ownsRow B 2 1 (.slice a n c) n (zs.flatMap intC)) : IntsV w a n c zs := by
  obtain ⟨a', c', e, n1, k1⟩ := row_at (m := 1) (f := intC) 0 (fun _ => rfl) h hn
  simp at e
  obtain ⟨rfl, rfl⟩ := e
  refine ⟨hn, hf, n1, ?_⟩
  rcases k1 with h0 | ⟨b, off, ha, hk⟩
  · exact .inl h0
  · exact .inr ⟨b, off, ha, fun i hi => by have := hk i hi 0 _ (by decide) rfl; simpa using this⟩
theorem symsV_own {w : World} {B : Nat} {a : Option Addr} {n c : Nat} {zs : List Sym} (hf : ∀ s ∈ zs, s.name.size ≤ maxLen ∧ (Lit.int .i64 s.kind).wf = true ∧ (Lit.int .i64 s.pos).wf = true) (hn : zs.length = n) (h : w.ownsRow B 41 3 (.slice a n c) n (zs.flatMap symC)) : SymsV w a n c zs := by
  obtain ⟨a', c', e, n1, k1⟩ := row_at (m := 3) (f := symC) noSym (fun _ => rfl) h hn
  simp at e
  obtain ⟨rfl, rfl⟩ := e
  refine ⟨hn, hf, n1, ?_⟩
  rcases k1 with h0 | ⟨b, off, ha, hk⟩
  · exact .inl h0
  · exact .inr ⟨b, off, ha, fun i hi => ⟨by have := hk i hi 0 _ (by decide) rfl; simpa using this, hk i hi 1 _ (by decide) rfl, hk i hi 2 _ (by decide) rfl⟩⟩
theorem relsV_own {w : World} {B : Nat} {a : Option Addr} {n c : Nat} {zs : List Rel} (hf : ∀ r ∈ zs, r.name.size ≤ maxLen ∧ (Lit.int .i64 r.kind).wf = true ∧ (Lit.int .i64 r.pos).wf = true ∧ (Lit.int .i64 r.add).wf = true) (hn : zs.length = n) (h : w.ownsRow B 43 4 (.slice a n c) n (zs.flatMap relC)) : RelsV w a n c zs := by
  obtain ⟨a', c', e, n1, k1⟩ := row_at (m := 4) (f := relC) noRel (fun _ => rfl) h hn
  simp at e
  obtain ⟨rfl, rfl⟩ := e
  refine ⟨hn, hf, n1, ?_⟩
  rcases k1 with h0 | ⟨b, off, ha, hk⟩
  · exact .inl h0
  · exact .inr ⟨b, off, ha, fun i hi => ⟨by have := hk i hi 0 _ (by decide) rfl; simpa using this, hk i hi 1 _ (by decide) rfl, hk i hi 2 _ (by decide) rfl, hk i hi 3 _ (by decide) rfl⟩⟩
theorem IntsV.src {w : World} {a : Option Addr} {n c : Nat} {zs : List Int} (h : IntsV w a n c zs) : (zs.flatMap intC).length = n * 1 ∧ (∀ ad, a = some ad → ∀ j u, (zs.flatMap intC)[j]? = some u → w.cell? (ad.add j) = some u) ∧ ∀ u ∈ zs.flatMap intC, u.oneCell' = true := by
  refine ⟨by rw [flat_len' (m := 1) (fun _ => rfl), h.count], fun ad ha j u hu => ?_, fun u hu => ?_⟩
  · rcases h.cells with h0 | ⟨b, off, hA, hc⟩
    · have := (List.getElem?_eq_some_iff.1 hu).1
      rw [flat_len' (m := 1) (fun _ => rfl), h.count, h0] at this
      omega
    · rw [ha] at hA
      cases hA
      rw [Addr.add_lit]
      refine flat_cells (m := 1) (d := 0) (fun _ => rfl) (by decide) (fun i hi j u hj hu => ?_) j u hu
      obtain rfl : j = 0 := by omega
      simp [intC] at hu
      subst hu
      simpa using hc i (by rw [← h.count]; exact hi)
  · obtain ⟨x, -, hx⟩ := List.mem_flatMap.1 hu
    simp [intC] at hx
    subst hx
    rfl
theorem SymsV.src {w : World} {a : Option Addr} {n c : Nat} {zs : List Sym} (h : SymsV w a n c zs) : (zs.flatMap symC).length = n * 3 ∧ (∀ ad, a = some ad → ∀ j u, (zs.flatMap symC)[j]? = some u → w.cell? (ad.add j) = some u) ∧ ∀ u ∈ zs.flatMap symC, u.oneCell' = true := by
  refine ⟨by rw [flat_len' (m := 3) (fun _ => rfl), h.count], fun ad ha j u hu => ?_, fun u hu => ?_⟩
  · rcases h.cells with h0 | ⟨b, off, hA, hc⟩
    · have := (List.getElem?_eq_some_iff.1 hu).1
      rw [flat_len' (m := 3) (fun _ => rfl), h.count, h0] at this
      omega
    · rw [ha] at hA
      cases hA
      rw [Addr.add_lit]
      refine flat_cells (m := 3) (d := noSym) (fun _ => rfl) (by decide) (fun i hi j u hj hu => ?_) j u hu
      obtain ⟨k0, k1, k2⟩ := hc i (by rw [← h.count]; exact hi)
      rcases (show j = 0 ∨ j = 1 ∨ j = 2 by omega) with rfl | rfl | rfl
      · cases hu; exact k0
      · cases hu; exact k1
      · cases hu; exact k2
  · obtain ⟨x, -, hx⟩ := List.mem_flatMap.1 hu
    simp [symC] at hx
    rcases hx with rfl | rfl | rfl <;> rfl
theorem RelsV.src {w : World} {a : Option Addr} {n c : Nat} {zs : List Rel} (h : RelsV w a n c zs) : (zs.flatMap relC).length = n * 4 ∧ (∀ ad, a = some ad → ∀ j u, (zs.flatMap relC)[j]? = some u → w.cell? (ad.add j) = some u) ∧ ∀ u ∈ zs.flatMap relC, u.oneCell' = true := by
  refine ⟨by rw [flat_len' (m := 4) (fun _ => rfl), h.count], fun ad ha j u hu => ?_, fun u hu => ?_⟩
  · rcases h.cells with h0 | ⟨b, off, hA, hc⟩
    · have := (List.getElem?_eq_some_iff.1 hu).1
      rw [flat_len' (m := 4) (fun _ => rfl), h.count, h0] at this
      omega
    · rw [ha] at hA
      cases hA
      rw [Addr.add_lit]
      refine flat_cells (m := 4) (d := noRel) (fun _ => rfl) (by decide) (fun i hi j u hj hu => ?_) j u hu
      obtain ⟨k0, k1, k2, k3⟩ := hc i (by rw [← h.count]; exact hi)
      rcases (show j = 0 ∨ j = 1 ∨ j = 2 ∨ j = 3 by omega) with rfl | rfl | rfl | rfl
      · cases hu; exact k0
      · cases hu; exact k1
      · cases hu; exact k2
      · cases hu; exact k3
  · obtain ⟨x, -, hx⟩ := List.mem_flatMap.1 hu
    simp [relC] at hx
    rcases hx with rfl | rfl | rfl | rfl <;> rfl

theorem row_thru {w w1 : World} {B : Nat} {ty : TypeId} {k : Nat} {u : Value} {n : Nat} {cs : List Value} (hu : w.ownsRow B ty k u n cs) (hb : Below w.heap.size w w1) : w1.ownsRow B ty k u n cs := by
  have g : w.grownBy w1 none := ⟨hb.os, hb.tape, hb.output, hb.size, fun k hk _ => hb.block k hk⟩
  cases e : u.ownBlock with
  | none => exact hu.kept g (.inl e)
  | some b => exact hu.kept g (.inr (by rw [e]; simp))
/-- The call's three boxes: what it was given, its answer, its copy. -/
structure Cp (w x : World) (P O : List Value) : Prop where
  bl : Below w.heap.size w x
  p : Cells x w.heap.size P
  r : Cells x (w.heap.size + 1) [.string { data := #[] }, .slice none 0 0, .slice none 0 0, .slice none 0 0]
  o : Cells x (w.heap.size + 1 + 1) O
  fr : ∀ k, x.frozen? ⟨w.heap.size + 1, k, none⟩ = false
  fo : ∀ k, x.frozen? ⟨w.heap.size + 1 + 1, k, none⟩ = false
  sz : w.heap.size + 1 + 1 + 1 ≤ x.heap.size
theorem Cp.below {w x y : World} {P O : List Value} (h : Cp w x P O) (hb : Below x.heap.size x y) : Cp w y P O :=
  have hz := h.sz
  ⟨h.bl.trans (hb.mono h.bl.size), fun j u hu => cell_thru hb (h.p j u hu), fun j u hu => cell_thru hb (h.r j u hu), fun j u hu => cell_thru hb (h.o j u hu), fun k => (hb.frozen (p := ⟨w.heap.size + 1, k, none⟩) (by show w.heap.size + 1 < _; omega)).trans (h.fr k), fun k => (hb.frozen (p := ⟨w.heap.size + 1 + 1, k, none⟩) (by show w.heap.size + 1 + 1 < _; omega)).trans (h.fo k), Nat.le_trans h.sz hb.size⟩
theorem Cp.put {w x : World} {P O : List Value} (h : Cp w x P O) (k : Nat) (hk : k < O.length) (u : Value) : Cp w (x.setCell ⟨w.heap.size + 1 + 1, k, none⟩ u) P (O.set k u) :=
  ⟨h.bl.setCell (by show w.heap.size ≤ w.heap.size + 1 + 1; omega) _, fun j v hv => (World.cell?_setCell_far _ _ _ _ (by show w.heap.size + 1 + 1 ≠ w.heap.size; omega)).trans (h.p j v hv), fun j v hv => (World.cell?_setCell_far _ _ _ _ (by show w.heap.size + 1 + 1 ≠ w.heap.size + 1; omega)).trans (h.r j v hv), fun j v hv => by
    by_cases e : k = j
    · subst e
      rw [List.getElem?_set_self hk] at hv
      cases hv
      refine World.cell?_setCell_same' _ _ _ ?_
      rw [h.o k O[k] (by simp [hk])]
      rfl
    · rw [List.getElem?_set_ne e] at hv
      rw [World.cell?_setCell_other _ _ _ _ (fun e' => e (by have := congrArg Addr.off e'; simpa using this))]
      exact h.o j v hv, fun j => by rw [World.frozen?_setCell]; exact h.fr j, fun j => by rw [World.frozen?_setCell]; exact h.fo j, by rw [World.size_setCell]; exact h.sz⟩

set_option maxRecDepth 100000 in
set_option maxHeartbeats 8000000 in
theorem copy_any {w : World} {v : Value} {o : ObjD} (h : ObjV w v o) (hl : o.data.length * 8 ≤ 140737488355328 ∧ o.syms.length * 32 ≤ 140737488355328 ∧ o.rels.length * 40 ≤ 140737488355328) :
    Calls Try.prog 10 #[v] w fun e w' => (∃ v', e = .returned v' ∧ ObjV w' v' o) ∧ Below w.heap.size w w' := by
  obtain ⟨i1, hi1, hz10, hz11, hz12⟩ := info_parts infoI
  obtain ⟨i2, hi2, hz20, hz21, hz22⟩ := info_parts infoS
  obtain ⟨i3, hi3, hz30, hz31, hz32⟩ := info_parts infoR
  obtain ⟨a1, l1, c1, a2, l2, c2, a3, l3, c3, rfl, hcs, h1, h2, h3⟩ := h.form
  have hn1 := h1.count
  have hn2 := h2.count
  have hn3 := h3.count
  have H1 : Hid _ := h1
  have H2 : Hid _ := h2
  have H3 : Hid _ := h3
  obtain ⟨code, hcode⟩ : ∃ c, o.code = c := ⟨_, rfl⟩
  rw [hcode] at hcs ⊢
  have HCO : Hid _ := hcode
  have hl1 : l1 * 8 ≤ 140737488355328 := by omega
  have hl2 : l2 * 32 ≤ 140737488355328 := by omega
  have hl3 : l3 * 40 ≤ 140737488355328 := by omega
  have HN : Hid (o.data.length = l1 ∧ o.syms.length = l2 ∧ o.rels.length = l3) := ⟨hn1, hn2, hn3⟩
  have HCS : Hid _ := hcs
  clear h h1 h2 h3 hcode hl hn1 hn2 hn3 hcs
  have HC : Hid (Cp w (((w.alloc (.cells #[.string code, .slice a1 l1 c1, .slice a2 l2 c2, .slice a3 l3 c3] 26)).alloc (.cells #[.string { data := #[] }, .slice none 0 0, .slice none 0 0, .slice none 0 0] 26)).alloc (.cells #[.string code, .slice none 0 0, .slice none 0 0, .slice none 0 0] 26)) [.string code, .slice a1 l1 c1, .slice a2 l2 c2, .slice a3 l3 c3] [.string code, .slice none 0 0, .slice none 0 0, .slice none 0 0]) := by
    have dd1 := bl_one w (.cells #[.string code, .slice a1 l1 c1, .slice a2 l2 c2, .slice a3 l3 c3] 26)
    have dd2 := bl_one (w.alloc (.cells #[.string code, .slice a1 l1 c1, .slice a2 l2 c2, .slice a3 l3 c3] 26)) (.cells #[.string { data := #[] }, .slice none 0 0, .slice none 0 0, .slice none 0 0] 26)
    have dd3 := bl_one ((w.alloc (.cells #[.string code, .slice a1 l1 c1, .slice a2 l2 c2, .slice a3 l3 c3] 26)).alloc (.cells #[.string { data := #[] }, .slice none 0 0, .slice none 0 0, .slice none 0 0] 26)) (.cells #[.string code, .slice none 0 0, .slice none 0 0, .slice none 0 0] 26)
    refine ⟨(dd1.trans (dd2.mono (by simp))).trans (dd3.mono (by simp; omega)), fun j u hu => cell_thru dd3 (cell_thru dd2 (cell_last rfl (by simpa using hu))), fun j u hu => cell_thru dd3 (cell_last (by simp) (by simpa using hu)), fun j u hu => cell_last (by simp) (by simpa using hu), fun k => ?_, fun k => World.frozen?_alloc_at _ _ _ _ (by simp), by simp⟩
    rw [dd3.frozen (p := ⟨w.heap.size + 1, k, none⟩) (by simp)]
    exact World.frozen?_alloc_at _ _ _ _ (by simp)
  go_enter Try.func10, Try.ntmps10
  have HI1 : Hid _ := H1.out.below HC.out.bl
  have HSR1 : Hid _ := HI1.out.src
  go_wp2_with (first | (at_builtin; refine wpList_append_copy rfl _ _ 22 rfl 2 i1 _ 1 8 Try.underlying22 hi1 hz10 hz11 hz12 rfl (by decide) (a := a1) (l := l1) (c := c1) (cs := o.data.flatMap intC) rfl rfl HI1.out.nilOf HSR1.out.1 HSR1.out.2.1 HSR1.out.2.2 (by omega) (by omega) ?_) | go_in)
  intro e1 f1 x1 ho1 hb1
  have HC : Hid _ := HC.out.below (by simpa using hb1)
  have HR1 : Hid (x1.ownsRow (w.heap.size + 1 + 1 + 1) 2 1 (.slice e1 l1 f1) l1 (o.data.flatMap intC)) := ho1
  have HQ1 : Hid (x1.ownsRow (w.heap.size + 1 + 1 + 1) 2 1 (.slice e1 l1 f1) l1 (o.data.flatMap intC)) := HR1.out
  clear ho1 hb1
  have q1 := HC.out.o 1 _ rfl
  have z1 := HC.out.fo 1
  have HC : Hid (Cp w (x1.setCell ⟨w.heap.size + 1 + 1, 1, none⟩ (.slice e1 l1 f1)) [.string code, .slice a1 l1 c1, .slice a2 l2 c2, .slice a3 l3 c3] [.string code, .slice e1 l1 f1, .slice none 0 0, .slice none 0 0]) := HC.out.put 1 (by simp) (.slice e1 l1 f1)
  obtain ⟨Y1, hY1⟩ : ∃ Y, x1.setCell ⟨w.heap.size + 1 + 1, 1, none⟩ (.slice e1 l1 f1) = Y := ⟨_, rfl⟩
  rw [hY1] at HC
  have HQ1 : Hid ((x1.setCell ⟨w.heap.size + 1 + 1, 1, none⟩ (.slice e1 l1 f1)).ownsRow (w.heap.size + 1 + 1 + 1) 2 1 (.slice e1 l1 f1) l1 (o.data.flatMap intC)) := HQ1.out.kept (gb_setO x1 ⟨w.heap.size + 1 + 1, _, none⟩ _) (.inr fun e => by have := (HQ1.out.lt _ e).1; simp at this; omega)
  rw [hY1] at HQ1
  have hsz1 := HC.out.sz
  have HI2 : Hid _ := H2.out.below HC.out.bl
  have HSR2 : Hid _ := HI2.out.src
  have q1' := HC.out.o 2 _ rfl
  have q2 := HC.out.p 2 _ rfl
  go_wp2_with (first | (at_builtin; refine wpList_append_copy rfl _ _ 23 rfl 41 i2 _ 3 32 Try.underlying23 hi2 hz20 hz21 hz22 rfl (by decide) (a := a2) (l := l2) (c := c2) (cs := o.syms.flatMap symC) rfl rfl HI2.out.nilOf HSR2.out.1 HSR2.out.2.1 HSR2.out.2.2 (by omega) (by omega) ?_) | go_in)
  intro e2 f2 x2 ho2 hb2
  have HC : Hid _ := HC.out.below hb2
  have HR2 : Hid (x2.ownsRow Y1.heap.size 41 3 (.slice e2 l2 f2) l2 (o.syms.flatMap symC)) := ho2
  clear q1 z1 q1' q2
  have HQ2 : Hid (x2.ownsRow (w.heap.size + 1 + 1 + 1) 41 3 (.slice e2 l2 f2) l2 (o.syms.flatMap symC)) := own_base HR2.out (by have := hsz1; omega)
  have HQ1 : Hid (x2.ownsRow (w.heap.size + 1 + 1 + 1) 2 1 (.slice e1 l1 f1) l1 (o.data.flatMap intC)) := row_thru HQ1.out hb2
  clear ho2 hb2
  have q1 := HC.out.o 2 _ rfl
  have z1 := HC.out.fo 2
  have HC : Hid (Cp w (x2.setCell ⟨w.heap.size + 1 + 1, 2, none⟩ (.slice e2 l2 f2)) [.string code, .slice a1 l1 c1, .slice a2 l2 c2, .slice a3 l3 c3] [.string code, .slice e1 l1 f1, .slice e2 l2 f2, .slice none 0 0]) := HC.out.put 2 (by simp) (.slice e2 l2 f2)
  obtain ⟨Y2, hY2⟩ : ∃ Y, x2.setCell ⟨w.heap.size + 1 + 1, 2, none⟩ (.slice e2 l2 f2) = Y := ⟨_, rfl⟩
  rw [hY2] at HC
  have HQ1 : Hid ((x2.setCell ⟨w.heap.size + 1 + 1, 2, none⟩ (.slice e2 l2 f2)).ownsRow (w.heap.size + 1 + 1 + 1) 2 1 (.slice e1 l1 f1) l1 (o.data.flatMap intC)) := HQ1.out.kept (gb_setO x2 ⟨w.heap.size + 1 + 1, _, none⟩ _) (.inr fun e => by have := (HQ1.out.lt _ e).1; simp at this; omega)
  have HQ2 : Hid ((x2.setCell ⟨w.heap.size + 1 + 1, 2, none⟩ (.slice e2 l2 f2)).ownsRow (w.heap.size + 1 + 1 + 1) 41 3 (.slice e2 l2 f2) l2 (o.syms.flatMap symC)) := HQ2.out.kept (gb_setO x2 ⟨w.heap.size + 1 + 1, _, none⟩ _) (.inr fun e => by have := (HQ2.out.lt _ e).1; simp at this; omega)
  rw [hY2] at HQ1 HQ2
  have hsz2 := HC.out.sz
  have HI3 : Hid _ := H3.out.below HC.out.bl
  have HSR3 : Hid _ := HI3.out.src
  have q1' := HC.out.o 3 _ rfl
  have q2 := HC.out.p 3 _ rfl
  go_wp2_with (first | (at_builtin; refine wpList_append_copy rfl _ _ 24 rfl 43 i3 _ 4 40 Try.underlying24 hi3 hz30 hz31 hz32 rfl (by decide) (a := a3) (l := l3) (c := c3) (cs := o.rels.flatMap relC) rfl rfl HI3.out.nilOf HSR3.out.1 HSR3.out.2.1 HSR3.out.2.2 (by omega) (by omega) ?_) | go_in)
  intro e3 f3 x3 ho3 hb3
  have HC : Hid _ := HC.out.below hb3
  have HR3 : Hid (x3.ownsRow Y2.heap.size 43 4 (.slice e3 l3 f3) l3 (o.rels.flatMap relC)) := ho3
  clear q1 z1 q1' q2
  have HQ3 : Hid (x3.ownsRow (w.heap.size + 1 + 1 + 1) 43 4 (.slice e3 l3 f3) l3 (o.rels.flatMap relC)) := own_base HR3.out (by have := hsz2; omega)
  have HQ1 : Hid (x3.ownsRow (w.heap.size + 1 + 1 + 1) 2 1 (.slice e1 l1 f1) l1 (o.data.flatMap intC)) := row_thru HQ1.out hb3
  have HQ2 : Hid (x3.ownsRow (w.heap.size + 1 + 1 + 1) 41 3 (.slice e2 l2 f2) l2 (o.syms.flatMap symC)) := row_thru HQ2.out hb3
  clear ho3 hb3
  have q1 := HC.out.o 3 _ rfl
  have z1 := HC.out.fo 3
  have HC : Hid (Cp w (x3.setCell ⟨w.heap.size + 1 + 1, 3, none⟩ (.slice e3 l3 f3)) [.string code, .slice a1 l1 c1, .slice a2 l2 c2, .slice a3 l3 c3] [.string code, .slice e1 l1 f1, .slice e2 l2 f2, .slice e3 l3 f3]) := HC.out.put 3 (by simp) (.slice e3 l3 f3)
  obtain ⟨Y3, hY3⟩ : ∃ Y, x3.setCell ⟨w.heap.size + 1 + 1, 3, none⟩ (.slice e3 l3 f3) = Y := ⟨_, rfl⟩
  rw [hY3] at HC
  have HQ1 : Hid ((x3.setCell ⟨w.heap.size + 1 + 1, 3, none⟩ (.slice e3 l3 f3)).ownsRow (w.heap.size + 1 + 1 + 1) 2 1 (.slice e1 l1 f1) l1 (o.data.flatMap intC)) := HQ1.out.kept (gb_setO x3 ⟨w.heap.size + 1 + 1, _, none⟩ _) (.inr fun e => by have := (HQ1.out.lt _ e).1; simp at this; omega)
  have HQ2 : Hid ((x3.setCell ⟨w.heap.size + 1 + 1, 3, none⟩ (.slice e3 l3 f3)).ownsRow (w.heap.size + 1 + 1 + 1) 41 3 (.slice e2 l2 f2) l2 (o.syms.flatMap symC)) := HQ2.out.kept (gb_setO x3 ⟨w.heap.size + 1 + 1, _, none⟩ _) (.inr fun e => by have := (HQ2.out.lt _ e).1; simp at this; omega)
  have HQ3 : Hid ((x3.setCell ⟨w.heap.size + 1 + 1, 3, none⟩ (.slice e3 l3 f3)).ownsRow (w.heap.size + 1 + 1 + 1) 43 4 (.slice e3 l3 f3) l3 (o.rels.flatMap relC)) := HQ3.out.kept (gb_setO x3 ⟨w.heap.size + 1 + 1, _, none⟩ _) (.inr fun e => by have := (HQ3.out.lt _ e).1; simp at this; omega)
  rw [hY3] at HQ1 HQ2 HQ3
  have t0 := HC.out.o 0 _ rfl
  have o0 := HC.out.r 0 _ rfl
  have g0 := HC.out.fr 0
  have t1 := HC.out.o 1 _ rfl
  have o1 := HC.out.r 1 _ rfl
  have g1 := HC.out.fr 1
  have t2 := HC.out.o 2 _ rfl
  have o2 := HC.out.r 2 _ rfl
  have g2 := HC.out.fr 2
  have t3 := HC.out.o 3 _ rfl
  have o3 := HC.out.r 3 _ rfl
  have g3 := HC.out.fr 3
  go_wp2
  refine bodyPost_ret (v := .agg #[.string code, .slice e1 l1 f1, .slice e2 l2 f2, .slice e3 l3 f3]) (by simp [results, Try.results10, go_sem, o0, o1, o2, o3]) rfl ?_
  have far : ∀ {x : World} {T : TypeId} {k n : Nat} {u : Value} {cs : List Value} (j : Nat) (y : Value), x.ownsRow (w.heap.size + 1 + 1 + 1) T k u n cs → (x.setCell ⟨w.heap.size + 1, j, none⟩ y).ownsRow (w.heap.size + 1 + 1 + 1) T k u n cs := fun j y ho => ho.kept (gb_setO _ ⟨w.heap.size + 1, j, none⟩ y) (.inr fun e => by have := (ho.lt _ e).1; simp at this; omega)
  refine ⟨⟨_, rfl, ⟨⟨_, _, _, _, _, _, _, _, _, by rw [HCO.out], by rw [HCO.out]; exact HCS.out, intsV_own H1.out.fits HN.out.1 (far _ _ (far _ _ (far _ _ (far _ _ HQ1.out)))), symsV_own H2.out.fits HN.out.2.1 (far _ _ (far _ _ (far _ _ (far _ _ HQ2.out)))), relsV_own H3.out.fits HN.out.2.2 (far _ _ (far _ _ (far _ _ (far _ _ HQ3.out))))⟩⟩⟩, (((HC.out.bl.setCell (Nat.le_succ _) _).setCell (Nat.le_succ _) _).setCell (Nat.le_succ _) _).setCell (Nat.le_succ _) _⟩

end Go.Proofs.Ytcfdfnghaigkjaa

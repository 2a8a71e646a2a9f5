/- Objects in another order. -/
import Derived.Test.YtaoklmphcgigeaaLinkCodes
import Derived.Test.YtaoklmphcgigeaaLinkPos
namespace Go.Proofs.Ytaoklmphcgigeaa
open Go.RowKit Go.Lib
set_option linter.unusedVariables false
set_option linter.unusedSimpArgs false

theorem look_of_mem {ss : List Sym} (ht : L.twice ss = false) {s : Sym} (hs : s ∈ ss) : L.look ss s.name = some s := by
  induction ss with
  | nil => cases hs
  | cons x ss ih =>
    unfold L.twice at ht
    simp only [Bool.or_eq_false_iff] at ht
    unfold L.look
    rw [List.find?_cons]
    rcases List.mem_cons.1 hs with rfl | hs
    · simp
    · have hne : ¬ x.name = s.name := fun e => by
        have := ht.1
        rw [List.any_eq_false] at this
        exact this s hs (by simp [e])
      simp only [hne, decide_false]
      exact ih ht.2 hs
/-- No name twice. -/
theorem twice_nodup (ss : List Sym) : L.twice ss = false ↔ (ss.map Sym.name).Nodup := by
  induction ss with
  | nil => simp [L.twice]
  | cons s ss ih =>
    simp only [L.twice, Bool.or_eq_false_iff, List.map_cons, List.nodup_cons, ih]
    constructor
    · rintro ⟨h1, h2⟩
      refine ⟨fun hm => ?_, h2⟩
      obtain ⟨u, hu, e⟩ := List.mem_map.1 hm
      rw [List.any_eq_false] at h1
      exact h1 u hu (by simp [e])
    · rintro ⟨h1, h2⟩
      refine ⟨?_, h2⟩
      rw [List.any_eq_false]
      intro u hu he
      exact h1 (List.mem_map.2 ⟨u, hu, by simpa using he⟩)
/-- What of a symbol hangs on no order: its name, its kind. -/
def face (s : Sym) : ByteArray × Int := (s.name, s.kind)
theorem faces : ∀ (os : List ObjD) (z : L.Sz), (L.symsFrom z os).map face = os.flatMap fun o => o.syms.map face
  | [], z => rfl
  | o :: os, z => by
    simp only [L.symsFrom, List.map_append, List.map_map, List.flatMap_cons, faces os]
    congr 1
theorem names_faces (ss : List Sym) : ss.map Sym.name = (ss.map face).map Prod.fst := by simp [face, Function.comp_def]
theorem faces_perm (A B : List ObjD) : ((L.syms (A ++ B)).map face).Perm ((L.syms (B ++ A)).map face) := by
  unfold L.syms
  rw [faces, faces, List.flatMap_append, List.flatMap_append]
  exact List.perm_append_comm
theorem grow_add : ∀ (os : List ObjD) (z : L.Sz), (os.foldl L.grow z).b = z.b + (L.sizes os).b ∧ (os.foldl L.grow z).d = z.d + (L.sizes os).d ∧ (os.foldl L.grow z).s = z.s + (L.sizes os).s ∧ (os.foldl L.grow z).t = z.t + (L.sizes os).t
  | [], z => by simp [L.sizes, L.zero]
  | o :: os, z => by
    obtain ⟨h1, h2, h3, h4⟩ := grow_add os (L.grow z o)
    obtain ⟨k1, k2, k3, k4⟩ := grow_add os (L.grow L.zero o)
    have e : L.sizes (o :: os) = os.foldl L.grow (L.grow L.zero o) := rfl
    have z1 : L.zero.b = 0 := rfl
    have z2 : L.zero.d = 0 := rfl
    have z3 : L.zero.s = 0 := rfl
    have z4 : L.zero.t = 0 := rfl
    have g1 : ∀ y : L.Sz, (L.grow y o).b = y.b + o.code.size := fun _ => rfl
    have g2 : ∀ y : L.Sz, (L.grow y o).d = y.d + o.data.length := fun _ => rfl
    have g3 : ∀ y : L.Sz, (L.grow y o).s = y.s + o.syms.length := fun _ => rfl
    have g4 : ∀ y : L.Sz, (L.grow y o).t = y.t + L.thr o.syms := fun _ => rfl
    rw [e, List.foldl_cons]
    have := g1 z; have := g1 L.zero; have := g2 z; have := g2 L.zero; have := g3 z; have := g3 L.zero; have := g4 z; have := g4 L.zero
    omega
theorem sizes_turn (A B : List ObjD) : L.sizes (B ++ A) = L.sizes (A ++ B) := by
  have h1 : L.sizes (B ++ A) = A.foldl L.grow (L.sizes B) := by unfold L.sizes; rw [List.foldl_append]
  have h2 : L.sizes (A ++ B) = B.foldl L.grow (L.sizes A) := by unfold L.sizes; rw [List.foldl_append]
  obtain ⟨a1, a2, a3, a4⟩ := grow_add A (L.sizes B)
  obtain ⟨b1, b2, b3, b4⟩ := grow_add B (L.sizes A)
  rw [h1, h2]
  generalize A.foldl L.grow (L.sizes B) = x at *
  generalize B.foldl L.grow (L.sizes A) = y at *
  cases x
  cases y
  simp only [L.Sz.mk.injEq] at *
  omega
theorem ask_all {ss : List Sym} : ∀ (rs : List Rel), (∀ r ∈ rs, L.askOne ss r = 0) → L.ask ss rs = 0
  | [], _ => rfl
  | r :: rs, h => by
    unfold L.ask
    rw [if_pos (h r (List.mem_cons_self ..))]
    exact ask_all rs (fun q hq => h q (List.mem_cons_of_mem _ hq))
/-- A symbol of one order, in the other one. -/
theorem face_in {A B : List ObjD} {s : Sym} (hs : s ∈ L.syms (A ++ B)) : ∃ u ∈ L.syms (B ++ A), u.name = s.name ∧ u.kind = s.kind := by
  have h := (faces_perm A B).mem_iff.1 (List.mem_map.2 ⟨s, hs, rfl⟩)
  obtain ⟨u, hu, e⟩ := List.mem_map.1 h
  simp only [face, Prod.mk.injEq] at e
  exact ⟨u, hu, e.1, e.2⟩
theorem link_order {A B : List ObjD} (h : linkE (A ++ B) = 0) : linkE (B ++ A) = 0 ∨ linkE (B ++ A) = 7 := by
  obtain ⟨⟨a0, a1⟩, a2, a3, a4, a5, a6, a7⟩ := link_ok h
  have hm : mayAll (B ++ A) = true := by
    unfold mayAll
    simp only [Bool.and_eq_true, decide_eq_true_eq, List.all_eq_true]
    refine ⟨by rw [List.length_append] at *; omega, fun o ho => a1 o ?_⟩
    rcases List.mem_append.1 ho with h1 | h1
    · exact List.mem_append_right _ h1
    · exact List.mem_append_left _ h1
  have ht : L.twice (L.syms (B ++ A)) = false := by
    rw [twice_nodup, names_faces] at *
    exact ((faces_perm A B).map Prod.fst).nodup_iff.1 a2
  have hask : L.ask (L.syms (B ++ A)) (L.rels (B ++ A)) = 0 := by
    apply ask_all
    intro r hr
    have hr' : r ∈ L.rels (A ++ B) := by
      unfold L.rels at *
      rw [List.flatMap_append, List.mem_append] at *
      exact hr.symm
    obtain ⟨s, hs, hk⟩ := askOne_found (a3 r hr')
    have hm : s ∈ L.syms (A ++ B) ∧ s.name = r.name := by
      unfold L.look at hs
      have := List.find?_some hs
      exact ⟨List.mem_of_find?_eq_some hs, by simpa using this⟩
    obtain ⟨u, hu, e1, e2⟩ := face_in hm.1
    have hl := look_of_mem ht hu
    rw [e1, hm.2] at hl
    unfold L.askOne
    rw [hl]
    simp only
    rw [if_pos (by rw [e2]; simpa using hk)]
  have hl : layE (B ++ A) = 0 := by
    unfold layE
    rw [ht, hask]
    rfl
  have hf : L.fit (L.sizes (B ++ A)) = true := by rw [sizes_turn]; exact a4
  unfold linkE
  rw [if_pos hm, if_pos hl, if_pos hf]
  split
  · exact .inl rfl
  · exact .inr rfl
theorem order_len {A B : List ObjD} (h1 : linkE (A ++ B) ≠ 7) (h2 : linkE (B ++ A) ≠ 7) : (linkE (A ++ B) = 0 ↔ linkE (B ++ A) = 0) ∧ (linkC (A ++ B)).length = (linkC (B ++ A)).length ∧ (linkD (A ++ B)).length = (linkD (B ++ A)).length ∧ (linkS (A ++ B)).length = (linkS (B ++ A)).length ∧ ∀ s ∈ linkS (A ++ B), ∃ u ∈ linkS (B ++ A), u.name = s.name ∧ u.kind = s.kind := by
  have hiff : linkE (A ++ B) = 0 ↔ linkE (B ++ A) = 0 := ⟨fun h => (link_order h).resolve_right h2, fun h => (link_order h).resolve_right h1⟩
  refine ⟨hiff, ?_⟩
  by_cases h : linkE (A ++ B) = 0
  · obtain ⟨a1, a2, a3, a4, a5, a6, a7⟩ := link_ok h
    obtain ⟨b1, b2, b3, b4, b5, b6, b7⟩ := link_ok (hiff.1 h)
    have c1 := codes_len _ L.zero _ a1.2 a5
    have c2 := codes_len _ L.zero _ b1.2 b5
    have e1 : ((A ++ B).foldl L.grow L.zero) = L.sizes (A ++ B) := rfl
    have e2 : ((B ++ A).foldl L.grow L.zero) = L.sizes (A ++ B) := sizes_turn A B
    rw [e1] at c1
    rw [e2] at c2
    have d1 := datas_len (A ++ B) L.zero
    have d2 := datas_len (B ++ A) L.zero
    rw [e1] at d1
    rw [e2] at d2
    have s1 := syms_len (A ++ B)
    have s2 := syms_len (B ++ A)
    rw [sizes_turn] at s2
    rw [a6, a7, b6, b7]
    exact ⟨by omega, by omega, by omega, fun s hs => face_in hs⟩
  · have h' : linkE (B ++ A) ≠ 0 := fun e => h (hiff.2 e)
    obtain ⟨a1, a2, a3⟩ := link_bad h
    obtain ⟨b1, b2, b3⟩ := link_bad h'
    rw [a1, a2, a3, b1, b2, b3]
    exact ⟨rfl, rfl, rfl, by simp⟩
end Go.Proofs.Ytaoklmphcgigeaa

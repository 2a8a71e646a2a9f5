/- What the document's Copy comes to. (Written by gen_copy.py.) -/
import Derived.Test.YtbkjiipelmfbjaaGreatDoorAsOwn
import Derived.Test.YtbkjiipelmfbjaaGreatDoorAsRow
namespace Go.Proofs.YtbkjiipelmfbjaaGreatDoor
open Go.RowKit Go.Maps Go.Lib
set_option linter.unusedVariables false
set_option linter.unusedSimpArgs false

/-- append of a whole list, nil or not, onto nil. -/
theorem run_append_copy (w : World) (t e : TypeId) (i0 : TypeInfo) (z : Value) (size bytes : Nat) (ht : Tryz.prog.underlying t = some (.slice e)) (hi : Tryz.prog.info? e = some i0) (hz : i0.zero = some z) (hsize : i0.size = size) (hby : i0.bytes = bytes) (hzs : z.cells.size = size) (hsz : 0 < size)
    {a : Option Addr} {l c : Nat} {cs : List Value} (hnil : a = none → l = 0) (hlen : cs.length = l * size) (hcells : ∀ ad, a = some ad → ∀ j u, cs[j]? = some u → w.cell? (ad.add j) = some u) (h1 : ∀ u ∈ cs, u.oneCell' = true) (hb : l * bytes ≤ 140737488355328) (hm : l ≤ 140737488355328) (ty : TypeId) :
    ∃ a' c' w', (Builtin.append_ #[t, t] ty #[.slice none 0 0, .slice a l c]).run Tryz.prog w = .ok (.slice a' l c') w' ∧ w'.ownsRow w.heap.size e size (.slice a' l c') l cs ∧ Below w.heap.size w w' := by
  have key : ∃ v' w', (Builtin.append_ #[t, t] ty #[.slice none 0 0, .slice a l c]).run Tryz.prog w = .ok v' w' ∧ w'.ownsRow w.heap.size e size v' l cs ∧ Below w.heap.size w w' := by
    cases a with
    | none =>
      obtain rfl := hnil rfl
      obtain rfl : cs = [] := List.eq_nil_of_length_eq_zero (by simpa using hlen)
      refine ⟨.slice none 0 0, w, ?_, World.ownsRow_nil _ _ _ _, Below.refl _ _⟩
      simp [Builtin.append_, run_underlying ht, sizeOf, typeInfo, hi, Builtin.lenOf, Builtin.firstCells]
    | some ad =>
      obtain ⟨v', w', hr, ho, hg, -, -⟩ := run_append_own_at (P := Tryz.prog) w w.heap.size t ty e i0 z size bytes ht hi hz hsize hby hzs hsz (.slice none 0 0) 0 [] (World.ownsRow_nil _ _ _ _) ad l c cs hlen (hcells ad rfl) h1 (by unfold maxLen; omega) (by simpa using hb) (Nat.le_refl _)
      exact ⟨v', w', hr, by simpa using ho, (Below.refl _ _).grown hg (Nat.le_refl _) (by intro k hk; cases hk)⟩
  obtain ⟨v', w', hr, ho, hbl⟩ := key
  obtain ⟨a', c', rfl⟩ := own_slice ho
  exact ⟨a', c', w', hr, ho, hbl⟩
set_option maxRecDepth 100000 in
theorem step_append_copy {ops : Array Oper} {o : Oper} {ac : Act} {K : Act → World → Prop} {Q : Exit → Act → World → Prop} {E : Prop} {w : World} (hgd : o.guard = none) (s x : Operand) (t : TypeId)
    (ho : o.op = .call { callee := .builtin .append, args := #[s, x], argTypes := #[t, t] }) (e : TypeId) (i0 : TypeInfo) (z : Value) (size bytes : Nat) (ht : Tryz.prog.underlying t = some (.slice e)) (hi : Tryz.prog.info? e = some i0) (hz : i0.zero = some z) (hsize : i0.size = size) (hby : i0.bytes = bytes) (hzs : z.cells.size = size) (hsz : 0 < size)
    {a : Option Addr} {l c : Nat} {cs : List Value} (hs : ac.eval s = .slice none 0 0) (hx : ac.eval x = .slice a l c) (hnil : a = none → l = 0) (hlen : cs.length = l * size) (hcells : ∀ ad, a = some ad → ∀ j u, cs[j]? = some u → w.cell? (ad.add j) = some u) (h1 : ∀ u ∈ cs, u.oneCell' = true) (hb : l * bytes ≤ 140737488355328) (hm : l ≤ 140737488355328)
    (hk : ∀ a' c' w', w'.ownsRow w.heap.size e size (.slice a' l c') l cs → Below w.heap.size w w' → K (ac.put o.dst (.slice a' l c')) w') :
    if Region.wanted o (yielded ops ac.tmps) = true then Oper.wp Tryz.prog o ac w K Q else E := by
  have hw : Region.wanted o (yielded ops ac.tmps) = true := by simp [Region.wanted, hgd]
  rw [if_pos hw]
  obtain ⟨a', c', w', hr, h2, h3⟩ := run_append_copy w t e i0 z size bytes ht hi hz hsize hby hzs hsz hnil hlen hcells h1 hb hm o.type
  unfold Oper.wp execOp
  simp only [ho, resolve, invoke, builtin, Sem.run_bind, Sem.run_pure, Result.andThen_ok, List.map_toArray, List.map_cons, List.map_nil, hs, hx]
  rw [hr]
  exact hk a' c' w' h2 h3
theorem IntsV.src {w : World} {a : Option Addr} {n c : Nat} {zs : List Int} (h : IntsV w a n c zs) : (a = none → n = 0) ∧ (iC zs).length = n * 1 ∧ (∀ ad, a = some ad → ∀ j u, (iC zs)[j]? = some u → w.cell? (ad.add j) = some u) ∧ ∀ u ∈ iC zs, u.oneCell' = true := by
  have hl : (iC zs).length = n * 1 := by unfold iC; rw [List.length_map, h.count, Nat.mul_one]
  refine ⟨fun e => ?_, hl, fun ad e j u hu => ?_, fun u hu => ?_⟩
  · rcases h.cells with h0 | ⟨b, off, e2, -⟩
    · exact h0
    · rw [e] at e2; cases e2
  · have hj : j < n := by have := (List.getElem?_eq_some_iff.1 hu).1; omega
    rcases h.cells with h0 | ⟨b, off, e2, hc⟩
    · omega
    · rw [e] at e2
      cases e2
      rw [Addr.add_lit, hc j hj, ← hu]
      have : j < zs.length := by rw [h.count]; exact hj
      simp [iC, List.getD, this]
  · unfold iC at hu
    obtain ⟨z, -, rfl⟩ := List.mem_map.1 hu
    rfl
/-- Items with rows of words of their own, whatever their names. -/
def ItC (B : Nat) (W : World) (tv : List (X.It × Value)) : Prop := ∀ p ∈ tv, ∃ aw lw cw, p.2 = .slice aw lw cw ∧ W.ownsRow B 2 1 (.slice aw lw cw) lw (iC p.1.words)
theorem ItC.kept {B : Nat} {W W' : World} {tv : List (X.It × Value)} {r : Option Nat} (h : ItC B W tv) (hg : W.grownBy W' r) (hr : ∀ b o, r = some b → W.heap[b]? = some o → ∀ cs fr, o ≠ .cells cs 2 fr) : ItC B W' tv := by
  intro p hp
  obtain ⟨aw, lw, cw, e, ho⟩ := h p hp
  refine ⟨aw, lw, cw, e, ?_⟩
  rcases ho.2 with ⟨e1, -⟩ | ⟨g, cap, cur, e1, hb, hh, -⟩
  · exact ho.kept hg (.inl (by rw [e1]; rfl))
  · refine ho.kept hg (.inr fun e2 => ?_)
    have e3 : (Value.slice aw lw cw).ownBlock = some g := by rw [e1]; rfl
    rw [e3] at e2
    exact hr g _ e2.symm hh _ _ rfl
theorem ItC.below {B : Nat} {W W' : World} {tv : List (X.It × Value)} (h : ItC B W tv) (hb : Below W.heap.size W W') : ItC B W' tv := h.kept (gb_of_below hb none) (fun b o e => by cases e)
theorem its_of_ownC {W : World} {B B' : Nat} {tv : List (X.It × Value)} {a : Option Addr} {c : Nat} (h : W.ownsRow B 32 7 (.slice a tv.length c) tv.length (tv.flatMap itF)) (ho : ItC B' W tv) (hf : ∀ t ∈ tv.map (·.1), t.name.length ≤ maxLen ∧ X.fitsIt t) : ItsV W a tv.length c (tv.map (·.1)) := by
  rcases h.2 with ⟨e1, e2⟩ | ⟨g, cap, cur, e1, -, -, h1, h2, -⟩
  · injection e1 with e1 _ e3
    subst e1 e3
    exact ⟨by simp, ⟨by omega, Nat.zero_le _⟩, hf, .inl e2⟩
  · injection e1 with e1 _ e3
    subst e1 e3
    refine ⟨by simp, ⟨h1, h2⟩, hf, .inr ⟨g, 0, rfl, fun i hi => ?_⟩⟩
    have hg : (tv.map (·.1)).getD i X.noIt = (tv.getD i (X.noIt, .slice none 0 0)).1 := by simp [List.getD, hi]
    have hm : tv.getD i (X.noIt, .slice none 0 0) ∈ tv := by simp [List.getD, hi]
    obtain ⟨aw, lw, cw, e, hw⟩ := ho _ hm
    have hc : ∀ j u, j < 7 → (itF (tv.getD i (X.noIt, .slice none 0 0)))[j]? = some u → W.cell? ⟨g, i * 7 + j, none⟩ = some u := fun j u hj hu => by
      rw [h.cellAt _ (by omega), flat_at itF 7 (X.noIt, .slice none 0 0) itF_len tv i j hi hj]
      exact hu
    rw [hg]
    refine ⟨aw, lw, cw, ?_, ?_, ?_, ?_, ?_, ?_, ?_, ints_of_own hw⟩
    · simpa using hc 0 _ (by omega) rfl
    · simpa using hc 1 _ (by omega) rfl
    · simpa using hc 2 _ (by omega) rfl
    · simpa using hc 3 _ (by omega) rfl
    · simpa using hc 4 _ (by omega) rfl
    · simpa using hc 5 _ (by omega) rfl
    · rw [← e]; simpa using hc 6 _ (by omega) rfl

/-- What Copy leaves. -/
def CopyOut (w : World) (ts : List X.It) (l : Nat) (e : Ending) (w' : World) : Prop := (∃ lv tv, e = .returned lv ∧ tv.map (·.1) = ts ∧ w'.ownsRow w.heap.size 32 7 lv l (tv.flatMap itF) ∧ ItC w.heap.size w' tv) ∧ Below w.heap.size w w'
end Go.Proofs.YtbkjiipelmfbjaaGreatDoor

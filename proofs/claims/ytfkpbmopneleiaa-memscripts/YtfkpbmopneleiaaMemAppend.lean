/- append of a list that lies somewhere, nil or not, onto nil. -/
import Derived.Test.YtfkpbmopneleiaaMemCopied
import Derived.Deep.AppendLies
import Derived.Laws.OwnMore
namespace Go.Proofs.Ytfkpbmopneleiaa
open Go.RowKit Go.Maps

theorem run_append_view (w : World) {a : Option Addr} {l c : Nat} {zs : List Int} (h : View w a l c zs) (hl : l * 8 ≤ 140737488355328) (ty : TypeId) :
    ∃ a' c' w', (Builtin.append_ #[24, 24] ty #[.slice none 0 0, .slice a l c]).run Try.prog w = .ok (.slice a' l c') w' ∧ w'.ownsRow w.heap.size 2 1 (.slice a' l c') l (zs.map (Value.int .i64)) ∧ Below w.heap.size w w' := by
  obtain ⟨i0, hi, hz0, hz1, hz2⟩ := info_parts infoI
  have hcnt := h.count
  have key : ∃ v' w', (Builtin.append_ #[24, 24] ty #[.slice none 0 0, .slice a l c]).run Try.prog w = .ok v' w' ∧ w'.ownsRow w.heap.size 2 1 v' l (zs.map (Value.int .i64)) ∧ Below w.heap.size w w' := by
    cases a with
    | none =>
      obtain ⟨rfl, rfl⟩ := h.nilOf rfl
      obtain rfl : zs = [] := List.eq_nil_of_length_eq_zero hcnt
      exact ⟨_, _, run_append_owned_none (P := Try.prog) w w.heap.size 24 ty 2 i0 1 Try.underlying24 hi (.slice none 0 0) 0 [] (World.ownsRow_nil _ _ _ _), World.ownsRow_nil _ _ _ _, Below.refl _ _⟩
    | some ad =>
      obtain ⟨v', w', hr, ho, hg, -, -⟩ := run_append_own_at (P := Try.prog) w w.heap.size 24 ty 2 i0 (.int .i64 0) 1 8 Try.underlying24 hi hz0 hz1 hz2 rfl (by decide) (.slice none 0 0) 0 [] (World.ownsRow_nil _ _ _ _) ad l c (zs.map (Value.int .i64)) (by simp [hcnt]) (by
        intro j u hu
        have hj : j < zs.length := by simpa using (List.getElem?_eq_some_iff.1 hu).1
        rcases h.cells with h0 | ⟨b, off, hA, hc⟩
        · omega
        · cases hA
          rw [Addr.add_lit, hc j (by omega)]
          rw [← hu]
          simp [List.getD, hj]) (ints_oneCell _ _) (by unfold maxLen; omega) (by omega) (Nat.le_refl _)
      exact ⟨v', w', hr, by simpa using ho, (Below.refl _ _).grown hg (Nat.le_refl _) (by intro k hk; cases hk)⟩
  obtain ⟨v', w', hr, ho, hb⟩ := key
  rcases ho.2 with ⟨rfl, rfl⟩ | ⟨g, cap, cur, rfl, -⟩
  · exact ⟨_, _, _, hr, ho, hb⟩
  · exact ⟨_, _, _, hr, ho, hb⟩

theorem wp_append_view {o : Oper} {ac : Act} {w : World} {K : Act → World → Prop} {Q : Exit → Act → World → Prop} (s x : Operand)
    (ho : o.op = .call { callee := .builtin .append, args := #[s, x], argTypes := #[24, 24] })
    {a : Option Addr} {l c : Nat} {zs : List Int} (hs : ac.eval s = .slice none 0 0) (hx : ac.eval x = .slice a l c) (h : View w a l c zs) (hl : l * 8 ≤ 140737488355328)
    (hk : ∀ a' c' w', w'.ownsRow w.heap.size 2 1 (.slice a' l c') l (zs.map (Value.int .i64)) → Below w.heap.size w w' → K (ac.put o.dst (.slice a' l c')) w') : o.wp Try.prog ac w K Q := by
  obtain ⟨a', c', w', hr, h2, h3⟩ := run_append_view w h hl o.type
  unfold Oper.wp execOp
  simp only [ho, resolve, invoke, builtin, Sem.run_bind, Sem.run_pure, Result.andThen_ok, List.map_toArray, List.map_cons, List.map_nil, hs, hx, hr]
  exact hk a' c' w' h2 h3

theorem step_append_view {ops : Array Oper} {o : Oper} {ac : Act} {w : World} {K : Act → World → Prop} {Q : Exit → Act → World → Prop} {E : Prop} (hgd : o.guard = none) (s x : Operand)
    (ho : o.op = .call { callee := .builtin .append, args := #[s, x], argTypes := #[24, 24] })
    {a : Option Addr} {l c : Nat} {zs : List Int} (hs : ac.eval s = .slice none 0 0) (hx : ac.eval x = .slice a l c) (h : View w a l c zs) (hl : l * 8 ≤ 140737488355328)
    (hk : ∀ a' c' w', w'.ownsRow w.heap.size 2 1 (.slice a' l c') l (zs.map (Value.int .i64)) → Below w.heap.size w w' → K (ac.put o.dst (.slice a' l c')) w') :
    if Region.wanted o (yielded ops ac.tmps) = true then Oper.wp Try.prog o ac w K Q else E := by
  have hw : Region.wanted o (yielded ops ac.tmps) = true := by simp [Region.wanted, hgd]
  rw [if_pos hw]
  exact wp_append_view s x ho hs hx h hl hk

theorem wpList_append_view {ops : Array Oper} {rest : List Oper} {o : Oper} {ac : Act} {w : World} {Q : Exit → Act → World → Prop} (hgd : o.guard = none) (s x : Operand)
    (ho : o.op = .call { callee := .builtin .append, args := #[s, x], argTypes := #[24, 24] })
    {a : Option Addr} {l c : Nat} {zs : List Int} (hs : ac.eval s = .slice none 0 0) (hx : ac.eval x = .slice a l c) (h : View w a l c zs) (hl : l * 8 ≤ 140737488355328)
    (hk : ∀ a' c' w', w'.ownsRow w.heap.size 2 1 (.slice a' l c') l (zs.map (Value.int .i64)) → Below w.heap.size w w' → wpList Try.prog ops Q rest (ac.put o.dst (.slice a' l c')) w') : wpList Try.prog ops Q (o :: rest) ac w :=
  wpList_plain hgd fun _ hK => wp_append_view s x ho hs hx h hl fun a' c' w' h2 h3 => hK _ _ (hk a' c' w' h2 h3)

end Go.Proofs.Ytfkpbmopneleiaa

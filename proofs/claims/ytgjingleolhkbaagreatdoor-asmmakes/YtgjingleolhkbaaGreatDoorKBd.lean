/- Rows of a call's own: more. -/
import Derived.Test.YtgjingleolhkbaaGreatDoorKAu
import Derived.Deep.AppendSrc
namespace Go.Proofs.YtgjingleolhkbaaGreatDoor
open Go.RowKit Go.Maps Go.Lib
set_option linter.unusedVariables false
set_option linter.unusedSimpArgs false

theorem own_src {w : World} {B : Nat} {ty : TypeId} {k n c : Nat} {a : Option Addr} {cs : List Value} (h : w.ownsRow B ty k (.slice a n c) n cs) : (a = none → n = 0 ∧ c = 0) ∧ cs.length = n * k ∧ ∀ ad, a = some ad → ∀ j u, cs[j]? = some u → w.cell? (ad.add j) = some u := by
  refine ⟨?_, h.1, ?_⟩
  · rintro rfl
    rcases h.2 with ⟨e1, e2⟩ | ⟨g, cap, cur, e1, -⟩
    · cases e1; exact ⟨rfl, rfl⟩
    · cases e1
  · rintro ad rfl j u hu
    rcases h.2 with ⟨e1, -⟩ | ⟨g, cap, cur, e1, -⟩
    · cases e1
    · cases e1
      have := h.cellAt j (by rw [← h.1]; exact (List.getElem?_eq_some_iff.1 hu).1)
      rw [hu] at this
      unfold Addr.add
      split <;> simp_all
theorem own_mono {w : World} {B B' : Nat} {ty : TypeId} {k n : Nat} {v : Value} {cs : List Value} (h : w.ownsRow B ty k v n cs) (hB : B' ≤ B) : w.ownsRow B' ty k v n cs :=
  ⟨h.1, h.2.imp id (fun ⟨g, cap, cur, e, hb, r⟩ => ⟨g, cap, cur, e, Nat.le_trans hB hb, r⟩)⟩
theorem ItO.mono {B B' : Nat} {W : World} {tv : List (X.It × Value)} (h : ItO B W tv) (hB : B' ≤ B) : ItO B' W tv := fun p hp => by
  obtain ⟨hn, aw, lw, cw, e, ho⟩ := h p hp
  exact ⟨hn, aw, lw, cw, e, own_mono ho hB⟩
theorem ItO.below {B : Nat} {W W' : World} {tv : List (X.It × Value)} (h : ItO B W tv) (hb : Below W.heap.size W W') : ItO B W' tv := h.kept (gb_of_below hb none) (fun b o e => by cases e)
theorem below_own {w x y : World} {B : Nat} {ty : TypeId} {k n : Nat} {v : Value} {cs : List Value} (h : Below B w x) (ho : x.ownsRow B ty k v n cs) (hg : x.grownBy y v.ownBlock) (hw : B ≤ x.heap.size) : Below B w y := by
  rcases ho.2 with ⟨e1, -⟩ | ⟨g, cap, cur, e1, hb, -⟩
  · rw [e1] at hg
    exact ⟨hg.os.trans h.os, hg.tape.trans h.tape, hg.output.trans h.output, Nat.le_trans h.size hg.size, fun i hi => (hg.block i (by omega) (fun e => by cases e)).trans (h.block i hi)⟩
  · rw [e1] at hg
    exact below_gb h hg hb hw
theorem oneIt {t : X.It} {aw : Option Addr} {lw cw : Nat} : ∀ u ∈ itC t (.slice aw lw cw), u.oneCell' = true := by
  intro u hu
  simp [itC] at hu
  rcases hu with rfl | rfl | rfl | rfl | rfl | rfl | rfl <;> rfl
/-- append of a whole list, nil or not, onto a row of one's own. -/
theorem run_append_more (w : World) (B : Nat) (t e : TypeId) (i0 : TypeInfo) (z : Value) (size bytes : Nat) (ht : Tryz.prog.underlying t = some (.slice e)) (hi : Tryz.prog.info? e = some i0) (hz : i0.zero = some z) (hsize : i0.size = size) (hby : i0.bytes = bytes) (hzs : z.cells.size = size) (hsz : 0 < size)
    {v : Value} {n : Nat} {xs : List Value} (hown : w.ownsRow B e size v n xs) (hB : B ≤ w.heap.size)
    {a : Option Addr} {l c : Nat} {cs : List Value} (hnil : a = none → l = 0 ∧ c = 0) (hlen : cs.length = l * size) (hcells : ∀ ad, a = some ad → ∀ j u, cs[j]? = some u → w.cell? (ad.add j) = some u) (h1 : ∀ u ∈ cs, u.oneCell' = true) (hb : (n + l) * bytes ≤ 140737488355328) (hm : n + l ≤ 140737488355328) (ty : TypeId) :
    ∃ v' w', (Builtin.append_ #[t, t] ty #[v, .slice a l c]).run Tryz.prog w = .ok v' w' ∧ w'.ownsRow B e size v' (n + l) (xs ++ cs) ∧ w.grownBy w' v.ownBlock ∧ ∀ g, v'.ownBlock = some g → v.ownBlock = some g ∨ w.heap.size ≤ g := by
  cases a with
  | none =>
    obtain ⟨rfl, rfl⟩ := hnil rfl
    obtain rfl : cs = [] := List.eq_nil_of_length_eq_zero (by simpa using hlen)
    exact ⟨_, _, run_append_owned_none (P := Tryz.prog) w B t ty e i0 size ht hi v n xs hown, by simpa using hown, gb_of_below (Below.refl _ _) _, fun g hg => .inl hg⟩
  | some ad =>
    obtain ⟨v', w', hr, ho, hg, -, h5⟩ := run_append_own_at (P := Tryz.prog) w B t ty e i0 z size bytes ht hi hz hsize hby hzs hsz v n xs hown ad l c cs hlen (hcells ad rfl) h1 (by unfold maxLen; omega) hb hB
    refine ⟨v', w', hr, ho, hg, fun g hg' => ?_⟩
    rcases h5 with h5 | h5
    · exact .inl (h5 ▸ hg')
    · rw [h5] at hg'
      cases hg'
      exact .inr (Nat.le_refl _)
theorem wpList_append_more {ops : Array Oper} {rest : List Oper} {o : Oper} {ac : Act} {w : World} {Q : Exit → Act → World → Prop} (hgd : o.guard = none) (s x : Operand) (t : TypeId)
    (ho : o.op = .call { callee := .builtin .append, args := #[s, x], argTypes := #[t, t] }) (B : Nat) (e : TypeId) (i0 : TypeInfo) (z : Value) (size bytes : Nat) (ht : Tryz.prog.underlying t = some (.slice e)) (hi : Tryz.prog.info? e = some i0) (hz : i0.zero = some z) (hsize : i0.size = size) (hby : i0.bytes = bytes) (hzs : z.cells.size = size) (hsz : 0 < size)
    {v : Value} {n : Nat} {xs : List Value} (hs : ac.eval s = v) (hown : w.ownsRow B e size v n xs) (hB : B ≤ w.heap.size)
    {a : Option Addr} {l c : Nat} {cs : List Value} (hx : ac.eval x = .slice a l c) (hnil : a = none → l = 0 ∧ c = 0) (hlen : cs.length = l * size) (hcells : ∀ ad, a = some ad → ∀ j u, cs[j]? = some u → w.cell? (ad.add j) = some u) (h1 : ∀ u ∈ cs, u.oneCell' = true) (hb : (n + l) * bytes ≤ 140737488355328) (hm : n + l ≤ 140737488355328)
    (hk : ∀ v' w', w'.ownsRow B e size v' (n + l) (xs ++ cs) → w.grownBy w' v.ownBlock → (∀ g, v'.ownBlock = some g → v.ownBlock = some g ∨ w.heap.size ≤ g) → wpList Tryz.prog ops Q rest (ac.put o.dst v') w') : wpList Tryz.prog ops Q (o :: rest) ac w := by
  refine wpList_plain hgd fun K hK => ?_
  obtain ⟨v', w', hr, h2, h3, h4⟩ := run_append_more w B t e i0 z size bytes ht hi hz hsize hby hzs hsz hown hB hnil hlen hcells h1 hb hm o.type
  unfold Oper.wp execOp
  simp only [ho, resolve, invoke, builtin, Sem.run_bind, Sem.run_pure, Result.andThen_ok, List.map_toArray, List.map_cons, List.map_nil, hs, hx, hr]
  exact hK _ _ (hk v' w' h2 h3 h4)

end Go.Proofs.YtgjingleolhkbaaGreatDoor

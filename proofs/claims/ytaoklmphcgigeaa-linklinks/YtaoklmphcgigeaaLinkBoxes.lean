/- Rows and boxes of a call's own. -/
import Derived.Test.YtaoklmphcgigeaaLinkFillB
namespace Go.Proofs.Ytaoklmphcgigeaa
open Go.RowKit Go.Lib
set_option linter.unusedVariables false

def Cells (x : World) (b : Nat) (vs : List Value) : Prop := ∀ j u, vs[j]? = some u → x.cell? ⟨b, j, none⟩ = some u
structure Row where
  ty : TypeId
  k : Nat
  v : Value
  n : Nat
  cs : List Value
/-- What a call has made since this world: rows, boxes, each apart from the others. -/
structure BS (w x : World) (rs : List Row) (bs : List (Nat × List Value)) : Prop where
  low : Below w.heap.size w x
  own : ∀ (k : Nat) (r : Row), rs[k]? = some r → x.ownsRow w.heap.size r.ty r.k r.v r.n r.cs
  dis : ∀ (k l : Nat) (r q : Row), rs[k]? = some r → rs[l]? = some q → k ≠ l → ∀ b, r.v.ownBlock = some b → q.v.ownBlock ≠ some b
  box : ∀ (m : Nat) (p : Nat × List Value), bs[m]? = some p → Cells x p.1 p.2 ∧ (∀ o, x.frozen? ⟨p.1, o, none⟩ = false) ∧ p.1 < x.heap.size ∧ w.heap.size ≤ p.1
  far : ∀ (m k : Nat) (p : Nat × List Value) (r : Row), bs[m]? = some p → rs[k]? = some r → r.v.ownBlock ≠ some p.1
  nd : ∀ (m l : Nat) (p q : Nat × List Value), bs[m]? = some p → bs[l]? = some q → m ≠ l → p.1 ≠ q.1

theorem BS.start (w : World) : BS w w [] [] := ⟨Below.refl _ _, by simp, by simp, by simp, by simp, by simp⟩
theorem row_below {w x : World} {B : Nat} {ty : TypeId} {k : Nat} {u : Value} {n : Nat} {cs : List Value} (hu : w.ownsRow B ty k u n cs) (hb : Below w.heap.size w x) : x.ownsRow B ty k u n cs :=
  hu.kept (gb_of_below hb (some w.heap.size)) (.inr fun e => by have := (hu.lt _ e).2; omega)
theorem BS.below {w x y : World} {rs : List Row} {bs : List (Nat × List Value)} (h : BS w x rs bs) (hb : Below x.heap.size x y) : BS w y rs bs :=
  { low := h.low.trans (hb.mono h.low.size), own := fun k r hk => row_below (h.own k r hk) hb, dis := h.dis, far := h.far, nd := h.nd,
    box := fun m p hp => by
      obtain ⟨h1, h2, h3, h5⟩ := h.box m p hp
      exact ⟨fun j u hu => cell_thru hb (h1 j u hu), fun o => (hb.frozen (p := ⟨p.1, o, none⟩) h3).trans (h2 o), Nat.lt_of_lt_of_le h3 hb.size, h5⟩ }
theorem BS.alloc {w x : World} {rs : List Row} {bs : List (Nat × List Value)} (h : BS w x rs bs) (a : Array Value) (t : TypeId) : BS w (x.alloc (.cells a t)) rs ((x.heap.size, a.toList) :: bs) := by
  have k := h.below (bl_one x (.cells a t))
  refine { low := k.low, own := k.own, dis := k.dis, box := fun m p hp => ?_, far := fun m n p r hp hr => ?_, nd := fun m l p q hp hq hml => ?_ }
  · cases m with
    | zero =>
      simp at hp
      subst hp
      exact ⟨fun j u hu => cell_last rfl (by simpa using hu), fun o => World.frozen?_alloc_at _ _ _ _ rfl, by simp, h.low.size⟩
    | succ m => exact k.box m p (by simpa using hp)
  · cases m with
    | zero =>
      simp at hp
      subst hp
      intro e
      have := ((h.own n r hr).lt _ e).2
      simp at this
    | succ m => exact h.far m n p r (by simpa using hp) hr
  · cases m with
    | zero =>
      cases l with
      | zero => exact absurd rfl hml
      | succ l =>
        simp at hp
        subst hp
        have := (h.box l q (by simpa using hq)).2.2.1
        show x.heap.size ≠ q.1
        omega
    | succ m =>
      cases l with
      | zero =>
        simp at hq
        subst hq
        have := (h.box m p (by simpa using hp)).2.2.1
        show p.1 ≠ x.heap.size
        omega
      | succ l => exact h.nd m l p q (by simpa using hp) (by simpa using hq) (by omega)
theorem BS.drop {w x : World} {rs : List Row} {p : Nat × List Value} {bs : List (Nat × List Value)} (h : BS w x rs (p :: bs)) : BS w x rs bs :=
  { low := h.low, own := h.own, dis := h.dis, box := fun m q hq => h.box (m + 1) q (by simpa using hq), far := fun m k q r hq hr => h.far (m + 1) k q r (by simpa using hq) hr, nd := fun m l q r hq hr hml => h.nd (m + 1) (l + 1) q r (by simpa using hq) (by simpa using hr) (by omega) }
theorem BS.put {w x : World} {rs : List Row} {bs : List (Nat × List Value)} (h : BS w x rs bs) (m z : Nat) (vs : List Value) (hm : bs[m]? = some (z, vs)) (k : Nat) (hk : k < vs.length) (u : Value) : BS w (x.setCell ⟨z, k, none⟩ u) rs (bs.set m (z, vs.set k u)) := by
  obtain ⟨h1, h2, h3, h5⟩ := h.box m (z, vs) hm
  simp only at h1 h2 h3 h5
  have hml : m < bs.length := (List.getElem?_eq_some_iff.1 hm).1
  have at' : ∀ l q, (bs.set m (z, vs.set k u))[l]? = some q → (l = m ∧ q = (z, vs.set k u)) ∨ (l ≠ m ∧ bs[l]? = some q) := fun l q hq => by
    by_cases e : m = l
    · subst e
      rw [List.getElem?_set_self hml] at hq
      exact .inl ⟨rfl, by simpa using hq.symm⟩
    · rw [List.getElem?_set_ne e] at hq
      exact .inr ⟨fun e' => e e'.symm, hq⟩
  have gz := gb_set x ⟨z, k, none⟩ u
  refine { low := h.low.setCell h5 u, own := fun n r hr => (h.own n r hr).kept gz (.inr (h.far m n (z, vs) r hm hr)), dis := h.dis, box := fun l q hq => ?_, far := fun l n q r hq hr => ?_, nd := fun l n p q hp hq hln => ?_ }
  · rcases at' l q hq with ⟨rfl, rfl⟩ | ⟨hne, hq'⟩
    · refine ⟨fun j v hv => ?_, fun o => by rw [World.frozen?_setCell]; exact h2 o, by rw [World.size_setCell]; exact h3, h5⟩
      by_cases e : k = j
      · subst e
        rw [List.getElem?_set_self hk] at hv
        cases hv
        refine World.cell?_setCell_same' _ _ _ ?_
        rw [h1 k vs[k] (by simp [hk])]
        rfl
      · rw [List.getElem?_set_ne e] at hv
        rw [World.cell?_setCell_other _ _ _ _ (fun e' => e (by have := congrArg Addr.off e'; simpa using this))]
        exact h1 j v hv
    · obtain ⟨g1, g2, g3, g5⟩ := h.box l q hq'
      have hzq := h.nd m l (z, vs) q hm hq' (fun e => hne e.symm)
      exact ⟨fun j v hv => (World.cell?_setCell_far _ _ _ _ hzq).trans (g1 j v hv), fun o => by rw [World.frozen?_setCell]; exact g2 o, by rw [World.size_setCell]; exact g3, g5⟩
  · rcases at' l q hq with ⟨rfl, rfl⟩ | ⟨hne, hq'⟩
    · exact h.far l n (z, vs) r hm hr
    · exact h.far l n q r hq' hr
  · rcases at' l p hp with ⟨rfl, rfl⟩ | ⟨hne, hp'⟩
    · rcases at' n q hq with ⟨rfl, rfl⟩ | ⟨hne', hq'⟩
      · exact absurd rfl hln
      · exact h.nd l n (z, vs) q hm hq' hln
    · rcases at' n q hq with ⟨rfl, rfl⟩ | ⟨hne', hq'⟩
      · exact h.nd l n p (z, vs) hp' hm hln
      · exact h.nd l n p q hp' hq' hln
/-- A row grows: what it is now owns a block that was its own, or one that is new. -/
theorem BS.push {w x y : World} {rs : List Row} {bs : List (Nat × List Value)} (h : BS w x rs bs) {k : Nat} {r : Row} (hk : rs[k]? = some r) {v' : Value} {n : Nat} {cs : List Value} (ho : y.ownsRow w.heap.size r.ty r.k v' n cs) (hg : x.grownBy y r.v.ownBlock) (hat : ∀ g, v'.ownBlock = some g → r.v.ownBlock = some g ∨ x.heap.size ≤ g) :
    BS w y (rs.set k ⟨r.ty, r.k, v', n, cs⟩) bs := by
  have hor := h.own k r hk
  have hrb : ∀ b, r.v.ownBlock = some b → w.heap.size ≤ b := fun b e => (hor.lt b e).1
  have hkl : k < rs.length := (List.getElem?_eq_some_iff.1 hk).1
  have row : ∀ l q, (rs.set k ⟨r.ty, r.k, v', n, cs⟩)[l]? = some q → (l = k ∧ q = ⟨r.ty, r.k, v', n, cs⟩) ∨ (l ≠ k ∧ rs[l]? = some q) := fun l q hq => by
    by_cases e : k = l
    · subst e
      rw [List.getElem?_set_self hkl] at hq
      exact .inl ⟨rfl, by simpa using hq.symm⟩
    · rw [List.getElem?_set_ne e] at hq
      exact .inr ⟨fun e' => e e'.symm, hq⟩
  refine { low := h.low.grown hg h.low.size hrb, own := fun l q hq => ?_, dis := fun l m q p hq hp hlm b hb => ?_, nd := h.nd, box := fun m p hp => ?_, far := fun m l p q hp hq => ?_ }
  · rcases row l q hq with ⟨rfl, rfl⟩ | ⟨hne, hq'⟩
    · exact ho
    · refine (h.own l q hq').kept hg ?_
      cases e : q.v.ownBlock with
      | none => exact .inl rfl
      | some b => exact .inr fun e' => h.dis l k q r hq' hk hne b e e'.symm
  · rcases row l q hq with ⟨rfl, rfl⟩ | ⟨hne, hq'⟩
    · rcases row m p hp with ⟨rfl, rfl⟩ | ⟨hne', hp'⟩
      · exact absurd rfl hlm
      · intro e
        rcases hat b hb with h1 | h1
        · exact h.dis m l p r hp' hk hne' b e h1
        · have := ((h.own m p hp').lt _ e).2
          omega
    · rcases row m p hp with ⟨rfl, rfl⟩ | ⟨hne', hp'⟩
      · intro e
        rcases hat b e with h1 | h1
        · exact h.dis l m q r hq' hk hne b hb h1
        · have := ((h.own l q hq').lt _ hb).2
          omega
      · exact h.dis l m q p hq' hp' hlm b hb
  · obtain ⟨h1, h2, h3, h5⟩ := h.box m p hp
    have hne := h.far m k p r hp hk
    exact ⟨fun j u hu => hg.cell (h1 j u hu) (fun e => hne e.symm), fun o => (hg.frozen_far ⟨p.1, o, none⟩ h3 (fun e => hne e.symm)).trans (h2 o), Nat.lt_of_lt_of_le h3 hg.size, h5⟩
  · rcases row l q hq with ⟨rfl, rfl⟩ | ⟨hne, hq'⟩
    · intro e
      rcases hat _ e with h1 | h1
      · exact h.far m l p r hp hk h1
      · have := (h.box m p hp).2.2.1
        omega
    · exact h.far m l p q hp hq'
/-- A row more, as nil. -/
theorem BS.nil {w x : World} {rs : List Row} {bs : List (Nat × List Value)} (h : BS w x rs bs) (ty : TypeId) (k : Nat) : BS w x (⟨ty, k, .slice none 0 0, 0, []⟩ :: rs) bs := by
  refine { low := h.low, own := fun l r hr => ?_, dis := fun l m r q hr hq hlm b hb => ?_, box := h.box, far := fun m l p r hp hr => ?_, nd := h.nd }
  · cases l with
    | zero => simp at hr; subst hr; exact World.ownsRow_nil _ _ _ _
    | succ l => exact h.own l r (by simpa using hr)
  · cases l with
    | zero => simp at hr; subst hr; simp [Value.ownBlock] at hb
    | succ l =>
      cases m with
      | zero => simp at hq; subst hq; simp [Value.ownBlock]
      | succ m => exact h.dis l m r q (by simpa using hr) (by simpa using hq) (by omega) b hb
  · cases l with
    | zero => simp at hr; subst hr; simp [Value.ownBlock]
    | succ l => exact h.far m l p r hp (by simpa using hr)
end Go.Proofs.Ytaoklmphcgigeaa

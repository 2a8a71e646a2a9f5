/- What the document's reading keeps: its reader, its rows, its boxes. -/
import Derived.Test.YtmpmfjplnajjdaaObjRefRd
namespace Go.Proofs.Ytmpmfjplnajjdaa
open Go.RowKit Go.Maps Go.Lib
set_option linter.unusedVariables false

structure FS (w : World) (B : Nat) (x : World) (br : Nat) (s : ByteArray) (i : Nat) (bad : Bool) (rs : List Row) (bs : List (Nat × List Value)) : Prop where
  rd : RX x br s i bad
  g : w.grownBy x (some br)
  own : ∀ (k : Nat) (r : Row), rs[k]? = some r → x.ownsRow B r.ty r.k r.v r.n r.cs
  dis : ∀ (k l : Nat) (r q : Row), rs[k]? = some r → rs[l]? = some q → k ≠ l → ∀ b, r.v.ownBlock = some b → q.v.ownBlock ≠ some b
  box : ∀ (m : Nat) (p : Nat × List Value), bs[m]? = some p → Cells x p.1 p.2 ∧ (∀ o, x.frozen? ⟨p.1, o, none⟩ = false) ∧ p.1 < x.heap.size ∧ p.1 ≠ br ∧ w.heap.size ≤ p.1
  far : ∀ (m k : Nat) (p : Nat × List Value) (r : Row), bs[m]? = some p → rs[k]? = some r → r.v.ownBlock ≠ some p.1
  nd : ∀ (m l : Nat) (p q : Nat × List Value), bs[m]? = some p → bs[l]? = some q → m ≠ l → p.1 ≠ q.1
  lt : br < B
  Bx : B ≤ x.heap.size
  wB : w.heap.size ≤ B

theorem FS.call {w x y : World} {B br : Nat} {s : ByteArray} {i j : Nat} {b b' : Bool} {rs : List Row} {bs : List (Nat × List Value)} (h : FS w B x br s i b rs bs) (hr : RX y br s j b') (hg : x.grownBy y (some br)) : FS w B y br s j b' rs bs :=
  have hl := h.lt
  { rd := hr, g := grown_trans h.g hg, own := fun k r hk => (h.own k r hk).kept hg (.inr fun e => by have := ((h.own k r hk).lt _ e).1; omega), dis := h.dis, far := h.far, nd := h.nd, lt := h.lt, wB := h.wB, Bx := Nat.le_trans h.Bx hg.size,
    box := fun m p hp => by
      obtain ⟨h1, h2, h3, h4, h5⟩ := h.box m p hp
      exact ⟨fun j u hu => grown_cell hg (h1 j u hu) h4, fun o => grown_froz hg h3 h4 (h2 o), Nat.lt_of_lt_of_le h3 hg.size, h4, h5⟩ }
theorem FS.below {w x y : World} {B br : Nat} {s : ByteArray} {i : Nat} {b : Bool} {rs : List Row} {bs : List (Nat × List Value)} (h : FS w B x br s i b rs bs) (hb : Below x.heap.size x y) : FS w B y br s i b rs bs := h.call (h.rd.below hb) (gb_below hb _)
theorem FS.alloc {w x : World} {B br : Nat} {s : ByteArray} {i : Nat} {b : Bool} {rs : List Row} {bs : List (Nat × List Value)} (h : FS w B x br s i b rs bs) (a : Array Value) (t : TypeId) : FS w B (x.alloc (.cells a t)) br s i b rs ((x.heap.size, a.toList) :: bs) := by
  have k := h.below (bl_one x (.cells a t))
  have hlt := h.rd.lt
  refine { rd := k.rd, g := k.g, own := k.own, dis := k.dis, lt := k.lt, Bx := k.Bx, wB := k.wB, box := fun m p hp => ?_, far := fun m n p r hp hr => ?_, nd := fun m l p q hp hq hml => ?_ }
  · cases m with
    | zero =>
      simp at hp
      subst hp
      exact ⟨fun j u hu => cell_last rfl (by simpa using hu), fun o => World.frozen?_alloc_at _ _ _ _ rfl, by simp, by show x.heap.size ≠ br; omega, Nat.le_trans h.wB h.Bx⟩
    | succ m => exact k.box m p (by simpa using hp)
  · cases m with
    | zero =>
      simp at hp
      subst hp
      intro e
      have := ((h.own n r hr).lt _ e).2
      simp at this
    | succ m => exact h.far m n p r (by simpa using hp) hr
  · cases m with
    | zero =>
      cases l with
      | zero => exact absurd rfl hml
      | succ l =>
        simp at hp
        subst hp
        have := (h.box l q (by simpa using hq)).2.2.1
        show x.heap.size ≠ q.1
        omega
    | succ m =>
      cases l with
      | zero =>
        simp at hq
        subst hq
        have := (h.box m p (by simpa using hp)).2.2.1
        show p.1 ≠ x.heap.size
        omega
      | succ l => exact h.nd m l p q (by simpa using hp) (by simpa using hq) (by omega)
theorem FS.drop {w x : World} {B br : Nat} {s : ByteArray} {i : Nat} {b : Bool} {rs : List Row} {p : Nat × List Value} {bs : List (Nat × List Value)} (h : FS w B x br s i b rs (p :: bs)) : FS w B x br s i b rs bs :=
  { rd := h.rd, g := h.g, own := h.own, dis := h.dis, lt := h.lt, Bx := h.Bx, wB := h.wB, box := fun m q hq => h.box (m + 1) q (by simpa using hq), far := fun m k q r hq hr => h.far (m + 1) k q r (by simpa using hq) hr, nd := fun m l q r hq hr hml => h.nd (m + 1) (l + 1) q r (by simpa using hq) (by simpa using hr) (by omega) }
theorem FS.put {w x : World} {B br : Nat} {s : ByteArray} {i : Nat} {b : Bool} {rs : List Row} {bs : List (Nat × List Value)} (h : FS w B x br s i b rs bs) (m z : Nat) (vs : List Value) (hm : bs[m]? = some (z, vs)) (k : Nat) (hk : k < vs.length) (u : Value) : FS w B (x.setCell ⟨z, k, none⟩ u) br s i b rs (bs.set m (z, vs.set k u)) := by
  obtain ⟨h1, h2, h3, h4, h5⟩ := h.box m (z, vs) hm
  simp only at h1 h2 h3 h4 h5
  have hml : m < bs.length := (List.getElem?_eq_some_iff.1 hm).1
  have at' : ∀ l q, (bs.set m (z, vs.set k u))[l]? = some q → (l = m ∧ q = (z, vs.set k u)) ∨ (l ≠ m ∧ bs[l]? = some q) := fun l q hq => by
    by_cases e : m = l
    · subst e
      rw [List.getElem?_set_self hml] at hq
      exact .inl ⟨rfl, by simpa using hq.symm⟩
    · rw [List.getElem?_set_ne e] at hq
      exact .inr ⟨fun e' => e e'.symm, hq⟩
  have gz := gb_setO x ⟨z, k, none⟩ u
  refine { rd := h.rd.grown gz (by simpa using h4), g := grown_into h.g gz (fun b e => by cases e; exact h5), own := fun n r hr => (h.own n r hr).kept gz (.inr (h.far m n (z, vs) r hm hr)), dis := h.dis, lt := h.lt, Bx := by rw [World.size_setCell]; exact h.Bx, wB := h.wB, box := fun l q hq => ?_, far := fun l n q r hq hr => ?_, nd := fun l n p q hp hq hln => ?_ }
  · rcases at' l q hq with ⟨rfl, rfl⟩ | ⟨hne, hq'⟩
    · refine ⟨fun j v hv => ?_, fun o => by rw [World.frozen?_setCell]; exact h2 o, by rw [World.size_setCell]; exact h3, h4, h5⟩
      by_cases e : k = j
      · subst e
        rw [List.getElem?_set_self hk] at hv
        cases hv
        refine World.cell?_setCell_same' _ _ _ ?_
        rw [h1 k vs[k] (by simp [hk])]
        rfl
      · rw [List.getElem?_set_ne e] at hv
        rw [World.cell?_setCell_other _ _ _ _ (fun e' => e (by have := congrArg Addr.off e'; simpa using this))]
        exact h1 j v hv
    · obtain ⟨g1, g2, g3, g4, g5⟩ := h.box l q hq'
      have hzq := h.nd m l (z, vs) q hm hq' (fun e => hne e.symm)
      exact ⟨fun j v hv => (World.cell?_setCell_far _ _ _ _ hzq).trans (g1 j v hv), fun o => by rw [World.frozen?_setCell]; exact g2 o, by rw [World.size_setCell]; exact g3, g4, g5⟩
  · rcases at' l q hq with ⟨rfl, rfl⟩ | ⟨hne, hq'⟩
    · exact h.far l n (z, vs) r hm hr
    · exact h.far l n q r hq' hr
  · rcases at' l p hp with ⟨rfl, rfl⟩ | ⟨hne, hp'⟩
    · rcases at' n q hq with ⟨rfl, rfl⟩ | ⟨hne', hq'⟩
      · exact absurd rfl hln
      · exact h.nd l n (z, vs) q hm hq' hln
    · rcases at' n q hq with ⟨rfl, rfl⟩ | ⟨hne', hq'⟩
      · exact h.nd l n p (z, vs) hp' hm hln
      · exact h.nd l n p q hp' hq' hln
theorem FS.push {w x y : World} {B br : Nat} {s : ByteArray} {i : Nat} {b : Bool} {rs : List Row} {bs : List (Nat × List Value)} (h : FS w B x br s i b rs bs) {k : Nat} {r : Row} (hk : rs[k]? = some r) {g n cap : Nat} {cs : List Value} {H : Nat} (ho : y.ownsRow B r.ty r.k (.slice (some ⟨g, 0, none⟩) n cap) n cs) (hg : x.grownBy y r.v.ownBlock) (hat : r.v.ownBlock = some g ∨ g = H) (hH : x.heap.size = H) :
    FS w B y br s i b (rs.set k ⟨r.ty, r.k, .slice (some ⟨g, 0, none⟩) n cap, n, cs⟩) bs := by
  subst hH
  have hl := h.lt
  have hwB := h.wB
  have hor := h.own k r hk
  have hrb : ∀ b, r.v.ownBlock = some b → B ≤ b := fun b e => (hor.lt b e).1
  have nbr : r.v.ownBlock ≠ some br := fun e => by have := hrb _ e; omega
  have hkl : k < rs.length := (List.getElem?_eq_some_iff.1 hk).1
  have row : ∀ l q, (rs.set k ⟨r.ty, r.k, .slice (some ⟨g, 0, none⟩) n cap, n, cs⟩)[l]? = some q → (l = k ∧ q = ⟨r.ty, r.k, .slice (some ⟨g, 0, none⟩) n cap, n, cs⟩) ∨ (l ≠ k ∧ rs[l]? = some q) := fun l q hq => by
    by_cases e : k = l
    · subst e
      rw [List.getElem?_set_self hkl] at hq
      exact .inl ⟨rfl, by simpa using hq.symm⟩
    · rw [List.getElem?_set_ne e] at hq
      exact .inr ⟨fun e' => e e'.symm, hq⟩
  refine { rd := h.rd.grown hg nbr, g := grown_into h.g hg (fun b e => by have := hrb b e; omega), own := fun l q hq => ?_, dis := fun l m q p hq hp hlm b hb => ?_, lt := h.lt, Bx := Nat.le_trans h.Bx hg.size, wB := h.wB, nd := h.nd, box := fun m p hp => ?_, far := fun m l p q hp hq => ?_ }
  · rcases row l q hq with ⟨rfl, rfl⟩ | ⟨hne, hq'⟩
    · exact ho
    · refine (h.own l q hq').kept hg ?_
      cases e : q.v.ownBlock with
      | none => exact .inl rfl
      | some b => exact .inr fun e' => h.dis l k q r hq' hk hne b e e'.symm
  · rcases row l q hq with ⟨rfl, rfl⟩ | ⟨hne, hq'⟩
    · rcases row m p hp with ⟨rfl, rfl⟩ | ⟨hne', hp'⟩
      · exact absurd rfl hlm
      · have : g = b := by simpa [Value.ownBlock] using hb
        subst this
        intro e
        rcases hat with h1 | h1
        · exact h.dis m l p r hp' hk hne' g e h1
        · have := ((h.own m p hp').lt _ e).2
          omega
    · rcases row m p hp with ⟨rfl, rfl⟩ | ⟨hne', hp'⟩
      · intro e
        have : g = b := by simpa [Value.ownBlock] using e
        subst this
        rcases hat with h1 | h1
        · exact h.dis l m q r hq' hk hne g hb h1
        · have := ((h.own l q hq').lt _ hb).2
          omega
      · exact h.dis l m q p hq' hp' hlm b hb
  · obtain ⟨h1, h2, h3, h4, h5⟩ := h.box m p hp
    have hne := h.far m k p r hp hk
    exact ⟨fun j u hu => grown_row hg (h1 j u hu) hne, fun o => (hg.frozen_far ⟨p.1, o, none⟩ h3 (fun e => hne e.symm)).trans (h2 o), Nat.lt_of_lt_of_le h3 hg.size, h4, h5⟩
  · rcases row l q hq with ⟨rfl, rfl⟩ | ⟨hne, hq'⟩
    · intro e
      have e' : g = p.1 := by simpa [Value.ownBlock] using e
      subst e'
      rcases hat with h1 | h1
      · exact h.far m l p r hp hk h1
      · have := (h.box m p hp).2.2.1
        omega
    · exact h.far m l p q hp hq'

end Go.Proofs.Ytmpmfjplnajjdaa

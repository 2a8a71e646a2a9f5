/- A machine's regions may be; what stands in them. No walk. -/
import Derived.Test.YtffokdldgdjkhaaDoorIA
import Derived.Test.YtffokdldgdjkhaaDoorID
import Derived.Deep.OwnRows
namespace Go.Proofs.YtffokdldgdjkhaaDoor.X
open Go.RowKit Go.Maps
set_option linter.unusedVariables false

theorem tmod8 (x : Int) : x.tmod 8 = 0 ↔ x % 8 = 0 := by
  constructor
  · intro h
    have := Int.dvd_of_tmod_eq_zero h
    omega
  · intro h
    exact Int.tmod_eq_zero_of_dvd (by omega)

theorem ths0_len : ∀ (l : List Int) (i : Nat), (T.ths0 i l).length = l.length
  | [], _ => rfl
  | a :: l, i => by rw [T.ths0, List.length_cons, ths0_len l (i + 1), List.length_cons]
theorem ths0_snoc : ∀ (l : List Int) (i : Nat) (a : Int), T.ths0 i (l ++ [a]) = T.ths0 i l ++ [T.th0 (i + l.length) a]
  | [], i, a => rfl
  | b :: l, i, a => by rw [List.cons_append, T.ths0, ths0_snoc l (i + 1) a, T.ths0, List.length_cons, show i + 1 + l.length = i + (l.length + 1) by omega]; rfl
theorem ths0_ws : ∀ (l : List Int) (i : Nat) (h : T.Th), h ∈ T.ths0 i l → h.ws = []
  | [], i, h, hm => by simp [T.ths0] at hm
  | a :: l, i, h, hm => by
    rw [T.ths0, List.mem_cons] at hm
    rcases hm with rfl | hm
    · rfl
    · exact ths0_ws l (i + 1) h hm
/-- Threads, one behind the other, as they lie. -/
def thR : Nat → List T.Th → List Value
  | _, [] => []
  | i, h :: l => thC i h (.slice none 0 0) ++ thR (i + 1) l
theorem thR_snoc : ∀ (l : List T.Th) (i : Nat) (h : T.Th), thR i (l ++ [h]) = thR i l ++ thC (i + l.length) h (.slice none 0 0)
  | [], i, h => by simp [thR]
  | b :: l, i, h => by rw [List.cons_append, thR, thR_snoc l (i + 1) h, thR, List.append_assoc, List.length_cons, show i + 1 + l.length = i + (l.length + 1) by omega]
theorem thR_at : ∀ (l : List T.Th) (i k j : Nat) (h : T.Th), l[k]? = some h → j < 13 → (thR i l)[k * 13 + j]? = (thC (i + k) h (.slice none 0 0))[j]?
  | [], i, k, j, h, hk, _ => by simp at hk
  | b :: l, i, 0, j, h, hk, hj => by
    simp at hk
    subst hk
    rw [thR, Nat.zero_mul, Nat.zero_add, List.getElem?_append_left (by rw [thC_len]; omega)]
    rfl
  | b :: l, i, k + 1, j, h, hk, hj => by
    rw [thR, List.getElem?_append_right (by rw [thC_len]; omega), thC_len, show (k + 1) * 13 + j - 13 = k * 13 + j by omega, thR_at l (i + 1) k j h (by simpa using hk) hj, show i + 1 + k = i + (k + 1) by omega]

end Go.Proofs.YtffokdldgdjkhaaDoor.X

/- A new machine. -/
namespace Go.Proofs.YtffokdldgdjkhaaDoor.X
open Go.RowKit Go.Maps
set_option linter.unusedVariables false
set_option linter.unusedSimpArgs false

def ImgD.may (m : ImgD) : Bool := T.mayRun m.code m.data.length (strt m.syms)
def ImgD.mach (m : ImgD) : T.Mach := T.mach0 m.code m.data (strt m.syms)




end Go.Proofs.YtffokdldgdjkhaaDoor.X

/- A run. -/
namespace Go.Proofs.YtffokdldgdjkhaaDoor.X
open Go.RowKit Go.Maps
set_option linter.unusedVariables false
set_option linter.unusedSimpArgs false

theorem mach_len (m : ImgD) (hm : m.may = true) : 0 < m.mach.ts.length ∧ m.mach.ts.length ≤ 4 := by
  have h1 := of_decide_eq_true (Bool.and_eq_true_iff.1 hm).1
  show 0 < (T.ths0 0 (strt m.syms)).length ∧ (T.ths0 0 (strt m.syms)).length ≤ 4
  rw [ths0_len]
  omega
theorem mach_code (m : ImgD) (hm : m.may = true) : m.mach.code.size ≤ 65536 := (of_decide_eq_true (Bool.and_eq_true_iff.1 hm).1).2.2.1
theorem mach_ok (m : ImgD) : MOk m.mach := by
  intro k hk
  have h : (m.mach.th k).ws = [] := by
    refine ths0_ws (strt m.syms) 0 _ ?_
    have : m.mach.ts[k]? = some (m.mach.th k) := T.th_at hk
    exact List.mem_of_getElem? this
  rw [h]
  exact ⟨⟨by simp, by simp⟩, by simp⟩
def RunIs (B : Nat) (e : Ending) (w' : World) (es : List T.Ev) : Prop := ∃ v', e = .returned (.tuple #[v', .int .i64 0]) ∧ w'.ownsRow B 101 3 v' es.length (es.flatMap eC)



end Go.Proofs.YtffokdldgdjkhaaDoor.X

/- Rows and boxes of a call's own. -/
namespace Go.Proofs.YtffokdldgdjkhaaDoor.X
open Go.RowKit Go.Lib
set_option linter.unusedVariables false

def Cells (x : World) (b : Nat) (vs : List Value) : Prop := ∀ j u, vs[j]? = some u → x.cell? ⟨b, j, none⟩ = some u
structure Row where
  ty : TypeId
  k : Nat
  v : Value
  n : Nat
  cs : List Value
/-- What a call has made since this world: rows, boxes, each apart from the others. -/
structure BS (w x : World) (rs : List Row) (bs : List (Nat × List Value)) : Prop where
  low : Below w.heap.size w x
  own : ∀ (k : Nat) (r : Row), rs[k]? = some r → x.ownsRow w.heap.size r.ty r.k r.v r.n r.cs
  dis : ∀ (k l : Nat) (r q : Row), rs[k]? = some r → rs[l]? = some q → k ≠ l → ∀ b, r.v.ownBlock = some b → q.v.ownBlock ≠ some b
  box : ∀ (m : Nat) (p : Nat × List Value), bs[m]? = some p → Cells x p.1 p.2 ∧ (∀ o, x.frozen? ⟨p.1, o, none⟩ = false) ∧ p.1 < x.heap.size ∧ w.heap.size ≤ p.1
  far : ∀ (m k : Nat) (p : Nat × List Value) (r : Row), bs[m]? = some p → rs[k]? = some r → r.v.ownBlock ≠ some p.1
  nd : ∀ (m l : Nat) (p q : Nat × List Value), bs[m]? = some p → bs[l]? = some q → m ≠ l → p.1 ≠ q.1

theorem BS.start (w : World) : BS w w [] [] := ⟨Below.refl _ _, by simp, by simp, by simp, by simp, by simp⟩
theorem row_below {w x : World} {B : Nat} {ty : TypeId} {k : Nat} {u : Value} {n : Nat} {cs : List Value} (hu : w.ownsRow B ty k u n cs) (hb : Below w.heap.size w x) : x.ownsRow B ty k u n cs :=
  hu.kept (gb_of_below hb (some w.heap.size)) (.inr fun e => by have := (hu.lt _ e).2; omega)
theorem BS.below {w x y : World} {rs : List Row} {bs : List (Nat × List Value)} (h : BS w x rs bs) (hb : Below x.heap.size x y) : BS w y rs bs :=
  { low := h.low.trans (hb.mono h.low.size), own := fun k r hk => row_below (h.own k r hk) hb, dis := h.dis, far := h.far, nd := h.nd,
    box := fun m p hp => by
      obtain ⟨h1, h2, h3, h5⟩ := h.box m p hp
      exact ⟨fun j u hu => cell_up hb (h1 j u hu), fun o => (hb.frozen (p := ⟨p.1, o, none⟩) h3).trans (h2 o), Nat.lt_of_lt_of_le h3 hb.size, h5⟩ }
theorem BS.alloc {w x : World} {rs : List Row} {bs : List (Nat × List Value)} (h : BS w x rs bs) (a : Array Value) (t : TypeId) : BS w (x.alloc (.cells a t)) rs ((x.heap.size, a.toList) :: bs) := by
  have k := h.below (bl_one x (.cells a t))
  refine { low := k.low, own := k.own, dis := k.dis, box := fun m p hp => ?_, far := fun m n p r hp hr => ?_, nd := fun m l p q hp hq hml => ?_ }
  · cases m with
    | zero =>
      simp at hp
      subst hp
      exact ⟨fun j u hu => cell_last _ _ _ _ _ rfl (by simpa using hu), fun o => World.frozen?_alloc_at _ _ _ _ rfl, by simp, h.low.size⟩
    | succ m => exact k.box m p (by simpa using hp)
  · cases m with
    | zero =>
      simp at hp
      subst hp
      intro e
      have := ((h.own n r hr).lt _ e).2
      simp at this
    | succ m => exact h.far m n p r (by simpa using hp) hr
  · cases m with
    | zero =>
      cases l with
      | zero => exact absurd rfl hml
      | succ l =>
        simp at hp
        subst hp
        have := (h.box l q (by simpa using hq)).2.2.1
        show x.heap.size ≠ q.1
        omega
    | succ m =>
      cases l with
      | zero =>
        simp at hq
        subst hq
        have := (h.box m p (by simpa using hp)).2.2.1
        show p.1 ≠ x.heap.size
        omega
      | succ l => exact h.nd m l p q (by simpa using hp) (by simpa using hq) (by omega)
theorem BS.drop {w x : World} {rs : List Row} {p : Nat × List Value} {bs : List (Nat × List Value)} (h : BS w x rs (p :: bs)) : BS w x rs bs :=
  { low := h.low, own := h.own, dis := h.dis, box := fun m q hq => h.box (m + 1) q (by simpa using hq), far := fun m k q r hq hr => h.far (m + 1) k q r (by simpa using hq) hr, nd := fun m l q r hq hr hml => h.nd (m + 1) (l + 1) q r (by simpa using hq) (by simpa using hr) (by omega) }
theorem BS.put {w x : World} {rs : List Row} {bs : List (Nat × List Value)} (h : BS w x rs bs) (m z : Nat) (vs : List Value) (hm : bs[m]? = some (z, vs)) (k : Nat) (hk : k < vs.length) (u : Value) : BS w (x.setCell ⟨z, k, none⟩ u) rs (bs.set m (z, vs.set k u)) := by
  obtain ⟨h1, h2, h3, h5⟩ := h.box m (z, vs) hm
  simp only at h1 h2 h3 h5
  have hml : m < bs.length := (List.getElem?_eq_some_iff.1 hm).1
  have at' : ∀ l q, (bs.set m (z, vs.set k u))[l]? = some q → (l = m ∧ q = (z, vs.set k u)) ∨ (l ≠ m ∧ bs[l]? = some q) := fun l q hq => by
    by_cases e : m = l
    · subst e
      rw [List.getElem?_set_self hml] at hq
      exact .inl ⟨rfl, by simpa using hq.symm⟩
    · rw [List.getElem?_set_ne e] at hq
      exact .inr ⟨fun e' => e e'.symm, hq⟩
  have gz := gb_set x ⟨z, k, none⟩ u
  refine { low := h.low.setCell h5 u, own := fun n r hr => (h.own n r hr).kept gz (.inr (h.far m n (z, vs) r hm hr)), dis := h.dis, box := fun l q hq => ?_, far := fun l n q r hq hr => ?_, nd := fun l n p q hp hq hln => ?_ }
  · rcases at' l q hq with ⟨rfl, rfl⟩ | ⟨hne, hq'⟩
    · refine ⟨fun j v hv => ?_, fun o => by rw [World.frozen?_setCell]; exact h2 o, by rw [World.size_setCell]; exact h3, h5⟩
      by_cases e : k = j
      · subst e
        rw [List.getElem?_set_self hk] at hv
        cases hv
        refine World.cell?_setCell_same' _ _ _ ?_
        rw [h1 k vs[k] (by simp [hk])]
        rfl
      · rw [List.getElem?_set_ne e] at hv
        rw [World.cell?_setCell_other _ _ _ _ (fun e' => e (by have := congrArg Addr.off e'; simpa using this))]
        exact h1 j v hv
    · obtain ⟨g1, g2, g3, g5⟩ := h.box l q hq'
      have hzq := h.nd m l (z, vs) q hm hq' (fun e => hne e.symm)
      exact ⟨fun j v hv => (World.cell?_setCell_far _ _ _ _ hzq).trans (g1 j v hv), fun o => by rw [World.frozen?_setCell]; exact g2 o, by rw [World.size_setCell]; exact g3, g5⟩
  · rcases at' l q hq with ⟨rfl, rfl⟩ | ⟨hne, hq'⟩
    · exact h.far l n (z, vs) r hm hr
    · exact h.far l n q r hq' hr
  · rcases at' l p hp with ⟨rfl, rfl⟩ | ⟨hne, hp'⟩
    · rcases at' n q hq with ⟨rfl, rfl⟩ | ⟨hne', hq'⟩
      · exact absurd rfl hln
      · exact h.nd l n (z, vs) q hm hq' hln
    · rcases at' n q hq with ⟨rfl, rfl⟩ | ⟨hne', hq'⟩
      · exact h.nd l n p (z, vs) hp' hm hln
      · exact h.nd l n p q hp' hq' hln
/-- A row grows: what it is now owns a block that was its own, or one that is new. -/
theorem BS.push {w x y : World} {rs : List Row} {bs : List (Nat × List Value)} (h : BS w x rs bs) {k : Nat} {r : Row} (hk : rs[k]? = some r) {v' : Value} {n : Nat} {cs : List Value} (ho : y.ownsRow w.heap.size r.ty r.k v' n cs) (hg : x.grownBy y r.v.ownBlock) (hat : ∀ g, v'.ownBlock = some g → r.v.ownBlock = some g ∨ x.heap.size ≤ g) :
    BS w y (rs.set k ⟨r.ty, r.k, v', n, cs⟩) bs := by
  have hor := h.own k r hk
  have hrb : ∀ b, r.v.ownBlock = some b → w.heap.size ≤ b := fun b e => (hor.lt b e).1
  have hkl : k < rs.length := (List.getElem?_eq_some_iff.1 hk).1
  have row : ∀ l q, (rs.set k ⟨r.ty, r.k, v', n, cs⟩)[l]? = some q → (l = k ∧ q = ⟨r.ty, r.k, v', n, cs⟩) ∨ (l ≠ k ∧ rs[l]? = some q) := fun l q hq => by
    by_cases e : k = l
    · subst e
      rw [List.getElem?_set_self hkl] at hq
      exact .inl ⟨rfl, by simpa using hq.symm⟩
    · rw [List.getElem?_set_ne e] at hq
      exact .inr ⟨fun e' => e e'.symm, hq⟩
  refine { low := h.low.grown hg h.low.size hrb, own := fun l q hq => ?_, dis := fun l m q p hq hp hlm b hb => ?_, nd := h.nd, box := fun m p hp => ?_, far := fun m l p q hp hq => ?_ }
  · rcases row l q hq with ⟨rfl, rfl⟩ | ⟨hne, hq'⟩
    · exact ho
    · refine (h.own l q hq').kept hg ?_
      cases e : q.v.ownBlock with
      | none => exact .inl rfl
      | some b => exact .inr fun e' => h.dis l k q r hq' hk hne b e e'.symm
  · rcases row l q hq with ⟨rfl, rfl⟩ | ⟨hne, hq'⟩
    · rcases row m p hp with ⟨rfl, rfl⟩ | ⟨hne', hp'⟩
      · exact absurd rfl hlm
      · intro e
        rcases hat b hb with h1 | h1
        · exact h.dis m l p r hp' hk hne' b e h1
        · have := ((h.own m p hp').lt _ e).2
          omega
    · rcases row m p hp with ⟨rfl, rfl⟩ | ⟨hne', hp'⟩
      · intro e
        rcases hat b e with h1 | h1
        · exact h.dis l m q r hq' hk hne b hb h1
        · have := ((h.own l q hq').lt _ hb).2
          omega
      · exact h.dis l m q p hq' hp' hlm b hb
  · obtain ⟨h1, h2, h3, h5⟩ := h.box m p hp
    have hne := h.far m k p r hp hk
    exact ⟨fun j u hu => hg.cell (h1 j u hu) (fun e => hne e.symm), fun o => (hg.frozen_far ⟨p.1, o, none⟩ h3 (fun e => hne e.symm)).trans (h2 o), Nat.lt_of_lt_of_le h3 hg.size, h5⟩
  · rcases row l q hq with ⟨rfl, rfl⟩ | ⟨hne, hq'⟩
    · intro e
      rcases hat _ e with h1 | h1
      · exact h.far m l p r hp hk h1
      · have := (h.box m p hp).2.2.1
        omega
    · exact h.far m l p q hp hq'
/-- A row more, as nil. -/
theorem BS.nil {w x : World} {rs : List Row} {bs : List (Nat × List Value)} (h : BS w x rs bs) (ty : TypeId) (k : Nat) : BS w x (⟨ty, k, .slice none 0 0, 0, []⟩ :: rs) bs := by
  refine { low := h.low, own := fun l r hr => ?_, dis := fun l m r q hr hq hlm b hb => ?_, box := h.box, far := fun m l p r hp hr => ?_, nd := h.nd }
  · cases l with
    | zero => simp at hr; subst hr; exact World.ownsRow_nil _ _ _ _
    | succ l => exact h.own l r (by simpa using hr)
  · cases l with
    | zero => simp at hr; subst hr; simp [Value.ownBlock] at hb
    | succ l =>
      cases m with
      | zero => simp at hq; subst hq; simp [Value.ownBlock]
      | succ m => exact h.dis l m r q (by simpa using hr) (by simpa using hq) (by omega) b hb
  · cases l with
    | zero => simp at hr; subst hr; simp [Value.ownBlock]
    | succ l => exact h.far m l p r hp (by simpa using hr)
end Go.Proofs.YtffokdldgdjkhaaDoor.X

/- The document's machine: where its threads begin. -/
namespace Go.Proofs.YtffokdldgdjkhaaDoor.X
open Go.RowKit Go.Maps
set_option linter.unusedVariables false
set_option linter.unusedSimpArgs false
theorem T.mayRun_no {code : ByteArray} {dlen : Nat} {zs : List Int} (h : ¬ (1 ≤ zs.length ∧ zs.length ≤ 4 ∧ code.size ≤ 65536 ∧ dlen ≤ 4096)) : T.mayRun code dlen zs = false := by
  unfold T.mayRun; rw [decide_eq_false h]; rfl
theorem T.mayRun_bad {code : ByteArray} {dlen : Nat} {zs : List Int} {k : Nat} (hk : k < zs.length) (h : ¬ (0 ≤ zs.getD k 0 ∧ zs.getD k 0 < (code.size : Int))) : T.mayRun code dlen zs = false := by
  unfold T.mayRun
  rw [Bool.and_eq_false_iff]
  right
  rw [List.all_eq_false]
  refine ⟨zs.getD k 0, by simp [List.getD, hk], ?_⟩
  rw [decide_eq_false h]
  decide
theorem T.mayRun_yes {code : ByteArray} {dlen : Nat} {zs : List Int} (h : 1 ≤ zs.length ∧ zs.length ≤ 4 ∧ code.size ≤ 65536 ∧ dlen ≤ 4096) (h2 : ∀ k, k < zs.length → 0 ≤ zs.getD k 0 ∧ zs.getD k 0 < (code.size : Int)) : T.mayRun code dlen zs = true := by
  unfold T.mayRun
  rw [decide_eq_true h, Bool.true_and, List.all_eq_true]
  intro a ha
  obtain ⟨k, hk, rfl⟩ := List.mem_iff_getElem.1 ha
  have := h2 k hk
  simp only [List.getD, List.getElem?_eq_getElem hk, Option.getD_some] at this
  exact decide_eq_true this

set_option maxRecDepth 100000 in
set_option maxHeartbeats 8000000 in
theorem xentries_any {w : World} {code : ByteArray} {a1 : Option Addr} {l1 c1 : Nat} {a : Option Addr} {l c : Nat} {ss : List Sym} (h : SymsV w a l c ss) (hl : l ≤ 8796093022208) :
    Calls Tryd.prog 18 #[.agg #[.string code, .slice a1 l1 c1, .slice a l c]] w fun e w' => RowIs w.heap.size 3 1 e w' (strt ss).length ((strt ss).flatMap intC) ∧ Below w.heap.size w w' := by
  obtain ⟨i1, hi1, hz10, hz11, hz12⟩ := info_partsL infoN
  obtain ⟨X1, hX1⟩ : ∃ X1, w.alloc (.cells #[.string code, .slice a1 l1 c1, .slice a l c] 25) = X1 := ⟨_, rfl⟩
  have hb1 : Below w.heap.size w X1 := by subst hX1; exact bl_one _ _
  have o2 : X1.cell? ⟨w.heap.size, 2, none⟩ = some (.slice a l c) := by subst hX1; exact cell_last _ _ _ _ _ rfl rfl
  have HV : Hid (SymsV X1 a l c ss) := h.below hb1
  have HC : Hid (ss.length = l) := h.count
  have hro := h.room
  unfold maxLen at hro
  have HB1 : Hid (Below w.heap.size w X1) := hb1
  have HN0 : Hid (X1.ownsRow X1.heap.size 3 1 (.slice none 0 0) (strt (ss.take 0)).length ((strt (ss.take 0)).flatMap intC)) := World.ownsRow_nil _ _ _ _
  clear h hb1
  go_enter Tryd.func18, Tryd.ntmps18
  go_wp2_with fail
  go_loopg [3, 4] l (fun r lv iv wq => ∃ (k : Nat), iv = .int .i64 k ∧ k ≤ l ∧ l - k ≤ r ∧ Hid (wq.ownsRow X1.heap.size 3 1 lv (strt (ss.take k)).length ((strt (ss.take k)).flatMap intC)) ∧ Hid (Below X1.heap.size X1 wq))
  case atStart => exact ⟨0, rfl, Nat.zero_le _, by omega, HN0.out, Below.refl _ _⟩
  case round =>
    obtain ⟨k, rfl, hk, hr, HRW, HBL⟩ := hrel
    have o2r := cell_up HBL.out o2
    by_cases hlt : k < l
    · rcases HV.out.cells with h0 | ⟨b, off, hA, hcl⟩
      · omega
      obtain ⟨q0, q1, q2⟩ := hcl k hlt
      have q1 := cell_up HBL.out q1
      have q2 := cell_up HBL.out q2
      have HSN : Hid _ := strt_snoc ss (k := k) (by have := HC.out; omega)
      have HTL : Hid ((strt (ss.take k)).length ≤ k) := by show _ ≤ _; have := strt_len (ss.take k); rw [List.length_take] at this; omega
      obtain ⟨⟨nm, kd, ps⟩, hx⟩ : ∃ x, ss.getD k noSym = x := ⟨_, rfl⟩
      rw [hx] at q1 q2 HSN
      simp only at q1 q2 HSN
      cases hA
      have hii : (k : Int) < l := by omega
      have hin : 0 ≤ (k : Int) := by omega
      clear hcl hx q0
      by_cases hkd : kd = 3
      · subst hkd
        rw [if_pos rfl] at HSN
        obtain ⟨Z, hZ⟩ : ∃ Z, wr.alloc (.cells #[.int .i64 ps] 3) = Z := ⟨_, rfl⟩
        have bZ : Below wr.heap.size wr Z := by subst hZ; exact bl_one _ _
        obtain ⟨tn, htn⟩ : ∃ tn, (strt (ss.take k)).length = tn := ⟨_, rfl⟩
        have htl : tn ≤ k := by rw [← htn]; exact HTL.out
        have HTN : Hid _ := htn
        have HRZ : Hid (Z.ownsRow X1.heap.size 3 1 u3 tn ((strt (ss.take k)).flatMap intC)) := by
          show World.ownsRow _ _ _ _ _ _ _
          rw [← htn]
          exact own_below HRW.out bZ
        have HBZ : Hid (Below X1.heap.size X1 Z) := HBL.out.trans (bZ.mono HBL.out.size)
        have HZB : Hid (X1.heap.size ≤ Z.heap.size) := HBZ.out.size
        have HNCC : Hid (∀ j u, (intC ps)[j]? = some u → Z.cell? ((⟨wr.heap.size, 0, none⟩ : Addr).add j) = some u) := by
          intro j u hu
          match j, hu with
          | 0, hu => subst hZ; simp [intC] at hu; subst hu; exact cell_last _ _ _ _ _ (by simp) (by simp)
          | j + 1, hu => simp [intC] at hu
        clear bZ htn
        go_wp2_with (first | (at_builtin; refine wpList_append_lies _ rfl _ _ 26 rfl X1.heap.size 3 i1 _ 1 8 Tryd.underlying26 hi1 hz10 hz11 hz12 rfl (by decide) u3 tn _ rfl HRZ.out ⟨wr.heap.size, 0, none⟩ 1 1 (intC ps) rfl rfl HNCC.out (by intro u hu; simp [intC] at hu; subst hu; rfl) (by decide) (by unfold maxLen; omega) (by omega) HZB.out Z.heap.size rfl ?_; intro ga ca w1 ho1 hg1 hat1 hlt1) | go_in)
        have HR1 : Hid (w1.ownsRow X1.heap.size 3 1 (.slice (some ⟨ga, 0, none⟩) (tn + 1) ca) (strt (ss.take (k + 1))).length ((strt (ss.take (k + 1))).flatMap intC)) := by
          show World.ownsRow _ _ _ _ _ _ _
          rw [HSN.out, List.length_append, HTN.out, List.flatMap_append]
          have : ([ps].flatMap intC) = intC ps := by simp [intC]
          rw [this]
          exact ho1
        have HB1' : Hid (Below X1.heap.size X1 w1) := below_new HBZ.out hg1 (fun g hg => (HRZ.out.lt g hg).1)
        clear ho1 hg1 hat1
        go_wp2
        go_roundg (l - (k + 1))
        · exact ⟨k + 1, rfl, by omega, Nat.le_refl _, HR1, HB1'⟩
        · omega
      · rw [if_neg hkd, List.append_nil] at HSN
        have HR1 : Hid (wr.ownsRow X1.heap.size 3 1 u3 (strt (ss.take (k + 1))).length ((strt (ss.take (k + 1))).flatMap intC)) := by
          show World.ownsRow _ _ _ _ _ _ _
          rw [HSN.out]
          exact HRW.out
        go_wp2
        go_roundg (l - (k + 1))
        · exact ⟨k + 1, rfl, by omega, Nat.le_refl _, HR1, HBL⟩
        · omega
    · obtain rfl : k = l := by omega
      have HE : Hid (wr.ownsRow w.heap.size 3 1 u3 (strt ss).length ((strt ss).flatMap intC)) := by
        have h1 := HRW.out
        rw [← HC.out, List.take_length] at h1
        exact own_mono h1 HB1.out.size
      have HBE : Hid (Below w.heap.size w wr) := HB1.out.trans (HBL.out.mono HB1.out.size)
      go_wp2
      go_ret
      exact ⟨⟨_, rfl, HE.out⟩, HBE.out⟩

end Go.Proofs.YtffokdldgdjkhaaDoor.X

/- The document's machine: a new one. -/
namespace Go.Proofs.YtffokdldgdjkhaaDoor.X
open Go.RowKit Go.Maps
set_option linter.unusedVariables false
set_option linter.unusedSimpArgs false

/-- A row more, made just now. -/
theorem BS.row {w x : World} {rs : List Row} {bs : List (Nat × List Value)} (h : BS w x rs bs) (a : Array Value) (t : TypeId) (k : Nat) (n : Nat) (hn : a.size = n * k) (hm : n ≤ maxLen) : BS w (x.alloc (.cells a t)) (⟨t, k, .slice (some ⟨x.heap.size, 0, none⟩) n n, n, a.toList⟩ :: rs) bs := by
  have q := h.below (bl_one x (.cells a t))
  refine { low := q.low, own := fun l r hr => ?_, dis := fun l m r s hr hs hlm b hb => ?_, box := q.box, far := fun m l p r hp hr => ?_, nd := q.nd }
  · cases l with
    | zero => simp at hr; subst hr; exact World.ownsRow_lit x a n h.low.size hm hn
    | succ l => exact q.own l r (by simpa using hr)
  · cases l with
    | zero =>
      cases m with
      | zero => exact absurd rfl hlm
      | succ m =>
        simp at hr
        subst hr
        intro e
        have h1 := ((h.own m s (by simpa using hs)).lt _ e).2
        have h2 : x.heap.size = b := by simpa [Value.ownBlock] using hb
        omega
    | succ l =>
      cases m with
      | zero =>
        simp at hs
        subst hs
        intro e
        have h1 := ((h.own l r (by simpa using hr)).lt _ hb).2
        have h2 : x.heap.size = b := by simpa [Value.ownBlock] using e
        omega
      | succ m => exact h.dis l m r s (by simpa using hr) (by simpa using hs) (by omega) b hb
  · cases l with
    | zero =>
      simp at hr
      subst hr
      intro e
      have h1 := (h.box m p hp).2.2.1
      have h2 : x.heap.size = p.1 := by simpa [Value.ownBlock] using e
      omega
    | succ l => exact h.far m l p r hp (by simpa using hr)

def th0C (i : Nat) (l : List Int) : List Value := (T.ths0 i l).flatMap fun h => xC h (.slice none 0 0)
theorem infoXT : (Tryd.prog.info? 46).map (fun i => (i.zero, i.size, i.bytes)) = some (some (.agg #[.int .i64 0, .int .i64 0, .int .i64 0, .int .i64 0, .int .i64 0, .int .i64 0, .int .i64 0, .int .i64 0, .int .i64 0, .int .i64 0, .int .i64 0, .slice none 0 0]), 12, 112) := by kernel_rfl
theorem th0C_snoc (l : List Int) (z : Int) : th0C 0 (l ++ [z]) = th0C 0 l ++ xC (T.th0 l.length z) (.slice none 0 0) := by
  unfold th0C
  rw [ths0_snoc, List.flatMap_append, Nat.zero_add]
  simp
/-- The marks of a new machine. -/
def mkX (b : Nat) (vd vs : Value) (g : Nat) : Nat → Nat := fun q => if q = b then 1 else if vd.ownBlock = some q then 2 else if vs.ownBlock = some q then 3 else if q = g then 4 else 0
theorem xv_new {y x : World} {b g cap : Nat} {vd vs : Value} {code : ByteArray} {D zs : List Int} {n : Nat} (hn : zs.length = n) (h1 : 1 ≤ n) (h4 : n ≤ 4) (hD : D.length ≤ 4096) (h : BS y x [⟨46, 12, .slice (some ⟨g, 0, none⟩) n cap, n, th0C 0 zs⟩, ⟨2, 1, vd, D.length, intR D⟩, ⟨2, 1, vs, 8192 * n, intR (List.replicate (8192 * n) 0)⟩] [(b, [.string code, vd, vs, .slice (some ⟨g, 0, none⟩) n cap, .slice none 0 0])]) {B : Nat} (hB : B ≤ y.heap.size) :
    XV B x b (T.mach0 code D zs) (mkX b vd vs g) D (List.replicate (8192 * n) 0) vd vs g cap (.slice none 0 0) (List.replicate n (.slice none 0 0)) := by
  have hT := h.own 0 _ rfl
  have hd := h.own 1 _ rfl
  have hs := h.own 2 _ rfl
  obtain ⟨bc, bf, bl, bg⟩ := h.box 0 _ rfl
  simp only at hT hd hs bc bf bl bg
  have f0 : (Value.slice (some ⟨g, 0, none⟩) n cap).ownBlock ≠ some b := h.far 0 0 _ _ rfl rfl
  have f1 : vd.ownBlock ≠ some b := h.far 0 1 _ _ rfl rfl
  have f2 : vs.ownBlock ≠ some b := h.far 0 2 _ _ rfl rfl
  have hgb : g ≠ b := fun e => f0 (by rw [e]; rfl)
  have d1 : vd.ownBlock ≠ some g := h.dis 0 1 _ _ rfl rfl (by decide) g rfl
  have d2 : vs.ownBlock ≠ some g := h.dis 0 2 _ _ rfl rfl (by decide) g rfl
  have d3 : ∀ q, vs.ownBlock = some q → vd.ownBlock ≠ some q := fun q hq e => h.dis 1 2 _ _ rfl rfl (by decide) q e hq
  have hlen : (T.mach0 code D zs).ts.length = n := by show (T.ths0 0 zs).length = n; rw [ths0_len, hn]
  have hgl := hT.lt g rfl
  obtain ⟨-, c', -, hnc, hcm⟩ := own_sl hT
  have hcap : n ≤ cap ∧ cap ≤ maxLen := by
    rcases hT.2 with ⟨e, -⟩ | ⟨g', cap', cur, e, -, -, r1, r2, -⟩
    · cases e
    · cases e; exact ⟨r1, r2⟩
  refine { c0 := bc 0 _ rfl, c1 := bc 1 _ rfl, c2 := bc 2 _ rfl, c3 := by rw [hlen]; exact bc 3 _ rfl, c4 := bc 4 _ rfl, fz := bf, tb := if_pos rfl, room := by rw [hlen]; exact ⟨hcap.1, hcap.2, by omega, h4⟩, mem := ?_, dl := hD, sl := by rw [List.length_replicate]; omega, dat := own_mono hd hB, td := fun q hq => ?_, stk := ?_, tst := fun q hq => ?_, tg := ?_, gz := fun o => ?_, len := by rw [List.length_replicate, hlen], tc := fun k th u h1 h2 j v h3 => ?_, ws := fun k th u h1 h2 => ?_, tw := fun k u q h1 h2 => ?_, evs := World.ownsRow_nil _ _ _ _, te := fun q hq => (by cases hq), lt := fun q hq => ?_ }
  · show T.mem0 D zs.length = _
    rw [hn, T.memoOf_new]
  · unfold mkX
    rw [if_neg (fun e => f1 (by rw [← e]; exact hq)), if_pos hq]
  · rw [List.length_replicate]; exact own_mono hs hB
  · unfold mkX
    rw [if_neg (fun e => f2 (by rw [← e]; exact hq)), if_neg (d3 q hq), if_pos hq]
  · unfold mkX
    rw [if_neg hgb, if_neg d1, if_neg d2, if_pos rfl]
  · exact hT.frozenAt o
  · have hu : u = .slice none 0 0 := by
      rw [List.getElem?_replicate] at h2
      split at h2
      · simpa using h2.symm
      · cases h2
    subst hu
    have hk : k < n := by rw [← hlen]; exact (List.getElem?_eq_some_iff.1 h1).1
    have hj : j < 12 := (List.getElem?_eq_some_iff.1 h3).1
    have hkj : k * 12 + j < n * 12 := by omega
    rw [hT.cellAt _ hkj]
    unfold th0C
    rw [flat_at (fun h => xC h (.slice none 0 0)) 12 T.noTh (fun _ => rfl) (T.ths0 0 zs) k j (by rw [ths0_len, hn]; exact hk) hj]
    have e : (T.ths0 0 zs).getD k T.noTh = th := by
      have h1' : (T.ths0 0 zs)[k]? = some th := h1
      rw [List.getD_eq_getElem?_getD, h1']
      rfl
    rw [e]
    exact h3
  · have hu : u = .slice none 0 0 := by
      rw [List.getElem?_replicate] at h2
      split at h2
      · simpa using h2.symm
      · cases h2
    subst hu
    have hw : th.ws = [] := ths0_ws zs 0 th (List.mem_of_getElem? h1)
    rw [hw]
    exact World.ownsRow_nil _ _ _ _
  · rw [List.getElem?_replicate] at h1
    split at h1
    · obtain rfl : u = .slice none 0 0 := by simpa using h1.symm
      cases h2
    · cases h1
  · unfold mkX at hq
    by_cases e1 : q = b
    · rw [e1]; exact ⟨Nat.le_trans hB bg, bl⟩
    rw [if_neg e1] at hq
    by_cases e2 : vd.ownBlock = some q
    · exact ⟨Nat.le_trans hB (hd.lt q e2).1, (hd.lt q e2).2⟩
    rw [if_neg e2] at hq
    by_cases e3 : vs.ownBlock = some q
    · exact ⟨Nat.le_trans hB (hs.lt q e3).1, (hs.lt q e3).2⟩
    rw [if_neg e3] at hq
    by_cases e4 : q = g
    · rw [e4]; exact ⟨Nat.le_trans hB hgl.1, hgl.2⟩
    rw [if_neg e4] at hq
    exact absurd rfl hq
def XNewIs (B : Nat) (e : Ending) (w' : World) (M : T.Mach) : Prop := ∃ b t D S vd vs g cap us, e = .returned (.tuple #[.pointer (some ⟨b, 0, none⟩), .int .i64 0]) ∧ XV B w' b M t D S vd vs g cap (.slice none 0 0) us
/-- What New answers. -/
def XNewAns (B : Nat) (e : Ending) (w' : World) (m : ImgD) : Prop := (m.may = true ∧ XNewIs B e w' m.mach) ∨ (m.may = false ∧ e = .returned (.tuple #[.pointer none, .int .i64 1]))

theorem infoLN : (Tryd.prog.info? 2).map (fun i => (i.zero, i.size, i.bytes)) = some (some (.int .i64 0), 1, 8) := by kernel_rfl
set_option maxRecDepth 100000 in
set_option maxHeartbeats 8000000 in
theorem xnew_any {w : World} {v : Value} {m : ImgD} (h : ImgV w v m) (hl : m.syms.length ≤ 8796093022208) :
    Calls Tryd.prog 8 #[v] w fun e w' => XNewAns w.heap.size e w' m ∧ Below w.heap.size w w' := by
  obtain ⟨a1, l1, c1, a2, l2, c2, rfl, hs, h1, h2⟩ := h.form
  obtain ⟨X1, hX1⟩ : ∃ X1, w.alloc (.cells #[.string m.code, .slice a1 l1 c1, .slice a2 l2 c2] 25) = X1 := ⟨_, rfl⟩
  have hb1 : Below w.heap.size w X1 := by subst hX1; exact bl_one _ _
  have o0 : X1.cell? ⟨w.heap.size, 0, none⟩ = some (.string m.code) := by subst hX1; exact cell_last _ _ _ _ _ rfl rfl
  have o1 : X1.cell? ⟨w.heap.size, 1, none⟩ = some (.slice a1 l1 c1) := by subst hX1; exact cell_last _ _ _ _ _ rfl rfl
  have o2 : X1.cell? ⟨w.heap.size, 2, none⟩ = some (.slice a2 l2 c2) := by subst hX1; exact cell_last _ _ _ _ _ rfl rfl
  have HE : Hid (Calls Tryd.prog 18 #[.agg #[.string m.code, .slice a1 l1 c1, .slice a2 l2 c2]] X1 fun e w' => RowIs X1.heap.size 3 1 e w' (strt m.syms).length ((strt m.syms).flatMap intC) ∧ Below X1.heap.size X1 w') := xentries_any (h2.below hb1) (by rw [← h2.count]; exact hl)
  have HDV : Hid (IntsV X1 a1 l1 c1 m.data) := h1.below hb1
  have HB1 : Hid (Below w.heap.size w X1) := hb1
  have HSF : Hid (∀ z ∈ strt m.syms, (Lit.int .i64 z).wf = true) := fun z hz => by
    unfold strt at hz
    obtain ⟨s, hs, rfl⟩ := List.mem_map.1 hz
    exact (h2.fits s (List.mem_filter.1 hs).1).2.2
  have HCT : Hid (m.data.length = l1) := h1.count
  have hd1 := h1.room
  unfold maxLen at hd1
  obtain ⟨zs, hzs⟩ : ∃ zs, strt m.syms = zs := ⟨_, rfl⟩
  have HZS : Hid (strt m.syms = zs) := hzs
  rw [hzs] at HE HSF
  have hmay : m.may = T.mayRun m.code l1 zs := by show T.mayRun m.code m.data.length (strt m.syms) = _; rw [hzs, h1.count]
  have HMAY : Hid (m.may = T.mayRun m.code l1 zs) := hmay
  have hcs : m.code.size ≤ 9223372036854775807 := by have := hs; unfold maxLen at this; omega
  clear h h1 h2 hb1 hl hzs hmay hs
  go_enter Tryd.func8, Tryd.ntmps8
  go_wp2_with fail
  refine HE.out.mono ?_
  rintro e y1 ⟨⟨v', rfl, ho⟩, hb2⟩
  obtain ⟨a, c, rfl, hiv⟩ := ints_own ho rfl HSF.out
  have o0 := cell_up hb2 o0
  have o1 := cell_up hb2 o1
  have o2 := cell_up hb2 o2
  have HLV : Hid (IntsV y1 a zs.length c zs) := hiv
  have HB2 : Hid (Below w.heap.size w y1) := HB1.out.trans (hb2.mono HB1.out.size)
  have HDV1 : Hid (IntsV y1 a1 l1 c1 m.data) := HDV.out.below hb2
  have hlr := hiv.room
  obtain ⟨n, hn⟩ : ∃ n, zs.length = n := ⟨_, rfl⟩
  have HN : Hid (zs.length = n) := hn
  rw [hn] at hlr HLV
  unfold maxLen at hlr
  rw [hn]
  clear ho hiv hb2 HDV hX1 hn
  by_cases hA : 1 ≤ n ∧ n ≤ 4 ∧ m.code.size ≤ 65536 ∧ l1 ≤ 4096
  · obtain ⟨k1, k2, k3, k4⟩ := hA
    have k1' : ((n : Int) == 0) = false := by simp; omega
    have k2' : decide ((4 : Int) < (n : Int)) = false := decide_eq_false (by omega)
    have k3' : decide ((65536 : Int) < (m.code.size : Int)) = false := decide_eq_false (by omega)
    have k4' : decide ((4096 : Int) < (l1 : Int)) = false := decide_eq_false (by omega)
    obtain ⟨N8, hN8⟩ : ∃ N8 : Nat, 8192 * n = N8 := ⟨_, rfl⟩
    have hw8 : IntKind.i64.wrap (N8 : Int) = (N8 : Int) := by rw [IntKind.wrap_i64]; omega
    have hw8' : 8192 * (n : Int) = (N8 : Int) := by omega
    have hN8b : N8 ≤ 32768 := by omega
    obtain ⟨ST, hST⟩ : ∃ ST, madeCells #[Value.int .i64 0] N8 = ST := ⟨_, rfl⟩
    have hmk : ∀ W : World, (Instr.makeSlice 22 (.int .i64 (N8 : Int)) (.int .i64 (N8 : Int))).run Tryd.prog W = .ok (.slice (some ⟨W.heap.size, 0, none⟩) N8 N8) (W.alloc (.cells ST 2)) := fun W => by
      have := run_make_row' (P := Tryd.prog) 22 2 (.int .i64 0) 8 Tryd.underlying22 infoLN rfl .i64 .i64 N8 (by omega) (by omega) W
      rw [hST] at this
      exact this
    go_wp2_with fail
    have hne0 := World.new_ne y1 ⟨w.heap.size, 0, none⟩ o0
    go_region_held3 (fun w' : World => w'.cell? ⟨w.heap.size, 0, none⟩ = some (.string m.code)) (go_keep) (fail)
    obtain ⟨W2, hW2⟩ : ∃ W2, ((y1.alloc (.cells ST 2)).alloc (.cells #[.string m.code, .slice none 0 0, .slice (some ⟨y1.heap.size, 0, none⟩) N8 N8, .slice none 0 0, .slice none 0 0] 40)).drew = W2 := ⟨_, rfl⟩
    obtain ⟨b, hbe⟩ : ∃ b, y1.heap.size + 1 = b := ⟨_, rfl⟩
    obtain ⟨vs, hvs⟩ : ∃ vs, Value.slice (some ⟨y1.heap.size, 0, none⟩) N8 N8 = vs := ⟨_, rfl⟩
    have HSTL : Hid (ST.toList = intR (List.replicate N8 0)) := by show _ = _; rw [← hST, toList_madeCells_one]; simp [intR]
    have hSTs : ST.size = N8 * 1 := by have := congrArg List.length HSTL.out; rw [intR_len, List.length_replicate, Array.length_toList] at this; omega
    have HBS : Hid (BS y1 W2 [⟨46, 12, .slice none 0 0, 0, []⟩, ⟨2, 1, .slice none 0 0, 0, []⟩, ⟨2, 1, vs, N8, intR (List.replicate N8 0)⟩] [(b, [.string m.code, .slice none 0 0, vs, .slice none 0 0, .slice none 0 0])]) := by
      rw [← hW2, ← hbe, ← hvs, ← HSTL.out]
      have h9 := ((((BS.start y1).row ST 2 1 N8 hSTs (by unfold maxLen; omega)).alloc #[.string m.code, .slice none 0 0, .slice (some ⟨y1.heap.size, 0, none⟩) N8 N8, .slice none 0 0, .slice none 0 0] 40).below (Below.refl _ _).drew)
      have h10 : (y1.alloc (.cells ST 2)).heap.size = y1.heap.size + 1 := by simp
      rw [h10] at h9
      exact (h9.nil 2 1).nil 46 12
    rw [hW2]
    have HIM : Hid (∀ z : World, Below y1.heap.size y1 z → z.cell? ⟨w.heap.size, 0, none⟩ = some (.string m.code) ∧ z.cell? ⟨w.heap.size, 1, none⟩ = some (.slice a1 l1 c1)) := fun z hz => ⟨cell_up hz o0, cell_up hz o1⟩
    obtain ⟨q0, q1⟩ := HIM.out W2 HBS.out.low
    obtain ⟨bc, bf, bl, bg⟩ := HBS.out.box 0 _ rfl
    simp only at bc bf bl bg
    have e1 : W2.cell? ⟨b, 1, none⟩ = some (.slice none 0 0) := bc 1 _ rfl
    have g1 : W2.frozen? ⟨b, 1, none⟩ = false := bf 1
    obtain ⟨il, hil, hl0, hl1, hl2⟩ := info_partsL infoLN
    have HNIL : Hid (W2.drew.ownsRow y1.heap.size 2 1 (.slice none 0 0) 0 []) := World.ownsRow_nil _ _ _ _
    have HB2' : Hid (y1.heap.size ≤ W2.drew.heap.size) := HBS.out.low.size
    have HDC : Hid (∀ ad, a1 = some ad → ∀ j u, (intR m.data)[j]? = some u → W2.drew.cell? (ad.add j) = some u) := fun ad had j u hu => by
      have hiv := HDV1.out.below HBS.out.low
      have hj : j < m.data.length := by have := (List.getElem?_eq_some_iff.1 hu).1; rwa [intR_len] at this
      rw [HCT.out] at hj
      rcases hiv.cells with h0 | ⟨b', off, ha, hc⟩
      · omega
      · rw [had] at ha
        cases ha
        rw [Addr.add_lit]
        have h9 := hc j hj
        rw [intR_at (by rw [HCT.out]; exact hj)] at hu
        cases hu
        exact h9
    have HDN : Hid (a1 = none → l1 = 0 ∧ c1 = 0) := HDV1.out.nilOf
    have HDL : Hid ((intR m.data).length = l1 * 1) := by show _ = _; rw [intR_len, HCT.out, Nat.mul_one]
    have HON : Hid (∀ u ∈ intR m.data, u.oneCell' = true) := fun u hu => by
      obtain ⟨z, -, rfl⟩ := List.mem_map.1 hu
      rfl
    have bl2 : b < W2.heap.size := bl
    rw [hbe, hvs]
    clear hW2 hST hvs o1 o2 bc bf bl bg hne0 hSTs
    go_wp2_with fail
    go_region_law ((refine step_append_more (by rfl) _ _ 22 (by rfl) y1.heap.size 2 il _ 1 8 Tryd.underlying22 hil hl0 hl1 hl2 (by rfl) (by decide) (by rfl) HNIL.out HB2'.out (by rfl) HDN.out HDL.out HDC.out HON.out (by omega) (by omega) ?_; intro v6 Y6 ho6 hg6 hat6; obtain ⟨a6, c6, rfl, -⟩ := own_sl ho6; have m6 : Y6.cell? ⟨b, 1, none⟩ = some (.slice none 0 0) := hg6.cell e1 (by simp [Value.ownBlock]); have z6 : Y6.frozen? ⟨b, 1, none⟩ = false := (hg6.frozen_far ⟨b, 1, none⟩ bl2 (by simp [Value.ownBlock])).trans g1))
    all_goals
      obtain ⟨vd, hvd⟩ : ∃ vd, Value.slice a6 l1 c6 = vd := ⟨_, rfl⟩
      rw [Nat.zero_add, List.nil_append, hvd] at ho6
      rw [Nat.zero_add, hvd] at hat6
      have hbs3 := ((HBS.out.below (Below.refl _ _).drew).push (k := 1) rfl ho6 hg6 (fun q hq => (hat6 q hq).imp (fun e => by cases e) id)).put 0 b _ rfl 1 (by simp) vd
      have HBS3 : Hid (BS y1 (Y6.setCell ⟨b, 1, none⟩ vd) [⟨46, 12, .slice none 0 0, 0, th0C 0 (zs.take 0)⟩, ⟨2, 1, vd, m.data.length, intR m.data⟩, ⟨2, 1, vs, N8, intR (List.replicate N8 0)⟩] [(b, [.string m.code, vd, vs, .slice none 0 0, .slice none 0 0])]) := by
        have h9 := hbs3
        rw [← HCT.out] at h9
        exact h9
      have HG0 : Hid (∀ j, j < 0 → 0 ≤ zs.getD j 0 ∧ zs.getD j 0 < (m.code.size : Int)) := fun j hj => by omega
      obtain ⟨W3, hW3⟩ : ∃ W3, Y6.setCell ⟨b, 1, none⟩ vd = W3 := ⟨_, rfl⟩
      rw [hW3] at HBS3
      go_wp2_with fail
      clear hbs3 ho6 hg6 hat6 m6 z6 hvd hW3 e1 g1 HNIL HB2' HDC HDN HDL HON q0 q1
      go_loopg [6] n (fun r iv wq => ∃ (k : Nat) (vt : Value), iv = .int .i64 k ∧ k ≤ n ∧ n - k ≤ r ∧ Hid (BS y1 wq [⟨46, 12, vt, k, th0C 0 (zs.take k)⟩, ⟨2, 1, vd, m.data.length, intR m.data⟩, ⟨2, 1, vs, N8, intR (List.replicate N8 0)⟩] [(b, [.string m.code, vd, vs, vt, .slice none 0 0])]) ∧ Hid (∀ j, j < k → 0 ≤ zs.getD j 0 ∧ zs.getD j 0 < (m.code.size : Int)))
      case atStart => exact ⟨0, _, rfl, Nat.zero_le _, by omega, HBS3, HG0⟩
      case round =>
        obtain ⟨k, vt, rfl, hk, hr, HBR, HG⟩ := hrel
        obtain ⟨q0, q1⟩ := HIM.out wr HBR.out.low
        have hTr : wr.ownsRow y1.heap.size 46 12 vt k (th0C 0 (zs.take k)) := HBR.out.own 0 _ rfl
        obtain ⟨av, cv, rfl, hnv, hcv⟩ := own_sl hTr
        by_cases hlt : k < n
        · rcases (HLV.out.below HBR.out.low).cells with h0 | ⟨lb, lo, hA, hcl⟩
          · omega
          have x0 := hcl k hlt
          obtain ⟨z, hz⟩ : ∃ z, zs.getD k 0 = z := ⟨_, rfl⟩
          rw [hz] at x0
          have HZK : Hid (zs.getD k 0 = z) := hz
          subst hA
          have i1 : (k : Int) < (n : Int) := by omega
          have i0 : (0 : Int) ≤ (k : Int) := by omega
          clear hcl hz
          by_cases hgd : 0 ≤ z ∧ z < (m.code.size : Int)
          · obtain ⟨g0, g1⟩ := hgd
            have e0 : decide (z < 0) = false := decide_eq_false (by omega)
            have e1 : decide ((m.code.size : Int) ≤ z) = false := decide_eq_false (by omega)
            have HGK : Hid (∀ j, j < k + 1 → 0 ≤ zs.getD j 0 ∧ zs.getD j 0 < (m.code.size : Int)) := fun j hj => by
              by_cases ej : j = k
              · rw [ej, HZK.out]; exact ⟨g0, g1⟩
              · exact HG.out j (by omega)
            obtain ⟨pcv, hpc⟩ : ∃ pcv, 4096 + z = pcv := ⟨_, rfl⟩
            obtain ⟨sb, hsb⟩ : ∃ sb : Int, 2097152 + 65536 * ((k : Int) + 1) = sb := ⟨_, rfl⟩
            have hpb : 0 ≤ pcv ∧ pcv ≤ 100000 := by omega
            have hwp : IntKind.i64.wrap pcv = pcv := by rw [IntKind.wrap_i64]; omega
            have hth : T.th0 k z = ⟨⟨0, 0, 0, 0, 0, 0, 0, sb, pcv, 0, 0⟩, []⟩ := by
              unfold T.th0 T.noC
              rw [hpc, hsb, show wrap64 pcv = pcv by unfold wrap64; omega]
            have HTS : Hid (th0C 0 (zs.take (k + 1)) = th0C 0 (zs.take k) ++ xC (T.th0 k z) (.slice none 0 0)) := by
              show _ = _
              have hkl : k < zs.length := by rw [HN.out]; exact hlt
              have ez : zs[k] = z := by have := HZK.out; simpa [List.getD, hkl] using this
              rw [List.take_succ_eq_append_getElem hkl, th0C_snoc, List.length_take, ez, Nat.min_eq_left (by omega)]
            have hbl : b < wr.heap.size := (HBR.out.box 0 _ rfl).2.2.1
            have xA : (wr.alloc (.cells #[.int .i64 0, .int .i64 0, .int .i64 0, .int .i64 0, .int .i64 0, .int .i64 0, .int .i64 0, .int .i64 0, .int .i64 0, .int .i64 0, .int .i64 0] 43)).cell? ⟨lb, lo + k, none⟩ = some (.int .i64 z) := cell_up (bl_one _ _) x0
            clear HG
            go_wp2_with fail
            go_region_held3 (fun w' : World => w'.cell? ⟨w.heap.size, 0, none⟩ = some (.string m.code) ∧ w'.cell? ⟨lb, lo + k, none⟩ = some (.int .i64 z)) (exact ⟨q0, x0⟩) (fail)
            go_wp2_with fail
            obtain ⟨Wc, hWc⟩ : ∃ Wc, (wr.alloc (.cells #[.int .i64 0, .int .i64 0, .int .i64 0, .int .i64 0, .int .i64 0, .int .i64 0, .int .i64 0, .int .i64 sb, .int .i64 pcv, .int .i64 0, .int .i64 0] 43)).drew = Wc := ⟨_, rfl⟩
            have hbc : Below wr.heap.size wr Wc := by rw [← hWc]; exact (bl_one _ _).drew
            have hsc : Wc.heap.size = wr.heap.size + 1 := by rw [← hWc]; simp
            have p0 : Wc.cell? ⟨wr.heap.size, 0, none⟩ = some (.int .i64 0) := by rw [← hWc]; exact cell_last _ _ _ _ _ rfl rfl
            have p1 : Wc.cell? ⟨wr.heap.size, 1, none⟩ = some (.int .i64 0) := by rw [← hWc]; exact cell_last _ _ _ _ _ rfl rfl
            have p2 : Wc.cell? ⟨wr.heap.size, 2, none⟩ = some (.int .i64 0) := by rw [← hWc]; exact cell_last _ _ _ _ _ rfl rfl
            have p3 : Wc.cell? ⟨wr.heap.size, 3, none⟩ = some (.int .i64 0) := by rw [← hWc]; exact cell_last _ _ _ _ _ rfl rfl
            have p4 : Wc.cell? ⟨wr.heap.size, 4, none⟩ = some (.int .i64 0) := by rw [← hWc]; exact cell_last _ _ _ _ _ rfl rfl
            have p5 : Wc.cell? ⟨wr.heap.size, 5, none⟩ = some (.int .i64 0) := by rw [← hWc]; exact cell_last _ _ _ _ _ rfl rfl
            have p6 : Wc.cell? ⟨wr.heap.size, 6, none⟩ = some (.int .i64 0) := by rw [← hWc]; exact cell_last _ _ _ _ _ rfl rfl
            have p7 : Wc.cell? ⟨wr.heap.size, 7, none⟩ = some (.int .i64 sb) := by rw [← hWc]; exact cell_last _ _ _ _ _ rfl rfl
            have p8 : Wc.cell? ⟨wr.heap.size, 8, none⟩ = some (.int .i64 pcv) := by rw [← hWc]; exact cell_last _ _ _ _ _ rfl rfl
            have p9 : Wc.cell? ⟨wr.heap.size, 9, none⟩ = some (.int .i64 0) := by rw [← hWc]; exact cell_last _ _ _ _ _ rfl rfl
            have p10 : Wc.cell? ⟨wr.heap.size, 10, none⟩ = some (.int .i64 0) := by rw [← hWc]; exact cell_last _ _ _ _ _ rfl rfl
            rw [hWc]
            have hbs9 := HBR.out.below hbc
            have HBC : Hid (BS y1 Wc [⟨46, 12, .slice av k cv, k, th0C 0 (zs.take k)⟩, ⟨2, 1, vd, m.data.length, intR m.data⟩, ⟨2, 1, vs, N8, intR (List.replicate N8 0)⟩] [(b, [.string m.code, vd, vs, .slice av k cv, .slice none 0 0])]) := hbs9
            have d1 : Wc.cell? ⟨b, 3, none⟩ = some (.slice av k cv) := (hbs9.box 0 _ rfl).1 3 _ rfl
            have hg1 : Wc.frozen? ⟨b, 3, none⟩ = false := (hbs9.box 0 _ rfl).2.1 3
            have hvb : (Value.slice av k cv).ownBlock ≠ some b := hbs9.far 0 0 _ _ rfl rfl
            have hvx : (Value.slice av k cv).ownBlock ≠ some wr.heap.size := fun e => by have := own_lt hTr e; omega
            have hbx : b ≠ wr.heap.size := Nat.ne_of_lt hbl
            have hbl : b < Wc.heap.size := by omega
            have HBW1 : Hid (Below Wc.heap.size Wc (Wc.alloc (.cells #[.int .i64 0, .int .i64 0, .int .i64 0, .int .i64 0, .int .i64 0, .int .i64 0, .int .i64 0, .int .i64 sb, .int .i64 pcv, .int .i64 0, .int .i64 0, .slice none 0 0] 46)).drew) := (bl_one _ _).drew
            have hTc : Wc.ownsRow y1.heap.size 46 12 (.slice av k cv) k (th0C 0 (zs.take k)) := hbs9.own 0 _ rfl
            have HW1 : Hid ((Wc.alloc (.cells #[.int .i64 0, .int .i64 0, .int .i64 0, .int .i64 0, .int .i64 0, .int .i64 0, .int .i64 0, .int .i64 sb, .int .i64 pcv, .int .i64 0, .int .i64 0, .slice none 0 0] 46)).drew.ownsRow y1.heap.size 46 12 (.slice av k cv) k (th0C 0 (zs.take k))) := own_below hTc HBW1.out
            have HNC : Hid (∀ j u, (xC (T.th0 k z) (.slice none 0 0))[j]? = some u → (Wc.alloc (.cells #[.int .i64 0, .int .i64 0, .int .i64 0, .int .i64 0, .int .i64 0, .int .i64 0, .int .i64 0, .int .i64 sb, .int .i64 pcv, .int .i64 0, .int .i64 0, .slice none 0 0] 46)).drew.cell? ((⟨Wc.heap.size, 0, none⟩ : Addr).add j) = some u) := fun j u hu => by
              rw [hth] at hu
              rw [Addr.add_lit, Nat.zero_add]
              exact cell_last _ _ _ _ _ rfl (by simpa [xC] using hu)
            have HLE : Hid (y1.heap.size ≤ (Wc.alloc (.cells #[.int .i64 0, .int .i64 0, .int .i64 0, .int .i64 0, .int .i64 0, .int .i64 0, .int .i64 0, .int .i64 sb, .int .i64 pcv, .int .i64 0, .int .i64 0, .slice none 0 0] 46)).drew.heap.size) := Nat.le_trans hbs9.low.size HBW1.out.size
            have HDW : Hid ((Wc.alloc (.cells #[.int .i64 0, .int .i64 0, .int .i64 0, .int .i64 0, .int .i64 0, .int .i64 0, .int .i64 0, .int .i64 sb, .int .i64 pcv, .int .i64 0, .int .i64 0, .slice none 0 0] 46)).drew.heap.size = Wc.heap.size + 1) := by show _ = _; simp
            obtain ⟨it, hit, ht0, ht1, ht2⟩ := info_partsL infoXT
            have HSK : Hid (∀ zq : World, Below Wc.heap.size Wc zq → (fun w' : World => w'.cell? ⟨wr.heap.size, 0, none⟩ = some (.int .i64 0) ∧ w'.cell? ⟨wr.heap.size, 1, none⟩ = some (.int .i64 0) ∧ w'.cell? ⟨wr.heap.size, 2, none⟩ = some (.int .i64 0) ∧ w'.cell? ⟨wr.heap.size, 3, none⟩ = some (.int .i64 0) ∧ w'.cell? ⟨wr.heap.size, 4, none⟩ = some (.int .i64 0) ∧ w'.cell? ⟨wr.heap.size, 5, none⟩ = some (.int .i64 0) ∧ w'.cell? ⟨wr.heap.size, 6, none⟩ = some (.int .i64 0) ∧ w'.cell? ⟨wr.heap.size, 7, none⟩ = some (.int .i64 sb) ∧ w'.cell? ⟨wr.heap.size, 8, none⟩ = some (.int .i64 pcv) ∧ w'.cell? ⟨wr.heap.size, 9, none⟩ = some (.int .i64 0) ∧ w'.cell? ⟨wr.heap.size, 10, none⟩ = some (.int .i64 0)) zq) := fun zq hz => ⟨cell_up hz p0, cell_up hz p1, cell_up hz p2, cell_up hz p3, cell_up hz p4, cell_up hz p5, cell_up hz p6, cell_up hz p7, cell_up hz p8, cell_up hz p9, cell_up hz p10⟩
            unfold maxLen at hcv
            clear hsc hWc hbs9 hTr hTc x0 xA q0 q1 hth hpc hsb e0 e1
            refine wp_region_held_drew (S := (fun w' : World => w'.cell? ⟨wr.heap.size, 0, none⟩ = some (.int .i64 0) ∧ w'.cell? ⟨wr.heap.size, 1, none⟩ = some (.int .i64 0) ∧ w'.cell? ⟨wr.heap.size, 2, none⟩ = some (.int .i64 0) ∧ w'.cell? ⟨wr.heap.size, 3, none⟩ = some (.int .i64 0) ∧ w'.cell? ⟨wr.heap.size, 4, none⟩ = some (.int .i64 0) ∧ w'.cell? ⟨wr.heap.size, 5, none⟩ = some (.int .i64 0) ∧ w'.cell? ⟨wr.heap.size, 6, none⟩ = some (.int .i64 0) ∧ w'.cell? ⟨wr.heap.size, 7, none⟩ = some (.int .i64 sb) ∧ w'.cell? ⟨wr.heap.size, 8, none⟩ = some (.int .i64 pcv) ∧ w'.cell? ⟨wr.heap.size, 9, none⟩ = some (.int .i64 0) ∧ w'.cell? ⟨wr.heap.size, 10, none⟩ = some (.int .i64 0))) (by kernel_rfl) (HSK.out _ (Below.refl _ _).drew) (fun hHeld => ?_)
            refine tk (i := 0) (v := ?_) (tA rfl) (by kernel_rfl) (fun _ _ _ h => h) (Or.inl ⟨by rfl, ?_⟩) (by assumption) ?_
            rotate_left
            · (intro w hSw; (try dsimp only at hSw); go_simp <;> with_reducible rfl)
            simp only [Act.put, List.setIfInBounds_toArray, List.set_cons_zero, List.set_cons_succ]
            refine tk (i := 1) (v := ?_) (tA rfl) (by kernel_rfl) (fun _ _ _ h => h) (Or.inl ⟨by rfl, ?_⟩) (by assumption) ?_
            rotate_left
            · (intro w hSw; (try dsimp only at hSw); go_simp <;> with_reducible rfl)
            simp only [Act.put, List.setIfInBounds_toArray, List.set_cons_zero, List.set_cons_succ]
            refine tk (i := 2) (v := ?_) (tA rfl) (by kernel_rfl) (fun _ _ _ h => h) (Or.inl ⟨by rfl, ?_⟩) (by assumption) ?_
            rotate_left
            · (intro w hSw; (try dsimp only at hSw); go_simp <;> with_reducible rfl)
            simp only [Act.put, List.setIfInBounds_toArray, List.set_cons_zero, List.set_cons_succ]
            refine tk (i := 3) (v := ?_) (tA rfl) (by kernel_rfl) (fun _ _ _ h => h) (Or.inl ⟨by rfl, ?_⟩) (by assumption) ?_
            rotate_left
            · (intro w hSw; (try dsimp only at hSw); go_simp <;> with_reducible rfl)
            simp only [Act.put, List.setIfInBounds_toArray, List.set_cons_zero, List.set_cons_succ]
            refine tk (i := 5) (v := ?_) (tA rfl) (by kernel_rfl) (fun _ _ _ h => h) (Or.inl ⟨by rfl, ?_⟩) (by assumption) ?_
            rotate_left
            · (intro w hSw; (try dsimp only at hSw); go_simp <;> with_reducible rfl)
            simp only [Act.put, List.setIfInBounds_toArray, List.set_cons_zero, List.set_cons_succ]
            refine tk (i := 6) (v := ?_) (tA rfl) (by kernel_rfl) (fun _ _ _ h => h) (Or.inl ⟨by rfl, ?_⟩) (by assumption) ?_
            rotate_left
            · (intro w hSw; (try dsimp only at hSw); go_simp <;> with_reducible rfl)
            simp only [Act.put, List.setIfInBounds_toArray, List.set_cons_zero, List.set_cons_succ]
            refine wpAnyH_ready (rs := [4, 7]) (by kernel_rfl) (by simp) ?_
            refine AllReadyH.cons (tA rfl) (fun K hK => ?_) (AllReadyH.cons (tA rfl) (fun K hK => ?_) AllReadyH.nil)
            · go_simp
              refine hK.out _ _ (by first | exact HSK.out _ (Below.refl _ _).drew | exact HSK.out _ HBW1.out) (fun hHeld => ?_)
              clear hK K
              try simp only [Act.put, List.setIfInBounds_toArray, List.set_cons_zero, List.set_cons_succ]
              refine wpAnyH_ready (rs := [7]) (by kernel_rfl) (by simp) ?_
              refine AllReadyH.cons (tA rfl) (fun K hK => ?_) AllReadyH.nil
              go_simp
              refine hK.out _ _ (by first | exact HSK.out _ (Below.refl _ _).drew | exact HSK.out _ HBW1.out) (fun hHeld => ?_)
              clear hK K
              try simp only [Act.put, List.setIfInBounds_toArray, List.set_cons_zero, List.set_cons_succ]
              refine wpAnyH_ready (rs := [8]) (by kernel_rfl) (by simp) ?_
              refine AllReadyH.cons (tA rfl) (fun K hK => ?_) AllReadyH.nil
              refine step_append_lies _ (by rfl) _ _ 37 (by rfl) y1.heap.size 46 it _ 12 112 Tryd.underlying37 hit ht0 ht1 ht2 (by rfl) (by decide) (.slice av k cv) k _ (by rfl) HW1.out ⟨Wc.heap.size, 0, none⟩ 1 1 (xC (T.th0 k z) (.slice none 0 0)) (by rfl) (by rfl) HNC.out (by intro u hu; simp [xC] at hu; rcases hu with rfl | rfl | rfl | rfl | rfl | rfl | rfl | rfl | rfl | rfl | rfl | rfl <;> rfl) (by decide) (by unfold maxLen; omega) (by omega) HLE.out (Wc.heap.size + 1) (by simp) ?_
              intro x1 cp Y6 ho6 hg6 hat6 hlt6
              have m6 : Y6.cell? ⟨b, 3, none⟩ = some (.slice av k cv) := hg6.cell (cell_up HBW1.out d1) (fun e => hvb e.symm)
              have z6 : Y6.frozen? ⟨b, 3, none⟩ = false := (hg6.frozen_far ⟨b, 3, none⟩ (Nat.lt_of_lt_of_le hbl HBW1.out.size) (fun e => hvb e.symm)).trans ((HBW1.out.frozen (p := ⟨b, 3, none⟩) hbl).trans hg1)
              refine hK.out _ _ ⟨(hg6.cell (cell_up HBW1.out p0) (fun e => hvx e.symm)), (hg6.cell (cell_up HBW1.out p1) (fun e => hvx e.symm)), (hg6.cell (cell_up HBW1.out p2) (fun e => hvx e.symm)), (hg6.cell (cell_up HBW1.out p3) (fun e => hvx e.symm)), (hg6.cell (cell_up HBW1.out p4) (fun e => hvx e.symm)), (hg6.cell (cell_up HBW1.out p5) (fun e => hvx e.symm)), (hg6.cell (cell_up HBW1.out p6) (fun e => hvx e.symm)), (hg6.cell (cell_up HBW1.out p7) (fun e => hvx e.symm)), (hg6.cell (cell_up HBW1.out p8) (fun e => hvx e.symm)), (hg6.cell (cell_up HBW1.out p9) (fun e => hvx e.symm)), (hg6.cell (cell_up HBW1.out p10) (fun e => hvx e.symm))⟩ (fun hHeld => ?_)
              clear hK K
              try simp only [Act.put, List.setIfInBounds_toArray, List.set_cons_zero, List.set_cons_succ]
              refine tk (i := 9) (v := ?_) (tA rfl) (by kernel_rfl) (fun _ _ _ h => h) (Or.inl ⟨by rfl, ?_⟩) (by assumption) ?_
              rotate_left
              · (intro w hSw; (try dsimp only at hSw); go_simp <;> with_reducible rfl)
              simp only [Act.put, List.setIfInBounds_toArray, List.set_cons_zero, List.set_cons_succ]
              refine tk (i := 10) (v := ?_) (tA rfl) (by kernel_rfl) (fun _ _ _ h => h) (Or.inl ⟨by rfl, ?_⟩) (by assumption) ?_
              rotate_left
              · (intro w hSw; (try dsimp only at hSw); go_simp <;> with_reducible rfl)
              simp only [Act.put, List.setIfInBounds_toArray, List.set_cons_zero, List.set_cons_succ]
              refine wpAnyH_ready (rs := [11]) (by kernel_rfl) (by simp) ?_
              refine AllReadyH.cons (tA rfl) (fun K hK => ?_) AllReadyH.nil
              clear hHeld
              go_simp
              have ho7 : Y6.ownsRow y1.heap.size 46 12 (.slice (some ⟨x1, 0, none⟩) (k + 1) cp) (k + 1) (th0C 0 (zs.take (k + 1))) := by rw [HTS.out]; exact ho6
              have hatp : ∀ q, (Value.slice (some ⟨x1, 0, none⟩) (k + 1) cp).ownBlock = some q → (Value.slice av k cv).ownBlock = some q ∨ (Wc.alloc (.cells #[.int .i64 0, .int .i64 0, .int .i64 0, .int .i64 0, .int .i64 0, .int .i64 0, .int .i64 0, .int .i64 sb, .int .i64 pcv, .int .i64 0, .int .i64 0, .slice none 0 0] 46)).drew.heap.size ≤ q := fun q hq => by
                have e2 : x1 = q := by simpa [Value.ownBlock] using hq
                rw [← e2]
                exact hat6.imp id (fun e => by rw [HDW.out]; omega)
              have hbs1 := ((HBC.out.below HBW1.out).push (k := 0) rfl ho7 hg6 hatp).put 0 b _ rfl 3 (by simp) (.slice (some ⟨x1, 0, none⟩) (k + 1) cp)
              have HBN : Hid _ := hbs1
              refine hK.out _ _ ⟨((World.cell?_setCell_far _ _ _ _ hbx).trans (hg6.cell (cell_up HBW1.out p0) (fun e => hvx e.symm))), ((World.cell?_setCell_far _ _ _ _ hbx).trans (hg6.cell (cell_up HBW1.out p1) (fun e => hvx e.symm))), ((World.cell?_setCell_far _ _ _ _ hbx).trans (hg6.cell (cell_up HBW1.out p2) (fun e => hvx e.symm))), ((World.cell?_setCell_far _ _ _ _ hbx).trans (hg6.cell (cell_up HBW1.out p3) (fun e => hvx e.symm))), ((World.cell?_setCell_far _ _ _ _ hbx).trans (hg6.cell (cell_up HBW1.out p4) (fun e => hvx e.symm))), ((World.cell?_setCell_far _ _ _ _ hbx).trans (hg6.cell (cell_up HBW1.out p5) (fun e => hvx e.symm))), ((World.cell?_setCell_far _ _ _ _ hbx).trans (hg6.cell (cell_up HBW1.out p6) (fun e => hvx e.symm))), ((World.cell?_setCell_far _ _ _ _ hbx).trans (hg6.cell (cell_up HBW1.out p7) (fun e => hvx e.symm))), ((World.cell?_setCell_far _ _ _ _ hbx).trans (hg6.cell (cell_up HBW1.out p8) (fun e => hvx e.symm))), ((World.cell?_setCell_far _ _ _ _ hbx).trans (hg6.cell (cell_up HBW1.out p9) (fun e => hvx e.symm))), ((World.cell?_setCell_far _ _ _ _ hbx).trans (hg6.cell (cell_up HBW1.out p10) (fun e => hvx e.symm)))⟩ (fun hHeld => ?_)
              clear hK K m6 z6 ho6 ho7 hg6 hat6 hlt6 hbs1 hatp
              try simp only [Act.put, List.setIfInBounds_toArray, List.set_cons_zero, List.set_cons_succ]
              refine wpAnyH_done (by kernel_rfl) ?_ _
              clear hHeld
              go_wp2
              go_roundg (n - (k + 1))
              · exact ⟨k + 1, _, rfl, by omega, Nat.le_refl _, HBN, HGK⟩
              · omega
            · go_simp
              refine hK.out _ _ (by first | exact HSK.out _ (Below.refl _ _).drew | exact HSK.out _ HBW1.out) (fun hHeld => ?_)
              clear hK K
              try simp only [Act.put, List.setIfInBounds_toArray, List.set_cons_zero, List.set_cons_succ]
              refine wpAnyH_ready (rs := [4]) (by kernel_rfl) (by simp) ?_
              refine AllReadyH.cons (tA rfl) (fun K hK => ?_) AllReadyH.nil
              go_simp
              refine hK.out _ _ (by first | exact HSK.out _ (Below.refl _ _).drew | exact HSK.out _ HBW1.out) (fun hHeld => ?_)
              clear hK K
              try simp only [Act.put, List.setIfInBounds_toArray, List.set_cons_zero, List.set_cons_succ]
              refine wpAnyH_ready (rs := [8]) (by kernel_rfl) (by simp) ?_
              refine AllReadyH.cons (tA rfl) (fun K hK => ?_) AllReadyH.nil
              refine step_append_lies _ (by rfl) _ _ 37 (by rfl) y1.heap.size 46 it _ 12 112 Tryd.underlying37 hit ht0 ht1 ht2 (by rfl) (by decide) (.slice av k cv) k _ (by rfl) HW1.out ⟨Wc.heap.size, 0, none⟩ 1 1 (xC (T.th0 k z) (.slice none 0 0)) (by rfl) (by rfl) HNC.out (by intro u hu; simp [xC] at hu; rcases hu with rfl | rfl | rfl | rfl | rfl | rfl | rfl | rfl | rfl | rfl | rfl | rfl <;> rfl) (by decide) (by unfold maxLen; omega) (by omega) HLE.out (Wc.heap.size + 1) (by simp) ?_
              intro x1 cp Y6 ho6 hg6 hat6 hlt6
              have m6 : Y6.cell? ⟨b, 3, none⟩ = some (.slice av k cv) := hg6.cell (cell_up HBW1.out d1) (fun e => hvb e.symm)
              have z6 : Y6.frozen? ⟨b, 3, none⟩ = false := (hg6.frozen_far ⟨b, 3, none⟩ (Nat.lt_of_lt_of_le hbl HBW1.out.size) (fun e => hvb e.symm)).trans ((HBW1.out.frozen (p := ⟨b, 3, none⟩) hbl).trans hg1)
              refine hK.out _ _ ⟨(hg6.cell (cell_up HBW1.out p0) (fun e => hvx e.symm)), (hg6.cell (cell_up HBW1.out p1) (fun e => hvx e.symm)), (hg6.cell (cell_up HBW1.out p2) (fun e => hvx e.symm)), (hg6.cell (cell_up HBW1.out p3) (fun e => hvx e.symm)), (hg6.cell (cell_up HBW1.out p4) (fun e => hvx e.symm)), (hg6.cell (cell_up HBW1.out p5) (fun e => hvx e.symm)), (hg6.cell (cell_up HBW1.out p6) (fun e => hvx e.symm)), (hg6.cell (cell_up HBW1.out p7) (fun e => hvx e.symm)), (hg6.cell (cell_up HBW1.out p8) (fun e => hvx e.symm)), (hg6.cell (cell_up HBW1.out p9) (fun e => hvx e.symm)), (hg6.cell (cell_up HBW1.out p10) (fun e => hvx e.symm))⟩ (fun hHeld => ?_)
              clear hK K
              try simp only [Act.put, List.setIfInBounds_toArray, List.set_cons_zero, List.set_cons_succ]
              refine tk (i := 9) (v := ?_) (tA rfl) (by kernel_rfl) (fun _ _ _ h => h) (Or.inl ⟨by rfl, ?_⟩) (by assumption) ?_
              rotate_left
              · (intro w hSw; (try dsimp only at hSw); go_simp <;> with_reducible rfl)
              simp only [Act.put, List.setIfInBounds_toArray, List.set_cons_zero, List.set_cons_succ]
              refine tk (i := 10) (v := ?_) (tA rfl) (by kernel_rfl) (fun _ _ _ h => h) (Or.inl ⟨by rfl, ?_⟩) (by assumption) ?_
              rotate_left
              · (intro w hSw; (try dsimp only at hSw); go_simp <;> with_reducible rfl)
              simp only [Act.put, List.setIfInBounds_toArray, List.set_cons_zero, List.set_cons_succ]
              refine wpAnyH_ready (rs := [11]) (by kernel_rfl) (by simp) ?_
              refine AllReadyH.cons (tA rfl) (fun K hK => ?_) AllReadyH.nil
              clear hHeld
              go_simp
              have ho7 : Y6.ownsRow y1.heap.size 46 12 (.slice (some ⟨x1, 0, none⟩) (k + 1) cp) (k + 1) (th0C 0 (zs.take (k + 1))) := by rw [HTS.out]; exact ho6
              have hatp : ∀ q, (Value.slice (some ⟨x1, 0, none⟩) (k + 1) cp).ownBlock = some q → (Value.slice av k cv).ownBlock = some q ∨ (Wc.alloc (.cells #[.int .i64 0, .int .i64 0, .int .i64 0, .int .i64 0, .int .i64 0, .int .i64 0, .int .i64 0, .int .i64 sb, .int .i64 pcv, .int .i64 0, .int .i64 0, .slice none 0 0] 46)).drew.heap.size ≤ q := fun q hq => by
                have e2 : x1 = q := by simpa [Value.ownBlock] using hq
                rw [← e2]
                exact hat6.imp id (fun e => by rw [HDW.out]; omega)
              have hbs1 := ((HBC.out.below HBW1.out).push (k := 0) rfl ho7 hg6 hatp).put 0 b _ rfl 3 (by simp) (.slice (some ⟨x1, 0, none⟩) (k + 1) cp)
              have HBN : Hid _ := hbs1
              refine hK.out _ _ ⟨((World.cell?_setCell_far _ _ _ _ hbx).trans (hg6.cell (cell_up HBW1.out p0) (fun e => hvx e.symm))), ((World.cell?_setCell_far _ _ _ _ hbx).trans (hg6.cell (cell_up HBW1.out p1) (fun e => hvx e.symm))), ((World.cell?_setCell_far _ _ _ _ hbx).trans (hg6.cell (cell_up HBW1.out p2) (fun e => hvx e.symm))), ((World.cell?_setCell_far _ _ _ _ hbx).trans (hg6.cell (cell_up HBW1.out p3) (fun e => hvx e.symm))), ((World.cell?_setCell_far _ _ _ _ hbx).trans (hg6.cell (cell_up HBW1.out p4) (fun e => hvx e.symm))), ((World.cell?_setCell_far _ _ _ _ hbx).trans (hg6.cell (cell_up HBW1.out p5) (fun e => hvx e.symm))), ((World.cell?_setCell_far _ _ _ _ hbx).trans (hg6.cell (cell_up HBW1.out p6) (fun e => hvx e.symm))), ((World.cell?_setCell_far _ _ _ _ hbx).trans (hg6.cell (cell_up HBW1.out p7) (fun e => hvx e.symm))), ((World.cell?_setCell_far _ _ _ _ hbx).trans (hg6.cell (cell_up HBW1.out p8) (fun e => hvx e.symm))), ((World.cell?_setCell_far _ _ _ _ hbx).trans (hg6.cell (cell_up HBW1.out p9) (fun e => hvx e.symm))), ((World.cell?_setCell_far _ _ _ _ hbx).trans (hg6.cell (cell_up HBW1.out p10) (fun e => hvx e.symm)))⟩ (fun hHeld => ?_)
              clear hK K m6 z6 ho6 ho7 hg6 hat6 hlt6 hbs1 hatp
              try simp only [Act.put, List.setIfInBounds_toArray, List.set_cons_zero, List.set_cons_succ]
              refine wpAnyH_done (by kernel_rfl) ?_ _
              clear hHeld
              go_wp2
              go_roundg (n - (k + 1))
              · exact ⟨k + 1, _, rfl, by omega, Nat.le_refl _, HBN, HGK⟩
              · omega
          · have HNO : Hid (m.may = false) := by show _ = _; rw [HMAY.out]; exact T.mayRun_bad (k := k) (by rw [HN.out]; exact hlt) (by rw [HZK.out]; exact hgd)
            have HBE : Hid (Below w.heap.size w wr) := HB2.out.trans (HBR.out.low.mono HB2.out.size)
            clear hTr
            by_cases hz0 : z < 0
            · have e0 : decide (z < 0) = true := decide_eq_true hz0
              clear hgd
              go_wp2_with fail
              refine wp_region_held_drew (S := (fun w' : World => w'.cell? ⟨w.heap.size, 0, none⟩ = some (.string m.code) ∧ w'.cell? ⟨lb, lo + k, none⟩ = some (.int .i64 z))) (by kernel_rfl) ⟨q0, x0⟩ (fun hHeld => ?_)
              refine tk (i := 0) (v := ?_) (tA rfl) (by kernel_rfl) (fun _ _ _ h => h) (Or.inl ⟨by rfl, ?_⟩) (by assumption) ?_
              rotate_left
              · (intro w hSw; (try dsimp only at hSw); go_simp <;> with_reducible rfl)
              simp only [Act.put, List.setIfInBounds_toArray, List.set_cons_zero, List.set_cons_succ]
              refine tk (i := 1) (v := ?_) (tA rfl) (by kernel_rfl) (fun _ _ _ h => h) (Or.inl ⟨by rfl, ?_⟩) (by assumption) ?_
              rotate_left
              · (intro w hSw; (try dsimp only at hSw); go_simp <;> with_reducible rfl)
              simp only [Act.put, List.setIfInBounds_toArray, List.set_cons_zero, List.set_cons_succ]
              refine tk (i := 2) (v := ?_) (tA rfl) (by kernel_rfl) (fun _ _ _ h => h) (Or.inl ⟨by rfl, ?_⟩) (by assumption) ?_
              rotate_left
              · (intro w hSw; (try dsimp only at hSw); go_simp <;> with_reducible rfl)
              simp only [Act.put, List.setIfInBounds_toArray, List.set_cons_zero, List.set_cons_succ]
              refine tk (i := 3) (v := ?_) (tA rfl) (by kernel_rfl) (fun _ _ _ h => h) (Or.inl ⟨by rfl, ?_⟩) (by assumption) ?_
              rotate_left
              · (intro w hSw; (try dsimp only at hSw); go_simp <;> with_reducible rfl)
              simp only [Act.put, List.setIfInBounds_toArray, List.set_cons_zero, List.set_cons_succ]
              refine tk (i := 4) (v := ?_) (tA rfl) (by kernel_rfl) (fun _ _ _ h => h) (Or.inl ⟨by rfl, ?_⟩) (by assumption) ?_
              rotate_left
              · (intro w hSw; (try dsimp only at hSw); go_simp <;> with_reducible rfl)
              simp only [Act.put, List.setIfInBounds_toArray, List.set_cons_zero, List.set_cons_succ]
              refine tk (i := 5) (v := ?_) (tA rfl) (by kernel_rfl) (fun _ _ _ h => h) (Or.inl ⟨by rfl, ?_⟩) (by assumption) ?_
              rotate_left
              · (intro w hSw; (try dsimp only at hSw); go_simp <;> with_reducible rfl)
              simp only [Act.put, List.setIfInBounds_toArray, List.set_cons_zero, List.set_cons_succ]
              refine tk (i := 6) (v := undef) (tA rfl) (by kernel_rfl) (fun _ _ _ h => h) (Or.inr ⟨by rfl, rfl⟩) (by assumption) ?_
              simp only [Act.put, List.setIfInBounds_toArray, List.set_cons_zero, List.set_cons_succ]
              refine tk (i := 7) (v := undef) (tA rfl) (by kernel_rfl) (fun _ _ _ h => h) (Or.inr ⟨by rfl, rfl⟩) (by assumption) ?_
              simp only [Act.put, List.setIfInBounds_toArray, List.set_cons_zero, List.set_cons_succ]
              refine tk (i := 8) (v := undef) (tA rfl) (by kernel_rfl) (fun _ _ _ h => h) (Or.inr ⟨by rfl, rfl⟩) (by assumption) ?_
              simp only [Act.put, List.setIfInBounds_toArray, List.set_cons_zero, List.set_cons_succ]
              refine tk (i := 9) (v := undef) (tA rfl) (by kernel_rfl) (fun _ _ _ h => h) (Or.inr ⟨by rfl, rfl⟩) (by assumption) ?_
              simp only [Act.put, List.setIfInBounds_toArray, List.set_cons_zero, List.set_cons_succ]
              refine tk (i := 10) (v := undef) (tA rfl) (by kernel_rfl) (fun _ _ _ h => h) (Or.inr ⟨by rfl, rfl⟩) (by assumption) ?_
              simp only [Act.put, List.setIfInBounds_toArray, List.set_cons_zero, List.set_cons_succ]
              refine tk (i := 11) (v := undef) (tA rfl) (by kernel_rfl) (fun _ _ _ h => h) (Or.inr ⟨by rfl, rfl⟩) (by assumption) ?_
              simp only [Act.put, List.setIfInBounds_toArray, List.set_cons_zero, List.set_cons_succ]
              refine tk (i := 12) (v := undef) (tA rfl) (by kernel_rfl) (fun _ _ _ h => h) (Or.inr ⟨by rfl, rfl⟩) (by assumption) ?_
              simp only [Act.put, List.setIfInBounds_toArray, List.set_cons_zero, List.set_cons_succ]
              refine tk (i := 13) (v := undef) (tA rfl) (by kernel_rfl) (fun _ _ _ h => h) (Or.inr ⟨by rfl, rfl⟩) (by assumption) ?_
              simp only [Act.put, List.setIfInBounds_toArray, List.set_cons_zero, List.set_cons_succ]
              refine tk (i := 14) (v := ?_) (tA rfl) (by kernel_rfl) (fun _ _ _ h => h) (Or.inl ⟨by rfl, ?_⟩) (by assumption) ?_
              rotate_left
              · (intro w hSw; (try dsimp only at hSw); go_simp <;> with_reducible rfl)
              simp only [Act.put, List.setIfInBounds_toArray, List.set_cons_zero, List.set_cons_succ]
              refine wpAnyH_done (by kernel_rfl) ?_ _
              clear hHeld
              go_wp2
              go_ret2
              exact ⟨.inr ⟨HNO.out, rfl⟩, HBE.out.drew⟩
            · have e0 : decide (z < 0) = false := decide_eq_false hz0
              have e1 : decide ((m.code.size : Int) ≤ z) = true := decide_eq_true (by omega)
              clear hgd
              go_wp2_with fail
              go_region_held3 (fun w' : World => w'.cell? ⟨w.heap.size, 0, none⟩ = some (.string m.code) ∧ w'.cell? ⟨lb, lo + k, none⟩ = some (.int .i64 z)) (exact ⟨q0, x0⟩) (fail)
              go_wp2
              go_ret2
              exact ⟨.inr ⟨HNO.out, rfl⟩, HBE.out.drew⟩
        · obtain rfl : k = n := by omega
          have HYES : Hid (m.may = true) := by show _ = _; rw [HMAY.out]; exact T.mayRun_yes (by rw [HN.out]; exact ⟨k1, k2, k3, k4⟩) (fun j hj => HG.out j (by rw [← HN.out]; exact hj))
          have HBE : Hid (Below w.heap.size w wr) := HB2.out.trans (HBR.out.low.mono HB2.out.size)
          have HXN : Hid (XNewIs w.heap.size (.returned (.tuple #[.pointer (some ⟨b, 0, none⟩), .int .i64 0])) wr m.mach) := by
            have ht : zs.take k = zs := by rw [← HN.out, List.take_length]
            have h9 := HBR.out
            rw [ht, ← hN8] at h9
            rcases hTr.2 with ⟨-, e0⟩ | ⟨g, cap, cur, e, -⟩
            · omega
            · cases e
              have h10 := xv_new HN.out k1 k2 (by rw [HCT.out]; exact k4) h9 HB2.out.size
              rw [show m.mach = T.mach0 m.code m.data zs by show T.mach0 m.code m.data (strt m.syms) = _; rw [HZS.out]]
              exact ⟨_, _, _, _, _, _, _, _, _, rfl, h10⟩
          clear hTr
          go_wp2
          go_ret2
          exact ⟨.inl ⟨HYES.out, HXN.out⟩, HBE.out⟩
  · have HNO : Hid (m.may = false) := by show _ = _; rw [HMAY.out]; exact T.mayRun_no (by rw [HN.out]; exact hA)
    by_cases e1 : n = 0
    · subst e1
      clear hA
      go_wp2
      go_ret2
      exact ⟨.inr ⟨HNO.out, rfl⟩, HB2.out⟩
    have f1 : ((n : Int) == 0) = false := by simp; omega
    by_cases e2 : 4 < n
    · have f2 : decide ((4 : Int) < (n : Int)) = true := decide_eq_true (by omega)
      clear hA
      go_wp2
      go_ret2
      exact ⟨.inr ⟨HNO.out, rfl⟩, HB2.out⟩
    have f2 : decide ((4 : Int) < (n : Int)) = false := decide_eq_false (by omega)
    by_cases e3 : 65536 < m.code.size
    · have f3 : decide ((65536 : Int) < (m.code.size : Int)) = true := decide_eq_true (by omega)
      clear hA
      go_wp2
      go_ret2
      exact ⟨.inr ⟨HNO.out, rfl⟩, HB2.out⟩
    have f3 : decide ((65536 : Int) < (m.code.size : Int)) = false := decide_eq_false (by omega)
    have f4 : decide ((4096 : Int) < (l1 : Int)) = true := decide_eq_true (by omega)
    clear hA
    go_wp2
    go_ret2
    exact ⟨.inr ⟨HNO.out, rfl⟩, HB2.out⟩

end Go.Proofs.YtffokdldgdjkhaaDoor.X

/- The document's machine: a run. -/
namespace Go.Proofs.YtffokdldgdjkhaaDoor.X
open Go.RowKit Go.Maps
set_option linter.unusedVariables false
set_option linter.unusedSimpArgs false

/-- The document's machine, as picks have left it, and the world since. -/
def XRan (B : Nat) (X wq : World) (b : Nat) (M : T.Mach) (vd vs : Value) (g cap : Nat) : Prop := ∃ t D S ev us, XV B wq b M t D S vd vs g cap ev us ∧ Below B X wq
theorem XRan.do {B : Nat} {X wq y : World} {b : Nat} {M M' : T.Mach} {t : Nat → Nat} {D S : List Int} {vd vs : Value} {g cap : Nat} {ev : Value} {us : List Value} (h : XV B wq b M t D S vd vs g cap ev us) (hb : Below B X wq) (hg : XGone B wq y b M' t vd vs g cap) : XRan B X y b M' vd vs g cap := by
  obtain ⟨t', D', S', ev', us', h1, hs⟩ := hg
  exact ⟨t', D', S', ev', us', h1, hb.trans (hs.toBelow (fun k hk => (h.lt k hk).1) h.hB)⟩
theorem mach_fit (m : ImgD) (hm : m.may = true) (hd : ∀ n ∈ m.data, (Lit.int .i64 n).wf = true) : T.Fit m.mach :=
  T.mach0_fit hd (of_decide_eq_true (Bool.and_eq_true_iff.1 hm).1).2.1



end Go.Proofs.YtffokdldgdjkhaaDoor.X

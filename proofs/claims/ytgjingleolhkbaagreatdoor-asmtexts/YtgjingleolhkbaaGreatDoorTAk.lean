/- A layout as it lies. -/
import Derived.Test.YtgjingleolhkbaaGreatDoorTAf
import Derived.Test.YtgjingleolhkbaaGreatDoorTAj
import Derived.Deep.RegionHeld3
import Derived.Laws.Rows
import Derived.Laws.OwnMore
namespace Go.Proofs.YtgjingleolhkbaaGreatDoor
open Go.RowKit Go.Maps
set_option linter.unusedVariables false
set_option linter.unusedSimpArgs false

theorem sz_range (op : Int) : 0 ≤ Z.sz op ∧ Z.sz op ≤ 10 := by
 unfold Z.sz J.I.size
 have h : 0 ≤ J.I.numB (J.I.form op) ∧ J.I.numB (J.I.form op) ≤ 8 := by
  unfold J.I.numB
  split
  ·omega
  ·split
   ·omega
   ·split <;> omega
 split
 ·omega
 ·split <;> omega
def jpC (j : Nat × Nat) : List Value := [.int .i64 j.1, .int .i64 j.2]
structure PR (W : World) (B : Nat) (ap : Option Addr) (cp : Nat) (ops bs : List Int) : Prop where
 len : bs.length = ops.length
 room : ops.length ≤ cp ∧ cp ≤ maxLen
 ex : ops = [] ∨ ∃ g cur, ap = some ⟨g, 0, none⟩ ∧ B ≤ g ∧ W.heap[g]? = some (.cells cur 111 (0, 0)) ∧ ∀ i, i < ops.length → cur[i * 3]? = some (.int .i64 (ops.getD i 0)) ∧ cur[i * 3 + 1]? = some (.int .i64 (Z.sz (ops.getD i 0))) ∧ cur[i * 3 + 2]? = some (.int .i64 (bs.getD i 0))
structure LV (w W : World) (yb bm : Nat) (ai : Option Addr) (li ci : Nat) (ts : List X.It) (ap aj : Option Addr) (cp cj : Nat) (ops bs : List Int) (js : List (Nat × Nat)) (sz : Int) : Prop where
 low : Below w.heap.size w W
 hy : w.heap.size ≤ yb
 y : W.heap[yb]? = some (.cells #[.map (some bm), .slice ai li ci, .slice ap ops.length cp, .slice aj js.length cj, .int .i64 sz] 87 (0, 0))
 hm : w.heap.size ≤ bm
 nm : NM W bm ts
 pr : PR W w.heap.size ap cp ops bs
 jr : W.ownsRow w.heap.size 109 2 (.slice aj js.length cj) js.length (js.flatMap jpC)
theorem cell_of {W : World} {b : Nat} {cur : Array Value} {t : TypeId} {fr : Nat × Nat} (h : W.heap[b]? = some (.cells cur t fr)) (j : Nat) : W.cell? ⟨b, j, none⟩ = cur[j]? := by
 unfold World.cell?
 simp only [h]
 rfl
theorem frozen_of {W : World} {b : Nat} {cur : Array Value} {t : TypeId} (h : W.heap[b]? = some (.cells cur t (0, 0))) (j : Nat) : W.frozen? ⟨b, j, none⟩ = false := by
 unfold World.frozen?
 simp only [h]
 simp
theorem flat_at {α : Type} (f : α → List Value) (m : Nat) (d : α) (hm : ∀ x, (f x).length = m) : ∀ (l : List α) (i j : Nat), i < l.length → j < m → (l.flatMap f)[i * m + j]? = (f (l.getD i d))[j]?
 | [], i, j, hi, _ => by simp at hi
 | x :: l, 0, j, hi, hj => by
  rw [List.flatMap_cons, Nat.zero_mul, Nat.zero_add, List.getElem?_append_left (by rw [hm]; exact hj)]
  rfl
 | x :: l, i + 1, j, hi, hj => by
  rw [List.flatMap_cons, List.getElem?_append_right (by rw [hm, Nat.succ_mul]; omega), hm, show (i + 1) * m + j - m = i * m + j by rw [Nat.succ_mul]; omega, flat_at f m d hm l i j (by simpa using hi) hj]
  rfl
theorem blk_lt {W : World} {b : Nat} {o : Obj} (h : W.heap[b]? = some o) : b < W.heap.size := (Array.getElem?_eq_some_iff.1 h).1
theorem PR.kept {W W' : World} {B : Nat} {ap : Option Addr} {cp : Nat} {ops bs : List Int} (h : PR W B ap cp ops bs) {r : Option Nat} (hg : W.grownBy W' r) (hr : ∀ b, r = some b → ∀ cur, W.heap[b]? ≠ some (.cells cur 111 (0, 0))) : PR W' B ap cp ops bs := by
 refine ⟨h.len, h.room, ?_⟩
 rcases h.ex with e | ⟨g, cur, e, hb, hh, hc⟩
 ·exact .inl e
 ·exact .inr ⟨g, cur, e, hb, (hg.block g (blk_lt hh) (fun e2 => hr g e2.symm cur hh)).trans hh, hc⟩
section
variable {w W W' : World} {yb bm : Nat} {ai : Option Addr} {li ci : Nat} {ts : List X.It} {ap aj : Option Addr} {cp cj : Nat} {ops bs : List Int} {js : List (Nat × Nat)} {sz : Int}
theorem LV.kept (h : LV w W yb bm ai li ci ts ap aj cp cj ops bs js sz) {g : Nat} {o : Obj} (hw : w.heap.size ≤ g) (ho : W.heap[g]? = some o) (hg : W.grownBy W' (some g))
  (h1 : ∀ cur fr, o ≠ .cells cur 87 fr) (h2 : ∀ es cl, o ≠ .map es cl) (h3 : ∀ cur fr, o ≠ .cells cur 111 fr) (h4 : ∀ cur fr, o ≠ .cells cur 109 fr) : LV w W' yb bm ai li ci ts ap aj cp cj ops bs js sz := by
 refine ⟨below_gb h.low hg hw h.low.size, h.hy, ?_, h.hm, h.nm.kept hg ?_, h.pr.kept hg ?_, h.jr.kept hg (.inr fun e => ?_)⟩
 ·exact (hg.block yb (blk_lt h.y) (fun e => by cases e; exact h1 _ _ (Option.some.inj (ho.symm.trans h.y)))).trans h.y
 ·rintro e; cases e
  obtain ⟨es, cl, e2⟩ := h.nm.map
  exact h2 es cl (Option.some.inj (ho.symm.trans e2))
 ·intro b e cur e2; cases e
  exact h3 _ _ (Option.some.inj (ho.symm.trans e2))
 ·obtain ⟨-, cur, e2⟩ := own_cells h.jr g _ e ho
  exact h4 _ _ e2
theorem LV.below (h : LV w W yb bm ai li ci ts ap aj cp cj ops bs js sz) (hb : Below W.heap.size W W') : LV w W' yb bm ai li ci ts ap aj cp cj ops bs js sz :=
 ⟨h.low.trans (hb.mono h.low.size), h.hy, (hb.block yb (blk_lt h.y)).trans h.y, h.hm, h.nm.below hb, h.pr.kept (gb_of_below hb none) (fun b e => by cases e), own_thru h.jr hb⟩
theorem LV.cells (h : LV w W yb bm ai li ci ts ap aj cp cj ops bs js sz) : W.cell? ⟨yb, 0, none⟩ = some (.map (some bm)) ∧ W.cell? ⟨yb, 1, none⟩ = some (.slice ai li ci) ∧ W.cell? ⟨yb, 2, none⟩ = some (.slice ap ops.length cp) ∧ W.cell? ⟨yb, 3, none⟩ = some (.slice aj js.length cj) ∧ W.cell? ⟨yb, 4, none⟩ = some (.int .i64 sz) ∧ W.frozen? ⟨yb, 4, none⟩ = false := by
 refine ⟨?_, ?_, ?_, ?_, ?_, frozen_of h.y 4⟩ <;> (rw [cell_of h.y]; rfl)
theorem LV.piece (h : LV w W yb bm ai li ci ts ap aj cp cj ops bs js sz) {i : Nat} (hi : i < ops.length) : ∃ g, ap = some ⟨g, 0, none⟩ ∧ w.heap.size ≤ g ∧ g < W.heap.size ∧ g ≠ yb ∧ (∀ k, k < ops.length → W.cell? ⟨g, k * 3, none⟩ = some (.int .i64 (ops.getD k 0)) ∧ W.cell? ⟨g, k * 3 + 1, none⟩ = some (.int .i64 (Z.sz (ops.getD k 0))) ∧ W.cell? ⟨g, k * 3 + 2, none⟩ = some (.int .i64 (bs.getD k 0))) ∧ (∀ j, W.frozen? ⟨g, j, none⟩ = false) ∧ ∃ cur, W.heap[g]? = some (.cells cur 111 (0, 0)) := by
 rcases h.pr.ex with e | ⟨g, cur, e, hb, hh, hc⟩
 ·subst e; simp at hi
 ·refine ⟨g, e, hb, blk_lt hh, ?_, fun k hk => ?_, frozen_of hh, cur, hh⟩
  ·rintro rfl
   have := h.y
   rw [hh] at this
   injection this with this
   injection this with _ e2
   exact absurd e2 (by decide)
  ·obtain ⟨x0, x1, x2⟩ := hc k hk
   exact ⟨(cell_of hh _).trans x0, (cell_of hh _).trans x1, (cell_of hh _).trans x2⟩
theorem LV.setSz (h : LV w W yb bm ai li ci ts ap aj cp cj ops bs js sz) (z : Int) : LV w (W.setCell ⟨yb, 4, none⟩ (.int .i64 z)) yb bm ai li ci ts ap aj cp cj ops bs js z := by
 have hg := gb_set W ⟨yb, 4, none⟩ (.int .i64 z)
 refine ⟨h.low.setCell h.hy _, h.hy, ?_, h.hm, h.nm.kept hg ?_, h.pr.kept hg ?_, h.jr.kept hg (.inr fun e => ?_)⟩
 ·rw [heap_setCell_same W yb 4 _ _ _ h.y]
  rfl
 ·rintro e; cases e
  obtain ⟨es, cl, e2⟩ := h.nm.map
  rw [h.y] at e2; cases e2
 ·intro b e cur e2; cases e
  rw [h.y] at e2
  injection e2 with e2
  injection e2 with _ e2
  exact absurd e2 (by decide)
 ·obtain ⟨-, cur, e2⟩ := own_cells h.jr yb _ e h.y
  injection e2 with _ e2
  exact absurd e2 (by decide)
theorem LV.setPc (h : LV w W yb bm ai li ci ts ap aj cp cj ops bs js sz) {g : Nat} (hg0 : ap = some ⟨g, 0, none⟩) {i : Nat} (hi : i < ops.length) (j : Nat) (v : Value) {ops' bs' : List Int} (hl : ops'.length = ops.length) (hl2 : bs'.length = bs.length)
  (hc : ∀ cur : Array Value, (∀ k, k < ops.length → cur[k * 3]? = some (.int .i64 (ops.getD k 0)) ∧ cur[k * 3 + 1]? = some (.int .i64 (Z.sz (ops.getD k 0))) ∧ cur[k * 3 + 2]? = some (.int .i64 (bs.getD k 0))) → ∀ k, k < ops.length → (cur.setIfInBounds j v)[k * 3]? = some (.int .i64 (ops'.getD k 0)) ∧ (cur.setIfInBounds j v)[k * 3 + 1]? = some (.int .i64 (Z.sz (ops'.getD k 0))) ∧ (cur.setIfInBounds j v)[k * 3 + 2]? = some (.int .i64 (bs'.getD k 0))) :
  LV w (W.setCell ⟨g, j, none⟩ v) yb bm ai li ci ts ap aj cp cj ops' bs' js sz := by
 have hg := gb_set W ⟨g, j, none⟩ v
 rcases h.pr.ex with e | ⟨g', cur, e, hb, hh, hcc⟩
 ·subst e; simp at hi
 ·rw [e] at hg0
  cases hg0
  refine ⟨h.low.setCell hb _, h.hy, ?_, h.hm, h.nm.kept hg ?_, ⟨by rw [hl, hl2]; exact h.pr.len, by rw [hl]; exact h.pr.room, .inr ⟨g, _, e, hb, heap_setCell_same W g j cur _ v hh, fun k hk => hc cur hcc k (by rw [← hl]; exact hk)⟩⟩, h.jr.kept hg (.inr fun e => ?_)⟩
  ·rw [hl]
   refine (hg.block yb (blk_lt h.y) (fun e2 => ?_)).trans h.y
   cases e2
   have := h.y
   rw [hh] at this
   injection this with this
   injection this with _ e3
   exact absurd e3 (by decide)
  ·rintro e2; cases e2
   obtain ⟨es, cl, e3⟩ := h.nm.map
   rw [hh] at e3; cases e3
  ·obtain ⟨-, cur', e2⟩ := own_cells h.jr g _ e hh
   injection e2 with _ e2
   exact absurd e2 (by decide)
theorem set_cells {cur : Array Value} {i n : Nat} {f0 f1 f2 : Nat → Int} (h : ∀ k, k < n → cur[k * 3]? = some (.int .i64 (f0 k)) ∧ cur[k * 3 + 1]? = some (.int .i64 (f1 k)) ∧ cur[k * 3 + 2]? = some (.int .i64 (f2 k))) (hi : i < n) (d : Nat) (hd : d < 3) (v : Int) :
  ∀ k, k < n → (cur.setIfInBounds (i * 3 + d) (.int .i64 v))[k * 3]? = some (.int .i64 (if k = i ∧ d = 0 then v else f0 k)) ∧ (cur.setIfInBounds (i * 3 + d) (.int .i64 v))[k * 3 + 1]? = some (.int .i64 (if k = i ∧ d = 1 then v else f1 k)) ∧ (cur.setIfInBounds (i * 3 + d) (.int .i64 v))[k * 3 + 2]? = some (.int .i64 (if k = i ∧ d = 2 then v else f2 k)) := by
 intro k hk
 obtain ⟨x0, x1, x2⟩ := h k hk
 obtain ⟨y0, y1, y2⟩ := h i hi
 have hz : i * 3 + d < cur.size := by
  have z0 := (Array.getElem?_eq_some_iff.1 y0).1
  have z1 := (Array.getElem?_eq_some_iff.1 y1).1
  have z2 := (Array.getElem?_eq_some_iff.1 y2).1
  omega
 refine ⟨?_, ?_, ?_⟩
 ·by_cases e : k = i ∧ d = 0
  ·obtain ⟨rfl, rfl⟩ := e
   rw [if_pos ⟨rfl, rfl⟩, Nat.add_zero, Array.getElem?_setIfInBounds_self_of_lt (by simpa using hz)]
  ·rw [if_neg e, Array.getElem?_setIfInBounds_ne (by omega)]; exact x0
 ·by_cases e : k = i ∧ d = 1
  ·obtain ⟨rfl, rfl⟩ := e
   rw [if_pos ⟨rfl, rfl⟩, Array.getElem?_setIfInBounds_self_of_lt hz]
  ·rw [if_neg e, Array.getElem?_setIfInBounds_ne (by omega)]; exact x1
 ·by_cases e : k = i ∧ d = 2
  ·obtain ⟨rfl, rfl⟩ := e
   rw [if_pos ⟨rfl, rfl⟩, Array.getElem?_setIfInBounds_self_of_lt hz]
  ·rw [if_neg e, Array.getElem?_setIfInBounds_ne (by omega)]; exact x2
theorem getD_set_int (l : List Int) (i : Nat) (v : Int) (k : Nat) (hi : i < l.length) : (l.set i v).getD k 0 = if k = i then v else l.getD k 0 := by
 by_cases e : k = i
 ·subst e; simp [List.getD, hi]
 ·rw [if_neg e]; simp only [List.getD]; rw [List.getElem?_set_ne (fun h => e h.symm)]
theorem LV.setAt (h : LV w W yb bm ai li ci ts ap aj cp cj ops bs js sz) {g : Nat} (hg0 : ap = some ⟨g, 0, none⟩) {i : Nat} (hi : i < ops.length) (v : Int) : LV w (W.setCell ⟨g, i * 3 + 2, none⟩ (.int .i64 v)) yb bm ai li ci ts ap aj cp cj ops (bs.set i v) js sz := by
 refine h.setPc hg0 hi _ _ rfl (by simp) (fun cur hc k hk => ?_)
 obtain ⟨x0, x1, x2⟩ := set_cells (f0 := fun k => ops.getD k 0) (f1 := fun k => Z.sz (ops.getD k 0)) (f2 := fun k => bs.getD k 0) hc hi 2 (by omega) v k hk
 refine ⟨?_, ?_, ?_⟩
 ·rw [x0, if_neg (by omega)]
 ·rw [x1, if_neg (by omega)]
 ·rw [x2, getD_set_int _ _ _ _ (by rw [h.pr.len]; exact hi)]
  by_cases e : k = i <;> simp [e]
theorem LV.setOp (h : LV w W yb bm ai li ci ts ap aj cp cj ops bs js sz) {g : Nat} (hg0 : ap = some ⟨g, 0, none⟩) {i : Nat} (hi : i < ops.length) (v : Int) : LV w ((W.setCell ⟨g, i * 3, none⟩ (.int .i64 v)).setCell ⟨g, i * 3 + 1, none⟩ (.int .i64 (Z.sz v))) yb bm ai li ci ts ap aj cp cj (ops.set i v) bs js sz ∧ LV w ((W.setCell ⟨g, i * 3 + 1, none⟩ (.int .i64 (Z.sz v))).setCell ⟨g, i * 3, none⟩ (.int .i64 v)) yb bm ai li ci ts ap aj cp cj (ops.set i v) bs js sz := by
 have hg := gb_set W ⟨g, i * 3, none⟩ (.int .i64 v)
 rcases h.pr.ex with e | ⟨g', cur, e, hb, hh, hcc⟩
 ·subst e; simp at hi
 rw [e] at hg0
 cases hg0
 have side : ∀ {X : World}, W.grownBy X (some g) → Below w.heap.size w X → ∀ cur2, X.heap[g]? = some (.cells cur2 111 (0, 0)) → (∀ k, k < ops.length → cur2[k * 3]? = some (.int .i64 ((ops.set i v).getD k 0)) ∧ cur2[k * 3 + 1]? = some (.int .i64 (Z.sz ((ops.set i v).getD k 0))) ∧ cur2[k * 3 + 2]? = some (.int .i64 (bs.getD k 0))) → LV w X yb bm ai li ci ts ap aj cp cj (ops.set i v) bs js sz := fun {X} hX hL cur2 hh2 hc2 => by
  refine ⟨hL, h.hy, ?_, h.hm, h.nm.kept hX ?_, ⟨by simpa using h.pr.len, by simpa using h.pr.room, .inr ⟨g, cur2, e, hb, hh2, fun k hk => hc2 k (by simpa using hk)⟩⟩, h.jr.kept hX (.inr fun e => ?_)⟩
  ·rw [List.length_set]
   refine (hX.block yb (blk_lt h.y) (fun e2 => ?_)).trans h.y
   cases e2
   have := h.y
   rw [hh] at this
   injection this with this
   injection this with _ e3
   exact absurd e3 (by decide)
  ·rintro e2; cases e2
   obtain ⟨es, cl, e3⟩ := h.nm.map
   rw [hh] at e3; cases e3
  ·obtain ⟨-, cur', e2⟩ := own_cells h.jr g _ e hh
   injection e2 with _ e2
   exact absurd e2 (by decide)
 have fin : ∀ {cur2 : Array Value}, (∀ k, k < ops.length → cur2[k * 3]? = some (.int .i64 (if k = i then v else ops.getD k 0)) ∧ cur2[k * 3 + 1]? = some (.int .i64 (if k = i then Z.sz v else Z.sz (ops.getD k 0))) ∧ cur2[k * 3 + 2]? = some (.int .i64 (bs.getD k 0))) → ∀ k, k < ops.length → cur2[k * 3]? = some (.int .i64 ((ops.set i v).getD k 0)) ∧ cur2[k * 3 + 1]? = some (.int .i64 (Z.sz ((ops.set i v).getD k 0))) ∧ cur2[k * 3 + 2]? = some (.int .i64 (bs.getD k 0)) := fun {cur2} hc k hk => by
  obtain ⟨x0, x1, x2⟩ := hc k hk
  rw [getD_set_int _ _ _ _ hi]
  refine ⟨x0, ?_, x2⟩
  rw [x1]
  by_cases e : k = i <;> simp [e]
 constructor
 ·refine side (gbt (gb_set W ⟨g, i * 3, none⟩ _) (gb_set _ ⟨g, i * 3 + 1, none⟩ _)) ((h.low.setCell hb _).setCell hb _) _ (heap_setCell_same _ g _ _ _ _ (heap_setCell_same W g _ cur _ _ hh)) (fin fun k hk => ?_)
  have a1 := set_cells (f0 := fun k => ops.getD k 0) (f1 := fun k => Z.sz (ops.getD k 0)) (f2 := fun k => bs.getD k 0) hcc hi 0 (by omega) v
  rw [Nat.add_zero] at a1
  obtain ⟨x0, x1, x2⟩ := set_cells (f0 := fun k => if k = i ∧ (0 : Nat) = 0 then v else ops.getD k 0) (f1 := fun k => if k = i ∧ (0 : Nat) = 1 then v else Z.sz (ops.getD k 0)) (f2 := fun k => if k = i ∧ (0 : Nat) = 2 then v else bs.getD k 0) a1 hi 1 (by omega) (Z.sz v) k hk
  refine ⟨?_, ?_, ?_⟩
  ·rw [x0]; simp
  ·rw [x1]; by_cases e : k = i <;> simp [e]
  ·rw [x2]; simp
 ·refine side (gbt (gb_set W ⟨g, i * 3 + 1, none⟩ _) (gb_set _ ⟨g, i * 3, none⟩ _)) ((h.low.setCell hb _).setCell hb _) _ (heap_setCell_same _ g _ _ _ _ (heap_setCell_same W g _ cur _ _ hh)) (fin fun k hk => ?_)
  have a1 := set_cells (f0 := fun k => ops.getD k 0) (f1 := fun k => Z.sz (ops.getD k 0)) (f2 := fun k => bs.getD k 0) hcc hi 1 (by omega) (Z.sz v)
  have a2 := set_cells (f0 := fun k => if k = i ∧ (1 : Nat) = 0 then Z.sz v else ops.getD k 0) (f1 := fun k => if k = i ∧ (1 : Nat) = 1 then Z.sz v else Z.sz (ops.getD k 0)) (f2 := fun k => if k = i ∧ (1 : Nat) = 2 then Z.sz v else bs.getD k 0) a1 hi 0 (by omega) v k hk
  simp only [Nat.add_zero] at a2
  obtain ⟨x0, x1, x2⟩ := a2
  refine ⟨?_, ?_, ?_⟩
  ·rw [x0]; by_cases e : k = i <;> simp [e]
  ·rw [x1]; by_cases e : k = i <;> simp [e]
  ·rw [x2]; simp
theorem LV.jumpAt (h : LV w W yb bm ai li ci ts ap aj cp cj ops bs js sz) {i : Nat} (hi : i < js.length) : ∃ g, aj = some ⟨g, 0, none⟩ ∧ W.cell? ⟨g, i * 2, none⟩ = some (.int .i64 (js.getD i (0, 0)).1) ∧ W.cell? ⟨g, i * 2 + 1, none⟩ = some (.int .i64 (js.getD i (0, 0)).2) ∧ g < W.heap.size ∧ js.length ≤ cj ∧ cj ≤ maxLen := by
 rcases h.jr.2 with ⟨e1, e2⟩ | ⟨g, cap, cur, e1, hb, hh, h1, h2, -⟩
 ·omega
 ·have hj := h.jr
  injection e1 with e1 e2 e3
  rw [e1, e3] at hj
  have hc : ∀ j u, j < 2 → (jpC (js.getD i (0, 0)))[j]? = some u → W.cell? ⟨g, i * 2 + j, none⟩ = some u := fun j u hj' hu => by
   rw [hj.cellAt (i * 2 + j) (show i * 2 + j < js.length * 2 by omega), flat_at jpC 2 (0, 0) (fun _ => rfl) js i j hi hj']
   exact hu
  exact ⟨g, e1, by simpa using hc 0 _ (by omega) rfl, by simpa using hc 1 _ (by omega) rfl, blk_lt hh, by rw [e3]; exact h1, by rw [e3]; exact h2⟩
end

end Go.Proofs.YtgjingleolhkbaaGreatDoor

/- How far it is, and whether a jump is too far. -/
namespace Go.Proofs.YtgjingleolhkbaaGreatDoor
open Go.RowKit Go.Maps
set_option linter.unusedVariables false
set_option linter.unusedSimpArgs false

theorem behind_any (p q r : Int) (hq : 0 ≤ q ∧ q ≤ 10) (hr : 0 ≤ r ∧ r ≤ 1000000) (w : World) : Calls Tryz.prog 95 #[.agg #[.int .i64 p, .int .i64 q, .int .i64 r]] w fun e w' => e = .returned (.int .i64 (r + q)) ∧ w' = w.alloc (.cells #[.int .i64 p, .int .i64 q, .int .i64 r] 111) := by
 obtain ⟨q0, q1⟩ := hq
 obtain ⟨r0, r1⟩ := hr
 go_enter Tryz.func95, Tryz.ntmps95
 go_wp2
 go_ret
 exact ⟨rfl, rfl⟩

theorem bl_drewN {B : Nat} {x y : World} (h : Below B x y) (m : Nat) : Below B x (y.drewN m) := ⟨h.os, h.tape, h.output, h.size, h.block⟩
def Near (bs : List Int) : Prop := ∀ i, 0 ≤ bs.getD i 0 ∧ bs.getD i 0 ≤ 1000000
section
variable {w W : World} {yb bm : Nat} {ai : Option Addr} {li ci : Nat} {ts : List X.It} {ap aj : Option Addr} {cp cj : Nat} {ops bs : List Int} {js : List (Nat × Nat)} {sz : Int}
set_option maxRecDepth 100000 in
set_option maxHeartbeats 8000000 in
theorem distance_any (h : LV w W yb bm ai li ci ts ap aj cp cj ops bs js sz) (hn : Near bs) (i k : Nat) (hi : i < ops.length) (hk : k < ops.length) :
  Calls Tryz.prog 75 #[.pointer (some ⟨yb, 0, none⟩), .int .i64 i, .int .i64 k] W fun e w' => e = .returned (.int .i64 (Z.far ops bs i k)) ∧ Below W.heap.size W w' := by
 obtain ⟨g, rfl, -, hgl, -, hc, -, -⟩ := h.piece hi
 obtain ⟨i0, i1, i2⟩ := hc i hi
 obtain ⟨-, -, k2⟩ := hc k hk
 obtain ⟨-, -, y2, -⟩ := h.cells
 have hyl := blk_lt h.y
 have HF : Hid (Z.far ops bs i k = bs.getD k 0 - (bs.getD i 0 + Z.sz (ops.getD i 0))) := rfl
 obtain ⟨n0, n1⟩ := hn i
 obtain ⟨m0, m1⟩ := hn k
 obtain ⟨s0, s1⟩ := sz_range (ops.getD i 0)
 have hrm := h.pr.room
 have hi' : (i : Int) < ops.length := by omega
 have hk' : (k : Int) < ops.length := by omega
 have hi0 : 0 ≤ (i : Int) := by omega
 have hk0 : 0 ≤ (k : Int) := by omega
 clear h hc hn
 generalize ops.getD i 0 = o at *
 generalize Z.sz o = so at *
 generalize bs.getD i 0 = bi at *
 generalize bs.getD k 0 = bk at *
 have hbh := behind_any o so bi ⟨s0, s1⟩ ⟨n0, n1⟩
 go_enter Tryz.func75, Tryz.ntmps75
 go_wp2_with fail
 go_region_held3 (fun w' : World => w'.cell? ⟨yb, 2, none⟩ = some (.slice (some ⟨g, 0, none⟩) ops.length cp) ∧ w'.cell? ⟨g, i * 3, none⟩ = some (.int .i64 o) ∧ w'.cell? ⟨g, i * 3 + 1, none⟩ = some (.int .i64 so) ∧ w'.cell? ⟨g, i * 3 + 2, none⟩ = some (.int .i64 bi) ∧ w'.cell? ⟨g, k * 3 + 2, none⟩ = some (.int .i64 bk)) (go_keep) ((go_at_call 95; refine (hbh _).mono ?_; rintro e w' ⟨rfl, rfl⟩))
 go_wp2_with fail
 go_ret
 have hw : IntKind.i64.wrap (bk - (bi + so)) = bk - (bi + so) := by rw [IntKind.wrap_i64]; omega
 rw [HF.out, hw]
 exact ⟨rfl, (Below.refl _ _).drew.alloc (by simp) _⟩

set_option maxRecDepth 100000 in
set_option maxHeartbeats 8000000 in
theorem isTooFar_any (h : LV w W yb bm ai li ci ts ap aj cp cj ops bs js sz) (hv : ItsV w ai li ci ts) (hlen : ops.length = ts.length) (hn : Near bs) (j : Nat × Nat) (hi : j.1 < ops.length) (hk : j.2 < ops.length) :
  Calls Tryz.prog 73 #[.pointer (some ⟨yb, 0, none⟩), .agg #[.int .i64 j.1, .int .i64 j.2]] W fun e w' => e = .returned (.bool (Z.tooFar ts ops bs j)) ∧ Below W.heap.size W w' := by
 obtain ⟨i, k⟩ := j
 have hil : i < li := by rw [← hv.count, ← hlen]; exact hi
 obtain ⟨b, off, t, aw, lw, cw, rfl, hgt, -, -, -, c2, -, -, -, -, -⟩ := (hv.below h.low).at hil
 have HF : Hid (Z.tooFar ts ops bs (i, k) = (decide (ops.getD i 0 ≠ t.op) && (decide (Z.far ops bs i k < -128) || decide (127 < Z.far ops bs i k)))) := by
  show _ = _
  unfold Z.tooFar
  simp only
  rw [hgt]
 have hdist := fun W' (hb : Below W.heap.size W W') => distance_any (h.below hb) hn i k hi hk
 obtain ⟨g, rfl, -, hgl, -, hc, -, -⟩ := h.piece hi
 obtain ⟨i0, -, -⟩ := hc i hi
 obtain ⟨-, y1, y2, -⟩ := h.cells
 have hrm := h.pr.room
 have hrm2 := hv.room
 have hi' : (i : Int) < ops.length := by simp only at hi; omega
 have hil' : (i : Int) < li := by omega
 have hi0 : 0 ≤ (i : Int) := by omega
 have q0 := fun o => cell_thru (bl1 W o) y1
 have q1 := fun o => cell_thru (bl1 W o) y2
 have q2 := fun o => cell_thru (bl1 W o) i0
 have q3 := fun o => cell_thru (bl1 W o) c2
 clear h hc hn hgt hlen hv
 generalize ops.getD i 0 = o at *
 generalize Z.far ops bs i k = d at *
 by_cases heq : o = t.op
 ·have heq' : (o == t.op) = true := by simpa using heq
  have HR : Hid (Z.tooFar ts ops bs (i, k) = false) := by show _ = _; rw [HF.out]; simp [heq]
  clear heq
  go_enter Tryz.func73, Tryz.ntmps73
  go_wp2_with fail
  go_quiet (fail)
  go_wp2_with fail
  go_ret
  exact ⟨by rw [HR.out]; rfl, bl_drewN (bl1 _ _) _⟩
 ·have heq' : (o == t.op) = false := by simpa using heq
  have HR : Hid (Z.tooFar ts ops bs (i, k) = (decide (d < -128) || decide (127 < d))) := by show _ = _; rw [HF.out]; simp [heq]
  clear heq
  rcases (show d < -128 ∨ (¬ d < -128 ∧ 127 < d) ∨ (¬ d < -128 ∧ ¬ 127 < d) by omega) with h1 | ⟨h1, h2⟩ | ⟨h1, h2⟩
  all_goals
   go_enter Tryz.func73, Tryz.ntmps73
   go_wp2_with fail
   go_quiet (fail)
   go_wp2_with fail
   refine (hdist _ (bl_drewN (bl1 _ _) _)).mono ?_
   rintro e w' ⟨rfl, hb⟩
   have HB : Hid _ := (bl_drewN (bl1 W _) _).trans (hb.mono (bl_drewN (bl1 W _) _).size)
   clear hb hdist
   go_wp2_with fail
   go_ret
   exact ⟨by rw [HR.out]; simp [h1, *], HB.out⟩
end

end Go.Proofs.YtgjingleolhkbaaGreatDoor

/- Where pieces begin. (Written by gen_place.py.) -/
namespace Go.Proofs.YtgjingleolhkbaaGreatDoor
open Go.RowKit Go.Maps
set_option linter.unusedVariables false
set_option linter.unusedSimpArgs false

theorem LV.drew {w W : World} {yb bm : Nat} {ai : Option Addr} {li ci : Nat} {ts : List X.It} {ap aj : Option Addr} {cp cj : Nat} {ops bs : List Int} {js : List (Nat × Nat)} {sz : Int} (h : LV w W yb bm ai li ci ts ap aj cp cj ops bs js sz) : LV w W.drew yb bm ai li ci ts ap aj cp cj ops bs js sz := h.below (Below.refl _ _).drew
theorem beg_range (ops : List Int) (k : Nat) : 0 ≤ Z.beg ops k ∧ Z.beg ops k ≤ 10 * k := by
 induction k with
 | zero => simp [Z.beg_zero]
 | succ k ih =>
  by_cases h : k < ops.length
  ·rw [Z.beg_succ ops h]
   have := sz_range (ops.getD k 0)
   omega
  ·have e : Z.beg ops (k + 1) = Z.beg ops k := by unfold Z.beg; rw [List.take_of_length_le (by omega), List.take_of_length_le (by omega)]
   rw [e]
   omega
theorem near_ats {ops : List Int} (h : ops.length ≤ 20000) : Near (Z.ats ops) := fun i => by
 by_cases hi : i < ops.length
 ·rw [Z.ats_at ops hi]
  have := beg_range ops i
  omega
 ·have e : (Z.ats ops).getD i 0 = 0 := by simp [List.getD, Z.ats_len, hi]
  rw [e]
  omega
theorem ats_ext {ops bs : List Int} (hl : bs.length = ops.length) (h : ∀ i, i < ops.length → bs.getD i 0 = Z.beg ops i) : bs = Z.ats ops := by
 refine List.ext_getElem? fun i => ?_
 by_cases hi : i < ops.length
 ·have := h i hi
  rw [← Z.ats_at ops hi] at this
  simp only [List.getD, List.getElem?_eq_getElem (show i < bs.length by omega), List.getElem?_eq_getElem (show i < (Z.ats ops).length by rw [Z.ats_len]; exact hi), Option.getD_some] at this
  rw [List.getElem?_eq_getElem (by omega), List.getElem?_eq_getElem (by rw [Z.ats_len]; exact hi), this]
 ·rw [List.getElem?_eq_none (by omega), List.getElem?_eq_none (by rw [Z.ats_len]; omega)]
section
variable {w W : World} {yb bm : Nat} {ai : Option Addr} {li ci : Nat} {ts : List X.It} {ap aj : Option Addr} {cp cj : Nat} {ops bs : List Int} {js : List (Nat × Nat)} {sz : Int}
set_option maxRecDepth 100000 in
set_option maxHeartbeats 8000000 in
theorem place_any (h : LV w W yb bm ai li ci ts ap aj cp cj ops bs js sz) (hl : ops.length ≤ 20000) :
  Calls Tryz.prog 72 #[.pointer (some ⟨yb, 0, none⟩)] W fun e w' => e = .returned (.tuple #[]) ∧ LV w w' yb bm ai li ci ts ap aj cp cj ops (Z.ats ops) js (Z.tot ops) := by
 obtain ⟨-, -, y2, -, y4, f4⟩ := h.cells
 have HV0 : Hid _ := h.setSz 0
 have hrm := h.pr.room
 have HLN : Hid (bs.length = ops.length) := h.pr.len
 have hyl := blk_lt h.y
 clear h
 have d2 : (W.setCell ⟨yb, 4, none⟩ (.int .i64 0)).cell? ⟨yb, 2, none⟩ = some (.slice ap ops.length cp) := (World.cell?_setCell_other _ _ _ _ (by simp)).trans y2
 go_enter Tryz.func72, Tryz.ntmps72
 go_wp2_with fail
 go_loopg [11] ops.length (fun r iv wq => ∃ (k : Nat), iv = .int .i64 k ∧ k ≤ ops.length ∧ ops.length - k ≤ r ∧ Hid (∃ cs : List Int, LV w wq yb bm ai li ci ts ap aj cp cj ops cs js (Z.beg ops k) ∧ (∀ i, i < k → cs.getD i 0 = Z.beg ops i)))
 case atStart => exact ⟨0, rfl, Nat.zero_le _, by omega, ⟨bs, by rw [Z.beg_zero]; exact HV0.out, fun i hi => by omega⟩⟩
 case round =>
  obtain ⟨k, rfl, hk, hr, HX⟩ := hrel
  obtain ⟨cs, hLV, hcs⟩ := HX.out
  have HLV : Hid _ := hLV
  have HCS : Hid _ := hcs
  clear HX hcs
  by_cases hlt : k < ops.length
  ·have hii : (k : Int) < ops.length := by omega
   have hin : 0 ≤ (k : Int) := by omega
   obtain ⟨g, rfl, hgw, hgl, hgy, hc, hfz, -⟩ := hLV.piece hlt
   obtain ⟨k0, k1, k2⟩ := hc k hlt
   obtain ⟨-, -, x2, -, x4, g4⟩ := hLV.cells
   obtain ⟨b0, b1⟩ := beg_range ops k
   obtain ⟨s0, s1⟩ := sz_range (ops.getD k 0)
   have HBS : Hid (Z.beg ops (k + 1) = Z.beg ops k + Z.sz (ops.getD k 0)) := Z.beg_succ ops hlt
   have hfk := hfz (k * 3 + 2)
   have HV1 : Hid _ := (hLV.setAt rfl hlt (Z.beg ops k)).drew
   have HN1 : Hid (∀ i, i < k + 1 → (cs.set k (Z.beg ops k)).getD i 0 = Z.beg ops i) := fun i hi => by
    rw [getD_set_int _ _ _ _ (by rw [hLV.pr.len]; exact hlt)]
    by_cases e : i = k
    ·rw [if_pos e, e]
    ·rw [if_neg e]; exact HCS.out i (by omega)
   obtain ⟨bk, hbk⟩ : ∃ bk, Z.beg ops k = bk := ⟨_, rfl⟩
   obtain ⟨so, hso⟩ : ∃ so, Z.sz (ops.getD k 0) = so := ⟨_, rfl⟩
   rw [hbk] at HV1 HN1 x4 HBS b0 b1
   rw [hso] at k1 HBS s0 s1
   clear hc hfz hLV HCS k0 hbk hso
   go_wp2_with fail
   go_region_held3 (fun w' : World => w'.cell? ⟨yb, 2, none⟩ = some (.slice (some ⟨g, 0, none⟩) ops.length cp) ∧ w'.cell? ⟨yb, 4, none⟩ = some (.int .i64 bk)) (go_keep) (fail)
   obtain ⟨Y, hY⟩ : ∃ Y, (wr.setCell ⟨g, k * 3 + 2, none⟩ (.int .i64 bk)).drew = Y := ⟨_, rfl⟩
   rw [hY] at HV1
   have e2 : Y.cell? ⟨yb, 2, none⟩ = some (.slice (some ⟨g, 0, none⟩) ops.length cp) := HV1.out.cells.2.2.1
   have e4 : Y.cell? ⟨yb, 4, none⟩ = some (.int .i64 bk) := HV1.out.cells.2.2.2.2.1
   have e1 : Y.cell? ⟨g, k * 3 + 1, none⟩ = some (.int .i64 so) := by subst hY; rw [World.cell?_drew, World.cell?_setCell_other _ _ _ _ (by simp)]; exact k1
   have q4 : Y.frozen? ⟨yb, 4, none⟩ = false := HV1.out.cells.2.2.2.2.2
   have hwr : IntKind.i64.wrap (bk + so) = bk + so := by rw [IntKind.wrap_i64]; omega
   have HV2 : Hid _ := (LV.drew HV1.out).setSz (bk + so)
   have hwx : Y.drew.cell? ⟨yb, 4, none⟩ = some (.int .i64 bk) := by rw [World.cell?_drew]; exact e4
   have hqx : Y.drew.frozen? ⟨yb, 4, none⟩ = false := q4
   rw [hY]
   clear k1 k2 x2 x4 g4 hfk y2 y4 f4 d2 hY
   go_wp2_with fail
   refine wp_region_held_drew (S := (fun w' : World => w'.cell? ⟨yb, 2, none⟩ = some (.slice (some ⟨g, 0, none⟩) ops.length cp) ∧ w'.cell? ⟨g, k * 3 + 1, none⟩ = some (.int .i64 so))) (by kernel_rfl) ⟨by rw [World.cell?_drew]; exact e2, by rw [World.cell?_drew]; exact e1⟩ (fun hHeld => ?_)
   refine tj 0 ?_
   simp only [Act.put, zA, zB, zC]
   refine tj 1 ?_
   simp only [Act.put, zA, zB, zC]
   refine tj 2 ?_
   simp only [Act.put, zA, zB, zC]
   refine tj 4 ?_
   simp only [Act.put, zA, zB, zC]
   refine tj 5 ?_
   simp only [Act.put, zA, zB, zC]
   refine tj 6 ?_
   simp only [Act.put, zA, zB, zC]
   refine tj 7 ?_
   simp only [Act.put, zA, zB, zC]
   refine tj 8 ?_
   simp only [Act.put, zA, zB, zC]
   refine tj 9 ?_
   simp only [Act.put, zA, zB, zC]
   refine tj 10 ?_
   simp only [Act.put, zA, zB, zC]
   refine tj 11 ?_
   simp only [Act.put, zA, zB, zC]
   refine tr [3] ?_
   refine AllReadyH.cons (tA rfl) (fun K hK => ?_) AllReadyH.nil
   go_simp
   refine hK.out _ _ hHeld (fun hHeld => ?_)
   clear hK K
   try simp only [Act.put, zA, zB, zC]
   refine tj 12 ?_
   simp only [Act.put, zA, zB, zC]
   refine tj 13 ?_
   simp only [Act.put, zA, zB, zC]
   refine tj 14 ?_
   simp only [Act.put, zA, zB, zC]
   refine tr [15] ?_
   refine AllReadyH.cons (tA rfl) (fun K hK => ?_) AllReadyH.nil
   go_simp
   refine hK.out _ _ ⟨(World.cell?_setCell_other _ _ _ _ (by simp)).trans hHeld.1, (World.cell?_setCell_far _ ⟨yb, 4, none⟩ ⟨g, k * 3 + 1, none⟩ _ (Ne.symm hgy)).trans hHeld.2⟩ (fun hHeld => ?_)
   clear hK K
   try simp only [Act.put, zA, zB, zC]
   refine wpAnyH_done (by kernel_rfl) ?_ _
   clear hHeld
   go_wp2_with fail
   go_roundg (ops.length - (k + 1))
   case measure => omega
   case rel => exact ⟨k + 1, by go_num, by omega, Nat.le_refl _, ⟨_, by rw [HBS.out]; exact HV2.out, HN1.out⟩⟩
  ·obtain rfl : k = ops.length := by omega
   have hii : ¬ (ops.length : Int) < ops.length := by omega
   have HE : Hid (cs = Z.ats ops) := ats_ext hLV.pr.len (fun i hi => HCS.out i hi)
   have HR : Hid (LV w wr yb bm ai li ci ts ap aj cp cj ops (Z.ats ops) js (Z.tot ops)) := by rw [← HE.out]; exact HLV.out
   clear hLV
   go_wp2_with fail
   go_end0
   exact ⟨rfl, HR.out⟩
end

end Go.Proofs.YtgjingleolhkbaaGreatDoor

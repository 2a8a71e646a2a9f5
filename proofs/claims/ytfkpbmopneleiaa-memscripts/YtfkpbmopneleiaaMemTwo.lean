/- The memory and the document's, side by side. -/
import Derived.Test.YtfkpbmopneleiaaMemX
import Derived.Test.YtfkpbmopneleiaaMemRefNew
import Derived.Test.YtfkpbmopneleiaaMemRefFoot
import Derived.Test.YtfkpbmopneleiaaMemCopiedL
import Derived.Test.YtfkpbmopneleiaaMemNew
import Derived.Test.YtfkpbmopneleiaaMemSame
namespace Go.Proofs.Ytfkpbmopneleiaa
open Go.RowKit Go.Maps
set_option linter.unusedVariables false

theorem MemX.base {B B' : Nat} {w : World} {bm : Nat} {rs : List Reg} {R W : List Int} {p : Nat → Nat} (h : MemX B w bm rs R W p) (hB : B' ≤ B) : MemX B' w bm rs R W p := by
  obtain ⟨br, bw, lv, bs, h1, h2, h3⟩ := h
  exact ⟨br, bw, lv, bs, { touch := h1.touch, c2 := h1.c2, f2 := h1.f2, lo := ⟨Nat.le_trans hB h1.lo.1, Nat.le_trans hB h1.lo.2.1, Nat.le_trans hB h1.lo.2.2⟩, len := h1.len, row := own_base h1.row hB, words := fun i hi => ⟨(h1.words i hi).1, Nat.le_trans hB (h1.words i hi).2⟩, nodup := h1.nodup, apart := h1.apart, rowApart := h1.rowApart, fits := h1.fits }, h2, fun k hk => ⟨Nat.le_trans hB (h3 k hk).1, (h3 k hk).2⟩⟩
theorem RegRow.base {B B' : Nat} {w : World} {lv : Value} {rs : List Reg} {us : List Value} {t : Nat → Nat} (h : RegRow B w lv rs us t) (hB : B' ≤ B) : RegRow B' w lv rs us t :=
  ⟨h.len, own_base h.row hB, fun i hi => own_base (h.words i hi) hB, h.tl, h.tu, fun k hk => ⟨Nat.le_trans hB (h.lt k hk).1, (h.lt k hk).2⟩, h.fits⟩
theorem RefX.base {B B' : Nat} {w : World} {bx : Nat} {rs : List Reg} {R W : List Int} {t : Nat → Nat} (h : RefX B w bx rs R W t) (hB : B' ≤ B) : RefX B' w bx rs R W t := by
  obtain ⟨lv, v1, v2, us, L1, L2, h⟩ := h
  exact ⟨lv, v1, v2, us, L1, L2, { reg := h.reg.base hB, c0 := h.c0, c1 := h.c1, c2 := h.c2, fz := h.fz, tb := h.tb, o1 := own_base h.o1 hB, o2 := own_base h.o2 hB, t1 := h.t1, t2 := h.t2, i1 := h.i1, i2 := h.i2, f1 := h.f1, f2 := h.f2 }⟩

theorem St.cell {t t' : Nat → Nat} {w w' : World} (h : St t t' w w') {b o : Nat} {v : Value} (hz : t b = 0) (hc : w.cell? ⟨b, o, none⟩ = some v) : w'.cell? ⟨b, o, none⟩ = some v :=
  (World.cell?_of_block (a := ⟨b, o, none⟩) (h.block b (World.block_lt_of_cell? w ⟨b, o, none⟩ hc) hz)).trans hc
theorem St.row {t t' : Nat → Nat} {w w' : World} (h : St t t' w w') {B : Nat} {v : Value} {e : TypeId} {size n : Nat} {xs : List Value} (o : w.ownsRow B e size v n xs) (hz : ∀ g, v.ownBlock = some g → t g = 0) : w'.ownsRow B e size v n xs :=
  row_cong o (fun g hg => h.block g (o.lt g hg).2 (hz g hg))

structure Two (B : Nat) (w : World) (bm bx : Nat) (rs : List Reg) (R W : List Int) (p t : Nat → Nat) : Prop where
  m : MemX B w bm rs R W p
  x : RefX B w bx rs R W t
  d : ∀ k, t k ≠ 0 → p k = 0
  ok : AllOk rs
  len : rs.length ≤ 16

theorem Two.other {B : Nat} {w w' : World} {bm bx : Nat} {rs : List Reg} {R W : List Int} {p t q q' : Nat → Nat} (h : Two B w bm bx rs R W p t) (hs : St q q' w w') (h1 : ∀ k, p k ≠ 0 → q k = 0) (h2 : ∀ k, t k ≠ 0 → q k = 0) : Two B w' bm bx rs R W p t :=
  ⟨h.m.frame hs h1, h.x.frame hs h2, h.d, h.ok, h.len⟩
theorem Two.below {B : Nat} {w w' : World} {bm bx : Nat} {rs : List Reg} {R W : List Int} {p t : Nat → Nat} (h : Two B w bm bx rs R W p t) (hb : Below w.heap.size w w') : Two B w' bm bx rs R W p t :=
  h.other (St.ofBelow (fun _ => 0) hb) (fun _ _ => rfl) (fun _ _ => rfl)
theorem Two.fresh {B : Nat} {w : World} {bm bx : Nat} {rs : List Reg} {R W : List Int} {p t : Nat → Nat} (h : Two B w bm bx rs R W p t) {k : Nat} (hk : w.heap.size ≤ k) : p k = 0 ∧ t k = 0 := by
  constructor
  · cases Nat.eq_zero_or_pos (p k) with
    | inl h0 => exact h0
    | inr h0 => have := (h.m.lt k (by omega)).2; omega
  · cases Nat.eq_zero_or_pos (t k) with
    | inl h0 => exact h0
    | inr h0 => have := (h.x.lt k (by omega)).2; omega
/-- The document's memory is as it was when the memory's call is done. -/
theorem Two.one {B : Nat} {w y1 : World} {bm bx : Nat} {rs : List Reg} {R W : List Int} {p t p1 : Nat → Nat} (h : Two B w bm bx rs R W p t) (s1 : St p p1 w y1) (hB : B ≤ w.heap.size) : RefX B y1 bx rs R W t ∧ B ≤ y1.heap.size ∧ Below B w y1 :=
  ⟨h.x.frame s1 h.d, Nat.le_trans hB s1.size, s1.toBelow (fun k hk => (h.m.lt k hk).1) hB⟩
theorem Two.step {B : Nat} {w y1 y2 : World} {bm bx : Nat} {rs rs1 : List Reg} {R W R1 W1 : List Int} {p t p1 t2 : Nat → Nat} (h : Two B w bm bx rs R W p t) (m1 : MemX B y1 bm rs1 R1 W1 p1) (s1 : St p p1 w y1) (x2 : RefX B y2 bx rs1 R1 W1 t2) (s2 : St t t2 y1 y2) (ho : AllOk rs1) (hl : rs1.length ≤ 16) (hB : B ≤ w.heap.size) :
    Two B y2 bm bx rs1 R1 W1 p1 t2 ∧ Below B w y2 ∧ B ≤ y2.heap.size := by
  obtain ⟨h1, h2, h3⟩ := h.one s1 hB
  have hd : ∀ k, t k ≠ 0 → p1 k = 0 := fun k hk => (s1.tag k (h.x.lt k hk).2).trans (h.d k hk)
  refine ⟨⟨m1.frame s2 (fun k hk => ?_), x2, fun k hk => ?_, ho, hl⟩, h3.trans (s2.toBelow (fun k hk => (h1.lt k hk).1) h2), Nat.le_trans h2 s2.size⟩
  · cases Nat.eq_zero_or_pos (t k) with
    | inl h0 => exact h0
    | inr h0 => exact absurd (hd k (by omega)) hk
  · cases Nat.eq_zero_or_pos (p1 k) with
    | inl h0 => exact h0
    | inr h0 =>
      have hk1 := (m1.lt k (by omega)).2
      have := s2.tag k hk1
      have := hd k (by omega)
      omega

/-- A number of a row is another one. -/
theorem row_put {B : Nat} {w : World} {a : Option Addr} {n c : Nat} {zs : List Int} (o : w.ownsRow B 2 1 (.slice a n c) n (intsR zs)) (k : Nat) (hk : k < n) (m : Int) :
    ∃ g, a = some ⟨g, 0, none⟩ ∧ w.cell? ⟨g, k, none⟩ = some (.int .i64 (zs.getD k 0)) ∧ w.frozen? ⟨g, k, none⟩ = false ∧ (w.setCell ⟨g, k, none⟩ (.int .i64 m)).ownsRow B 2 1 (.slice a n c) n (intsR (zs.set k m)) := by
  have hl : zs.length = n := by simpa using o.1
  rcases o.2 with ⟨-, h0⟩ | ⟨g, cap, cur, hv, hb, hg, r1, r2, r3, r4⟩
  · omega
  cases hv
  have hc := o.cellAt k (by omega)
  have hm := map_at (zs := zs) (j := k) (by omega)
  rw [List.getElem?_toArray] at hm
  refine ⟨g, rfl, hc.trans hm, heap_froz hg k, by simp [hl], .inr ⟨g, _, cur.setIfInBounds k (.int .i64 m), rfl, hb, heap_set hg k _, r1, r2, by simpa using r3, ?_⟩⟩
  rw [Array.toList_setIfInBounds, List.take_set, r4]
  simp [intsR, List.map_set]

/-- What Words answers. -/
def WdA (rs : List Reg) (z : Int) (zs : List Int) : Prop := (∃ i : Nat, z = i ∧ i < rs.length ∧ zs = (rs.getD i noReg).words) ∨ ((z < 0 ∨ (rs.length : Int) ≤ z) ∧ zs = [])
theorem WdA.uniq {rs : List Reg} {z : Int} {xs ys : List Int} (h : WdA rs z xs) (k : WdA rs z ys) : xs = ys := by
  rcases h with ⟨i, rfl, hi, rfl⟩ | ⟨hz, rfl⟩ <;> rcases k with ⟨j, hj, hj', rfl⟩ | ⟨kz, rfl⟩
  · obtain rfl : i = j := by omega
    rfl
  · omega
  · omega
  · rfl
theorem mwords_any {B : Nat} {w : World} {bm : Nat} {rs : List Reg} {R W : List Int} {p : Nat → Nat} (h : MemX B w bm rs R W p) (ho : AllOk rs) (hw : ∀ i, i < rs.length → (rs.getD i noReg).words.length ≤ 65536) (z : Int) :
    Calls Try.prog 17 #[.pointer (some ⟨bm, 0, none⟩), .int .i64 z] w fun e w' => ∃ a zs c, e = .returned (.slice a zs.length c) ∧ WdA rs z zs ∧ zs.length ≤ 65536 ∧ (∀ n ∈ zs, (Lit.int .i64 n).wf = true) ∧ w'.ownsRow w.heap.size 2 1 (.slice a zs.length c) zs.length (intsR zs) ∧ Below w.heap.size w w' := by
  by_cases hz : z < 0 ∨ (rs.length : Int) ≤ z
  · refine (mwords_no h z hz).mono ?_
    rintro e w' ⟨rfl, rfl⟩
    exact ⟨none, [], 0, rfl, .inr ⟨hz, rfl⟩, by simp, by simp, World.ownsRow_nil _ _ _ _, Below.refl _ _⟩
  · obtain ⟨i, rfl⟩ : ∃ i : Nat, z = i := ⟨z.toNat, by omega⟩
    have hi : i < rs.length := by omega
    refine (mwords_yes h i hi (hw i hi)).mono ?_
    rintro e w' ⟨rfl, hg, hf, hb⟩
    refine ⟨_, _, _, rfl, .inl ⟨i, rfl, hi, rfl⟩, hw i hi, hf, ⟨by simp, .inr ⟨w.heap.size, _, _, rfl, Nat.le_refl _, hg, Nat.le_refl _, ?_, by simp, ?_⟩⟩, hb⟩
    · have := hw i hi; unfold maxLen; omega
    · exact List.take_of_length_le (by simp)
theorem rwords_any {B : Nat} {w : World} {bx : Nat} {rs : List Reg} {R W : List Int} {t : Nat → Nat} (h : RefX B w bx rs R W t) (hw : ∀ i, i < rs.length → (rs.getD i noReg).words.length ≤ 65536) (z : Int) :
    Calls Try.prog 19 #[.pointer (some ⟨bx, 0, none⟩), .int .i64 z] w fun e w' => ∃ a zs c, e = .returned (.slice a zs.length c) ∧ WdA rs z zs ∧ View w' a zs.length c zs ∧ Below w.heap.size w w' := by
  by_cases hz : z < 0 ∨ (rs.length : Int) ≤ z
  · refine (rwords_no h z hz).mono ?_
    rintro e w' ⟨rfl, rfl⟩
    exact ⟨none, [], 0, rfl, .inr ⟨hz, rfl⟩, view_nil _, Below.refl _ _⟩
  · obtain ⟨i, rfl⟩ : ∃ i : Nat, z = i := ⟨z.toNat, by omega⟩
    have hi : i < rs.length := by omega
    refine (rwords_yes h i hi (hw i hi)).mono ?_
    rintro e w' ⟨a, c, rfl, hv, hb⟩
    exact ⟨a, _, c, rfl, .inl ⟨i, rfl, hi, rfl⟩, hv, hb⟩
theorem foot_own {w : World} {B1 B2 : Nat} {v1 v2 : Value} {L L' : List Int} (f1 : ∀ n ∈ L, (Lit.int .i64 n).wf = true) (f2 : ∀ n ∈ L', (Lit.int .i64 n).wf = true) (o1 : w.ownsRow B1 2 1 v1 L.length (intsR L)) (o2 : w.ownsRow B2 2 1 v2 L'.length (intsR L')) : FootV w (.agg #[v1, v2]) L L' := by
  obtain ⟨_, _, rfl, V1⟩ := view_own f1 o1
  obtain ⟨_, _, rfl, V2⟩ := view_own f2 o2
  exact ⟨⟨_, _, _, _, _, _, rfl, V1, V2⟩⟩
/-- A block with numbers is no memory's map. -/
theorem row_cells {w : World} {B : Nat} {v : Value} {e : TypeId} {size n : Nat} {xs : List Value} (o : w.ownsRow B e size v n xs) {g : Nat} (hg : v.ownBlock = some g) : w.heap[g]? ≠ none ∧ ∀ es cl, w.heap[g]? ≠ some (.map es cl) := by
  rcases o.2 with ⟨rfl, -⟩ | ⟨g', cap, cur, rfl, -, h, -⟩
  · simp [Value.ownBlock] at hg
  · have : g' = g := by simpa [Value.ownBlock] using hg
    subst this
    rw [h]
    simp

/-- Calls of a memory that lie one behind the other. -/
structure OpsV (w : World) (a : Option Addr) (len : Nat) (os : List (Int × Int × Int)) : Prop where
  count : os.length = len
  cells : len = 0 ∨ ∃ b off, a = some ⟨b, off, none⟩ ∧ ∀ i, i < len → ∃ d x n, w.cell? ⟨b, off + i * 3, none⟩ = some (.int .i64 d) ∧ w.cell? ⟨b, off + i * 3 + 1, none⟩ = some (.int .i64 x) ∧ w.cell? ⟨b, off + i * 3 + 2, none⟩ = some (.int .i64 n) ∧ (Lit.int .i64 x).wf = true ∧ (Lit.int .i64 n).wf = true

end Go.Proofs.Ytfkpbmopneleiaa

/- Whether there is an order, level by level: what is so of each node. No walk. -/
import Derived.Test.YtafdjmccgijmnaaHiAfterM
import Derived.Test.YtafdjmccgijmnaaHiOrder
import Derived.Test.YtafdjmccgijmnaaHiRefAfter
import Derived.Deep.AppendLies
namespace Go.Proofs.Ytafdjmccgijmnaa
open Go.RowKit A Go.Maps
set_option linter.unusedVariables false
set_option linter.unusedSimpArgs false
namespace H
/-- How many nodes a level may have. -/
def fall (l : Nat) : Nat → Nat
  | 0 => 1
  | i + 1 => fall l i * (l - i)
theorem fall_le {l i : Nat} (hl : l ≤ 12) (hi : i ≤ 13) : fall l i ≤ 479001600 :=
  (by decide +kernel : ∀ l, l < 13 → ∀ i, i < 14 → fall l i ≤ 479001600) l (by omega) i (by omega)
/-- How many of the first so many acts are not done. -/
def cnt (d k : Nat) : Nat := ((List.range k).filter fun j => !(d.testBit j)).length
theorem cnt_succ (d k : Nat) : cnt d (k + 1) = cnt d k + if d.testBit k = true then 0 else 1 := by
  unfold cnt
  rw [List.range_succ, List.filter_append, List.length_append]
  cases h : d.testBit k <;> simp [h]
theorem cnt_zero (k : Nat) : cnt 0 k = k := by
  induction k with
  | zero => rfl
  | succ k ih => rw [cnt_succ, ih, Nat.zero_testBit]; rfl
theorem cnt_wth {d q l : Nat} (hq : q < l) (h : d.testBit q = false) : cnt (wth d q) l < cnt d l := by
  unfold cnt
  refine filter_lt (fun x _ hx => ?_) (List.mem_range.2 hq) (by simp only [h]; rfl) (by simp only [has_wth]; simp)
  rw [has_wth] at hx
  cases hb : d.testBit x with
  | false => rfl
  | true => rw [hb] at hx; simp at hx
structure Nd where
  d : Nat
  s : List At
  o : List Nat
structure Good (os : List At) (ts : List Ac) (i : Nat) (x : Nd) : Prop where
  left : cnt x.d ts.length + i ≤ ts.length
  may : mayAll x.s = true
  way : ∀ r, (Pf ts).Ok x.d x.s r → ∃ o, (Pf ts).Ok 0 os o
  len : x.o.length ≤ i
theorem good_zero {os : List At} {ts : List Ac} (h : mayAll os = true) : Good os ts 0 ⟨0, os, []⟩ := ⟨by simp only [cnt_zero]; omega, h, fun r hr => ⟨r, hr⟩, by simp⟩
theorem may_act {ts : List Ac} (h : mayH ts = true) {k : Nat} (hk : k < ts.length) : (ts.getD k noAc).may = true := by
  unfold mayH at h
  rw [Bool.and_eq_true, List.all_eq_true] at h
  have := h.2 k (List.mem_range.2 hk)
  unfold okAt at this
  rw [Bool.and_eq_true] at this
  exact this.1
theorem ahead_self {x : Ac} (h : x.may = true) : x.ahead x = false := by
  unfold Ac.may at h
  unfold Ac.ahead
  simp only [Bool.and_eq_true, Bool.or_eq_true, decide_eq_true_eq] at h
  simp only [Bool.and_eq_false_iff, decide_eq_false_iff_not]
  omega
theorem free_of {ts : List Ac} (h : mayH ts = true) {d k : Nat} (hk : k < ts.length) (hd : d.testBit k = false) (hf : firstB ts d k = true) : (Pf ts).free d k = true := by
  refine free_iff.2 ⟨hd, fun j hj ha => ?_⟩
  have ha' : (ts.getD j noAc).ahead (ts.getD k noAc) = true := ha
  refine firstB_iff.1 hf j hj ha' fun e => ?_
  subst e
  rw [ahead_self (may_act h hk)] at ha'
  cases ha'
theorem good_step {os : List At} {ts : List Ac} (hm : mayH ts = true) {i k : Nat} {x : Nd} (hx : Good os ts i x) (hk : k < ts.length) (hd : x.d.testBit k = false) (hf : firstB ts x.d k = true) (hg : goes x.s (ts.getD k noAc) = true) :
    Good os ts (i + 1) ⟨wth x.d k, (made x.s (ts.getD k noAc)).1, x.o ++ [k]⟩ := by
  refine ⟨?_, made_may hx.may _, fun r hr => ?_, by simp; exact hx.len⟩
  · have := cnt_wth hk hd
    have := hx.left
    show cnt (wth x.d k) ts.length + (i + 1) ≤ ts.length
    omega
  · refine hx.way (k :: r) ⟨hk, free_of hm hk hd hf, _, ?_, hr⟩
    show stp ts x.s k = _
    unfold stp
    rw [if_pos hg]
theorem good_end {os : List At} {ts : List Ac} {i : Nat} {x : Nd} (hx : Good os ts i x) (h : backB ts x.d = true) : ∃ o, (Pf ts).Ok 0 os o := by
  refine hx.way [] ?_
  show (Pf ts).all x.d = true
  exact all_iff.2 fun k hk hm => backB_iff.1 h k hk hm
theorem stepD_way {os : List At} {ts : List Ac} {ks : List Int} : ∀ (r pre : List Nat) (d : Nat) (s : List At), ks = (pre ++ r).map Int.ofNat → stepD os ts ks pre.length = some (d, s) → (Pf ts).Ok d s r → ∃ d' s', stepD os ts ks (pre ++ r).length = some (d', s') ∧ (Pf ts).all d' = true
  | [], pre, d, s, hk, h, ho => by rw [List.append_nil]; exact ⟨d, s, h, ho⟩
  | q :: r, pre, d, s, hk, h, ho => by
    obtain ⟨hq, hf, s', hs, hr⟩ := ho
    have hq' : q < ts.length := hq
    have hs' : stp ts s q = some s' := hs
    have hat : ks.getD pre.length 0 = (q : Int) := by
      rw [hk]
      simp [List.getD]
    have hnext : stepD os ts ks (pre ++ [q]).length = some (wth d q, s') := by
      rw [List.length_append]
      show stepD os ts ks (pre.length + 1) = _
      rw [stepD, h]
      simp only
      rw [hat, Int.toNat_natCast]
      obtain ⟨f1, f2⟩ := free_iff.1 hf
      unfold stp at hs'
      split at hs'
      · next hg =>
        cases hs'
        rw [if_neg (by rintro (e | e | e)
                       · omega
                       · omega
                       · rw [f1] at e; cases e), if_pos (firstB_iff.2 fun j hj ha _ => f2 j hj ha), if_pos hg]
      · cases hs'
    have := stepD_way r (pre ++ [q]) (wth d q) s' (by rw [hk]; simp) hnext hr
    simpa using this
theorem ok_after {os : List At} {ts : List Ac} {o : List Nat} (h : (Pf ts).Ok 0 os o) : ∃ s, afterD os ts (o.map Int.ofNat) = some s := by
  obtain ⟨d, s, h1, h2⟩ := stepD_way (ks := o.map Int.ofNat) o [] 0 os rfl rfl h
  rw [List.nil_append] at h1
  have hl : (o.map Int.ofNat).length ≤ ts.length := by
    rw [List.length_map]
    have := ok_len o 0 os h
    have h3 : (Pf ts).left 0 = cnt 0 ts.length := rfl
    rw [h3, cnt_zero] at this
    exact this
  refine ⟨s, ?_⟩
  unfold afterD
  rw [if_pos hl, List.length_map, h1]
  simp only
  rw [if_pos (backB_iff.2 fun k hk hm => all_iff.1 h2 k hk hm)]
end H
end Go.Proofs.Ytafdjmccgijmnaa

/- Nodes as they lie, and rows of them. -/
namespace Go.Proofs.Ytafdjmccgijmnaa
open Go.RowKit A Go.Maps
set_option linter.unusedVariables false
set_option linter.unusedSimpArgs false
/-- What is so in every world in which all that lies outside of one block is as it is here. -/
def Kp (ob : Option Nat) (W : World) (P : World → Prop) : Prop := ∀ w1 : World, (∀ b o v, ob ≠ some b → W.cell? ⟨b, o, none⟩ = some v → w1.cell? ⟨b, o, none⟩ = some v) → P w1
/-- What is so in every world in which all that lies in the first blocks is as it is here. -/
def Lw (B : Nat) (W : World) (P : World → Prop) : Prop := ∀ w1 : World, (∀ b o v, b < B → W.cell? ⟨b, o, none⟩ = some v → w1.cell? ⟨b, o, none⟩ = some v) → P w1
variable {W y : World} {P : World → Prop} {ob ob' : Option Nat} {B : Nat}
theorem Kp.now (h : Kp ob W P) : P W := h W fun _ _ _ _ h => h
theorem Lw.now (h : Lw B W P) : P W := h W fun _ _ _ _ h => h
theorem lt_of_cell {W : World} {b o : Nat} {v : Value} (h : W.cell? ⟨b, o, none⟩ = some v) : b < W.heap.size := World.block_lt_of_cell? W ⟨b, o, none⟩ h
theorem Kp.below (h : Kp ob W P) (hb : Below W.heap.size W y) : Kp ob y P := fun w1 hk => h w1 fun b o v hn hc => hk b o v hn (hcell_thru hb hc)
theorem Kp.after (h : Kp ob W P) (hg : W.grownBy y ob) (hat : ob' = ob ∨ ob' = some W.heap.size) : Kp ob' y P := fun w1 hk => h w1 fun b o v hn hc => by
  have hlt := lt_of_cell hc
  refine hk b o v ?_ ((World.cell?_of_block (a := ⟨b, o, none⟩) (hg.block b hlt (Ne.symm hn))).trans hc)
  rcases hat with e | e
  · rw [e]; exact hn
  · rw [e]; intro e2; injection e2 with e3; omega
theorem Lw.below {B' : Nat} (h : Lw B W P) (hb : Below B' W y) (hB : B ≤ B') : Lw B y P := fun w1 hk => h w1 fun b o v hn hc => hk b o v hn ((hb.cell (p := ⟨b, o, none⟩) (by show b < B'; omega)).trans hc)
theorem Lw.kp (h : Lw B W P) (hob : ∀ g, ob = some g → B ≤ g) : Kp ob W P := fun w1 hk => h w1 fun b o v hn hc => hk b o v (fun e => by have := hob b e; omega) hc
theorem Kp.and {Q : World → Prop} (h : Kp ob W P) (h2 : Kp ob W Q) : Kp ob W fun w => P w ∧ Q w := fun w1 hk => ⟨h w1 hk, h2 w1 hk⟩
theorem Kp.imp {Q : World → Prop} (h : Kp ob W P) (f : ∀ w, P w → Q w) : Kp ob W Q := fun w1 hk => f _ (h w1 hk)
structure BoolsV (w : World) (a : Option Addr) (l c d : Nat) : Prop where
  nilOf : a = none → l = 0 ∧ c = 0
  room : l ≤ c ∧ c ≤ maxLen
  cells : l = 0 ∨ ∃ b off, a = some ⟨b, off, none⟩ ∧ ∀ i, i < l → w.cell? ⟨b, off + i, none⟩ = some (.bool (d.testBit i))
structure OsnV (w : World) (a : Option Addr) (l c : Nat) (ns : List Nat) : Prop where
  nilOf : a = none → l = 0 ∧ c = 0
  nv : NV w a l c ns
theorem BoolsV.ext {w w1 : World} {a : Option Addr} {l c d : Nat} (h : BoolsV w a l c d) (hk : ∀ b o v, w.cell? ⟨b, o, none⟩ = some v → w1.cell? ⟨b, o, none⟩ = some v) : BoolsV w1 a l c d :=
  ⟨h.nilOf, h.room, h.cells.imp id fun ⟨b, off, e, hc⟩ => ⟨b, off, e, fun i hi => hk _ _ _ (hc i hi)⟩⟩
theorem OsnV.ext {w w1 : World} {a : Option Addr} {l c : Nat} {ns : List Nat} (h : OsnV w a l c ns) (hk : ∀ b o v, w.cell? ⟨b, o, none⟩ = some v → w1.cell? ⟨b, o, none⟩ = some v) : OsnV w1 a l c ns :=
  ⟨h.nilOf, h.nv.count, h.nv.room, h.nv.cells.imp id fun ⟨b, off, e, hc⟩ => ⟨b, off, e, fun i hi => hk _ _ _ (hc i hi)⟩⟩
theorem AtsV.ext {w w1 : World} {a : Option Addr} {l c : Nat} {os : List At} (h : AtsV w a l c os) (hk : ∀ b o v, w.cell? ⟨b, o, none⟩ = some v → w1.cell? ⟨b, o, none⟩ = some v) : AtsV w1 a l c os := by
  refine ⟨h.count, h.fits, h.nilOf, h.room, h.cells.imp id fun ⟨b, off, e, hc⟩ => ⟨b, off, e, fun i hi => ?_⟩⟩
  obtain ⟨c0, c1, c2, a1, l1, c1', c3, V⟩ := hc i hi
  exact ⟨hk _ _ _ c0, hk _ _ _ c1, hk _ _ _ c2, a1, l1, c1', hk _ _ _ c3, V.count, V.fits, V.nilOf, V.room, V.cells.imp id fun ⟨b', off', e', hc'⟩ => ⟨b', off', e', fun j hj => hk _ _ _ (hc' j hj)⟩⟩
theorem ActsV.ext {w w1 : World} {a : Option Addr} {l c : Nat} {ts : List H.Ac} (h : ActsV w a l c ts) (hk : ∀ b o v, w.cell? ⟨b, o, none⟩ = some v → w1.cell? ⟨b, o, none⟩ = some v) : ActsV w1 a l c ts :=
  ⟨h.count, h.room, h.cells.imp id fun ⟨b, off, e, hc⟩ => ⟨b, off, e, fun i hi j u hu => hk _ _ _ (hc i hi j u hu)⟩⟩
/-- The three slices of a node. -/
structure Q3 where
  ad : Option Addr
  cd : Nat
  an : Option Addr
  cn : Nat
  ao : Option Addr
  lo : Nat
  co : Nat
def Q3.cells (l n : Nat) (q : Q3) : List Value := [.slice q.ad l q.cd, .slice q.an n q.cn, .slice q.ao q.lo q.co]
def Q3.v (l n : Nat) (q : Q3) : Value := .agg #[.slice q.ad l q.cd, .slice q.an n q.cn, .slice q.ao q.lo q.co]
structure NdV (l n : Nat) (q : Q3) (x : H.Nd) (w : World) : Prop where
  dn : BoolsV w q.ad l q.cd x.d
  nw : AtsV w q.an n q.cn x.s
  od : OsnV w q.ao q.lo q.co x.o
theorem NdV.ext {l n : Nat} {q : Q3} {x : H.Nd} {w w1 : World} (h : NdV l n q x w) (hk : ∀ b o v, w.cell? ⟨b, o, none⟩ = some v → w1.cell? ⟨b, o, none⟩ = some v) : NdV l n q x w1 := ⟨h.dn.ext hk, AtsV.ext h.nw hk, h.od.ext hk⟩
theorem lw_of {Q : World → Prop} (hx : ∀ w1 : World, (∀ b o v, W.cell? ⟨b, o, none⟩ = some v → w1.cell? ⟨b, o, none⟩ = some v) → Q w1) (hB : W.heap.size ≤ B) : Lw B W Q := fun w1 hk => hx w1 fun b o v hc => hk b o v (by have := lt_of_cell hc; omega) hc
def q0 : Q3 := ⟨none, 0, none, 0, none, 0, 0⟩
def x0 : H.Nd := ⟨0, [], []⟩
def nrow (l n : Nat) (qs : List Q3) : List Value := qs.flatMap (Q3.cells l n)
/-- A row of nodes of one's own. -/
structure NRow (B : Nat) (os : List At) (ts : List H.Ac) (l n i : Nat) (v : Value) (qs : List Q3) (xs : List H.Nd) (W : World) : Prop where
  len : qs.length = xs.length
  row : W.ownsRow B 97 3 v xs.length (nrow l n qs)
  nd : ∀ j, j < xs.length → Kp v.ownBlock W (NdV l n (qs.getD j q0) (xs.getD j x0))
  good : ∀ j, j < xs.length → H.Good os ts i (xs.getD j x0)
variable {os : List At} {ts : List H.Ac} {l n i : Nat} {v : Value} {qs : List Q3} {xs : List H.Nd}
theorem NRow.nil (B : Nat) (os : List At) (ts : List H.Ac) (l n i : Nat) (W : World) : NRow B os ts l n i (.slice none 0 0) [] [] W :=
  ⟨rfl, World.ownsRow_nil _ _ _ _, fun j hj => by simp at hj, fun j hj => by simp at hj⟩
theorem NRow.below (h : NRow B os ts l n i v qs xs W) (hb : Below W.heap.size W y) : NRow B os ts l n i v qs xs y :=
  ⟨h.len, hown_thru h.row hb, fun j hj => (h.nd j hj).below hb, h.good⟩
theorem NRow.push (h : NRow B os ts l n i v qs xs W) {q : Q3} {x : H.Nd} (hq : Kp v.ownBlock W (NdV l n q x)) (hx : H.Good os ts i x) {g cp : Nat} (ho : y.ownsRow B 97 3 (.slice (some ⟨g, 0, none⟩) (xs.length + 1) cp) (xs.length + 1) (nrow l n qs ++ Q3.cells l n q)) (hg : W.grownBy y v.ownBlock) (hat : v.ownBlock = some g ∨ g = W.heap.size) :
    NRow B os ts l n i (.slice (some ⟨g, 0, none⟩) (xs.length + 1) cp) (qs ++ [q]) (xs ++ [x]) y := by
  have hat' : (Value.slice (some ⟨g, 0, none⟩) (xs.length + 1) cp).ownBlock = v.ownBlock ∨ (Value.slice (some ⟨g, 0, none⟩) (xs.length + 1) cp).ownBlock = some W.heap.size := by
    simp only [Value.ownBlock]
    rcases hat with e | e
    · exact .inl e.symm
    · exact .inr (by rw [e])
  have hl := h.len
  refine ⟨by simp [hl], by simpa [nrow] using ho, fun j hj => ?_, fun j hj => ?_⟩
  · rw [List.length_append, List.length_singleton] at hj
    by_cases e : j = xs.length
    · subst e
      have e1 : (qs ++ [q]).getD xs.length q0 = q := by rw [← hl]; simp [List.getD]
      have e2 : (xs ++ [x]).getD xs.length x0 = x := by simp [List.getD]
      rw [e1, e2]
      exact hq.after hg hat'
    · have e1 : (qs ++ [q]).getD j q0 = qs.getD j q0 := by simp only [List.getD]; rw [List.getElem?_append_left (by omega)]
      have e2 : (xs ++ [x]).getD j x0 = xs.getD j x0 := by simp only [List.getD]; rw [List.getElem?_append_left (by omega)]
      rw [e1, e2]
      exact (h.nd j (by omega)).after hg hat'
  · rw [List.length_append, List.length_singleton] at hj
    by_cases e : j = xs.length
    · subst e
      have e2 : (xs ++ [x]).getD xs.length x0 = x := by simp [List.getD]
      rw [e2]; exact hx
    · have e2 : (xs ++ [x]).getD j x0 = xs.getD j x0 := by simp only [List.getD]; rw [List.getElem?_append_left (by omega)]
      rw [e2]; exact h.good j (by omega)
theorem nrow_at (l n : Nat) {qs : List Q3} {j m : Nat} (hj : j < qs.length) (hm : m < 3) : (nrow l n qs)[j * 3 + m]? = (Q3.cells l n (qs.getD j q0))[m]? := A.flat_at (Q3.cells l n) 3 q0 (fun _ => rfl) _ _ _ hj hm
/-- A node of a row, cell by cell. -/
theorem NRow.at (h : NRow B os ts l n i v qs xs W) {j : Nat} (hj : j < xs.length) : ∃ g cp, v = .slice (some ⟨g, 0, none⟩) xs.length cp ∧ xs.length ≤ cp ∧ cp ≤ maxLen ∧ B ≤ g ∧ W.cell? ⟨g, j * 3, none⟩ = some (.slice (qs.getD j q0).ad l (qs.getD j q0).cd) ∧ W.cell? ⟨g, j * 3 + 1, none⟩ = some (.slice (qs.getD j q0).an n (qs.getD j q0).cn) ∧ W.cell? ⟨g, j * 3 + 2, none⟩ = some (.slice (qs.getD j q0).ao (qs.getD j q0).lo (qs.getD j q0).co) := by
  have hr := h.row
  have hl := h.len
  rcases hr.2 with ⟨-, e2⟩ | ⟨g, cap, cur, e, -⟩
  · omega
  · subst e
    have hrm := A.own_room hr
    refine ⟨g, cap, rfl, hrm.1, hrm.2, (hr.lt g rfl).1, ?_, ?_, ?_⟩
    · rw [hr.cellAt (j * 3) (by omega)]
      exact nrow_at l n (m := 0) (by omega) (by decide)
    · rw [hr.cellAt (j * 3 + 1) (by omega)]
      exact nrow_at l n (m := 1) (by omega) (by decide)
    · rw [hr.cellAt (j * 3 + 2) (by omega)]
      exact nrow_at l n (m := 2) (by omega) (by decide)
theorem NRow.form (h : NRow B os ts l n i v qs xs W) : ∃ a cp, v = .slice a xs.length cp ∧ xs.length ≤ cp ∧ cp ≤ maxLen := by
  have hr := h.row
  rcases hr.2 with ⟨e, e2⟩ | ⟨g, cap, cur, e, -⟩
  · exact ⟨none, 0, by rw [e, e2], by omega, by unfold maxLen; omega⟩
  · subst e
    have hrm := A.own_room hr
    exact ⟨_, cap, rfl, hrm.1, hrm.2⟩
theorem NRow.far (h : NRow B os ts l n i v qs xs W) : ∀ g, v.ownBlock = some g → B ≤ g := fun g hg => (h.row.lt g hg).1
theorem NRow.lt (h : NRow B os ts l n i v qs xs W) : ∀ g, v.ownBlock = some g → g < W.heap.size := fun g hg => (h.row.lt g hg).2
end Go.Proofs.Ytafdjmccgijmnaa

/- The document's all and same of nodes. -/
namespace Go.Proofs.Ytafdjmccgijmnaa
open Go.RowKit A Go.Maps
set_option linter.unusedVariables false
set_option linter.unusedSimpArgs false
theorem BoolsV.at {w : World} {a : Option Addr} {l c d : Nat} (h : BoolsV w a l c d) {i : Nat} (hi : i < l) : ∃ b off, a = some ⟨b, off, none⟩ ∧ w.cell? ⟨b, off + i, none⟩ = some (.bool (d.testBit i)) := by
  rcases h.cells with h0 | ⟨b, off, e, hc⟩
  · omega
  · exact ⟨b, off, e, hc i hi⟩
theorem BoolsV.below {w y : World} {a : Option Addr} {l c d : Nat} (h : BoolsV w a l c d) (hb : Below w.heap.size w y) : BoolsV y a l c d := h.ext fun b o v hc => hcell_thru hb hc
set_option maxRecDepth 100000 in
set_option maxHeartbeats 8000000 in
theorem rall_any {w : World} {aa ad : Option Addr} {l cc cd d : Nat} {ts : List H.Ac} (hA : ActsV w aa l cc ts) (hD : BoolsV w ad l cd d) :
    Calls Try.prog 69 #[.slice aa l cc, .slice ad l cd] w fun e w' => e = .returned (.bool (H.backB ts d)) ∧ Below w.heap.size w w' := by
  have HA : Hid (ActsV w aa l cc ts) := hA
  have HD : Hid (BoolsV w ad l cd d) := hD
  have HTC : Hid (ts.length = l) := hA.count
  have hmx := hA.room
  have hmd := hD.room
  have hmax : maxLen = 9223372036854775807 := rfl
  obtain ⟨R, hR⟩ : ∃ R, H.backB ts d = R := ⟨_, rfl⟩
  have HBB : Hid (R = (List.range l).all fun k => !((ts.getD k H.noAc).isBack) || d.testBit k) := by show _ = _; rw [← hR, ← HTC.out]; rfl
  rw [hR]
  clear hA hD hR
  go_enter Try.func69, Try.ntmps69
  go_wp2_with fail
  go_loopg [5] l (fun r iv wq => ∃ (j : Nat), r = l - j ∧ iv = .int .i64 j ∧ j ≤ l ∧ wq = w ∧ Hid (∀ k, k < j → (!((ts.getD k H.noAc).isBack) || d.testBit k) = true))
  case atStart => exact ⟨0, rfl, rfl, Nat.zero_le _, rfl, (fun j hj => by omega : ∀ k, k < 0 → (!((ts.getD k H.noAc).isBack) || d.testBit k) = true)⟩
  case round =>
    obtain ⟨j, rfl, rfl, hj, hwr, HAJ⟩ := hrel
    subst hwr
    by_cases hjl : j < l
    · have hji : (j : Int) < l := by omega
      have hj0 : 0 ≤ (j : Int) := by omega
      obtain ⟨b2, o2, hab2, cj⟩ := HD.out.at hjl
      obtain ⟨b, off, hab, p0, p1, p2, p3, p4, p5, p6⟩ := HA.out.at hjl
      subst hab hab2
      have HBK : Hid ((ts.getD j H.noAc).isBack = decide (0 ≤ (ts.getD j H.noAc).back)) := rfl
      have HFJ : Hid ((!((ts.getD j H.noAc).isBack) || d.testBit j) = true → ∀ k, k < j + 1 → (!((ts.getD k H.noAc).isBack) || d.testBit k) = true) := fun e j' hj' => by
        by_cases e2 : j' = j
        · subst e2; exact e
        · exact HAJ.out j' (by omega)
      have HNF : Hid ((!((ts.getD j H.noAc).isBack) || d.testBit j) = false → R = false) := fun e => by rw [HBB.out, A.all_range_no hjl e]
      obtain ⟨bk, hbk⟩ : ∃ x, (ts.getD j H.noAc).back = x := ⟨_, rfl⟩
      obtain ⟨tj, htj⟩ : ∃ tb, d.testBit j = tb := ⟨_, rfl⟩
      rw [hbk] at p5 HBK
      rw [htj] at cj
      have HFJ : Hid ((!(decide (0 ≤ bk)) || tj) = true → ∀ k, k < j + 1 → (!((ts.getD k H.noAc).isBack) || d.testBit k) = true) := by rw [← htj, ← HBK.out]; exact HFJ
      have HNF : Hid ((!(decide (0 ≤ bk)) || tj) = false → R = false) := by rw [← htj, ← HBK.out]; exact HNF
      clear htj hbk p0 p1 p2 p3 p4 p6 HBK
      by_cases hb0 : 0 ≤ bk
      · rw [decide_eq_true hb0] at HFJ HNF
        cases tj with
        | true =>
          have HN2 : Hid _ := HFJ.out rfl
          go_wp2_with fail
          go_roundg (l - (j + 1))
          case measure => omega
          case rel => exact ⟨j + 1, rfl, by go_num, by omega, rfl, HN2⟩
        | false =>
          have HRN := HNF.out rfl
          subst HRN
          go_wp2_with fail
          go_ret
          exact ⟨rfl, Below.refl _ _⟩
      · rw [decide_eq_false hb0] at HFJ HNF
        have HN2 : Hid _ := HFJ.out rfl
        go_wp2_with fail
        go_roundg (l - (j + 1))
        case measure => omega
        case rel => exact ⟨j + 1, rfl, by go_num, by omega, rfl, HN2⟩
    · have hjj2 : j = l := by omega
      subst hjj2
      have hjj : ¬ (j : Int) < j := by omega
      have HRT : R = true := by rw [HBB.out, A.all_range_yes HAJ.out]
      subst HRT
      go_wp2_with fail
      go_ret
      exact ⟨rfl, Below.refl _ _⟩
set_option maxRecDepth 100000 in
set_option maxHeartbeats 8000000 in
theorem rsameN_any {l n : Nat} {q p : Q3} {x z : H.Nd} (bb : Bool) (hbb : bb = true ↔ (∀ j, j < l → x.d.testBit j = z.d.testBit j) ∧ x.s = z.s) {w : World} (h1 : NdV l n q x w) (h2 : NdV l n p z w) :
    Calls Try.prog 77 #[q.v l n, p.v l n] w fun e w' => e = .returned (.bool bb) ∧ Below w.heap.size w w' := by
  have HX : Hid (NdV l n q x w) := h1
  have HZ : Hid (NdV l n p z w) := h2
  have HBB : Hid (bb = true ↔ (∀ j, j < l → x.d.testBit j = z.d.testBit j) ∧ x.s = z.s) := hbb
  have hm1 := h1.dn.room
  have hm2 := h2.dn.room
  have hmax : maxLen = 9223372036854775807 := rfl
  clear h1 h2 hbb
  obtain ⟨a1, c1, a2, c2, a3, l3, c3⟩ := q
  obtain ⟨e1, f1, e2, f2, e3, m3, f3⟩ := p
  obtain ⟨d1, s1, o1⟩ := x
  obtain ⟨d2, s2, o2⟩ := z
  simp only at HX HZ HBB hm1 hm2
  unfold Q3.v
  simp only
  obtain ⟨Y, hY⟩ : ∃ Y, (w.alloc (.cells #[.slice a1 l c1, .slice a2 n c2, .slice a3 l3 c3] 97)).alloc (.cells #[.slice e1 l f1, .slice e2 n f2, .slice e3 m3 f3] 97) = Y := ⟨_, rfl⟩
  have hby : Below w.heap.size w Y := by rw [← hY]; exact (hbl1 _ _).alloc (by simp) _
  have HBY : Hid (Below w.heap.size w Y) := hby
  have g0 : Y.cell? ⟨w.heap.size, 0, none⟩ = some (.slice a1 l c1) := by rw [← hY, World.cell?_alloc_lt _ _ _ (by simp)]; exact ncell_at rfl
  have g1 : Y.cell? ⟨w.heap.size, 1, none⟩ = some (.slice a2 n c2) := by rw [← hY, World.cell?_alloc_lt _ _ _ (by simp)]; exact ncell_at rfl
  have k0 : Y.cell? ⟨w.heap.size + 1, 0, none⟩ = some (.slice e1 l f1) := by rw [← hY]; simp
  have k1 : Y.cell? ⟨w.heap.size + 1, 1, none⟩ = some (.slice e2 n f2) := by rw [← hY]; simp
  have HK : Hid (∀ y, Below Y.heap.size Y y → y.cell? ⟨w.heap.size, 0, none⟩ = some (.slice a1 l c1) ∧ y.cell? ⟨w.heap.size, 1, none⟩ = some (.slice a2 n c2) ∧ y.cell? ⟨w.heap.size + 1, 0, none⟩ = some (.slice e1 l f1) ∧ y.cell? ⟨w.heap.size + 1, 1, none⟩ = some (.slice e2 n f2)) := fun y hb => ⟨hcell_thru hb g0, hcell_thru hb g1, hcell_thru hb k0, hcell_thru hb k1⟩
  clear g0 g1 k0 k1 hby
  go_enter Try.func77, Try.ntmps77
  go_wp2_with fail
  try rw [hY]
  clear hY
  go_loopg [5] l (fun r iv wq => ∃ (j : Nat), r = l - j ∧ iv = .int .i64 j ∧ j ≤ l ∧ Hid (∀ j', j' < j → d1.testBit j' = d2.testBit j') ∧ Hid (Below Y.heap.size Y wq))
  case atStart => exact ⟨0, rfl, rfl, Nat.zero_le _, (fun j hj => by omega : ∀ j', j' < 0 → d1.testBit j' = d2.testBit j'), Below.refl _ _⟩
  case round =>
    obtain ⟨j, rfl, rfl, hj, HAJ, HB⟩ := hrel
    have HBW : Hid (Below w.heap.size w wr) := HBY.out.trans (HB.out.mono HBY.out.size)
    obtain ⟨g0, g1, k0, k1⟩ := HK.out wr HB.out
    by_cases hjl : j < l
    · have hji : (j : Int) < l := by omega
      have hj0 : 0 ≤ (j : Int) := by omega
      obtain ⟨b1, o1, hab1, t1⟩ := (HX.out.dn.below HBW.out).at hjl
      obtain ⟨b2, o2, hab2, t2⟩ := (HZ.out.dn.below HBW.out).at hjl
      simp only at hab1 hab2 t1 t2
      subst hab1 hab2
      have HEQ : Hid (d1.testBit j = d2.testBit j → ∀ j', j' < j + 1 → d1.testBit j' = d2.testBit j') := fun e j' hj' => by
        by_cases e2 : j' = j
        · subst e2; exact e
        · exact HAJ.out j' (by omega)
      have HNE : Hid (¬ d1.testBit j = d2.testBit j → bb = false) := fun e => A.bool_no HBB.out fun h => e (h.1 j hjl)
      obtain ⟨u1, hu1⟩ : ∃ u, d1.testBit j = u := ⟨_, rfl⟩
      obtain ⟨u2, hu2⟩ : ∃ u, d2.testBit j = u := ⟨_, rfl⟩
      rw [hu1] at t1 HEQ HNE
      rw [hu2] at t2 HEQ HNE
      clear hu1 hu2
      have HBD : Hid (Below Y.heap.size Y wr.drew) := HB.out.drew
      have HBX : Hid (Below w.heap.size w wr.drew) := HBW.out.drew
      have HS : Hid ((wr.drew.cell? ⟨w.heap.size, 0, none⟩ = some (.slice (some ⟨b1, o1, none⟩) l c1) ∧ wr.drew.cell? ⟨w.heap.size + 1, 0, none⟩ = some (.slice (some ⟨b2, o2, none⟩) l f1)) ∧ wr.drew.cell? ⟨b1, o1 + j, none⟩ = some (.bool u1) ∧ wr.drew.cell? ⟨b2, o2 + j, none⟩ = some (.bool u2)) := by
        simp only [World.cell?_drew]
        exact ⟨⟨g0, k0⟩, t1, t2⟩
      clear t1 t2
      by_cases hu : u1 = u2
      · have HN2 : Hid _ := HEQ.out hu
        subst hu
        have hxx : (u1 != u1) = false := by simp
        go_wp2_with fail
        refine wp_region_held_drew (S := (fun w' : World => (w'.cell? ⟨w.heap.size, 0, none⟩ = some (.slice (some ⟨b1, o1, none⟩) l c1) ∧ w'.cell? ⟨w.heap.size + 1, 0, none⟩ = some (.slice (some ⟨b2, o2, none⟩) l f1)) ∧ w'.cell? ⟨b1, o1 + j, none⟩ = some (.bool u1) ∧ w'.cell? ⟨b2, o2 + j, none⟩ = some (.bool u1))) (by kernel_rfl) HS.out (fun hHeld => ?_)
        refine tk (i := 0) (v := ?_) (tA rfl) (by kernel_rfl) (fun _ _ _ h => h) (Or.inl ⟨by rfl, ?_⟩) (by assumption) ?_
        rotate_left
        · (intro w hSw; (try dsimp only at hSw); go_simp <;> with_reducible rfl)
        simp only [Act.put, List.setIfInBounds_toArray, List.set_cons_zero, List.set_cons_succ]
        refine tk (i := 1) (v := ?_) (tA rfl) (by kernel_rfl) (fun _ _ _ h => h) (Or.inl ⟨by rfl, ?_⟩) (by assumption) ?_
        rotate_left
        · (intro w hSw; (try dsimp only at hSw); go_simp <;> with_reducible rfl)
        simp only [Act.put, List.setIfInBounds_toArray, List.set_cons_zero, List.set_cons_succ]
        refine tk (i := 2) (v := ?_) (tA rfl) (by kernel_rfl) (fun _ _ _ h => h) (Or.inl ⟨by rfl, ?_⟩) (by assumption) ?_
        rotate_left
        · (intro w hSw; (try dsimp only at hSw); go_simp <;> with_reducible rfl)
        simp only [Act.put, List.setIfInBounds_toArray, List.set_cons_zero, List.set_cons_succ]
        refine tk (i := 3) (v := ?_) (tA rfl) (by kernel_rfl) (fun _ _ _ h => h) (Or.inl ⟨by rfl, ?_⟩) (by assumption) ?_
        rotate_left
        · (intro w hSw; (try dsimp only at hSw); go_simp <;> with_reducible rfl)
        simp only [Act.put, List.setIfInBounds_toArray, List.set_cons_zero, List.set_cons_succ]
        refine tk (i := 4) (v := ?_) (tA rfl) (by kernel_rfl) (fun _ _ _ h => h) (Or.inl ⟨by rfl, ?_⟩) (by assumption) ?_
        rotate_left
        · (intro w hSw; (try dsimp only at hSw); go_simp <;> with_reducible rfl)
        simp only [Act.put, List.setIfInBounds_toArray, List.set_cons_zero, List.set_cons_succ]
        refine tk (i := 5) (v := ?_) (tA rfl) (by kernel_rfl) (fun _ _ _ h => h) (Or.inl ⟨by rfl, ?_⟩) (by assumption) ?_
        rotate_left
        · (intro w hSw; (try dsimp only at hSw); go_simp <;> with_reducible rfl)
        simp only [Act.put, List.setIfInBounds_toArray, List.set_cons_zero, List.set_cons_succ]
        refine tk (i := 6) (v := ?_) (tA rfl) (by kernel_rfl) (fun _ _ _ h => h) (Or.inl ⟨by rfl, ?_⟩) (by assumption) ?_
        rotate_left
        · (intro w hSw; (try dsimp only at hSw); go_simp <;> with_reducible rfl)
        simp only [Act.put, List.setIfInBounds_toArray, List.set_cons_zero, List.set_cons_succ]
        refine tk (i := 7) (v := ?_) (tA rfl) (by kernel_rfl) (fun _ _ _ h => h) (Or.inl ⟨by rfl, ?_⟩) (by assumption) ?_
        rotate_left
        · (intro w hSw; (try dsimp only at hSw); go_simp <;> with_reducible rfl)
        simp only [Act.put, List.setIfInBounds_toArray, List.set_cons_zero, List.set_cons_succ]
        refine tk (i := 8) (v := ?_) (tA rfl) (by kernel_rfl) (fun _ _ _ h => h) (Or.inl ⟨by rfl, ?_⟩) (by assumption) ?_
        rotate_left
        · (intro w hSw; (try dsimp only at hSw); go_simp <;> with_reducible rfl)
        simp only [Act.put, List.setIfInBounds_toArray, List.set_cons_zero, List.set_cons_succ]
        refine tk (i := 9) (v := ?_) (tA rfl) (by kernel_rfl) (fun _ _ _ h => h) (Or.inl ⟨by rfl, ?_⟩) (by assumption) ?_
        rotate_left
        · (intro w hSw; (try dsimp only at hSw); go_simp <;> with_reducible rfl)
        simp only [Act.put, List.setIfInBounds_toArray, List.set_cons_zero, List.set_cons_succ]
        refine tk (i := 10) (v := ?_) (tA rfl) (by kernel_rfl) (fun _ _ _ h => h) (Or.inl ⟨by rfl, ?_⟩) (by assumption) ?_
        rotate_left
        · (intro w hSw; (try dsimp only at hSw); go_simp <;> with_reducible rfl)
        simp only [Act.put, List.setIfInBounds_toArray, List.set_cons_zero, List.set_cons_succ]
        refine wpAnyH_done (by kernel_rfl) ?_ _
        clear hHeld
        go_wp2_with fail
        go_roundg (l - (j + 1))
        case measure => omega
        case rel => exact ⟨j + 1, rfl, by go_num, by omega, HN2, HBD⟩
      · have HRF := HNE.out hu
        subst HRF
        have hu2 : u2 = !u1 := by cases u1 <;> cases u2 <;> simp_all
        subst hu2
        clear hu
        cases u1 with
        | true =>
          go_wp2_with fail
          refine wp_region_held_drew (S := (fun w' : World => (w'.cell? ⟨w.heap.size, 0, none⟩ = some (.slice (some ⟨b1, o1, none⟩) l c1) ∧ w'.cell? ⟨w.heap.size + 1, 0, none⟩ = some (.slice (some ⟨b2, o2, none⟩) l f1)) ∧ w'.cell? ⟨b1, o1 + j, none⟩ = some (.bool true) ∧ w'.cell? ⟨b2, o2 + j, none⟩ = some (.bool false))) (by kernel_rfl) HS.out (fun hHeld => ?_)
          refine tk (i := 0) (v := ?_) (tA rfl) (by kernel_rfl) (fun _ _ _ h => h) (Or.inl ⟨by rfl, ?_⟩) (by assumption) ?_
          rotate_left
          · (intro w hSw; (try dsimp only at hSw); go_simp <;> with_reducible rfl)
          simp only [Act.put, List.setIfInBounds_toArray, List.set_cons_zero, List.set_cons_succ]
          refine tk (i := 1) (v := ?_) (tA rfl) (by kernel_rfl) (fun _ _ _ h => h) (Or.inl ⟨by rfl, ?_⟩) (by assumption) ?_
          rotate_left
          · (intro w hSw; (try dsimp only at hSw); go_simp <;> with_reducible rfl)
          simp only [Act.put, List.setIfInBounds_toArray, List.set_cons_zero, List.set_cons_succ]
          refine tk (i := 2) (v := ?_) (tA rfl) (by kernel_rfl) (fun _ _ _ h => h) (Or.inl ⟨by rfl, ?_⟩) (by assumption) ?_
          rotate_left
          · (intro w hSw; (try dsimp only at hSw); go_simp <;> with_reducible rfl)
          simp only [Act.put, List.setIfInBounds_toArray, List.set_cons_zero, List.set_cons_succ]
          refine tk (i := 3) (v := ?_) (tA rfl) (by kernel_rfl) (fun _ _ _ h => h) (Or.inl ⟨by rfl, ?_⟩) (by assumption) ?_
          rotate_left
          · (intro w hSw; (try dsimp only at hSw); go_simp <;> with_reducible rfl)
          simp only [Act.put, List.setIfInBounds_toArray, List.set_cons_zero, List.set_cons_succ]
          refine tk (i := 4) (v := ?_) (tA rfl) (by kernel_rfl) (fun _ _ _ h => h) (Or.inl ⟨by rfl, ?_⟩) (by assumption) ?_
          rotate_left
          · (intro w hSw; (try dsimp only at hSw); go_simp <;> with_reducible rfl)
          simp only [Act.put, List.setIfInBounds_toArray, List.set_cons_zero, List.set_cons_succ]
          refine tk (i := 5) (v := ?_) (tA rfl) (by kernel_rfl) (fun _ _ _ h => h) (Or.inl ⟨by rfl, ?_⟩) (by assumption) ?_
          rotate_left
          · (intro w hSw; (try dsimp only at hSw); go_simp <;> with_reducible rfl)
          simp only [Act.put, List.setIfInBounds_toArray, List.set_cons_zero, List.set_cons_succ]
          refine tk (i := 6) (v := ?_) (tA rfl) (by kernel_rfl) (fun _ _ _ h => h) (Or.inl ⟨by rfl, ?_⟩) (by assumption) ?_
          rotate_left
          · (intro w hSw; (try dsimp only at hSw); go_simp <;> with_reducible rfl)
          simp only [Act.put, List.setIfInBounds_toArray, List.set_cons_zero, List.set_cons_succ]
          refine tk (i := 7) (v := ?_) (tA rfl) (by kernel_rfl) (fun _ _ _ h => h) (Or.inl ⟨by rfl, ?_⟩) (by assumption) ?_
          rotate_left
          · (intro w hSw; (try dsimp only at hSw); go_simp <;> with_reducible rfl)
          simp only [Act.put, List.setIfInBounds_toArray, List.set_cons_zero, List.set_cons_succ]
          refine tk (i := 8) (v := ?_) (tA rfl) (by kernel_rfl) (fun _ _ _ h => h) (Or.inl ⟨by rfl, ?_⟩) (by assumption) ?_
          rotate_left
          · (intro w hSw; (try dsimp only at hSw); go_simp <;> with_reducible rfl)
          simp only [Act.put, List.setIfInBounds_toArray, List.set_cons_zero, List.set_cons_succ]
          refine tk (i := 9) (v := ?_) (tA rfl) (by kernel_rfl) (fun _ _ _ h => h) (Or.inl ⟨by rfl, ?_⟩) (by assumption) ?_
          rotate_left
          · (intro w hSw; (try dsimp only at hSw); go_simp <;> with_reducible rfl)
          simp only [Act.put, List.setIfInBounds_toArray, List.set_cons_zero, List.set_cons_succ]
          refine tk (i := 10) (v := ?_) (tA rfl) (by kernel_rfl) (fun _ _ _ h => h) (Or.inl ⟨by rfl, ?_⟩) (by assumption) ?_
          rotate_left
          · (intro w hSw; (try dsimp only at hSw); go_simp <;> with_reducible rfl)
          simp only [Act.put, List.setIfInBounds_toArray, List.set_cons_zero, List.set_cons_succ]
          refine wpAnyH_done (by kernel_rfl) ?_ _
          clear hHeld
          go_wp2_with fail
          go_ret
          exact ⟨rfl, HBX.out⟩
        | false =>
          go_wp2_with fail
          refine wp_region_held_drew (S := (fun w' : World => (w'.cell? ⟨w.heap.size, 0, none⟩ = some (.slice (some ⟨b1, o1, none⟩) l c1) ∧ w'.cell? ⟨w.heap.size + 1, 0, none⟩ = some (.slice (some ⟨b2, o2, none⟩) l f1)) ∧ w'.cell? ⟨b1, o1 + j, none⟩ = some (.bool false) ∧ w'.cell? ⟨b2, o2 + j, none⟩ = some (.bool true))) (by kernel_rfl) HS.out (fun hHeld => ?_)
          refine tk (i := 0) (v := ?_) (tA rfl) (by kernel_rfl) (fun _ _ _ h => h) (Or.inl ⟨by rfl, ?_⟩) (by assumption) ?_
          rotate_left
          · (intro w hSw; (try dsimp only at hSw); go_simp <;> with_reducible rfl)
          simp only [Act.put, List.setIfInBounds_toArray, List.set_cons_zero, List.set_cons_succ]
          refine tk (i := 1) (v := ?_) (tA rfl) (by kernel_rfl) (fun _ _ _ h => h) (Or.inl ⟨by rfl, ?_⟩) (by assumption) ?_
          rotate_left
          · (intro w hSw; (try dsimp only at hSw); go_simp <;> with_reducible rfl)
          simp only [Act.put, List.setIfInBounds_toArray, List.set_cons_zero, List.set_cons_succ]
          refine tk (i := 2) (v := ?_) (tA rfl) (by kernel_rfl) (fun _ _ _ h => h) (Or.inl ⟨by rfl, ?_⟩) (by assumption) ?_
          rotate_left
          · (intro w hSw; (try dsimp only at hSw); go_simp <;> with_reducible rfl)
          simp only [Act.put, List.setIfInBounds_toArray, List.set_cons_zero, List.set_cons_succ]
          refine tk (i := 3) (v := ?_) (tA rfl) (by kernel_rfl) (fun _ _ _ h => h) (Or.inl ⟨by rfl, ?_⟩) (by assumption) ?_
          rotate_left
          · (intro w hSw; (try dsimp only at hSw); go_simp <;> with_reducible rfl)
          simp only [Act.put, List.setIfInBounds_toArray, List.set_cons_zero, List.set_cons_succ]
          refine tk (i := 4) (v := ?_) (tA rfl) (by kernel_rfl) (fun _ _ _ h => h) (Or.inl ⟨by rfl, ?_⟩) (by assumption) ?_
          rotate_left
          · (intro w hSw; (try dsimp only at hSw); go_simp <;> with_reducible rfl)
          simp only [Act.put, List.setIfInBounds_toArray, List.set_cons_zero, List.set_cons_succ]
          refine tk (i := 5) (v := ?_) (tA rfl) (by kernel_rfl) (fun _ _ _ h => h) (Or.inl ⟨by rfl, ?_⟩) (by assumption) ?_
          rotate_left
          · (intro w hSw; (try dsimp only at hSw); go_simp <;> with_reducible rfl)
          simp only [Act.put, List.setIfInBounds_toArray, List.set_cons_zero, List.set_cons_succ]
          refine tk (i := 6) (v := ?_) (tA rfl) (by kernel_rfl) (fun _ _ _ h => h) (Or.inl ⟨by rfl, ?_⟩) (by assumption) ?_
          rotate_left
          · (intro w hSw; (try dsimp only at hSw); go_simp <;> with_reducible rfl)
          simp only [Act.put, List.setIfInBounds_toArray, List.set_cons_zero, List.set_cons_succ]
          refine tk (i := 7) (v := ?_) (tA rfl) (by kernel_rfl) (fun _ _ _ h => h) (Or.inl ⟨by rfl, ?_⟩) (by assumption) ?_
          rotate_left
          · (intro w hSw; (try dsimp only at hSw); go_simp <;> with_reducible rfl)
          simp only [Act.put, List.setIfInBounds_toArray, List.set_cons_zero, List.set_cons_succ]
          refine tk (i := 8) (v := ?_) (tA rfl) (by kernel_rfl) (fun _ _ _ h => h) (Or.inl ⟨by rfl, ?_⟩) (by assumption) ?_
          rotate_left
          · (intro w hSw; (try dsimp only at hSw); go_simp <;> with_reducible rfl)
          simp only [Act.put, List.setIfInBounds_toArray, List.set_cons_zero, List.set_cons_succ]
          refine tk (i := 9) (v := ?_) (tA rfl) (by kernel_rfl) (fun _ _ _ h => h) (Or.inl ⟨by rfl, ?_⟩) (by assumption) ?_
          rotate_left
          · (intro w hSw; (try dsimp only at hSw); go_simp <;> with_reducible rfl)
          simp only [Act.put, List.setIfInBounds_toArray, List.set_cons_zero, List.set_cons_succ]
          refine tk (i := 10) (v := ?_) (tA rfl) (by kernel_rfl) (fun _ _ _ h => h) (Or.inl ⟨by rfl, ?_⟩) (by assumption) ?_
          rotate_left
          · (intro w hSw; (try dsimp only at hSw); go_simp <;> with_reducible rfl)
          simp only [Act.put, List.setIfInBounds_toArray, List.set_cons_zero, List.set_cons_succ]
          refine wpAnyH_done (by kernel_rfl) ?_ _
          clear hHeld
          go_wp2_with fail
          go_ret
          exact ⟨rfl, HBX.out⟩
    · have hjj2 : j = l := by omega
      subst hjj2
      have hjj : ¬ (j : Int) < j := by omega
      have hsame := A.same_any (AtsV.ext HX.out.nw fun b o v hc => hcell_thru HBW.out hc) (AtsV.ext HZ.out.nw fun b o v hc => hcell_thru HBW.out hc) bb (by rw [HBB.out]; exact ⟨fun h => h.2, fun h => ⟨HAJ.out, h⟩⟩)
      go_wp2_with fail
      refine hsame.mono ?_
      rintro e y ⟨rfl, hy⟩
      have HY : Hid (Below w.heap.size w y) := HBW.out.trans (hy.mono HBW.out.size)
      clear hsame hy
      go_wp2_with fail
      go_ret
      exact ⟨rfl, HY.out⟩
end Go.Proofs.Ytafdjmccgijmnaa

/- A node while it is made. -/
namespace Go.Proofs.Ytafdjmccgijmnaa
open Go.RowKit A Go.Maps
set_option linter.unusedVariables false
set_option linter.unusedSimpArgs false
/-- A node's box, its row of what was done, its row of the order: each a block of its own, made since a world. -/
structure XN (y W : World) (xb : Nat) (vd vn vo : Value) (bs : List Bool) (ns : List Nat) : Prop where
  low : Below y.heap.size y W
  ge : y.heap.size ≤ xb
  lt : xb < W.heap.size
  fro : ∀ j, W.frozen? ⟨xb, j, none⟩ = false
  c0 : W.cell? ⟨xb, 0, none⟩ = some vd
  c1 : W.cell? ⟨xb, 1, none⟩ = some vn
  c2 : W.cell? ⟨xb, 2, none⟩ = some vo
  rd : W.ownsRow y.heap.size 4 1 vd bs.length (bs.map bV)
  ro : W.ownsRow y.heap.size 3 1 vo ns.length (ns.map nV)
  fd : vd.ownBlock ≠ some xb
  fo : vo.ownBlock ≠ some xb
  ap : ∀ b, vd.ownBlock = some b → vo.ownBlock ≠ some b
variable {y W W' : World} {xb : Nat} {vd vn vo v : Value} {bs : List Bool} {ns : List Nat}
theorem XN.start (y : World) (vn : Value) : XN y (y.alloc (.cells #[.slice none 0 0, vn, .slice none 0 0] 97)) y.heap.size (.slice none 0 0) vn (.slice none 0 0) [] [] :=
  ⟨hbl1 _ _, Nat.le_refl _, by simp, fun j => World.frozen?_alloc_at _ _ _ _ (by simp), ncell_at rfl, ncell_at rfl, ncell_at rfl, World.ownsRow_nil _ _ _ _, World.ownsRow_nil _ _ _ _, by simp [Value.ownBlock], by simp [Value.ownBlock], by simp [Value.ownBlock]⟩
theorem XN.below (h : XN y W xb vd vn vo bs ns) (hb : Below W.heap.size W W') : XN y W' xb vd vn vo bs ns :=
  ⟨h.low.trans (hb.mono h.low.size), h.ge, Nat.lt_of_lt_of_le h.lt hb.size, fun j => (hb.frozen (p := ⟨xb, j, none⟩) h.lt).trans (h.fro j), hcell_thru hb h.c0, hcell_thru hb h.c1, hcell_thru hb h.c2, hown_thru h.rd hb, hown_thru h.ro hb, h.fd, h.fo, h.ap⟩
theorem frozen_set {w : World} {a p : Addr} {v : Value} : (w.setCell a v).frozen? p = w.frozen? p := World.frozen?_setCell _ _ _ _
theorem own_farN {w : World} {B : Nat} {e : TypeId} {k n : Nat} {v : Value} {cs : List Value} (h : w.ownsRow B e k v n cs) {b : Nat} (hb : b < B) : v.ownBlock ≠ some b := fun e => by have := (h.lt b e).1; omega
theorem own_keep {w : World} {B : Nat} {e : TypeId} {k n : Nat} {v : Value} {cs : List Value} (h : w.ownsRow B e k v n cs) {b j : Nat} (hb : v.ownBlock ≠ some b) (u : Value) : (w.setCell ⟨b, j, none⟩ u).ownsRow B e k v n cs := h.kept (A.gb_setO _ _ _) (.inr hb)
/-- The row of what was done is laid. -/
theorem XN.setD (h : XN y W xb vd vn vo bs ns) (hb : Below W.heap.size W W') {bs' : List Bool} (hr : W'.ownsRow W.heap.size 4 1 v bs'.length (bs'.map bV)) : XN y (W'.setCell ⟨xb, 0, none⟩ v) xb v vn vo bs' ns := by
  have h2 := h.below hb
  have hlt := h.lt
  have hge := h.ge
  have hls := h.low.size
  have hfv : v.ownBlock ≠ some xb := own_farN hr h.lt
  refine ⟨h2.low.setCell h.ge _, h.ge, by rw [World.size_setCell]; exact h2.lt, fun j => by rw [frozen_set]; exact h2.fro j, World.cell?_setCell_same' _ _ _ (by rw [h2.c0]; rfl), ?_, ?_, own_keep (A.own_base hr (by omega)) hfv _, own_keep h2.ro h.fo _, hfv, h.fo, fun b hb e => ?_⟩
  · rw [World.cell?_setCell_other _ _ _ _ (by simp)]; exact h2.c1
  · rw [World.cell?_setCell_other _ _ _ _ (by simp)]; exact h2.c2
  · have h3 := (hr.lt b hb).1
    have h4 := (h.ro.lt b e).2
    omega
/-- An act is done. -/
theorem XN.mark {g c n k : Nat} (h : XN y W xb (.slice (some ⟨g, 0, none⟩) n c) vn vo bs ns) : XN y (W.setCell ⟨g, k, none⟩ (.bool true)) xb (.slice (some ⟨g, 0, none⟩) n c) vn vo (bs.set k true) ns := by
  have hn : n = bs.length := by
    rcases h.rd.2 with ⟨e, e2⟩ | ⟨g', cap, cur, e, -⟩
    · cases e
    · simp only [Value.slice.injEq] at e; exact e.2.1
  subst hn
  have hgx : g ≠ xb := fun e => h.fd (by rw [← e]; rfl)
  have hgB := (h.rd.lt g rfl).1
  refine ⟨h.low.setCell hgB _, h.ge, by rw [World.size_setCell]; exact h.lt, fun j => by rw [frozen_set]; exact h.fro j, ?_, ?_, ?_, ?_, own_keep h.ro (h.ap g rfl) _, h.fd, h.fo, h.ap⟩
  · rw [World.cell?_setCell_far _ ⟨g, k, none⟩ ⟨xb, 0, none⟩ _ hgx]; exact h.c0
  · rw [World.cell?_setCell_far _ ⟨g, k, none⟩ ⟨xb, 1, none⟩ _ hgx]; exact h.c1
  · rw [World.cell?_setCell_far _ ⟨g, k, none⟩ ⟨xb, 2, none⟩ _ hgx]; exact h.c2
  · have := (h.rd.stored k (.bool true)).1
    rw [List.length_set, List.map_set]
    exact this
/-- The order's row is laid. -/
theorem XN.setO (h : XN y W xb vd vn vo bs ns) (hb : Below W.heap.size W W') {ns' : List Nat} (hr : W'.ownsRow W.heap.size 3 1 v ns'.length (ns'.map nV)) : XN y (W'.setCell ⟨xb, 2, none⟩ v) xb vd vn v bs ns' := by
  have h2 := h.below hb
  have hlt := h.lt
  have hge := h.ge
  have hls := h.low.size
  have hfv : v.ownBlock ≠ some xb := own_farN hr h.lt
  refine ⟨h2.low.setCell h.ge _, h.ge, by rw [World.size_setCell]; exact h2.lt, fun j => by rw [frozen_set]; exact h2.fro j, ?_, ?_, World.cell?_setCell_same' _ _ _ (by rw [h2.c2]; rfl), own_keep h2.rd h.fd _, own_keep (A.own_base hr (by omega)) hfv _, h.fd, hfv, fun b hb e => ?_⟩
  · rw [World.cell?_setCell_other _ _ _ _ (by simp)]; exact h2.c0
  · rw [World.cell?_setCell_other _ _ _ _ (by simp)]; exact h2.c1
  · have h3 := (hr.lt b e).1
    have h4 := (h.rd.lt b hb).2
    omega
/-- The order grows. -/
theorem XN.grow (h : XN y W xb vd vn vo bs ns) (hg : W.grownBy W' vo.ownBlock) {k g c : Nat} (hr : W'.ownsRow y.heap.size 3 1 (.slice (some ⟨g, 0, none⟩) (ns.length + 1) c) (ns.length + 1) (ns.map nV ++ [nV k])) (hat : vo.ownBlock = some g ∨ g = W.heap.size) :
    XN y (W'.setCell ⟨xb, 2, none⟩ (.slice (some ⟨g, 0, none⟩) (ns.length + 1) c)) xb vd vn (.slice (some ⟨g, 0, none⟩) (ns.length + 1) c) bs (ns ++ [k]) := by
  have hlt := h.lt
  have hge := h.ge
  have hls := h.low.size
  have hcell : ∀ j u, W.cell? ⟨xb, j, none⟩ = some u → W'.cell? ⟨xb, j, none⟩ = some u := fun j u hu => (World.cell?_of_block (a := ⟨xb, j, none⟩) (hg.block xb h.lt (Ne.symm h.fo))).trans hu
  have hfg : g ≠ xb := by
    rcases hat with e | e
    · intro e2; exact h.fo (by rw [e, e2])
    · omega
  have hfv : (Value.slice (some ⟨g, 0, none⟩) (ns.length + 1) c).ownBlock ≠ some xb := by simp [Value.ownBlock, hfg]
  have hlow : Below y.heap.size y W' := by
    refine ⟨hg.os.trans h.low.os, hg.tape.trans h.low.tape, hg.output.trans h.low.output, Nat.le_trans h.low.size hg.size, fun i hi => (hg.block i (by omega) ?_).trans (h.low.block i hi)⟩
    intro e
    have := (h.ro.lt i e.symm).1
    omega
  have hrd : W'.ownsRow y.heap.size 4 1 vd bs.length (bs.map bV) := h.rd.kept hg (by
    cases hv : vd.ownBlock with
    | none => exact .inl rfl
    | some b => exact .inr (fun e => h.ap b hv e.symm))
  refine ⟨hlow.setCell h.ge _, h.ge, by rw [World.size_setCell]; exact Nat.lt_of_lt_of_le h.lt hg.size, fun j => by rw [frozen_set]; exact (World.frozen?_of_block (a := ⟨xb, j, none⟩) (hg.block xb h.lt (Ne.symm h.fo))).trans (h.fro j), ?_, ?_, World.cell?_setCell_same' _ _ _ (by rw [hcell _ _ h.c2]; rfl), own_keep hrd h.fd _, ?_, h.fd, hfv, fun b hb e => ?_⟩
  · rw [World.cell?_setCell_other _ _ _ _ (by simp)]; exact hcell _ _ h.c0
  · rw [World.cell?_setCell_other _ _ _ _ (by simp)]; exact hcell _ _ h.c1
  · have := own_keep (j := 2) hr hfv (.slice (some ⟨g, 0, none⟩) (ns.length + 1) c)
    rw [List.length_append, List.length_singleton, List.map_append]
    exact this
  · have e2 : g = b := by simpa [Value.ownBlock] using e
    subst e2
    rcases hat with e3 | e3
    · exact h.ap g hb e3
    · have := (h.rd.lt g hb).2
      omega
/-- The node, as it then lies: whatever becomes of a block that was there before. -/
theorem XN.node {l n d cd cn co lo3 : Nat} {ad an ao : Option Addr} {s : List At} {ob : Option Nat} (h : XN y W xb (.slice ad l cd) (.slice an n cn) (.slice ao lo3 co) (bits l d) ns) (hs : ∀ w1 : World, (∀ b o v, ob ≠ some b → W.cell? ⟨b, o, none⟩ = some v → w1.cell? ⟨b, o, none⟩ = some v) → AtsV w1 an n cn s) (hob : ∀ g, ob = some g → g < y.heap.size) :
    lo3 = ns.length ∧ Kp ob W (NdV l n ⟨ad, cd, an, cn, ao, ns.length, co⟩ ⟨d, s, ns⟩) := by
  have hlo : lo3 = ns.length := by
    rcases h.ro.2 with ⟨e, e2⟩ | ⟨g', cap, cur, e, -⟩
    · simp only [Value.slice.injEq] at e; omega
    · simp only [Value.slice.injEq] at e; exact e.2.1
  subst hlo
  refine ⟨rfl, fun w1 hk => ⟨?_, hs w1 hk, ?_⟩⟩
  · have hr := h.rd
    rw [bits_len] at hr
    have hrm := A.own_room hr
    rcases hr.2 with ⟨e, e2⟩ | ⟨g, cap, cur, e, -⟩
    · simp only [Value.slice.injEq] at e
      obtain ⟨rfl, rfl, rfl⟩ := e
      exact ⟨fun _ => ⟨rfl, rfl⟩, hrm, .inl rfl⟩
    · simp only [Value.slice.injEq] at e
      obtain ⟨rfl, -, rfl⟩ := e
      refine ⟨fun e => (by cases e), hrm, .inr ⟨g, 0, rfl, fun i hi => hk _ _ _ (fun e => ?_) ?_⟩⟩
      · have h1 := hob g e
        have h2 := (hr.lt g rfl).1
        omega
      · rw [Nat.zero_add, hr.cellAt i (by omega), List.getElem?_map]
        have h3 : i < (bits l d).length := by rw [bits_len]; exact hi
        have := bits_at (d := d) hi
        simp only [List.getD, List.getElem?_eq_getElem h3, Option.getD_some] at this
        rw [List.getElem?_eq_getElem h3, this]
        rfl
  · have hr := h.ro
    have hrm := A.own_room hr
    rcases hr.2 with ⟨e, e2⟩ | ⟨g, cap, cur, e, -⟩
    · simp only [Value.slice.injEq] at e
      obtain ⟨rfl, h0, rfl⟩ := e
      exact ⟨fun _ => ⟨h0, rfl⟩, rfl, hrm, .inl h0⟩
    · simp only [Value.slice.injEq] at e
      obtain ⟨rfl, -, rfl⟩ := e
      refine ⟨fun e => (by cases e), rfl, hrm, .inr ⟨g, 0, rfl, fun i hi => hk _ _ _ (fun e => ?_) ?_⟩⟩
      · have h1 := hob g e
        have h2 := (hr.lt g rfl).1
        omega
      · have hi' : i < ns.length := hi
        rw [Nat.zero_add, hr.cellAt i (by omega), List.getElem?_map]
        simp [List.getD, hi']
end Go.Proofs.Ytafdjmccgijmnaa

/- The document's next: the nodes that one more act leads to. -/
namespace Go.Proofs.Ytafdjmccgijmnaa
open Go.RowKit A Go.Maps
set_option linter.unusedVariables false
set_option linter.unusedSimpArgs false
theorem infoNode : (Try.prog.info? 97).map (fun i => (i.zero, i.size, i.bytes)) = some (some (.agg #[.slice none 0 0, .slice none 0 0, .slice none 0 0]), 3, 72) := by kernel_rfl
theorem infoIntN : (Try.prog.info? 3).map (fun i => (i.zero, i.size, i.bytes)) = some (some (.int .i64 0), 1, 8) := by kernel_rfl
theorem BoolsV.src {w : World} {a : Option Addr} {l c d : Nat} (h : BoolsV w a l c d) : ((bits l d).map bV).length = l * 1 ∧ (∀ ad, a = some ad → ∀ j u, ((bits l d).map bV)[j]? = some u → w.cell? (ad.add j) = some u) ∧ ∀ u ∈ (bits l d).map bV, u.oneCell' = true := by
  refine ⟨by rw [List.length_map, bits_len, Nat.mul_one], fun ad e j u hu => ?_, fun u hu => ?_⟩
  · have hj : j < l := by
      have := (List.getElem?_eq_some_iff.1 hu).1
      rw [List.length_map, bits_len] at this
      exact this
    obtain ⟨b, off, e2, hc⟩ := h.at hj
    rw [e] at e2
    cases e2
    have h3 : j < (bits l d).length := by rw [bits_len]; exact hj
    have h4 := bits_at (d := d) hj
    simp only [List.getD, List.getElem?_eq_getElem h3, Option.getD_some] at h4
    rw [List.getElem?_map, List.getElem?_eq_getElem h3, h4] at hu
    simp only [Addr.add_lit]
    rw [hc, ← hu]
    rfl
  · obtain ⟨b, -, rfl⟩ := List.mem_map.1 hu
    rfl
theorem OsnV.src {w : World} {a : Option Addr} {l c : Nat} {ns : List Nat} (h : OsnV w a l c ns) : (ns.map nV).length = l * 1 ∧ (∀ ad, a = some ad → ∀ j u, (ns.map nV)[j]? = some u → w.cell? (ad.add j) = some u) ∧ ∀ u ∈ ns.map nV, u.oneCell' = true := by
  have hl := h.nv.count
  refine ⟨by rw [List.length_map, hl, Nat.mul_one], fun ad e j u hu => ?_, fun u hu => ?_⟩
  · have hj : j < l := by
      have := (List.getElem?_eq_some_iff.1 hu).1
      rw [List.length_map, hl] at this
      exact this
    obtain ⟨b, off, e2, hc⟩ := h.nv.at hj
    rw [e] at e2
    cases e2
    rw [List.getElem?_map] at hu
    simp only [Addr.add_lit]
    rw [hc, ← hu]
    simp [List.getD, show j < ns.length by omega, nV]
  · obtain ⟨b, -, rfl⟩ := List.mem_map.1 hu
    rfl
theorem H.cnt_mono (d : Nat) {a b : Nat} (h : a ≤ b) : H.cnt d a ≤ H.cnt d b := by
  induction b with
  | zero => obtain rfl : a = 0 := by omega
            exact Nat.le_refl _
  | succ b ih =>
    by_cases e : a = b + 1
    · rw [e]; exact Nat.le_refl _
    · have := ih (by omega)
      rw [H.cnt_succ]
      omega
theorem row_at0 {w : World} {B : Nat} {e : TypeId} {k n c m : Nat} {a : Option Addr} {cs : List Value} (h : w.ownsRow B e k (.slice a n c) m cs) (h0 : 0 < m) : ∃ g, a = some ⟨g, 0, none⟩ := by
  rcases h.2 with ⟨e1, e2⟩ | ⟨g, cap, cur, e1, -⟩
  · omega
  · simp only [Value.slice.injEq] at e1
    exact ⟨g, e1.1⟩
/-- What stays as it is while the nodes are made. -/
def CK (bx l n : Nat) (q : Q3) (x : H.Nd) (aa : Option Addr) (cc : Nat) (ts : List H.Ac) (W : World) : Prop := (W.cell? ⟨bx, 0, none⟩ = some (.slice q.ad l q.cd) ∧ W.cell? ⟨bx, 1, none⟩ = some (.slice q.an n q.cn) ∧ W.cell? ⟨bx, 2, none⟩ = some (.slice q.ao q.lo q.co)) ∧ NdV l n q x W ∧ ActsV W aa l cc ts
def FrOk (ts : List H.Ac) (d k : Nat) (tb fr : Bool) (j : Nat) : Prop := fr = true → tb = false ∧ ∀ j', j' < j → (d.testBit j' || (decide (j' = k) || !((ts.getD j' H.noAc).ahead (ts.getD k H.noAc)))) = true
def NxOut (B : Nat) (w : World) (os : List At) (ts : List H.Ac) (l n i m : Nat) (e : Ending) (W : World) : Prop := ∃ v qs xs, e = .returned v ∧ NRow B os ts l n i v qs xs W ∧ xs.length ≤ m ∧ Below B w W
set_option maxRecDepth 100000 in
set_option maxHeartbeats 16000000 in
theorem next_any {w : World} {B : Nat} {aa : Option Addr} {l cc n i : Nat} {ts : List H.Ac} {os : List At} {q : Q3} {x : H.Nd} {v : Value} {qs : List Q3} {xs : List H.Nd} (hA : Lw B w (fun W => ActsV W aa l cc ts)) (hx : Lw B w (NdV l n q x)) (hg : H.Good os ts i x) (hr : NRow B os ts l n (i + 1) v qs xs w) (hB : B ≤ w.heap.size) (hl12 : l ≤ 12) (hn : n ≤ 1048576) (hmay : H.mayH ts = true) (hargs : ∀ x ∈ ts, (Lit.int .i64 x.arg).wf = true) (hroom : xs.length + H.cnt x.d l ≤ 479001600) :
    Calls Try.prog 70 #[.slice aa l cc, q.v l n, v] w (NxOut B w os ts l n (i + 1) (xs.length + H.cnt x.d l)) := by
  obtain ⟨ib, hib, hzb0, hzb1, hzb2⟩ := hinfo infoBool
  obtain ⟨ii, hii9, hzi0, hzi1, hzi2⟩ := hinfo infoIntN
  obtain ⟨id9, hid9, hzd0, hzd1, hzd2⟩ := hinfo infoNode
  have HTC : Hid (ts.length = l) := hA.now.count
  have hmx := hA.now.room
  have hmd := hx.now.dn.room
  have hmn := hx.now.nw.room
  have hmo := hx.now.od.nv.room
  have HOC : Hid (x.o.length = q.lo) := hx.now.od.nv.count
  have hmax : maxLen = 9223372036854775807 := rfl
  have HGOOD : Hid (H.Good os ts i x) := hg
  have HBB : Hid (B ≤ w.heap.size) := hB
  have HMAY : Hid (H.mayH ts = true) := hmay
  have HARG : Hid (∀ x ∈ ts, (Lit.int .i64 x.arg).wf = true) := hargs
  obtain ⟨av, cpv, hv, hN1, hN2⟩ := hr.form
  subst hv
  have HR0 : Hid (NRow B os ts l n (i + 1) (.slice av xs.length cpv) qs xs w) := hr
  obtain ⟨N0, hN0⟩ : ∃ N, xs.length = N := ⟨_, rfl⟩
  have HN0 : Hid (xs.length = N0) := hN0
  rw [hN0] at HR0 hN1 hroom
  rw [hN0]
  have HROOM : Hid (N0 + H.cnt x.d l ≤ 479001600) := hroom
  obtain ⟨bx, hbx⟩ : ∃ bx, w.heap.size = bx := ⟨_, rfl⟩
  have hob0 : ∀ g, (Value.slice av N0 cpv).ownBlock = some g → g < w.heap.size := HR0.out.lt
  have hfar0 : ∀ g, (Value.slice av N0 cpv).ownBlock = some g → B ≤ g := HR0.out.far
  obtain ⟨Y0, hY0⟩ : ∃ Y, w.alloc (.cells #[.slice q.ad l q.cd, .slice q.an n q.cn, .slice q.ao q.lo q.co] 97) = Y := ⟨_, rfl⟩
  have hby : Below w.heap.size w Y0 := by rw [← hY0]; exact hbl1 _ _
  have HB0 : Hid (Below B w Y0) := hby.mono hB
  have HCK0 : Hid (Kp (Value.slice av N0 cpv).ownBlock Y0 (CK bx l n q x aa cc ts)) := by
    have h1 := (hx.below hby hB).kp hfar0
    have h2 := (hA.below hby hB).kp hfar0
    have h3 : Kp (Value.slice av N0 cpv).ownBlock Y0 (fun W => W.cell? ⟨bx, 0, none⟩ = some (.slice q.ad l q.cd) ∧ W.cell? ⟨bx, 1, none⟩ = some (.slice q.an n q.cn) ∧ W.cell? ⟨bx, 2, none⟩ = some (.slice q.ao q.lo q.co)) := fun w1 hk => by
      have hne : (Value.slice av N0 cpv).ownBlock ≠ some bx := fun e => by have := hob0 bx e; omega
      subst hbx
      exact ⟨hk _ _ _ hne (by rw [← hY0]; exact ncell_at rfl), hk _ _ _ hne (by rw [← hY0]; exact ncell_at rfl), hk _ _ _ hne (by rw [← hY0]; exact ncell_at rfl)⟩
    exact h3.and (h1.and h2)
  have HR1 : Hid (NRow B os ts l n (i + 1) (.slice av N0 cpv) qs xs Y0) := HR0.out.below hby
  clear hA hx hg hr hB hmay hargs hN0 hroom HR0 hob0 hfar0 hby
  obtain ⟨ad, cd, an, cn, ao, lo3, co⟩ := q
  obtain ⟨d, s, o⟩ := x
  simp only at HOC HROOM hmd hmn hmo hY0 HCK0
  unfold Q3.v
  simp only
  go_enter Try.func70, Try.ntmps70
  go_wp2_with fail
  try rw [hY0]
  try rw [hbx]
  clear hY0 hbx
  go_loopg [2, 7, 8, 9, 10, 11, 12, 13, 14] l (fun r z2 iv z8 z9 z10 z11 z12 z13 z14 wq => ∃ (k N : Nat) (a' : Option Addr) (cp' : Nat) (qs' : List Q3) (xs' : List H.Nd), r = l - k ∧ z2 = .slice a' N cp' ∧ iv = .int .i64 k ∧ k ≤ l ∧ N ≤ cp' ∧ cp' ≤ maxLen ∧ Hid (xs'.length = N) ∧ Hid (NRow B os ts l n (i + 1) (.slice a' N cp') qs' xs' wq) ∧ Hid (N ≤ N0 + H.cnt d k) ∧ Hid (Below B w wq) ∧ Hid (Kp (Value.slice a' N cp').ownBlock wq (CK bx l n ⟨ad, cd, an, cn, ao, lo3, co⟩ ⟨d, s, o⟩ aa cc ts)))
  case atStart => exact ⟨0, N0, av, cpv, qs, xs, rfl, rfl, rfl, Nat.zero_le _, hN1, hN2, HN0, HR1, Nat.le_add_right _ _, HB0, HCK0⟩
  case round =>
    obtain ⟨k, N, a', cp', qs', xs', rfl, rfl, rfl, hk, hNc, hcm, HNL, HROW, HCN, HB, HCK⟩ := hrel
    by_cases hkl : k < l
    · have hki : (k : Int) < l := by omega
      have hk0 : 0 ≤ (k : Int) := by omega
      obtain ⟨⟨g0, g1, g2⟩, hnd, hac⟩ := HCK.out.now
      obtain ⟨bd, od, e1, cj⟩ := hnd.dn.at hkl
      obtain ⟨b, off, e2, q0, q1, q2, q3, q4, q5, q6⟩ := hac.at hkl
      simp only at e1 g0 g1 g2 cj
      subst e1 e2
      have HBS : Hid (B ≤ wr.heap.size) := Nat.le_trans HBB.out HB.out.size
      have HXARG : Hid ((Lit.int .i64 (ts.getD k H.noAc).arg).wf = true) := HARG.out _ (by simp [List.getD, show k < ts.length by rw [HTC.out]; exact hkl])
      obtain ⟨W2, hW2⟩ : ∃ q, q = wr := ⟨_, rfl⟩
      subst hW2
      have HTB : Hid (d.testBit k = d.testBit k) := rfl
      obtain ⟨tb, htb⟩ : ∃ tb, d.testBit k = tb := ⟨_, rfl⟩
      have HTB : Hid (d.testBit k = tb) := htb
      rw [htb] at cj
      clear htb hnd hac q0 q1 q2 q3 q4 q5 q6
      go_wp2_with fail
      clear cj g0 g1 g2
      go_loopg [8, 9] l (fun r z8 iv wq => ∃ (j : Nat) (fr : Bool), r = l - j ∧ z8 = .bool fr ∧ iv = .int .i64 j ∧ j ≤ l ∧ Hid (FrOk ts d k tb fr j) ∧ Hid (Below W2.heap.size W2 wq))
      case atStart => exact ⟨0, !tb, rfl, rfl, rfl, Nat.zero_le _, (fun e => ⟨by simpa using e, fun j hj => by omega⟩ : FrOk ts d k tb (!tb) 0), Below.refl _ _⟩
      case round =>
        obtain ⟨j, fr, rfl, rfl, rfl, hj, HFR, HBJ⟩ := hrel
        cases fr with
        | false =>
          have HBX : Hid (Below W2.heap.size W2 wr) := HBJ
          by_cases hjl : j < l
          · have hji : (j : Int) < l := by omega
            have HR2 : Hid (NRow B os ts l n (i + 1) (.slice a' N cp') qs' xs' wr) := HROW.out.below HBX.out
            have HC2 : Hid (Kp (Value.slice a' N cp').ownBlock wr (CK bx l n ⟨some ⟨bd, od, none⟩, cd, an, cn, ao, lo3, co⟩ ⟨d, s, o⟩ (some ⟨b, off, none⟩) cc ts)) := HCK.out.below HBX.out
            have HB2 : Hid (Below B w wr) := HB.out.trans (HBX.out.mono HBS.out)
            have HN5 : Hid (N ≤ N0 + H.cnt d (k + 1)) := by
              show _ ≤ _
              rw [H.cnt_succ]
              have := HCN.out
              omega
            go_wp2_with fail
            go_roundg (l - (k + 1))
            case measure => omega
            case rel => exact ⟨k + 1, N, a', cp', qs', xs', rfl, rfl, by go_num, by omega, hNc, hcm, HNL, HR2, HN5, HB2, HC2⟩
          · have hji : ¬ (j : Int) < l := by omega
            have HR2 : Hid (NRow B os ts l n (i + 1) (.slice a' N cp') qs' xs' wr) := HROW.out.below HBX.out
            have HC2 : Hid (Kp (Value.slice a' N cp').ownBlock wr (CK bx l n ⟨some ⟨bd, od, none⟩, cd, an, cn, ao, lo3, co⟩ ⟨d, s, o⟩ (some ⟨b, off, none⟩) cc ts)) := HCK.out.below HBX.out
            have HB2 : Hid (Below B w wr) := HB.out.trans (HBX.out.mono HBS.out)
            have HN5 : Hid (N ≤ N0 + H.cnt d (k + 1)) := by
              show _ ≤ _
              rw [H.cnt_succ]
              have := HCN.out
              omega
            go_wp2_with fail
            go_roundg (l - (k + 1))
            case measure => omega
            case rel => exact ⟨k + 1, N, a', cp', qs', xs', rfl, rfl, by go_num, by omega, hNc, hcm, HNL, HR2, HN5, HB2, HC2⟩
        | true =>
        obtain ⟨htb, hfb⟩ := HFR.out rfl
        have HFJ : Hid (∀ j', j' < j → (d.testBit j' || (decide (j' = k) || !((ts.getD j' H.noAc).ahead (ts.getD k H.noAc)))) = true) := hfb
        subst htb
        clear hfb HFR
        by_cases hjl : j < l
        · have hji : (j : Int) < l := by omega
          have hj0 : 0 ≤ (j : Int) := by omega
          obtain ⟨⟨g0, g1, g2⟩, hnd, hac⟩ := (HCK.out.below HBJ.out).now
          obtain ⟨bd', od', e1, cj⟩ := hnd.dn.at hjl
          obtain ⟨b', off', e2, p0, p1, p2, p3, p4, p5, p6⟩ := hac.at hjl
          obtain ⟨b'', off'', e3, q0, q1, q2, q3, q4, q5, q6⟩ := hac.at hkl
          simp only at e1 g0 g1 g2 cj
          cases e1
          cases e2
          cases e3
          have HNX : Hid ((d.testBit j || (decide (j = k) || !((ts.getD j H.noAc).ahead (ts.getD k H.noAc)))) = true → ∀ j', j' < j + 1 → (d.testBit j' || (decide (j' = k) || !((ts.getD j' H.noAc).ahead (ts.getD k H.noAc)))) = true) := fun e j' hj' => by
            by_cases e2 : j' = j
            · subst e2; exact e
            · exact HFJ.out j' (by omega)
          have HBJ2 : Hid (Below W2.heap.size W2 wr.drew) := HBJ.out.drew
          obtain ⟨tj, htj⟩ : ∃ tb, d.testBit j = tb := ⟨_, rfl⟩
          rw [htj] at cj HNX
          clear htj hnd hac g1 g2
          cases tj with
          | true =>
            have HN2 : Hid (FrOk ts d k false true (j + 1)) := fun _ => ⟨rfl, HNX.out rfl⟩
            have HS : Hid (wr.drew.cell? ⟨bx, 0, none⟩ = some (.slice (some ⟨bd, od, none⟩) l cd) ∧ wr.drew.cell? ⟨bd, od + j, none⟩ = some (.bool true)) := by
              simp only [World.cell?_drew]
              exact ⟨g0, cj⟩
            clear p0 p1 p2 p3 p4 p5 p6 q0 q1 q2 q3 q4 q5 q6 cj g0 HNX
            go_wp2_with fail
            refine wp_region_held_drew (S := (fun w' : World => w'.cell? ⟨bx, 0, none⟩ = some (.slice (some ⟨bd, od, none⟩) l cd) ∧ w'.cell? ⟨bd, od + j, none⟩ = some (.bool true))) (by kernel_rfl) HS.out (fun hHeld => ?_)
            refine tk (i := 0) (v := ?_) (tA rfl) (by kernel_rfl) (fun _ _ _ h => h) (Or.inl ⟨by rfl, ?_⟩) (by assumption) ?_
            rotate_left
            · (intro w hSw; (try dsimp only at hSw); go_simp <;> with_reducible rfl)
            simp only [Act.put, List.setIfInBounds_toArray, List.set_cons_zero, List.set_cons_succ]
            refine tk (i := 1) (v := ?_) (tA rfl) (by kernel_rfl) (fun _ _ _ h => h) (Or.inl ⟨by rfl, ?_⟩) (by assumption) ?_
            rotate_left
            · (intro w hSw; (try dsimp only at hSw); go_simp <;> with_reducible rfl)
            simp only [Act.put, List.setIfInBounds_toArray, List.set_cons_zero, List.set_cons_succ]
            refine tk (i := 2) (v := ?_) (tA rfl) (by kernel_rfl) (fun _ _ _ h => h) (Or.inl ⟨by rfl, ?_⟩) (by assumption) ?_
            rotate_left
            · (intro w hSw; (try dsimp only at hSw); go_simp <;> with_reducible rfl)
            simp only [Act.put, List.setIfInBounds_toArray, List.set_cons_zero, List.set_cons_succ]
            refine tk (i := 3) (v := ?_) (tA rfl) (by kernel_rfl) (fun _ _ _ h => h) (Or.inl ⟨by rfl, ?_⟩) (by assumption) ?_
            rotate_left
            · (intro w hSw; (try dsimp only at hSw); go_simp <;> with_reducible rfl)
            simp only [Act.put, List.setIfInBounds_toArray, List.set_cons_zero, List.set_cons_succ]
            refine tk (i := 4) (v := ?_) (tA rfl) (by kernel_rfl) (fun _ _ _ h => h) (Or.inl ⟨by rfl, ?_⟩) (by assumption) ?_
            rotate_left
            · (intro w hSw; (try dsimp only at hSw); go_simp <;> with_reducible rfl)
            simp only [Act.put, List.setIfInBounds_toArray, List.set_cons_zero, List.set_cons_succ]
            refine tk (i := 5) (v := ?_) (tA rfl) (by kernel_rfl) (fun _ _ _ h => h) (Or.inl ⟨by rfl, ?_⟩) (by assumption) ?_
            rotate_left
            · (intro w hSw; (try dsimp only at hSw); go_simp <;> with_reducible rfl)
            simp only [Act.put, List.setIfInBounds_toArray, List.set_cons_zero, List.set_cons_succ]
            refine tk (i := 6) (v := undef) (tA rfl) (by kernel_rfl) (fun _ _ _ h => h) (Or.inr ⟨by rfl, rfl⟩) (by assumption) ?_
            simp only [Act.put, List.setIfInBounds_toArray, List.set_cons_zero, List.set_cons_succ]
            refine tk (i := 7) (v := undef) (tA rfl) (by kernel_rfl) (fun _ _ _ h => h) (Or.inr ⟨by rfl, rfl⟩) (by assumption) ?_
            simp only [Act.put, List.setIfInBounds_toArray, List.set_cons_zero, List.set_cons_succ]
            refine tk (i := 8) (v := undef) (tA rfl) (by kernel_rfl) (fun _ _ _ h => h) (Or.inr ⟨by rfl, rfl⟩) (by assumption) ?_
            simp only [Act.put, List.setIfInBounds_toArray, List.set_cons_zero, List.set_cons_succ]
            refine tk (i := 9) (v := ?_) (tA rfl) (by kernel_rfl) (fun _ _ _ h => h) (Or.inl ⟨by rfl, ?_⟩) (by assumption) ?_
            rotate_left
            · (intro w hSw; (try dsimp only at hSw); go_simp <;> with_reducible rfl)
            simp only [Act.put, List.setIfInBounds_toArray, List.set_cons_zero, List.set_cons_succ]
            refine tk (i := 10) (v := ?_) (tA rfl) (by kernel_rfl) (fun _ _ _ h => h) (Or.inl ⟨by rfl, ?_⟩) (by assumption) ?_
            rotate_left
            · (intro w hSw; (try dsimp only at hSw); go_simp <;> with_reducible rfl)
            simp only [Act.put, List.setIfInBounds_toArray, List.set_cons_zero, List.set_cons_succ]
            refine tk (i := 11) (v := undef) (tA rfl) (by kernel_rfl) (fun _ _ _ h => h) (Or.inr ⟨by rfl, rfl⟩) (by assumption) ?_
            simp only [Act.put, List.setIfInBounds_toArray, List.set_cons_zero, List.set_cons_succ]
            refine tk (i := 12) (v := undef) (tA rfl) (by kernel_rfl) (fun _ _ _ h => h) (Or.inr ⟨by rfl, rfl⟩) (by assumption) ?_
            simp only [Act.put, List.setIfInBounds_toArray, List.set_cons_zero, List.set_cons_succ]
            refine tk (i := 13) (v := undef) (tA rfl) (by kernel_rfl) (fun _ _ _ h => h) (Or.inr ⟨by rfl, rfl⟩) (by assumption) ?_
            simp only [Act.put, List.setIfInBounds_toArray, List.set_cons_zero, List.set_cons_succ]
            refine tk (i := 14) (v := undef) (tA rfl) (by kernel_rfl) (fun _ _ _ h => h) (Or.inr ⟨by rfl, rfl⟩) (by assumption) ?_
            simp only [Act.put, List.setIfInBounds_toArray, List.set_cons_zero, List.set_cons_succ]
            refine tk (i := 15) (v := undef) (tA rfl) (by kernel_rfl) (fun _ _ _ h => h) (Or.inr ⟨by rfl, rfl⟩) (by assumption) ?_
            simp only [Act.put, List.setIfInBounds_toArray, List.set_cons_zero, List.set_cons_succ]
            refine tk (i := 16) (v := undef) (tA rfl) (by kernel_rfl) (fun _ _ _ h => h) (Or.inr ⟨by rfl, rfl⟩) (by assumption) ?_
            simp only [Act.put, List.setIfInBounds_toArray, List.set_cons_zero, List.set_cons_succ]
            refine tk (i := 17) (v := undef) (tA rfl) (by kernel_rfl) (fun _ _ _ h => h) (Or.inr ⟨by rfl, rfl⟩) (by assumption) ?_
            simp only [Act.put, List.setIfInBounds_toArray, List.set_cons_zero, List.set_cons_succ]
            refine tk (i := 18) (v := undef) (tA rfl) (by kernel_rfl) (fun _ _ _ h => h) (Or.inr ⟨by rfl, rfl⟩) (by assumption) ?_
            simp only [Act.put, List.setIfInBounds_toArray, List.set_cons_zero, List.set_cons_succ]
            refine tk (i := 19) (v := undef) (tA rfl) (by kernel_rfl) (fun _ _ _ h => h) (Or.inr ⟨by rfl, rfl⟩) (by assumption) ?_
            simp only [Act.put, List.setIfInBounds_toArray, List.set_cons_zero, List.set_cons_succ]
            refine tk (i := 20) (v := undef) (tA rfl) (by kernel_rfl) (fun _ _ _ h => h) (Or.inr ⟨by rfl, rfl⟩) (by assumption) ?_
            simp only [Act.put, List.setIfInBounds_toArray, List.set_cons_zero, List.set_cons_succ]
            refine tk (i := 21) (v := ?_) (tA rfl) (by kernel_rfl) (fun _ _ _ h => h) (Or.inl ⟨by rfl, ?_⟩) (by assumption) ?_
            rotate_left
            · (intro w hSw; (try dsimp only at hSw); go_simp <;> with_reducible rfl)
            simp only [Act.put, List.setIfInBounds_toArray, List.set_cons_zero, List.set_cons_succ]
            refine tk (i := 22) (v := ?_) (tA rfl) (by kernel_rfl) (fun _ _ _ h => h) (Or.inl ⟨by rfl, ?_⟩) (by assumption) ?_
            rotate_left
            · (intro w hSw; (try dsimp only at hSw); go_simp <;> with_reducible rfl)
            simp only [Act.put, List.setIfInBounds_toArray, List.set_cons_zero, List.set_cons_succ]
            refine wpAnyH_done (by kernel_rfl) ?_ _
            clear hHeld
            go_wp2_with fail
            go_roundg (l - (j + 1))
            case measure => omega
            case rel => exact ⟨j + 1, true, rfl, rfl, by go_num, by omega, HN2, HBJ2.out⟩
          | false =>
          by_cases hjk : j = k
          · have HN2 : Hid (FrOk ts d k false true (j + 1)) := fun _ => ⟨rfl, HNX.out (by rw [decide_eq_true hjk]; rfl)⟩
            have HS : Hid (wr.drew.cell? ⟨bx, 0, none⟩ = some (.slice (some ⟨bd, od, none⟩) l cd) ∧ wr.drew.cell? ⟨bd, od + j, none⟩ = some (.bool false)) := by
              simp only [World.cell?_drew]
              exact ⟨g0, cj⟩
            have e1 : ((j : Int) == (k : Int)) = true := by rw [hjk]; simp
            clear p0 p1 p2 p3 p4 p5 p6 q0 q1 q2 q3 q4 q5 q6 cj g0 HNX hjk
            go_wp2_with fail
            refine wp_region_held_drew (S := (fun w' : World => w'.cell? ⟨bx, 0, none⟩ = some (.slice (some ⟨bd, od, none⟩) l cd) ∧ w'.cell? ⟨bd, od + j, none⟩ = some (.bool false))) (by kernel_rfl) HS.out (fun hHeld => ?_)
            refine tk (i := 0) (v := ?_) (tA rfl) (by kernel_rfl) (fun _ _ _ h => h) (Or.inl ⟨by rfl, ?_⟩) (by assumption) ?_
            rotate_left
            · (intro w hSw; (try dsimp only at hSw); go_simp <;> with_reducible rfl)
            simp only [Act.put, List.setIfInBounds_toArray, List.set_cons_zero, List.set_cons_succ]
            refine tk (i := 1) (v := ?_) (tA rfl) (by kernel_rfl) (fun _ _ _ h => h) (Or.inl ⟨by rfl, ?_⟩) (by assumption) ?_
            rotate_left
            · (intro w hSw; (try dsimp only at hSw); go_simp <;> with_reducible rfl)
            simp only [Act.put, List.setIfInBounds_toArray, List.set_cons_zero, List.set_cons_succ]
            refine tk (i := 2) (v := ?_) (tA rfl) (by kernel_rfl) (fun _ _ _ h => h) (Or.inl ⟨by rfl, ?_⟩) (by assumption) ?_
            rotate_left
            · (intro w hSw; (try dsimp only at hSw); go_simp <;> with_reducible rfl)
            simp only [Act.put, List.setIfInBounds_toArray, List.set_cons_zero, List.set_cons_succ]
            refine tk (i := 3) (v := ?_) (tA rfl) (by kernel_rfl) (fun _ _ _ h => h) (Or.inl ⟨by rfl, ?_⟩) (by assumption) ?_
            rotate_left
            · (intro w hSw; (try dsimp only at hSw); go_simp <;> with_reducible rfl)
            simp only [Act.put, List.setIfInBounds_toArray, List.set_cons_zero, List.set_cons_succ]
            refine tk (i := 4) (v := ?_) (tA rfl) (by kernel_rfl) (fun _ _ _ h => h) (Or.inl ⟨by rfl, ?_⟩) (by assumption) ?_
            rotate_left
            · (intro w hSw; (try dsimp only at hSw); go_simp <;> with_reducible rfl)
            simp only [Act.put, List.setIfInBounds_toArray, List.set_cons_zero, List.set_cons_succ]
            refine tk (i := 5) (v := ?_) (tA rfl) (by kernel_rfl) (fun _ _ _ h => h) (Or.inl ⟨by rfl, ?_⟩) (by assumption) ?_
            rotate_left
            · (intro w hSw; (try dsimp only at hSw); go_simp <;> with_reducible rfl)
            simp only [Act.put, List.setIfInBounds_toArray, List.set_cons_zero, List.set_cons_succ]
            refine tk (i := 6) (v := ?_) (tA rfl) (by kernel_rfl) (fun _ _ _ h => h) (Or.inl ⟨by rfl, ?_⟩) (by assumption) ?_
            rotate_left
            · (intro w hSw; (try dsimp only at hSw); go_simp <;> with_reducible rfl)
            simp only [Act.put, List.setIfInBounds_toArray, List.set_cons_zero, List.set_cons_succ]
            refine tk (i := 7) (v := ?_) (tA rfl) (by kernel_rfl) (fun _ _ _ h => h) (Or.inl ⟨by rfl, ?_⟩) (by assumption) ?_
            rotate_left
            · (intro w hSw; (try dsimp only at hSw); go_simp <;> with_reducible rfl)
            simp only [Act.put, List.setIfInBounds_toArray, List.set_cons_zero, List.set_cons_succ]
            refine tk (i := 8) (v := ?_) (tA rfl) (by kernel_rfl) (fun _ _ _ h => h) (Or.inl ⟨by rfl, ?_⟩) (by assumption) ?_
            rotate_left
            · (intro w hSw; (try dsimp only at hSw); go_simp <;> with_reducible rfl)
            simp only [Act.put, List.setIfInBounds_toArray, List.set_cons_zero, List.set_cons_succ]
            refine tk (i := 9) (v := ?_) (tA rfl) (by kernel_rfl) (fun _ _ _ h => h) (Or.inl ⟨by rfl, ?_⟩) (by assumption) ?_
            rotate_left
            · (intro w hSw; (try dsimp only at hSw); go_simp <;> with_reducible rfl)
            simp only [Act.put, List.setIfInBounds_toArray, List.set_cons_zero, List.set_cons_succ]
            refine tk (i := 10) (v := ?_) (tA rfl) (by kernel_rfl) (fun _ _ _ h => h) (Or.inl ⟨by rfl, ?_⟩) (by assumption) ?_
            rotate_left
            · (intro w hSw; (try dsimp only at hSw); go_simp <;> with_reducible rfl)
            simp only [Act.put, List.setIfInBounds_toArray, List.set_cons_zero, List.set_cons_succ]
            refine tk (i := 11) (v := undef) (tA rfl) (by kernel_rfl) (fun _ _ _ h => h) (Or.inr ⟨by rfl, rfl⟩) (by assumption) ?_
            simp only [Act.put, List.setIfInBounds_toArray, List.set_cons_zero, List.set_cons_succ]
            refine tk (i := 12) (v := undef) (tA rfl) (by kernel_rfl) (fun _ _ _ h => h) (Or.inr ⟨by rfl, rfl⟩) (by assumption) ?_
            simp only [Act.put, List.setIfInBounds_toArray, List.set_cons_zero, List.set_cons_succ]
            refine tk (i := 13) (v := undef) (tA rfl) (by kernel_rfl) (fun _ _ _ h => h) (Or.inr ⟨by rfl, rfl⟩) (by assumption) ?_
            simp only [Act.put, List.setIfInBounds_toArray, List.set_cons_zero, List.set_cons_succ]
            refine tk (i := 14) (v := undef) (tA rfl) (by kernel_rfl) (fun _ _ _ h => h) (Or.inr ⟨by rfl, rfl⟩) (by assumption) ?_
            simp only [Act.put, List.setIfInBounds_toArray, List.set_cons_zero, List.set_cons_succ]
            refine tk (i := 15) (v := undef) (tA rfl) (by kernel_rfl) (fun _ _ _ h => h) (Or.inr ⟨by rfl, rfl⟩) (by assumption) ?_
            simp only [Act.put, List.setIfInBounds_toArray, List.set_cons_zero, List.set_cons_succ]
            refine tk (i := 16) (v := undef) (tA rfl) (by kernel_rfl) (fun _ _ _ h => h) (Or.inr ⟨by rfl, rfl⟩) (by assumption) ?_
            simp only [Act.put, List.setIfInBounds_toArray, List.set_cons_zero, List.set_cons_succ]
            refine tk (i := 17) (v := undef) (tA rfl) (by kernel_rfl) (fun _ _ _ h => h) (Or.inr ⟨by rfl, rfl⟩) (by assumption) ?_
            simp only [Act.put, List.setIfInBounds_toArray, List.set_cons_zero, List.set_cons_succ]
            refine tk (i := 18) (v := undef) (tA rfl) (by kernel_rfl) (fun _ _ _ h => h) (Or.inr ⟨by rfl, rfl⟩) (by assumption) ?_
            simp only [Act.put, List.setIfInBounds_toArray, List.set_cons_zero, List.set_cons_succ]
            refine tk (i := 19) (v := undef) (tA rfl) (by kernel_rfl) (fun _ _ _ h => h) (Or.inr ⟨by rfl, rfl⟩) (by assumption) ?_
            simp only [Act.put, List.setIfInBounds_toArray, List.set_cons_zero, List.set_cons_succ]
            refine tk (i := 20) (v := undef) (tA rfl) (by kernel_rfl) (fun _ _ _ h => h) (Or.inr ⟨by rfl, rfl⟩) (by assumption) ?_
            simp only [Act.put, List.setIfInBounds_toArray, List.set_cons_zero, List.set_cons_succ]
            refine tk (i := 21) (v := ?_) (tA rfl) (by kernel_rfl) (fun _ _ _ h => h) (Or.inl ⟨by rfl, ?_⟩) (by assumption) ?_
            rotate_left
            · (intro w hSw; (try dsimp only at hSw); go_simp <;> with_reducible rfl)
            simp only [Act.put, List.setIfInBounds_toArray, List.set_cons_zero, List.set_cons_succ]
            refine tk (i := 22) (v := ?_) (tA rfl) (by kernel_rfl) (fun _ _ _ h => h) (Or.inl ⟨by rfl, ?_⟩) (by assumption) ?_
            rotate_left
            · (intro w hSw; (try dsimp only at hSw); go_simp <;> with_reducible rfl)
            simp only [Act.put, List.setIfInBounds_toArray, List.set_cons_zero, List.set_cons_succ]
            refine wpAnyH_done (by kernel_rfl) ?_ _
            clear hHeld
            go_wp2_with fail
            go_roundg (l - (j + 1))
            case measure => omega
            case rel => exact ⟨j + 1, true, rfl, rfl, by go_num, by omega, HN2, HBJ2.out⟩
          have e1 : ((j : Int) == (k : Int)) = false := by have : ¬ (j : Int) = k := by omega
                                                           simpa using this
          rw [decide_eq_false hjk] at HNX
          clear hjk
          have hah := rahead_any (ts.getD j H.noAc) (ts.getD k H.noAc) wr.drew
          obtain ⟨r, hr⟩ : ∃ r, (ts.getD j H.noAc).ahead (ts.getD k H.noAc) = r := ⟨_, rfl⟩
          rw [hr] at hah HNX
          clear hr
          have HN2 : Hid (FrOk ts d k false (!r) (j + 1)) := fun e => ⟨rfl, HNX.out (by rw [e]; rfl)⟩
          obtain ⟨x, hx⟩ : ∃ x, ts.getD j H.noAc = x := ⟨_, rfl⟩
          obtain ⟨z, hz⟩ : ∃ x, ts.getD k H.noAc = x := ⟨_, rfl⟩
          rw [hx] at p0 p1 p2 p3 p4 p5 p6 hah
          rw [hz] at q0 q1 q2 q3 q4 q5 q6 hah
          clear hx hz
          have HS : Hid ((wr.drew.cell? ⟨bx, 0, none⟩ = some (.slice (some ⟨bd, od, none⟩) l cd) ∧ wr.drew.cell? ⟨bd, od + j, none⟩ = some (.bool false)) ∧ (wr.drew.cell? ⟨b, off + j * 7, none⟩ = some (.int .i64 x.th) ∧ wr.drew.cell? ⟨b, off + j * 7 + 1, none⟩ = some (.int .i64 x.dd) ∧ wr.drew.cell? ⟨b, off + j * 7 + 2, none⟩ = some (.string x.nm) ∧ wr.drew.cell? ⟨b, off + j * 7 + 3, none⟩ = some (.int .i64 x.arg) ∧ wr.drew.cell? ⟨b, off + j * 7 + 4, none⟩ = some (.int .i64 x.call) ∧ wr.drew.cell? ⟨b, off + j * 7 + 5, none⟩ = some (.int .i64 x.back) ∧ wr.drew.cell? ⟨b, off + j * 7 + 6, none⟩ = some (.int .i64 x.ans)) ∧ wr.drew.cell? ⟨b, off + k * 7, none⟩ = some (.int .i64 z.th) ∧ wr.drew.cell? ⟨b, off + k * 7 + 1, none⟩ = some (.int .i64 z.dd) ∧ wr.drew.cell? ⟨b, off + k * 7 + 2, none⟩ = some (.string z.nm) ∧ wr.drew.cell? ⟨b, off + k * 7 + 3, none⟩ = some (.int .i64 z.arg) ∧ wr.drew.cell? ⟨b, off + k * 7 + 4, none⟩ = some (.int .i64 z.call) ∧ wr.drew.cell? ⟨b, off + k * 7 + 5, none⟩ = some (.int .i64 z.back) ∧ wr.drew.cell? ⟨b, off + k * 7 + 6, none⟩ = some (.int .i64 z.ans)) := by
            simp only [World.cell?_drew]
            exact ⟨⟨g0, cj⟩, ⟨p0, p1, p2, p3, p4, p5, p6⟩, q0, q1, q2, q3, q4, q5, q6⟩
          have HKEEP : Hid (∀ y, Below wr.drew.heap.size wr.drew y → (y.cell? ⟨bx, 0, none⟩ = some (.slice (some ⟨bd, od, none⟩) l cd) ∧ y.cell? ⟨bd, od + j, none⟩ = some (.bool false)) ∧ (y.cell? ⟨b, off + j * 7, none⟩ = some (.int .i64 x.th) ∧ y.cell? ⟨b, off + j * 7 + 1, none⟩ = some (.int .i64 x.dd) ∧ y.cell? ⟨b, off + j * 7 + 2, none⟩ = some (.string x.nm) ∧ y.cell? ⟨b, off + j * 7 + 3, none⟩ = some (.int .i64 x.arg) ∧ y.cell? ⟨b, off + j * 7 + 4, none⟩ = some (.int .i64 x.call) ∧ y.cell? ⟨b, off + j * 7 + 5, none⟩ = some (.int .i64 x.back) ∧ y.cell? ⟨b, off + j * 7 + 6, none⟩ = some (.int .i64 x.ans)) ∧ y.cell? ⟨b, off + k * 7, none⟩ = some (.int .i64 z.th) ∧ y.cell? ⟨b, off + k * 7 + 1, none⟩ = some (.int .i64 z.dd) ∧ y.cell? ⟨b, off + k * 7 + 2, none⟩ = some (.string z.nm) ∧ y.cell? ⟨b, off + k * 7 + 3, none⟩ = some (.int .i64 z.arg) ∧ y.cell? ⟨b, off + k * 7 + 4, none⟩ = some (.int .i64 z.call) ∧ y.cell? ⟨b, off + k * 7 + 5, none⟩ = some (.int .i64 z.back) ∧ y.cell? ⟨b, off + k * 7 + 6, none⟩ = some (.int .i64 z.ans)) := fun y hy => by
            obtain ⟨⟨a8, a7⟩, ⟨a0, a1, a2, a3, a4, a5, a6⟩, a9, a10, a11, a12, a13, a14, a15⟩ := HS.out
            exact ⟨⟨hcell_thru hy a8, hcell_thru hy a7⟩, ⟨hcell_thru hy a0, hcell_thru hy a1, hcell_thru hy a2, hcell_thru hy a3, hcell_thru hy a4, hcell_thru hy a5, hcell_thru hy a6⟩, hcell_thru hy a9, hcell_thru hy a10, hcell_thru hy a11, hcell_thru hy a12, hcell_thru hy a13, hcell_thru hy a14, hcell_thru hy a15⟩
          clear p0 p1 p2 p3 p4 p5 p6 q0 q1 q2 q3 q4 q5 q6 cj g0 HBJ2 HNX
          obtain ⟨th, dd, nm, arg, call, back, ans⟩ := x
          obtain ⟨th2, dd2, nm2, arg2, call2, back2, ans2⟩ := z
          unfold H.Ac.v at hah
          simp only at hah HS HKEEP
          go_wp2_with fail
          refine wp_region_held_drew (S := (fun w' : World => (w'.cell? ⟨bx, 0, none⟩ = some (.slice (some ⟨bd, od, none⟩) l cd) ∧ w'.cell? ⟨bd, od + j, none⟩ = some (.bool false)) ∧ (w'.cell? ⟨b, off + j * 7, none⟩ = some (.int .i64 th) ∧ w'.cell? ⟨b, off + j * 7 + 1, none⟩ = some (.int .i64 dd) ∧ w'.cell? ⟨b, off + j * 7 + 2, none⟩ = some (.string nm) ∧ w'.cell? ⟨b, off + j * 7 + 3, none⟩ = some (.int .i64 arg) ∧ w'.cell? ⟨b, off + j * 7 + 4, none⟩ = some (.int .i64 call) ∧ w'.cell? ⟨b, off + j * 7 + 5, none⟩ = some (.int .i64 back) ∧ w'.cell? ⟨b, off + j * 7 + 6, none⟩ = some (.int .i64 ans)) ∧ w'.cell? ⟨b, off + k * 7, none⟩ = some (.int .i64 th2) ∧ w'.cell? ⟨b, off + k * 7 + 1, none⟩ = some (.int .i64 dd2) ∧ w'.cell? ⟨b, off + k * 7 + 2, none⟩ = some (.string nm2) ∧ w'.cell? ⟨b, off + k * 7 + 3, none⟩ = some (.int .i64 arg2) ∧ w'.cell? ⟨b, off + k * 7 + 4, none⟩ = some (.int .i64 call2) ∧ w'.cell? ⟨b, off + k * 7 + 5, none⟩ = some (.int .i64 back2) ∧ w'.cell? ⟨b, off + k * 7 + 6, none⟩ = some (.int .i64 ans2))) (by kernel_rfl) HS.out (fun hHeld => ?_)
          refine tk (i := 0) (v := ?_) (tA rfl) (by kernel_rfl) (fun _ _ _ h => h) (Or.inl ⟨by rfl, ?_⟩) (by assumption) ?_
          rotate_left
          · (intro w hSw; (try dsimp only at hSw); go_simp <;> with_reducible rfl)
          simp only [Act.put, List.setIfInBounds_toArray, List.set_cons_zero, List.set_cons_succ]
          refine tk (i := 1) (v := ?_) (tA rfl) (by kernel_rfl) (fun _ _ _ h => h) (Or.inl ⟨by rfl, ?_⟩) (by assumption) ?_
          rotate_left
          · (intro w hSw; (try dsimp only at hSw); go_simp <;> with_reducible rfl)
          simp only [Act.put, List.setIfInBounds_toArray, List.set_cons_zero, List.set_cons_succ]
          refine tk (i := 2) (v := ?_) (tA rfl) (by kernel_rfl) (fun _ _ _ h => h) (Or.inl ⟨by rfl, ?_⟩) (by assumption) ?_
          rotate_left
          · (intro w hSw; (try dsimp only at hSw); go_simp <;> with_reducible rfl)
          simp only [Act.put, List.setIfInBounds_toArray, List.set_cons_zero, List.set_cons_succ]
          refine tk (i := 3) (v := ?_) (tA rfl) (by kernel_rfl) (fun _ _ _ h => h) (Or.inl ⟨by rfl, ?_⟩) (by assumption) ?_
          rotate_left
          · (intro w hSw; (try dsimp only at hSw); go_simp <;> with_reducible rfl)
          simp only [Act.put, List.setIfInBounds_toArray, List.set_cons_zero, List.set_cons_succ]
          refine tk (i := 4) (v := ?_) (tA rfl) (by kernel_rfl) (fun _ _ _ h => h) (Or.inl ⟨by rfl, ?_⟩) (by assumption) ?_
          rotate_left
          · (intro w hSw; (try dsimp only at hSw); go_simp <;> with_reducible rfl)
          simp only [Act.put, List.setIfInBounds_toArray, List.set_cons_zero, List.set_cons_succ]
          refine tk (i := 5) (v := ?_) (tA rfl) (by kernel_rfl) (fun _ _ _ h => h) (Or.inl ⟨by rfl, ?_⟩) (by assumption) ?_
          rotate_left
          · (intro w hSw; (try dsimp only at hSw); go_simp <;> with_reducible rfl)
          simp only [Act.put, List.setIfInBounds_toArray, List.set_cons_zero, List.set_cons_succ]
          refine tk (i := 6) (v := ?_) (tA rfl) (by kernel_rfl) (fun _ _ _ h => h) (Or.inl ⟨by rfl, ?_⟩) (by assumption) ?_
          rotate_left
          · (intro w hSw; (try dsimp only at hSw); go_simp <;> with_reducible rfl)
          simp only [Act.put, List.setIfInBounds_toArray, List.set_cons_zero, List.set_cons_succ]
          refine tk (i := 7) (v := ?_) (tA rfl) (by kernel_rfl) (fun _ _ _ h => h) (Or.inl ⟨by rfl, ?_⟩) (by assumption) ?_
          rotate_left
          · (intro w hSw; (try dsimp only at hSw); go_simp <;> with_reducible rfl)
          simp only [Act.put, List.setIfInBounds_toArray, List.set_cons_zero, List.set_cons_succ]
          refine tk (i := 8) (v := ?_) (tA rfl) (by kernel_rfl) (fun _ _ _ h => h) (Or.inl ⟨by rfl, ?_⟩) (by assumption) ?_
          rotate_left
          · (intro w hSw; (try dsimp only at hSw); go_simp <;> with_reducible rfl)
          simp only [Act.put, List.setIfInBounds_toArray, List.set_cons_zero, List.set_cons_succ]
          refine tk (i := 9) (v := ?_) (tA rfl) (by kernel_rfl) (fun _ _ _ h => h) (Or.inl ⟨by rfl, ?_⟩) (by assumption) ?_
          rotate_left
          · (intro w hSw; (try dsimp only at hSw); go_simp <;> with_reducible rfl)
          simp only [Act.put, List.setIfInBounds_toArray, List.set_cons_zero, List.set_cons_succ]
          refine tk (i := 10) (v := ?_) (tA rfl) (by kernel_rfl) (fun _ _ _ h => h) (Or.inl ⟨by rfl, ?_⟩) (by assumption) ?_
          rotate_left
          · (intro w hSw; (try dsimp only at hSw); go_simp <;> with_reducible rfl)
          simp only [Act.put, List.setIfInBounds_toArray, List.set_cons_zero, List.set_cons_succ]
          refine tk (i := 11) (v := ?_) (tA rfl) (by kernel_rfl) (fun _ _ _ h => h) (Or.inl ⟨by rfl, ?_⟩) (by assumption) ?_
          rotate_left
          · (intro w hSw; (try dsimp only at hSw); go_simp <;> with_reducible rfl)
          simp only [Act.put, List.setIfInBounds_toArray, List.set_cons_zero, List.set_cons_succ]
          refine tk (i := 12) (v := ?_) (tA rfl) (by kernel_rfl) (fun _ _ _ h => h) (Or.inl ⟨by rfl, ?_⟩) (by assumption) ?_
          rotate_left
          · (intro w hSw; (try dsimp only at hSw); go_simp <;> with_reducible rfl)
          simp only [Act.put, List.setIfInBounds_toArray, List.set_cons_zero, List.set_cons_succ]
          refine tk (i := 13) (v := ?_) (tA rfl) (by kernel_rfl) (fun _ _ _ h => h) (Or.inl ⟨by rfl, ?_⟩) (by assumption) ?_
          rotate_left
          · (intro w hSw; (try dsimp only at hSw); go_simp <;> with_reducible rfl)
          simp only [Act.put, List.setIfInBounds_toArray, List.set_cons_zero, List.set_cons_succ]
          refine tk (i := 14) (v := ?_) (tA rfl) (by kernel_rfl) (fun _ _ _ h => h) (Or.inl ⟨by rfl, ?_⟩) (by assumption) ?_
          rotate_left
          · (intro w hSw; (try dsimp only at hSw); go_simp <;> with_reducible rfl)
          simp only [Act.put, List.setIfInBounds_toArray, List.set_cons_zero, List.set_cons_succ]
          refine tk (i := 15) (v := ?_) (tA rfl) (by kernel_rfl) (fun _ _ _ h => h) (Or.inl ⟨by rfl, ?_⟩) (by assumption) ?_
          rotate_left
          · (intro w hSw; (try dsimp only at hSw); go_simp <;> with_reducible rfl)
          simp only [Act.put, List.setIfInBounds_toArray, List.set_cons_zero, List.set_cons_succ]
          refine tk (i := 16) (v := ?_) (tA rfl) (by kernel_rfl) (fun _ _ _ h => h) (Or.inl ⟨by rfl, ?_⟩) (by assumption) ?_
          rotate_left
          · (intro w hSw; (try dsimp only at hSw); go_simp <;> with_reducible rfl)
          simp only [Act.put, List.setIfInBounds_toArray, List.set_cons_zero, List.set_cons_succ]
          refine tk (i := 17) (v := ?_) (tA rfl) (by kernel_rfl) (fun _ _ _ h => h) (Or.inl ⟨by rfl, ?_⟩) (by assumption) ?_
          rotate_left
          · (intro w hSw; (try dsimp only at hSw); go_simp <;> with_reducible rfl)
          simp only [Act.put, List.setIfInBounds_toArray, List.set_cons_zero, List.set_cons_succ]
          refine tk (i := 18) (v := ?_) (tA rfl) (by kernel_rfl) (fun _ _ _ h => h) (Or.inl ⟨by rfl, ?_⟩) (by assumption) ?_
          rotate_left
          · (intro w hSw; (try dsimp only at hSw); go_simp <;> with_reducible rfl)
          simp only [Act.put, List.setIfInBounds_toArray, List.set_cons_zero, List.set_cons_succ]
          refine wpAnyH_ready (rs := [19]) (by kernel_rfl) (by simp) ?_
          refine AllReadyH.cons (tA rfl) (fun K hK => ?_) AllReadyH.nil
          go_simp
          refine hah.mono ?_
          rintro e y ⟨rfl, hy⟩
          have HY : Hid (Below wr.heap.size wr y) := (Below.refl _ _).drew.trans hy
          have HS2 : Hid _ := HKEEP.out y hy
          clear hy hah
          try go_wp2_with fail
          refine hK.out _ _ HS2.out (fun hHeld => ?_)
          clear hK K
          try simp only [Act.put, List.setIfInBounds_toArray, List.set_cons_zero, List.set_cons_succ]
          refine tk (i := 20) (v := ?_) (tA rfl) (by kernel_rfl) (fun _ _ _ h => h) (Or.inl ⟨by rfl, ?_⟩) (by assumption) ?_
          rotate_left
          · (intro w hSw; (try dsimp only at hSw); go_simp <;> with_reducible rfl)
          simp only [Act.put, List.setIfInBounds_toArray, List.set_cons_zero, List.set_cons_succ]
          refine tk (i := 21) (v := ?_) (tA rfl) (by kernel_rfl) (fun _ _ _ h => h) (Or.inl ⟨by rfl, ?_⟩) (by assumption) ?_
          rotate_left
          · (intro w hSw; (try dsimp only at hSw); go_simp <;> with_reducible rfl)
          simp only [Act.put, List.setIfInBounds_toArray, List.set_cons_zero, List.set_cons_succ]
          refine tk (i := 22) (v := ?_) (tA rfl) (by kernel_rfl) (fun _ _ _ h => h) (Or.inl ⟨by rfl, ?_⟩) (by assumption) ?_
          rotate_left
          · (intro w hSw; (try dsimp only at hSw); go_simp <;> with_reducible rfl)
          simp only [Act.put, List.setIfInBounds_toArray, List.set_cons_zero, List.set_cons_succ]
          refine wpAnyH_done (by kernel_rfl) ?_ _
          clear hHeld
          have HBJ2 : Hid (Below W2.heap.size W2 y) := HBJ.out.trans (HY.out.mono HBJ.out.size)
          go_wp2_with fail
          go_roundg (l - (j + 1))
          case measure => omega
          case rel => exact ⟨j + 1, !r, rfl, rfl, by go_num, by omega, HN2, HBJ2.out⟩
        · have hjj2 : j = l := by omega
          subst hjj2
          have hjj : ¬ (j : Int) < j := by omega
          have HFB : Hid (H.firstB ts d k = true) := by
            show _ = _
            unfold H.firstB
            rw [HTC.out]
            exact A.all_range_yes HFJ.out
          clear HFJ
          obtain ⟨W3, hW3⟩ : ∃ q, q = wr := ⟨_, rfl⟩
          subst hW3
          obtain ⟨⟨g0, g1, g2⟩, hnd, hac⟩ := (HCK.out.below HBJ.out).now
          obtain ⟨b', off', e2, p0, p1, p2, p3, p4, p5, p6⟩ := hac.at hkl
          simp only at g0 g1 g2
          cases e2
          have hdo := rhdo_any (AtsV.below hnd.nw (w1 := W3.drew) (Below.refl _ _).drew) hn (may_items HGOOD.out.may) (ts.getD k H.noAc) HXARG.out
          simp only at hdo
          have HGS : Hid (H.goes s (ts.getD k H.noAc) = true → H.Good os ts (i + 1) ⟨H.wth d k, (H.made s (ts.getD k H.noAc)).1, o ++ [k]⟩) := fun e => H.good_step HMAY.out HGOOD.out (by rw [HTC.out]; exact hkl) HTB.out HFB.out e
          obtain ⟨x, hx⟩ : ∃ x, ts.getD k H.noAc = x := ⟨_, rfl⟩
          rw [hx] at p0 p1 p2 p3 p4 p5 p6 hdo HGS
          clear hx
          obtain ⟨s2, hs2⟩ : ∃ s2, (H.made s x).1 = s2 := ⟨_, rfl⟩
          obtain ⟨gs, hgs⟩ : ∃ gs, H.goes s x = gs := ⟨_, rfl⟩
          rw [hs2, hgs] at hdo HGS
          clear hs2 hgs
          have HS : Hid (W3.drew.cell? ⟨bx, 1, none⟩ = some (.slice an n cn) ∧ W3.drew.cell? ⟨b, off + k * 7, none⟩ = some (.int .i64 x.th) ∧ W3.drew.cell? ⟨b, off + k * 7 + 1, none⟩ = some (.int .i64 x.dd) ∧ W3.drew.cell? ⟨b, off + k * 7 + 2, none⟩ = some (.string x.nm) ∧ W3.drew.cell? ⟨b, off + k * 7 + 3, none⟩ = some (.int .i64 x.arg) ∧ W3.drew.cell? ⟨b, off + k * 7 + 4, none⟩ = some (.int .i64 x.call) ∧ W3.drew.cell? ⟨b, off + k * 7 + 5, none⟩ = some (.int .i64 x.back) ∧ W3.drew.cell? ⟨b, off + k * 7 + 6, none⟩ = some (.int .i64 x.ans)) := by
            simp only [World.cell?_drew]
            exact ⟨g1, p0, p1, p2, p3, p4, p5, p6⟩
          have HKEEP : Hid (∀ y, Below W3.drew.heap.size W3.drew y → y.cell? ⟨bx, 1, none⟩ = some (.slice an n cn) ∧ y.cell? ⟨b, off + k * 7, none⟩ = some (.int .i64 x.th) ∧ y.cell? ⟨b, off + k * 7 + 1, none⟩ = some (.int .i64 x.dd) ∧ y.cell? ⟨b, off + k * 7 + 2, none⟩ = some (.string x.nm) ∧ y.cell? ⟨b, off + k * 7 + 3, none⟩ = some (.int .i64 x.arg) ∧ y.cell? ⟨b, off + k * 7 + 4, none⟩ = some (.int .i64 x.call) ∧ y.cell? ⟨b, off + k * 7 + 5, none⟩ = some (.int .i64 x.back) ∧ y.cell? ⟨b, off + k * 7 + 6, none⟩ = some (.int .i64 x.ans)) := fun y hy => by
            obtain ⟨a8, a0, a1, a2, a3, a4, a5, a6⟩ := HS.out
            exact ⟨hcell_thru hy a8, hcell_thru hy a0, hcell_thru hy a1, hcell_thru hy a2, hcell_thru hy a3, hcell_thru hy a4, hcell_thru hy a5, hcell_thru hy a6⟩
          clear p0 p1 p2 p3 p4 p5 p6 g0 g1 g2 hnd hac
          obtain ⟨th, dd, nm, arg, call, back, ans⟩ := x
          unfold H.Ac.v at hdo
          simp only at hdo HS HKEEP
          go_wp2_with fail
          refine wp_region_held_drew (S := (fun w' : World => w'.cell? ⟨bx, 1, none⟩ = some (.slice an n cn) ∧ w'.cell? ⟨b, off + k * 7, none⟩ = some (.int .i64 th) ∧ w'.cell? ⟨b, off + k * 7 + 1, none⟩ = some (.int .i64 dd) ∧ w'.cell? ⟨b, off + k * 7 + 2, none⟩ = some (.string nm) ∧ w'.cell? ⟨b, off + k * 7 + 3, none⟩ = some (.int .i64 arg) ∧ w'.cell? ⟨b, off + k * 7 + 4, none⟩ = some (.int .i64 call) ∧ w'.cell? ⟨b, off + k * 7 + 5, none⟩ = some (.int .i64 back) ∧ w'.cell? ⟨b, off + k * 7 + 6, none⟩ = some (.int .i64 ans))) (by kernel_rfl) HS.out (fun hHeld => ?_)
          refine tk (i := 0) (v := ?_) (tA rfl) (by kernel_rfl) (fun _ _ _ h => h) (Or.inl ⟨by rfl, ?_⟩) (by assumption) ?_
          rotate_left
          · (intro w hSw; (try dsimp only at hSw); go_simp <;> with_reducible rfl)
          simp only [Act.put, List.setIfInBounds_toArray, List.set_cons_zero, List.set_cons_succ]
          refine tk (i := 1) (v := ?_) (tA rfl) (by kernel_rfl) (fun _ _ _ h => h) (Or.inl ⟨by rfl, ?_⟩) (by assumption) ?_
          rotate_left
          · (intro w hSw; (try dsimp only at hSw); go_simp <;> with_reducible rfl)
          simp only [Act.put, List.setIfInBounds_toArray, List.set_cons_zero, List.set_cons_succ]
          refine tk (i := 2) (v := ?_) (tA rfl) (by kernel_rfl) (fun _ _ _ h => h) (Or.inl ⟨by rfl, ?_⟩) (by assumption) ?_
          rotate_left
          · (intro w hSw; (try dsimp only at hSw); go_simp <;> with_reducible rfl)
          simp only [Act.put, List.setIfInBounds_toArray, List.set_cons_zero, List.set_cons_succ]
          refine tk (i := 3) (v := ?_) (tA rfl) (by kernel_rfl) (fun _ _ _ h => h) (Or.inl ⟨by rfl, ?_⟩) (by assumption) ?_
          rotate_left
          · (intro w hSw; (try dsimp only at hSw); go_simp <;> with_reducible rfl)
          simp only [Act.put, List.setIfInBounds_toArray, List.set_cons_zero, List.set_cons_succ]
          refine tk (i := 4) (v := ?_) (tA rfl) (by kernel_rfl) (fun _ _ _ h => h) (Or.inl ⟨by rfl, ?_⟩) (by assumption) ?_
          rotate_left
          · (intro w hSw; (try dsimp only at hSw); go_simp <;> with_reducible rfl)
          simp only [Act.put, List.setIfInBounds_toArray, List.set_cons_zero, List.set_cons_succ]
          refine tk (i := 5) (v := ?_) (tA rfl) (by kernel_rfl) (fun _ _ _ h => h) (Or.inl ⟨by rfl, ?_⟩) (by assumption) ?_
          rotate_left
          · (intro w hSw; (try dsimp only at hSw); go_simp <;> with_reducible rfl)
          simp only [Act.put, List.setIfInBounds_toArray, List.set_cons_zero, List.set_cons_succ]
          refine wpAnyH_ready (rs := [6]) (by kernel_rfl) (by simp) ?_
          refine AllReadyH.cons (tA rfl) (fun K hK => ?_) AllReadyH.nil
          go_simp
          refine hdo.mono ?_
          rintro e y ⟨a3, c3, rfl, hst, hy⟩
          have HST : Hid (Stay W3.drew.heap.size y a3 n c3 s2) := hst
          have HYD : Hid (Below W3.drew.heap.size W3.drew y) := hy
          have HY : Hid (Below W3.heap.size W3 y) := (Below.refl _ _).drew.trans hy
          have HS2 : Hid _ := HKEEP.out y hy
          clear hy hst hdo
          try go_wp2_with fail
          refine hK.out _ _ HS2.out (fun hHeld => ?_)
          clear hK K
          try simp only [Act.put, List.setIfInBounds_toArray, List.set_cons_zero, List.set_cons_succ]
          refine tk (i := 7) (v := ?_) (tA rfl) (by kernel_rfl) (fun _ _ _ h => h) (Or.inl ⟨by rfl, ?_⟩) (by assumption) ?_
          rotate_left
          · (intro w hSw; (try dsimp only at hSw); go_simp <;> with_reducible rfl)
          simp only [Act.put, List.setIfInBounds_toArray, List.set_cons_zero, List.set_cons_succ]
          refine tk (i := 8) (v := ?_) (tA rfl) (by kernel_rfl) (fun _ _ _ h => h) (Or.inl ⟨by rfl, ?_⟩) (by assumption) ?_
          rotate_left
          · (intro w hSw; (try dsimp only at hSw); go_simp <;> with_reducible rfl)
          simp only [Act.put, List.setIfInBounds_toArray, List.set_cons_zero, List.set_cons_succ]
          refine tk (i := 9) (v := ?_) (tA rfl) (by kernel_rfl) (fun _ _ _ h => h) (Or.inl ⟨by rfl, ?_⟩) (by assumption) ?_
          rotate_left
          · (intro w hSw; (try dsimp only at hSw); go_simp <;> with_reducible rfl)
          simp only [Act.put, List.setIfInBounds_toArray, List.set_cons_zero, List.set_cons_succ]
          refine tk (i := 10) (v := ?_) (tA rfl) (by kernel_rfl) (fun _ _ _ h => h) (Or.inl ⟨by rfl, ?_⟩) (by assumption) ?_
          rotate_left
          · (intro w hSw; (try dsimp only at hSw); go_simp <;> with_reducible rfl)
          simp only [Act.put, List.setIfInBounds_toArray, List.set_cons_zero, List.set_cons_succ]
          refine tk (i := 11) (v := ?_) (tA rfl) (by kernel_rfl) (fun _ _ _ h => h) (Or.inl ⟨by rfl, ?_⟩) (by assumption) ?_
          rotate_left
          · (intro w hSw; (try dsimp only at hSw); go_simp <;> with_reducible rfl)
          simp only [Act.put, List.setIfInBounds_toArray, List.set_cons_zero, List.set_cons_succ]
          refine wpAnyH_done (by kernel_rfl) ?_ _
          clear hHeld
          cases gs with
          | false =>
            have HBX : Hid (Below W2.heap.size W2 y) := HBJ.out.trans (HY.out.mono HBJ.out.size)
            have HR2 : Hid (NRow B os ts j n (i + 1) (.slice a' N cp') qs' xs' y) := HROW.out.below HBX.out
            have HC2 : Hid (Kp (Value.slice a' N cp').ownBlock y (CK bx j n ⟨some ⟨bd, od, none⟩, cd, an, cn, ao, lo3, co⟩ ⟨d, s, o⟩ (some ⟨b, off, none⟩) cc ts)) := HCK.out.below HBX.out
            have HB2 : Hid (Below B w y) := HB.out.trans (HBX.out.mono HBS.out)
            have HN5 : Hid (N ≤ N0 + H.cnt d (k + 1)) := by
              show _ ≤ _
              rw [H.cnt_succ]
              have := HCN.out
              omega
            go_wp2_with fail
            go_roundg (j - (k + 1))
            case measure => omega
            case rel => exact ⟨k + 1, N, a', cp', qs', xs', rfl, rfl, by go_num, by omega, hNc, hcm, HNL, HR2, HN5, HB2, HC2⟩
          | true =>
            have HGN : Hid (H.Good os ts (i + 1) ⟨H.wth d k, s2, o ++ [k]⟩) := HGS.out rfl
            have HYW2 : Hid (Below W2.heap.size W2 y) := HBJ.out.trans (HY.out.mono HBJ.out.size)
            have HNP : Hid (N + 1 ≤ N0 + H.cnt d (k + 1)) := by
              show _ ≤ _
              rw [H.cnt_succ, HTB.out]
              have := HCN.out
              simp only [Bool.false_eq_true, if_false]
              omega
            have HNR : Hid (N + 1 ≤ 479001600) := by
              show _ ≤ _
              have h1 := HNP.out
              have h2 := HROOM.out
              have h3 := H.cnt_mono d (show k + 1 ≤ j by omega)
              omega
            have HOBW : Hid (∀ g, (Value.slice a' N cp').ownBlock = some g → g < W2.heap.size) := HROW.out.lt
            have HSZ : Hid (W2.heap.size ≤ W3.drew.heap.size ∧ W3.drew.heap.size ≤ y.heap.size) := ⟨by rw [World.size_drew]; exact HBJ.out.size, HYD.out.size⟩
            have HMD : Hid (j ≤ cd ∧ cd ≤ maxLen) := hmd
            have HMO : Hid (lo3 ≤ co ∧ co ≤ maxLen) := hmo
            have hlo12 : lo3 ≤ 12 := by
              have h1 := HGOOD.out.len
              have h2 := HGOOD.out.left
              rw [HTC.out] at h2
              rw [← HOC.out]
              simp only at h1 ⊢
              omega
            obtain ⟨⟨g0, g1, g2⟩, hnd, hac⟩ := (HCK.out.below HYW2.out).now
            simp only at g0 g1 g2
            have HND : Hid (NdV j n ⟨some ⟨bd, od, none⟩, cd, an, cn, ao, lo3, co⟩ ⟨d, s, o⟩ y) := hnd
            have HG2 : Hid (y.cell? ⟨bx, 2, none⟩ = some (.slice ao lo3 co)) := g2
            have hb1 : Below y.heap.size y (y.alloc (.cells #[.slice none 0 0, .slice a3 n c3, .slice none 0 0] 97)) := hbl1 _ _
            have HX1 : Hid (XN y (y.alloc (.cells #[.slice none 0 0, .slice a3 n c3, .slice none 0 0] 97)) y.heap.size (.slice none 0 0) (.slice a3 n c3) (.slice none 0 0) [] []) := XN.start y (.slice a3 n c3)
            have g0' := hcell_thru hb1 g0
            have HSRC : Hid _ := (hnd.dn.below hb1).src
            have HNIL : Hid ((some ⟨bd, od, none⟩ : Option Addr) = none → j = 0 ∧ cd = 0) := fun e => by cases e
            clear g0 g1 g2 hnd hac hb1
            go_wp2_with (first | (at_builtin; refine A.wpList_append_copy rfl _ _ 75 rfl 4 ib _ 1 1 Try.underlying75 hib hzb0 hzb1 hzb2 rfl (by decide) (a := some ⟨bd, od, none⟩) (l := j) (c := cd) (cs := (bits j d).map bV) rfl rfl HNIL.out HSRC.out.1 HSRC.out.2.1 HSRC.out.2.2 (by omega) (by omega) ?_) | fail)
            intro ar cr Z2 hr2 hb2
            rw [← show (y.alloc (.cells #[.slice none 0 0, .slice a3 n c3, .slice none 0 0] 97)).heap.size = y.heap.size + 1 by simp] at hr2 hb2
            have HX2 : Hid (XN y Z2 y.heap.size (.slice none 0 0) (.slice a3 n c3) (.slice none 0 0) [] []) := HX1.out.below hb2
            have hx3 : XN y (Z2.setCell ⟨y.heap.size, 0, none⟩ (.slice ar j cr)) y.heap.size (.slice ar j cr) (.slice a3 n c3) (.slice none 0 0) (bits j d) [] := HX1.out.setD hb2 (by rw [bits_len]; exact hr2)
            obtain ⟨gr, har⟩ : ∃ gr, ar = some ⟨gr, 0, none⟩ := row_at0 hr2 (by omega)
            subst har
            have zf2 := HX2.out.fro 0
            have zc2 := HX2.out.c0
            obtain ⟨Z3, hZ3⟩ : ∃ Z, Z2.setCell ⟨y.heap.size, 0, none⟩ (.slice (some ⟨gr, 0, none⟩) j cr) = Z := ⟨_, rfl⟩
            rw [hZ3] at hx3
            have z30 := hx3.c0
            have hrd3 := hx3.rd
            rw [bits_len] at hrd3
            have zf3 := hrd3.frozenAt k
            obtain ⟨uk, zc3⟩ : ∃ u, Z3.cell? ⟨gr, k, none⟩ = some u := A.row_some hrd3 (by omega)
            have hx4 := hx3.mark (k := k)
            rw [bits_set hkl] at hx4
            obtain ⟨Z4, hZ4⟩ : ∃ Z, Z3.setCell ⟨gr, k, none⟩ (.bool true) = Z := ⟨_, rfl⟩
            rw [hZ4] at hx4
            have HX4 : Hid (XN y Z4 y.heap.size (.slice (some ⟨gr, 0, none⟩) j cr) (.slice a3 n c3) (.slice none 0 0) (bits j (H.wth d k)) []) := hx4
            have z42 := hx4.c2
            have g24 := hcell_thru hx4.low HG2.out
            have HSRC4 : Hid _ := (HND.out.od.ext fun b o v hc => hcell_thru hx4.low hc).src
            have HNIL4 : Hid (ao = none → lo3 = 0 ∧ co = 0) := HND.out.od.nilOf
            have hjc : j ≤ cr := (A.own_room hrd3).1
            clear hx3 hx4 hrd3 hr2 hb2 g0' HX1 HX2 HSRC
            go_wp2_with (first | (at_builtin; refine A.wpList_append_copy rfl _ _ 27 rfl 3 ii _ 1 8 Try.underlying27 hii9 hzi0 hzi1 hzi2 rfl (by decide) (a := ao) (l := lo3) (c := co) (cs := o.map nV) rfl rfl HNIL4.out HSRC4.out.1 HSRC4.out.2.1 HSRC4.out.2.2 (by omega) (by omega) ?_) | fail)
            intro a5 c5 Z5 hr5 hb5
            have HX5 : Hid (XN y Z5 y.heap.size (.slice (some ⟨gr, 0, none⟩) j cr) (.slice a3 n c3) (.slice none 0 0) (bits j (H.wth d k)) []) := HX4.out.below hb5
            have hx6 : XN y (Z5.setCell ⟨y.heap.size, 2, none⟩ (.slice a5 lo3 c5)) y.heap.size (.slice (some ⟨gr, 0, none⟩) j cr) (.slice a3 n c3) (.slice a5 lo3 c5) (bits j (H.wth d k)) o := HX4.out.setO hb5 (by rw [HOC.out]; exact hr5)
            have zf5 := HX5.out.fro 2
            have zc5 := HX5.out.c2
            obtain ⟨Z6, hZ6⟩ : ∃ Z, Z5.setCell ⟨y.heap.size, 2, none⟩ (.slice a5 lo3 c5) = Z := ⟨_, rfl⟩
            rw [hZ6] at hx6
            have z62 := hx6.c2
            have h5r := A.own_room hr5
            have hb7 : Below Z6.heap.size Z6 (Z6.alloc (.cells #[.int .i64 k] 3)) := hbl1 _ _
            have HX7 : Hid (XN y (Z6.alloc (.cells #[.int .i64 k] 3)) y.heap.size (.slice (some ⟨gr, 0, none⟩) j cr) (.slice a3 n c3) (.slice a5 lo3 c5) (bits j (H.wth d k)) o) := hx6.below hb7
            have HRO7 : Hid ((Z6.alloc (.cells #[.int .i64 k] 3)).ownsRow y.heap.size 3 1 (.slice a5 lo3 c5) lo3 (o.map nV)) := by
              have := HX7.out.ro
              rw [HOC.out] at this
              exact this
            have HNW7 : Hid (∀ (j : Nat) u, ([.int .i64 k] : List Value)[j]? = some u → (Z6.alloc (.cells #[.int .i64 k] 3)).cell? ((⟨Z6.heap.size, 0, none⟩ : Addr).add j) = some u) := by
              intro j u hu
              rw [Addr.add_lit, Nat.zero_add]
              exact A.cell_last rfl (by simpa using hu)
            have HBS7 : Hid (y.heap.size ≤ (Z6.alloc (.cells #[.int .i64 k] 3)).heap.size) := HX7.out.low.size
            have HSZ6 : Hid (Z6.heap.size + 1 = (Z6.alloc (.cells #[.int .i64 k] 3)).heap.size) := by show _ = _; simp
            clear hx6 hr5 hb5 hb7 z42 g24 HX4 HX5 HSRC4 zf2 zc2 zf3 zc3 z30 hZ3 hZ4
            go_wp2_with (first | (at_builtin; refine wpList_append_lies _ rfl _ _ 27 rfl y.heap.size 3 ii _ 1 8 Try.underlying27 hii9 hzi0 hzi1 hzi2 rfl (by decide) (.slice a5 lo3 c5) lo3 (o.map nV) rfl HRO7.out ⟨Z6.heap.size, 0, none⟩ 1 1 [.int .i64 k] rfl rfl HNW7.out (by intro u hu; simp at hu; rw [hu]; rfl) (by decide) (by omega) (by omega) HBS7.out _ rfl ?_) | fail)
            intro g9 c9 Z8 ho8 hg8 hat8 hlt8
            have hx9 : XN y (Z8.setCell ⟨y.heap.size, 2, none⟩ (.slice (some ⟨g9, 0, none⟩) (lo3 + 1) c9)) y.heap.size (.slice (some ⟨gr, 0, none⟩) j cr) (.slice a3 n c3) (.slice (some ⟨g9, 0, none⟩) (lo3 + 1) c9) (bits j (H.wth d k)) (o ++ [k]) := by
              have := HX7.out.grow (k := k) (g := g9) (c := c9) hg8 (by rw [HOC.out]; exact ho8) (by rw [World.size_alloc]; exact hat8)
              rw [HOC.out] at this
              exact this
            have HFZ8 : Hid (Z8.frozen? ⟨y.heap.size, 2, none⟩ = false ∧ Z8.cell? ⟨y.heap.size, 2, none⟩ = some (.slice a5 lo3 c5)) := by
              have h1 := hg8.block y.heap.size HX7.out.lt (Ne.symm HX7.out.fo)
              exact ⟨(World.frozen?_of_block (a := ⟨y.heap.size, 2, none⟩) h1).trans (HX7.out.fro 2), (World.cell?_of_block (a := ⟨y.heap.size, 2, none⟩) h1).trans HX7.out.c2⟩
            obtain ⟨zf8, zc8⟩ := HFZ8.out
            obtain ⟨Z9, hZ9⟩ : ∃ Z, Z8.setCell ⟨y.heap.size, 2, none⟩ (.slice (some ⟨g9, 0, none⟩) (lo3 + 1) c9) = Z := ⟨_, rfl⟩
            rw [hZ9] at hx9
            have HX9 : Hid (XN y Z9 y.heap.size (.slice (some ⟨gr, 0, none⟩) j cr) (.slice a3 n c3) (.slice (some ⟨g9, 0, none⟩) (lo3 + 1) c9) (bits j (H.wth d k)) (o ++ [k])) := hx9
            have HOL : Hid ((o ++ [k]).length = lo3 + 1) := by show _ = _; rw [List.length_append, HOC.out]; rfl
            have HNODE : Hid (Kp (Value.slice a' N cp').ownBlock Z9 (NdV j n ⟨some ⟨gr, 0, none⟩, cr, a3, c3, some ⟨g9, 0, none⟩, lo3 + 1, c9⟩ ⟨H.wth d k, s2, o ++ [k]⟩)) := by
              have := (hx9.node (s := s2) (ob := (Value.slice a' N cp').ownBlock) (fun w1 hk => HST.out w1 fun b o v hB hc => hk b o v (fun e => by have h1 := HOBW.out b e; have h2 := HSZ.out; omega) (hcell_thru hx9.low hc)) (fun g hg => by have h1 := HOBW.out g hg; have h2 := HSZ.out; omega)).2
              rw [HOL.out] at this
              exact this
            have HB9 : Hid (Below W2.heap.size W2 Z9) := HYW2.out.trans (hx9.low.mono HYW2.out.size)
            clear hx9 ho8 hg8 hat8 hlt8 HX7 HRO7 HNW7 HBS7 HSZ6 z62 zf5 zc5 hZ6
            go_wp2_with fail
            try rw [hZ9]
            clear zf8 zc8 hZ9 HFZ8
            go_loopg [13, 14] N (fun r z13 iv wq => ∃ (j2 : Nat) (th : Bool), r = N - j2 ∧ z13 = .bool th ∧ iv = .int .i64 j2 ∧ j2 ≤ N ∧ Hid (Below Z9.heap.size Z9 wq))
            case atStart => exact ⟨0, false, rfl, rfl, rfl, Nat.zero_le _, Below.refl _ _⟩
            case round =>
              obtain ⟨j2, thr, rfl, rfl, rfl, hj2, HBL⟩ := hrel
              have HBX : Hid (Below W2.heap.size W2 wr) := HB9.out.trans (HBL.out.mono HB9.out.size)
              cases thr with
              | true =>
                by_cases hj2N : j2 < N
                · have hj2i : (j2 : Int) < N := by omega
                  have HR2 : Hid (NRow B os ts j n (i + 1) (.slice a' N cp') qs' xs' wr) := HROW.out.below HBX.out
                  have HC2 : Hid (Kp (Value.slice a' N cp').ownBlock wr (CK bx j n ⟨some ⟨bd, od, none⟩, cd, an, cn, ao, lo3, co⟩ ⟨d, s, o⟩ (some ⟨b, off, none⟩) cc ts)) := HCK.out.below HBX.out
                  have HB2 : Hid (Below B w wr) := HB.out.trans (HBX.out.mono HBS.out)
                  have HN5 : Hid (N ≤ N0 + H.cnt d (k + 1)) := by
                    show _ ≤ _
                    rw [H.cnt_succ]
                    have := HCN.out
                    omega
                  go_wp2_with fail
                  go_roundg (j - (k + 1))
                  case measure => omega
                  case rel => exact ⟨k + 1, N, a', cp', qs', xs', rfl, rfl, by go_num, by omega, hNc, hcm, HNL, HR2, HN5, HB2, HC2⟩
                · have hj2i : ¬ (j2 : Int) < N := by omega
                  have HR2 : Hid (NRow B os ts j n (i + 1) (.slice a' N cp') qs' xs' wr) := HROW.out.below HBX.out
                  have HC2 : Hid (Kp (Value.slice a' N cp').ownBlock wr (CK bx j n ⟨some ⟨bd, od, none⟩, cd, an, cn, ao, lo3, co⟩ ⟨d, s, o⟩ (some ⟨b, off, none⟩) cc ts)) := HCK.out.below HBX.out
                  have HB2 : Hid (Below B w wr) := HB.out.trans (HBX.out.mono HBS.out)
                  have HN5 : Hid (N ≤ N0 + H.cnt d (k + 1)) := by
                    show _ ≤ _
                    rw [H.cnt_succ]
                    have := HCN.out
                    omega
                  go_wp2_with fail
                  go_roundg (j - (k + 1))
                  case measure => omega
                  case rel => exact ⟨k + 1, N, a', cp', qs', xs', rfl, rfl, by go_num, by omega, hNc, hcm, HNL, HR2, HN5, HB2, HC2⟩
              | false =>
              by_cases hj2N : j2 < N
              · have hj2i : (j2 : Int) < N := by omega
                have hj20 : 0 ≤ (j2 : Int) := by omega
                have hrw := HROW.out.below HBX.out
                obtain ⟨go, cp2, hv2, -, -, -, r0, r1, r2⟩ := hrw.at (j := j2) (by rw [HNL.out]; exact hj2N)
                have hnj := (hrw.nd j2 (by rw [HNL.out]; exact hj2N)).now
                simp only [Value.slice.injEq] at hv2
                obtain ⟨ha2, -, -⟩ := hv2
                subst ha2
                obtain ⟨qq, hqq⟩ : ∃ qq, qs'.getD j2 q0 = qq := ⟨_, rfl⟩
                obtain ⟨xx, hxx⟩ : ∃ xx, xs'.getD j2 x0 = xx := ⟨_, rfl⟩
                rw [hqq] at r0 r1 r2 hnj
                rw [hxx] at hnj
                clear hqq hxx hrw
                obtain ⟨p1, p2, p3, p4, p5, p6, p7⟩ := qq
                simp only at r0 r1 r2
                have hx9 := HX9.out.below HBL.out
                have y0 := hx9.c0
                have y1 := hx9.c1
                have y2 := hx9.c2
                obtain ⟨bb, hbb⟩ := A.bool_of ((∀ q, q < j → xx.d.testBit q = (H.wth d k).testBit q) ∧ xx.s = s2)
                have hsm := rsameN_any (q := ⟨p1, p2, p3, p4, p5, p6, p7⟩) (p := ⟨some ⟨gr, 0, none⟩, cr, a3, c3, some ⟨g9, 0, none⟩, lo3 + 1, c9⟩) (z := ⟨H.wth d k, s2, o ++ [k]⟩) bb hbb (w := wr.drew) (hnj.ext fun b o v hc => by rw [World.cell?_drew]; exact hc) ((HNODE.out.below HBL.out).now.ext fun b o v hc => by rw [World.cell?_drew]; exact hc)
                unfold Q3.v at hsm
                simp only at hsm
                have HS : Hid ((wr.drew.cell? ⟨go, j2 * 3, none⟩ = some (.slice p1 j p2) ∧ wr.drew.cell? ⟨go, j2 * 3 + 1, none⟩ = some (.slice p3 n p4) ∧ wr.drew.cell? ⟨go, j2 * 3 + 2, none⟩ = some (.slice p5 p6 p7)) ∧ wr.drew.cell? ⟨y.heap.size, 0, none⟩ = some (.slice (some ⟨gr, 0, none⟩) j cr) ∧ wr.drew.cell? ⟨y.heap.size, 1, none⟩ = some (.slice a3 n c3) ∧ wr.drew.cell? ⟨y.heap.size, 2, none⟩ = some (.slice (some ⟨g9, 0, none⟩) (lo3 + 1) c9)) := by
                  simp only [World.cell?_drew]
                  exact ⟨⟨r0, r1, r2⟩, y0, y1, y2⟩
                have HKEEP : Hid (∀ y9, Below wr.drew.heap.size wr.drew y9 → (y9.cell? ⟨go, j2 * 3, none⟩ = some (.slice p1 j p2) ∧ y9.cell? ⟨go, j2 * 3 + 1, none⟩ = some (.slice p3 n p4) ∧ y9.cell? ⟨go, j2 * 3 + 2, none⟩ = some (.slice p5 p6 p7)) ∧ y9.cell? ⟨y.heap.size, 0, none⟩ = some (.slice (some ⟨gr, 0, none⟩) j cr) ∧ y9.cell? ⟨y.heap.size, 1, none⟩ = some (.slice a3 n c3) ∧ y9.cell? ⟨y.heap.size, 2, none⟩ = some (.slice (some ⟨g9, 0, none⟩) (lo3 + 1) c9)) := fun y9 hy => by
                  obtain ⟨⟨a0, a1, a2⟩, a4, a5, a6⟩ := HS.out
                  exact ⟨⟨hcell_thru hy a0, hcell_thru hy a1, hcell_thru hy a2⟩, hcell_thru hy a4, hcell_thru hy a5, hcell_thru hy a6⟩
                clear r0 r1 r2 y0 y1 y2 hx9 hnj hbb
                go_wp2_with fail
                refine wp_region_held_drew (S := (fun w' : World => (w'.cell? ⟨go, j2 * 3, none⟩ = some (.slice p1 j p2) ∧ w'.cell? ⟨go, j2 * 3 + 1, none⟩ = some (.slice p3 n p4) ∧ w'.cell? ⟨go, j2 * 3 + 2, none⟩ = some (.slice p5 p6 p7)) ∧ w'.cell? ⟨y.heap.size, 0, none⟩ = some (.slice (some ⟨gr, 0, none⟩) j cr) ∧ w'.cell? ⟨y.heap.size, 1, none⟩ = some (.slice a3 n c3) ∧ w'.cell? ⟨y.heap.size, 2, none⟩ = some (.slice (some ⟨g9, 0, none⟩) (lo3 + 1) c9))) (by kernel_rfl) HS.out (fun hHeld => ?_)
                refine tk (i := 0) (v := ?_) (tA rfl) (by kernel_rfl) (fun _ _ _ h => h) (Or.inl ⟨by rfl, ?_⟩) (by assumption) ?_
                rotate_left
                · (intro w hSw; (try dsimp only at hSw); go_simp <;> with_reducible rfl)
                simp only [Act.put, List.setIfInBounds_toArray, List.set_cons_zero, List.set_cons_succ]
                refine tk (i := 1) (v := ?_) (tA rfl) (by kernel_rfl) (fun _ _ _ h => h) (Or.inl ⟨by rfl, ?_⟩) (by assumption) ?_
                rotate_left
                · (intro w hSw; (try dsimp only at hSw); go_simp <;> with_reducible rfl)
                simp only [Act.put, List.setIfInBounds_toArray, List.set_cons_zero, List.set_cons_succ]
                refine tk (i := 2) (v := ?_) (tA rfl) (by kernel_rfl) (fun _ _ _ h => h) (Or.inl ⟨by rfl, ?_⟩) (by assumption) ?_
                rotate_left
                · (intro w hSw; (try dsimp only at hSw); go_simp <;> with_reducible rfl)
                simp only [Act.put, List.setIfInBounds_toArray, List.set_cons_zero, List.set_cons_succ]
                refine tk (i := 3) (v := ?_) (tA rfl) (by kernel_rfl) (fun _ _ _ h => h) (Or.inl ⟨by rfl, ?_⟩) (by assumption) ?_
                rotate_left
                · (intro w hSw; (try dsimp only at hSw); go_simp <;> with_reducible rfl)
                simp only [Act.put, List.setIfInBounds_toArray, List.set_cons_zero, List.set_cons_succ]
                refine tk (i := 4) (v := ?_) (tA rfl) (by kernel_rfl) (fun _ _ _ h => h) (Or.inl ⟨by rfl, ?_⟩) (by assumption) ?_
                rotate_left
                · (intro w hSw; (try dsimp only at hSw); go_simp <;> with_reducible rfl)
                simp only [Act.put, List.setIfInBounds_toArray, List.set_cons_zero, List.set_cons_succ]
                refine wpAnyH_ready (rs := [5]) (by kernel_rfl) (by simp) ?_
                refine AllReadyH.cons (tA rfl) (fun K hK => ?_) AllReadyH.nil
                go_simp
                refine hsm.mono ?_
                rintro e yy ⟨rfl, hy⟩
                have HYY : Hid (Below wr.heap.size wr yy) := (Below.refl _ _).drew.trans hy
                have HS2 : Hid _ := HKEEP.out yy hy
                clear hy hsm
                try go_wp2_with fail
                refine hK.out _ _ HS2.out (fun hHeld => ?_)
                clear hK K
                try simp only [Act.put, List.setIfInBounds_toArray, List.set_cons_zero, List.set_cons_succ]
                refine tk (i := 6) (v := ?_) (tA rfl) (by kernel_rfl) (fun _ _ _ h => h) (Or.inl ⟨by rfl, ?_⟩) (by assumption) ?_
                rotate_left
                · (intro w hSw; (try dsimp only at hSw); go_simp <;> with_reducible rfl)
                simp only [Act.put, List.setIfInBounds_toArray, List.set_cons_zero, List.set_cons_succ]
                refine wpAnyH_done (by kernel_rfl) ?_ _
                clear hHeld
                have HBL2 : Hid (Below Z9.heap.size Z9 yy) := HBL.out.trans (HYY.out.mono HBL.out.size)
                go_wp2_with fail
                go_roundg (N - (j2 + 1))
                case measure => omega
                case rel => exact ⟨j2 + 1, bb, rfl, rfl, by go_num, by omega, HBL2⟩
              · have hj2i : ¬ (j2 : Int) < N := by omega
                have hx9 := HX9.out.below HBL.out
                have y0 := hx9.c0
                have y1 := hx9.c1
                have y2 := hx9.c2
                have hba : Below wr.heap.size wr (wr.alloc (.cells #[.slice (some ⟨gr, 0, none⟩) j cr, .slice a3 n c3, .slice (some ⟨g9, 0, none⟩) (lo3 + 1) c9] 97)) := hbl1 _ _
                have HRA : Hid (NRow B os ts j n (i + 1) (.slice a' N cp') qs' xs' (wr.alloc (.cells #[.slice (some ⟨gr, 0, none⟩) j cr, .slice a3 n c3, .slice (some ⟨g9, 0, none⟩) (lo3 + 1) c9] 97))) := (HROW.out.below HBX.out).below hba
                have HCA : Hid (Kp (Value.slice a' N cp').ownBlock (wr.alloc (.cells #[.slice (some ⟨gr, 0, none⟩) j cr, .slice a3 n c3, .slice (some ⟨g9, 0, none⟩) (lo3 + 1) c9] 97)) (CK bx j n ⟨some ⟨bd, od, none⟩, cd, an, cn, ao, lo3, co⟩ ⟨d, s, o⟩ (some ⟨b, off, none⟩) cc ts)) := (HCK.out.below HBX.out).below hba
                have HNA : Hid (Kp (Value.slice a' N cp').ownBlock (wr.alloc (.cells #[.slice (some ⟨gr, 0, none⟩) j cr, .slice a3 n c3, .slice (some ⟨g9, 0, none⟩) (lo3 + 1) c9] 97)) (NdV j n ⟨some ⟨gr, 0, none⟩, cr, a3, c3, some ⟨g9, 0, none⟩, lo3 + 1, c9⟩ ⟨H.wth d k, s2, o ++ [k]⟩)) := (HNODE.out.below HBL.out).below hba
                have HBA : Hid (Below B w (wr.alloc (.cells #[.slice (some ⟨gr, 0, none⟩) j cr, .slice a3 n c3, .slice (some ⟨g9, 0, none⟩) (lo3 + 1) c9] 97))) := HB.out.trans ((HBX.out.trans (hba.mono HBX.out.size)).mono HBS.out)
                have HROA : Hid ((wr.alloc (.cells #[.slice (some ⟨gr, 0, none⟩) j cr, .slice a3 n c3, .slice (some ⟨g9, 0, none⟩) (lo3 + 1) c9] 97)).ownsRow B 97 3 (.slice a' N cp') N (nrow j n qs')) := by
                  have := HRA.out.row
                  rw [HNL.out] at this
                  exact this
                have HNWA : Hid (∀ (m : Nat) u, ([.slice (some ⟨gr, 0, none⟩) j cr, .slice a3 n c3, .slice (some ⟨g9, 0, none⟩) (lo3 + 1) c9] : List Value)[m]? = some u → (wr.alloc (.cells #[.slice (some ⟨gr, 0, none⟩) j cr, .slice a3 n c3, .slice (some ⟨g9, 0, none⟩) (lo3 + 1) c9] 97)).cell? ((⟨wr.heap.size, 0, none⟩ : Addr).add m) = some u) := by
                  intro m u hu
                  rw [Addr.add_lit, Nat.zero_add]
                  exact A.cell_last rfl (by simpa using hu)
                have HBSA : Hid (B ≤ (wr.alloc (.cells #[.slice (some ⟨gr, 0, none⟩) j cr, .slice a3 n c3, .slice (some ⟨g9, 0, none⟩) (lo3 + 1) c9] 97)).heap.size) := Nat.le_trans HBS.out (Nat.le_trans HBX.out.size hba.size)
                have hnr := HNR.out
                clear hx9 hba
                go_wp2_with (first | (at_builtin; refine wpList_append_lies _ rfl _ _ 98 rfl B 97 id9 _ 3 72 Try.underlying98 hid9 hzd0 hzd1 hzd2 rfl (by decide) (.slice a' N cp') N (nrow j n qs') rfl HROA.out ⟨wr.heap.size, 0, none⟩ 1 1 [.slice (some ⟨gr, 0, none⟩) j cr, .slice a3 n c3, .slice (some ⟨g9, 0, none⟩) (lo3 + 1) c9] rfl rfl HNWA.out (by intro u hu; simp at hu; rcases hu with rfl | rfl | rfl <;> rfl) (by decide) (by omega) (by omega) HBSA.out _ rfl ?_) | fail)
                intro g7 c7 w7 ho7 hg7 hat7 hlt7
                have hat8 : (Value.slice a' N cp').ownBlock = some g7 ∨ g7 = (wr.alloc (.cells #[.slice (some ⟨gr, 0, none⟩) j cr, .slice a3 n c3, .slice (some ⟨g9, 0, none⟩) (lo3 + 1) c9] 97)).heap.size := by rw [World.size_alloc]; exact hat7
                have hp := HRA.out.push (y := w7) HNA.out HGN.out (g := g7) (cp := c7) (by rw [HNL.out]; exact ho7) hg7 hat8
                rw [HNL.out] at hp
                have HR7 : Hid _ := hp
                have HC7 : Hid (Kp (Value.slice (some ⟨g7, 0, none⟩) (N + 1) c7).ownBlock w7 (CK bx j n ⟨some ⟨bd, od, none⟩, cd, an, cn, ao, lo3, co⟩ ⟨d, s, o⟩ (some ⟨b, off, none⟩) cc ts)) := HCA.out.after hg7 (by
                  rcases hat8 with e | e
                  · exact .inl e.symm
                  · exact .inr (by rw [← e]; rfl))
                have HB7 : Hid (Below B w w7) := by
                  have h1 := HBA.out
                  refine ⟨hg7.os.trans h1.os, hg7.tape.trans h1.tape, hg7.output.trans h1.output, Nat.le_trans h1.size hg7.size, fun z hz => (hg7.block z ?_ ?_).trans (h1.block z hz)⟩
                  · have := HBSA.out; omega
                  · intro e
                    have := HRA.out.far z e.symm
                    omega
                have HL7 : Hid ((xs' ++ [(⟨H.wth d k, s2, o ++ [k]⟩ : H.Nd)]).length = N + 1) := by show _ = _; rw [List.length_append, HNL.out]; rfl
                have hrow7 := HR7.out.row
                rw [HL7.out] at hrow7
                have hrm7 := A.own_room hrow7
                clear hrow7 ho7 hg7 hat7 hlt7 hat8 hp y0 y1 y2 HRA HCA HNA HBA HROA HNWA HBSA
                go_wp2_with fail
                go_roundg (j - (k + 1))
                case measure => omega
                case rel => exact ⟨k + 1, N + 1, some ⟨g7, 0, none⟩, c7, qs' ++ [⟨some ⟨gr, 0, none⟩, cr, a3, c3, some ⟨g9, 0, none⟩, lo3 + 1, c9⟩], xs' ++ [⟨H.wth d k, s2, o ++ [k]⟩], rfl, by first | rfl | (congr 1; omega), by go_num, by omega, hrm7.1, hrm7.2, HL7, HR7, HNP, HB7, HC7⟩
    · have hkk2 : k = l := by omega
      subst hkk2
      have hkk : ¬ (k : Int) < k := by omega
      go_wp2_with fail
      go_ret
      exact (⟨_, qs', xs', rfl, HROW.out, by rw [HNL.out]; exact HCN.out, HB.out⟩ : NxOut B w os ts k n (i + 1) (N0 + H.cnt d k) _ _)
end Go.Proofs.Ytafdjmccgijmnaa

/- The document's Order and Exists: where they say that there is one, there is. -/
namespace Go.Proofs.Ytafdjmccgijmnaa
open Go.RowKit A Go.Maps
set_option linter.unusedVariables false
set_option linter.unusedSimpArgs false
theorem boolsV_of_row {w : World} {B : Nat} {a : Option Addr} {l c d : Nat} (hr : w.ownsRow B 4 1 (.slice a l c) l ((bits l d).map bV)) : BoolsV w a l c d := by
  have hrm := A.own_room hr
  rcases hr.2 with ⟨e, e2⟩ | ⟨g, cap, cur, e, -⟩
  · simp only [Value.slice.injEq] at e
    obtain ⟨rfl, h0, rfl⟩ := e
    exact ⟨fun _ => ⟨h0, rfl⟩, hrm, .inl h0⟩
  · simp only [Value.slice.injEq] at e
    obtain ⟨rfl, -, rfl⟩ := e
    refine ⟨fun e => (by cases e), hrm, .inr ⟨g, 0, rfl, fun i hi => ?_⟩⟩
    rw [Nat.zero_add, hr.cellAt i (by omega), List.getElem?_map]
    have h3 : i < (bits l d).length := by rw [bits_len]; exact hi
    have := bits_at (d := d) hi
    simp only [List.getD, List.getElem?_eq_getElem h3, Option.getD_some] at this
    rw [List.getElem?_eq_getElem h3, this]
    rfl
def OrdD (os : List At) (ts : List H.Ac) (w : World) (e : Ending) (W : World) : Prop := ∃ b vo, e = .returned (.tuple #[vo, .bool b]) ∧ Below w.heap.size w W ∧ (b = true → mayAll os = true ∧ H.mayH ts = true ∧ ∃ ord, (H.Pf ts).Ok 0 os ord)
set_option maxRecDepth 100000 in
set_option maxHeartbeats 8000000 in
theorem rOrder_any {w : World} {a aa : Option Addr} {n c l cc : Nat} {os : List At} {ts : List H.Ac} (hO : AtsV w a n c os) (hn : n ≤ 1048576) (hA : ActsV w aa l cc ts) (hl12 : l ≤ 12) (hargs : ∀ x ∈ ts, (Lit.int .i64 x.arg).wf = true) :
    Calls Try.prog 50 #[.slice a n c, .slice aa l cc] w (OrdD os ts w) := by
  have HO : Hid (AtsV w a n c os) := hO
  have HA : Hid (ActsV w aa l cc ts) := hA
  have HTC : Hid (ts.length = l) := hA.count
  have HARG : Hid (∀ x ∈ ts, (Lit.int .i64 x.arg).wf = true) := hargs
  have hmax : maxLen = 9223372036854775807 := rfl
  have hml := hA.room
  have hmo := hO.room
  have hac := A.rmay_any hO
  clear hO hA hargs
  cases hm : mayAll os with
  | false =>
    rw [hm] at hac
    clear hm
    go_enter Try.func50, Try.ntmps50
    go_wp2_with fail
    refine hac.mono ?_
    rintro e y1 ⟨rfl, hy1⟩
    have HBX : Hid (Below w.heap.size w y1) := hy1
    clear hac hy1
    go_wp2_with fail
    go_ret2
    exact (⟨false, .slice none 0 0, rfl, HBX.out, fun e => by cases e⟩ : OrdD os ts w _ _)
  | true =>
    rw [hm] at hac
    have HM : Hid (mayAll os = true) := hm
    clear hm
    cases hh : H.mayH ts with
    | false =>
      have HCH : Hid (∀ W, Below w.heap.size w W → Calls Try.prog 26 #[.slice aa l cc] W fun e w' => e = .returned (.bool false) ∧ Below W.heap.size W w') := fun W hW => by
        have := rMayBe_any (HA.out.below hW)
        rw [hh] at this
        exact this
      clear hh
      go_enter Try.func50, Try.ntmps50
      go_wp2_with fail
      refine hac.mono ?_
      rintro e y1 ⟨rfl, hy1⟩
      have HY1 : Hid (Below w.heap.size w y1) := hy1
      have hch := HCH.out y1 hy1
      clear hac hy1
      go_wp2_with fail
      refine hch.mono ?_
      rintro e y2 ⟨rfl, hy2⟩
      have HBX : Hid (Below w.heap.size w y2) := HY1.out.trans (hy2.mono HY1.out.size)
      clear hch hy2
      go_wp2_with fail
      go_ret2
      exact (⟨false, .slice none 0 0, rfl, HBX.out, fun e => by cases e⟩ : OrdD os ts w _ _)
    | true =>
      have HH : Hid (H.mayH ts = true) := hh
      have HCH : Hid (∀ W, Below w.heap.size w W → Calls Try.prog 26 #[.slice aa l cc] W fun e w' => e = .returned (.bool true) ∧ Below W.heap.size W w') := fun W hW => by
        have := rMayBe_any (HA.out.below hW)
        rw [hh] at this
        exact this
      clear hh
      go_enter Try.func50, Try.ntmps50
      go_wp2_with fail
      refine hac.mono ?_
      rintro e y1 ⟨rfl, hy1⟩
      have HY1 : Hid (Below w.heap.size w y1) := hy1
      have hch := HCH.out y1 hy1
      clear hac hy1
      go_wp2_with fail
      refine hch.mono ?_
      rintro e y2 ⟨rfl, hy2⟩
      have HY2 : Hid (Below w.heap.size w y2) := HY1.out.trans (hy2.mono HY1.out.size)
      clear hch hy2
      have hmk := makeBools y2 l (by omega)
      obtain ⟨W0, hW0⟩ : ∃ W0, y2.alloc (.cells (List.replicate l (bV false)).toArray 4) = W0 := ⟨_, rfl⟩
      rw [hW0] at hmk
      have HBW0 : Hid (Below y2.heap.size y2 W0) := by show Below _ _ _; rw [← hW0]; exact hbl1 _ _
      have HDN : Hid (BoolsV W0 (some ⟨y2.heap.size, 0, none⟩) l l 0) := by
        refine boolsV_of_row (B := y2.heap.size) ?_
        rw [bits_zero, ← hW0]
        exact bools_row y2 l (by omega)
      have HW0 : Hid (Below w.heap.size w W0) := HY2.out.trans (HBW0.out.mono HY2.out.size)
      have HND0 : Hid (NdV l n ⟨some ⟨y2.heap.size, 0, none⟩, l, a, c, none, 0, 0⟩ ⟨0, os, []⟩ W0) := ⟨HDN.out, AtsV.ext HO.out fun b o v hc => hcell_thru HW0.out hc, ⟨fun _ => ⟨rfl, rfl⟩, rfl, ⟨Nat.le_refl _, Nat.zero_le _⟩, .inl rfl⟩⟩
      have HB1 : Hid (Below W0.heap.size W0 (W0.alloc (.cells #[.slice (some ⟨y2.heap.size, 0, none⟩) l l, .slice a n c, .slice none 0 0] 97))) := hbl1 _ _
      have HR1 : Hid (NRow W0.heap.size os ts l n 0 (.slice (some ⟨W0.heap.size, 0, none⟩) 1 1) [⟨some ⟨y2.heap.size, 0, none⟩, l, a, c, none, 0, 0⟩] [⟨0, os, []⟩] (W0.alloc (.cells #[.slice (some ⟨y2.heap.size, 0, none⟩) l l, .slice a n c, .slice none 0 0] 97))) := by
        refine ⟨rfl, ?_, fun j hj => ?_, fun j hj => ?_⟩
        · exact World.ownsRow_lit (base := W0.heap.size) (e := 97) (size := 3) W0 #[.slice (some ⟨y2.heap.size, 0, none⟩) l l, .slice a n c, .slice none 0 0] 1 (Nat.le_refl _) (by unfold maxLen; omega) (by simp)
        · obtain rfl : j = 0 := by simp at hj; omega
          refine ((lw_of (W := W0) (B := W0.heap.size) (Q := NdV l n ⟨some ⟨y2.heap.size, 0, none⟩, l, a, c, none, 0, 0⟩ ⟨0, os, []⟩) (fun w1 hk => HND0.out.ext hk) (Nat.le_refl _)).below HB1.out (Nat.le_refl _)).kp fun g hg => ?_
          have : W0.heap.size = g := by simpa [Value.ownBlock] using hg
          omega
        · obtain rfl : j = 0 := by simp at hj; omega
          exact H.good_zero HM.out
      have HB2 : Hid (Below w.heap.size w (W0.alloc (.cells #[.slice (some ⟨y2.heap.size, 0, none⟩) l l, .slice a n c, .slice none 0 0] 97))) := HW0.out.trans (HB1.out.mono HW0.out.size)
      clear hW0 HDN HND0 HB1 HBW0
      go_wp2_with fail
      clear hmk
      go_loopg [6, 7, 8, 9, 10] (l + 1) (fun r z6 iv z8 z9 z10 wq => ∃ (i N : Nat) (a' : Option Addr) (cp' : Nat) (qs : List Q3) (xs : List H.Nd) (Bl : Nat), r = l + 1 - i ∧ z6 = .slice a' N cp' ∧ iv = .int .i64 i ∧ i ≤ l + 1 ∧ N ≤ cp' ∧ cp' ≤ maxLen ∧ Hid (xs.length = N) ∧ Hid (NRow Bl os ts l n i (.slice a' N cp') qs xs wq) ∧ Hid (N ≤ H.fall l i) ∧ Hid (Below w.heap.size w wq))
      case atStart => exact ⟨0, 1, some ⟨W0.heap.size, 0, none⟩, 1, [⟨some ⟨y2.heap.size, 0, none⟩, l, a, c, none, 0, 0⟩], [⟨0, os, []⟩], W0.heap.size, rfl, rfl, rfl, Nat.zero_le _, Nat.le_refl _, by unfold maxLen; omega, rfl, HR1, Nat.le_refl _, HB2⟩
      case round =>
        obtain ⟨i, N, a', cp', qs, xs, Bl, rfl, rfl, rfl, hi, hNc, hcm, HXL, HROW, HNF, HB⟩ := hrel
        by_cases hil : i ≤ l
        · have hii : (i : Int) ≤ l := by omega
          have HFN : Hid (∀ k, k ≤ N → k * (l - i) ≤ H.fall l (i + 1) ∧ H.fall l (i + 1) ≤ 479001600) := fun k hk => by
            refine ⟨?_, H.fall_le hl12 (by omega)⟩
            show k * (l - i) ≤ H.fall l i * (l - i)
            exact Nat.mul_le_mul_right _ (Nat.le_trans hk HNF.out)
          obtain ⟨W2, hW2⟩ : ∃ q, q = wr := ⟨_, rfl⟩
          subst hW2
          go_wp2_with fail
          go_loopg [8, 9, 10] N (fun r z8 iv z10 wq => ∃ (k M : Nat) (a2 : Option Addr) (cp2 : Nat) (qs2 : List Q3) (xs2 : List H.Nd), r = N - k ∧ z8 = .slice a2 M cp2 ∧ iv = .int .i64 k ∧ k ≤ N ∧ M ≤ cp2 ∧ cp2 ≤ maxLen ∧ Hid (xs2.length = M) ∧ Hid (NRow W2.heap.size os ts l n (i + 1) (.slice a2 M cp2) qs2 xs2 wq) ∧ Hid (M ≤ k * (l - i)) ∧ Hid (Below W2.heap.size W2 wq))
          case atStart => exact ⟨0, 0, none, 0, [], [], rfl, rfl, rfl, Nat.zero_le _, Nat.le_refl _, Nat.zero_le _, rfl, NRow.nil _ _ _ _ _ _ _, Nat.zero_le _, Below.refl _ _⟩
          case round =>
            obtain ⟨k, M, a2, cp2, qs2, xs2, rfl, rfl, rfl, hk, hMc, hcm2, HYL, HROW2, HMF, HBK⟩ := hrel
            by_cases hkN : k < N
            · have hki : (k : Int) < N := by omega
              have hk0 : 0 ≤ (k : Int) := by omega
              have HBW : Hid (Below w.heap.size w wr) := HB.out.trans (HBK.out.mono HB.out.size)
              have hrw := HROW.out.below HBK.out
              obtain ⟨go, cpx, hv2, -, -, -, r0, r1, r2⟩ := hrw.at (j := k) (by rw [HXL.out]; exact hkN)
              have HG : Hid (H.Good os ts i (xs.getD k x0)) := HROW.out.good k (by rw [HXL.out]; exact hkN)
              have HNK : Hid (NdV l n (qs.getD k q0) (xs.getD k x0) W2) := (HROW.out.nd k (by rw [HXL.out]; exact hkN)).now
              simp only [Value.slice.injEq] at hv2
              obtain ⟨ha2, -, -⟩ := hv2
              subst ha2
              obtain ⟨qq, hqq⟩ : ∃ qq, qs.getD k q0 = qq := ⟨_, rfl⟩
              obtain ⟨xx, hxx⟩ : ∃ xx, xs.getD k x0 = xx := ⟨_, rfl⟩
              rw [hqq] at r0 r1 r2 HNK
              rw [hxx] at HNK HG
              clear hqq hxx hrw
              have HLN : Hid (Lw W2.heap.size wr (NdV l n qq xx)) := (lw_of (W := W2) (B := W2.heap.size) (Q := NdV l n qq xx) (fun w1 hk => HNK.out.ext hk) (Nat.le_refl _)).below HBK.out (Nat.le_refl _)
              have HLA : Hid (Lw W2.heap.size wr (fun W => ActsV W aa l cc ts)) := (lw_of (W := W2) (B := W2.heap.size) (Q := fun W => ActsV W aa l cc ts) (fun w1 hk => ActsV.ext (HA.out.below HB.out) hk) (Nat.le_refl _)).below HBK.out (Nat.le_refl _)
              have HCNT : Hid (H.cnt xx.d l ≤ l - i) := by
                show _ ≤ _
                have := HG.out.left
                rw [HTC.out] at this
                omega
              have HRM : Hid (M + H.cnt xx.d l ≤ (k + 1) * (l - i) ∧ M + H.cnt xx.d l ≤ 479001600) := by
                have h1 := HMF.out
                have h2 := HCNT.out
                have h3 : (k + 1) * (l - i) = k * (l - i) + (l - i) := Nat.succ_mul _ _
                obtain ⟨h4, h5⟩ := HFN.out (k + 1) hkN
                generalize (k + 1) * (l - i) = A1 at h3 h4 ⊢
                generalize k * (l - i) = A2 at h1 h3
                exact ⟨by omega, by omega⟩
              have hall := rall_any (HA.out.below HBW.out) HLN.out.now.dn
              obtain ⟨p1, p2, p3, p4, p5, p6, p7⟩ := qq
              simp only at r0 r1 r2 hall
              have HRR : Hid (∀ y, Below wr.heap.size wr y → y.cell? ⟨go, k * 3, none⟩ = some (.slice p1 l p2) ∧ y.cell? ⟨go, k * 3 + 1, none⟩ = some (.slice p3 n p4) ∧ y.cell? ⟨go, k * 3 + 2, none⟩ = some (.slice p5 p6 p7)) := fun y hy => ⟨hcell_thru hy r0, hcell_thru hy r1, hcell_thru hy r2⟩
              obtain ⟨bb, hbb⟩ : ∃ bb, H.backB ts xx.d = bb := ⟨_, rfl⟩
              have HBB : Hid (H.backB ts xx.d = bb) := hbb
              rw [hbb] at hall
              clear hbb
              go_wp2_with fail
              refine hall.mono ?_
              rintro e y3 ⟨rfl, hy3⟩
              have HY3 : Hid (Below wr.heap.size wr y3) := hy3
              have HBK3 : Hid (Below W2.heap.size W2 y3) := HBK.out.trans (hy3.mono HBK.out.size)
              have HBW3 : Hid (Below w.heap.size w y3) := HBW.out.trans (hy3.mono HBW.out.size)
              clear hall hy3 r0 r1 r2
              obtain ⟨r0, r1, r2⟩ := HRR.out y3 HY3.out
              cases bb with
              | true =>
                have HEND : Hid (∃ ord, (H.Pf ts).Ok 0 os ord) := H.good_end HG.out HBB.out
                go_wp2_with fail
                go_ret2
                exact (⟨true, _, rfl, HBW3.out, fun _ => ⟨HM.out, HH.out, HEND.out⟩⟩ : OrdD os ts w _ _)
              | false =>
                have hnx := next_any (HLA.out.below HY3.out (HBK.out.size)) (HLN.out.below HY3.out (HBK.out.size)) HG.out (HROW2.out.below HY3.out) HBK3.out.size hl12 hn HH.out HARG.out (by rw [HYL.out]; exact HRM.out.2)
                unfold Q3.v at hnx
                simp only at hnx
                rw [HYL.out] at hnx
                go_wp2_with fail
                refine hnx.mono ?_
                rintro e y4 ⟨v4, qs4, xs4, rfl, hr4, hl4, hb4⟩
                obtain ⟨a4, cp4, hv4, hx1, hx2⟩ := hr4.form
                subst hv4
                obtain ⟨M4, hM4⟩ : ∃ M, xs4.length = M := ⟨_, rfl⟩
                have HYL4 : Hid (xs4.length = M4) := hM4
                rw [hM4] at hr4 hl4 hx1
                try rw [hM4]
                have HR4 : Hid (NRow W2.heap.size os ts l n (i + 1) (.slice a4 M4 cp4) qs4 xs4 y4) := hr4
                have HL4 : Hid (M4 ≤ (k + 1) * (l - i)) := Nat.le_trans hl4 HRM.out.1
                have HBK4 : Hid (Below W2.heap.size W2 y4) := HBK3.out.trans hb4
                clear hnx hr4 hl4 hb4 hM4 r0 r1 r2
                go_wp2_with fail
                go_roundg (N - (k + 1))
                case measure => omega
                case rel => exact ⟨k + 1, M4, a4, cp4, qs4, xs4, rfl, rfl, by go_num, by omega, hx1, hx2, HYL4, HR4, HL4, HBK4⟩
            · have hkk2 : k = N := by omega
              subst hkk2
              have hkk : ¬ (k : Int) < k := by omega
              have HBW : Hid (Below w.heap.size w wr) := HB.out.trans (HBK.out.mono HB.out.size)
              have HMF2 : Hid (M ≤ H.fall l (i + 1)) := Nat.le_trans HMF.out (HFN.out k (Nat.le_refl _)).1
              go_wp2_with fail
              go_roundg (l + 1 - (i + 1))
              case measure => omega
              case rel => exact ⟨i + 1, M, a2, cp2, qs2, xs2, W2.heap.size, rfl, rfl, by go_num, by omega, hMc, hcm2, HYL, HROW2, HMF2, HBW⟩
        · have hil2 : ¬ (i : Int) ≤ l := by omega
          go_wp2_with fail
          go_ret2
          exact (⟨false, .slice none 0 0, rfl, HB.out, fun e => by cases e⟩ : OrdD os ts w _ _)
def ExD (os : List At) (ts : List H.Ac) (w : World) (e : Ending) (W : World) : Prop := ∃ b : Bool, e = .returned (.bool b) ∧ Below w.heap.size w W ∧ (b = true → mayAll os = true ∧ H.mayH ts = true ∧ ∃ ord, (H.Pf ts).Ok 0 os ord)
set_option maxRecDepth 100000 in
theorem rExists_any {w : World} {v0 v1 : Value} {os : List At} {ts : List H.Ac} (h : Calls Try.prog 50 #[v0, v1] w (OrdD os ts w)) :
    Calls Try.prog 16 #[v0, v1] w (ExD os ts w) := by
  have h2 : Calls Try.prog 31 #[v0, v1] w (ExD os ts w) := by
    go_enter Try.func31, Try.ntmps31
    go_wp2_with fail
    refine h.mono ?_
    rintro e y ⟨b, vo, rfl, hb, hyes⟩
    have HB : Hid (Below w.heap.size w y) := hb
    have HYES : Hid (b = true → mayAll os = true ∧ H.mayH ts = true ∧ ∃ ord, (H.Pf ts).Ok 0 os ord) := hyes
    clear h hb hyes
    go_wp2_with fail
    go_ret
    exact (⟨b, rfl, HB.out, HYES.out⟩ : ExD os ts w _ _)
  clear h
  go_enter Try.func16, Try.ntmps16
  go_wp2_with fail
  refine h2.mono ?_
  rintro e y ⟨b, rfl, hb, hyes⟩
  have HB : Hid (Below w.heap.size w y) := hb
  have HYES : Hid (b = true → mayAll os = true ∧ H.mayH ts = true ∧ ∃ ord, (H.Pf ts).Ok 0 os ord) := hyes
  clear h2 hb hyes
  go_wp2_with fail
  go_ret
  exact (⟨b, rfl, HB.out, HYES.out⟩ : ExD os ts w _ _)
end Go.Proofs.Ytafdjmccgijmnaa

/- What package image's looks at code come to: starts, jumps, symbols, addresses. -/
import Derived.Test.YtmplnkfjaeegdaaDoorPInsA
import Derived.Test.YtmplnkfjaeegdaaDoorPInsB
import Derived.Test.YtmplnkfjaeegdaaDoorPObjA
import Derived.Test.YtmplnkfjaeegdaaDoorPObjE
namespace Go.Proofs.YtmplnkfjaeegdaaDoor
set_option maxRecDepth 100000
open Go.RowKit Go.Maps Go.Lib
set_option linter.unusedVariables false
set_option linter.unusedSimpArgs false

def noQ : I.Q := ⟨0, 0, 0, 0⟩
/-- Instructions as they lie. -/
structure QsV (w : World) (a : Option Addr) (len cap : Nat) (l : List I.Q) : Prop where
  count : l.length = len
  cells : len = 0 ∨ ∃ b off, a = some ⟨b, off, none⟩ ∧ ∀ i, i < len → w.cell? ⟨b, off + i * 4, none⟩ = some (.int .i64 (l.getD i noQ).op) ∧ w.cell? ⟨b, off + i * 4 + 1, none⟩ = some (.int .i64 (l.getD i noQ).a) ∧ w.cell? ⟨b, off + i * 4 + 2, none⟩ = some (.int .i64 (l.getD i noQ).b) ∧ w.cell? ⟨b, off + i * 4 + 3, none⟩ = some (.int .i64 (l.getD i noQ).n)
theorem QsV.below {w w1 : World} {a : Option Addr} {len cap : Nat} {l : List I.Q} (h : QsV w a len cap l) (hb : Below w.heap.size w w1) : QsV w1 a len cap l := by
  refine ⟨h.count, ?_⟩
  rcases h.cells with h0 | ⟨b, off, ha, hc⟩
  · exact .inl h0
  · exact .inr ⟨b, off, ha, fun i hi => ⟨cell_thru hb (hc i hi).1, cell_thru hb (hc i hi).2.1, cell_thru hb (hc i hi).2.2.1, cell_thru hb (hc i hi).2.2.2⟩⟩
def goesB (op : Int) : Bool := decide (op = 20 ∨ op = 21 ∨ op = 22 ∨ op = 23 ∨ op = 25 ∨ op = 26 ∨ op = 27)
def stL (l : List I.Q) (k : Nat) : Int := ((l.take k).map fun q => I.size q.op).sum
def startsL (l : List I.Q) (k : Nat) : List Int := (List.range k).map (stL l)
def reachAt (l : List I.Q) (k : Nat) : Bool := !(goesB (l.getD k noQ).op) || (startsL l l.length).contains (IntKind.i64.wrap (stL l (k + 1) + (l.getD k noQ).n))
def reachOk (l : List I.Q) : Bool := (List.range l.length).all (reachAt l)
def bearAt (zs : List Int) (s : Sym) : Bool := decide (s.kind = 2) || zs.contains s.pos
def bearOk (zs : List Int) (ss : List Sym) : Bool := (List.range ss.length).all (fun i => bearAt zs (ss.getD i noSym))
def addrAt (words : Nat) (q : I.Q) : Bool := !(decide (q.op = 19)) || (decide (0 ≤ IntKind.i64.wrap (q.n - 1048576)) && (decide (IntKind.i64.wrap (q.n - 1048576) % 8 = 0) && decide (IntKind.i64.wrap (q.n - 1048576) < 8 * (words : Int))))
def addrOk (words : Nat) (l : List I.Q) : Bool := (List.range l.length).all (fun i => addrAt words (l.getD i noQ))

theorem size_bd (op : Int) : 0 ≤ I.size op ∧ I.size op ≤ 10 := by
  by_cases h : 1 ≤ op ∧ op ≤ 33
  · have := I.size_pos h.1 h.2; omega
  · rw [I.size_none (by omega)]; decide
theorem stL_succ (l : List I.Q) {k : Nat} (h : k < l.length) : stL l (k + 1) = stL l k + I.size (l.getD k noQ).op := by
  unfold stL
  rw [List.take_succ_eq_append_getElem h, List.map_append, List.sum_append]
  simp [List.getD, h]
theorem stL_bd (l : List I.Q) : ∀ k, k ≤ l.length → 0 ≤ stL l k ∧ stL l k ≤ 10 * k
  | 0, _ => by simp [stL]
  | k + 1, h => by
    have h1 := stL_bd l k (by omega)
    have h2 := size_bd (l.getD k noQ).op
    rw [stL_succ l (by omega)]
    omega
theorem startsL_succ (l : List I.Q) (k : Nat) : startsL l (k + 1) = startsL l k ++ [stL l k] := by
  unfold startsL; rw [List.range_succ, List.map_append]; rfl

def iset (l : List Int) : DataW Unit := setOf (.agg []) (l.map (Lit.int .i64))
theorem iset_snoc (l : List Int) (x : Int) : iset (l ++ [x]) = (iset l).put (.int .i64 x) (.agg []) := by
  unfold iset
  rw [List.map_append, List.map_cons, List.map_nil, setOf_snoc]
theorem has_iset (l : List Int) (x : Int) : Maps.has (iset l) (.int .i64 x) = l.contains x := by
  unfold iset
  rw [has_setOf _ _ _ (fun y hy => by obtain ⟨_, _, rfl⟩ := List.mem_map.1 hy; trivial), List.any_map]
  induction l with
  | nil => rfl
  | cons y l ih =>
    rw [List.any_cons, List.contains_cons, ih]
    congr 1
    show (Lit.int .i64 y).sameKey (.int .i64 x) = (x == y)
    by_cases e : y = x
    · subst e; simp [Lit.sameKey]
    · have h1 : (x == y) = false := beq_eq_false_iff_ne.2 (fun h => e h.symm)
      rw [h1]
      simp [Lit.sameKey, e]
theorem lawK : Keyed Tryd.prog 2 := int_keyed Tryd.underlying2

theorem goes_any (op : Int) (w : World) : Calls Tryd.prog 72 #[.int .i64 op] w fun e w' => e = .returned (.bool (goesB op)) ∧ w' = w := by
  by_cases h : op = 20 ∨ op = 21 ∨ op = 22 ∨ op = 23 ∨ op = 25 ∨ op = 26 ∨ op = 27
  · have HG : Hid (goesB op = true) := decide_eq_true h
    generalize goesB op = G at HG ⊢
    rcases h with rfl | rfl | rfl | rfl | rfl | rfl | rfl
    all_goals
      go_enter Tryd.func72, Tryd.ntmps72
      go_wp2
      go_ret
      exact ⟨by rw [HG.out]; rfl, rfl⟩
  · have HG : Hid (goesB op = false) := decide_eq_false h
    generalize goesB op = G at HG ⊢
    have h1 : ¬ op = 20 := by omega
    have h2 : ¬ op = 21 := by omega
    have h3 : ¬ op = 22 := by omega
    have h4 : ¬ op = 23 := by omega
    have h5 : ¬ op = 25 := by omega
    have h6 : ¬ op = 26 := by omega
    have h7 : ¬ op = 27 := by omega
    clear h
    go_enter Tryd.func72, Tryd.ntmps72
    go_wp2
    go_ret
    exact ⟨by rw [HG.out]; rfl, rfl⟩

theorem shas_any {w : World} {b n : Nat} {zs : List Int} (h : w.ownsMap Tryd.prog 2 (unitElem (H := Unit)) b n (iset zs)) (z : Int) (hz : (Lit.int .i64 z).wf = true) :
    Calls Tryd.prog 73 #[.map (some b), .int .i64 z] w fun e w' => e = .returned (.bool (zs.contains z)) ∧ Below w.heap.size w w' := by
  have HM : Hid _ := h
  have hkey : keyOf Tryd.prog 2 (.int .i64 z) = some (.int .i64 z) := keyOf_int_mk Tryd.underlying2 hz
  have hH := has_iset zs z
  have hb : Below w.heap.size w (w.alloc (.cells #[] 127)) := bl_one _ _
  generalize zs.contains z = R at hH ⊢
  clear h
  go_enter Tryd.func73, Tryd.ntmps73
  go_wp2_with (first | (at_lookup; refine wpList_lookup_own_unit _ rfl _ _ 92 rfl 2 127 lawK Tryd.underlying92 (zeroU _) b n _ rfl HM.out _ _ rfl hkey ?_) | go_in)
  go_ret
  exact ⟨rfl, hb⟩
end Go.Proofs.YtmplnkfjaeegdaaDoor

/- What startsOf, reach, bear and addressesMayBe come to. -/
namespace Go.Proofs.YtmplnkfjaeegdaaDoor
set_option maxRecDepth 100000
open Go.RowKit Go.Maps Go.Lib
set_option linter.unusedVariables false
set_option linter.unusedSimpArgs false

theorem map_thru {w w' : World} {b n : Nat} {D : DataW Unit} (h : w.ownsMap Tryd.prog 2 (unitElem (H := Unit)) b n D) (hb : Below w.heap.size w w') : w'.ownsMap Tryd.prog 2 (unitElem (H := Unit)) b n D := h.kept (row := none) ⟨hb.os, hb.tape, hb.output, hb.size, fun k hk _ => hb.block k hk⟩ (by simp)
theorem below_grown {n : Nat} {w x y : World} {b : Nat} (h : Below n w x) (g : x.grownBy y (some b)) (hb : n ≤ b) (hn : n ≤ w.heap.size) : Below n w y :=
  ⟨by rw [g.os, h.os], by rw [g.tape, h.tape], by rw [g.output, h.output], Nat.le_trans h.size g.size, fun k hk => (g.block k (by have := h.size; omega) (by simp; omega)).trans (h.block k hk)⟩

theorem wf_in {z : Int} (h : -9223372036854775808 ≤ z) (h' : z ≤ 9223372036854775807) : (Lit.int .i64 z).wf = true := by
  simp [Lit.wf, IntKind.min, IntKind.max, IntKind.signed, IntKind.bits]; omega
theorem wrap_wf (z : Int) : (Lit.int .i64 (IntKind.i64.wrap z)).wf = true := by
  rw [IntKind.wrap_i64]; exact wf_in (by omega) (by omega)

set_option maxHeartbeats 8000000 in
theorem starts_any {w : World} {a : Option Addr} {len cap : Nat} {l : List I.Q} (h : QsV w a len cap l) (hl : len ≤ 1000000) (ht : Tab w) :
    Calls Tryd.prog 43 #[.slice a len cap] w fun e w' => e = .returned (.map (some w.heap.size)) ∧ w'.ownsMap Tryd.prog 2 (unitElem (H := Unit)) w.heap.size len (iset (startsL l len)) ∧ Below w.heap.size w w' := by
  have hmm := @run_makeMap Tryd.prog
  have HV : Hid _ := h
  have HC : Hid _ := h.count
  have HT : Hid _ := ht
  clear h ht
  obtain ⟨W2, hW2⟩ : ∃ W2, w.alloc (.map #[] 0) = W2 := ⟨_, rfl⟩
  have b2 : Below w.heap.size w W2 := by subst hW2; exact bl_one _ _
  have HB2 : Hid _ := b2
  have HOW : Hid (W2.ownsMap Tryd.prog 2 (unitElem (H := Unit)) w.heap.size 0 (iset [])) := by
    show World.ownsMap _ _ _ _ _ _ _
    rw [← hW2]
    exact World.ownsMap_made _ _ _ _
  clear b2
  go_enter Tryd.func43, Tryd.ntmps43
  go_wp2_with fail
  go_loopg [4, 10] len (fun r av iv wq => ∃ (k : Nat) (z : Int), av = .int .i64 z ∧ iv = .int .i64 k ∧ k ≤ len ∧ len - k ≤ r ∧ 0 ≤ z ∧ z ≤ 10 * k ∧ Hid (z = stL l k) ∧ Hid (wq.ownsMap Tryd.prog 2 (unitElem (H := Unit)) w.heap.size k (iset (startsL l k))) ∧ Hid (Below w.heap.size w wq))
  case atStart => exact ⟨0, 0, rfl, rfl, Nat.zero_le _, by omega, by omega, by omega, rfl, HOW.out, HB2.out⟩
  case round =>
    obtain ⟨k, z, rfl, rfl, hk, hr, hz0, hz1, HZ, HMP, HBL⟩ := hrel
    by_cases hlt : k < len
    · rcases HV.out.cells with h0 | ⟨b, off, hA, hcl⟩
      · omega
      obtain ⟨q0, q1, q2, q3⟩ := hcl k hlt
      have q0 := cell_thru HBL.out q0
      have q1 := cell_thru HBL.out q1
      have q2 := cell_thru HBL.out q2
      have q3 := cell_thru HBL.out q3
      have HTW : Hid _ := Tab.below HT.out HBL.out
      have HSU : Hid _ := stL_succ l (k := k) (by have := HC.out; omega)
      have HSZ : Hid _ := size_bd (l.getD k noQ).op
      obtain ⟨⟨op, qa, qb, qn⟩, hx⟩ : ∃ x, l.getD k noQ = x := ⟨_, rfl⟩
      rw [hx] at q0 q1 q2 q3 HSU HSZ
      simp only at q0 q1 q2 q3 HSU HSZ
      cases hA
      have hii : (k : Int) < len := by omega
      have hin : 0 ≤ (k : Int) := by omega
      have zw : w.heap.size < wr.heap.size := HMP.out.lt
      clear hcl hx
      obtain ⟨Y1, hY1⟩ : ∃ Y1, wr.alloc (.cells #[.int .i64 op, .int .i64 qa, .int .i64 qb, .int .i64 qn] 85) = Y1 := ⟨_, rfl⟩
      have bY : Below wr.heap.size wr Y1 := by subst hY1; exact bl_one _ _
      have g0 : Y1.cell? ⟨wr.heap.size, 0, none⟩ = some (.int .i64 op) := by subst hY1; exact cell_last rfl rfl
      have HMY : Hid _ := map_thru HMP.out bY
      have HBY : Hid (Below w.heap.size w Y1) := HBL.out.trans (bY.mono HBL.out.size)
      have hzw : (Lit.int .i64 z).wf = true := wf_in (by omega) (by omega)
      have hkey : keyOf Tryd.prog 2 (.int .i64 z) = some (.int .i64 z) := keyOf_int_mk Tryd.underlying2 hzw
      have hkm : k < maxLen := by unfold maxLen; omega
      clear bY hzw
      go_wp2_with (first | (at_mapUpdate; refine wpList_mapUpdate_own _ rfl _ _ _ 92 rfl 2 127 lawK Tryd.underlying92 (unitElem (H := Unit)) w.heap.size k _ rfl HMY.out hkm _ _ _ rfl rfl hkey _ [] unitElem_mk ?_; intro w1 hown1 hgrow1; have g0' := hgrow1.cell g0 (by simp; omega); have HO1 : Hid _ := hown1; have HG1 : Hid _ := hgrow1; clear hown1 hgrow1) | fail)
      have B1 : Hid (Below w.heap.size w w1) := below_grown HBY.out HG1.out (Nat.le_refl _) (Nat.le_refl _)
      refine (size_any op _ (Tab.below HT.out B1.out)).mono ?_
      rintro e y ⟨rfl, hy⟩
      have BY : Hid (Below w.heap.size w y) := B1.out.trans (hy.mono B1.out.size)
      have HO2 : Hid (y.ownsMap Tryd.prog 2 (unitElem (H := Unit)) w.heap.size (k + 1) (iset (startsL l (k + 1)))) := by
        show World.ownsMap _ _ _ _ _ _ _
        rw [startsL_succ, iset_snoc, ← HZ.out]
        exact map_thru HO1.out hy
      obtain ⟨sz, hsz⟩ : ∃ sz, I.size op = sz := ⟨_, rfl⟩
      rw [hsz] at HSU HSZ ⊢
      have hs0 := HSZ.out.1
      have hs1 := HSZ.out.2
      have HZ2 : Hid (z + sz = stL l (k + 1)) := by show _ = _; rw [HSU.out, ← HZ.out]
      clear hy hsz
      go_wp2_with fail
      go_roundg (len - (k + 1))
      case measure => omega
      case rel => exact ⟨k + 1, _, rfl, by first | rfl | (congr 1; omega), by omega, Nat.le_refl _, by omega, by omega, HZ2.out, HO2.out, BY.out⟩
    · obtain rfl : k = len := by omega
      have hii : ¬ (k : Int) < k := by omega
      go_wp2_with fail
      go_ret
      exact ⟨rfl, HMP.out, HBL.out⟩


set_option maxHeartbeats 8000000 in
theorem reach_any {w : World} {bm n : Nat} {a : Option Addr} {len cap : Nat} {l : List I.Q} (hmap : w.ownsMap Tryd.prog 2 (unitElem (H := Unit)) bm n (iset (startsL l l.length))) (h : QsV w a len cap l) (hl : len ≤ 1000000) (ht : Tab w) :
    Calls Tryd.prog 44 #[.map (some bm), .slice a len cap] w fun e w' => e = .returned (.bool (reachOk l)) ∧ Below w.heap.size w w' := by
  have HM : Hid _ := hmap
  have HV : Hid _ := h
  have HC : Hid _ := h.count
  have HT : Hid _ := ht
  clear h ht hmap
  generalize hR : reachOk l = R
  have HR : Hid _ := hR
  clear hR
  go_enter Tryd.func44, Tryd.ntmps44
  go_wp2_with fail
  go_loopg [5, 10] len (fun r av iv wq => ∃ (k : Nat) (z : Int), av = .int .i64 z ∧ iv = .int .i64 k ∧ k ≤ len ∧ len - k ≤ r ∧ 0 ≤ z ∧ z ≤ 10 * k ∧ Hid (z = stL l k) ∧ Hid (∀ i, i < k → reachAt l i = true) ∧ Hid (Below w.heap.size w wq))
  case atStart => exact ⟨0, 0, rfl, rfl, Nat.zero_le _, by omega, by omega, by omega, rfl, (fun i hi => by omega : ∀ i, i < 0 → reachAt l i = true), Below.refl _ _⟩
  case round =>
    obtain ⟨k, z, rfl, rfl, hk, hr, hz0, hz1, HZ, HAL, HBL⟩ := hrel
    by_cases hlt : k < len
    · rcases HV.out.cells with h0 | ⟨b, off, hA, hcl⟩
      · omega
      obtain ⟨q0, q1, q2, q3⟩ := hcl k hlt
      have q0 := cell_thru HBL.out q0
      have q1 := cell_thru HBL.out q1
      have q2 := cell_thru HBL.out q2
      have q3 := cell_thru HBL.out q3
      have HSU : Hid _ := stL_succ l (k := k) (by have := HC.out; omega)
      have HSZ : Hid _ := size_bd (l.getD k noQ).op
      have HRA : Hid (reachAt l k = (!(goesB (l.getD k noQ).op) || (startsL l l.length).contains (IntKind.i64.wrap (stL l (k + 1) + (l.getD k noQ).n)))) := rfl
      have HNO : Hid (reachAt l k = false → R = false) := fun hz => by rw [← HR.out]; exact all_range_no (by have := HC.out; omega) hz
      have HYES : Hid (reachAt l k = true → ∀ i, i < k + 1 → reachAt l i = true) := fun hz i hi => by
        by_cases e : i = k
        · subst e; exact hz
        · exact HAL.out i (by omega)
      obtain ⟨⟨op, qa, qb, qn⟩, hx⟩ : ∃ x, l.getD k noQ = x := ⟨_, rfl⟩
      rw [hx] at q0 q1 q2 q3 HSU HSZ HRA
      simp only at q0 q1 q2 q3 HSU HSZ HRA
      cases hA
      have hii : (k : Int) < len := by omega
      have hin : 0 ≤ (k : Int) := by omega
      clear hcl hx
      obtain ⟨Y1, hY1⟩ : ∃ Y1, wr.alloc (.cells #[.int .i64 op, .int .i64 qa, .int .i64 qb, .int .i64 qn] 85) = Y1 := ⟨_, rfl⟩
      have bY : Below wr.heap.size wr Y1 := by subst hY1; exact bl_one _ _
      have g0 : Y1.cell? ⟨wr.heap.size, 0, none⟩ = some (.int .i64 op) := by subst hY1; exact cell_last rfl rfl
      have g3 : Y1.cell? ⟨wr.heap.size, 3, none⟩ = some (.int .i64 qn) := by subst hY1; exact cell_last rfl rfl
      have HBY : Hid (Below w.heap.size w Y1) := HBL.out.trans (bY.mono HBL.out.size)
      clear bY
      go_wp2_with fail
      refine (size_any op _ (Tab.below HT.out HBY.out)).mono ?_
      rintro e y ⟨rfl, hy⟩
      have BY : Hid (Below w.heap.size w y) := HBY.out.trans (hy.mono HBY.out.size)
      have p0 := cell_thru hy g0
      have p3 := cell_thru hy g3
      obtain ⟨sz, hsz⟩ : ∃ sz, I.size op = sz := ⟨_, rfl⟩
      rw [hsz] at HSU HSZ ⊢
      have hs0 := HSZ.out.1
      have hs1 := HSZ.out.2
      have HZ2 : Hid (z + sz = stL l (k + 1)) := by show _ = _; rw [HSU.out, ← HZ.out]
      rw [← HZ2.out] at HRA
      clear hy hsz g0 g3
      go_wp2_with fail
      refine (goes_any op _).mono ?_
      rintro e y2 ⟨rfl, rfl⟩
      cases hg : goesB op with
      | false =>
        have HE : Hid _ := HYES.out (by rw [HRA.out, hg]; rfl)
        go_wp2_with fail
        go_roundg (len - (k + 1))
        case measure => omega
        case rel => exact ⟨k + 1, _, rfl, by first | rfl | (congr 1; omega), by omega, Nat.le_refl _, by omega, by omega, HZ2.out, HE.out, BY.out⟩
      | true =>
        have HG : Hid _ := hg
        clear hg
        have HRB : Hid _ := HRA.out
        rw [HG.out] at HRB
        simp only [Bool.not_true, Bool.false_or] at HRB
        obtain ⟨tz, htz⟩ : ∃ tz, IntKind.i64.wrap (z + sz + qn) = tz := ⟨_, rfl⟩
        have HWZ : Hid ((Lit.int .i64 tz).wf = true) := by show _ = _; rw [← htz]; exact wrap_wf _
        rw [htz] at HRB
        go_wp2_with fail
        refine (shas_any (map_thru HM.out BY.out) tz HWZ.out).mono ?_
        rintro e y3 ⟨rfl, hy3⟩
        have B3 : Hid (Below w.heap.size w y3) := BY.out.trans (hy3.mono BY.out.size)
        rw [← HRB.out]
        clear hy3
        cases hc : reachAt l k with
        | false =>
          have HE : Hid (R = false) := HNO.out hc
          go_wp2
          go_ret
          exact ⟨by rw [HE.out]; rfl, B3.out⟩
        | true =>
          have HE : Hid _ := HYES.out hc
          go_wp2_with fail
          go_roundg (len - (k + 1))
          case measure => omega
          case rel => exact ⟨k + 1, _, rfl, by first | rfl | (congr 1; omega), by omega, Nat.le_refl _, by omega, by omega, HZ2.out, HE.out, B3.out⟩
    · have hii : ¬ (k : Int) < len := by omega
      have HE : Hid (R = true) := by show _ = _; rw [← HR.out]; exact all_range_yes (fun i hi => HAL.out i (by have := HC.out; omega))
      go_wp2
      go_ret
      exact ⟨by rw [HE.out]; rfl, HBL.out⟩

set_option maxHeartbeats 8000000 in
theorem bear_any {w : World} {bm n : Nat} {zs : List Int} {a : Option Addr} {len cap : Nat} {ss : List Sym} (hmap : w.ownsMap Tryd.prog 2 (unitElem (H := Unit)) bm n (iset zs)) (h : SymsV w a len cap ss) (hl : len ≤ 1000000) :
    Calls Tryd.prog 45 #[.map (some bm), .slice a len cap] w fun e w' => e = .returned (.bool (bearOk zs ss)) ∧ Below w.heap.size w w' := by
  have HM : Hid _ := hmap
  have HV : Hid _ := h
  have HC : Hid _ := h.count
  clear h hmap
  generalize hR : bearOk zs ss = R
  have HR : Hid _ := hR
  clear hR
  go_enter Tryd.func45, Tryd.ntmps45
  go_wp2_with fail
  go_loopg [9] len (fun r iv wq => ∃ (k : Nat), iv = .int .i64 k ∧ k ≤ len ∧ len - k ≤ r ∧ Hid (∀ i, i < k → bearAt zs (ss.getD i noSym) = true) ∧ Hid (Below w.heap.size w wq))
  case atStart => exact ⟨0, rfl, Nat.zero_le _, by omega, (fun i hi => by omega : ∀ i, i < 0 → bearAt zs (ss.getD i noSym) = true), Below.refl _ _⟩
  case round =>
    obtain ⟨k, rfl, hk, hr, HAL, HBL⟩ := hrel
    by_cases hlt : k < len
    · rcases HV.out.cells with h0 | ⟨b, off, hA, hcl⟩
      · omega
      obtain ⟨q0, q1, q2⟩ := hcl k hlt
      have q0 := cell_thru HBL.out q0
      have q1 := cell_thru HBL.out q1
      have q2 := cell_thru HBL.out q2
      have HFT : Hid _ := HV.out.fits (ss.getD k noSym) (by have := HC.out; simp [List.getD, show k < ss.length by omega])
      have HRA : Hid (bearAt zs (ss.getD k noSym) = (decide ((ss.getD k noSym).kind = 2) || zs.contains (ss.getD k noSym).pos)) := rfl
      have HNO : Hid (bearAt zs (ss.getD k noSym) = false → R = false) := fun hz => by rw [← HR.out]; exact all_range_no (by have := HC.out; omega) hz
      have HYES : Hid (bearAt zs (ss.getD k noSym) = true → ∀ i, i < k + 1 → bearAt zs (ss.getD i noSym) = true) := fun hz i hi => by
        by_cases e : i = k
        · subst e; exact hz
        · exact HAL.out i (by omega)
      obtain ⟨⟨nm, kd, ps⟩, hx⟩ : ∃ x, ss.getD k noSym = x := ⟨_, rfl⟩
      rw [hx] at q0 q1 q2 HFT HRA HNO HYES
      simp only at q0 q1 q2 HFT HRA
      cases hA
      have hii : (k : Int) < len := by omega
      have hin : 0 ≤ (k : Int) := by omega
      clear hcl hx
      obtain ⟨Y1, hY1⟩ : ∃ Y1, wr.alloc (.cells #[.string nm, .int .i64 kd, .int .i64 ps] 66) = Y1 := ⟨_, rfl⟩
      have bY : Below wr.heap.size wr Y1 := by subst hY1; exact bl_one _ _
      have g1 : Y1.cell? ⟨wr.heap.size, 1, none⟩ = some (.int .i64 kd) := by subst hY1; exact cell_last rfl rfl
      have g2 : Y1.cell? ⟨wr.heap.size, 2, none⟩ = some (.int .i64 ps) := by subst hY1; exact cell_last rfl rfl
      have HBY : Hid (Below w.heap.size w Y1) := HBL.out.trans (bY.mono HBL.out.size)
      generalize bearAt zs ⟨nm, kd, ps⟩ = BA at HRA HNO HYES
      clear bY
      by_cases hkd : kd = 2
      · have HE : Hid _ := HYES.out (by rw [HRA.out, decide_eq_true hkd]; rfl)
        subst hkd
        go_wp2_with fail
        go_roundg (len - (k + 1))
        case measure => omega
        case rel => exact ⟨k + 1, by first | rfl | (congr 1; omega), by omega, Nat.le_refl _, HE.out, HBY.out⟩
      · have hd : (kd != 2) = true := by simpa using hkd
        have HRB : Hid (BA = zs.contains ps) := by show _ = _; rw [HRA.out, decide_eq_false hkd, Bool.false_or]
        clear hkd
        go_wp2_with fail
        refine (shas_any (map_thru HM.out HBY.out) ps HFT.out.2.2).mono ?_
        rintro e y3 ⟨rfl, hy3⟩
        have B3 : Hid (Below w.heap.size w y3) := HBY.out.trans (hy3.mono HBY.out.size)
        rw [← HRB.out]
        clear hy3
        cases hc : BA with
        | false =>
          have HE : Hid (R = false) := HNO.out hc
          go_wp2
          go_ret
          exact ⟨by rw [HE.out]; rfl, B3.out⟩
        | true =>
          have HE : Hid _ := HYES.out hc
          go_wp2_with fail
          go_roundg (len - (k + 1))
          case measure => omega
          case rel => exact ⟨k + 1, by first | rfl | (congr 1; omega), by omega, Nat.le_refl _, HE.out, B3.out⟩
    · have hii : ¬ (k : Int) < len := by omega
      have HE : Hid (R = true) := by show _ = _; rw [← HR.out]; exact all_range_yes (fun i hi => HAL.out i (by have := HC.out; omega))
      go_wp2
      go_ret
      exact ⟨by rw [HE.out]; rfl, HBL.out⟩

set_option maxHeartbeats 8000000 in
theorem addr_any {w : World} {a : Option Addr} {len cap : Nat} {l : List I.Q} (h : QsV w a len cap l) (hl : len ≤ 1000000) (words : Nat) (hwd : words ≤ 1000000) :
    Calls Tryd.prog 46 #[.slice a len cap, .int .i64 words] w fun e w' => e = .returned (.bool (addrOk words l)) ∧ Below w.heap.size w w' := by
  have HV : Hid _ := h
  have HC : Hid _ := h.count
  clear h
  generalize hR : addrOk words l = R
  have HR : Hid _ := hR
  clear hR
  go_enter Tryd.func46, Tryd.ntmps46
  go_wp2_with fail
  go_loopg [10] len (fun r iv wq => ∃ (k : Nat), iv = .int .i64 k ∧ k ≤ len ∧ len - k ≤ r ∧ Hid (∀ i, i < k → addrAt words (l.getD i noQ) = true) ∧ Hid (Below w.heap.size w wq))
  case atStart => exact ⟨0, rfl, Nat.zero_le _, by omega, (fun i hi => by omega : ∀ i, i < 0 → addrAt words (l.getD i noQ) = true), Below.refl _ _⟩
  case round =>
    obtain ⟨k, rfl, hk, hr, HAL, HBL⟩ := hrel
    by_cases hlt : k < len
    · rcases HV.out.cells with h0 | ⟨b, off, hA, hcl⟩
      · omega
      obtain ⟨q0, q1, q2, q3⟩ := hcl k hlt
      have q0 := cell_thru HBL.out q0
      have q1 := cell_thru HBL.out q1
      have q2 := cell_thru HBL.out q2
      have q3 := cell_thru HBL.out q3
      have HRA : Hid (addrAt words (l.getD k noQ) = (!(decide ((l.getD k noQ).op = 19)) || (decide (0 ≤ IntKind.i64.wrap ((l.getD k noQ).n - 1048576)) && (decide (IntKind.i64.wrap ((l.getD k noQ).n - 1048576) % 8 = 0) && decide (IntKind.i64.wrap ((l.getD k noQ).n - 1048576) < 8 * (words : Int)))))) := rfl
      have HNO : Hid (addrAt words (l.getD k noQ) = false → R = false) := fun hz => by rw [← HR.out]; exact all_range_no (by have := HC.out; omega) hz
      have HYES : Hid (addrAt words (l.getD k noQ) = true → ∀ i, i < k + 1 → addrAt words (l.getD i noQ) = true) := fun hz i hi => by
        by_cases e : i = k
        · subst e; exact hz
        · exact HAL.out i (by omega)
      obtain ⟨⟨op, qa, qb, qn⟩, hx⟩ : ∃ x, l.getD k noQ = x := ⟨_, rfl⟩
      rw [hx] at q0 q1 q2 q3 HRA HNO HYES
      simp only at q0 q1 q2 q3 HRA
      cases hA
      have hii : (k : Int) < len := by omega
      have hin : 0 ≤ (k : Int) := by omega
      clear hcl hx
      obtain ⟨Y1, hY1⟩ : ∃ Y1, wr.alloc (.cells #[.int .i64 op, .int .i64 qa, .int .i64 qb, .int .i64 qn] 85) = Y1 := ⟨_, rfl⟩
      have bY : Below wr.heap.size wr Y1 := by subst hY1; exact bl_one _ _
      have g0 : Y1.cell? ⟨wr.heap.size, 0, none⟩ = some (.int .i64 op) := by subst hY1; exact cell_last rfl rfl
      have g3 : Y1.cell? ⟨wr.heap.size, 3, none⟩ = some (.int .i64 qn) := by subst hY1; exact cell_last rfl rfl
      have HBY : Hid (Below w.heap.size w Y1) := HBL.out.trans (bY.mono HBL.out.size)
      generalize addrAt words ⟨op, qa, qb, qn⟩ = BA at HRA HNO HYES
      clear bY
      by_cases hop : op = 19
      rotate_left
      · have HE : Hid _ := HYES.out (by rw [HRA.out, decide_eq_false hop]; rfl)
        have hd : (op != 19) = true := by simpa using hop
        clear hop
        go_wp2_with fail
        go_roundg (len - (k + 1))
        case measure => omega
        case rel => exact ⟨k + 1, by first | rfl | (congr 1; omega), by omega, Nat.le_refl _, HE.out, HBY.out⟩
      subst hop
      obtain ⟨far, hfar⟩ : ∃ far, IntKind.i64.wrap (qn - 1048576) = far := ⟨_, rfl⟩
      rw [hfar] at HRA
      simp only [decide_true, Bool.not_true, Bool.false_or] at HRA
      rcases (show far < 0 ∨ (0 ≤ far ∧ ¬ far % 8 = 0) ∨ (0 ≤ far ∧ far % 8 = 0 ∧ 8 * (words : Int) ≤ far) ∨ (0 ≤ far ∧ far % 8 = 0 ∧ ¬ 8 * (words : Int) ≤ far) by omega) with h1 | ⟨h1, h2⟩ | ⟨h1, h2, h3⟩ | ⟨h1, h2, h3⟩
      · have HE : Hid (R = false) := HNO.out (by rw [HRA.out, decide_eq_false (by omega), Bool.false_and])
        go_wp2
        go_ret
        exact ⟨by rw [HE.out]; rfl, HBY.out⟩
      · have HE : Hid (R = false) := HNO.out (by rw [HRA.out, decide_eq_false h2, Bool.false_and, Bool.and_false])
        have hd : (far % 8 != 0) = true := by simpa using h2
        go_wp2
        go_ret
        exact ⟨by rw [HE.out]; rfl, HBY.out⟩
      · have HE : Hid (R = false) := HNO.out (by rw [HRA.out, decide_eq_false (show ¬ far < 8 * (words : Int) by omega), Bool.and_false, Bool.and_false])
        go_wp2
        go_ret
        exact ⟨by rw [HE.out]; rfl, HBY.out⟩
      · have HE : Hid _ := HYES.out (by rw [HRA.out, decide_eq_true h1, decide_eq_true h2, decide_eq_true (show far < 8 * (words : Int) by omega)]; rfl)
        go_wp2_with fail
        go_roundg (len - (k + 1))
        case measure => omega
        case rel => exact ⟨k + 1, by first | rfl | (congr 1; omega), by omega, Nat.le_refl _, HE.out, HBY.out⟩
    · have hii : ¬ (k : Int) < len := by omega
      have HE : Hid (R = true) := by show _ = _; rw [← HR.out]; exact all_range_yes (fun i hi => HAL.out i (by have := HC.out; omega))
      go_wp2
      go_ret
      exact ⟨by rw [HE.out]; rfl, HBL.out⟩
end Go.Proofs.YtmplnkfjaeegdaaDoor

/- What image.Threads, mayBe and Check come to. -/
namespace Go.Proofs.YtmplnkfjaeegdaaDoor
set_option maxRecDepth 100000
open Go.RowKit Go.Maps Go.Lib
set_option linter.unusedVariables false
set_option linter.unusedSimpArgs false

/-- An image. -/
structure ImgD where
  code : ByteArray
  data : List Int
  syms : List Sym
structure ImgV (w : World) (v : Value) (m : ImgD) : Prop where
  form : ∃ a1 l1 c1 a2 l2 c2, v = .agg #[.string m.code, .slice a1 l1 c1, .slice a2 l2 c2] ∧ m.code.size ≤ maxLen ∧ IntsV w a1 l1 c1 m.data ∧ SymsV w a2 l2 c2 m.syms
theorem ImgV.below {w w1 : World} {v : Value} {m : ImgD} (h : ImgV w v m) (hb : Below w.heap.size w w1) : ImgV w1 v m := by
  obtain ⟨a1, l1, c1, a2, l2, c2, e, hs, h1, h2⟩ := h.form
  exact ⟨⟨a1, l1, c1, a2, l2, c2, e, hs, h1.below hb, h2.below hb⟩⟩
def ImgD.obj (m : ImgD) : ObjD := ⟨m.code, m.data, m.syms, []⟩
def thrs (ss : List Sym) : List ByteArray := (ss.filter fun s => decide (s.kind = 3)).map Sym.name
def ImgD.may (m : ImgD) : Bool := m.obj.may && ((decide (1 ≤ (thrs m.syms).length) && decide ((thrs m.syms).length ≤ 4)) && (match I.allI m.code with
  | none => false
  | some l => reachOk l && (bearOk (startsL l l.length) m.syms && addrOk m.data.length l)))
theorem infoStr : (Tryd.prog.info? 9).map (fun i => (i.zero, i.size, i.bytes)) = some (some (.string { data := #[] }), 1, 16) := by kernel_rfl
theorem own_formI {w : World} {B : Nat} {e : TypeId} {s n : Nat} {v : Value} {xs : List Value} (h : w.ownsRow B e s v n xs) : ∃ a c, v = .slice a n c := by
  rcases h.2 with ⟨rfl, rfl⟩ | ⟨g, cap, cur, rfl, -⟩
  · exact ⟨none, 0, rfl⟩
  · exact ⟨_, _, rfl⟩
theorem thrs_snoc (ss : List Sym) {k : Nat} (h : k < ss.length) : thrs (ss.take (k + 1)) = thrs (ss.take k) ++ (if (ss.getD k noSym).kind = 3 then [(ss.getD k noSym).name] else []) := by
  rw [List.take_succ_eq_append_getElem h]
  have e : ss.getD k noSym = ss[k] := by simp [List.getD, h]
  rw [e]
  unfold thrs
  rw [List.filter_append, List.map_append]
  congr 1
  by_cases hk : ss[k].kind = 3 <;> simp [hk]
theorem thrs_len (ss : List Sym) : (thrs ss).length ≤ ss.length := by
  unfold thrs; rw [List.length_map]; exact List.length_filter_le _ _
def strC (s : ByteArray) : List Value := [.string s]

set_option maxHeartbeats 8000000 in
theorem threads_any {w : World} {v : Value} {m : ImgD} (h : ImgV w v m) (hl : m.syms.length ≤ 1000000) :
    Calls Tryd.prog 12 #[v] w fun e w' => (∃ v', e = .returned v' ∧ w'.ownsRow w.heap.size 9 1 v' (thrs m.syms).length ((thrs m.syms).flatMap strC)) ∧ Below w.heap.size w w' := by
  obtain ⟨i1, hi1, hz10, hz11, hz12⟩ := info_parts infoStr
  obtain ⟨a1, l1, c1, a2, l2, c2, rfl, hs, h1, h2⟩ := h.form
  obtain ⟨code, data, ss⟩ := m
  simp only at hs h1 h2 hl ⊢
  have HV : Hid _ := h2
  have HC : Hid _ := h2.count
  have hl2 : l2 ≤ 1000000 := by have := HC.out; omega
  clear h h1 h2 hs hl
  obtain ⟨W1, hW1⟩ : ∃ W1, w.alloc (.cells #[.string code, .slice a1 l1 c1, .slice a2 l2 c2] 25) = W1 := ⟨_, rfl⟩
  have b1 : Below w.heap.size w W1 := by subst hW1; exact bl_one _ _
  have HB1 : Hid _ := b1
  have v2 : W1.cell? ⟨w.heap.size, 2, none⟩ = some (.slice a2 l2 c2) := by subst hW1; exact cell_last rfl rfl
  have HN0 : Hid (W1.ownsRow w.heap.size 9 1 (.slice none 0 0) (thrs (ss.take 0)).length ((thrs (ss.take 0)).flatMap strC)) := World.ownsRow_nil _ _ _ _
  clear b1
  go_enter Tryd.func12, Tryd.ntmps12
  go_wp2_with fail
  go_loopg [3, 9] l2 (fun r lv iv wq => ∃ (k : Nat), iv = .int .i64 k ∧ k ≤ l2 ∧ l2 - k ≤ r ∧ Hid (wq.ownsRow w.heap.size 9 1 lv (thrs (ss.take k)).length ((thrs (ss.take k)).flatMap strC)) ∧ Hid (Below w.heap.size w wq))
  case atStart => exact ⟨0, rfl, Nat.zero_le _, by omega, HN0.out, HB1.out⟩
  case round =>
    obtain ⟨k, rfl, hk, hr, HRW, HBL⟩ := hrel
    by_cases hlt : k < l2
    · rcases HV.out.cells with h0 | ⟨b, off, hA, hcl⟩
      · omega
      obtain ⟨q0, q1, q2⟩ := hcl k hlt
      have q0 := cell_thru HBL.out q0
      have q1 := cell_thru HBL.out q1
      have q2 := cell_thru HBL.out q2
      have HSN : Hid _ := thrs_snoc ss (k := k) (by have := HC.out; omega)
      have HTL : Hid ((thrs (ss.take k)).length ≤ k) := by show _ ≤ _; have := thrs_len (ss.take k); rw [List.length_take] at this; omega
      obtain ⟨⟨nm, kd, ps⟩, hx⟩ : ∃ x, ss.getD k noSym = x := ⟨_, rfl⟩
      rw [hx] at q0 q1 q2 HSN
      simp only at q0 q1 q2 HSN
      cases hA
      have hii : (k : Int) < l2 := by omega
      have hin : 0 ≤ (k : Int) := by omega
      clear hcl hx
      obtain ⟨Y1, hY1⟩ : ∃ Y1, wr.alloc (.cells #[.string nm, .int .i64 kd, .int .i64 ps] 66) = Y1 := ⟨_, rfl⟩
      have bY : Below wr.heap.size wr Y1 := by subst hY1; exact bl_one _ _
      have g0 : Y1.cell? ⟨wr.heap.size, 0, none⟩ = some (.string nm) := by subst hY1; exact cell_last rfl rfl
      have g1 : Y1.cell? ⟨wr.heap.size, 1, none⟩ = some (.int .i64 kd) := by subst hY1; exact cell_last rfl rfl
      have HBY : Hid (Below w.heap.size w Y1) := HBL.out.trans (bY.mono HBL.out.size)
      by_cases hkd : kd = 3
      · subst hkd
        rw [if_pos rfl] at HSN
        have gz : w.grownBy w none := World.grownBy.refl _ _
        obtain ⟨Z, hZ⟩ : ∃ Z, Y1.alloc (.cells #[.string nm] 9) = Z := ⟨_, rfl⟩
        have bZ : Below Y1.heap.size Y1 Z := by subst hZ; exact bl_one _ _
        obtain ⟨tn, htn⟩ : ∃ tn, (thrs (ss.take k)).length = tn := ⟨_, rfl⟩
        have htl : tn ≤ k := by rw [← htn]; exact HTL.out
        have HTN : Hid _ := htn
        have HRZ : Hid (Z.ownsRow w.heap.size 9 1 u3 tn ((thrs (ss.take k)).flatMap strC)) := by
          show World.ownsRow _ _ _ _ _ _ _
          rw [← htn]
          have g2 : wr.grownBy Z none := ⟨by rw [bZ.os, bY.os], by rw [bZ.tape, bY.tape], by rw [bZ.output, bY.output], Nat.le_trans bY.size bZ.size, fun i hi _ => (bZ.block i (by have := bY.size; omega)).trans (bY.block i hi)⟩
          cases e : u3.ownBlock with
          | none => exact World.ownsRow.kept HRW.out g2 (.inl e)
          | some bb => exact World.ownsRow.kept HRW.out g2 (.inr (by rw [e]; simp))
        have HBZ : Hid (Below w.heap.size w Z) := HBY.out.trans (bZ.mono HBY.out.size)
        have HZB : Hid (w.heap.size ≤ Z.heap.size) := HBZ.out.size
        have HNCC : Hid (∀ j u, (strC nm)[j]? = some u → Z.cell? ((⟨Y1.heap.size, 0, none⟩ : Addr).add j) = some u) := by
          intro j u hu
          match j, hu with
          | 0, hu => subst hZ; simp [strC] at hu; subst hu; exact cell_last (by simp) (by simp)
          | j + 1, hu => simp [strC] at hu
        clear bY bZ htn
        go_wp2_with (first | (at_builtin; refine wpList_append_lies _ rfl _ _ 32 rfl w.heap.size 9 i1 _ 1 16 Tryd.underlying32 hi1 hz10 hz11 hz12 rfl (by decide) u3 tn _ rfl HRZ.out ⟨Y1.heap.size, 0, none⟩ 1 1 (strC nm) rfl rfl HNCC.out (by intro u hu; simp [strC] at hu; subst hu; rfl) (by decide) (by unfold maxLen; omega) (by omega) HZB.out Z.heap.size rfl ?_; intro ga ca w1 ho1 hg1 hat1 hlt1; have HO1 : Hid _ := ho1; have HG1 : Hid _ := hg1; clear ho1 hg1 hat1) | fail)
        have HR1 : Hid (w1.ownsRow w.heap.size 9 1 (.slice (some ⟨ga, 0, none⟩) (tn + 1) ca) (thrs (ss.take (k + 1))).length ((thrs (ss.take (k + 1))).flatMap strC)) := by
          show World.ownsRow _ _ _ _ _ _ _
          rw [HSN.out, List.length_append, HTN.out, List.flatMap_append]
          have : ([nm].flatMap strC) = strC nm := by simp [strC]
          rw [this]
          exact HO1.out
        have B1 : Hid (Below w.heap.size w w1) := by
          have hb := HBZ.out
          refine ⟨HG1.out.os.trans hb.os, HG1.out.tape.trans hb.tape, HG1.out.output.trans hb.output, Nat.le_trans hb.size HG1.out.size, fun i hi => (HG1.out.block i (by have := hb.size; omega) ?_).trans (hb.block i hi)⟩
          intro e
          have := (World.ownsRow.lt HRZ.out i e.symm).1
          omega
        go_roundg (l2 - (k + 1))
        case measure => omega
        case rel => exact ⟨k + 1, by first | rfl | (congr 1; omega), by omega, Nat.le_refl _, HR1.out, B1.out⟩
      · rw [if_neg hkd, List.append_nil] at HSN
        have hd : (kd == 3) = false := by simpa using hkd
        have HR1 : Hid (Y1.ownsRow w.heap.size 9 1 u3 (thrs (ss.take (k + 1))).length ((thrs (ss.take (k + 1))).flatMap strC)) := by
          show World.ownsRow _ _ _ _ _ _ _
          rw [HSN.out]
          subst hY1
          exact World.ownsRow.alloc HRW.out _
        clear hkd bY
        go_wp2_with fail
        go_roundg (l2 - (k + 1))
        case measure => omega
        case rel => exact ⟨k + 1, by first | rfl | (congr 1; omega), by omega, Nat.le_refl _, HR1.out, HBY.out⟩
    · obtain rfl : k = l2 := by omega
      have hii : ¬ (k : Int) < k := by omega
      have HR1 : Hid (wr.ownsRow w.heap.size 9 1 u3 (thrs ss).length ((thrs ss).flatMap strC)) := by
        have := HRW.out
        rw [List.take_of_length_le (by have := HC.out; omega)] at this
        exact this
      go_wp2_with fail
      go_ret
      exact ⟨⟨_, rfl, HR1.out⟩, HBL.out⟩

theorem qs_own {w : World} {B : Nat} {a : Option Addr} {n c : Nat} {l : List I.Q} (hn : l.length = n) (h : w.ownsRow B 85 4 (.slice a n c) n (I.rows l)) : QsV w a n c l := by
  have h' : w.ownsRow B 85 4 (.slice a n c) n (l.flatMap I.Q.cs) := h
  obtain ⟨a', c', e, n1, k1⟩ := row_at (m := 4) (f := I.Q.cs) noQ (fun _ => rfl) h' hn
  simp at e
  obtain ⟨rfl, rfl⟩ := e
  refine ⟨hn, ?_⟩
  rcases k1 with h0 | ⟨b, off, ha, hk⟩
  · exact .inl h0
  · exact .inr ⟨b, off, ha, fun i hi => ⟨by have := hk i hi 0 _ (by decide) rfl; simpa using this, hk i hi 1 _ (by decide) rfl, hk i hi 2 _ (by decide) rfl, hk i hi 3 _ (by decide) rfl⟩⟩

set_option maxHeartbeats 8000000 in
theorem imay_any {w : World} {v : Value} {m : ImgD} (h : ImgV w v m) (ht : Tab w) :
    Calls Tryd.prog 23 #[v] w fun e w' => e = .returned (.bool m.may) ∧ Below w.heap.size w w' := by
  have HIV : Hid _ := h
  obtain ⟨a1, l1, c1, a2, l2, c2, rfl, hs, h1, h2⟩ := h.form
  have HT : Hid _ := ht
  have H1 : Hid _ := h1
  have H2 : Hid _ := h2
  have HS : Hid _ := hs
  have HOB : Hid (∀ {x : World}, Below w.heap.size w x → ObjV x (.agg #[.string m.code, .slice a1 l1 c1, .slice a2 l2 c2, .slice none 0 0]) m.obj) := fun hb => ⟨⟨_, _, _, _, _, _, none, 0, 0, rfl, HS.out, H1.out.below hb, H2.out.below hb, ⟨rfl, by simp [ImgD.obj], fun _ => ⟨rfl, rfl⟩, .inl rfl⟩⟩⟩
  have HMM : Hid (m.may = (m.obj.may && ((decide (1 ≤ (thrs m.syms).length) && decide ((thrs m.syms).length ≤ 4)) && (match I.allI m.code with | none => false | some l => reachOk l && (bearOk (startsL l l.length) m.syms && addrOk m.data.length l))))) := rfl
  obtain ⟨code, hcode⟩ : ∃ code, m.code = code := ⟨_, rfl⟩
  have HCO : Hid _ := hcode
  rw [hcode] at HOB HMM ⊢
  clear h h1 h2 hs ht
  obtain ⟨W1, hW1⟩ : ∃ W1, w.alloc (.cells #[.string code, .slice a1 l1 c1, .slice a2 l2 c2] 25) = W1 := ⟨_, rfl⟩
  have b1 : Below w.heap.size w W1 := by subst hW1; exact bl_one _ _
  have HB1 : Hid _ := b1
  have v0 : W1.cell? ⟨w.heap.size, 0, none⟩ = some (.string code) := by subst hW1; exact cell_last rfl rfl
  have v1 : W1.cell? ⟨w.heap.size, 1, none⟩ = some (.slice a1 l1 c1) := by subst hW1; exact cell_last rfl rfl
  have v2 : W1.cell? ⟨w.heap.size, 2, none⟩ = some (.slice a2 l2 c2) := by subst hW1; exact cell_last rfl rfl
  generalize hR : m.may = R at HMM ⊢
  clear b1 hcode hR
  go_enter Tryd.func23, Tryd.ntmps23
  go_wp2_with fail
  refine (check_any (HOB.out HB1.out)).mono ?_
  rintro e y1 ⟨rfl, g1⟩
  have B1 : Hid (Below w.heap.size w y1) := HB1.out.trans (g1.mono HB1.out.size)
  have p0 := cell_thru g1 v0
  have p1 := cell_thru g1 v1
  have p2 := cell_thru g1 v2
  clear g1 v0 v1 v2
  cases hom : m.obj.may with
  | false =>
    have HE : Hid (R = false) := by show _ = _; rw [HMM.out, hom, Bool.false_and]
    go_wp2
    go_ret
    exact ⟨by rw [HE.out]; rfl, B1.out⟩
  | true =>
    have hmp := may_parts hom
    have hcl : code.size ≤ 65536 := by have := hmp.1; rw [← HCO.out]; simpa [ImgD.obj] using this
    have hdl : m.data.length ≤ 4096 := by have := hmp.2.1; simpa [ImgD.obj] using this
    have hsl : m.syms.length ≤ 1000 := by
      have := hmp.2.2.1
      unfold symsOk at this
      rw [Bool.and_eq_true] at this
      exact of_decide_eq_true this.1
    rw [hom, Bool.true_and] at HMM
    have HDL : Hid _ := hdl
    have HSL : Hid _ := hsl
    have HCL : Hid _ := hcl
    clear hmp hom hcl hdl hsl
    go_wp2_with fail
    refine (threads_any (m := m) (v := .agg #[.string code, .slice a1 l1 c1, .slice a2 l2 c2]) (by have := HIV.out.below B1.out; rw [HCO.out] at this; exact this) (by have := HSL.out; omega)).mono ?_
    rintro e y2 ⟨⟨tv, rfl, ho2⟩, g2⟩
    obtain ⟨ta, tc, rfl⟩ := own_formI ho2
    have B2 : Hid (Below w.heap.size w y2) := B1.out.trans (g2.mono B1.out.size)
    have r0 := cell_thru g2 p0
    have r1 := cell_thru g2 p1
    have r2 := cell_thru g2 p2
    obtain ⟨tn, htn⟩ : ∃ tn, (thrs m.syms).length = tn := ⟨_, rfl⟩
    rw [htn] at HMM ⊢
    clear ho2 g2 p0 p1 p2 htn
    by_cases htb : 1 ≤ tn ∧ tn ≤ 4
    rotate_left
    · have HE : Hid (R = false) := by
        show _ = _
        rw [HMM.out]
        have : (decide (1 ≤ tn) && decide (tn ≤ 4)) = false := by
          by_cases e1 : 1 ≤ tn
          · have : ¬ tn ≤ 4 := fun h => htb ⟨e1, h⟩
            simp [this]
          · simp [e1]
        rw [this, Bool.false_and]
      have key : (tn : Int) < 1 ∨ (¬ (tn : Int) < 1 ∧ (4 : Int) < tn) := by omega
      clear htb
      rcases key with k1 | ⟨k1, k2⟩
      all_goals
        go_wp2
        go_ret
        exact ⟨by rw [HE.out]; rfl, B2.out⟩
    have k1 : ¬ (tn : Int) < 1 := by omega
    have k2 : ¬ (4 : Int) < tn := by omega
    rw [decide_eq_true htb.1, decide_eq_true htb.2] at HMM
    simp only [Bool.true_and] at HMM
    clear htb
    go_wp2_with fail
    refine (all_any code (by have := HCL.out; omega) _ (Tab.below HT.out B2.out)).mono ?_
    rintro e y3 ⟨hp, g3⟩
    have B3 : Hid (Below w.heap.size w y3) := B2.out.trans (g3.mono B2.out.size)
    have s0 := cell_thru g3 r0
    have s1 := cell_thru g3 r1
    have s2 := cell_thru g3 r2
    unfold I.allPost at hp
    cases hal : I.allI code with
    | none =>
      rw [hal] at hp HMM
      simp only at hp HMM
      subst hp
      have HE : Hid (R = false) := HMM.out
      clear g3 r0 r1 r2 hal
      go_wp2
      go_ret
      exact ⟨by rw [HE.out]; rfl, B3.out⟩
    | some l =>
      rw [hal] at hp HMM
      simp only at hp HMM
      obtain ⟨lv, rfl, ho3⟩ := hp
      obtain ⟨la, lc, rfl⟩ := own_formI ho3
      have HQ : Hid _ := qs_own rfl ho3
      have hln : l.length ≤ 65536 := by
        have h1 := I.flat_len l (I.allI_some hal).1
        rw [← (I.allI_some hal).2] at h1
        have h2 : (byts code).length = code.size := by simp [W.tail]
        have := HCL.out
        omega
      obtain ⟨ln, hln'⟩ : ∃ ln, l.length = ln := ⟨_, rfl⟩
      have HLN : Hid _ := hln'
      rw [hln'] at hln HQ HMM ⊢
      clear g3 r0 r1 r2 hal ho3 hln'
      go_wp2_with fail
      refine (starts_any HQ.out (by omega) (Tab.below HT.out B3.out)).mono ?_
      rintro e y4 ⟨rfl, hm4, g4⟩
      have B4 : Hid (Below w.heap.size w y4) := B3.out.trans (g4.mono B3.out.size)
      have HM4 : Hid _ := hm4
      have Q4 : Hid _ := HQ.out.below g4
      have t0 := cell_thru g4 s0
      have t1 := cell_thru g4 s1
      have t2 := cell_thru g4 s2
      clear hm4 g4 s0 s1 s2
      go_wp2_with fail
      refine (reach_any (by rw [HLN.out]; exact HM4.out) Q4.out (by omega) (Tab.below HT.out B4.out)).mono ?_
      rintro e y5 ⟨rfl, g5⟩
      have B5 : Hid (Below w.heap.size w y5) := B4.out.trans (g5.mono B4.out.size)
      have HM5 : Hid _ := map_thru HM4.out g5
      have Q5 : Hid _ := Q4.out.below g5
      have t1' := cell_thru g5 t1
      have t2' := cell_thru g5 t2
      clear g5 t0 t1 t2
      cases hre : reachOk l with
      | false =>
        have HE : Hid (R = false) := by show _ = _; rw [HMM.out, hre, Bool.false_and]
        go_wp2
        go_ret
        exact ⟨by rw [HE.out]; rfl, B5.out⟩
      | true =>
        rw [hre, Bool.true_and] at HMM
        clear hre
        have HS5 : Hid _ := H2.out.below B5.out
        have HSC : Hid _ := H2.out.count
        go_wp2_with fail
        refine (bear_any HM5.out HS5.out (by have := HSL.out; have := HSC.out; omega)).mono ?_
        rintro e y6 ⟨rfl, g6⟩
        have B6 : Hid (Below w.heap.size w y6) := B5.out.trans (g6.mono B5.out.size)
        have Q6 : Hid _ := Q5.out.below g6
        have x1 := cell_thru g6 t1'
        clear g6 t1' t2'
        cases hbe : bearOk (startsL l ln) m.syms with
        | false =>
          have HE : Hid (R = false) := by show _ = _; rw [HMM.out, hbe, Bool.false_and]
          go_wp2
          go_ret
          exact ⟨by rw [HE.out]; rfl, B6.out⟩
        | true =>
          rw [hbe, Bool.true_and] at HMM
          have HDC : Hid _ := H1.out.count
          rw [HDC.out] at HMM
          clear hbe
          go_wp2_with fail
          refine (addr_any Q6.out (by omega) l1 (by have := HDL.out; have := HDC.out; omega)).mono ?_
          rintro e y7 ⟨rfl, g7⟩
          have B7 : Hid (Below w.heap.size w y7) := B6.out.trans (g7.mono B6.out.size)
          rw [← HMM.out]
          clear g7
          go_wp2
          go_ret
          exact ⟨rfl, B7.out⟩

theorem icheck_any {w : World} {v : Value} {m : ImgD} (h : ImgV w v m) (ht : Tab w) :
    Calls Tryd.prog 14 #[v] w fun e w' => e = .returned (.int .i64 (if m.may = true then 0 else 9)) ∧ Below w.heap.size w w' := by
  have HIV : Hid _ := h
  have HT : Hid _ := ht
  obtain ⟨a1, l1, c1, a2, l2, c2, rfl, -⟩ := h.form
  generalize hR : (if m.may = true then (0 : Int) else 9) = R
  have HR : Hid _ := hR
  obtain ⟨code, hcode⟩ : ∃ code, m.code = code := ⟨_, rfl⟩
  rw [hcode] at HIV ⊢
  clear h ht hR hcode
  obtain ⟨W1, hW1⟩ : ∃ W1, w.alloc (.cells #[.string code, .slice a1 l1 c1, .slice a2 l2 c2] 25) = W1 := ⟨_, rfl⟩
  have b1 : Below w.heap.size w W1 := by subst hW1; exact bl_one _ _
  have HB1 : Hid _ := b1
  have v0 : W1.cell? ⟨w.heap.size, 0, none⟩ = some (.string code) := by subst hW1; exact cell_last rfl rfl
  have v1 : W1.cell? ⟨w.heap.size, 1, none⟩ = some (.slice a1 l1 c1) := by subst hW1; exact cell_last rfl rfl
  have v2 : W1.cell? ⟨w.heap.size, 2, none⟩ = some (.slice a2 l2 c2) := by subst hW1; exact cell_last rfl rfl
  clear b1
  go_enter Tryd.func14, Tryd.ntmps14
  go_wp2_with fail
  refine (imay_any (HIV.out.below HB1.out) (Tab.below HT.out HB1.out)).mono ?_
  rintro e y1 ⟨rfl, g1⟩
  have B1 : Hid (Below w.heap.size w y1) := HB1.out.trans (g1.mono HB1.out.size)
  clear g1 v0 v1 v2
  cases hm : m.may with
  | false =>
    have HE : Hid (R = 9) := by show _ = _; rw [← HR.out, hm]; rfl
    go_wp2
    go_ret
    exact ⟨by rw [HE.out]; rfl, B1.out⟩
  | true =>
    have HE : Hid (R = 0) := by show _ = _; rw [← HR.out, hm]; rfl
    go_wp2
    go_ret
    exact ⟨by rw [HE.out]; rfl, B1.out⟩
end Go.Proofs.YtmplnkfjaeegdaaDoor

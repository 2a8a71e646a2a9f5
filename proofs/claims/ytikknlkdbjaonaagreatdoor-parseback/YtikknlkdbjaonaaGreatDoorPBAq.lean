/- The writer: expressions as they are written. -/
import Derived.Test.YtikknlkdbjaonaaGreatDoorPBAo
import Derived.Test.YtikknlkdbjaonaaGreatDoorPBAp
import Derived.Lib.ItoaLen
namespace Go.Proofs.YtikknlkdbjaonaaGreatDoor.Y
open Go.RowKit Go.Maps Go.Lib
set_option linter.unusedVariables false
set_option linter.unusedSimpArgs false
def noE : Exp := ⟨0, [], [], 0, 0, 0⟩
/-- How close an expression binds. -/
def clo (x : Exp) : Nat := if x.kind = 5 then lev x.op else 11
mutual
def wpart (E : List Exp) : Nat → Int → Nat → Nat → By → Option By
  | 0, _, _, _, _ => none
  | f + 1, i, A, L, T => if i < 0 ∨ (A : Int) ≤ i then none else
      if clo (E.getD i.toNat noE) < L then (puts T [[40]]).bind fun T1 => (wopen E f (E.getD i.toNat noE) i.toNat T1).bind fun T2 => puts T2 [[41]]
      else wopen E f (E.getD i.toNat noE) i.toNat T
def wopen (E : List Exp) : Nat → Exp → Nat → By → Option By
  | 0, _, _, _ => none
  | f + 1, x, k, T =>
      if x.kind = 1 then puts T [Go.Lib.itoa x.n]
      else if x.kind = 2 then puts T [x.name]
      else if x.kind = 3 then (puts T [x.name, [91]]).bind fun T1 => (wpart E f x.l k 1 T1).bind fun T2 => puts T2 [[93]]
      else if x.kind = 4 then (puts T [x.op]).bind fun T1 => wpart E f x.l k 11 T1
      else if x.kind = 5 then (wpart E f x.l k (lev x.op) T).bind fun T1 => (puts T1 [x.op]).bind fun T2 => wpart E f x.r k (lev x.op + 1) T2
      else none
end
theorem puts_len {l : List By} : ∀ {T T' : By}, T.length ≤ 20001 → puts T l = some T' → T'.length ≤ 20001 := by
  induction l with
  | nil => intro T T' h e; injection e with e; subst e; exact h
  | cons s l ih =>
    intro T T' h e
    unfold puts at e
    cases hs : put1 T s with
    | none => rw [hs] at e; cases e
    | some T1 => rw [hs] at e; exact ih (put1_len hs).1 e
/-- What the expressions of a module are good for. -/
structure EOk (E : List Exp) : Prop where
  len : E.length ≤ 4000
  op : ∀ x ∈ E, x.op.length ≤ 140737488355328
  name : ∀ x ∈ E, x.name.length ≤ 140737488355328
  n : ∀ x ∈ E, -9223372036854775808 ≤ x.n ∧ x.n ≤ 9223372036854775807
/-- The writer at a text, with the module's expressions. -/
structure WX (B C : Nat) (w : World) (wp : Nat) (vd vs ve : Value) (E : List Exp) (T : By) : Prop where
  ws : WS B w wp vd vs ve T
  len : T.length ≤ 20001
  row : w.ownsRow C 32 6 ve E.length (E.flatMap expC)
  env : Env w
  pw : Lib.TabIs Tryz.prog w "internal/strconv.uint64pow10" .u64 Lib.pow10Tab
  b : 8 ≤ B
theorem gPow : Tryz.prog.globalNamed "internal/strconv.uint64pow10" = some 4 := by kernel_rfl
theorem pw_below {w y : World} {n : Nat} (h : Lib.TabIs Tryz.prog w "internal/strconv.uint64pow10" .u64 Lib.pow10Tab) (hb : Below n w y) (hn : 8 ≤ n) : Lib.TabIs Tryz.prog y "internal/strconv.uint64pow10" .u64 Lib.pow10Tab := by
  unfold Lib.TabIs World.var? at *
  rw [gPow] at *
  simp only [Option.bind_some] at h ⊢
  rw [hb.block 4 (by omega)]
  exact h
theorem WX.kp {B C : Nat} {w y : World} {wp : Nat} {vd vs ve : Value} {E : List Exp} {T T' : By} (h : WX B C w wp vd vs ve E T) (hk : Kp [80, 5] B w y) (hs : WS B y wp vd vs ve T') (hl : T'.length ≤ 20001) : WX B C y wp vd vs ve E T' :=
  ⟨hs, hl, row_kp h.row hk (by decide), h.env.kp hk h.b, pw_below h.pw hk.low h.b, h.b⟩
theorem WX.below {B C : Nat} {w y : World} {wp : Nat} {vd vs ve : Value} {E : List Exp} {T : By} (h : WX B C w wp vd vs ve E T) (hb : Below w.heap.size w y) : WX B C y wp vd vs ve E T := by
  have hz := h.env.hz
  exact ⟨h.ws.below hb, h.len, row_thru' h.row hb, h.env.below (hb.mono hz), pw_below h.pw hb hz, h.b⟩
theorem WX.lt {B C : Nat} {w : World} {wp : Nat} {vd vs ve : Value} {E : List Exp} {T : By} (h : WX B C w wp vd vs ve E T) : B ≤ w.heap.size := by
  obtain ⟨vt, h1, -⟩ := h.ws.blk
  exact Nat.le_of_lt (Nat.lt_of_le_of_lt h.ws.ge (blk_lt h1))
theorem WX.toKp {B C : Nat} {w y : World} {wp : Nat} {vd vs ve : Value} {E : List Exp} {T : By} (h : WX B C w wp vd vs ve E T) (hb : Below w.heap.size w y) : Kp [80, 5] B w y := Kp.of hb h.lt
/-- What writing comes to. -/
def WXO (B C : Nat) (w : World) (wp : Nat) (vd vs ve : Value) (E : List Exp) (r : Option By) (e : Ending) (w' : World) : Prop :=
  Kp [80, 5] B w w' ∧ match r with
    | none => FailsW e
    | some T => e = .returned (.tuple #[]) ∧ WX B C w' wp vd vs ve E T
theorem WXO.on {B C : Nat} {w y y' : World} {wp : Nat} {vd vs ve : Value} {E : List Exp} {r : Option By} {e : Ending} (h : WXO B C y wp vd vs ve E r e y') (hk : Kp [80, 5] B w y) : WXO B C w wp vd vs ve E r e y' := ⟨hk.trans h.1, h.2⟩
/-- A row just made. -/
theorem new_row {w : World} {C : Nat} {cs : List Value} {t : TypeId} (hC : C ≤ w.heap.size) (hm : cs.length ≤ maxLen) : (w.alloc (.cells cs.toArray t)).ownsRow C t 1 (.slice (some ⟨w.heap.size, 0, none⟩) cs.length cs.length) cs.length cs :=
  ⟨by simp, .inr ⟨w.heap.size, cs.length, cs.toArray, rfl, hC, heap_new _ _, Nat.le_refl _, hm, by simp, by simp⟩⟩
/-- 'put' over tokens just laid. -/
theorem put_new {B C : Nat} {w W : World} {wp : Nat} {vd vs ve : Value} {E : List Exp} {T : By} (h : WX B C w wp vd vs ve E T) (l : List By) (hs : ∀ s ∈ l, s.length ≤ 140737488355328) (hm : l.length ≤ 9) (hW : w.alloc (.cells (l.map sZ).toArray 9) = W) : Calls Tryz.prog 86 #[.pointer (some ⟨wp, 0, none⟩), .slice (some ⟨w.heap.size, 0, none⟩) l.length l.length] W (WXO B C w wp vd vs ve E (puts T l)) := by
  have hb : Below w.heap.size w W := by rw [← hW]; exact bl1 _ _
  have hx := h.below hb
  have hr : W.ownsRow 0 9 1 (.slice (some ⟨w.heap.size, 0, none⟩) l.length l.length) l.length (l.map sZ) := by
    have := new_row (w := w) (C := 0) (cs := l.map sZ) (t := 9) (Nat.zero_le _) (by rw [List.length_map]; unfold maxLen; omega)
    rw [hW, List.length_map] at this
    exact this
  refine (put_any hx.ws hx.len hr hs).mono ?_
  rintro e y ⟨hk, h2⟩
  refine ⟨(h.toKp hb).trans hk, ?_⟩
  cases hp : puts T l with
  | none => rw [hp] at h2; exact h2
  | some T' =>
    rw [hp] at h2
    exact ⟨h2.1, hx.kp hk h2.2 (puts_len h.len hp)⟩
/-- An expression's cells. -/
theorem WX.cells {B C : Nat} {w : World} {wp : Nat} {vd vs ve : Value} {E : List Exp} {T : By} (h : WX B C w wp vd vs ve E T) {k : Nat} (hk : k < E.length) : ∃ g c, ve = .slice (some ⟨g, 0, none⟩) E.length c ∧ ∀ j u, (expC (E.getD k noE))[j]? = some u → w.cell? ⟨g, k * 6 + j, none⟩ = some u := by
  rcases h.row.2 with ⟨e1, e2⟩ | ⟨g, cap, cur, e1, -⟩
  · omega
  · subst e1
    refine ⟨g, cap, rfl, fun j u hu => ?_⟩
    have hj : j < 6 := by
      have := (List.getElem?_eq_some_iff.1 hu).1
      rw [expC_len] at this
      exact this
    have hf := h.row.cellAt (k * 6 + j) (by omega)
    rw [flat_at expC 6 noE expC_len E k j hk hj, hu] at hf
    exact hf
theorem closeness_any (x : Exp) {w : World} (he : Env w) : Calls Tryz.prog 162 #[expV x] w fun e w' => e = .returned (.int .i64 (clo x : Int)) ∧ Below w.heap.size w w' := by
  obtain ⟨Y, hY⟩ : ∃ Y, w.alloc (.cells #[.int .i64 x.kind, .string (X.str x.op), .string (X.str x.name), .int .i64 x.n, .int .i64 x.l, .int .i64 x.r] 32) = Y := ⟨_, rfl⟩
  have HB : Hid (Below w.heap.size w Y) := by show Below _ _ _; rw [← hY]; exact bl1 _ _
  have HE : Hid (Env Y) := he.below (HB.out.mono he.hz)
  have y0 : Y.cell? ⟨w.heap.size, 0, none⟩ = some (.int .i64 x.kind) := by rw [← hY]; exact ncell_at rfl
  have y1 : Y.cell? ⟨w.heap.size, 1, none⟩ = some (.string (X.str x.op)) := by rw [← hY]; exact ncell_at rfl
  clear he
  unfold expV
  go_enter Tryz.func162, Tryz.ntmps162
  by_cases h5 : x.kind = 5
  · have HC : Hid (clo x = lev x.op) := by show _ = _; unfold clo; rw [if_pos h5]
    rw [h5] at y0 hY ⊢
    go_wp2_with fail
    refine (levelOf_any x.op HE.out).mono ?_
    rintro e y1 ⟨rfl, hb⟩
    have HB1 : Hid (Below w.heap.size w y1) := HB.out.trans (hb.mono HB.out.size)
    clear hb
    go_wp2_with fail
    go_ret
    exact ⟨by rw [HC.out]; rfl, HB1.out⟩
  · have HC : Hid (clo x = 11) := by show _ = _; unfold clo; rw [if_neg h5]
    have d5 : (x.kind == 5) = false := by simpa using h5
    clear h5
    go_wp2_with fail
    go_ret
    exact ⟨by rw [HC.out]; rfl, HB.out⟩
end Go.Proofs.YtikknlkdbjaonaaGreatDoor.Y

/- The writer: an expression. -/
namespace Go.Proofs.YtikknlkdbjaonaaGreatDoor.Y
open Go.RowKit Go.Maps Go.Lib
set_option linter.unusedVariables false
set_option linter.unusedSimpArgs false
set_option maxRecDepth 100000 in
set_option maxHeartbeats 2000000 in
theorem part_step {B C : Nat} {wp : Nat} {vd vs ve : Value} {E : List Exp} (hE : EOk E) (f : Nat)
    (ho : ∀ {w : World} {T : By} (x : Exp) (k : Nat), WX B C w wp vd vs ve E T → x ∈ E → k < E.length → 2 * k + 2 ≤ f → Calls Tryz.prog 163 #[.pointer (some ⟨wp, 0, none⟩), expV x, .int .i64 (k : Int)] w (WXO B C w wp vd vs ve E (wopen E f x k T)))
    {w : World} {T : By} (i : Int) (A L : Nat) (h : WX B C w wp vd vs ve E T) (hA : A ≤ E.length) (hf : 2 * A ≤ f) : Calls Tryz.prog 151 #[.pointer (some ⟨wp, 0, none⟩), .int .i64 i, .int .i64 (A : Int), .int .i64 (L : Int)] w (WXO B C w wp vd vs ve E (wpart E (f + 1) i A L T)) := by
  obtain ⟨R, hR⟩ : ∃ R, wpart E (f + 1) i A L T = R := ⟨_, rfl⟩
  rw [hR]
  have HK : Hid (Kp [80, 5] B w w) := Kp.refl _ _ _
  unfold wpart at hR
  go_enter Tryz.func151, Tryz.ntmps151
  by_cases h1 : i < 0
  · obtain rfl : none = R := by rw [if_pos (Or.inl h1)] at hR; exact hR
    have HF : Hid (WXO B C w wp vd vs ve E none (.panicked [{ v := .iface 27 (.int .i64 1), recovered := false }]) w) := ⟨HK.out, rfl⟩
    clear h HK hR ho
    go_wp2_with fail
    exact ⟨rfl, HF.out⟩
  by_cases h2 : (A : Int) ≤ i
  · obtain rfl : none = R := by rw [if_pos (Or.inr h2)] at hR; exact hR
    have HF : Hid (WXO B C w wp vd vs ve E none (.panicked [{ v := .iface 27 (.int .i64 1), recovered := false }]) w) := ⟨HK.out, rfl⟩
    have d1 : decide (i < 0) = false := by simpa using h1
    have d2 : decide ((A : Int) ≤ i) = true := by simpa using h2
    clear h HK hR ho
    go_wp2_with fail
    exact ⟨rfl, HF.out⟩
  rw [if_neg (by omega)] at hR
  obtain ⟨k, rfl⟩ : ∃ k : Nat, i = (k : Int) := ⟨i.toNat, by omega⟩
  rw [Int.toNat_natCast] at hR
  have hkA : k < A := by omega
  have hk : k < E.length := by omega
  obtain ⟨x, hx⟩ : ∃ x, E.getD k noE = x := ⟨_, rfl⟩
  have hm : x ∈ E := by rw [← hx, List.getD_eq_getElem?_getD, List.getElem?_eq_getElem hk]; exact List.getElem_mem hk
  obtain ⟨g, c, rfl, hc⟩ := h.cells hk
  rw [hx] at hc hR
  have c0 : w.cell? ⟨g, k * 6, none⟩ = some (.int .i64 x.kind) := hc 0 _ rfl
  have c1 := hc 1 _ rfl
  have c2 := hc 2 _ rfl
  have c3 := hc 3 _ rfl
  have c4 := hc 4 _ rfl
  have c5 := hc 5 _ rfl
  obtain ⟨vt, hb, -⟩ := h.ws.blk
  have v2 := cell_blk hb 2 (v := .slice (some ⟨g, 0, none⟩) E.length c) rfl
  have hki : (k : Int) < E.length := by omega
  have hk0 : 0 ≤ (k : Int) := by omega
  have hmx : E.length ≤ 4000 := hE.len
  have hm2 : maxLen = 9223372036854775807 := rfl
  have d1 : decide ((k : Int) < 0) = false := by simp
  have d2 : decide ((A : Int) ≤ k) = false := by simp; omega
  have HX : Hid (WX B C w wp vd vs (.slice (some ⟨g, 0, none⟩) E.length c) E T) := h
  have HO : Hid (∀ {w : World} {T : By} (x : Exp) (k : Nat), WX B C w wp vd vs (.slice (some ⟨g, 0, none⟩) E.length c) E T → x ∈ E → k < E.length → 2 * k + 2 ≤ f → Calls Tryz.prog 163 #[.pointer (some ⟨wp, 0, none⟩), expV x, .int .i64 (k : Int)] w (WXO B C w wp vd vs (.slice (some ⟨g, 0, none⟩) E.length c) E (wopen E f x k T))) := ho
  have HR : Hid (_ = R) := hR
  have HM : Hid (x ∈ E) := hm
  clear h hb h1 h2 hc ho hR hm hx
  go_wp2_with fail
  obtain ⟨Y, hY⟩ : ∃ Y, w.alloc (.cells #[.int .i64 x.kind, .string (X.str x.op), .string (X.str x.name), .int .i64 x.n, .int .i64 x.l, .int .i64 x.r] 32) = Y := ⟨_, rfl⟩
  rw [hY]
  have HBY : Hid (Below w.heap.size w Y) := by show Below _ _ _; rw [← hY]; exact bl1 _ _
  have HBX : Hid (Y.heap[w.heap.size]? = some (.cells #[.int .i64 x.kind, .string (X.str x.op), .string (X.str x.name), .int .i64 x.n, .int .i64 x.l, .int .i64 x.r] 32)) := by show _ = _; rw [← hY]; exact heap_new _ _
  clear hY
  have HXY : Hid (WX B C Y wp vd vs (.slice (some ⟨g, 0, none⟩) E.length c) E T) := HX.out.below HBY.out
  refine (closeness_any x HXY.out.env).mono ?_
  rintro e y0 ⟨rfl, hb1⟩
  have HX0 : Hid (WX B C y0 wp vd vs (.slice (some ⟨g, 0, none⟩) E.length c) E T) := HXY.out.below hb1
  have HK0 : Hid (Kp [80, 5] B w y0) := HX.out.toKp (HBY.out.trans (hb1.mono HBY.out.size))
  have HB : Hid (y0.heap[w.heap.size]? = some (.cells #[.int .i64 x.kind, .string (X.str x.op), .string (X.str x.name), .int .i64 x.n, .int .i64 x.l, .int .i64 x.r] 32)) := blk_thru hb1 HBX.out
  have b0 := cell_blk HB.out 0 rfl
  have b1 := cell_blk HB.out 1 rfl
  have b2 := cell_blk HB.out 2 rfl
  have b3 := cell_blk HB.out 3 rfl
  have b4 := cell_blk HB.out 4 rfl
  have b5 := cell_blk HB.out 5 rfl
  clear c0 c1 c2 c3 c4 c5 v2 HX HK HXY HBX HBY hb1
  by_cases hL : clo x < L
  · have HR0 : Hid (((puts T [[40]]).bind fun T1 => (wopen E f x k T1).bind fun T2 => puts T2 [[41]]) = R) := by
      have := HR.out
      rw [if_pos hL] at this
      exact this
    clear HR
    obtain ⟨A1, hA1⟩ : ∃ A, y0.alloc (.cells #[.string { data := #[40] }] 9) = A := ⟨_, rfl⟩
    have HP1 : Hid _ := put_new HX0.out [[40]] (by intro s hs; simp only [List.mem_cons, List.not_mem_nil, or_false] at hs; rcases hs with rfl <;> decide) (by simp) hA1
    go_wp2_with fail
    refine Calls.mono HP1.out ?_
    intro e y1 hy
    have HY1 : Hid _ := hy
    clear hy HP1
    cases hp1 : puts T [[40]] with
    | none =>
      obtain rfl : none = R := by have := HR0.out; rw [hp1] at this; exact this
      have h2 := HY1.out
      rw [hp1] at h2
      have h3' : e = _ := h2.2
      subst h3'
      have HF : Hid (WXO B C w wp vd vs (.slice (some ⟨g, 0, none⟩) E.length c) E none _ y1) := ⟨HK0.out.trans h2.1, h2.2⟩
      clear h2 HY1 HX0 HK0 HR0
      go_wp2_with fail
      exact ⟨rfl, HF.out⟩
    | some T1 =>
    have h2 := HY1.out
    rw [hp1] at h2
    have h3' : e = _ := h2.2.1
    subst h3'
    have HX1 : Hid (WX B C y1 wp vd vs (.slice (some ⟨g, 0, none⟩) E.length c) E T1) := h2.2.2
    have HK1 : Hid (Kp [80, 5] B w y1) := HK0.out.trans h2.1
    have hr1 := HR0.out
    rw [hp1] at hr1
    simp only [Option.bind_some] at hr1
    have HR1 : Hid (_ = R) := hr1
    clear hr1
    have HB1 : Hid (y1.heap[w.heap.size]? = some (.cells #[.int .i64 x.kind, .string (X.str x.op), .string (X.str x.name), .int .i64 x.n, .int .i64 x.l, .int .i64 x.r] 32)) := h2.1.keep _ _ _ _ HB.out (by decide)
    have b0 := cell_blk HB1.out 0 rfl
    have b1 := cell_blk HB1.out 1 rfl
    have b2 := cell_blk HB1.out 2 rfl
    have b3 := cell_blk HB1.out 3 rfl
    have b4 := cell_blk HB1.out 4 rfl
    have b5 := cell_blk HB1.out 5 rfl
    clear h2 HY1 hp1 HX0 HR0 HK0

    have HP2 : Hid _ := HO.out x k HX1.out HM.out hk (by omega)
    go_wp2_with fail
    refine Calls.mono HP2.out ?_
    intro e y2 hy
    have HY2 : Hid _ := hy
    clear hy HP2
    cases hp2 : wopen E f x k T1 with
    | none =>
      obtain rfl : none = R := by have := HR1.out; rw [hp2] at this; exact this
      have h2 := HY2.out
      rw [hp2] at h2
      have h3' : e = _ := h2.2
      subst h3'
      have HF : Hid (WXO B C w wp vd vs (.slice (some ⟨g, 0, none⟩) E.length c) E none _ y2) := ⟨HK1.out.trans h2.1, h2.2⟩
      clear h2 HY2 HX1 HK1 HR1
      go_wp2_with fail
      exact ⟨rfl, HF.out⟩
    | some T2 =>
    have h2 := HY2.out
    rw [hp2] at h2
    have h3' : e = _ := h2.2.1
    subst h3'
    have HX2 : Hid (WX B C y2 wp vd vs (.slice (some ⟨g, 0, none⟩) E.length c) E T2) := h2.2.2
    have HK2 : Hid (Kp [80, 5] B w y2) := HK1.out.trans h2.1
    have hr2 := HR1.out
    rw [hp2] at hr2
    simp only [Option.bind_some] at hr2
    have HR2 : Hid (_ = R) := hr2
    clear hr2
    have HB2 : Hid (y2.heap[w.heap.size]? = some (.cells #[.int .i64 x.kind, .string (X.str x.op), .string (X.str x.name), .int .i64 x.n, .int .i64 x.l, .int .i64 x.r] 32)) := h2.1.keep _ _ _ _ HB1.out (by decide)
    have b0 := cell_blk HB2.out 0 rfl
    have b1 := cell_blk HB2.out 1 rfl
    have b2 := cell_blk HB2.out 2 rfl
    have b3 := cell_blk HB2.out 3 rfl
    have b4 := cell_blk HB2.out 4 rfl
    have b5 := cell_blk HB2.out 5 rfl
    clear h2 HY2 hp2 HX1 HR1 HK1
    obtain ⟨A3, hA3⟩ : ∃ A, y2.alloc (.cells #[.string { data := #[41] }] 9) = A := ⟨_, rfl⟩
    have HP3 : Hid _ := put_new HX2.out [[41]] (by intro s hs; simp only [List.mem_cons, List.not_mem_nil, or_false] at hs; rcases hs with rfl <;> decide) (by simp) hA3
    go_wp2_with fail
    refine Calls.mono HP3.out ?_
    intro e y3 hy
    have HY3 : Hid (WXO B C w wp vd vs (.slice (some ⟨g, 0, none⟩) E.length c) E R e y3) := by
      show _
      have h5 := hy
      rw [HR2.out] at h5
      exact h5.on HK2.out
    clear hy HP3
    cases R with
    | none =>
      have h3' : e = _ := HY3.out.2
      subst h3'
      clear HX2 HK2 HR2
      go_wp2_with fail
      exact ⟨rfl, HY3.out⟩
    | some T9 =>
      have h3' : e = _ := HY3.out.2.1
      subst h3'
      clear HX2 HK2 HR2
      go_wp2_with fail
      refine bodyPost_end (results_none rfl _ _ _) rfl ?_
      exact HY3.out
  · have HR0 : Hid (wopen E f x k T = R) := by
      have := HR.out
      rw [if_neg hL] at this
      exact this
    clear HR
    have HP1 : Hid _ := HO.out x k HX0.out HM.out hk (by omega)
    go_wp2_with fail
    refine Calls.mono HP1.out ?_
    intro e y1 hy
    have HY1 : Hid (WXO B C w wp vd vs (.slice (some ⟨g, 0, none⟩) E.length c) E R e y1) := by
      show _
      have h5 := hy
      rw [HR0.out] at h5
      exact h5.on HK0.out
    clear hy HP1
    cases R with
    | none =>
      have h3' : e = _ := HY1.out.2
      subst h3'
      clear HX0 HK0 HR0
      go_wp2_with fail
      exact ⟨rfl, HY1.out⟩
    | some T9 =>
      have h3' : e = _ := HY1.out.2.1
      subst h3'
      clear HX0 HK0 HR0
      go_wp2_with fail
      refine bodyPost_end (results_none rfl _ _ _) rfl ?_
      exact HY1.out
theorem below_grow' (w : World) (k : Nat) (os : Array Obj) : Below w.heap.size w (Go.Sort.grow (w.drewN k) os) := by
  refine ⟨rfl, rfl, rfl, ?_, fun i hi => ?_⟩
  · show w.heap.size ≤ (w.heap ++ os).size
    simp
  · show (w.heap ++ os)[i]? = w.heap[i]?
    rw [Array.getElem?_append_left hi]
set_option maxRecDepth 100000 in
set_option maxHeartbeats 4000000 in
theorem open_step {B C : Nat} {wp : Nat} {vd vs ve : Value} {E : List Exp} (hE : EOk E) (f : Nat)
    (ho : ∀ {w : World} {T : By} (i : Int) (A L : Nat), WX B C w wp vd vs ve E T → A ≤ E.length → 2 * A + 1 ≤ f → Calls Tryz.prog 151 #[.pointer (some ⟨wp, 0, none⟩), .int .i64 i, .int .i64 (A : Int), .int .i64 (L : Int)] w (WXO B C w wp vd vs ve E (wpart E f i A L T)))
    {w : World} {T : By} (x : Exp) (k : Nat) (h : WX B C w wp vd vs ve E T) (hm : x ∈ E) (hk : k < E.length) (hf : 2 * k + 1 ≤ f) : Calls Tryz.prog 163 #[.pointer (some ⟨wp, 0, none⟩), expV x, .int .i64 (k : Int)] w (WXO B C w wp vd vs ve E (wopen E (f + 1) x k T)) := by
  have hop := hE.op x hm
  have hnm := hE.name x hm
  obtain ⟨hn0, hn1⟩ := hE.n x hm
  clear hm
  obtain ⟨kd, op, nm, n, l, r⟩ := x
  obtain ⟨R, hR⟩ : ∃ R, wopen E (f + 1) ⟨kd, op, nm, n, l, r⟩ k T = R := ⟨_, rfl⟩
  rw [hR]
  unfold wopen at hR
  unfold expV
  dsimp only at hop hnm hn0 hn1 hR ⊢
  have HR : Hid (_ = R) := hR
  have HO : Hid (∀ {w : World} {T : By} (i : Int) (A L : Nat), WX B C w wp vd vs ve E T → A ≤ E.length → 2 * A + 1 ≤ f → Calls Tryz.prog 151 #[.pointer (some ⟨wp, 0, none⟩), .int .i64 i, .int .i64 (A : Int), .int .i64 (L : Int)] w (WXO B C w wp vd vs ve E (wpart E f i A L T))) := ho
  obtain ⟨y0, hY⟩ : ∃ Y, w.alloc (.cells #[.int .i64 kd, .string (X.str op), .string (X.str nm), .int .i64 n, .int .i64 l, .int .i64 r] 32) = Y := ⟨_, rfl⟩
  have HBY : Hid (Below w.heap.size w y0) := by show Below _ _ _; rw [← hY]; exact bl1 _ _
  have HB : Hid (y0.heap[w.heap.size]? = some (.cells #[.int .i64 kd, .string (X.str op), .string (X.str nm), .int .i64 n, .int .i64 l, .int .i64 r] 32)) := by show _ = _; rw [← hY]; exact heap_new _ _
  have HX0 : Hid (WX B C y0 wp vd vs ve E T) := h.below HBY.out
  have HK0 : Hid (Kp [80, 5] B w y0) := h.toKp HBY.out
  have b0 := cell_blk HB.out 0 rfl
  have b1 := cell_blk HB.out 1 rfl
  have b2 := cell_blk HB.out 2 rfl
  have b3 := cell_blk HB.out 3 rfl
  have b4 := cell_blk HB.out 4 rfl
  have b5 := cell_blk HB.out 5 rfl
  have hlv : lev op ≤ 10 := lev_le op
  clear h ho hR
  go_enter Tryz.func163, Tryz.ntmps163
  by_cases k1 : kd = 1
  · subst k1
    have HR0 : Hid (_ = R) := ((if_pos rfl).symm.trans HR.out)
    clear HR
    go_wp2_with fail
    refine (Tryz.strconv_FormatInt_10 n hn0 hn1 _ HX0.out.pw).mono ?_
    rintro e z ⟨rfl, kk, os, rfl⟩
    have HG : Hid _ := below_grow' y0 kk os
    generalize Go.Sort.grow (y0.drewN kk) os = z0 at *
    have HXz : Hid (WX B C z0 wp vd vs ve E T) := HX0.out.below HG.out
    have HKz : Hid (Kp [80, 5] B w z0) := HK0.out.trans (HX0.out.toKp HG.out)
    clear hY HX0 HK0 HG HB
    obtain ⟨A1, hA1⟩ : ∃ A, z0.alloc (.cells #[.string { data := (Go.Lib.itoa n).toArray }] 9) = A := ⟨_, rfl⟩
    have HP1 : Hid _ := put_new HXz.out [(Go.Lib.itoa n)] (by intro s hs; simp only [List.mem_cons, List.not_mem_nil, or_false] at hs; rcases hs with rfl <;> first | decide | omega | (show (Go.Lib.itoa n).length ≤ _; have := Go.Lib.itoa_length_le n hn0 hn1; omega)) (by simp) hA1
    go_wp2_with fail
    refine Calls.mono HP1.out ?_
    intro e y1 hy
    have HY1 : Hid (WXO B C w wp vd vs ve E R e y1) := by
      show _
      have h5 := hy
      rw [HR0.out] at h5
      exact h5.on HKz.out
    clear hy HP1
    cases R with
    | none =>
      have h3' : e = _ := HY1.out.2
      subst h3'
      clear HXz HKz HR0
      go_wp2_with fail
      exact ⟨rfl, HY1.out⟩
    | some T9 =>
      have h3' : e = _ := HY1.out.2.1
      subst h3'
      clear HXz HKz HR0
      go_wp2_with fail
      refine bodyPost_end (results_none rfl _ _ _) rfl ?_
      exact HY1.out
  have HRn : Hid (_ = R) := (if_neg k1).symm.trans HR.out
  clear HR
  have HR := HRn
  clear HRn
  have d1 : (kd == 1) = false := by simpa using k1
  by_cases k2 : kd = 2
  · subst k2
    have HR0 : Hid (_ = R) := ((if_pos rfl).symm.trans HR.out)
    clear HR
    obtain ⟨A1, hA1⟩ : ∃ A, y0.alloc (.cells #[.string (X.str nm)] 9) = A := ⟨_, rfl⟩
    have HP1 : Hid _ := put_new HX0.out [nm] (by intro s hs; simp only [List.mem_cons, List.not_mem_nil, or_false] at hs; rcases hs with rfl <;> first | decide | omega | (show (Go.Lib.itoa n).length ≤ _; have := Go.Lib.itoa_length_le n hn0 hn1; omega)) (by simp) hA1
    go_wp2_with fail
    refine Calls.mono HP1.out ?_
    intro e y1 hy
    have HY1 : Hid (WXO B C w wp vd vs ve E R e y1) := by
      show _
      have h5 := hy
      rw [HR0.out] at h5
      exact h5.on HK0.out
    clear hy HP1
    cases R with
    | none =>
      have h3' : e = _ := HY1.out.2
      subst h3'
      clear HX0 HK0 HR0
      go_wp2_with fail
      exact ⟨rfl, HY1.out⟩
    | some T9 =>
      have h3' : e = _ := HY1.out.2.1
      subst h3'
      clear HX0 HK0 HR0
      go_wp2_with fail
      refine bodyPost_end (results_none rfl _ _ _) rfl ?_
      exact HY1.out
  have HRn : Hid (_ = R) := (if_neg k2).symm.trans HR.out
  clear HR
  have HR := HRn
  clear HRn
  have d2 : (kd == 2) = false := by simpa using k2
  by_cases k3 : kd = 3
  · subst k3
    have HR0 : Hid (_ = R) := ((if_pos rfl).symm.trans HR.out)
    clear HR
    obtain ⟨A1, hA1⟩ : ∃ A, y0.alloc (.cells #[.string (X.str nm), .string { data := #[91] }] 9) = A := ⟨_, rfl⟩
    have HP1 : Hid _ := put_new HX0.out [nm, [91]] (by intro s hs; simp only [List.mem_cons, List.not_mem_nil, or_false] at hs; rcases hs with rfl | rfl <;> first | decide | omega | (show (Go.Lib.itoa n).length ≤ _; have := Go.Lib.itoa_length_le n hn0 hn1; omega)) (by simp) hA1
    go_wp2_with fail
    refine Calls.mono HP1.out ?_
    intro e y1 hy
    have HY1 : Hid _ := hy
    clear hy HP1
    cases hp1 : puts T [nm, [91]] with
    | none =>
      obtain rfl : none = R := by have := HR0.out; rw [hp1] at this; exact this
      have h2 := HY1.out
      rw [hp1] at h2
      have h3' : e = _ := h2.2
      subst h3'
      have HF : Hid (WXO B C w wp vd vs ve E none _ y1) := ⟨HK0.out.trans h2.1, h2.2⟩
      clear h2 HY1 HX0 HK0 HR0
      go_wp2_with fail
      exact ⟨rfl, HF.out⟩
    | some T1 =>
    have h2 := HY1.out
    rw [hp1] at h2
    have h3' : e = _ := h2.2.1
    subst h3'
    have HX1 : Hid (WX B C y1 wp vd vs ve E T1) := h2.2.2
    have HK1 : Hid (Kp [80, 5] B w y1) := HK0.out.trans h2.1
    have hr1 := HR0.out
    rw [hp1] at hr1
    simp only [Option.bind_some] at hr1
    have HR1 : Hid (_ = R) := hr1
    clear hr1
    have HB1 : Hid (y1.heap[w.heap.size]? = some (.cells #[.int .i64 (3), .string (X.str op), .string (X.str nm), .int .i64 n, .int .i64 l, .int .i64 r] 32)) := h2.1.keep _ _ _ _ HB.out (by decide)
    have b0 := cell_blk HB1.out 0 rfl
    have b1 := cell_blk HB1.out 1 rfl
    have b2 := cell_blk HB1.out 2 rfl
    have b3 := cell_blk HB1.out 3 rfl
    have b4 := cell_blk HB1.out 4 rfl
    have b5 := cell_blk HB1.out 5 rfl
    clear h2 HY1 hp1 HX0 HR0 HK0

    have HP2 : Hid _ := HO.out l k 1 HX1.out (by omega) hf
    go_wp2_with fail
    refine Calls.mono HP2.out ?_
    intro e y2 hy
    have HY2 : Hid _ := hy
    clear hy HP2
    cases hp2 : wpart E f l k 1 T1 with
    | none =>
      obtain rfl : none = R := by have := HR1.out; rw [hp2] at this; exact this
      have h2 := HY2.out
      rw [hp2] at h2
      have h3' : e = _ := h2.2
      subst h3'
      have HF : Hid (WXO B C w wp vd vs ve E none _ y2) := ⟨HK1.out.trans h2.1, h2.2⟩
      clear h2 HY2 HX1 HK1 HR1
      go_wp2_with fail
      exact ⟨rfl, HF.out⟩
    | some T2 =>
    have h2 := HY2.out
    rw [hp2] at h2
    have h3' : e = _ := h2.2.1
    subst h3'
    have HX2 : Hid (WX B C y2 wp vd vs ve E T2) := h2.2.2
    have HK2 : Hid (Kp [80, 5] B w y2) := HK1.out.trans h2.1
    have hr2 := HR1.out
    rw [hp2] at hr2
    simp only [Option.bind_some] at hr2
    have HR2 : Hid (_ = R) := hr2
    clear hr2
    have HB2 : Hid (y2.heap[w.heap.size]? = some (.cells #[.int .i64 (3), .string (X.str op), .string (X.str nm), .int .i64 n, .int .i64 l, .int .i64 r] 32)) := h2.1.keep _ _ _ _ HB1.out (by decide)
    have b0 := cell_blk HB2.out 0 rfl
    have b1 := cell_blk HB2.out 1 rfl
    have b2 := cell_blk HB2.out 2 rfl
    have b3 := cell_blk HB2.out 3 rfl
    have b4 := cell_blk HB2.out 4 rfl
    have b5 := cell_blk HB2.out 5 rfl
    clear h2 HY2 hp2 HX1 HR1 HK1
    obtain ⟨A3, hA3⟩ : ∃ A, y2.alloc (.cells #[.string { data := #[93] }] 9) = A := ⟨_, rfl⟩
    have HP3 : Hid _ := put_new HX2.out [[93]] (by intro s hs; simp only [List.mem_cons, List.not_mem_nil, or_false] at hs; rcases hs with rfl <;> first | decide | omega | (show (Go.Lib.itoa n).length ≤ _; have := Go.Lib.itoa_length_le n hn0 hn1; omega)) (by simp) hA3
    go_wp2_with fail
    refine Calls.mono HP3.out ?_
    intro e y3 hy
    have HY3 : Hid (WXO B C w wp vd vs ve E R e y3) := by
      show _
      have h5 := hy
      rw [HR2.out] at h5
      exact h5.on HK2.out
    clear hy HP3
    cases R with
    | none =>
      have h3' : e = _ := HY3.out.2
      subst h3'
      clear HX2 HK2 HR2
      go_wp2_with fail
      exact ⟨rfl, HY3.out⟩
    | some T9 =>
      have h3' : e = _ := HY3.out.2.1
      subst h3'
      clear HX2 HK2 HR2
      go_wp2_with fail
      refine bodyPost_end (results_none rfl _ _ _) rfl ?_
      exact HY3.out
  have HRn : Hid (_ = R) := (if_neg k3).symm.trans HR.out
  clear HR
  have HR := HRn
  clear HRn
  have d3 : (kd == 3) = false := by simpa using k3
  by_cases k4 : kd = 4
  · subst k4
    have HR0 : Hid (_ = R) := ((if_pos rfl).symm.trans HR.out)
    clear HR
    obtain ⟨A1, hA1⟩ : ∃ A, y0.alloc (.cells #[.string (X.str op)] 9) = A := ⟨_, rfl⟩
    have HP1 : Hid _ := put_new HX0.out [op] (by intro s hs; simp only [List.mem_cons, List.not_mem_nil, or_false] at hs; rcases hs with rfl <;> first | decide | omega | (show (Go.Lib.itoa n).length ≤ _; have := Go.Lib.itoa_length_le n hn0 hn1; omega)) (by simp) hA1
    go_wp2_with fail
    refine Calls.mono HP1.out ?_
    intro e y1 hy
    have HY1 : Hid _ := hy
    clear hy HP1
    cases hp1 : puts T [op] with
    | none =>
      obtain rfl : none = R := by have := HR0.out; rw [hp1] at this; exact this
      have h2 := HY1.out
      rw [hp1] at h2
      have h3' : e = _ := h2.2
      subst h3'
      have HF : Hid (WXO B C w wp vd vs ve E none _ y1) := ⟨HK0.out.trans h2.1, h2.2⟩
      clear h2 HY1 HX0 HK0 HR0
      go_wp2_with fail
      exact ⟨rfl, HF.out⟩
    | some T1 =>
    have h2 := HY1.out
    rw [hp1] at h2
    have h3' : e = _ := h2.2.1
    subst h3'
    have HX1 : Hid (WX B C y1 wp vd vs ve E T1) := h2.2.2
    have HK1 : Hid (Kp [80, 5] B w y1) := HK0.out.trans h2.1
    have hr1 := HR0.out
    rw [hp1] at hr1
    simp only [Option.bind_some] at hr1
    have HR1 : Hid (_ = R) := hr1
    clear hr1
    have HB1 : Hid (y1.heap[w.heap.size]? = some (.cells #[.int .i64 (4), .string (X.str op), .string (X.str nm), .int .i64 n, .int .i64 l, .int .i64 r] 32)) := h2.1.keep _ _ _ _ HB.out (by decide)
    have b0 := cell_blk HB1.out 0 rfl
    have b1 := cell_blk HB1.out 1 rfl
    have b2 := cell_blk HB1.out 2 rfl
    have b3 := cell_blk HB1.out 3 rfl
    have b4 := cell_blk HB1.out 4 rfl
    have b5 := cell_blk HB1.out 5 rfl
    clear h2 HY1 hp1 HX0 HR0 HK0

    have HP2 : Hid _ := HO.out l k 11 HX1.out (by omega) hf
    go_wp2_with fail
    refine Calls.mono HP2.out ?_
    intro e y2 hy
    have HY2 : Hid (WXO B C w wp vd vs ve E R e y2) := by
      show _
      have h5 := hy
      rw [HR1.out] at h5
      exact h5.on HK1.out
    clear hy HP2
    cases R with
    | none =>
      have h3' : e = _ := HY2.out.2
      subst h3'
      clear HX1 HK1 HR1
      go_wp2_with fail
      exact ⟨rfl, HY2.out⟩
    | some T9 =>
      have h3' : e = _ := HY2.out.2.1
      subst h3'
      clear HX1 HK1 HR1
      go_wp2_with fail
      refine bodyPost_end (results_none rfl _ _ _) rfl ?_
      exact HY2.out
  have HRn : Hid (_ = R) := (if_neg k4).symm.trans HR.out
  clear HR
  have HR := HRn
  clear HRn
  have d4 : (kd == 4) = false := by simpa using k4
  by_cases k5 : kd = 5
  · subst k5
    have HR0 : Hid (_ = R) := ((if_pos rfl).symm.trans HR.out)
    clear HR
    go_wp2_with fail
    refine (levelOf_any op HX0.out.env).mono ?_
    rintro e z0 ⟨rfl, hb1⟩
    have HG : Hid (Below y0.heap.size y0 z0) := hb1
    have HXz : Hid (WX B C z0 wp vd vs ve E T) := HX0.out.below HG.out
    have HKz : Hid (Kp [80, 5] B w z0) := HK0.out.trans (HX0.out.toKp HG.out)
    have HBz : Hid (z0.heap[w.heap.size]? = some (.cells #[.int .i64 (5), .string (X.str op), .string (X.str nm), .int .i64 n, .int .i64 l, .int .i64 r] 32)) := blk_thru hb1 HB.out
    clear b0 b1 b2 b3 b4 b5
    have b0 := cell_blk HBz.out 0 rfl
    have b1 := cell_blk HBz.out 1 rfl
    have b2 := cell_blk HBz.out 2 rfl
    have b3 := cell_blk HBz.out 3 rfl
    have b4 := cell_blk HBz.out 4 rfl
    have b5 := cell_blk HBz.out 5 rfl
    clear HB
    have HB := HBz
    clear hY HX0 HK0 HG hb1 HBz

    have HP1 : Hid _ := HO.out l k (lev op) HXz.out (by omega) hf
    go_wp2_with fail
    refine Calls.mono HP1.out ?_
    intro e y1 hy
    have HY1 : Hid _ := hy
    clear hy HP1
    cases hp1 : wpart E f l k (lev op) T with
    | none =>
      obtain rfl : none = R := by have := HR0.out; rw [hp1] at this; exact this
      have h2 := HY1.out
      rw [hp1] at h2
      have h3' : e = _ := h2.2
      subst h3'
      have HF : Hid (WXO B C w wp vd vs ve E none _ y1) := ⟨HKz.out.trans h2.1, h2.2⟩
      clear h2 HY1 HXz HKz HR0
      go_wp2_with fail
      exact ⟨rfl, HF.out⟩
    | some T1 =>
    have h2 := HY1.out
    rw [hp1] at h2
    have h3' : e = _ := h2.2.1
    subst h3'
    have HX1 : Hid (WX B C y1 wp vd vs ve E T1) := h2.2.2
    have HK1 : Hid (Kp [80, 5] B w y1) := HKz.out.trans h2.1
    have hr1 := HR0.out
    rw [hp1] at hr1
    simp only [Option.bind_some] at hr1
    have HR1 : Hid (_ = R) := hr1
    clear hr1
    have HB1 : Hid (y1.heap[w.heap.size]? = some (.cells #[.int .i64 (5), .string (X.str op), .string (X.str nm), .int .i64 n, .int .i64 l, .int .i64 r] 32)) := h2.1.keep _ _ _ _ HB.out (by decide)
    have b0 := cell_blk HB1.out 0 rfl
    have b1 := cell_blk HB1.out 1 rfl
    have b2 := cell_blk HB1.out 2 rfl
    have b3 := cell_blk HB1.out 3 rfl
    have b4 := cell_blk HB1.out 4 rfl
    have b5 := cell_blk HB1.out 5 rfl
    clear h2 HY1 hp1 HXz HR0 HKz
    obtain ⟨A2, hA2⟩ : ∃ A, y1.alloc (.cells #[.string (X.str op)] 9) = A := ⟨_, rfl⟩
    have HP2 : Hid _ := put_new HX1.out [op] (by intro s hs; simp only [List.mem_cons, List.not_mem_nil, or_false] at hs; rcases hs with rfl <;> first | decide | omega | (show (Go.Lib.itoa n).length ≤ _; have := Go.Lib.itoa_length_le n hn0 hn1; omega)) (by simp) hA2
    go_wp2_with fail
    refine Calls.mono HP2.out ?_
    intro e y2 hy
    have HY2 : Hid _ := hy
    clear hy HP2
    cases hp2 : puts T1 [op] with
    | none =>
      obtain rfl : none = R := by have := HR1.out; rw [hp2] at this; exact this
      have h2 := HY2.out
      rw [hp2] at h2
      have h3' : e = _ := h2.2
      subst h3'
      have HF : Hid (WXO B C w wp vd vs ve E none _ y2) := ⟨HK1.out.trans h2.1, h2.2⟩
      clear h2 HY2 HX1 HK1 HR1
      go_wp2_with fail
      exact ⟨rfl, HF.out⟩
    | some T2 =>
    have h2 := HY2.out
    rw [hp2] at h2
    have h3' : e = _ := h2.2.1
    subst h3'
    have HX2 : Hid (WX B C y2 wp vd vs ve E T2) := h2.2.2
    have HK2 : Hid (Kp [80, 5] B w y2) := HK1.out.trans h2.1
    have hr2 := HR1.out
    rw [hp2] at hr2
    simp only [Option.bind_some] at hr2
    have HR2 : Hid (_ = R) := hr2
    clear hr2
    have HB2 : Hid (y2.heap[w.heap.size]? = some (.cells #[.int .i64 (5), .string (X.str op), .string (X.str nm), .int .i64 n, .int .i64 l, .int .i64 r] 32)) := h2.1.keep _ _ _ _ HB1.out (by decide)
    have b0 := cell_blk HB2.out 0 rfl
    have b1 := cell_blk HB2.out 1 rfl
    have b2 := cell_blk HB2.out 2 rfl
    have b3 := cell_blk HB2.out 3 rfl
    have b4 := cell_blk HB2.out 4 rfl
    have b5 := cell_blk HB2.out 5 rfl
    clear h2 HY2 hp2 HX1 HR1 HK1

    have HP3 : Hid _ := HO.out r k (lev op + 1) HX2.out (by omega) hf
    go_wp2_with fail
    refine Calls.mono HP3.out ?_
    intro e y3 hy
    have HY3 : Hid (WXO B C w wp vd vs ve E R e y3) := by
      show _
      have h5 := hy
      rw [HR2.out] at h5
      exact h5.on HK2.out
    clear hy HP3
    cases R with
    | none =>
      have h3' : e = _ := HY3.out.2
      subst h3'
      clear HX2 HK2 HR2
      go_wp2_with fail
      exact ⟨rfl, HY3.out⟩
    | some T9 =>
      have h3' : e = _ := HY3.out.2.1
      subst h3'
      clear HX2 HK2 HR2
      go_wp2_with fail
      refine bodyPost_end (results_none rfl _ _ _) rfl ?_
      exact HY3.out
  have HRn : Hid (_ = R) := (if_neg k5).symm.trans HR.out
  clear HR
  have HR := HRn
  clear HRn
  have d5 : (kd == 5) = false := by simpa using k5
  obtain rfl : none = R := HR.out
  have HF : Hid (WXO B C w wp vd vs ve E none (.panicked [{ v := .iface 27 (.int .i64 1), recovered := false }]) y0) := ⟨HK0.out, rfl⟩
  clear HX0 HK0 HR HO
  go_wp2_with fail
  exact ⟨rfl, HF.out⟩
end Go.Proofs.YtikknlkdbjaonaaGreatDoor.Y

/- The writer: expressions, whole; statements and blocks as they are written. -/
namespace Go.Proofs.YtikknlkdbjaonaaGreatDoor.Y
open Go.RowKit Go.Maps Go.Lib
set_option linter.unusedVariables false
set_option linter.unusedSimpArgs false
def wexp (E : List Exp) (i : Int) (T : By) : Option By := wpart E (2 * E.length + 1) i E.length 1 T
def wvalue (E : List Exp) (ah : By) (i : Int) (T : By) : Option By := (puts T [ah]).bind fun T1 => (wexp E i T1).bind fun T2 => puts T2 [[59]]
def wcond (E : List Exp) (wd : By) (i : Int) (T : By) : Option By := (puts T [wd, [40]]).bind fun T1 => (wexp E i T1).bind fun T2 => puts T2 [[41]]
def wargs (E : List Exp) : Bool → List Int → By → Option By
  | _, [], T => some T
  | true, i :: l, T => (wexp E i T).bind fun T2 => wargs E false l T2
  | false, i :: l, T => (puts T [[44]]).bind fun T1 => (wexp E i T1).bind fun T2 => wargs E false l T2
def wcall3 (E : List Exp) (s : Stmt) (T : By) : Option By :=
  if s.kind = 5 then (puts T [[103, 101, 116], [40], s.fn]).bind fun T3 => puts T3 [[41], [59]]
  else if s.kind = 6 then (puts T [[112, 117, 116], [40], s.fn, [44]]).bind fun T2 => (wexp E s.e T2).bind fun T3 => puts T3 [[41], [59]]
  else (puts T [s.fn, [40]]).bind fun T2 => (wargs E true s.args T2).bind fun T3 => puts T3 [[41], [59]]
def wcall (E : List Exp) (s : Stmt) (T : By) : Option By :=
  if s.name = [] then wcall3 E s T else (puts T [s.name, [61]]).bind fun T1 => wcall3 E s T1
def noS : Stmt := ⟨0, [], [], 0, 0, [], [], []⟩
def wlist (S : List Stmt) (g : Stmt → By → Option By) : List Int → By → Option By
  | [], T => some T
  | i :: l, T => if i < 0 ∨ (S.length : Int) ≤ i then none else (g (S.getD i.toNat noS) T).bind fun T1 => wlist S g l T1
def wblk (S : List Stmt) (g : Stmt → By → Option By) (l : List Int) (T : By) : Option By := (puts T [[123]]).bind fun T1 => (wlist S g l T1).bind fun T2 => puts T2 [[125]]
def wstmt (E : List Exp) (S : List Stmt) : Nat → Stmt → By → Option By
  | 0, _, _ => none
  | f + 1, s, T =>
    if s.kind = 1 then (puts T [[118, 97, 114], s.name]).bind fun T1 => wvalue E [61] s.e T1
    else if s.kind = 2 then (puts T [s.name]).bind fun T1 => wvalue E [61] s.e T1
    else if s.kind = 3 then (puts T [s.name, [91]]).bind fun T1 => (wexp E s.i T1).bind fun T2 => (puts T2 [[93]]).bind fun T3 => wvalue E [61] s.e T3
    else if s.kind = 4 then wcall E s T
    else if s.kind = 5 then wcall E s T
    else if s.kind = 6 then wcall E s T
    else if s.kind = 7 then (wcond E [105, 102] s.e T).bind fun T1 => (wblk S (wstmt E S f) s.body T1).bind fun T2 => if s.els = [] then some T2 else (puts T2 [[101, 108, 115, 101]]).bind fun T3 => wblk S (wstmt E S f) s.els T3
    else if s.kind = 8 then (wcond E [119, 104, 105, 108, 101] s.e T).bind fun T1 => wblk S (wstmt E S f) s.body T1
    else if s.kind = 9 then (puts T [[119, 105, 116, 104], s.name]).bind fun T1 => wblk S (wstmt E S f) s.body T1
    else if s.kind = 10 then wvalue E [112, 114, 105, 110, 116] s.e T
    else if s.kind = 11 then wvalue E [114, 101, 116, 117, 114, 110] s.e T
    else none
/-! ### Texts only grow -/
theorem bind_mono {a : Option By} {F : By → Option By} {T T' : By} (h : a.bind F = some T') (h1 : ∀ T1, a = some T1 → T.length ≤ T1.length) (h2 : ∀ T1, F T1 = some T' → T1.length ≤ T'.length) : T.length ≤ T'.length := by
  cases a with
  | none => cases h
  | some T1 => exact Nat.le_trans (h1 T1 rfl) (h2 T1 h)
theorem ite_mono {p : Prop} [Decidable p] {a b : Option By} {T T' : By} (h : (if p then a else b) = some T') (h1 : a = some T' → T.length ≤ T'.length) (h2 : b = some T' → T.length ≤ T'.length) : T.length ≤ T'.length := by
  by_cases c : p
  · rw [if_pos c] at h; exact h1 h
  · rw [if_neg c] at h; exact h2 h
theorem puts_mono {l : List By} : ∀ {T T' : By}, puts T l = some T' → T.length ≤ T'.length := by
  induction l with
  | nil => intro T T' e; injection e with e; subst e; exact Nat.le_refl _
  | cons s l ih =>
    intro T T' e
    unfold puts at e
    exact bind_mono e (fun T1 h => Nat.le_trans (Nat.le_add_right _ _) (put1_len h).2) fun T1 h => ih h
theorem puts_more {T T' : By} {s : By} (h : puts T [s] = some T') : T.length + s.length ≤ T'.length := by
  unfold puts at h
  cases hs : put1 T s with
  | none => rw [hs] at h; cases h
  | some T1 => rw [hs] at h; injection h with h; subst h; exact (put1_len hs).2
theorem wexp_mono' (E : List Exp) : ∀ f, (∀ {i : Int} {A L : Nat} {T T' : By}, wpart E f i A L T = some T' → T.length ≤ T'.length) ∧ (∀ {x : Exp} {k : Nat} {T T' : By}, wopen E f x k T = some T' → T.length ≤ T'.length)
  | 0 => ⟨fun h => by simp [wpart] at h, fun h => by simp [wopen] at h⟩
  | f + 1 => by
    obtain ⟨ihp, iho⟩ := wexp_mono' E f
    constructor
    · intro i A L T T' h
      unfold wpart at h
      split at h
      · cases h
      · split at h
        · exact bind_mono h (fun _ e => puts_mono e) fun _ e => bind_mono e (fun _ e => iho e) fun _ e => puts_mono e
        · exact iho h
    · intro x k T T' h
      unfold wopen at h
      split at h
      · exact puts_mono h
      split at h
      · exact puts_mono h
      split at h
      · exact bind_mono h (fun _ e => puts_mono e) fun _ e => bind_mono e (fun _ e => ihp e) fun _ e => puts_mono e
      split at h
      · exact bind_mono h (fun _ e => puts_mono e) fun _ e => ihp e
      split at h
      · exact bind_mono h (fun _ e => ihp e) fun _ e => bind_mono e (fun _ e => puts_mono e) fun _ e => ihp e
      · cases h
theorem wexp_mono {E : List Exp} {i : Int} {T T' : By} (h : wexp E i T = some T') : T.length ≤ T'.length := (wexp_mono' E _).1 h
theorem wvalue_mono {E : List Exp} {a : By} {i : Int} {T T' : By} (h : wvalue E a i T = some T') : T.length ≤ T'.length := bind_mono h (fun _ e => puts_mono e) fun _ e => bind_mono e (fun _ e => wexp_mono e) fun _ e => puts_mono e
theorem wcond_mono {E : List Exp} {a : By} {i : Int} {T T' : By} (h : wcond E a i T = some T') : T.length ≤ T'.length := bind_mono h (fun _ e => puts_mono e) fun _ e => bind_mono e (fun _ e => wexp_mono e) fun _ e => puts_mono e
theorem wargs_mono {E : List Exp} : ∀ {l : List Int} {b : Bool} {T T' : By}, wargs E b l T = some T' → T.length ≤ T'.length
  | [], b, T, T', h => by cases b <;> (injection h with h; subst h; exact Nat.le_refl _)
  | i :: l, true, T, T', h => bind_mono h (fun _ e => wexp_mono e) fun _ e => wargs_mono e
  | i :: l, false, T, T', h => bind_mono h (fun _ e => puts_mono e) fun _ e => bind_mono e (fun _ e => wexp_mono e) fun _ e => wargs_mono e
theorem wcall3_mono {E : List Exp} {s : Stmt} {T T' : By} (h : wcall3 E s T = some T') : T.length ≤ T'.length := by
  unfold wcall3 at h
  split at h
  · exact bind_mono h (fun _ e => puts_mono e) fun _ e => puts_mono e
  split at h
  · exact bind_mono h (fun _ e => puts_mono e) fun _ e => bind_mono e (fun _ e => wexp_mono e) fun _ e => puts_mono e
  · exact bind_mono h (fun _ e => puts_mono e) fun _ e => bind_mono e (fun _ e => wargs_mono e) fun _ e => puts_mono e
theorem wcall_mono {E : List Exp} {s : Stmt} {T T' : By} (h : wcall E s T = some T') : T.length ≤ T'.length := by
  unfold wcall at h
  split at h
  · exact wcall3_mono h
  · exact bind_mono h (fun _ e => puts_mono e) fun _ e => wcall3_mono e
theorem wlist_mono {S : List Stmt} {g : Stmt → By → Option By} (hg : ∀ {s : Stmt} {T T' : By}, g s T = some T' → T.length ≤ T'.length) : ∀ {l : List Int} {T T' : By}, wlist S g l T = some T' → T.length ≤ T'.length
  | [], T, T', h => by injection h with h; subst h; exact Nat.le_refl _
  | i :: l, T, T', h => by
    unfold wlist at h
    split at h
    · cases h
    · exact bind_mono h (fun _ e => hg e) fun _ e => wlist_mono hg e
theorem wblk_mono {S : List Stmt} {g : Stmt → By → Option By} (hg : ∀ {s : Stmt} {T T' : By}, g s T = some T' → T.length ≤ T'.length) {l : List Int} {T T' : By} (h : wblk S g l T = some T') : T.length ≤ T'.length :=
  bind_mono h (fun _ e => puts_mono e) fun _ e => bind_mono e (fun _ e => wlist_mono hg e) fun _ e => puts_mono e
theorem wstmt_mono {E : List Exp} {S : List Stmt} : ∀ {f : Nat} {s : Stmt} {T T' : By}, wstmt E S f s T = some T' → T.length ≤ T'.length
  | 0, s, T, T', h => by simp [wstmt] at h
  | f + 1, s, T, T', h => by
    have ih : ∀ {s : Stmt} {T T' : By}, wstmt E S f s T = some T' → T.length ≤ T'.length := fun h => wstmt_mono h
    unfold wstmt at h
    refine ite_mono h (fun h => bind_mono h (fun _ e => puts_mono e) fun _ e => wvalue_mono e) fun h => ?_
    refine ite_mono h (fun h => bind_mono h (fun _ e => puts_mono e) fun _ e => wvalue_mono e) fun h => ?_
    refine ite_mono h (fun h => bind_mono h (fun _ e => puts_mono e) fun _ e => bind_mono e (fun _ e => wexp_mono e) fun _ e => bind_mono e (fun _ e => puts_mono e) fun _ e => wvalue_mono e) fun h => ?_
    refine ite_mono h wcall_mono fun h => ?_
    refine ite_mono h wcall_mono fun h => ?_
    refine ite_mono h wcall_mono fun h => ?_
    refine ite_mono h (fun h => bind_mono h (fun _ e => wcond_mono e) fun T1 e => bind_mono e (fun _ e => wblk_mono ih e) fun T2 e => ite_mono e (fun e => by injection e with e; subst e; exact Nat.le_refl _) fun e => bind_mono e (fun _ e => puts_mono e) fun _ e => wblk_mono ih e) fun h => ?_
    refine ite_mono h (fun h => bind_mono h (fun _ e => wcond_mono e) fun _ e => wblk_mono ih e) fun h => ?_
    refine ite_mono h (fun h => bind_mono h (fun _ e => puts_mono e) fun _ e => wblk_mono ih e) fun h => ?_
    exact ite_mono h wvalue_mono fun h => ite_mono h wvalue_mono fun h => by cases h
/-! ### The module, as the writer sees it -/
structure MS (C : Nat) (w : World) (vs : Value) (XS : List Sx) : Prop where
  rs : w.ownsRow C 35 8 vs XS.length (XS.flatMap stC)
  sr : ∀ p ∈ XS, SxR C w p
theorem MS.kp {B C : Nat} {w y : World} {vs : Value} {XS : List Sx} (h : MS C w vs XS) (hk : Kp [80, 5] B w y) : MS C y vs XS := ⟨row_kp h.rs hk (by decide), fun p hp => ⟨row_kp (h.sr p hp).ra hk (by decide), row_kp (h.sr p hp).rb hk (by decide), row_kp (h.sr p hp).rl hk (by decide)⟩⟩
structure SOk (XS : List Sx) : Prop where
  name : ∀ p ∈ XS, p.s.name.length ≤ 140737488355328
  fn : ∀ p ∈ XS, p.s.fn.length ≤ 140737488355328
theorem expw_all {B C : Nat} {wp : Nat} {vd vs ve : Value} {E : List Exp} (hE : EOk E) : ∀ f : Nat, (∀ {w : World} {T : By} (i : Int) (A L : Nat), WX B C w wp vd vs ve E T → A ≤ E.length → 2 * A + 1 ≤ f → Calls Tryz.prog 151 #[.pointer (some ⟨wp, 0, none⟩), .int .i64 i, .int .i64 (A : Int), .int .i64 (L : Int)] w (WXO B C w wp vd vs ve E (wpart E f i A L T))) ∧ (∀ {w : World} {T : By} (x : Exp) (k : Nat), WX B C w wp vd vs ve E T → x ∈ E → k < E.length → 2 * k + 2 ≤ f → Calls Tryz.prog 163 #[.pointer (some ⟨wp, 0, none⟩), expV x, .int .i64 (k : Int)] w (WXO B C w wp vd vs ve E (wopen E f x k T)))
  | 0 => ⟨fun _ _ _ _ _ h => by omega, fun _ _ _ _ _ h => by omega⟩
  | f + 1 => by
    obtain ⟨ihp, iho⟩ := expw_all hE f
    exact ⟨fun i A L h hA hf => part_step hE f iho i A L h hA (by omega), fun x k h hm hk hf => open_step hE f ihp x k h hm hk (by omega)⟩
end Go.Proofs.YtikknlkdbjaonaaGreatDoor.Y

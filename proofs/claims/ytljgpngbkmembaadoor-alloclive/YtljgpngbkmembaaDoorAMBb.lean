/- The document's Copy, of one function. -/
import Derived.Test.YtljgpngbkmembaaDoorAMAd
import Derived.Test.YtljgpngbkmembaaDoorAMAa
import Derived.Test.YtljgpngbkmembaaDoorAMAl
import Derived.Test.YtljgpngbkmembaaDoorAMAi
import Derived.Deep.AppendSrc
import Derived.Test.YtljgpngbkmembaaDoorAMAs
import Derived.Test.YtljgpngbkmembaaDoorAMAu
namespace Go.Proofs.YtljgpngbkmembaaDoor
open Go.RowKit Go.Maps Go.Shelf
set_option linter.unusedVariables false
set_option linter.unusedSimpArgs false
theorem infoOp : (Tryd.prog.info? 46).map (fun i => (i.zero, i.size, i.bytes)) = some (some (.agg #[.int .i64 0, .int .i64 0, .string { data := #[] }, .int .i64 0, .int .i64 0, .int .i64 0, .int .i64 0, .slice none 0 0, .int .i64 0]), 9, 96) := by kernel_rfl
theorem infoFn : (Tryd.prog.info? 24).map (fun i => (i.zero, i.size, i.bytes)) = some (some (.agg #[.string { data := #[] }, .int .i64 0, .int .i64 0, .slice none 0 0]), 4, 56) := by kernel_rfl
set_option maxRecDepth 100000 in
theorem step_append_copy {ops : Array Oper} {o : Oper} {ac : Act} {K : Act → World → Prop} {Q : Exit → Act → World → Prop} {E : Prop} {w : World} (hgd : o.guard = none) (s x : Operand) (t : TypeId)
    (ho : o.op = .call { callee := .builtin .append, args := #[s, x], argTypes := #[t, t] }) (e : TypeId) (i0 : TypeInfo) (z : Value) (size bytes : Nat) (ht : Tryd.prog.underlying t = some (.slice e)) (hi : Tryd.prog.info? e = some i0) (hz : i0.zero = some z) (hsize : i0.size = size) (hby : i0.bytes = bytes) (hzs : z.cells.size = size) (hsz : 0 < size)
    {a : Option Addr} {l c : Nat} {cs : List Value} (hs : ac.eval s = .slice none 0 0) (hx : ac.eval x = .slice a l c) (hnil : a = none → l = 0 ∧ c = 0) (hlen : cs.length = l * size) (hcells : ∀ ad, a = some ad → ∀ j u, cs[j]? = some u → w.cell? (ad.add j) = some u) (h1 : ∀ u ∈ cs, u.oneCell' = true) (hb : l * bytes ≤ 140737488355328) (hm : l ≤ 140737488355328)
    (hk : ∀ a' c' w', w'.ownsRow w.heap.size e size (.slice a' l c') l cs → Below w.heap.size w w' → K (ac.put o.dst (.slice a' l c')) w') :
    if Region.wanted o (yielded ops ac.tmps) = true then Oper.wp Tryd.prog o ac w K Q else E := by
  have hw : Region.wanted o (yielded ops ac.tmps) = true := by simp [Region.wanted, hgd]
  rw [if_pos hw]
  obtain ⟨a', c', w', hr, h2, h3⟩ := run_append_copy w t e i0 z size bytes ht hi hz hsize hby hzs hsz hnil hlen hcells h1 hb hm o.type
  unfold Oper.wp execOp
  simp only [ho, resolve, invoke, builtin, Sem.run_bind, Sem.run_pure, Result.andThen_ok, List.map_toArray, List.map_cons, List.map_nil, hs, hx]
  rw [hr]
  exact hk a' c' w' h2 h3
def opG (p : F.Op × Ar) : List Value := opC p.1 p.2
theorem flat9 {d : F.Op × Ar} : ∀ (tv : List (F.Op × Ar)) (i j : Nat), i < tv.length → j < 9 → (tv.flatMap opG)[i * 9 + j]? = (opG (tv.getD i d))[j]?
  | [], i, j, hi, _ => by simp at hi
  | p :: tv, 0, j, _, hj => by
    rw [List.flatMap_cons, List.getElem?_append_left (by simpa [opG, opC] using hj)]
    simp
  | p :: tv, i + 1, j, hi, hj => by
    rw [List.flatMap_cons, List.getElem?_append_right (by simp [opG, opC]; omega)]
    have := flat9 (d := d) tv i j (by simpa using hi) hj
    have e : (i + 1) * 9 + j - (opG p).length = i * 9 + j := by simp [opG, opC]; omega
    rw [e, this]
    simp [List.getD]
/-- Operations whose lists are rows of one's own. -/
def OcA (B : Nat) (W : World) (tv : List (F.Op × Ar)) : Prop := ∀ p ∈ tv, W.ownsRow B 3 1 (.slice p.2.a p.2.l p.2.c) p.2.l (p.1.args.map iV)
theorem OcA.kept {B : Nat} {W y : World} {tv : List (F.Op × Ar)} {r : Option Nat} (h : OcA B W tv) (hg : W.grownBy y r) (hr : ∀ b, r = some b → ∃ c T f, W.heap[b]? = some (.cells c T f) ∧ T ≠ 3) : OcA B y tv := fun p hp => by
  have ho := h p hp
  refine ho.kept hg ?_
  cases hb : (Value.slice p.2.a p.2.l p.2.c).ownBlock with
  | none => exact .inl rfl
  | some b =>
    right
    intro e
    obtain ⟨cur, hcur⟩ := own_cells ho hb
    obtain ⟨c, T, f, hc, hT⟩ := hr b e.symm
    exact blk_ne hc hcur hT rfl
theorem OcA.below {B : Nat} {W y : World} {tv : List (F.Op × Ar)} (h : OcA B W tv) (hb : Below W.heap.size W y) : OcA B y tv := h.kept (gb_of_below hb none) (fun b e => by cases e)
theorem ops_of_own {W : World} {B B' : Nat} {tv : List (F.Op × Ar)} {a : Option Addr} {n c : Nat} (h : W.ownsRow B 46 9 (.slice a n c) n (tv.flatMap opG)) (hn : tv.length = n) (ho : OcA B' W tv) (hf : ∀ x ∈ tv.map (·.1), OpFit x) (hi : ∀ x ∈ tv.map (·.1), ∀ z ∈ x.args, (Lit.int .i64 z).wf = true) : OpsV W a n c (tv.map (·.1)) := by
  have hrm := row_room h
  rcases h.2 with ⟨e1, e2⟩ | ⟨g, cap, cur, e1, -, -, h1, h2, -⟩
  · injection e1 with e1 _ e3
    subst e1 e3
    exact ⟨by simpa using hn, hf, fun _ => ⟨e2, rfl⟩, hrm, .inl e2⟩
  · injection e1 with e1 _ e3
    subst e1 e3
    refine ⟨by simpa using hn, hf, fun e => (by cases e), hrm, .inr ⟨g, 0, rfl, fun i hi2 => ?_⟩⟩
    have hil : i < tv.length := by omega
    have hg : (tv.map (·.1)).getD i F.noOp = (tv.getD i (F.noOp, ⟨none, 0, 0⟩)).1 := by simp [List.getD, hil]
    have hm : tv.getD i (F.noOp, ⟨none, 0, 0⟩) ∈ tv := by simp [List.getD, hil]
    have hw := ho _ hm
    have hx : (tv.getD i (F.noOp, ⟨none, 0, 0⟩)).1 ∈ tv.map (·.1) := List.mem_map_of_mem hm
    have hc : ∀ j u, j < 9 → (opG (tv.getD i (F.noOp, ⟨none, 0, 0⟩)))[j]? = some u → W.cell? ⟨g, 0 + i * 9 + j, none⟩ = some u := fun j u hj hu => by
      rw [Nat.zero_add, h.cellAt _ (by omega), flat9 (d := (F.noOp, ⟨none, 0, 0⟩)) tv i j hil hj]
      exact hu
    rw [hg]
    refine ⟨(tv.getD i (F.noOp, ⟨none, 0, 0⟩)).2, ⟨hc 0 _ (by omega) rfl, hc 1 _ (by omega) rfl, hc 2 _ (by omega) rfl, hc 3 _ (by omega) rfl, hc 4 _ (by omega) rfl, hc 5 _ (by omega) rfl, hc 6 _ (by omega) rfl, hc 7 _ (by omega) rfl, hc 8 _ (by omega) rfl⟩, ?_⟩
    exact num_of_row hw (by have := hw.1; simpa using this) (hi _ hx)
theorem blk_put3 {W : World} {b : Nat} {x0 x1 x2 v u : Value} {T : TypeId} (h : W.heap[b]? = some (.cells #[x0, x1, x2, v] T)) : (W.setCell ⟨b, 3, none⟩ u).heap[b]? = some (.cells #[x0, x1, x2, u] T) := by
  have hlt := (Array.getElem?_eq_some_iff.1 h).1
  show (W.heap.modify b _)[b]? = _
  rw [Array.getElem?_eq_getElem (by rw [Array.size_modify]; exact hlt), Array.getElem_modify_self]
  have h2 := (Array.getElem?_eq_some_iff.1 h).2
  rw [h2]
  rfl
/-- What lies while operations are copied. -/
structure CpI (w : World) (f : F.Fn) (k : Nat) (tv : List (F.Op × Ar)) (lv : Value) (W : World) : Prop where
  low : Below w.heap.size w W
  blk : W.heap[w.heap.size]? = some (.cells #[.string f.name, .int .i64 f.params, .int .i64 f.temps, lv] 24)
  own : W.ownsRow w.heap.size 46 9 lv k (tv.flatMap opG)
  arg : OcA w.heap.size W tv
  map : tv.map (·.1) = f.code.take k
theorem CpI.below {w W y : World} {f : F.Fn} {k : Nat} {tv : List (F.Op × Ar)} {lv : Value} (h : CpI w f k tv lv W) (hb : Below W.heap.size W y) : CpI w f k tv lv y :=
  ⟨h.low.trans (hb.mono h.low.size), blk_below h.blk hb, row_below h.own hb, h.arg.below hb, h.map⟩
/-- What Copy leaves. -/
def CopyOut (w : World) (f : F.Fn) (n : Nat) (e : Ending) (W : World) : Prop := ∃ (g cg : Nat) (a : Option Addr) (c : Nat), e = .returned (.slice (some ⟨g, 0, none⟩) 1 cg) ∧ w.heap.size ≤ g ∧ (W.cell? ⟨g, 0, none⟩ = some (.string f.name) ∧ W.cell? ⟨g, 1, none⟩ = some (.int .i64 f.params) ∧ W.cell? ⟨g, 2, none⟩ = some (.int .i64 f.temps) ∧ W.cell? ⟨g, 3, none⟩ = some (.slice a n c)) ∧ OpsV W a n c f.code ∧ Below w.heap.size w W
set_option maxRecDepth 100000 in
set_option maxHeartbeats 4000000 in
theorem rcopy_any {w : World} {f : F.Fn} {q cq : Nat} {a : Option Addr} {n c : Nat} (q0 : w.cell? ⟨q, 0, none⟩ = some (.string f.name)) (q1 : w.cell? ⟨q, 1, none⟩ = some (.int .i64 f.params)) (q2 : w.cell? ⟨q, 2, none⟩ = some (.int .i64 f.temps)) (q3 : w.cell? ⟨q, 3, none⟩ = some (.slice a n c)) (h : OpsV w a n c f.code) (hsz : ∀ x ∈ f.code, x.args.length * 8 ≤ 140737488355328) (hn3 : n ≤ 300) :
    Calls Tryd.prog 10 #[.slice (some ⟨q, 0, none⟩) 1 cq] w (CopyOut w f n) := by
  obtain ⟨i1, hi1, hz10, hz11, hz12⟩ := ainfo infoN
  obtain ⟨i2, hi2, hz20, hz21, hz22⟩ := ainfo infoOp
  obtain ⟨i3, hi3, hz30, hz31, hz32⟩ := ainfo infoFn
  have HO : Hid (OpsV w a n c f.code) := h
  have HC : Hid (f.code.length = n) := h.count
  have HSZ : Hid (∀ x ∈ f.code, x.args.length * 8 ≤ 140737488355328) := hsz
  have HAF : Hid (∀ x ∈ f.code, ∀ z ∈ x.args, (Lit.int .i64 z).wf = true) := fun x hx => by
    obtain ⟨i, hi, e⟩ := List.mem_iff_getElem.1 hx
    obtain ⟨_, _, r, -, -, hn⟩ := h.at (i := i) (by rw [← h.count]; exact hi)
    have e2 : f.code.getD i F.noOp = x := by simp [List.getD, hi, e]
    rw [e2] at hn
    exact hn.fits
  have HQ : Hid (∀ y, Below w.heap.size w y → y.cell? ⟨q, 0, none⟩ = some (.string f.name) ∧ y.cell? ⟨q, 1, none⟩ = some (.int .i64 f.params) ∧ y.cell? ⟨q, 2, none⟩ = some (.int .i64 f.temps) ∧ y.cell? ⟨q, 3, none⟩ = some (.slice a n c)) := fun y hy => ⟨cell_thru hy q0, cell_thru hy q1, cell_thru hy q2, cell_thru hy q3⟩
  have HQW : Hid (q < w.heap.size) := lt_of_cell q0
  obtain ⟨Y0, hY0⟩ : ∃ Y0, w.alloc (.cells #[.string f.name, .int .i64 f.params, .int .i64 f.temps, .slice a n c] 24) = Y0 := ⟨_, rfl⟩
  have hbY0 : Y0.heap[w.heap.size]? = some (.cells #[.string f.name, .int .i64 f.params, .int .i64 f.temps, .slice a n c] 24) := by rw [← hY0]; exact World.alloc_heap_new _ _
  have g3 := cell_blk hbY0 3 (v := .slice a n c) rfl
  have z3 := blk_fro (o := 3) hbY0
  obtain ⟨W1, hW1⟩ : ∃ W1, Y0.setCell ⟨w.heap.size, 3, none⟩ (.slice none 0 0) = W1 := ⟨_, rfl⟩
  have HI0 : Hid (CpI w f 0 [] (.slice none 0 0) W1) := by
    show CpI _ _ _ _ _ _
    rw [← hW1]
    have hb : Below w.heap.size w Y0 := by rw [← hY0]; exact bl1 _ _
    exact ⟨hb.setCell (p := ⟨w.heap.size, 3, none⟩) (Nat.le_refl _) _, blk_put3 hbY0, World.ownsRow_nil _ _ _ _, (fun p hp => by cases hp), by simp⟩
  clear h hsz hbY0
  go_enter Tryd.func10, Tryd.ntmps10
  go_wp2_with fail
  refine wp_loop_rounds 2 ?_
  rw [rounds_succ]
  go_wp2_with fail
  try rw [hW1]
  clear hY0 hW1 g3 z3 q0 q1 q2 q3
  go_loopg [6, 7] n (fun r iv v7 wq => ∃ (k : Nat) (tv : List (F.Op × Ar)) (lv : Value), r = n - k ∧ iv = .int .i64 k ∧ k ≤ n ∧ Hid (CpI w f k tv lv wq))
  case atStart => exact ⟨0, [], _, rfl, rfl, Nat.zero_le _, HI0⟩
  case round =>
    obtain ⟨k, tv, lv, rfl, rfl, hk, HI⟩ := hrel
    clear HI0
    obtain ⟨q0, q1, q2, q3⟩ := HQ.out wr HI.out.low
    by_cases hkn : k < n
    · have hki : (k : Int) < n := by omega
      have hk0 : 0 ≤ (k : Int) := by omega
      obtain ⟨bc, offc, r, rfl, hat0, hnum⟩ := HO.out.at hkn
      obtain ⟨x, hxx⟩ : ∃ x, f.code.getD k F.noOp = x := ⟨_, rfl⟩
      rw [hxx] at hat0 hnum
      have hmem : x ∈ f.code := by rw [← hxx]; have := HC.out; simp [List.getD, show k < f.code.length by omega]
      have HTK : Hid (f.code.take (k + 1) = f.code.take k ++ [x]) := by
        show _ = _
        have hk2 : k < f.code.length := by rw [HC.out]; exact hkn
        rw [List.take_add_one, List.getElem?_eq_getElem hk2]
        have e : f.code[k] = x := by rw [← hxx]; simp [List.getD, hk2]
        rw [e]
        rfl
      have HNUM : Hid (NumV w r.a r.l r.c x.args) := hnum
      have hl8 : r.l * 8 ≤ 140737488355328 := by have := HSZ.out x hmem; have := hnum.count; omega
      have hbcw : bc < w.heap.size := lt_of_cell hat0.1
      have hat := hat0.sub (below_sub HI.out.low)
      have HAT : Hid (∀ y, Below w.heap.size w y → y.cell? ⟨bc, offc + k * 9 + 7, none⟩ = some (.slice r.a r.l r.c)) := fun y hy => cell_thru hy hat0.2.2.2.2.2.2.2.1
      obtain ⟨o0, o1, o2, o3, o4, o5, o6, o7, o8⟩ := hat
      clear hat0 hnum hxx
      obtain ⟨Y0, hY0⟩ : ∃ Y0, wr.alloc (.cells #[.int .i64 x.op, .int .i64 x.what, .string x.nm, .int .i64 x.d, .int .i64 x.a, .int .i64 x.b, .int .i64 x.n, .slice r.a r.l r.c, .int .i64 x.dest] 46) = Y0 := ⟨_, rfl⟩
      obtain ⟨b7, hb7⟩ : ∃ b7, wr.heap.size = b7 := ⟨_, rfl⟩
      have HB7 : Hid (w.heap.size < b7) := by
        show _ < _
        rw [← hb7]
        exact (Array.getElem?_eq_some_iff.1 HI.out.blk).1
      have HX0 : Hid (Bx Y0 b7 (opC x r)) := by show Bx _ _ _; rw [← hY0, ← hb7]; exact Bx.new wr (opC x r).toArray _
      have HI1 : Hid (CpI w f k tv lv Y0) := by show CpI _ _ _ _ _ _; rw [← hY0]; exact HI.out.below (bl1 _ _)
      have HT0 : Hid (Y0.heap[b7]? = some (.cells (opC x r).toArray 46)) := by show _ = _; rw [← hY0, ← hb7]; exact World.alloc_heap_new _ _
      have HF7 : Hid (∀ b, lv.ownBlock = some b → b ≠ b7) := fun b hb e => by
        have := HI.out.own.lt b hb
        omega
      have HF9 : Hid (∀ p ∈ tv, ∀ b, (Value.slice p.2.a p.2.l p.2.c).ownBlock = some b → b < b7) := fun p hp b hb => by
        have := (HI.out.arg p hp).lt b hb
        omega
      have s7 := HX0.out.c 7 _ rfl
      have z7 := HX0.out.f 7
      obtain ⟨Y1, hY1⟩ : ∃ Y1, Y0.setCell ⟨b7, 7, none⟩ (.slice none 0 0) = Y1 := ⟨_, rfl⟩
      -- what lies behind a store into the box of the operation
      have HPUT : Hid (∀ (Z : World) (u : Value), CpI w f k tv lv Z → CpI w f k tv lv (Z.setCell ⟨b7, 7, none⟩ u)) := fun Z u hz => by
        have hlt := HB7.out
        refine ⟨hz.low.setCell (p := ⟨b7, 7, none⟩) (Nat.le_of_lt hlt) _, (Below.heap_setCell _ _ _ _ (by show w.heap.size ≠ b7; omega)).trans hz.blk, ?_, fun p hp => ?_, hz.map⟩
        · refine hz.own.kept (gb_set _ _ _) ?_
          cases hb : lv.ownBlock with
          | none => exact .inl rfl
          | some b => exact .inr (fun e => HF7.out b hb (by injection e))
        · refine (hz.arg p hp).kept (gb_set _ _ _) ?_
          cases hb : (Value.slice p.2.a p.2.l p.2.c).ownBlock with
          | none => exact .inl rfl
          | some b => exact .inr (fun e => by have := HF9.out p hp b hb; have e2 : b = b7 := by injection e
                                              omega)
      have HX1 : Hid (Bx Y1 b7 [.int .i64 x.op, .int .i64 x.what, .string x.nm, .int .i64 x.d, .int .i64 x.a, .int .i64 x.b, .int .i64 x.n, .slice none 0 0, .int .i64 x.dest]) := by show Bx _ _ _; rw [← hY1]; exact HX0.out.put 7 (by simp [opC]) (.slice none 0 0)
      have HI2 : Hid (CpI w f k tv lv Y1) := by show CpI _ _ _ _ _ _; rw [← hY1]; exact HPUT.out _ _ HI1.out
      go_wp2_with fail
      try rw [hY1]
      clear hY0 hY1 hb7 s7 z7 o0 o1 o2 o3 o4 o5 o6 o7 o8 q0 q1 q2 q3 HX0 HI1 HT0 HI
      have HSS : Hid (∀ y, Below w.heap.size w y → y.cell? ⟨q, 3, none⟩ = some (.slice (some ⟨bc, offc, none⟩) n c) ∧ y.cell? ⟨bc, offc + k * 9 + 7, none⟩ = some (.slice r.a r.l r.c)) := fun y hy => ⟨(HQ.out y hy).2.2.2, HAT.out y hy⟩
      have HSR : Hid _ := (HNUM.out.below HI2.out.low.drew).src
      have HNL : Hid (r.a = none → r.l = 0 ∧ r.c = 0) := HNUM.out.nilOf
      have m7 := HX1.out.drew.c 7 _ rfl
      refine wp_region_held_drew (S := (fun w' : World => w'.cell? ⟨q, 3, none⟩ = some (.slice (some ⟨bc, offc, none⟩) n c) ∧ w'.cell? ⟨bc, offc + k * 9 + 7, none⟩ = some (.slice r.a r.l r.c))) (by kernel_rfl) (HSS.out _ HI2.out.low.drew) (fun hHeld => ?_)
      refine tkr (i := 0) (v := ?_) (tA rfl) (by kernel_rfl) (fun _ _ _ h => h) (Or.inl ⟨by rfl, ?_⟩) (by assumption) ?_
      rotate_left
      · (intro w hSw; (try dsimp only at hSw); go_simp <;> with_reducible rfl)
      simp only [Act.put, List.setIfInBounds_toArray, List.set_cons_zero, List.set_cons_succ]
      refine tkr (i := 2) (v := ?_) (tA rfl) (by kernel_rfl) (fun _ _ _ h => h) (Or.inl ⟨by rfl, ?_⟩) (by assumption) ?_
      rotate_left
      · (intro w hSw; (try dsimp only at hSw); go_simp <;> with_reducible rfl)
      simp only [Act.put, List.setIfInBounds_toArray, List.set_cons_zero, List.set_cons_succ]
      refine tkr (i := 3) (v := ?_) (tA rfl) (by kernel_rfl) (fun _ _ _ h => h) (Or.inl ⟨by rfl, ?_⟩) (by assumption) ?_
      rotate_left
      · (intro w hSw; (try dsimp only at hSw); go_simp <;> with_reducible rfl)
      simp only [Act.put, List.setIfInBounds_toArray, List.set_cons_zero, List.set_cons_succ]
      refine tkr (i := 4) (v := ?_) (tA rfl) (by kernel_rfl) (fun _ _ _ h => h) (Or.inl ⟨by rfl, ?_⟩) (by assumption) ?_
      rotate_left
      · (intro w hSw; (try dsimp only at hSw); go_simp <;> with_reducible rfl)
      simp only [Act.put, List.setIfInBounds_toArray, List.set_cons_zero, List.set_cons_succ]
      refine tkr (i := 5) (v := ?_) (tA rfl) (by kernel_rfl) (fun _ _ _ h => h) (Or.inl ⟨by rfl, ?_⟩) (by assumption) ?_
      rotate_left
      · (intro w hSw; (try dsimp only at hSw); go_simp <;> with_reducible rfl)
      simp only [Act.put, List.setIfInBounds_toArray, List.set_cons_zero, List.set_cons_succ]
      refine tkr (i := 6) (v := ?_) (tA rfl) (by kernel_rfl) (fun _ _ _ h => h) (Or.inl ⟨by rfl, ?_⟩) (by assumption) ?_
      rotate_left
      · (intro w hSw; (try dsimp only at hSw); go_simp <;> with_reducible rfl)
      simp only [Act.put, List.setIfInBounds_toArray, List.set_cons_zero, List.set_cons_succ]
      refine tkr (i := 7) (v := ?_) (tA rfl) (by kernel_rfl) (fun _ _ _ h => h) (Or.inl ⟨by rfl, ?_⟩) (by assumption) ?_
      rotate_left
      · (intro w hSw; (try dsimp only at hSw); go_simp <;> with_reducible rfl)
      simp only [Act.put, List.setIfInBounds_toArray, List.set_cons_zero, List.set_cons_succ]
      refine tkr (i := 8) (v := ?_) (tA rfl) (by kernel_rfl) (fun _ _ _ h => h) (Or.inl ⟨by rfl, ?_⟩) (by assumption) ?_
      rotate_left
      · (intro w hSw; (try dsimp only at hSw); go_simp <;> with_reducible rfl)
      simp only [Act.put, List.setIfInBounds_toArray, List.set_cons_zero, List.set_cons_succ]
      refine tkr (i := 9) (v := ?_) (tA rfl) (by kernel_rfl) (fun _ _ _ h => h) (Or.inl ⟨by rfl, ?_⟩) (by assumption) ?_
      rotate_left
      · (intro w hSw; (try dsimp only at hSw); go_simp <;> with_reducible rfl)
      simp only [Act.put, List.setIfInBounds_toArray, List.set_cons_zero, List.set_cons_succ]
      refine tkr (i := 10) (v := ?_) (tA rfl) (by kernel_rfl) (fun _ _ _ h => h) (Or.inl ⟨by rfl, ?_⟩) (by assumption) ?_
      rotate_left
      · (intro w hSw; (try dsimp only at hSw); go_simp <;> with_reducible rfl)
      simp only [Act.put, List.setIfInBounds_toArray, List.set_cons_zero, List.set_cons_succ]
      refine wpAnyH_ready (rs := [1]) (by kernel_rfl) (by simp) ?_
      refine AllReadyH.cons (tA rfl) (fun K hK => ?_) AllReadyH.nil
      go_simp
      refine hK.out _ _ hHeld (fun hHeld => ?_)
      clear hK K
      try simp only [Act.put, List.setIfInBounds_toArray, List.set_cons_zero, List.set_cons_succ]
      refine wpAnyH_ready (rs := [11]) (by kernel_rfl) (by simp) ?_
      refine AllReadyH.cons (tA rfl) (fun K hK => ?_) AllReadyH.nil
      refine step_append_copy (by rfl) _ _ 30 (by rfl) 3 i1 _ 1 8 Tryd.underlying30 hi1 hz10 hz11 hz12 rfl (by decide) (a := r.a) (l := r.l) (c := r.c) (cs := x.args.map iV) (by rfl) (by rfl) HNL.out HSR.out.1 HSR.out.2.1 HSR.out.2.2 (by omega) (by omega) ?_
      intro e1 f1 Y2 hoY2 hbY2
      have HY2 : Hid _ := hoY2
      have hb2 : Below Y1.heap.size Y1 Y2 := ⟨hbY2.os, hbY2.tape, hbY2.output, hbY2.size, hbY2.block⟩
      have HI3 : Hid (CpI w f k tv lv Y2) := HI2.out.below hb2
      have HX3 : Hid (Bx Y2 b7 [.int .i64 x.op, .int .i64 x.what, .string x.nm, .int .i64 x.d, .int .i64 x.a, .int .i64 x.b, .int .i64 x.n, .slice none 0 0, .int .i64 x.dest]) := HX1.out.below hb2
      have HO3 : Hid (Y2.ownsRow (b7 + 1) 3 1 (.slice e1 r.l f1) r.l (x.args.map iV)) := row_base hoY2 (by have := HX1.out.lt; show b7 + 1 ≤ Y1.heap.size; omega)
      clear hoY2 hbY2 hb2 m7
      refine hK.out _ _ (HSS.out _ HI3.out.low) (fun hHeld => ?_)
      clear hK K
      try simp only [Act.put, List.setIfInBounds_toArray, List.set_cons_zero, List.set_cons_succ]
      refine tkr (i := 12) (v := ?_) (tA rfl) (by kernel_rfl) (fun _ _ _ h => h) (Or.inl ⟨by rfl, ?_⟩) (by assumption) ?_
      rotate_left
      · (intro w hSw; (try dsimp only at hSw); go_simp <;> with_reducible rfl)
      simp only [Act.put, List.setIfInBounds_toArray, List.set_cons_zero, List.set_cons_succ]
      have m7 := HX3.out.c 7 _ rfl
      have z7 := HX3.out.f 7
      obtain ⟨Y3, hY3⟩ : ∃ Y3, Y2.setCell ⟨b7, 7, none⟩ (.slice e1 r.l f1) = Y3 := ⟨_, rfl⟩
      have HI4 : Hid (CpI w f k tv lv Y3) := by show CpI _ _ _ _ _ _; rw [← hY3]; exact HPUT.out _ _ HI3.out
      have HX4 : Hid (Bx Y3 b7 (opC x ⟨e1, r.l, f1⟩)) := by show Bx _ _ _; rw [← hY3]; exact HX3.out.put 7 (by simp) (.slice e1 r.l f1)
      have HO4 : Hid (Y3.ownsRow (b7 + 1) 3 1 (.slice e1 r.l f1) r.l (x.args.map iV)) := by
        show World.ownsRow _ _ _ _ _ _ _
        rw [← hY3]
        exact HO3.out.kept (gb_set _ _ _) (by
          cases hb : (Value.slice e1 r.l f1).ownBlock with
          | none => exact .inl rfl
          | some b => exact .inr (fun e => by have := (HO3.out.lt b hb).1; have e2 : b = b7 := by injection e
                                              omega))
      refine wpAnyH_ready (rs := [13]) (by kernel_rfl) (by simp) ?_
      refine AllReadyH.cons (tA rfl) (fun K hK => ?_) AllReadyH.nil
      clear hHeld
      go_simp
      try rw [hY3]
      refine hK.out _ _ (HSS.out _ HI4.out.low) (fun hHeld => ?_)
      clear hK K
      try simp only [Act.put, List.setIfInBounds_toArray, List.set_cons_zero, List.set_cons_succ]
      refine wpAnyH_done (by kernel_rfl) ?_ _
      clear hHeld hY3 m7 z7 HX1 HI2 HX3 HI3 HO3 HSR HNL
      have p0 := HX4.out.c 0 _ rfl
      have p1 := HX4.out.c 1 _ rfl
      have p2 := HX4.out.c 2 _ rfl
      have p3 := HX4.out.c 3 _ rfl
      have p4 := HX4.out.c 4 _ rfl
      have p5 := HX4.out.c 5 _ rfl
      have p6 := HX4.out.c 6 _ rfl
      have p7 := HX4.out.c 7 _ rfl
      have p8 := HX4.out.c 8 _ rfl
      have c3 := cell_blk HI4.out.blk 3 (v := lv) rfl
      obtain ⟨Z, hZ⟩ : ∃ Z, Y3.alloc (.cells #[.int .i64 x.op, .int .i64 x.what, .string x.nm, .int .i64 x.d, .int .i64 x.a, .int .i64 x.b, .int .i64 x.n, .slice e1 r.l f1, .int .i64 x.dest] 46) = Z := ⟨_, rfl⟩
      obtain ⟨bz, hbz⟩ : ∃ bz, Y3.heap.size = bz := ⟨_, rfl⟩
      have HIZ : Hid (CpI w f k tv lv Z) := by show CpI _ _ _ _ _ _; rw [← hZ]; exact HI4.out.below (bl1 _ _)
      have HOZ : Hid (Z.ownsRow w.heap.size 3 1 (.slice e1 r.l f1) r.l (x.args.map iV)) := by show World.ownsRow _ _ _ _ _ _ _; rw [← hZ]; exact row_base (row_below HO4.out (bl1 _ _)) (by have := HB7.out; omega)
      have HNC : Hid (∀ (j : Nat) u, (opC x ⟨e1, r.l, f1⟩)[j]? = some u → Z.cell? ((⟨bz, 0, none⟩ : Addr).add j) = some u) := fun j u hu => by
        rw [Addr.add_lit, Nat.zero_add, ← hZ, ← hbz]
        exact ncell_at (by simpa [opC] using hu)
      have HBS : Hid (w.heap.size ≤ Z.heap.size) := HIZ.out.low.size
      have HONE : Hid (∀ u ∈ opC x ⟨e1, r.l, f1⟩, u.oneCell' = true) := by
        intro u hu
        unfold opC at hu
        simp only [List.mem_cons, List.not_mem_nil, or_false] at hu
        rcases hu with rfl | rfl | rfl | rfl | rfl | rfl | rfl | rfl | rfl <;> rfl
      have hTYP : ∀ b, lv.ownBlock = some b → ∃ cur, Z.heap[b]? = some (.cells cur 46 (0, 0)) := fun b hb => own_cells HIZ.out.own hb
      have HTYP : Hid _ := hTYP
      clear hTYP HI4
      go_wp2_with (first | (at_builtin; refine wpList_append_own _ rfl _ _ 22 rfl w.heap.size 46 i2 _ 9 96 Tryd.underlying22 hi2 hz20 hz21 hz22 rfl (by decide) lv k _ rfl HIZ.out.own ⟨bz, 0, none⟩ 1 1 (opC x ⟨e1, r.l, f1⟩) rfl rfl HNC.out HONE.out (by unfold maxLen; omega) (by omega) HBS.out ?_; intro v' w3 hown' hgrow _; obtain ⟨g', cap', rfl⟩ := ownsRow_succ hown'; have HO5 : Hid _ := hown'; have HG5 : Hid _ := hgrow; have HB5 : Hid (w3.heap[w.heap.size]? = some (.cells #[.string f.name, .int .i64 f.params, .int .i64 f.temps, lv] 24)) := (hgrow.block _ (Array.getElem?_eq_some_iff.1 HIZ.out.blk).1 (fun e => by obtain ⟨cur, hc⟩ := HTYP.out _ e.symm; exact blk_ne hc HIZ.out.blk (by decide) rfl)).trans HIZ.out.blk; have d3 := cell_blk HB5.out 3 (v := lv) rfl; have f3 := blk_fro (o := 3) HB5.out; clear hown' hgrow))
      have HN : Hid (CpI w f (k + 1) (tv ++ [(x, ⟨e1, r.l, f1⟩)]) (.slice (some ⟨g', 0, none⟩) (k + 1) cap') (w3.setCell ⟨w.heap.size, 3, none⟩ (.slice (some ⟨g', 0, none⟩) (k + 1) cap'))) := by
        have hg5 := HG5.out
        have hlow : Below w.heap.size w w3 := HIZ.out.low.grown hg5 HIZ.out.low.size (fun b hb => (HIZ.out.own.lt b hb).1)
        have harg : OcA w.heap.size Z (tv ++ [(x, ⟨e1, r.l, f1⟩)]) := fun p hp => by
          rcases List.mem_append.1 hp with hp | hp
          · exact HIZ.out.arg p hp
          · rw [List.mem_singleton] at hp
            subst hp
            exact HOZ.out
        have harg3 : OcA w.heap.size w3 (tv ++ [(x, ⟨e1, r.l, f1⟩)]) := harg.kept hg5 (fun b hb => by
          obtain ⟨cur, hc⟩ := HTYP.out b hb
          exact ⟨cur, _, _, hc, by decide⟩)
        refine ⟨hlow.setCell (p := ⟨w.heap.size, 3, none⟩) (Nat.le_refl _) _, blk_put3 HB5.out, ?_, ?_, ?_⟩
        · rw [List.flatMap_append]
          simp only [List.flatMap_cons, List.flatMap_nil, List.append_nil]
          refine World.ownsRow.kept (w := w3) HO5.out (gb_set _ _ _) (.inr (fun e => ?_))
          have e2 : g' = w.heap.size := by simpa [Value.ownBlock] using e
          obtain ⟨cur, hcur⟩ := own_cells HO5.out (b := g') rfl
          exact blk_ne hcur HB5.out (by decide) e2
        · exact harg3.kept (gb_set _ _ _) (fun b hb => by
            injection hb with hb
            subst hb
            exact ⟨_, _, _, HB5.out, by decide⟩)
        · rw [List.map_append, HIZ.out.map, HTK.out]
          rfl
      clear HIZ HOZ HNC HBS HONE HTYP HO5 HG5 d3 f3 p0 p1 p2 p3 p4 p5 p6 p7 p8 c3
      try go_wp2_with fail
      go_roundg (n - (k + 1))
      case measure => omega
      case rel => exact ⟨k + 1, _, _, rfl, by go_num, by omega, HN⟩
    · have hkk : n = k := by omega
      subst hkk
      have hki : ¬ (n : Int) < n := by omega
      have hml : tv.length = n := by
        have := congrArg List.length HI.out.map
        rw [List.length_map, List.length_take, HC.out] at this
        omega
      have hmt : tv.map (·.1) = f.code := by rw [HI.out.map, List.take_of_length_le (by rw [HC.out]; exact Nat.le_refl _)]
      obtain ⟨av, cv, hv⟩ : ∃ av cv, lv = .slice av n cv := by
        rcases HI.out.own.2 with ⟨ex, ex2⟩ | ⟨qx, cap, cur, ex, -⟩
        · exact ⟨none, 0, by rw [ex, ex2]⟩
        · exact ⟨_, cap, ex⟩
      subst hv
      have HOV : Hid (OpsV wr av n cv f.code) := by
        show OpsV _ _ _ _ _
        rw [← hmt]
        exact ops_of_own HI.out.own hml HI.out.arg (by rw [hmt]; exact HO.out.fits) (by rw [hmt]; exact HAF.out)
      have c0 := cell_blk HI.out.blk 0 (v := .string f.name) rfl
      have c1 := cell_blk HI.out.blk 1 (v := .int .i64 f.params) rfl
      have c2 := cell_blk HI.out.blk 2 (v := .int .i64 f.temps) rfl
      have c3 := cell_blk HI.out.blk 3 (v := .slice av n cv) rfl
      have HLO : Hid (Below w.heap.size w wr) := HI.out.low
      clear hml hmt HI
      obtain ⟨Z, hZ⟩ : ∃ Z, wr.alloc (.cells #[.string f.name, .int .i64 f.params, .int .i64 f.temps, .slice av n cv] 24) = Z := ⟨_, rfl⟩
      obtain ⟨bz, hbz⟩ : ∃ bz, wr.heap.size = bz := ⟨_, rfl⟩
      have HNC : Hid (∀ (ad : Addr), some (⟨bz, 0, none⟩ : Addr) = some ad → ∀ (j : Nat) u, ([.string f.name, .int .i64 f.params, .int .i64 f.temps, .slice av n cv] : List Value)[j]? = some u → Z.cell? (ad.add j) = some u) := fun ad had j u hu => by
        cases had
        rw [Addr.add_lit, Nat.zero_add, ← hZ, ← hbz]
        exact ncell_at (by simpa using hu)
      have HLZ : Hid (Below w.heap.size w Z ∧ OpsV Z av n cv f.code) := by
        show _ ∧ _
        rw [← hZ]
        exact ⟨HLO.out.alloc HLO.out.size _, HOV.out.below (bl1 _ _)⟩
      have HONE : Hid (∀ u ∈ ([.string f.name, .int .i64 f.params, .int .i64 f.temps, .slice av n cv] : List Value), u.oneCell' = true) := by
        intro u hu
        simp only [List.mem_cons, List.not_mem_nil, or_false] at hu
        rcases hu with rfl | rfl | rfl | rfl <;> rfl
      go_wp2_with (first | (at_builtin; refine wpList_append_copy rfl _ _ 27 rfl 24 i3 _ 4 56 Tryd.underlying27 hi3 hz30 hz31 hz32 rfl (by decide) (a := some ⟨bz, 0, none⟩) (l := 1) (c := 1) (cs := [.string f.name, .int .i64 f.params, .int .i64 f.temps, .slice av n cv]) rfl rfl (fun e => by cases e) rfl HNC.out HONE.out (by omega) (by omega) ?_; intro a' c' w3 ho3 hb3; have HO5 : Hid _ := ho3; have HB5 : Hid _ := hb3; clear ho3 hb3))
      obtain ⟨g, rfl, hgz⟩ : ∃ g, a' = some ⟨g, 0, none⟩ ∧ Z.heap.size ≤ g := by
        rcases HO5.out.2 with ⟨ex, ex2⟩ | ⟨g, cap, cur, ex, hb, -⟩
        · omega
        · cases ex
          exact ⟨g, rfl, hb⟩
      have HOW : w3.ownsRow Z.heap.size 24 4 (.slice (some ⟨g, 0, none⟩) 1 c') 1 [.string f.name, .int .i64 f.params, .int .i64 f.temps, .slice av n cv] := HO5.out
      have HRES : Hid (CopyOut w f n (.returned (.slice (some ⟨g, 0, none⟩) 1 c')) w3) := by
        have hb : Below w.heap.size w w3 := HLZ.out.1.trans (HB5.out.mono HLZ.out.1.size)
        refine ⟨g, c', av, cv, rfl, Nat.le_trans HLZ.out.1.size hgz, ⟨?_, ?_, ?_, ?_⟩, HLZ.out.2.below HB5.out, hb⟩
        · have e := HOW.cellAt 0 (by decide)
          exact e
        · have e := HOW.cellAt 1 (by decide)
          exact e
        · have e := HOW.cellAt 2 (by decide)
          exact e
        · have e := HOW.cellAt 3 (by decide)
          exact e
      clear HOW HO5 HB5 HLZ HNC HONE hgz HOV HLO c0 c1 c2 c3
      try go_wp2_with fail
      rw [rounds_succ]
      go_wp2_with fail
      go_ret
      exact HRES.out
end Go.Proofs.YtljgpngbkmembaaDoor

/- The document's Same, of one function each: it answers yes where the two are the same. -/
namespace Go.Proofs.YtljgpngbkmembaaDoor
open Go.RowKit Go.Maps
set_option linter.unusedVariables false
set_option linter.unusedSimpArgs false
set_option maxRecDepth 100000 in
set_option maxHeartbeats 4000000 in
theorem rsame1_any {w : World} {f : F.Fn} {q cq p cp : Nat} {a a2 : Option Addr} {n c c2 : Nat} (hq : w.cell? ⟨q, 0, none⟩ = some (.string f.name) ∧ w.cell? ⟨q, 1, none⟩ = some (.int .i64 f.params) ∧ w.cell? ⟨q, 2, none⟩ = some (.int .i64 f.temps) ∧ w.cell? ⟨q, 3, none⟩ = some (.slice a n c) ∧ w.cell? ⟨p, 0, none⟩ = some (.string f.name) ∧ w.cell? ⟨p, 1, none⟩ = some (.int .i64 f.params) ∧ w.cell? ⟨p, 2, none⟩ = some (.int .i64 f.temps) ∧ w.cell? ⟨p, 3, none⟩ = some (.slice a2 n c2)) (h : OpsV w a n c f.code) (h2 : OpsV w a2 n c2 f.code) :
    Calls Tryd.prog 15 #[.slice (some ⟨q, 0, none⟩) 1 cq, .slice (some ⟨p, 0, none⟩) 1 cp] w fun e w' => e = .returned (.bool true) ∧ Below w.heap.size w w' := by
  have hmax : maxLen = 9223372036854775807 := rfl
  have H1 : Hid (OpsV w a n c f.code) := h
  have H2 : Hid (OpsV w a2 n c2 f.code) := h2
  have hm1 := h.room
  have hm2 := h2.room
  have HQ : Hid (∀ w', Below w.heap.size w w' → w'.cell? ⟨q, 0, none⟩ = some (.string f.name) ∧ w'.cell? ⟨q, 1, none⟩ = some (.int .i64 f.params) ∧ w'.cell? ⟨q, 2, none⟩ = some (.int .i64 f.temps) ∧ w'.cell? ⟨q, 3, none⟩ = some (.slice a n c) ∧ w'.cell? ⟨p, 0, none⟩ = some (.string f.name) ∧ w'.cell? ⟨p, 1, none⟩ = some (.int .i64 f.params) ∧ w'.cell? ⟨p, 2, none⟩ = some (.int .i64 f.temps) ∧ w'.cell? ⟨p, 3, none⟩ = some (.slice a2 n c2)) := fun y hy => ⟨cell_thru hy hq.1, cell_thru hy hq.2.1, cell_thru hy hq.2.2.1, cell_thru hy hq.2.2.2.1, cell_thru hy hq.2.2.2.2.1, cell_thru hy hq.2.2.2.2.2.1, cell_thru hy hq.2.2.2.2.2.2.1, cell_thru hy hq.2.2.2.2.2.2.2⟩
  have HBD : Hid (Below w.heap.size w w.drew) := (Below.refl _ _).drew
  clear h h2 hq
  have ep : (f.params != f.params) = false := by simp
  have et : (f.temps != f.temps) = false := by simp
  have el : ((n : Int) != (n : Int)) = false := by simp
  go_enter Tryd.func15, Tryd.ntmps15
  go_wp2_with fail
  refine wp_loop_rounds 2 ?_
  rw [rounds_succ]
  go_wp2_with fail
  refine wp_region_held_drew (S := (fun w' : World => w'.cell? ⟨q, 0, none⟩ = some (.string f.name) ∧ w'.cell? ⟨q, 1, none⟩ = some (.int .i64 f.params) ∧ w'.cell? ⟨q, 2, none⟩ = some (.int .i64 f.temps) ∧ w'.cell? ⟨q, 3, none⟩ = some (.slice a n c) ∧ w'.cell? ⟨p, 0, none⟩ = some (.string f.name) ∧ w'.cell? ⟨p, 1, none⟩ = some (.int .i64 f.params) ∧ w'.cell? ⟨p, 2, none⟩ = some (.int .i64 f.temps) ∧ w'.cell? ⟨p, 3, none⟩ = some (.slice a2 n c2))) (by kernel_rfl) (HQ.out _ HBD.out) (fun hHeld => ?_)
  refine tk (i := 0) (v := ?_) (tA rfl) (by kernel_rfl) (fun _ _ _ h => h) (Or.inl ⟨by rfl, ?_⟩) (by assumption) ?_
  rotate_left
  · (intro w hSw; (try dsimp only at hSw); go_simp <;> with_reducible rfl)
  simp only [Act.put, List.setIfInBounds_toArray, List.set_cons_zero, List.set_cons_succ]
  refine tk (i := 1) (v := ?_) (tA rfl) (by kernel_rfl) (fun _ _ _ h => h) (Or.inl ⟨by rfl, ?_⟩) (by assumption) ?_
  rotate_left
  · (intro w hSw; (try dsimp only at hSw); go_simp <;> with_reducible rfl)
  simp only [Act.put, List.setIfInBounds_toArray, List.set_cons_zero, List.set_cons_succ]
  refine tk (i := 2) (v := ?_) (tA rfl) (by kernel_rfl) (fun _ _ _ h => h) (Or.inl ⟨by rfl, ?_⟩) (by assumption) ?_
  rotate_left
  · (intro w hSw; (try dsimp only at hSw); go_simp <;> with_reducible rfl)
  simp only [Act.put, List.setIfInBounds_toArray, List.set_cons_zero, List.set_cons_succ]
  refine tk (i := 3) (v := ?_) (tA rfl) (by kernel_rfl) (fun _ _ _ h => h) (Or.inl ⟨by rfl, ?_⟩) (by assumption) ?_
  rotate_left
  · (intro w hSw; (try dsimp only at hSw); go_simp <;> with_reducible rfl)
  simp only [Act.put, List.setIfInBounds_toArray, List.set_cons_zero, List.set_cons_succ]
  refine tk (i := 4) (v := ?_) (tA rfl) (by kernel_rfl) (fun _ _ _ h => h) (Or.inl ⟨by rfl, ?_⟩) (by assumption) ?_
  rotate_left
  · (intro w hSw; (try dsimp only at hSw); go_simp <;> with_reducible rfl)
  simp only [Act.put, List.setIfInBounds_toArray, List.set_cons_zero, List.set_cons_succ]
  refine tk (i := 5) (v := ?_) (tA rfl) (by kernel_rfl) (fun _ _ _ h => h) (Or.inl ⟨by rfl, ?_⟩) (by assumption) ?_
  rotate_left
  · (intro w hSw; (try dsimp only at hSw); go_simp <;> with_reducible rfl)
  simp only [Act.put, List.setIfInBounds_toArray, List.set_cons_zero, List.set_cons_succ]
  refine tk (i := 6) (v := ?_) (tA rfl) (by kernel_rfl) (fun _ _ _ h => h) (Or.inl ⟨by rfl, ?_⟩) (by assumption) ?_
  rotate_left
  · (intro w hSw; (try dsimp only at hSw); go_simp <;> with_reducible rfl)
  simp only [Act.put, List.setIfInBounds_toArray, List.set_cons_zero, List.set_cons_succ]
  refine tk (i := 7) (v := ?_) (tA rfl) (by kernel_rfl) (fun _ _ _ h => h) (Or.inl ⟨by rfl, ?_⟩) (by assumption) ?_
  rotate_left
  · (intro w hSw; (try dsimp only at hSw); go_simp <;> with_reducible rfl)
  simp only [Act.put, List.setIfInBounds_toArray, List.set_cons_zero, List.set_cons_succ]
  refine tk (i := 8) (v := ?_) (tA rfl) (by kernel_rfl) (fun _ _ _ h => h) (Or.inl ⟨by rfl, ?_⟩) (by assumption) ?_
  rotate_left
  · (intro w hSw; (try dsimp only at hSw); go_simp <;> with_reducible rfl)
  simp only [Act.put, List.setIfInBounds_toArray, List.set_cons_zero, List.set_cons_succ]
  refine tk (i := 9) (v := ?_) (tA rfl) (by kernel_rfl) (fun _ _ _ h => h) (Or.inl ⟨by rfl, ?_⟩) (by assumption) ?_
  rotate_left
  · (intro w hSw; (try dsimp only at hSw); go_simp <;> with_reducible rfl)
  simp only [Act.put, List.setIfInBounds_toArray, List.set_cons_zero, List.set_cons_succ]
  refine tk (i := 10) (v := ?_) (tA rfl) (by kernel_rfl) (fun _ _ _ h => h) (Or.inl ⟨by rfl, ?_⟩) (by assumption) ?_
  rotate_left
  · (intro w hSw; (try dsimp only at hSw); go_simp <;> with_reducible rfl)
  simp only [Act.put, List.setIfInBounds_toArray, List.set_cons_zero, List.set_cons_succ]
  refine tk (i := 11) (v := ?_) (tA rfl) (by kernel_rfl) (fun _ _ _ h => h) (Or.inl ⟨by rfl, ?_⟩) (by assumption) ?_
  rotate_left
  · (intro w hSw; (try dsimp only at hSw); go_simp <;> with_reducible rfl)
  simp only [Act.put, List.setIfInBounds_toArray, List.set_cons_zero, List.set_cons_succ]
  refine tk (i := 12) (v := ?_) (tA rfl) (by kernel_rfl) (fun _ _ _ h => h) (Or.inl ⟨by rfl, ?_⟩) (by assumption) ?_
  rotate_left
  · (intro w hSw; (try dsimp only at hSw); go_simp <;> with_reducible rfl)
  simp only [Act.put, List.setIfInBounds_toArray, List.set_cons_zero, List.set_cons_succ]
  refine tk (i := 13) (v := ?_) (tA rfl) (by kernel_rfl) (fun _ _ _ h => h) (Or.inl ⟨by rfl, ?_⟩) (by assumption) ?_
  rotate_left
  · (intro w hSw; (try dsimp only at hSw); go_simp <;> with_reducible rfl)
  simp only [Act.put, List.setIfInBounds_toArray, List.set_cons_zero, List.set_cons_succ]
  refine tk (i := 14) (v := ?_) (tA rfl) (by kernel_rfl) (fun _ _ _ h => h) (Or.inl ⟨by rfl, ?_⟩) (by assumption) ?_
  rotate_left
  · (intro w hSw; (try dsimp only at hSw); go_simp <;> with_reducible rfl)
  simp only [Act.put, List.setIfInBounds_toArray, List.set_cons_zero, List.set_cons_succ]
  refine tk (i := 15) (v := ?_) (tA rfl) (by kernel_rfl) (fun _ _ _ h => h) (Or.inl ⟨by rfl, ?_⟩) (by assumption) ?_
  rotate_left
  · (intro w hSw; (try dsimp only at hSw); go_simp <;> with_reducible rfl)
  simp only [Act.put, List.setIfInBounds_toArray, List.set_cons_zero, List.set_cons_succ]
  refine tk (i := 16) (v := ?_) (tA rfl) (by kernel_rfl) (fun _ _ _ h => h) (Or.inl ⟨by rfl, ?_⟩) (by assumption) ?_
  rotate_left
  · (intro w hSw; (try dsimp only at hSw); go_simp <;> with_reducible rfl)
  simp only [Act.put, List.setIfInBounds_toArray, List.set_cons_zero, List.set_cons_succ]
  refine tk (i := 17) (v := ?_) (tA rfl) (by kernel_rfl) (fun _ _ _ h => h) (Or.inl ⟨by rfl, ?_⟩) (by assumption) ?_
  rotate_left
  · (intro w hSw; (try dsimp only at hSw); go_simp <;> with_reducible rfl)
  simp only [Act.put, List.setIfInBounds_toArray, List.set_cons_zero, List.set_cons_succ]
  refine tk (i := 18) (v := ?_) (tA rfl) (by kernel_rfl) (fun _ _ _ h => h) (Or.inl ⟨by rfl, ?_⟩) (by assumption) ?_
  rotate_left
  · (intro w hSw; (try dsimp only at hSw); go_simp <;> with_reducible rfl)
  simp only [Act.put, List.setIfInBounds_toArray, List.set_cons_zero, List.set_cons_succ]
  refine tk (i := 19) (v := ?_) (tA rfl) (by kernel_rfl) (fun _ _ _ h => h) (Or.inl ⟨by rfl, ?_⟩) (by assumption) ?_
  rotate_left
  · (intro w hSw; (try dsimp only at hSw); go_simp <;> with_reducible rfl)
  simp only [Act.put, List.setIfInBounds_toArray, List.set_cons_zero, List.set_cons_succ]
  refine tk (i := 20) (v := ?_) (tA rfl) (by kernel_rfl) (fun _ _ _ h => h) (Or.inl ⟨by rfl, ?_⟩) (by assumption) ?_
  rotate_left
  · (intro w hSw; (try dsimp only at hSw); go_simp <;> with_reducible rfl)
  simp only [Act.put, List.setIfInBounds_toArray, List.set_cons_zero, List.set_cons_succ]
  refine tk (i := 21) (v := ?_) (tA rfl) (by kernel_rfl) (fun _ _ _ h => h) (Or.inl ⟨by rfl, ?_⟩) (by assumption) ?_
  rotate_left
  · (intro w hSw; (try dsimp only at hSw); go_simp <;> with_reducible rfl)
  simp only [Act.put, List.setIfInBounds_toArray, List.set_cons_zero, List.set_cons_succ]
  refine tk (i := 22) (v := ?_) (tA rfl) (by kernel_rfl) (fun _ _ _ h => h) (Or.inl ⟨by rfl, ?_⟩) (by assumption) ?_
  rotate_left
  · (intro w hSw; (try dsimp only at hSw); go_simp <;> with_reducible rfl)
  simp only [Act.put, List.setIfInBounds_toArray, List.set_cons_zero, List.set_cons_succ]
  refine tk (i := 23) (v := ?_) (tA rfl) (by kernel_rfl) (fun _ _ _ h => h) (Or.inl ⟨by rfl, ?_⟩) (by assumption) ?_
  rotate_left
  · (intro w hSw; (try dsimp only at hSw); go_simp <;> with_reducible rfl)
  simp only [Act.put, List.setIfInBounds_toArray, List.set_cons_zero, List.set_cons_succ]
  refine tk (i := 24) (v := ?_) (tA rfl) (by kernel_rfl) (fun _ _ _ h => h) (Or.inl ⟨by rfl, ?_⟩) (by assumption) ?_
  rotate_left
  · (intro w hSw; (try dsimp only at hSw); go_simp <;> with_reducible rfl)
  simp only [Act.put, List.setIfInBounds_toArray, List.set_cons_zero, List.set_cons_succ]
  refine tk (i := 25) (v := ?_) (tA rfl) (by kernel_rfl) (fun _ _ _ h => h) (Or.inl ⟨by rfl, ?_⟩) (by assumption) ?_
  rotate_left
  · (intro w hSw; (try dsimp only at hSw); go_simp <;> with_reducible rfl)
  simp only [Act.put, List.setIfInBounds_toArray, List.set_cons_zero, List.set_cons_succ]
  refine tk (i := 26) (v := ?_) (tA rfl) (by kernel_rfl) (fun _ _ _ h => h) (Or.inl ⟨by rfl, ?_⟩) (by assumption) ?_
  rotate_left
  · (intro w hSw; (try dsimp only at hSw); go_simp <;> with_reducible rfl)
  simp only [Act.put, List.setIfInBounds_toArray, List.set_cons_zero, List.set_cons_succ]
  refine tk (i := 27) (v := ?_) (tA rfl) (by kernel_rfl) (fun _ _ _ h => h) (Or.inl ⟨by rfl, ?_⟩) (by assumption) ?_
  rotate_left
  · (intro w hSw; (try dsimp only at hSw); go_simp <;> with_reducible rfl)
  simp only [Act.put, List.setIfInBounds_toArray, List.set_cons_zero, List.set_cons_succ]
  refine tk (i := 28) (v := ?_) (tA rfl) (by kernel_rfl) (fun _ _ _ h => h) (Or.inl ⟨by rfl, ?_⟩) (by assumption) ?_
  rotate_left
  · (intro w hSw; (try dsimp only at hSw); go_simp <;> with_reducible rfl)
  simp only [Act.put, List.setIfInBounds_toArray, List.set_cons_zero, List.set_cons_succ]
  refine tk (i := 29) (v := ?_) (tA rfl) (by kernel_rfl) (fun _ _ _ h => h) (Or.inl ⟨by rfl, ?_⟩) (by assumption) ?_
  rotate_left
  · (intro w hSw; (try dsimp only at hSw); go_simp <;> with_reducible rfl)
  simp only [Act.put, List.setIfInBounds_toArray, List.set_cons_zero, List.set_cons_succ]
  refine tk (i := 30) (v := ?_) (tA rfl) (by kernel_rfl) (fun _ _ _ h => h) (Or.inl ⟨by rfl, ?_⟩) (by assumption) ?_
  rotate_left
  · (intro w hSw; (try dsimp only at hSw); go_simp <;> with_reducible rfl)
  simp only [Act.put, List.setIfInBounds_toArray, List.set_cons_zero, List.set_cons_succ]
  refine tk (i := 31) (v := ?_) (tA rfl) (by kernel_rfl) (fun _ _ _ h => h) (Or.inl ⟨by rfl, ?_⟩) (by assumption) ?_
  rotate_left
  · (intro w hSw; (try dsimp only at hSw); go_simp <;> with_reducible rfl)
  simp only [Act.put, List.setIfInBounds_toArray, List.set_cons_zero, List.set_cons_succ]
  refine tk (i := 32) (v := ?_) (tA rfl) (by kernel_rfl) (fun _ _ _ h => h) (Or.inl ⟨by rfl, ?_⟩) (by assumption) ?_
  rotate_left
  · (intro w hSw; (try dsimp only at hSw); go_simp <;> with_reducible rfl)
  simp only [Act.put, List.setIfInBounds_toArray, List.set_cons_zero, List.set_cons_succ]
  refine tk (i := 33) (v := ?_) (tA rfl) (by kernel_rfl) (fun _ _ _ h => h) (Or.inl ⟨by rfl, ?_⟩) (by assumption) ?_
  rotate_left
  · (intro w hSw; (try dsimp only at hSw); go_simp <;> with_reducible rfl)
  simp only [Act.put, List.setIfInBounds_toArray, List.set_cons_zero, List.set_cons_succ]
  refine tk (i := 34) (v := ?_) (tA rfl) (by kernel_rfl) (fun _ _ _ h => h) (Or.inl ⟨by rfl, ?_⟩) (by assumption) ?_
  rotate_left
  · (intro w hSw; (try dsimp only at hSw); go_simp <;> with_reducible rfl)
  simp only [Act.put, List.setIfInBounds_toArray, List.set_cons_zero, List.set_cons_succ]
  refine tk (i := 35) (v := ?_) (tA rfl) (by kernel_rfl) (fun _ _ _ h => h) (Or.inl ⟨by rfl, ?_⟩) (by assumption) ?_
  rotate_left
  · (intro w hSw; (try dsimp only at hSw); go_simp <;> with_reducible rfl)
  simp only [Act.put, List.setIfInBounds_toArray, List.set_cons_zero, List.set_cons_succ]
  refine tk (i := 36) (v := ?_) (tA rfl) (by kernel_rfl) (fun _ _ _ h => h) (Or.inl ⟨by rfl, ?_⟩) (by assumption) ?_
  rotate_left
  · (intro w hSw; (try dsimp only at hSw); go_simp <;> with_reducible rfl)
  simp only [Act.put, List.setIfInBounds_toArray, List.set_cons_zero, List.set_cons_succ]
  refine tk (i := 37) (v := ?_) (tA rfl) (by kernel_rfl) (fun _ _ _ h => h) (Or.inl ⟨by rfl, ?_⟩) (by assumption) ?_
  rotate_left
  · (intro w hSw; (try dsimp only at hSw); go_simp <;> with_reducible rfl)
  simp only [Act.put, List.setIfInBounds_toArray, List.set_cons_zero, List.set_cons_succ]
  refine tk (i := 38) (v := ?_) (tA rfl) (by kernel_rfl) (fun _ _ _ h => h) (Or.inl ⟨by rfl, ?_⟩) (by assumption) ?_
  rotate_left
  · (intro w hSw; (try dsimp only at hSw); go_simp <;> with_reducible rfl)
  simp only [Act.put, List.setIfInBounds_toArray, List.set_cons_zero, List.set_cons_succ]
  refine tk (i := 39) (v := ?_) (tA rfl) (by kernel_rfl) (fun _ _ _ h => h) (Or.inl ⟨by rfl, ?_⟩) (by assumption) ?_
  rotate_left
  · (intro w hSw; (try dsimp only at hSw); go_simp <;> with_reducible rfl)
  simp only [Act.put, List.setIfInBounds_toArray, List.set_cons_zero, List.set_cons_succ]
  refine tk (i := 40) (v := ?_) (tA rfl) (by kernel_rfl) (fun _ _ _ h => h) (Or.inl ⟨by rfl, ?_⟩) (by assumption) ?_
  rotate_left
  · (intro w hSw; (try dsimp only at hSw); go_simp <;> with_reducible rfl)
  simp only [Act.put, List.setIfInBounds_toArray, List.set_cons_zero, List.set_cons_succ]
  refine tk (i := 41) (v := ?_) (tA rfl) (by kernel_rfl) (fun _ _ _ h => h) (Or.inl ⟨by rfl, ?_⟩) (by assumption) ?_
  rotate_left
  · (intro w hSw; (try dsimp only at hSw); go_simp <;> with_reducible rfl)
  simp only [Act.put, List.setIfInBounds_toArray, List.set_cons_zero, List.set_cons_succ]
  refine tk (i := 42) (v := ?_) (tA rfl) (by kernel_rfl) (fun _ _ _ h => h) (Or.inl ⟨by rfl, ?_⟩) (by assumption) ?_
  rotate_left
  · (intro w hSw; (try dsimp only at hSw); go_simp <;> with_reducible rfl)
  simp only [Act.put, List.setIfInBounds_toArray, List.set_cons_zero, List.set_cons_succ]
  refine tk (i := 43) (v := ?_) (tA rfl) (by kernel_rfl) (fun _ _ _ h => h) (Or.inl ⟨by rfl, ?_⟩) (by assumption) ?_
  rotate_left
  · (intro w hSw; (try dsimp only at hSw); go_simp <;> with_reducible rfl)
  simp only [Act.put, List.setIfInBounds_toArray, List.set_cons_zero, List.set_cons_succ]
  refine tk (i := 44) (v := ?_) (tA rfl) (by kernel_rfl) (fun _ _ _ h => h) (Or.inl ⟨by rfl, ?_⟩) (by assumption) ?_
  rotate_left
  · (intro w hSw; (try dsimp only at hSw); go_simp <;> with_reducible rfl)
  simp only [Act.put, List.setIfInBounds_toArray, List.set_cons_zero, List.set_cons_succ]
  refine tk (i := 45) (v := ?_) (tA rfl) (by kernel_rfl) (fun _ _ _ h => h) (Or.inl ⟨by rfl, ?_⟩) (by assumption) ?_
  rotate_left
  · (intro w hSw; (try dsimp only at hSw); go_simp <;> with_reducible rfl)
  simp only [Act.put, List.setIfInBounds_toArray, List.set_cons_zero, List.set_cons_succ]
  refine tk (i := 46) (v := ?_) (tA rfl) (by kernel_rfl) (fun _ _ _ h => h) (Or.inl ⟨by rfl, ?_⟩) (by assumption) ?_
  rotate_left
  · (intro w hSw; (try dsimp only at hSw); go_simp <;> with_reducible rfl)
  simp only [Act.put, List.setIfInBounds_toArray, List.set_cons_zero, List.set_cons_succ]
  refine tk (i := 47) (v := ?_) (tA rfl) (by kernel_rfl) (fun _ _ _ h => h) (Or.inl ⟨by rfl, ?_⟩) (by assumption) ?_
  rotate_left
  · (intro w hSw; (try dsimp only at hSw); go_simp <;> with_reducible rfl)
  simp only [Act.put, List.setIfInBounds_toArray, List.set_cons_zero, List.set_cons_succ]
  refine tk (i := 48) (v := ?_) (tA rfl) (by kernel_rfl) (fun _ _ _ h => h) (Or.inl ⟨by rfl, ?_⟩) (by assumption) ?_
  rotate_left
  · (intro w hSw; (try dsimp only at hSw); go_simp <;> with_reducible rfl)
  simp only [Act.put, List.setIfInBounds_toArray, List.set_cons_zero, List.set_cons_succ]
  refine tk (i := 49) (v := ?_) (tA rfl) (by kernel_rfl) (fun _ _ _ h => h) (Or.inl ⟨by rfl, ?_⟩) (by assumption) ?_
  rotate_left
  · (intro w hSw; (try dsimp only at hSw); go_simp <;> with_reducible rfl)
  simp only [Act.put, List.setIfInBounds_toArray, List.set_cons_zero, List.set_cons_succ]
  refine tk (i := 50) (v := ?_) (tA rfl) (by kernel_rfl) (fun _ _ _ h => h) (Or.inl ⟨by rfl, ?_⟩) (by assumption) ?_
  rotate_left
  · (intro w hSw; (try dsimp only at hSw); go_simp <;> with_reducible rfl)
  simp only [Act.put, List.setIfInBounds_toArray, List.set_cons_zero, List.set_cons_succ]
  refine tk (i := 51) (v := ?_) (tA rfl) (by kernel_rfl) (fun _ _ _ h => h) (Or.inl ⟨by rfl, ?_⟩) (by assumption) ?_
  rotate_left
  · (intro w hSw; (try dsimp only at hSw); go_simp <;> with_reducible rfl)
  simp only [Act.put, List.setIfInBounds_toArray, List.set_cons_zero, List.set_cons_succ]
  refine wpAnyH_done (by kernel_rfl) ?_ _
  clear hHeld
  go_wp2_with fail
  clear ep et el
  go_loopg [6, 7, 8] n (fun g iv v7 v8 wq => ∃ (k : Nat), g = n - k ∧ iv = .int .i64 k ∧ k ≤ n ∧ Hid (Below w.heap.size w wq))
  case atStart => exact ⟨0, rfl, rfl, Nat.zero_le _, HBD⟩
  case round =>
    obtain ⟨k, rfl, rfl, hk, HB⟩ := hrel
    clear HBD
    obtain ⟨q0, q1, q2, q3, p0, p1, p2, p3⟩ := HQ.out _ HB.out
    clear q0 q1 q2 p0 p1 p2
    by_cases hkn : k < n
    · have hki : (k : Int) < n := by omega
      have hk0 : 0 ≤ (k : Int) := by omega
      obtain ⟨bc, offc, r, rfl, hat, hnum⟩ := (H1.out.below HB.out).at hkn
      obtain ⟨bd, offd, s, rfl, hat2, hnum2⟩ := (H2.out.below HB.out).at hkn
      obtain ⟨x, hx⟩ : ∃ x, f.code.getD k F.noOp = x := ⟨_, rfl⟩
      rw [hx] at hat hnum hat2 hnum2
      clear hx
      have HN1 : Hid (NumV wr r.a r.l r.c x.args) := hnum
      have HN2 : Hid (NumV wr s.a s.l s.c x.args) := hnum2
      obtain ⟨Y0, hY0⟩ : ∃ Y0, wr.alloc (.cells #[.int .i64 x.op, .int .i64 x.what, .string x.nm, .int .i64 x.d, .int .i64 x.a, .int .i64 x.b, .int .i64 x.n, .slice r.a r.l r.c, .int .i64 x.dest] 46) = Y0 := ⟨_, rfl⟩
      obtain ⟨Y1, hY1⟩ : ∃ Y1, Y0.alloc (.cells #[.int .i64 x.op, .int .i64 x.what, .string x.nm, .int .i64 x.d, .int .i64 x.a, .int .i64 x.b, .int .i64 x.n, .slice s.a s.l s.c, .int .i64 x.dest] 46) = Y1 := ⟨_, rfl⟩
      have HW0 : Hid (Below wr.heap.size wr Y0) := by show Below _ _ _; rw [← hY0]; exact bl1 _ _
      have HW1 : Hid (Below wr.heap.size wr Y1) := by show Below _ _ _; rw [← hY1]; exact HW0.out.alloc HW0.out.size _
      have hat2' := hat2.sub (below_sub HW0.out)
      have p3' := cell_thru HW0.out p3
      have HB1 : Hid (∀ (j : Nat) u, (opC x r)[j]? = some u → Y1.cell? ⟨wr.heap.size, j, none⟩ = some u) := fun j u hu => by
        rw [← hY1]
        refine (cell_thru (bl1 _ _) ?_)
        rw [← hY0]
        exact ncell_at (by simpa [opC] using hu)
      have HB2 : Hid (∀ (j : Nat) u, (opC x s)[j]? = some u → Y1.cell? ⟨Y0.heap.size, j, none⟩ = some u) := fun j u hu => by
        rw [← hY1]
        exact ncell_at (by simpa [opC] using hu)
      obtain ⟨o0, o1, o2, o3, o4, o5, o6, o7, o8⟩ := hat
      obtain ⟨m0, m1, m2, m3, m4, m5, m6, m7, m8⟩ := hat2'
      clear hat2 hnum hnum2
      have s0 := HB1.out 0 _ rfl
      have t0 := HB2.out 0 _ rfl
      have s1 := HB1.out 1 _ rfl
      have t1 := HB2.out 1 _ rfl
      have s2 := HB1.out 2 _ rfl
      have t2 := HB2.out 2 _ rfl
      have s3 := HB1.out 3 _ rfl
      have t3 := HB2.out 3 _ rfl
      have s4 := HB1.out 4 _ rfl
      have t4 := HB2.out 4 _ rfl
      have s5 := HB1.out 5 _ rfl
      have t5 := HB2.out 5 _ rfl
      have s6 := HB1.out 6 _ rfl
      have t6 := HB2.out 6 _ rfl
      have s7 := HB1.out 7 _ rfl
      have t7 := HB2.out 7 _ rfl
      have s8 := HB1.out 8 _ rfl
      have t8 := HB2.out 8 _ rfl
      have e0 : (x.op != x.op) = false := by simp
      have e1 : (x.what != x.what) = false := by simp
      have e2 : (x.d != x.d) = false := by simp
      have e3 : (x.a != x.a) = false := by simp
      have e4 : (x.b != x.b) = false := by simp
      have e5 : (x.n != x.n) = false := by simp
      have e6 : (x.dest != x.dest) = false := by simp

      go_wp2_with fail
      clear hY0 hY1
      have HC : Hid (Calls Tryd.prog 29 #[.slice r.a r.l r.c, .slice s.a s.l s.c] Y1 fun e w' => e = .returned (.bool true) ∧ Below Y1.heap.size Y1 w') := by
        have := rints_any (HN1.out.below HW1.out) (HN2.out.below HW1.out)
        rw [show decide (x.args = x.args) = true by simp] at this
        exact this
      refine HC.out.mono ?_
      rintro e y ⟨rfl, hy⟩
      have HBY : Hid (Below w.heap.size w y) := (HB.out.trans (HW1.out.mono HB.out.size)).trans (hy.mono (Nat.le_trans HB.out.size HW1.out.size))
      clear hy HC s0 t0 m0 o0 s1 t1 m1 o1 s2 t2 m2 o2 s3 t3 m3 o3 s4 t4 m4 o4 s5 t5 m5 o5 s6 t6 m6 o6 s7 t7 m7 o7 s8 t8 m8 o8
      go_wp2_with fail
      go_roundg (n - (k + 1))
      case measure => omega
      case rel => exact ⟨k + 1, rfl, by go_num, by omega, HBY⟩
    · have hkk : k = n := by omega
      subst hkk
      have hki : ¬ (k : Int) < k := by omega
      go_wp2_with fail
      rw [rounds_succ]
      go_wp2_with fail
      go_ret
      exact ⟨rfl, HB.out⟩
end Go.Proofs.YtljgpngbkmembaaDoor

/- The law AllocLive. -/
namespace Go.Proofs.YtljgpngbkmembaaDoor
open Go.RowKit Go.Maps Go.Shelf
set_option linter.unusedVariables false
set_option linter.unusedSimpArgs false
/-- What either answer of Live comes to. -/
def LvO (w : World) (LS : List (List Int)) (FS : List Int) (ev : Int) (e : Ending) (W : World) : Prop := Below w.heap.size w W ∧ ∃ a1 c1 a2 c2, e = .returned (.tuple #[.slice a1 LS.length c1, .slice a2 FS.length c2, .int .i64 ev]) ∧ LsV W a1 LS.length c1 LS ∧ NumV W a2 FS.length c2 FS
def F.lsOf (f : F.Fn) (tab : Nat → Nat → Bool) (n : Nat) : List (List Int) := if F.mayF f = true then (List.range n).map fun i => F.outs f tab i f.temps.toNat else []
def F.fsOf (f : F.Fn) (tab : Nat → Nat → Bool) : List Int := if F.mayF f = true then F.firsts tab f.temps.toNat else []
theorem lvO_of {w W : World} {f : F.Fn} {n : Nat} {tab : Nat → Nat → Bool} {e : Ending} (h : LvOut w f n f.temps.toNat tab e W) : LvO w (F.lsOf f tab n) (F.fsOf f tab) (if F.mayF f = true then 0 else 1) e W := by
  obtain ⟨hb, h2⟩ := h
  refine ⟨hb, ?_⟩
  unfold F.lsOf F.fsOf
  by_cases hm : F.mayF f = true
  · rw [if_pos hm] at h2
    obtain ⟨a, c, a2, c2, e1, hl, ho⟩ := h2
    have hT : f.temps.toNat ≤ 400 := by have := F.may_head hm; omega
    rw [if_pos hm, if_pos hm, if_pos hm]
    refine ⟨a, c, a2, c2, by rw [e1]; simp, by simpa using hl, num_of_row ho rfl (F.firsts_fit tab hT)⟩
  · rw [if_neg hm] at h2
    rw [if_neg hm, if_neg hm, if_neg hm]
    exact ⟨none, 0, none, 0, h2, ⟨rfl, ⟨Nat.le_refl _, Nat.zero_le _⟩, .inl rfl⟩, NumV.nil W⟩
set_option maxRecDepth 100000 in
set_option maxHeartbeats 1000000 in
theorem lawLive_any {w : World} {f : F.Fn} {a : Option Addr} {l c : Nat} (h : OpsV w a l c f.code) (he : Env w) (hsz : ∀ x ∈ f.code, x.args.length * 8 ≤ 140737488355328) :
    Calls Tryd.prog 3 #[fnV f a l c] w fun e w' => e = .returned (.bool true) ∧ Below w.heap.size w w' := by
  obtain ⟨tab, htab⟩ := F.exists_tab f
  obtain ⟨W0, hW0⟩ : ∃ W0, w.alloc (.cells #[.string f.name, .int .i64 f.params, .int .i64 f.temps, .slice a l c] 24) = W0 := ⟨_, rfl⟩
  have HB0 : Hid (Below w.heap.size w W0) := by show Below _ _ _; rw [← hW0]; exact bl1 _ _
  have d0 : W0.cell? ⟨w.heap.size, 0, none⟩ = some (.string f.name) := by rw [← hW0]; exact ncell_at rfl
  have d1 : W0.cell? ⟨w.heap.size, 1, none⟩ = some (.int .i64 f.params) := by rw [← hW0]; exact ncell_at rfl
  have d2 : W0.cell? ⟨w.heap.size, 2, none⟩ = some (.int .i64 f.temps) := by rw [← hW0]; exact ncell_at rfl
  have d3 : W0.cell? ⟨w.heap.size, 3, none⟩ = some (.slice a l c) := by rw [← hW0]; exact ncell_at rfl
  have HD : Hid (∀ y, Below W0.heap.size W0 y → y.cell? ⟨w.heap.size, 0, none⟩ = some (.string f.name) ∧ y.cell? ⟨w.heap.size, 1, none⟩ = some (.int .i64 f.params) ∧ y.cell? ⟨w.heap.size, 2, none⟩ = some (.int .i64 f.temps) ∧ y.cell? ⟨w.heap.size, 3, none⟩ = some (.slice a l c)) := fun y hy => ⟨cell_thru hy d0, cell_thru hy d1, cell_thru hy d2, cell_thru hy d3⟩
  have HSM : Hid (∀ y, Calls Tryd.prog 8 #[fnV f a l c] y fun e w' => e = .returned (.bool (decide (l ≤ 300))) ∧ Below y.heap.size y w') := fun y => small_any f a l c y
  have HLV : Hid (∀ y, Below w.heap.size w y → Calls Tryd.prog 9 #[] y fun e w' => e = .returned (.bool true) ∧ Below y.heap.size y w') := fun y hy => live_any (he.below hy)
  obtain ⟨LS, hLS⟩ : ∃ LS, F.lsOf f tab l = LS := ⟨_, rfl⟩
  obtain ⟨FS, hFS⟩ : ∃ FS, F.fsOf f tab = FS := ⟨_, rfl⟩
  obtain ⟨ev, hev⟩ : ∃ ev : Int, (if F.mayF f = true then (0 : Int) else 1) = ev := ⟨_, rfl⟩
  have HCP : Hid (∀ y q, Below w.heap.size w y → l ≤ 300 → y.cell? ⟨q, 0, none⟩ = some (.string f.name) ∧ y.cell? ⟨q, 1, none⟩ = some (.int .i64 f.params) ∧ y.cell? ⟨q, 2, none⟩ = some (.int .i64 f.temps) ∧ y.cell? ⟨q, 3, none⟩ = some (.slice a l c) → Calls Tryd.prog 10 #[.slice (some ⟨q, 0, none⟩) 1 1] y (CopyOut y f l)) := fun y q hy hl hc => rcopy_any hc.1 hc.2.1 hc.2.2.1 hc.2.2.2 (h.below hy) hsz hl
  have HLP : Hid (∀ y a' c', Below w.heap.size w y → OpsV y a' l c' f.code → Calls Tryd.prog 11 #[fnV f a' l c'] y (LvO y LS FS ev)) := fun y a' c' hy ho => by
    rw [← hLS, ← hFS, ← hev]
    exact (liveP_any ho (he.below hy) htab).mono fun e W hW => lvO_of hW
  have HLR : Hid (∀ y, Below w.heap.size w y → Calls Tryd.prog 12 #[fnV f a l c] y (LvO y LS FS ev)) := fun y hy => by
    rw [← hLS, ← hFS, ← hev]
    exact (rLive_any (h.below hy) hsz htab).mono fun e W hW => lvO_of hW
  have HSF : Hid (∀ y q cq p cp a2 c2, Below w.heap.size w y → OpsV y a2 l c2 f.code → (y.cell? ⟨q, 0, none⟩ = some (.string f.name) ∧ y.cell? ⟨q, 1, none⟩ = some (.int .i64 f.params) ∧ y.cell? ⟨q, 2, none⟩ = some (.int .i64 f.temps) ∧ y.cell? ⟨q, 3, none⟩ = some (.slice a2 l c2)) → (y.cell? ⟨p, 0, none⟩ = some (.string f.name) ∧ y.cell? ⟨p, 1, none⟩ = some (.int .i64 f.params) ∧ y.cell? ⟨p, 2, none⟩ = some (.int .i64 f.temps) ∧ y.cell? ⟨p, 3, none⟩ = some (.slice a l c)) → Calls Tryd.prog 15 #[.slice (some ⟨q, 0, none⟩) 1 cq, .slice (some ⟨p, 0, none⟩) 1 cp] y fun e w' => e = .returned (.bool true) ∧ Below y.heap.size y w') := fun y q cq p cp a2 c2 hy ho hq hp => rsame1_any ⟨hq.1, hq.2.1, hq.2.2.1, hq.2.2.2, hp.1, hp.2.1, hp.2.2.1, hp.2.2.2⟩ ho (h.below hy)
  have HL3 : Hid (decide (l ≤ 300) = true → l ≤ 300) := fun e => by simpa using e
  have ee : (ev == ev) = true := by simp
  clear hLS hFS hev
  unfold fnV at HSM HLP HLR ⊢
  have HBW : Hid (∀ y, Below W0.heap.size W0 y → Below w.heap.size w y) := fun y hy => HB0.out.trans (hy.mono HB0.out.size)
  clear h he hsz htab
  obtain ⟨sb, hsb⟩ : ∃ sb, decide (l ≤ 300) = sb := ⟨_, rfl⟩
  rw [hsb] at HSM HL3
  clear hsb
  go_enter Tryd.func3, Tryd.ntmps3
  go_wp2_with fail
  clear hW0
  refine (HSM.out W0).mono ?_
  rintro e y1 ⟨rfl, hb1⟩
  have HB1 : Hid (Below W0.heap.size W0 y1) := hb1
  clear hb1 HSM d0 d1 d2 d3
  obtain ⟨d0, d1, d2, d3⟩ := HD.out y1 HB1.out
  cases sb with
  | false =>
    go_wp2_with fail
    refine (HLV.out y1 (HBW.out _ HB1.out)).mono ?_
    rintro e y2 ⟨rfl, hb2⟩
    have HB2 : Hid (Below W0.heap.size W0 y2) := HB1.out.trans (hb2.mono HB1.out.size)
    clear hb2
    go_wp2_with fail
    go_ret
    exact ⟨rfl, HBW.out _ HB2.out⟩
  | true =>
    have hl3 : l ≤ 300 := HL3.out rfl
    obtain ⟨b2, hb2⟩ : ∃ b2, y1.heap.size = b2 := ⟨_, rfl⟩
    obtain ⟨Y, hY⟩ : ∃ Y, y1.alloc (.cells #[.string f.name, .int .i64 f.params, .int .i64 f.temps, .slice a l c] 24) = Y := ⟨_, rfl⟩
    have HY : Hid (Below W0.heap.size W0 Y ∧ (Y.cell? ⟨b2, 0, none⟩ = some (.string f.name) ∧ Y.cell? ⟨b2, 1, none⟩ = some (.int .i64 f.params) ∧ Y.cell? ⟨b2, 2, none⟩ = some (.int .i64 f.temps) ∧ Y.cell? ⟨b2, 3, none⟩ = some (.slice a l c))) := by
      show _ ∧ _
      rw [← hY, ← hb2]
      exact ⟨HB1.out.alloc HB1.out.size _, ncell_at rfl, ncell_at rfl, ncell_at rfl, ncell_at rfl⟩
    go_wp2_with fail
    try rw [hY]
    try rw [hb2]
    clear hY hb2
    refine (HCP.out Y b2 (HBW.out _ HY.out.1) hl3 HY.out.2).mono ?_
    rintro e y2 ⟨g, cg, a2, c2, rfl, -, hg, ho2, hb2⟩
    have H2 : Hid (Below W0.heap.size W0 y2) := HY.out.1.trans (hb2.mono HY.out.1.size)
    have HG : Hid (∀ y, Below y2.heap.size y2 y → OpsV y a2 l c2 f.code ∧ (y.cell? ⟨g, 0, none⟩ = some (.string f.name) ∧ y.cell? ⟨g, 1, none⟩ = some (.int .i64 f.params) ∧ y.cell? ⟨g, 2, none⟩ = some (.int .i64 f.temps) ∧ y.cell? ⟨g, 3, none⟩ = some (.slice a2 l c2))) := fun y hy => ⟨ho2.below hy, cell_thru hy hg.1, cell_thru hy hg.2.1, cell_thru hy hg.2.2.1, cell_thru hy hg.2.2.2⟩
    have HLq : Hid _ := HLP.out y2 a2 c2 (HBW.out _ H2.out) ho2
    obtain ⟨g0, g1, g2, g3⟩ := hg
    clear ho2 hb2 HY HCP HLP d0 d1 d2 d3 hl3 HL3
    go_wp2_with fail
    refine Calls.mono HLq.out ?_
    rintro e y3 ⟨hb3, r1, k1, r2, k2, rfl, hl3, hn3⟩
    have H3 : Hid (Below W0.heap.size W0 y3 ∧ Below y2.heap.size y2 y3) := ⟨H2.out.trans (hb3.mono H2.out.size), hb3⟩
    have HN3 : Hid (LsV y3 r1 LS.length k1 LS ∧ NumV y3 r2 FS.length k2 FS) := ⟨hl3, hn3⟩
    clear hb3 hl3 hn3 g0 g1 g2 g3 HLq
    obtain ⟨d0, d1, d2, d3⟩ := HD.out y3 H3.out.1
    go_wp2_with fail
    refine (HLR.out y3 (HBW.out _ H3.out.1)).mono ?_
    rintro e y4 ⟨hb4, s1, m1, s2, m2, rfl, hl4, hn4⟩
    have H4 : Hid (Below W0.heap.size W0 y4 ∧ Below y2.heap.size y2 y4) := ⟨H3.out.1.trans (hb4.mono H3.out.1.size), H3.out.2.trans (hb4.mono H3.out.2.size)⟩
    have HSL : Hid (Calls Tryd.prog 13 #[.slice r1 LS.length k1, .slice s1 LS.length m1] y4 fun e w' => e = .returned (.bool true) ∧ Below y4.heap.size y4 w') := by
      have := rSameLists_any (HN3.out.1.below hb4) hl4
      rw [show decide (LS = LS) = true by simp] at this
      exact this
    have HN4 : Hid (NumV y4 r2 FS.length k2 FS ∧ NumV y4 s2 FS.length m2 FS) := ⟨HN3.out.2.below hb4, hn4⟩
    clear hb4 hl4 hn4 d0 d1 d2 d3 HN3 HLR
    go_wp2_with fail
    refine HSL.out.mono ?_
    rintro e y5 ⟨rfl, hb5⟩
    have H5 : Hid (Below W0.heap.size W0 y5 ∧ Below y2.heap.size y2 y5) := ⟨H4.out.1.trans (hb5.mono H4.out.1.size), H4.out.2.trans (hb5.mono H4.out.2.size)⟩
    have HSI : Hid (Calls Tryd.prog 14 #[.slice r2 FS.length k2, .slice s2 FS.length m2] y5 fun e w' => e = .returned (.bool true) ∧ Below y5.heap.size y5 w') := by
      have := rSameInts_any (HN4.out.1.below hb5) (HN4.out.2.below hb5)
      rw [show decide (FS = FS) = true by simp] at this
      exact this
    clear hb5 HSL HN4
    go_wp2_with fail
    refine HSI.out.mono ?_
    rintro e y6 ⟨rfl, hb6⟩
    have H6 : Hid (Below W0.heap.size W0 y6 ∧ Below y2.heap.size y2 y6) := ⟨H5.out.1.trans (hb6.mono H5.out.1.size), H5.out.2.trans (hb6.mono H5.out.2.size)⟩
    clear hb6 HSI
    obtain ⟨d0, d1, d2, d3⟩ := HD.out y6 H6.out.1
    obtain ⟨b7, hb7⟩ : ∃ b7, y6.heap.size = b7 := ⟨_, rfl⟩
    obtain ⟨Z, hZ⟩ : ∃ Z, y6.alloc (.cells #[.string f.name, .int .i64 f.params, .int .i64 f.temps, .slice a l c] 24) = Z := ⟨_, rfl⟩
    have HZ : Hid (Below W0.heap.size W0 Z ∧ Below y2.heap.size y2 Z ∧ (Z.cell? ⟨b7, 0, none⟩ = some (.string f.name) ∧ Z.cell? ⟨b7, 1, none⟩ = some (.int .i64 f.params) ∧ Z.cell? ⟨b7, 2, none⟩ = some (.int .i64 f.temps) ∧ Z.cell? ⟨b7, 3, none⟩ = some (.slice a l c))) := by
      show _ ∧ _
      rw [← hZ, ← hb7]
      exact ⟨H6.out.1.alloc H6.out.1.size _, H6.out.2.alloc H6.out.2.size _, ncell_at rfl, ncell_at rfl, ncell_at rfl, ncell_at rfl⟩
    go_wp2_with fail
    try rw [hZ]
    try rw [hb7]
    clear hZ hb7
    refine (HSF.out Z g cg b7 1 a2 c2 (HBW.out _ HZ.out.1) (HG.out _ HZ.out.2.1).1 (HG.out _ HZ.out.2.1).2 HZ.out.2.2).mono ?_
    rintro e y8 ⟨rfl, hb8⟩
    have H8 : Hid (Below W0.heap.size W0 y8) := HZ.out.1.trans (hb8.mono HZ.out.1.size)
    clear hb8 d0 d1 d2 d3 HSF HZ
    go_wp2_with fail
    refine (HLV.out y8 (HBW.out _ H8.out)).mono ?_
    rintro e y9 ⟨rfl, hb9⟩
    have H9 : Hid (Below W0.heap.size W0 y9) := H8.out.trans (hb9.mono H8.out.size)
    clear hb9
    go_wp2_with fail
    go_ret
    exact ⟨rfl, HBW.out _ H9.out⟩
end Go.Proofs.YtljgpngbkmembaaDoor

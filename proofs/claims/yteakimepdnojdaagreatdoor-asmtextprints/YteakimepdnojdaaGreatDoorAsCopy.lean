/- What the document's Copy comes to. (Written by gen_copy.py.) -/
import Derived.Test.YteakimepdnojdaaGreatDoorAsOwn
import Derived.Test.YteakimepdnojdaaGreatDoorAsRow
namespace Go.Proofs.YteakimepdnojdaaGreatDoor
open Go.RowKit Go.Maps Go.Lib
set_option linter.unusedVariables false
set_option linter.unusedSimpArgs false

/-- append of a whole list, nil or not, onto nil. -/
theorem run_append_copy (w : World) (t e : TypeId) (i0 : TypeInfo) (z : Value) (size bytes : Nat) (ht : Tryz.prog.underlying t = some (.slice e)) (hi : Tryz.prog.info? e = some i0) (hz : i0.zero = some z) (hsize : i0.size = size) (hby : i0.bytes = bytes) (hzs : z.cells.size = size) (hsz : 0 < size)
    {a : Option Addr} {l c : Nat} {cs : List Value} (hnil : a = none → l = 0) (hlen : cs.length = l * size) (hcells : ∀ ad, a = some ad → ∀ j u, cs[j]? = some u → w.cell? (ad.add j) = some u) (h1 : ∀ u ∈ cs, u.oneCell' = true) (hb : l * bytes ≤ 140737488355328) (hm : l ≤ 140737488355328) (ty : TypeId) :
    ∃ a' c' w', (Builtin.append_ #[t, t] ty #[.slice none 0 0, .slice a l c]).run Tryz.prog w = .ok (.slice a' l c') w' ∧ w'.ownsRow w.heap.size e size (.slice a' l c') l cs ∧ Below w.heap.size w w' := by
  have key : ∃ v' w', (Builtin.append_ #[t, t] ty #[.slice none 0 0, .slice a l c]).run Tryz.prog w = .ok v' w' ∧ w'.ownsRow w.heap.size e size v' l cs ∧ Below w.heap.size w w' := by
    cases a with
    | none =>
      obtain rfl := hnil rfl
      obtain rfl : cs = [] := List.eq_nil_of_length_eq_zero (by simpa using hlen)
      refine ⟨.slice none 0 0, w, ?_, World.ownsRow_nil _ _ _ _, Below.refl _ _⟩
      simp [Builtin.append_, run_underlying ht, sizeOf, typeInfo, hi, Builtin.lenOf, Builtin.firstCells]
    | some ad =>
      obtain ⟨v', w', hr, ho, hg, -, -⟩ := run_append_own_at (P := Tryz.prog) w w.heap.size t ty e i0 z size bytes ht hi hz hsize hby hzs hsz (.slice none 0 0) 0 [] (World.ownsRow_nil _ _ _ _) ad l c cs hlen (hcells ad rfl) h1 (by unfold maxLen; omega) (by simpa using hb) (Nat.le_refl _)
      exact ⟨v', w', hr, by simpa using ho, (Below.refl _ _).grown hg (Nat.le_refl _) (by intro k hk; cases hk)⟩
  obtain ⟨v', w', hr, ho, hbl⟩ := key
  obtain ⟨a', c', rfl⟩ := own_slice ho
  exact ⟨a', c', w', hr, ho, hbl⟩
set_option maxRecDepth 100000 in
theorem step_append_copy {ops : Array Oper} {o : Oper} {ac : Act} {K : Act → World → Prop} {Q : Exit → Act → World → Prop} {E : Prop} {w : World} (hgd : o.guard = none) (s x : Operand) (t : TypeId)
    (ho : o.op = .call { callee := .builtin .append, args := #[s, x], argTypes := #[t, t] }) (e : TypeId) (i0 : TypeInfo) (z : Value) (size bytes : Nat) (ht : Tryz.prog.underlying t = some (.slice e)) (hi : Tryz.prog.info? e = some i0) (hz : i0.zero = some z) (hsize : i0.size = size) (hby : i0.bytes = bytes) (hzs : z.cells.size = size) (hsz : 0 < size)
    {a : Option Addr} {l c : Nat} {cs : List Value} (hs : ac.eval s = .slice none 0 0) (hx : ac.eval x = .slice a l c) (hnil : a = none → l = 0) (hlen : cs.length = l * size) (hcells : ∀ ad, a = some ad → ∀ j u, cs[j]? = some u → w.cell? (ad.add j) = some u) (h1 : ∀ u ∈ cs, u.oneCell' = true) (hb : l * bytes ≤ 140737488355328) (hm : l ≤ 140737488355328)
    (hk : ∀ a' c' w', w'.ownsRow w.heap.size e size (.slice a' l c') l cs → Below w.heap.size w w' → K (ac.put o.dst (.slice a' l c')) w') :
    if Region.wanted o (yielded ops ac.tmps) = true then Oper.wp Tryz.prog o ac w K Q else E := by
  have hw : Region.wanted o (yielded ops ac.tmps) = true := by simp [Region.wanted, hgd]
  rw [if_pos hw]
  obtain ⟨a', c', w', hr, h2, h3⟩ := run_append_copy w t e i0 z size bytes ht hi hz hsize hby hzs hsz hnil hlen hcells h1 hb hm o.type
  unfold Oper.wp execOp
  simp only [ho, resolve, invoke, builtin, Sem.run_bind, Sem.run_pure, Result.andThen_ok, List.map_toArray, List.map_cons, List.map_nil, hs, hx]
  rw [hr]
  exact hk a' c' w' h2 h3
theorem IntsV.src {w : World} {a : Option Addr} {n c : Nat} {zs : List Int} (h : IntsV w a n c zs) : (a = none → n = 0) ∧ (iC zs).length = n * 1 ∧ (∀ ad, a = some ad → ∀ j u, (iC zs)[j]? = some u → w.cell? (ad.add j) = some u) ∧ ∀ u ∈ iC zs, u.oneCell' = true := by
  have hl : (iC zs).length = n * 1 := by unfold iC; rw [List.length_map, h.count, Nat.mul_one]
  refine ⟨fun e => ?_, hl, fun ad e j u hu => ?_, fun u hu => ?_⟩
  · rcases h.cells with h0 | ⟨b, off, e2, -⟩
    · exact h0
    · rw [e] at e2; cases e2
  · have hj : j < n := by have := (List.getElem?_eq_some_iff.1 hu).1; omega
    rcases h.cells with h0 | ⟨b, off, e2, hc⟩
    · omega
    · rw [e] at e2
      cases e2
      rw [Addr.add_lit, hc j hj, ← hu]
      have : j < zs.length := by rw [h.count]; exact hj
      simp [iC, List.getD, this]
  · unfold iC at hu
    obtain ⟨z, -, rfl⟩ := List.mem_map.1 hu
    rfl
/-- Items with rows of words of their own, whatever their names. -/
def ItC (B : Nat) (W : World) (tv : List (X.It × Value)) : Prop := ∀ p ∈ tv, ∃ aw lw cw, p.2 = .slice aw lw cw ∧ W.ownsRow B 2 1 (.slice aw lw cw) lw (iC p.1.words)
theorem ItC.kept {B : Nat} {W W' : World} {tv : List (X.It × Value)} {r : Option Nat} (h : ItC B W tv) (hg : W.grownBy W' r) (hr : ∀ b o, r = some b → W.heap[b]? = some o → ∀ cs fr, o ≠ .cells cs 2 fr) : ItC B W' tv := by
  intro p hp
  obtain ⟨aw, lw, cw, e, ho⟩ := h p hp
  refine ⟨aw, lw, cw, e, ?_⟩
  rcases ho.2 with ⟨e1, -⟩ | ⟨g, cap, cur, e1, hb, hh, -⟩
  · exact ho.kept hg (.inl (by rw [e1]; rfl))
  · refine ho.kept hg (.inr fun e2 => ?_)
    have e3 : (Value.slice aw lw cw).ownBlock = some g := by rw [e1]; rfl
    rw [e3] at e2
    exact hr g _ e2.symm hh _ _ rfl
theorem ItC.below {B : Nat} {W W' : World} {tv : List (X.It × Value)} (h : ItC B W tv) (hb : Below W.heap.size W W') : ItC B W' tv := h.kept (gb_of_below hb none) (fun b o e => by cases e)
theorem its_of_ownC {W : World} {B B' : Nat} {tv : List (X.It × Value)} {a : Option Addr} {c : Nat} (h : W.ownsRow B 32 7 (.slice a tv.length c) tv.length (tv.flatMap itF)) (ho : ItC B' W tv) (hf : ∀ t ∈ tv.map (·.1), t.name.length ≤ maxLen ∧ X.fitsIt t) : ItsV W a tv.length c (tv.map (·.1)) := by
  rcases h.2 with ⟨e1, e2⟩ | ⟨g, cap, cur, e1, -, -, h1, h2, -⟩
  · injection e1 with e1 _ e3
    subst e1 e3
    exact ⟨by simp, ⟨by omega, Nat.zero_le _⟩, hf, .inl e2⟩
  · injection e1 with e1 _ e3
    subst e1 e3
    refine ⟨by simp, ⟨h1, h2⟩, hf, .inr ⟨g, 0, rfl, fun i hi => ?_⟩⟩
    have hg : (tv.map (·.1)).getD i X.noIt = (tv.getD i (X.noIt, .slice none 0 0)).1 := by simp [List.getD, hi]
    have hm : tv.getD i (X.noIt, .slice none 0 0) ∈ tv := by simp [List.getD, hi]
    obtain ⟨aw, lw, cw, e, hw⟩ := ho _ hm
    have hc : ∀ j u, j < 7 → (itF (tv.getD i (X.noIt, .slice none 0 0)))[j]? = some u → W.cell? ⟨g, i * 7 + j, none⟩ = some u := fun j u hj hu => by
      rw [h.cellAt _ (by omega), flat_at itF 7 (X.noIt, .slice none 0 0) itF_len tv i j hi hj]
      exact hu
    rw [hg]
    refine ⟨aw, lw, cw, ?_, ?_, ?_, ?_, ?_, ?_, ?_, ints_of_own hw⟩
    · simpa using hc 0 _ (by omega) rfl
    · simpa using hc 1 _ (by omega) rfl
    · simpa using hc 2 _ (by omega) rfl
    · simpa using hc 3 _ (by omega) rfl
    · simpa using hc 4 _ (by omega) rfl
    · simpa using hc 5 _ (by omega) rfl
    · rw [← e]; simpa using hc 6 _ (by omega) rfl

/-- What Copy leaves. -/
def CopyOut (w : World) (ts : List X.It) (l : Nat) (e : Ending) (w' : World) : Prop := (∃ lv tv, e = .returned lv ∧ tv.map (·.1) = ts ∧ w'.ownsRow w.heap.size 32 7 lv l (tv.flatMap itF) ∧ ItC w.heap.size w' tv) ∧ Below w.heap.size w w'
set_option maxRecDepth 100000 in
set_option maxHeartbeats 8000000 in
theorem rcopy_any {w : World} {a : Option Addr} {l c : Nat} {ts : List X.It} (h : ItsV w a l c ts) (hl : l ≤ 1048576) (hi : ∀ x ∈ ts, x.words.length * 8 ≤ 140737488355328) :
    Calls Tryz.prog 9 #[.slice a l c] w (CopyOut w ts l) := by
  obtain ⟨i1, hi1, hz10, hz11, hz12⟩ := info_parts infoN
  obtain ⟨i2, hi2, hz20, hz21, hz22⟩ := info_parts infoIt
  have HV : Hid _ := h
  have HI : Hid _ := hi
  have HC : Hid (ts.length = l) := h.count
  have hm : l ≤ 9223372036854775807 := by omega
  clear h hi
  go_enter Tryz.func9, Tryz.ntmps9
  go_wp2_with fail
  go_loopg [3, 4] l (fun r lv iv wq => ∃ (k : Nat) (tv : List (X.It × Value)), iv = .int .i64 k ∧ k ≤ l ∧ l - k ≤ r ∧ Hid (tv.map (·.1) = ts.take k) ∧ Hid (wq.ownsRow w.heap.size 32 7 lv k (tv.flatMap itF)) ∧ Hid (ItC w.heap.size wq tv) ∧ Hid (Below w.heap.size w wq))
  case atStart => exact ⟨0, [], rfl, Nat.zero_le _, by omega, (by simp : (([] : List (X.It × Value)).map (·.1)) = ts.take 0), World.ownsRow_nil _ _ _ _, (fun p hp => by simp at hp : ItC w.heap.size w []), Below.refl _ _⟩
  case round =>
    obtain ⟨k, tv, rfl, hk, hr, HTV, HO, HIC, HBL⟩ := hrel
    by_cases hlt : k < l
    · obtain ⟨b, off, t, a1, l1, c1, rfl, hg, hmem, q0, q1, q2, q3, q4, q5, q6, V⟩ := HV.out.at hlt
      have hbw : b < w.heap.size := World.block_lt_of_cell? w ⟨b, off + k * 7, none⟩ q0
      have HVW : Hid _ := V
      have HQ6 : Hid _ := q6
      have q0 := cell_thru HBL.out q0
      have q1 := cell_thru HBL.out q1
      have q2 := cell_thru HBL.out q2
      have q3 := cell_thru HBL.out q3
      have q4 := cell_thru HBL.out q4
      have q5 := cell_thru HBL.out q5
      have q6 := cell_thru HBL.out q6
      have HL1 : Hid _ := HI.out t hmem
      have HTK : Hid (ts.take (k + 1) = ts.take k ++ [t]) := by
        show _ = _
        have hk2 : k < ts.length := by rw [HC.out]; exact hlt
        rw [List.take_add_one, List.getElem?_eq_getElem hk2]
        simp only [List.getD, List.getElem?_eq_getElem hk2, Option.getD_some] at hg
        rw [hg]
        rfl
      have hii : (k : Int) < l := by omega
      have hin : 0 ≤ (k : Int) := by omega
      have hww : w.heap.size ≤ wr.heap.size := HBL.out.size
      clear hg hmem V
      obtain ⟨Y0, hY0⟩ : ∃ Y0, wr.alloc (.cells #[.int .i64 t.kind, .string (X.str t.name), .int .i64 t.op, .int .i64 t.a, .int .i64 t.b, .int .i64 t.n, .slice a1 l1 c1] 32) = Y0 := ⟨_, rfl⟩
      have z6 : Y0.frozen? ⟨wr.heap.size, 6, none⟩ = false := by subst hY0; exact World.frozen?_alloc_at _ _ _ _ (by simp)
      have bY0 : Below wr.heap.size wr Y0 := by subst hY0; exact bl1 _ _
      have f0 : Y0.cell? ⟨wr.heap.size, 0, none⟩ = some (.int .i64 t.kind) := by subst hY0; exact cell_last rfl rfl
      have f1 : Y0.cell? ⟨wr.heap.size, 1, none⟩ = some (.string (X.str t.name)) := by subst hY0; exact cell_last rfl rfl
      have f2 : Y0.cell? ⟨wr.heap.size, 2, none⟩ = some (.int .i64 t.op) := by subst hY0; exact cell_last rfl rfl
      have f3 : Y0.cell? ⟨wr.heap.size, 3, none⟩ = some (.int .i64 t.a) := by subst hY0; exact cell_last rfl rfl
      have f4 : Y0.cell? ⟨wr.heap.size, 4, none⟩ = some (.int .i64 t.b) := by subst hY0; exact cell_last rfl rfl
      have f5 : Y0.cell? ⟨wr.heap.size, 5, none⟩ = some (.int .i64 t.n) := by subst hY0; exact cell_last rfl rfl
      have f6 : Y0.cell? ⟨wr.heap.size, 6, none⟩ = some (.slice a1 l1 c1) := by subst hY0; exact cell_last rfl rfl
      have SY0 : Hid (Y0.heap.size = wr.heap.size + 1) := by show _ = _; subst hY0; simp
      go_wp2_with fail
      obtain ⟨Y1, hY1⟩ : ∃ Y1, Y0.setCell ⟨wr.heap.size, 6, none⟩ (.slice none 0 0) = Y1 := ⟨_, rfl⟩
      rw [hY1]
      have bY : Below wr.heap.size wr Y1 := by subst hY1; exact bY0.setCell (Nat.le_refl _) _
      have SY : Hid (Y1.heap.size = wr.heap.size + 1) := by show _ = _; subst hY1; rw [World.size_setCell]; exact SY0.out
      have g0 : Y1.cell? ⟨wr.heap.size, 0, none⟩ = some (.int .i64 t.kind) := by subst hY1; rw [World.cell?_setCell_other _ _ _ _ (by simp)]; exact f0
      have g1 : Y1.cell? ⟨wr.heap.size, 1, none⟩ = some (.string (X.str t.name)) := by subst hY1; rw [World.cell?_setCell_other _ _ _ _ (by simp)]; exact f1
      have g2 : Y1.cell? ⟨wr.heap.size, 2, none⟩ = some (.int .i64 t.op) := by subst hY1; rw [World.cell?_setCell_other _ _ _ _ (by simp)]; exact f2
      have g3 : Y1.cell? ⟨wr.heap.size, 3, none⟩ = some (.int .i64 t.a) := by subst hY1; rw [World.cell?_setCell_other _ _ _ _ (by simp)]; exact f3
      have g4 : Y1.cell? ⟨wr.heap.size, 4, none⟩ = some (.int .i64 t.b) := by subst hY1; rw [World.cell?_setCell_other _ _ _ _ (by simp)]; exact f4
      have g5 : Y1.cell? ⟨wr.heap.size, 5, none⟩ = some (.int .i64 t.n) := by subst hY1; rw [World.cell?_setCell_other _ _ _ _ (by simp)]; exact f5
      have g6 : Y1.cell? ⟨wr.heap.size, 6, none⟩ = some (.slice none 0 0) := by subst hY1; exact World.cell?_setCell_same' _ _ _ (by rw [f6]; rfl)
      have zY1 : Y1.frozen? ⟨wr.heap.size, 6, none⟩ = false := by subst hY1; rw [World.frozen?_setCell]; exact z6
      have hbwY : Below w.heap.size w Y1 := HBL.out.trans (bY.mono hww)
      have HVD : Hid _ := HVW.out.below hbwY.drew
      have HSR : Hid _ := HVD.out.src
      have hl1 : l1 * 8 ≤ 140737488355328 := by have := HVW.out.count; have := HL1.out; omega
      have qs : Y1.drew.cell? ⟨b, off + k * 7 + 6, none⟩ = some (.slice a1 l1 c1) := cell_thru hbwY.drew HQ6.out
      have nb : wr.heap.size ≠ b := by omega
      clear f0 f1 f2 f3 f4 f5 f6 z6 q0 q1 q2 q3 q4 q5 q6
      refine wp_region_held_drew (S := (fun w' : World => w'.cell? ⟨b, off + k * 7 + 6, none⟩ = some (.slice a1 l1 c1))) (by kernel_rfl) qs (fun hHeld => ?_)
      refine tk (i := 0) (v := ?_) (tA rfl) (by kernel_rfl) (fun _ _ _ h => h) (Or.inl ⟨by rfl, ?_⟩) (by assumption) ?_
      rotate_left
      · (intro w hSw; (try dsimp only at hSw); go_simp <;> with_reducible rfl)
      simp only [Act.put, List.setIfInBounds_toArray, List.set_cons_zero, List.set_cons_succ]
      refine tk (i := 2) (v := ?_) (tA rfl) (by kernel_rfl) (fun _ _ _ h => h) (Or.inl ⟨by rfl, ?_⟩) (by assumption) ?_
      rotate_left
      · (intro w hSw; (try dsimp only at hSw); go_simp <;> with_reducible rfl)
      simp only [Act.put, List.setIfInBounds_toArray, List.set_cons_zero, List.set_cons_succ]
      refine tk (i := 3) (v := ?_) (tA rfl) (by kernel_rfl) (fun _ _ _ h => h) (Or.inl ⟨by rfl, ?_⟩) (by assumption) ?_
      rotate_left
      · (intro w hSw; (try dsimp only at hSw); go_simp <;> with_reducible rfl)
      simp only [Act.put, List.setIfInBounds_toArray, List.set_cons_zero, List.set_cons_succ]
      refine tk (i := 4) (v := ?_) (tA rfl) (by kernel_rfl) (fun _ _ _ h => h) (Or.inl ⟨by rfl, ?_⟩) (by assumption) ?_
      rotate_left
      · (intro w hSw; (try dsimp only at hSw); go_simp <;> with_reducible rfl)
      simp only [Act.put, List.setIfInBounds_toArray, List.set_cons_zero, List.set_cons_succ]
      refine tk (i := 5) (v := ?_) (tA rfl) (by kernel_rfl) (fun _ _ _ h => h) (Or.inl ⟨by rfl, ?_⟩) (by assumption) ?_
      rotate_left
      · (intro w hSw; (try dsimp only at hSw); go_simp <;> with_reducible rfl)
      simp only [Act.put, List.setIfInBounds_toArray, List.set_cons_zero, List.set_cons_succ]
      refine tk (i := 6) (v := ?_) (tA rfl) (by kernel_rfl) (fun _ _ _ h => h) (Or.inl ⟨by rfl, ?_⟩) (by assumption) ?_
      rotate_left
      · (intro w hSw; (try dsimp only at hSw); go_simp <;> with_reducible rfl)
      simp only [Act.put, List.setIfInBounds_toArray, List.set_cons_zero, List.set_cons_succ]
      refine wpAnyH_ready (rs := [1]) (by kernel_rfl) (by simp) ?_
      refine AllReadyH.cons (tA rfl) (fun K hK => ?_) AllReadyH.nil
      go_simp
      refine hK.out _ _ hHeld (fun hHeld => ?_)
      clear hK K
      try simp only [Act.put, List.setIfInBounds_toArray, List.set_cons_zero, List.set_cons_succ]
      refine wpAnyH_ready (rs := [7]) (by kernel_rfl) (by simp) ?_
      refine AllReadyH.cons (tA rfl) (fun K hK => ?_) AllReadyH.nil
      refine step_append_copy (by rfl) _ _ 30 (by rfl) 2 i1 _ 1 8 Tryz.underlying30 hi1 hz10 hz11 hz12 rfl (by decide) (a := a1) (l := l1) (c := c1) (cs := iC t.words) (by rfl) (by rfl) HSR.out.1 HSR.out.2.1 HSR.out.2.2.1 HSR.out.2.2.2 (by omega) (by omega) ?_
      intro e1 f1 Y2 hoY2 hbY2
      have HY2 : Hid _ := hoY2
      have HB2 : Hid (Below Y1.heap.size Y1 Y2) := ⟨hbY2.os, hbY2.tape, hbY2.output, hbY2.size, hbY2.block⟩
      have gY2 := cell_thru HB2.out g6
      have zY2 : Y2.frozen? ⟨wr.heap.size, 6, none⟩ = false := (HB2.out.frozen (p := ⟨wr.heap.size, 6, none⟩) (by show wr.heap.size < Y1.heap.size; rw [SY.out]; exact Nat.lt_succ_self _)).trans zY1
      have tY2 : Y2.cell? ⟨b, off + k * 7 + 6, none⟩ = some (.slice a1 l1 c1) := cell_thru hbY2 qs
      refine hK.out _ _ tY2 (fun hHeld => ?_)
      clear hK K
      try simp only [Act.put, List.setIfInBounds_toArray, List.set_cons_zero, List.set_cons_succ]
      refine tk (i := 8) (v := ?_) (tA rfl) (by kernel_rfl) (fun _ _ _ h => h) (Or.inl ⟨by rfl, ?_⟩) (by assumption) ?_
      rotate_left
      · (intro w hSw; (try dsimp only at hSw); go_simp <;> with_reducible rfl)
      simp only [Act.put, List.setIfInBounds_toArray, List.set_cons_zero, List.set_cons_succ]
      refine wpAnyH_ready (rs := [9]) (by kernel_rfl) (by simp) ?_
      refine AllReadyH.cons (tA rfl) (fun K hK => ?_) AllReadyH.nil
      go_simp
      refine hK.out _ _ ((World.cell?_setCell_far Y2 ⟨wr.heap.size, 6, none⟩ ⟨b, off + k * 7 + 6, none⟩ _ nb).trans tY2) (fun hHeld => ?_)
      clear hK K
      try simp only [Act.put, List.setIfInBounds_toArray, List.set_cons_zero, List.set_cons_succ]
      refine wpAnyH_done (by kernel_rfl) ?_ _
      clear hHeld
      obtain ⟨Y3, hY3⟩ : ∃ Y3, Y2.setCell ⟨wr.heap.size, 6, none⟩ (.slice e1 l1 f1) = Y3 := ⟨_, rfl⟩
      have p0 : Y3.cell? ⟨wr.heap.size, 0, none⟩ = some (.int .i64 t.kind) := by subst hY3; rw [World.cell?_setCell_other _ _ _ _ (by simp)]; exact cell_thru HB2.out g0
      have p1 : Y3.cell? ⟨wr.heap.size, 1, none⟩ = some (.string (X.str t.name)) := by subst hY3; rw [World.cell?_setCell_other _ _ _ _ (by simp)]; exact cell_thru HB2.out g1
      have p2 : Y3.cell? ⟨wr.heap.size, 2, none⟩ = some (.int .i64 t.op) := by subst hY3; rw [World.cell?_setCell_other _ _ _ _ (by simp)]; exact cell_thru HB2.out g2
      have p3 : Y3.cell? ⟨wr.heap.size, 3, none⟩ = some (.int .i64 t.a) := by subst hY3; rw [World.cell?_setCell_other _ _ _ _ (by simp)]; exact cell_thru HB2.out g3
      have p4 : Y3.cell? ⟨wr.heap.size, 4, none⟩ = some (.int .i64 t.b) := by subst hY3; rw [World.cell?_setCell_other _ _ _ _ (by simp)]; exact cell_thru HB2.out g4
      have p5 : Y3.cell? ⟨wr.heap.size, 5, none⟩ = some (.int .i64 t.n) := by subst hY3; rw [World.cell?_setCell_other _ _ _ _ (by simp)]; exact cell_thru HB2.out g5
      have p6 : Y3.cell? ⟨wr.heap.size, 6, none⟩ = some (.slice e1 l1 f1) := by subst hY3; exact World.cell?_setCell_same' _ _ _ (by rw [gY2]; rfl)
      have B3 : Hid (Below wr.heap.size wr Y3) := by
        show Below _ _ _
        subst hY3
        exact (bY.trans (HB2.out.mono (by rw [SY.out]; omega))).setCell (Nat.le_refl _) _
      have O3 : Hid (Y3.ownsRow (wr.heap.size + 1) 2 1 (.slice e1 l1 f1) l1 (iC t.words)) := by
        show World.ownsRow _ _ _ _ _ _ _
        have h1 : Y2.ownsRow (wr.heap.size + 1) 2 1 (.slice e1 l1 f1) l1 (iC t.words) := own_mono HY2.out (by simp only [World.size_drew]; rw [SY.out]; exact Nat.le_refl _)
        subst hY3
        exact h1.kept (gb_set _ _ _) (.inr fun e => by have := (h1.lt _ e).1; simp at this; omega)
      obtain ⟨Z, hZ⟩ : ∃ Z, Y3.alloc (.cells #[.int .i64 t.kind, .string (X.str t.name), .int .i64 t.op, .int .i64 t.a, .int .i64 t.b, .int .i64 t.n, .slice e1 l1 f1] 32) = Z := ⟨_, rfl⟩
      have bZ : Below Y3.heap.size Y3 Z := by subst hZ; exact bl1 _ _
      have hz3 : wr.heap.size + 1 ≤ Y3.heap.size := by subst hY3; rw [World.size_setCell]; have := HB2.out.size; rw [SY.out] at this; exact this
      have BZ : Hid (Below wr.heap.size wr Z) := B3.out.trans (bZ.mono (by omega))
      have NZ : Hid (Z.ownsRow w.heap.size 32 7 u3 k (tv.flatMap itF)) := own_thru HO.out BZ.out
      have IZ : Hid (ItC w.heap.size Z tv) := HIC.out.below BZ.out
      have OZ : Hid (Z.ownsRow w.heap.size 2 1 (.slice e1 l1 f1) l1 (iC t.words)) := own_mono (own_thru O3.out bZ) (by omega)
      have HWZ : Hid (w.heap.size ≤ Z.heap.size) := by show _ ≤ _; have := BZ.out.size; omega
      have HNC : Hid (∀ j u, (itC t (.slice e1 l1 f1))[j]? = some u → Z.cell? ((⟨Y3.heap.size, 0, none⟩ : Addr).add j) = some u) := by
        intro j u hu
        subst hZ
        rw [Addr.add_lit, Nat.zero_add]
        exact cell_last rfl (by simpa [itC] using hu)
      clear bZ g0 g1 g2 g3 g4 g5 g6 gY2 zY2 tY2 hoY2 hbY2 qs nb zY1
      rw [hY3]
      go_wp2_with (first | (at_builtin; refine wpList_append_lies _ rfl _ _ 23 rfl w.heap.size 32 i2 _ 7 80 Tryz.underlying23 hi2 hz20 hz21 hz22 rfl (by decide) u3 k (tv.flatMap itF) rfl NZ.out ⟨Y3.heap.size, 0, none⟩ 1 1 (itC t (.slice e1 l1 f1)) rfl rfl HNC.out oneIt (by decide) (by unfold maxLen; omega) (by omega) HWZ.out Z.heap.size rfl ?_; intro ga ca w1 ho1 hg1 hat1 hlt1; have HO1 : Hid _ := ho1; have HG1 : Hid _ := hg1; clear ho1 hg1 hat1) | fail)
      have hty : ∀ b o, u3.ownBlock = some b → Z.heap[b]? = some o → ∀ cs fr, o ≠ .cells cs 2 fr := fun b o hb ho cs fr e => by
        obtain ⟨-, cur, e2⟩ := own_cells NZ.out b o hb ho
        rw [e2] at e
        injection e with e3 e4
        exact absurd e4 (by decide)
      have HTY : Hid _ := hty
      have CX : Hid (w1.ownsRow w.heap.size 32 7 (.slice (some ⟨ga, 0, none⟩) (k + 1) ca) (k + 1) ((tv ++ [((t, Value.slice e1 l1 f1) : X.It × Value)]).flatMap itF)) := by
        show World.ownsRow _ _ _ _ _ _ _
        rw [List.flatMap_append]
        simp only [List.flatMap_cons, List.flatMap_nil, List.append_nil]
        exact HO1.out
      have IX : Hid (ItC w.heap.size w1 (tv ++ [((t, Value.slice e1 l1 f1) : X.It × Value)])) := by
        show ItC _ _ _
        have h2 : ItC w.heap.size Z (tv ++ [((t, Value.slice e1 l1 f1) : X.It × Value)]) := fun p hp => by
          rcases List.mem_append.1 hp with hp | hp
          · exact IZ.out p hp
          · simp at hp
            subst hp
            exact ⟨_, _, _, rfl, OZ.out⟩
        exact h2.kept HG1.out HTY.out
      have B4 : Hid (Below w.heap.size w w1) := by
        have hb := HBL.out.trans (BZ.out.mono HBL.out.size)
        exact below_own hb NZ.out HG1.out HWZ.out
      have HT2 : Hid ((tv ++ [((t, Value.slice e1 l1 f1) : X.It × Value)]).map (·.1) = ts.take (k + 1)) := by
        show _ = _
        rw [List.map_append, HTV.out, HTK.out]
        rfl
      clear hty
      go_roundg (l - (k + 1))
      case measure => omega
      case rel => exact ⟨k + 1, _, by first | rfl | (congr 1; omega), by omega, Nat.le_refl _, HT2.out, CX.out, IX.out, B4.out⟩
    · obtain rfl : k = l := by omega
      have hii : ¬ (k : Int) < k := by omega
      go_wp2_with fail
      go_ret
      exact ⟨⟨_, tv, rfl, HTV.out.trans (List.take_of_length_le (by rw [HC.out]; exact Nat.le_refl _)), HO.out, HIC.out⟩, HBL.out⟩
end Go.Proofs.YteakimepdnojdaaGreatDoor

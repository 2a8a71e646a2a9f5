/- What the document's Copy comes to. (Written by gen_copy.py.) -/
import Derived.Test.YtgjingleolhkbaaGreatDoorKBd
import Derived.Test.YtgjingleolhkbaaGreatDoorKAd
import Derived.BigQuiet
import Derived.Test.YtgjingleolhkbaaGreatDoorKBe
import Derived.SizedLaws
namespace Go.Proofs.YtgjingleolhkbaaGreatDoor
open Go.RowKit Go.Maps Go.Lib
set_option linter.unusedVariables false
set_option linter.unusedSimpArgs false

theorem cell_last {w : World} {A : Array Value} {t g j : Nat} (hg : g = w.heap.size) {v : Value} (hv : A[j]? = some v) : (w.alloc (.cells A t)).cell? ⟨g, j, none⟩ = some v := by
 subst hg
 simp [hv]
/-- append of a whole list, nil or not, onto nil. -/
theorem run_append_copy (w : World) (t e : TypeId) (i0 : TypeInfo) (z : Value) (size bytes : Nat) (ht : Tryz.prog.underlying t = some (.slice e)) (hi : Tryz.prog.info? e = some i0) (hz : i0.zero = some z) (hsize : i0.size = size) (hby : i0.bytes = bytes) (hzs : z.cells.size = size) (hsz : 0 < size)
  {a : Option Addr} {l c : Nat} {cs : List Value} (hnil : a = none → l = 0) (hlen : cs.length = l * size) (hcells : ∀ ad, a = some ad → ∀ j u, cs[j]? = some u → w.cell? (ad.add j) = some u) (h1 : ∀ u ∈ cs, u.oneCell' = true) (hb : l * bytes ≤ 140737488355328) (hm : l ≤ 140737488355328) (ty : TypeId) :
  ∃ a' c' w', (Builtin.append_ #[t, t] ty #[.slice none 0 0, .slice a l c]).run Tryz.prog w = .ok (.slice a' l c') w' ∧ w'.ownsRow w.heap.size e size (.slice a' l c') l cs ∧ Below w.heap.size w w' := by
 have key : ∃ v' w', (Builtin.append_ #[t, t] ty #[.slice none 0 0, .slice a l c]).run Tryz.prog w = .ok v' w' ∧ w'.ownsRow w.heap.size e size v' l cs ∧ Below w.heap.size w w' := by
  cases a with
  | none =>
   obtain rfl := hnil rfl
   obtain rfl : cs = [] := List.eq_nil_of_length_eq_zero (by simpa using hlen)
   refine ⟨.slice none 0 0, w, ?_, World.ownsRow_nil _ _ _ _, Below.refl _ _⟩
   simp [Builtin.append_, run_underlying ht, sizeOf, typeInfo, hi, Builtin.lenOf, Builtin.firstCells]
  | some ad =>
   obtain ⟨v', w', hr, ho, hg, -, -⟩ := run_append_own_at (P := Tryz.prog) w w.heap.size t ty e i0 z size bytes ht hi hz hsize hby hzs hsz (.slice none 0 0) 0 [] (World.ownsRow_nil _ _ _ _) ad l c cs hlen (hcells ad rfl) h1 (by unfold maxLen; omega) (by simpa using hb) (Nat.le_refl _)
   exact ⟨v', w', hr, by simpa using ho, (Below.refl _ _).grown hg (Nat.le_refl _) (by intro k hk; cases hk)⟩
 obtain ⟨v', w', hr, ho, hbl⟩ := key
 obtain ⟨a', c', rfl⟩ := own_slice ho
 exact ⟨a', c', w', hr, ho, hbl⟩
set_option maxRecDepth 100000 in
theorem step_append_copy {ops : Array Oper} {o : Oper} {ac : Act} {K : Act → World → Prop} {Q : Exit → Act → World → Prop} {E : Prop} {w : World} (hgd : o.guard = none) (s x : Operand) (t : TypeId)
  (ho : o.op = .call { callee := .builtin .append, args := #[s, x], argTypes := #[t, t] }) (e : TypeId) (i0 : TypeInfo) (z : Value) (size bytes : Nat) (ht : Tryz.prog.underlying t = some (.slice e)) (hi : Tryz.prog.info? e = some i0) (hz : i0.zero = some z) (hsize : i0.size = size) (hby : i0.bytes = bytes) (hzs : z.cells.size = size) (hsz : 0 < size)
  {a : Option Addr} {l c : Nat} {cs : List Value} (hs : ac.eval s = .slice none 0 0) (hx : ac.eval x = .slice a l c) (hnil : a = none → l = 0) (hlen : cs.length = l * size) (hcells : ∀ ad, a = some ad → ∀ j u, cs[j]? = some u → w.cell? (ad.add j) = some u) (h1 : ∀ u ∈ cs, u.oneCell' = true) (hb : l * bytes ≤ 140737488355328) (hm : l ≤ 140737488355328)
  (hk : ∀ a' c' w', w'.ownsRow w.heap.size e size (.slice a' l c') l cs → Below w.heap.size w w' → K (ac.put o.dst (.slice a' l c')) w') :
  if Region.wanted o (yielded ops ac.tmps) = true then Oper.wp Tryz.prog o ac w K Q else E := by
 have hw : Region.wanted o (yielded ops ac.tmps) = true := by simp [Region.wanted, hgd]
 rw [if_pos hw]
 obtain ⟨a', c', w', hr, h2, h3⟩ := run_append_copy w t e i0 z size bytes ht hi hz hsize hby hzs hsz hnil hlen hcells h1 hb hm o.type
 unfold Oper.wp execOp
 simp only [ho, resolve, invoke, builtin, Sem.run_bind, Sem.run_pure, Result.andThen_ok, List.map_toArray, List.map_cons, List.map_nil, hs, hx]
 rw [hr]
 exact hk a' c' w' h2 h3
theorem IntsV.src {w : World} {a : Option Addr} {n c : Nat} {zs : List Int} (h : IntsV w a n c zs) : (a = none → n = 0) ∧ (iC zs).length = n * 1 ∧ (∀ ad, a = some ad → ∀ j u, (iC zs)[j]? = some u → w.cell? (ad.add j) = some u) ∧ ∀ u ∈ iC zs, u.oneCell' = true := by
 have hl : (iC zs).length = n * 1 := by unfold iC; rw [List.length_map, h.count, Nat.mul_one]
 refine ⟨fun e => ?_, hl, fun ad e j u hu => ?_, fun u hu => ?_⟩
 ·rcases h.cells with h0 | ⟨b, off, e2, -⟩
  ·exact h0
  ·rw [e] at e2; cases e2
 ·have hj : j < n := by have := (List.getElem?_eq_some_iff.1 hu).1; omega
  rcases h.cells with h0 | ⟨b, off, e2, hc⟩
  ·omega
  ·rw [e] at e2
   cases e2
   rw [Addr.add_lit, hc j hj, ← hu]
   have : j < zs.length := by rw [h.count]; exact hj
   simp [iC, List.getD, this]
 ·unfold iC at hu
  obtain ⟨z, -, rfl⟩ := List.mem_map.1 hu
  rfl
/-- Items with rows of words of their own, whatever their names. -/
def ItC (B : Nat) (W : World) (tv : List (X.It × Value)) : Prop := ∀ p ∈ tv, ∃ aw lw cw, p.2 = .slice aw lw cw ∧ W.ownsRow B 2 1 (.slice aw lw cw) lw (iC p.1.words)
theorem ItC.kept {B : Nat} {W W' : World} {tv : List (X.It × Value)} {r : Option Nat} (h : ItC B W tv) (hg : W.grownBy W' r) (hr : ∀ b o, r = some b → W.heap[b]? = some o → ∀ cs fr, o ≠ .cells cs 2 fr) : ItC B W' tv := by
 intro p hp
 obtain ⟨aw, lw, cw, e, ho⟩ := h p hp
 refine ⟨aw, lw, cw, e, ?_⟩
 rcases ho.2 with ⟨e1, -⟩ | ⟨g, cap, cur, e1, hb, hh, -⟩
 ·exact ho.kept hg (.inl (by rw [e1]; rfl))
 ·refine ho.kept hg (.inr fun e2 => ?_)
  have e3 : (Value.slice aw lw cw).ownBlock = some g := by rw [e1]; rfl
  rw [e3] at e2
  exact hr g _ e2.symm hh _ _ rfl
theorem ItC.below {B : Nat} {W W' : World} {tv : List (X.It × Value)} (h : ItC B W tv) (hb : Below W.heap.size W W') : ItC B W' tv := h.kept (gb_of_below hb none) (fun b o e => by cases e)
theorem its_of_ownC {W : World} {B B' : Nat} {tv : List (X.It × Value)} {a : Option Addr} {c : Nat} (h : W.ownsRow B 44 7 (.slice a tv.length c) tv.length (tv.flatMap itF)) (ho : ItC B' W tv) (hf : ∀ t ∈ tv.map (·.1), t.name.length ≤ maxLen ∧ X.fitsIt t) : ItsV W a tv.length c (tv.map (·.1)) := by
 rcases h.2 with ⟨e1, e2⟩ | ⟨g, cap, cur, e1, -, -, h1, h2, -⟩
 ·injection e1 with e1 _ e3
  subst e1 e3
  exact ⟨by simp, ⟨by omega, Nat.zero_le _⟩, hf, .inl e2⟩
 ·injection e1 with e1 _ e3
  subst e1 e3
  refine ⟨by simp, ⟨h1, h2⟩, hf, .inr ⟨g, 0, rfl, fun i hi => ?_⟩⟩
  have hg : (tv.map (·.1)).getD i X.noIt = (tv.getD i (X.noIt, .slice none 0 0)).1 := by simp [List.getD, hi]
  have hm : tv.getD i (X.noIt, .slice none 0 0) ∈ tv := by simp [List.getD, hi]
  obtain ⟨aw, lw, cw, e, hw⟩ := ho _ hm
  have hc : ∀ j u, j < 7 → (itF (tv.getD i (X.noIt, .slice none 0 0)))[j]? = some u → W.cell? ⟨g, i * 7 + j, none⟩ = some u := fun j u hj hu => by
   rw [h.cellAt _ (by omega), flat_at itF 7 (X.noIt, .slice none 0 0) itF_len tv i j hi hj]
   exact hu
  rw [hg]
  refine ⟨aw, lw, cw, ?_, ?_, ?_, ?_, ?_, ?_, ?_, ints_of_own hw⟩
  ·simpa using hc 0 _ (by omega) rfl
  ·simpa using hc 1 _ (by omega) rfl
  ·simpa using hc 2 _ (by omega) rfl
  ·simpa using hc 3 _ (by omega) rfl
  ·simpa using hc 4 _ (by omega) rfl
  ·simpa using hc 5 _ (by omega) rfl
  ·rw [← e]; simpa using hc 6 _ (by omega) rfl

/-- What Copy leaves. -/
def CopyOut (w : World) (ts : List X.It) (l : Nat) (e : Ending) (w' : World) : Prop := (∃ lv tv, e = .returned lv ∧ tv.map (·.1) = ts ∧ w'.ownsRow w.heap.size 44 7 lv l (tv.flatMap itF) ∧ ItC w.heap.size w' tv) ∧ Below w.heap.size w w'
set_option maxRecDepth 100000 in
set_option maxHeartbeats 8000000 in
theorem rcopy_any {w : World} {a : Option Addr} {l c : Nat} {ts : List X.It} (h : ItsV w a l c ts) (hl : l ≤ 1048576) (hi : ∀ x ∈ ts, x.words.length * 8 ≤ 140737488355328) :
  Calls Tryz.prog 11 #[.slice a l c] w (CopyOut w ts l) := by
 obtain ⟨i1, hi1, hz10, hz11, hz12⟩ := info_parts infoN
 obtain ⟨i2, hi2, hz20, hz21, hz22⟩ := info_parts infoIt
 have HV : Hid _ := h
 have HI : Hid _ := hi
 have HC : Hid (ts.length = l) := h.count
 have hm : l ≤ 9223372036854775807 := by omega
 clear h hi
 go_enter Tryz.func11, Tryz.ntmps11
 go_wp2_with fail
 go_loopg [3, 4] l (fun r lv iv wq => ∃ (k : Nat) (tv : List (X.It × Value)), iv = .int .i64 k ∧ k ≤ l ∧ l - k ≤ r ∧ Hid (tv.map (·.1) = ts.take k) ∧ Hid (wq.ownsRow w.heap.size 44 7 lv k (tv.flatMap itF)) ∧ Hid (ItC w.heap.size wq tv) ∧ Hid (Below w.heap.size w wq))
 case atStart => exact ⟨0, [], rfl, Nat.zero_le _, by omega, (by simp : (([] : List (X.It × Value)).map (·.1)) = ts.take 0), World.ownsRow_nil _ _ _ _, (fun p hp => by simp at hp : ItC w.heap.size w []), Below.refl _ _⟩
 case round =>
  obtain ⟨k, tv, rfl, hk, hr, HTV, HO, HIC, HBL⟩ := hrel
  by_cases hlt : k < l
  ·obtain ⟨b, off, t, a1, l1, c1, rfl, hg, hmem, q0, q1, q2, q3, q4, q5, q6, V⟩ := HV.out.at hlt
   have hbw : b < w.heap.size := World.block_lt_of_cell? w ⟨b, off + k * 7, none⟩ q0
   have HVW : Hid _ := V
   have HQ6 : Hid _ := q6
   have q0 := cell_thru HBL.out q0
   have q1 := cell_thru HBL.out q1
   have q2 := cell_thru HBL.out q2
   have q3 := cell_thru HBL.out q3
   have q4 := cell_thru HBL.out q4
   have q5 := cell_thru HBL.out q5
   have q6 := cell_thru HBL.out q6
   have HL1 : Hid _ := HI.out t hmem
   have HTK : Hid (ts.take (k + 1) = ts.take k ++ [t]) := by
    show _ = _
    have hk2 : k < ts.length := by rw [HC.out]; exact hlt
    rw [List.take_add_one, List.getElem?_eq_getElem hk2]
    simp only [List.getD, List.getElem?_eq_getElem hk2, Option.getD_some] at hg
    rw [hg]
    rfl
   have hii : (k : Int) < l := by omega
   have hin : 0 ≤ (k : Int) := by omega
   have hww : w.heap.size ≤ wr.heap.size := HBL.out.size
   clear hg hmem V
   obtain ⟨Y0, hY0⟩ : ∃ Y0, wr.alloc (.cells #[.int .i64 t.kind, .string (X.str t.name), .int .i64 t.op, .int .i64 t.a, .int .i64 t.b, .int .i64 t.n, .slice a1 l1 c1] 44) = Y0 := ⟨_, rfl⟩
   have z6 : Y0.frozen? ⟨wr.heap.size, 6, none⟩ = false := by subst hY0; exact World.frozen?_alloc_at _ _ _ _ (by simp)
   have bY0 : Below wr.heap.size wr Y0 := by subst hY0; exact bl1 _ _
   have f0 : Y0.cell? ⟨wr.heap.size, 0, none⟩ = some (.int .i64 t.kind) := by subst hY0; exact cell_last rfl rfl
   have f1 : Y0.cell? ⟨wr.heap.size, 1, none⟩ = some (.string (X.str t.name)) := by subst hY0; exact cell_last rfl rfl
   have f2 : Y0.cell? ⟨wr.heap.size, 2, none⟩ = some (.int .i64 t.op) := by subst hY0; exact cell_last rfl rfl
   have f3 : Y0.cell? ⟨wr.heap.size, 3, none⟩ = some (.int .i64 t.a) := by subst hY0; exact cell_last rfl rfl
   have f4 : Y0.cell? ⟨wr.heap.size, 4, none⟩ = some (.int .i64 t.b) := by subst hY0; exact cell_last rfl rfl
   have f5 : Y0.cell? ⟨wr.heap.size, 5, none⟩ = some (.int .i64 t.n) := by subst hY0; exact cell_last rfl rfl
   have f6 : Y0.cell? ⟨wr.heap.size, 6, none⟩ = some (.slice a1 l1 c1) := by subst hY0; exact cell_last rfl rfl
   have SY0 : Hid (Y0.heap.size = wr.heap.size + 1) := by show _ = _; subst hY0; simp
   go_wp2_with fail
   obtain ⟨Y1, hY1⟩ : ∃ Y1, Y0.setCell ⟨wr.heap.size, 6, none⟩ (.slice none 0 0) = Y1 := ⟨_, rfl⟩
   rw [hY1]
   have bY : Below wr.heap.size wr Y1 := by subst hY1; exact bY0.setCell (Nat.le_refl _) _
   have SY : Hid (Y1.heap.size = wr.heap.size + 1) := by show _ = _; subst hY1; rw [World.size_setCell]; exact SY0.out
   have g0 : Y1.cell? ⟨wr.heap.size, 0, none⟩ = some (.int .i64 t.kind) := by subst hY1; rw [World.cell?_setCell_other _ _ _ _ (by simp)]; exact f0
   have g1 : Y1.cell? ⟨wr.heap.size, 1, none⟩ = some (.string (X.str t.name)) := by subst hY1; rw [World.cell?_setCell_other _ _ _ _ (by simp)]; exact f1
   have g2 : Y1.cell? ⟨wr.heap.size, 2, none⟩ = some (.int .i64 t.op) := by subst hY1; rw [World.cell?_setCell_other _ _ _ _ (by simp)]; exact f2
   have g3 : Y1.cell? ⟨wr.heap.size, 3, none⟩ = some (.int .i64 t.a) := by subst hY1; rw [World.cell?_setCell_other _ _ _ _ (by simp)]; exact f3
   have g4 : Y1.cell? ⟨wr.heap.size, 4, none⟩ = some (.int .i64 t.b) := by subst hY1; rw [World.cell?_setCell_other _ _ _ _ (by simp)]; exact f4
   have g5 : Y1.cell? ⟨wr.heap.size, 5, none⟩ = some (.int .i64 t.n) := by subst hY1; rw [World.cell?_setCell_other _ _ _ _ (by simp)]; exact f5
   have g6 : Y1.cell? ⟨wr.heap.size, 6, none⟩ = some (.slice none 0 0) := by subst hY1; exact World.cell?_setCell_same' _ _ _ (by rw [f6]; rfl)
   have zY1 : Y1.frozen? ⟨wr.heap.size, 6, none⟩ = false := by subst hY1; rw [World.frozen?_setCell]; exact z6
   have hbwY : Below w.heap.size w Y1 := HBL.out.trans (bY.mono hww)
   have HVD : Hid _ := HVW.out.below hbwY.drew
   have HSR : Hid _ := HVD.out.src
   have hl1 : l1 * 8 ≤ 140737488355328 := by have := HVW.out.count; have := HL1.out; omega
   have qs : Y1.drew.cell? ⟨b, off + k * 7 + 6, none⟩ = some (.slice a1 l1 c1) := cell_thru hbwY.drew HQ6.out
   have nb : wr.heap.size ≠ b := by omega
   clear f0 f1 f2 f3 f4 f5 f6 z6 q0 q1 q2 q3 q4 q5 q6
   refine wp_region_held_drew (S := (fun w' : World => w'.cell? ⟨b, off + k * 7 + 6, none⟩ = some (.slice a1 l1 c1))) (by kernel_rfl) qs (fun hHeld => ?_)
   refine tk (i := 0) (v := ?_) (tA rfl) (by kernel_rfl) (fun _ _ _ h => h) (Or.inl ⟨by rfl, ?_⟩) (by assumption) ?_
   rotate_left
   ·(intro w hSw; (try dsimp only at hSw); go_simp <;> with_reducible rfl)
   simp only [Act.put, List.setIfInBounds_toArray, List.set_cons_zero, List.set_cons_succ]
   refine tk (i := 2) (v := ?_) (tA rfl) (by kernel_rfl) (fun _ _ _ h => h) (Or.inl ⟨by rfl, ?_⟩) (by assumption) ?_
   rotate_left
   ·(intro w hSw; (try dsimp only at hSw); go_simp <;> with_reducible rfl)
   simp only [Act.put, List.setIfInBounds_toArray, List.set_cons_zero, List.set_cons_succ]
   refine tk (i := 3) (v := ?_) (tA rfl) (by kernel_rfl) (fun _ _ _ h => h) (Or.inl ⟨by rfl, ?_⟩) (by assumption) ?_
   rotate_left
   ·(intro w hSw; (try dsimp only at hSw); go_simp <;> with_reducible rfl)
   simp only [Act.put, List.setIfInBounds_toArray, List.set_cons_zero, List.set_cons_succ]
   refine tk (i := 4) (v := ?_) (tA rfl) (by kernel_rfl) (fun _ _ _ h => h) (Or.inl ⟨by rfl, ?_⟩) (by assumption) ?_
   rotate_left
   ·(intro w hSw; (try dsimp only at hSw); go_simp <;> with_reducible rfl)
   simp only [Act.put, List.setIfInBounds_toArray, List.set_cons_zero, List.set_cons_succ]
   refine tk (i := 5) (v := ?_) (tA rfl) (by kernel_rfl) (fun _ _ _ h => h) (Or.inl ⟨by rfl, ?_⟩) (by assumption) ?_
   rotate_left
   ·(intro w hSw; (try dsimp only at hSw); go_simp <;> with_reducible rfl)
   simp only [Act.put, List.setIfInBounds_toArray, List.set_cons_zero, List.set_cons_succ]
   refine tk (i := 6) (v := ?_) (tA rfl) (by kernel_rfl) (fun _ _ _ h => h) (Or.inl ⟨by rfl, ?_⟩) (by assumption) ?_
   rotate_left
   ·(intro w hSw; (try dsimp only at hSw); go_simp <;> with_reducible rfl)
   simp only [Act.put, List.setIfInBounds_toArray, List.set_cons_zero, List.set_cons_succ]
   refine wpAnyH_ready (rs := [1]) (by kernel_rfl) (by simp) ?_
   refine AllReadyH.cons (tA rfl) (fun K hK => ?_) AllReadyH.nil
   go_simp
   refine hK.out _ _ hHeld (fun hHeld => ?_)
   clear hK K
   try simp only [Act.put, List.setIfInBounds_toArray, List.set_cons_zero, List.set_cons_succ]
   refine wpAnyH_ready (rs := [7]) (by kernel_rfl) (by simp) ?_
   refine AllReadyH.cons (tA rfl) (fun K hK => ?_) AllReadyH.nil
   refine step_append_copy (by rfl) _ _ 26 (by rfl) 2 i1 _ 1 8 Tryz.underlying26 hi1 hz10 hz11 hz12 rfl (by decide) (a := a1) (l := l1) (c := c1) (cs := iC t.words) (by rfl) (by rfl) HSR.out.1 HSR.out.2.1 HSR.out.2.2.1 HSR.out.2.2.2 (by omega) (by omega) ?_
   intro e1 f1 Y2 hoY2 hbY2
   have HY2 : Hid _ := hoY2
   have HB2 : Hid (Below Y1.heap.size Y1 Y2) := ⟨hbY2.os, hbY2.tape, hbY2.output, hbY2.size, hbY2.block⟩
   have gY2 := cell_thru HB2.out g6
   have zY2 : Y2.frozen? ⟨wr.heap.size, 6, none⟩ = false := (HB2.out.frozen (p := ⟨wr.heap.size, 6, none⟩) (by show wr.heap.size < Y1.heap.size; rw [SY.out]; exact Nat.lt_succ_self _)).trans zY1
   have tY2 : Y2.cell? ⟨b, off + k * 7 + 6, none⟩ = some (.slice a1 l1 c1) := cell_thru hbY2 qs
   refine hK.out _ _ tY2 (fun hHeld => ?_)
   clear hK K
   try simp only [Act.put, List.setIfInBounds_toArray, List.set_cons_zero, List.set_cons_succ]
   refine tk (i := 8) (v := ?_) (tA rfl) (by kernel_rfl) (fun _ _ _ h => h) (Or.inl ⟨by rfl, ?_⟩) (by assumption) ?_
   rotate_left
   ·(intro w hSw; (try dsimp only at hSw); go_simp <;> with_reducible rfl)
   simp only [Act.put, List.setIfInBounds_toArray, List.set_cons_zero, List.set_cons_succ]
   refine wpAnyH_ready (rs := [9]) (by kernel_rfl) (by simp) ?_
   refine AllReadyH.cons (tA rfl) (fun K hK => ?_) AllReadyH.nil
   go_simp
   refine hK.out _ _ ((World.cell?_setCell_far Y2 ⟨wr.heap.size, 6, none⟩ ⟨b, off + k * 7 + 6, none⟩ _ nb).trans tY2) (fun hHeld => ?_)
   clear hK K
   try simp only [Act.put, List.setIfInBounds_toArray, List.set_cons_zero, List.set_cons_succ]
   refine wpAnyH_done (by kernel_rfl) ?_ _
   clear hHeld
   obtain ⟨Y3, hY3⟩ : ∃ Y3, Y2.setCell ⟨wr.heap.size, 6, none⟩ (.slice e1 l1 f1) = Y3 := ⟨_, rfl⟩
   have p0 : Y3.cell? ⟨wr.heap.size, 0, none⟩ = some (.int .i64 t.kind) := by subst hY3; rw [World.cell?_setCell_other _ _ _ _ (by simp)]; exact cell_thru HB2.out g0
   have p1 : Y3.cell? ⟨wr.heap.size, 1, none⟩ = some (.string (X.str t.name)) := by subst hY3; rw [World.cell?_setCell_other _ _ _ _ (by simp)]; exact cell_thru HB2.out g1
   have p2 : Y3.cell? ⟨wr.heap.size, 2, none⟩ = some (.int .i64 t.op) := by subst hY3; rw [World.cell?_setCell_other _ _ _ _ (by simp)]; exact cell_thru HB2.out g2
   have p3 : Y3.cell? ⟨wr.heap.size, 3, none⟩ = some (.int .i64 t.a) := by subst hY3; rw [World.cell?_setCell_other _ _ _ _ (by simp)]; exact cell_thru HB2.out g3
   have p4 : Y3.cell? ⟨wr.heap.size, 4, none⟩ = some (.int .i64 t.b) := by subst hY3; rw [World.cell?_setCell_other _ _ _ _ (by simp)]; exact cell_thru HB2.out g4
   have p5 : Y3.cell? ⟨wr.heap.size, 5, none⟩ = some (.int .i64 t.n) := by subst hY3; rw [World.cell?_setCell_other _ _ _ _ (by simp)]; exact cell_thru HB2.out g5
   have p6 : Y3.cell? ⟨wr.heap.size, 6, none⟩ = some (.slice e1 l1 f1) := by subst hY3; exact World.cell?_setCell_same' _ _ _ (by rw [gY2]; rfl)
   have B3 : Hid (Below wr.heap.size wr Y3) := by
    show Below _ _ _
    subst hY3
    exact (bY.trans (HB2.out.mono (by rw [SY.out]; omega))).setCell (Nat.le_refl _) _
   have O3 : Hid (Y3.ownsRow (wr.heap.size + 1) 2 1 (.slice e1 l1 f1) l1 (iC t.words)) := by
    show World.ownsRow _ _ _ _ _ _ _
    have h1 : Y2.ownsRow (wr.heap.size + 1) 2 1 (.slice e1 l1 f1) l1 (iC t.words) := own_mono HY2.out (by simp only [World.size_drew]; rw [SY.out]; exact Nat.le_refl _)
    subst hY3
    exact h1.kept (gb_set _ _ _) (.inr fun e => by have := (h1.lt _ e).1; simp at this; omega)
   obtain ⟨Z, hZ⟩ : ∃ Z, Y3.alloc (.cells #[.int .i64 t.kind, .string (X.str t.name), .int .i64 t.op, .int .i64 t.a, .int .i64 t.b, .int .i64 t.n, .slice e1 l1 f1] 44) = Z := ⟨_, rfl⟩
   have bZ : Below Y3.heap.size Y3 Z := by subst hZ; exact bl1 _ _
   have hz3 : wr.heap.size + 1 ≤ Y3.heap.size := by subst hY3; rw [World.size_setCell]; have := HB2.out.size; rw [SY.out] at this; exact this
   have BZ : Hid (Below wr.heap.size wr Z) := B3.out.trans (bZ.mono (by omega))
   have NZ : Hid (Z.ownsRow w.heap.size 44 7 u3 k (tv.flatMap itF)) := own_thru HO.out BZ.out
   have IZ : Hid (ItC w.heap.size Z tv) := HIC.out.below BZ.out
   have OZ : Hid (Z.ownsRow w.heap.size 2 1 (.slice e1 l1 f1) l1 (iC t.words)) := own_mono (own_thru O3.out bZ) (by omega)
   have HWZ : Hid (w.heap.size ≤ Z.heap.size) := by show _ ≤ _; have := BZ.out.size; omega
   have HNC : Hid (∀ j u, (itC t (.slice e1 l1 f1))[j]? = some u → Z.cell? ((⟨Y3.heap.size, 0, none⟩ : Addr).add j) = some u) := by
    intro j u hu
    subst hZ
    rw [Addr.add_lit, Nat.zero_add]
    exact cell_last rfl (by simpa [itC] using hu)
   clear bZ g0 g1 g2 g3 g4 g5 g6 gY2 zY2 tY2 hoY2 hbY2 qs nb zY1
   rw [hY3]
   go_wp2_with (first | (at_builtin; refine wpList_append_lies _ rfl _ _ 22 rfl w.heap.size 44 i2 _ 7 80 Tryz.underlying22 hi2 hz20 hz21 hz22 rfl (by decide) u3 k (tv.flatMap itF) rfl NZ.out ⟨Y3.heap.size, 0, none⟩ 1 1 (itC t (.slice e1 l1 f1)) rfl rfl HNC.out oneIt (by decide) (by unfold maxLen; omega) (by omega) HWZ.out Z.heap.size rfl ?_; intro ga ca w1 ho1 hg1 hat1 hlt1; have HO1 : Hid _ := ho1; have HG1 : Hid _ := hg1; clear ho1 hg1 hat1) | fail)
   have hty : ∀ b o, u3.ownBlock = some b → Z.heap[b]? = some o → ∀ cs fr, o ≠ .cells cs 2 fr := fun b o hb ho cs fr e => by
    obtain ⟨-, cur, e2⟩ := own_cells NZ.out b o hb ho
    rw [e2] at e
    injection e with e3 e4
    exact absurd e4 (by decide)
   have HTY : Hid _ := hty
   have CX : Hid (w1.ownsRow w.heap.size 44 7 (.slice (some ⟨ga, 0, none⟩) (k + 1) ca) (k + 1) ((tv ++ [((t, Value.slice e1 l1 f1) : X.It × Value)]).flatMap itF)) := by
    show World.ownsRow _ _ _ _ _ _ _
    rw [List.flatMap_append]
    simp only [List.flatMap_cons, List.flatMap_nil, List.append_nil]
    exact HO1.out
   have IX : Hid (ItC w.heap.size w1 (tv ++ [((t, Value.slice e1 l1 f1) : X.It × Value)])) := by
    show ItC _ _ _
    have h2 : ItC w.heap.size Z (tv ++ [((t, Value.slice e1 l1 f1) : X.It × Value)]) := fun p hp => by
     rcases List.mem_append.1 hp with hp | hp
     ·exact IZ.out p hp
     ·simp at hp
      subst hp
      exact ⟨_, _, _, rfl, OZ.out⟩
    exact h2.kept HG1.out HTY.out
   have B4 : Hid (Below w.heap.size w w1) := by
    have hb := HBL.out.trans (BZ.out.mono HBL.out.size)
    exact below_own hb NZ.out HG1.out HWZ.out
   have HT2 : Hid ((tv ++ [((t, Value.slice e1 l1 f1) : X.It × Value)]).map (·.1) = ts.take (k + 1)) := by
    show _ = _
    rw [List.map_append, HTV.out, HTK.out]
    rfl
   clear hty
   go_roundg (l - (k + 1))
   case measure => omega
   case rel => exact ⟨k + 1, _, by first | rfl | (congr 1; omega), by omega, Nat.le_refl _, HT2.out, CX.out, IX.out, B4.out⟩
  ·obtain rfl : k = l := by omega
   have hii : ¬ (k : Int) < k := by omega
   go_wp2_with fail
   go_ret
   exact ⟨⟨_, tv, rfl, HTV.out.trans (List.take_of_length_le (by rw [HC.out]; exact Nat.le_refl _)), HO.out, HIC.out⟩, HBL.out⟩
end Go.Proofs.YtgjingleolhkbaaGreatDoor

/- What the document's Same comes to. -/
namespace Go.Proofs.YtgjingleolhkbaaGreatDoor
open Go.RowKit Go.Maps Go.Lib
set_option linter.unusedVariables false
set_option linter.unusedSimpArgs false

theorem bl_drewW {B : Nat} {x y : World} (h : Below B x y) (m : Nat) : Below B x (y.drewN m) := ⟨h.os, h.tape, h.output, h.size, h.block⟩
theorem list_ext_getD {α : Type} {xs ys : List α} (d : α) (hl : xs.length = ys.length) (h : ∀ i, i < xs.length → xs.getD i d = ys.getD i d) : xs = ys := by
 refine List.ext_getElem hl fun i h1 h2 => ?_
 have := h i h1
 simpa [List.getD, h1, h2] using this
theorem bool_of (P : Prop) : ∃ b : Bool, (b = true ↔ P) := by
 by_cases h : P
 ·exact ⟨true, by simp [h]⟩
 ·exact ⟨false, by simp [h]⟩
theorem bool_no {b : Bool} {P : Prop} (h : b = true ↔ P) (hn : ¬ P) : b = false := by
 cases b with
 | false => rfl
 | true => exact absurd (h.1 rfl) hn
set_option maxRecDepth 100000 in
theorem eqInsT (op a b n op' a' b' n' : Int) (w : World) : (Op.equalIn 10000 42 (.agg #[.int .i64 op, .int .i64 a, .int .i64 b, .int .i64 n]) (.agg #[.int .i64 op', .int .i64 a', .int .i64 b', .int .i64 n'])).run Tryz.prog w = .ok (decide (op = op' ∧ a = a' ∧ b = b' ∧ n = n')) w := by
 have e : decide (op = op' ∧ a = a' ∧ b = b' ∧ n = n') = ((op == op') && ((a == a') && ((b == b') && (n == n')))) := by
  rw [Bool.eq_iff_iff]; simp
 rw [e]
 cases h1 : (op == op')
 ·go_simp
 cases h2 : (a == a')
 ·go_simp
 cases h3 : (b == b')
 ·go_simp
 cases h4 : (n == n')
 ·go_simp
 ·go_simp

set_option maxRecDepth 100000 in
set_option maxHeartbeats 8000000 in
theorem same_any {w : World} {a1 a2 : Option Addr} {l1 c1 l2 c2 : Nat} {xs ys : List X.It} (h1 : ItsV w a1 l1 c1 xs) (h2 : ItsV w a2 l2 c2 ys) (bb : Bool) (hbb : bb = true ↔ xs = ys) :
  Calls Tryz.prog 15 #[.slice a1 l1 c1, .slice a2 l2 c2] w fun e w' => e = .returned (.bool bb) ∧ Below w.heap.size w w' := by
 have HBB : Hid _ := hbb
 have H1 : Hid _ := h1
 have H2 : Hid _ := h2
 have hm' : l1 ≤ 9223372036854775807 := by have := h1.room; unfold maxLen at this; omega
 clear h1 h2 hbb
 by_cases hl : l1 = l2
 rotate_left
 ·have HNO : Hid (¬ xs = ys) := fun e => hl (by rw [← H1.out.count, ← H2.out.count, e])
  have hd : ((l1 : Int) != (l2 : Int)) = true := by simp; omega
  go_enter Tryz.func15, Tryz.ntmps15
  go_wp2
  go_ret
  exact ⟨by rw [bool_no HBB.out HNO.out]; rfl, Below.refl _ _⟩
 subst hl
 have hd : ((l1 : Int) != (l1 : Int)) = false := by simp
 go_enter Tryz.func15, Tryz.ntmps15
 go_wp2_with fail
 go_loopg [5] l1 (fun r iv wq => ∃ (k : Nat), iv = .int .i64 k ∧ k ≤ l1 ∧ l1 - k ≤ r ∧ Hid (∀ j, j < k → xs.getD j X.noIt = ys.getD j X.noIt) ∧ Hid (Below w.heap.size w wq))
 case atStart => exact ⟨0, rfl, Nat.zero_le _, by omega, (fun j hj => by omega : ∀ j, j < 0 → xs.getD j X.noIt = ys.getD j X.noIt), Below.refl _ _⟩
 case round =>
  obtain ⟨k, rfl, hk, hr, HAL, HBL⟩ := hrel
  by_cases hlt : k < l1
  ·rcases H1.out.cells with h0 | ⟨b, off, hA, hc⟩
   ·omega
   rcases H2.out.cells with h0 | ⟨b', off', hA', hc'⟩
   ·omega
   obtain ⟨p1, m1, d1, q0, q1, q2, q3, q4, q5, q6, V⟩ := hc k hlt
   obtain ⟨p2, m2, d2, r0, r1, r2, r3, r4, r5, r6, V'⟩ := hc' k hlt
   have HC : Hid _ := And.intro q6 r6
   have q0 := cell_thru HBL.out q0
   have q1 := cell_thru HBL.out q1
   have q2 := cell_thru HBL.out q2
   have q3 := cell_thru HBL.out q3
   have q4 := cell_thru HBL.out q4
   have q5 := cell_thru HBL.out q5
   have q6 := cell_thru HBL.out q6
   have r0 := cell_thru HBL.out r0
   have r1 := cell_thru HBL.out r1
   have r2 := cell_thru HBL.out r2
   have r3 := cell_thru HBL.out r3
   have r4 := cell_thru HBL.out r4
   have r5 := cell_thru HBL.out r5
   have r6 := cell_thru HBL.out r6
   have HNE : Hid (∀ {x y : X.It}, xs.getD k X.noIt = x → ys.getD k X.noIt = y → x ≠ y → ¬ xs = ys) := fun hx hy hne e => hne (by rw [← hx, ← hy, e])
   have HEQ : Hid (∀ {x y : X.It}, xs.getD k X.noIt = x → ys.getD k X.noIt = y → x = y → ∀ j, j < k + 1 → xs.getD j X.noIt = ys.getD j X.noIt) := fun hx hy he j hj => by
    by_cases hjk : j = k
    ·rw [hjk, hx, hy, he]
    ·exact HAL.out j (by omega)
   obtain ⟨⟨xk, xn, xo, xa, xb, xm, xi⟩, hx⟩ : ∃ x, xs.getD k X.noIt = x := ⟨_, rfl⟩
   obtain ⟨⟨yk, yn, yo, ya, yb, ym, yi⟩, hy⟩ : ∃ y, ys.getD k X.noIt = y := ⟨_, rfl⟩
   rw [hx] at q0 q1 q2 q3 q4 q5 V
   rw [hy] at r0 r1 r2 r3 r4 r5 V'
   simp only at q0 q1 q2 q3 q4 q5 V r0 r1 r2 r3 r4 r5 V'
   have HX : Hid _ := hx
   have HY : Hid _ := hy
   have HVX : Hid _ := V
   have HVY : Hid _ := V'
   have HCT : Hid (xi.length = m1 ∧ yi.length = m2) := ⟨V.count, V'.count⟩
   have hrm := V.room
   have hmax : maxLen = 9223372036854775807 := rfl
   subst hA
   subst hA'
   have hii : (k : Int) < l1 := by omega
   have hin : 0 ≤ (k : Int) := by omega
   clear hc hc' hx hy V V'
   by_cases ek : xk = yk
   rotate_left
   ·have HNO : Hid (¬ xs = ys) := HNE.out HX.out HY.out (fun e => ek (by injection e))
    have hde : (xk != yk) = true := by simpa using ek
    clear ek
    go_wp2_with fail
    go_quiet (fail)
    go_wp2
    go_ret
    exact ⟨by rw [bool_no HBB.out HNO.out]; rfl, bl_drewW HBL.out _⟩
   subst ek
   have hdk : (xk != xk) = false := by simp
   by_cases en : xn = yn
   rotate_left
   ·have HNO : Hid (¬ xs = ys) := HNE.out HX.out HY.out (fun e => en (by injection e))
    have hde := toList_ne' (a := X.str xn) (b := X.str yn) (by rw [str_list, str_list]; exact en)
    clear en
    go_wp2_with fail
    go_quiet (fail)
    go_wp2
    go_ret
    exact ⟨by rw [bool_no HBB.out HNO.out]; rfl, bl_drewW HBL.out _⟩
   subst en
   have hEq := eqInsT xo xa xb xm yo ya yb ym
   by_cases ei : xo = yo ∧ xa = ya ∧ xb = yb ∧ xm = ym
   rotate_left
   ·have HNO : Hid (¬ xs = ys) := HNE.out HX.out HY.out (fun e => ei (by injection e with _ _ e1 e2 e3 e4 _; exact ⟨e1, e2, e3, e4⟩))
    rw [decide_eq_false ei] at hEq
    clear ei
    go_wp2_with fail
    go_quiet (fail)
    go_wp2
    go_ret
    exact ⟨by rw [bool_no HBB.out HNO.out]; rfl, bl_drewW HBL.out _⟩
   obtain ⟨e1, e2, e3, e4⟩ := ei
   subst e1 e2 e3 e4
   rw [decide_eq_true ⟨rfl, rfl, rfl, rfl⟩] at hEq
   by_cases el : m1 = m2
   rotate_left
   ·have HNO : Hid (¬ xs = ys) := HNE.out HX.out HY.out (fun e => el (by injection e with _ _ _ _ _ _ e; rw [← HCT.out.1, ← HCT.out.2, e]))
    have hde : ((m1 : Int) != (m2 : Int)) = true := by simp; omega
    clear el
    go_wp2_with fail
    go_quiet (fail)
    go_wp2
    go_ret
    exact ⟨by rw [bool_no HBB.out HNO.out]; rfl, bl_drewW HBL.out _⟩
   subst el
   have hdm : ((m1 : Int) != (m1 : Int)) = false := by simp
   have HBL2 : Hid _ := HBL.out
   clear HBL
   generalize wr = wo at *
   go_wp2_with fail
   go_quiet (fail)
   go_wp2_with fail
   clear q0 q1 q2 q3 q4 q5 q6 r0 r1 r2 r3 r4 r5 r6 hEq
   go_loopg [6] m1 (fun r jv wq => ∃ (m : Nat), jv = .int .i64 m ∧ m ≤ m1 ∧ m1 - m ≤ r ∧ Hid (∀ j, j < m → xi.getD j 0 = yi.getD j 0) ∧ Hid (Below w.heap.size w wq))
   case atStart => exact ⟨0, rfl, Nat.zero_le _, by omega, (fun j hj => by omega : ∀ j, j < 0 → xi.getD j 0 = yi.getD j 0), bl_drewW HBL2.out _⟩
   case round =>
    obtain ⟨m, rfl, hm, hr2, HAI, HBI⟩ := hrel
    have q6 := cell_thru HBI.out HC.out.1
    have r6 := cell_thru HBI.out HC.out.2
    by_cases hlt2 : m < m1
    ·rcases HVX.out.cells with h0 | ⟨f, of, hF, hfc⟩
     ·omega
     rcases HVY.out.cells with h0 | ⟨f', of', hF', hfc'⟩
     ·omega
     have t0 := cell_thru HBI.out (hfc m hlt2)
     have t1 := cell_thru HBI.out (hfc' m hlt2)
     have HNI : Hid (xi.getD m 0 ≠ yi.getD m 0 → ¬ xs = ys) := fun hne => HNE.out HX.out HY.out (fun e => hne (by injection e with _ _ _ _ _ _ e; rw [e]))
     have HEI : Hid (xi.getD m 0 = yi.getD m 0 → ∀ j, j < m + 1 → xi.getD j 0 = yi.getD j 0) := fun he j hj => by
      by_cases hjk : j = m
      ·rw [hjk]; exact he
      ·exact HAI.out j (by omega)
     generalize xi.getD m 0 = z1 at t0 HNI HEI
     generalize yi.getD m 0 = z2 at t1 HNI HEI
     subst hF
     subst hF'
     have hmi : (m : Int) < m1 := by omega
     have hmn : 0 ≤ (m : Int) := by omega
     clear hfc hfc'
     by_cases he : z1 = z2
     ·have HNX : Hid _ := HEI.out he
      have hde : (z1 != z2) = false := by simp [he]
      clear he HNI HEI
      go_wp2_with fail
      go_quiet (fail)
      go_wp2_with fail
      go_roundg (m1 - (m + 1))
      case measure => omega
      case rel => exact ⟨m + 1, by first | rfl | (congr 1; omega), by omega, Nat.le_refl _, HNX.out, bl_drewW HBI.out _⟩
     ·have HNO : Hid _ := HNI.out he
      have hde : (z1 != z2) = true := by simpa using he
      clear he HNI HEI
      go_wp2_with fail
      go_quiet (fail)
      go_wp2
      go_ret
      exact ⟨by rw [bool_no HBB.out HNO.out]; rfl, bl_drewW HBI.out _⟩
    ·obtain rfl : m = m1 := by omega
     have HIE : Hid (xi = yi) := list_ext_getD 0 (by rw [HCT.out.1, HCT.out.2]) (fun i hi => HAI.out i (by rw [← HCT.out.1]; exact hi))
     have HNX : Hid _ := HEQ.out HX.out HY.out (by rw [HIE.out])
     go_wp2_with fail
     go_roundg (l1 - (k + 1))
     case measure => omega
     case rel => exact ⟨k + 1, by first | rfl | (congr 1; omega), by omega, Nat.le_refl _, HNX.out, HBI.out⟩
  ·obtain rfl : k = l1 := by omega
   have HYES : Hid (xs = ys) := list_ext_getD X.noIt (by rw [H1.out.count, H2.out.count]) (fun i hi => HAL.out i (by rw [← H1.out.count]; exact hi))
   go_wp2_with fail
   go_ret
   exact ⟨by rw [HBB.out.2 HYES.out]; rfl, HBL.out⟩
end Go.Proofs.YtgjingleolhkbaaGreatDoor

/- AsmMakes walked. (Written by gen_mk.py.) -/
namespace Go.Proofs.YtgjingleolhkbaaGreatDoor
open Go.RowKit Go.Maps Go.Lib
set_option linter.unusedVariables false
set_option linter.unusedSimpArgs false

set_option maxRecDepth 100000 in
set_option maxHeartbeats 16000000 in
theorem mkW_any {w : World} {a : Option Addr} {l c : Nat} {ts : List X.It} (h : ItsV w a l c ts) (hit : ∀ x ∈ ts, x.words.length * 8 ≤ 140737488355328) (ht : Tab w) (hJ : J.Tab w) :
  Calls Tryz.prog 3 #[.slice a l c] w fun e w' => e = .returned (.bool true) ∧ Below w.heap.size w w' := by
 have HV : Hid _ := h
 have HT : Hid _ := ht
 have HJ : Hid (J.Tab w) := hJ
 have HCT : Hid (ts.length = l) := h.count
 have hsm := small_any a l c w
 have HIT : Hid (∀ x ∈ ts, x.words.length * 8 ≤ 140737488355328) := hit
 clear h ht hJ hit
 by_cases hl : l ≤ 400
 rotate_left
 ·rw [decide_eq_false hl] at hsm
  go_enter Tryz.func3, Tryz.ntmps3
  go_wp2_with fail
  refine hsm.mono ?_
  rintro e y ⟨rfl, hy⟩
  rw [hy]
  clear hy
  go_wp2_with fail
  refine (live_any _ HT.out HJ.out).mono ?_
  rintro e y2 ⟨rfl, hb⟩
  have HB : Hid _ := hb
  clear hb
  go_wp2_with fail
  go_ret
  exact ⟨rfl, HB.out⟩
 rw [decide_eq_true hl] at hsm
 go_enter Tryz.func3, Tryz.ntmps3
 go_wp2_with fail
 refine hsm.mono ?_
 rintro e y ⟨rfl, hy⟩
 rw [hy]
 clear hy hsm
 go_wp2_with fail
 refine (rcopy_any HV.out (by omega) HIT.out).mono ?_
 rintro e yc ⟨⟨lv, tv, rfl, htv, hrow, hitc⟩, hbc⟩
 obtain ⟨ao, co, rfl⟩ := own_slice hrow
 have hlen : tv.length = l := by rw [← HCT.out, ← htv, List.length_map]
 have HI3 : Hid (ItsV yc ao l co ts) := by
  rw [← hlen] at hrow ⊢
  have := its_of_ownC hrow hitc (fun t ht => by rw [htv] at ht; exact HV.out.fit t ht)
  rw [htv] at this
  exact this
 have HY3 : Hid (Below w.heap.size w yc) := hbc
 clear hrow hitc hbc htv hlen
 have HF : Hid (OFit (Z.asm ts).1) := (Z.asm_may (fun t hm => (HV.out.fit t hm).2)).1
 have hasm1 := asm_any HI3.out (HT.out.below HY3.out) (J.Tab.below HJ.out HY3.out)
 have HAS2 : Hid (∀ W, Below w.heap.size w W → Calls Tryz.prog 13 #[.slice a l c] W (AsmOut W (Z.asm ts))) := fun W hb => rasm_any (HV.out.below hb)
 obtain ⟨⟨o, zz⟩, hr⟩ : ∃ r, Z.asm ts = r := ⟨_, rfl⟩
 rw [hr] at hasm1 HF HAS2
 simp only at HF
 clear hr
 go_wp2_with fail
 refine hasm1.mono ?_
 rintro e w1 ⟨vd, vs, vr, rfl, o1, o2, o3, hb1⟩
 simp only at o1 o2 o3 ⊢
 have HOV : Hid (O.ObjV w1 (.agg #[.string o.code, vd, vs, vr]) o) := objV_of HF.out o1 o2 o3
 have HN1 : Hid (o.data.length ≤ maxLen ∧ o.syms.length ≤ maxLen ∧ o.rels.length ≤ maxLen) := by
  have q : ∀ {ty k n B : Nat} {v : Value} {cs : List Value}, w1.ownsRow B ty k v n cs → n ≤ maxLen := fun h => by
   rcases h.2 with ⟨-, e⟩ | ⟨g, cap, cur, -, -, -, h1, h2, -⟩
   ·omega
   ·omega
  exact ⟨q o1, q o2, q o3⟩
 obtain ⟨ad5, cd5, rfl⟩ := own_slice o1
 obtain ⟨as5, cs5, rfl⟩ := own_slice o2
 obtain ⟨ar5, cr5, rfl⟩ := own_slice o3
 obtain ⟨Y5, hY5⟩ : ∃ Y5, w1.alloc (.cells #[.string o.code, .slice ad5 o.data.length cd5, .slice as5 o.syms.length cs5, .slice ar5 o.rels.length cr5] 30) = Y5 := ⟨_, rfl⟩
 have bY5 : Below w1.heap.size w1 Y5 := by subst hY5; exact bl1 _ _
 have m50 : Y5.cell? ⟨w1.heap.size, 0, none⟩ = some (.string o.code) := by subst hY5; exact cellA rfl rfl
 have m51 : Y5.cell? ⟨w1.heap.size, 1, none⟩ = some (.slice ad5 o.data.length cd5) := by subst hY5; exact cellA rfl rfl
 have m52 : Y5.cell? ⟨w1.heap.size, 2, none⟩ = some (.slice as5 o.syms.length cs5) := by subst hY5; exact cellA rfl rfl
 have m53 : Y5.cell? ⟨w1.heap.size, 3, none⟩ = some (.slice ar5 o.rels.length cr5) := by subst hY5; exact cellA rfl rfl
 have HB5 : Hid (Below yc.heap.size yc Y5) := hb1.trans (bY5.mono hb1.size)
 have HO5 : Hid _ := HOV.out.below bY5
 have HBA : Hid (yc.heap.size ≤ w1.heap.size ∧ w1.heap.size < Y5.heap.size) := ⟨hb1.size, by subst hY5; simp⟩
 have HROW : Hid (Y5.ownsRow yc.heap.size 2 1 (.slice ad5 o.data.length cd5) o.data.length (o.data.flatMap O.intC)) := own_thru o1 bY5
 have HNB : Hid (∀ g, (Value.slice ad5 o.data.length cd5).ownBlock = some g → g ≠ w1.heap.size) := fun g e => by have := (o1.lt g e).2; omega
 have hasm2 := HAS2.out Y5 (HY3.out.trans (HB5.out.mono HY3.out.size))
 clear o1 o2 o3 hb1 hasm1 bY5 HOV
 generalize hld : o.data.length = ld at m50 m51 m52 m53 hY5 HO5 HN1 HROW HNB ⊢
 generalize hls : o.syms.length = ls at m50 m51 m52 m53 hY5 HO5 HN1 ⊢
 generalize hlr : o.rels.length = lr at m50 m51 m52 m53 hY5 HO5 HN1 ⊢
 generalize hoc : o.code = oc at m50 m51 m52 m53 hY5 HO5 HN1 ⊢
 have HLD : Hid (o.data.length = ld ∧ o.syms.length = ls ∧ o.rels.length = lr ∧ o.code = oc) := ⟨hld, hls, hlr, hoc⟩
 clear hld hls hlr hoc
 go_wp2_with fail
 refine hasm2.mono ?_
 rintro e w2 ⟨vd, vs, vr, rfl, o1, o2, o3, hb2⟩
 simp only at o1 o2 o3 ⊢
 have HOV6 : Hid (O.ObjV w2 (.agg #[.string o.code, vd, vs, vr]) o) := objV_of HF.out o1 o2 o3
 rw [HLD.out.1] at o1
 rw [HLD.out.2.1] at o2
 rw [HLD.out.2.2.1] at o3
 rw [HLD.out.2.2.2] at HOV6
 simp only [HLD.out.2.2.2]
 obtain ⟨ad6, cd6, rfl⟩ := own_slice o1
 obtain ⟨as6, cs6, rfl⟩ := own_slice o2
 obtain ⟨ar6, cr6, rfl⟩ := own_slice o3
 obtain ⟨Y6, hY6⟩ : ∃ Y6, w2.alloc (.cells #[.string oc, .slice ad6 ld cd6, .slice as6 ls cs6, .slice ar6 lr cr6] 30) = Y6 := ⟨_, rfl⟩
 have bY6 : Below w2.heap.size w2 Y6 := by subst hY6; exact bl1 _ _
 have m60 : Y6.cell? ⟨w2.heap.size, 0, none⟩ = some (.string oc) := by subst hY6; exact cellA rfl rfl
 have m61 : Y6.cell? ⟨w2.heap.size, 1, none⟩ = some (.slice ad6 ld cd6) := by subst hY6; exact cellA rfl rfl
 have m62 : Y6.cell? ⟨w2.heap.size, 2, none⟩ = some (.slice as6 ls cs6) := by subst hY6; exact cellA rfl rfl
 have m63 : Y6.cell? ⟨w2.heap.size, 3, none⟩ = some (.slice ar6 lr cr6) := by subst hY6; exact cellA rfl rfl
 have hb6 : Below Y5.heap.size Y5 Y6 := hb2.trans (bY6.mono hb2.size)
 have n50 := O.cell_thru hb6 m50
 have n51 := O.cell_thru hb6 m51
 have n52 := O.cell_thru hb6 m52
 have n53 := O.cell_thru hb6 m53
 have HOA : Hid _ := HO5.out.below hb6
 have HOB : Hid _ := HOV6.out.below bY6
 have hs6 := O.same_any HOA.out HOB.out (by rw [HLD.out.1]; exact HN1.out.1) (by rw [HLD.out.2.1]; exact HN1.out.2.1) (by rw [HLD.out.2.2.1]; exact HN1.out.2.2) true (by simp)
 have HB6 : Hid (Below yc.heap.size yc Y6) := HB5.out.trans (hb6.mono HB5.out.size)
 have HROW6 : Hid (Y6.ownsRow yc.heap.size 2 1 (.slice ad5 ld cd5) ld (o.data.flatMap O.intC)) := own_thru HROW.out hb6
 have HBX6 : Hid (Y6.cell? ⟨w1.heap.size, 1, none⟩ = some (.slice ad5 ld cd5)) := n51
 clear o1 o2 o3 hb2 bY6 hb6 hasm2 HOV6 HOA HOB HO5 m50 m51 m52 m53
 go_wp2_with fail
 refine hs6.mono ?_
 rintro e w3 ⟨rfl, hb3⟩
 have HB7 : Hid (Below yc.heap.size yc w3) := HB6.out.trans (hb3.mono HB6.out.size)
 have HROW7 : Hid (w3.ownsRow yc.heap.size 2 1 (.slice ad5 ld cd5) ld (o.data.flatMap O.intC)) := own_thru HROW6.out hb3
 have HBX7 : Hid (w3.cell? ⟨w1.heap.size, 1, none⟩ = some (.slice ad5 ld cd5)) := O.cell_thru hb3 HBX6.out
 have hldm : ld ≤ 9223372036854775807 := by have := HN1.out.1; unfold maxLen at this; omega
 generalize hba : w1.heap.size = ba at HBX7 HNB HBA ⊢
 clear hb3 hs6 hY5 hY6 n50 n51 n52 n53 m60 m61 m62 m63 hba
 go_wp2_with fail
 go_loopg [8] ld (fun r iv wq => ∃ (k : Nat), r = ld - k ∧ iv = .int .i64 k ∧ k ≤ ld ∧ Hid (Below yc.heap.size yc wq) ∧ Hid (∃ cs, wq.ownsRow yc.heap.size 2 1 (.slice ad5 ld cd5) ld cs) ∧ Hid (wq.cell? ⟨ba, 1, none⟩ = some (.slice ad5 ld cd5)))
 case atStart => exact ⟨0, rfl, rfl, Nat.zero_le _, HB7, ⟨_, HROW7.out⟩, HBX7⟩
 case round =>
  obtain ⟨k, rfl, rfl, hk, HB, HRW, HBX⟩ := hrel
  have cbx := HBX.out
  by_cases hlk : k < ld
  ·have hki : (k : Int) < ld := by omega
   have hk0 : 0 ≤ (k : Int) := by omega
   obtain ⟨cs, hrow⟩ := HRW.out
   obtain ⟨g, rfl, hg, -, -, hfz⟩ := row_some hrow (by omega : 0 < ld)
   have hf := hfz k
   obtain ⟨u, hu⟩ : ∃ u, wr.cell? ⟨g, k, none⟩ = some u := by
    rw [hrow.cellAt k (by omega)]
    have : k < cs.length := by have := hrow.1; omega
    exact ⟨_, List.getElem?_eq_getElem this⟩
   have hgb : g ≠ ba := HNB.out g rfl
   have HB8 : Hid (Below yc.heap.size yc (wr.setCell ⟨g, k, none⟩ (.int .i64 (-7)))) := HB.out.setCell hg _
   have HR8 : Hid (∃ cs, (wr.setCell ⟨g, k, none⟩ (.int .i64 (-7))).ownsRow yc.heap.size 2 1 (.slice (some ⟨g, 0, none⟩) ld cd5) ld cs) := ⟨_, (hrow.stored k _).1⟩
   have HX8 : Hid ((wr.setCell ⟨g, k, none⟩ (.int .i64 (-7))).cell? ⟨ba, 1, none⟩ = some (.slice (some ⟨g, 0, none⟩) ld cd5)) := (World.cell?_setCell_far _ ⟨g, k, none⟩ ⟨ba, 1, none⟩ _ hgb).trans cbx
   clear hrow hfz hg hgb
   go_wp2_with fail
   go_roundg (ld - (k + 1))
   case measure => omega
   case rel => exact ⟨k + 1, rfl, by go_num, by omega, HB8, HR8, HX8⟩
  ·obtain rfl : k = ld := by omega
   have hki : ¬ (k : Int) < k := by omega
   have hsm2 := same_any (HI3.out.below HB.out) (HV.out.below (HY3.out.trans (HB.out.mono HY3.out.size))) true (by simp)
   go_wp2_with fail
   refine hsm2.mono ?_
   rintro e w4 ⟨rfl, hb4⟩
   have HB9 : Hid (Below w.heap.size w w4) := (HY3.out.trans (HB.out.mono HY3.out.size)).trans (hb4.mono (HY3.out.trans (HB.out.mono HY3.out.size)).size)
   clear hb4 hsm2 cbx
   go_wp2_with fail
   refine (live_any _ (HT.out.below HB9.out) (J.Tab.below HJ.out HB9.out)).mono ?_
   rintro e y2 ⟨rfl, hb⟩
   have HB2 : Hid _ := hb
   clear hb
   go_wp2_with fail
   go_ret
   exact ⟨rfl, HB9.out.trans (HB2.out.mono HB9.out.size)⟩

end Go.Proofs.YtgjingleolhkbaaGreatDoor

/- How long items' words can be: the reach that the form gives. -/
namespace Go.Proofs.YtgjingleolhkbaaGreatDoor
open Go.ChangeShapes Go.WideShapes Go.ChangeAt Go.RowKit Go.Joins

theorem weightsAll_of {H : Type} {P : Program} {e : TypeId} : ∀ {l : List (DataW H)} {d : DataW H}, d ∈ l → ∀ n ∈ d.weights P e, n ∈ DataW.weightsAll P e l
 | d' :: r, d, hd, n, hn => by
  simp only [DataW.weightsAll, List.mem_append]
  rcases List.mem_cons.1 hd with rfl | h
  ·exact Or.inl hn
  ·exact Or.inr (weightsAll_of h n hn)
theorem bytes8 : Tryz.prog.bytesOf 2 = 8 := by kernel_rfl

section
variable {H : Type} {enc : TypeId × Value → H} {w : World} {base : Nat} {spare : Nat → Bool} {held : Bool}
theorem sized_I {fuel : Nat} {a : Option Addr} {l c : Nat} {x : DataW H × List MemPlace} {R : Nat} (h : DataW.trod enc Tryz.prog w base spare held fuel 26 [.slice a l c] = some x) (hR : ∀ n ∈ x.1.weights Tryz.prog 26, n ≤ R) : l * 8 ≤ R := by
 rcases open_ints Tryz.underlying26 Tryz.underlying2 cell_i64 h with ⟨hcs, -⟩ | ⟨a', l', c', zs, hcs, -, hl, hm, hz, rfl, -, -⟩
 ·simp at hcs
  omega
 ·simp at hcs
  obtain ⟨-, rfl, rfl⟩ := hcs
  have := hR ((((lits (H := H) .i64 (zs.take l)).length + (lits (H := H) .i64 (zs.drop l)).length) * Tryz.prog.bytesOf 2)) (by simp [DataW.weights, Tryz.underlying26])
  rw [bytes8] at this
  have h1 : (lits (H := H) .i64 (zs.take l)).length = l := by
   simp only [lits, List.length_map, List.length_take]
   have : l ≤ zs.length := by rw [hz]; split <;> omega
   omega
  rw [h1] at this
  omega
set_option maxRecDepth 100000 in
theorem sized_A {fuel : Nat} {u0 u1 u2 u3 u4 u5 : Value} {a : Option Addr} {l c : Nat} {x : DataW H × List MemPlace} {R : Nat} (h : DataW.trod enc Tryz.prog w base spare held fuel 44 [u0, u1, u2, u3, u4, u5, .slice a l c] = some x) (hR : ∀ n ∈ x.1.weights Tryz.prog 44, n ≤ R) : l * 8 ≤ R := by
 obtain ⟨y0, y1, y2, y3, n, rfl, hl, h0, h1, h2, h3⟩ := trod_struct4 Tryz.underlying44 h
 simp only [cell_int, cell_str, cell_ins, cell_sl] at h0 h1 h2 h3
 refine sized_I (by simpa using h3) (fun n hn => hR n ?_)
 simp only [DataW.weights, Tryz.underlying44]
 simp only [List.map_cons, List.map_nil, DataW.weightsEach, List.mem_append]
 exact Or.inr (Or.inr (Or.inr (Or.inl hn)))
set_option maxRecDepth 100000 in
theorem trod_A0 {fuel : Nat} {cs : List Value} {x : DataW H × List MemPlace} (h : DataW.trod enc Tryz.prog w base spare held fuel 44 cs = some x) : ∃ (u0 u1 u2 u3 u4 u5 : Value) (a1 : Option Addr) (l1 c1 : Nat), cs = [u0, u1, u2, u3, u4, u5, .slice a1 l1 c1] := by
 obtain ⟨y0, y1, y2, y3, n, -, hl, h0, h1, h2, h3⟩ := trod_struct4 Tryz.underlying44 h
 rw [cell_item] at hl
 match cs, hl with
 | [u0, u1, u2, u3, u4, u5, u6], _ =>
  simp only [cell_int, cell_str, cell_ins, cell_sl] at h0 h1 h2 h3
  have h3 : DataW.trod enc Tryz.prog w base spare held n 26 [u6] = some y3 := by simpa using h3
  rcases open_ints Tryz.underlying26 Tryz.underlying2 cell_i64 h3 with ⟨hcs, -⟩ | ⟨a', l', c', zs, hcs, -⟩
  ·simp at hcs; subst hcs; exact ⟨_, _, _, _, _, _, _, _, _, rfl⟩
  ·simp at hcs; subst hcs; exact ⟨_, _, _, _, _, _, _, _, _, rfl⟩
theorem sized_its {fuel : Nat} {a : Option Addr} {len cap : Nat} {os : List X.It} {x : DataW H × List MemPlace} {R : Nat} (hv : ItsV w a len cap os) (h : DataW.trod enc Tryz.prog w base spare held fuel 22 [.slice a len cap] = some x) (hR : ∀ n ∈ x.1.weights Tryz.prog 22, n ≤ R) : ∀ r ∈ os, r.words.length * 8 ≤ R := by
 intro r hr
 obtain ⟨i, hi, rfl⟩ := List.getElem_of_mem hr
 rw [hv.count] at hi
 rcases Deep.open_slice Tryz.underlying22 h with ⟨hcs, -⟩ | ⟨a', len', cap', m, n, D, Pl, hcs, -, hl, hm, hmm, rfl, hx⟩
 ·simp at hcs; omega
 ·simp at hcs
  obtain ⟨rfl, rfl, rfl⟩ := hcs
  have him : i < m := by rw [hmm]; split <;> omega
  obtain ⟨cs', h1, h2⟩ := hx i him
  rw [cell_item] at h1
  obtain ⟨u0, u1, u2, u3, u4, u5, a1, l1, c1, rfl⟩ := trod_A0 h2
  rcases hv.cells with h0 | ⟨b, off, ha, hc⟩
  ·omega
  obtain ⟨a2, l2, c2, -, -, -, -, -, -, k3, V⟩ := hc i hi
  obtain ⟨-, -, hxx⟩ := World.cells?_some h1
  cases ha
  have e3 := hxx 6 (by decide)
  rw [Addr.add_add, Addr.add_lit] at e3
  have e4 : some (Value.slice a2 l2 c2) = some (Value.slice a1 l1 c1) := by
   rw [← k3, ← Nat.add_assoc] at *
   exact e3
  cases e4
  have hlen : (os[i]'(by rw [hv.count]; exact hi)).words.length = l1 := by
   have := V.count
   simpa [List.getD, show i < os.length by rw [hv.count]; exact hi] using this
  rw [hlen]
  refine sized_A h2 (fun n hn => hR n ?_)
  simp only [DataW.weights, Tryz.underlying22, List.mem_cons, List.mem_append]
  exact Or.inr (Or.inl (weightsAll_of (List.mem_map.2 ⟨i, List.mem_range.2 hi, rfl⟩) n hn))
end
end Go.Proofs.YtgjingleolhkbaaGreatDoor

/- append of a string's bytes onto a row of the call's own, and where the new row lies; rows that grow. -/
import Derived.Test.YtmplnkfjaeegdaaDoorPObjA
import Derived.Test.YtmplnkfjaeegdaaDoorPWord
import Derived.Lib.AppendStr
import Derived.Deep.AppendSrc
import Derived.Deep.AppendLies
import Derived.Deep.LoopGhost
import Derived.Lib.SmallJoins
namespace Go.Proofs.YtmplnkfjaeegdaaDoor
set_option maxRecDepth 100000
open Go.RowKit Go.Maps Go.Lib

/-- Nothing was turned but the row, and new blocks; the new row lies where the old one did, or behind all. -/
structure Gr (w w' : World) (v v' : Value) : Prop where
  grown : w.grownBy w' v.ownBlock
  lies : ∀ g, v'.ownBlock = some g → v.ownBlock = some g ∨ w.heap.size ≤ g
theorem Gr.refl (w : World) (v : Value) : Gr w w v v := ⟨⟨rfl, rfl, rfl, Nat.le_refl _, fun _ _ _ => rfl⟩, fun _ h => .inl h⟩
theorem Gr.trans {w w1 w2 : World} {v v1 v2 : Value} (h : Gr w w1 v v1) (k : Gr w1 w2 v1 v2) : Gr w w2 v v2 := by
  refine ⟨⟨k.grown.os.trans h.grown.os, k.grown.tape.trans h.grown.tape, k.grown.output.trans h.grown.output, Nat.le_trans h.grown.size k.grown.size, fun j hj hne => ?_⟩, fun g hg => ?_⟩
  · refine (k.grown.block j (Nat.lt_of_lt_of_le hj h.grown.size) (fun e => ?_)).trans (h.grown.block j hj hne)
    rcases h.lies j e.symm with h1 | h1
    · exact hne h1.symm
    · omega
  · rcases k.lies g hg with h1 | h1
    · exact h.lies g h1
    · exact .inr (Nat.le_trans h.grown.size h1)
theorem Gr.below {w w1 : World} (v : Value) (h : Below w.heap.size w w1) : Gr w w1 v v := ⟨⟨h.os, h.tape, h.output, h.size, fun k hk _ => h.block k hk⟩, fun _ h => .inl h⟩
theorem Gr.cell {w w' : World} {v v' : Value} (h : Gr w w' v v') {b o : Nat} {u : Value} (hc : w.cell? ⟨b, o, none⟩ = some u) (hne : v.ownBlock ≠ some b) : w'.cell? ⟨b, o, none⟩ = some u := h.grown.cell hc (fun e => hne e.symm)
theorem Gr.toBelow {w w' : World} {v v' : Value} {B : Nat} (h : Gr w w' v v') (hB : B ≤ w.heap.size) (hv : ∀ g, v.ownBlock = some g → B ≤ g) : Below B w w' := (Below.refl B w).grown h.grown hB hv

theorem str_lies {w : World} {B : Nat} {v : Value} {n : Nat} {xs : List Value} (ty : TypeId) (hown : w.ownsRow B 5 1 v n xs) (s : ByteArray) (hbytes : n + s.size ≤ 140737488355328) (hbase : B ≤ w.heap.size) :
    ∃ v' w', (Builtin.append_ #[60, 9] ty #[v, .string s]).run Tryd.prog w = .ok v' w' ∧ w'.ownsRow B 5 1 v' (n + s.size) (xs ++ strCells s) ∧ Gr w w' v v' := by
  obtain ⟨i0, hi, hz0, hz1, hz2⟩ := info_parts infoB
  obtain ⟨v', w', hr, ho, hg, hnil⟩ := run_append_own_string (P := Tryd.prog) w B 60 9 ty 5 i0 Tryd.underlying60 Tryd.underlying9 hi hz0 hz1 hz2 v n xs hown s (by unfold maxLen; omega) hbytes hbase
  refine ⟨v', w', hr, ho, hg, fun g hgv => ?_⟩
  have hsrc : Src Tryd.prog i0.size 9 (.string s) s.size (byteCells s) w := by rw [hz1]; exact Src.ofString w Tryd.underlying9 s
  have grow : ∀ (bs : Option Addr) (c : Nat) (olds : List Value), v = .slice bs n c → c < n + s.size → (Builtin.firstCells i0.size n (.slice bs n c)).run Tryd.prog w.drew = .ok olds.toArray w.drew → w.heap.size ≤ g := by
    intro bs c olds hv hc hold
    have hr2 := run_append_grow_src (P := Tryd.prog) w 60 9 ty 5 i0 (.int .u8 0) Tryd.underlying60 hi hz0 bs n c olds hold (.string s) s.size (byteCells s) hsrc hc (by omega) (growslice_fits hc (by rw [hz2]; omega))
    rw [← hv, hr] at hr2
    injection hr2 with e1 e2
    rw [e1] at hgv
    simp [Value.ownBlock] at hgv
    omega
  rcases hown.2 with ⟨rfl, rfl⟩ | ⟨g0, cap, cur, rfl, hb, hh, h1, h2, h3, h4⟩
  · by_cases hs : s.size = 0
    · have := hnil.2 ⟨rfl, hs⟩
      rw [this] at hgv
      simp [Value.ownBlock] at hgv
    · exact .inr (grow none 0 [] rfl (by omega) (run_firstCells_none w.drew i0.size 0 0 0))
  · by_cases hroom : n + s.size ≤ cap
    · have hr2 := run_append_room_src (P := Tryd.prog) w 60 9 ty 5 i0 Tryd.underlying60 hi g0 0 n cap (.string s) s.size (byteCells s) hsrc hroom (by
        intro j hj
        rw [byteCells_length] at hj
        rw [cell_of_row w g0 _ cur 5 (0, 0) hh, hz1]
        simp
        omega) (by
        intro j hj
        unfold World.frozen?
        rw [hh]
        simp)
      rw [hr] at hr2
      injection hr2 with e1 e2
      rw [e1] at hgv
      exact .inl hgv
    · refine .inr (grow _ cap xs rfl (by omega) ?_)
      rw [hz1]
      exact run_firstCells_some w.drew 1 n ⟨g0, 0, none⟩ n cap xs (by simpa using hown.1) (fun j u hu => by
        have hj : j < n := by have := (List.getElem?_eq_some_iff.1 hu).1; have := hown.1; omega
        rw [Addr.add_lit, Nat.zero_add, World.cell?_drew, hown.cellAt j (by omega)]
        exact hu)

theorem wpList_append_str {ops : Array Oper} {rest : List Oper} {o : Oper} {a : Act} {Q : Exit → Act → World → Prop} {w : World} (hgd : o.guard = none) (sl x : Operand)
    (ho : o.op = .call { callee := .builtin .append, args := #[sl, x], argTypes := #[60, 9] })
    {B : Nat} {v : Value} {n : Nat} {xs : List Value} (hs : a.eval sl = v) (hown : w.ownsRow B 5 1 v n xs) (s : ByteArray) (hx : a.eval x = .string s)
    (hbytes : n + s.size ≤ 140737488355328) (hbase : B ≤ w.heap.size)
    (h : ∀ v' w', w'.ownsRow B 5 1 v' (n + s.size) (xs ++ strCells s) → Gr w w' v v' → wpList Tryd.prog ops Q rest (a.put o.dst v') w') : wpList Tryd.prog ops Q (o :: rest) a w := by
  refine wpList_plain hgd fun K hK => ?_
  obtain ⟨v', w', hr, h2, h3⟩ := str_lies o.type hown s hbytes hbase
  unfold Oper.wp execOp
  simp only [ho, resolve, invoke, builtin, Sem.run_bind, Sem.run_pure, Result.andThen_ok, List.map_toArray, List.map_cons, List.map_nil, hs, hx, hr]
  exact hK _ _ (h v' w' h2 h3)

end Go.Proofs.YtmplnkfjaeegdaaDoor

/- What package put comes to. -/
namespace Go.Proofs.YtmplnkfjaeegdaaDoor
set_option maxRecDepth 100000
open Go.RowKit Go.Maps Go.Lib
set_option linter.unusedVariables false

def nums (s : ByteArray) : List Int := W.tail s 0
theorem strCells_nums (s : ByteArray) : strCells s = (nums s).map (Value.int .u8) := by
  unfold strCells nums W.tail
  simp
theorem nums_len (s : ByteArray) : (nums s).length = s.size := by
  have := congrArg List.length (strCells_nums s)
  rw [strCells_length, List.length_map] at this
  exact this.symm
theorem nums_of {zs : List Int} (h : ∀ n ∈ zs, 0 ≤ n ∧ n ≤ 255) : nums (strOfNums zs) = zs := by
  unfold nums
  rw [W.tail_nums zs h 0, List.drop_zero]
theorem size_of {zs : List Int} (h : ∀ n ∈ zs, 0 ≤ n ∧ n ≤ 255) : (strOfNums zs).size = zs.length := by
  rw [← nums_len, nums_of h]

abbrev RowB (w : World) (B : Nat) (v : Value) (xs : List Int) : Prop := w.ownsRow B 5 1 v xs.length (xs.map (Value.int .u8))

/-- What is written: a text, eight bytes, a symbol, a relocation. -/
def txt (s : ByteArray) : List Int := W.put s.size ++ nums s
def long (n : Int) : List Int := W.bytesV n 8
def symB (s : Sym) : List Int := txt s.name ++ ([s.kind] ++ W.put s.pos)
def relB (r : Rel) : List Int := W.put r.pos ++ ([r.kind] ++ (txt r.name ++ long r.add))

theorem long_len {n : Int} (h : (Lit.int .i64 n).wf = true) : (long n).length = 8 ∧ ∀ x ∈ long n, 0 ≤ x ∧ x ≤ 255 := by
  have hE := (W.num_back n h).1
  unfold long
  unfold W.bytesE at hE
  unfold W.bytesV
  rw [if_pos (by decide)] at hE ⊢
  by_cases c : W.sx 8 n = n
  · rw [if_pos c]
    exact ⟨W.bytesOf_length _ _, W.bytesOf_bd _ _⟩
  · rw [if_neg c] at hE
    cases hE

theorem row_is {w1 : World} {B : Nat} {v' : Value} {ys : List Int} {cs : List Value} {n : Nat} (h : w1.ownsRow B 5 1 v' n cs) (hc : cs = ys.map (Value.int .u8)) : RowB w1 B v' ys := by
  subst hc
  have e : ys.length = n := by simpa using h.1
  subst e
  exact h

set_option maxRecDepth 100000 in
set_option maxHeartbeats 1000000 in
theorem number_any' {w : World} {B : Nat} {v : Value} {xs : List Int} (ho : RowB w B v xs) (hB : B ≤ w.heap.size) (n : Int) (h0 : 0 ≤ n) (h1 : n ≤ 9223372036854775807) (hm : xs.length ≤ 1000000000) :
    Calls Tryd.prog 47 #[v, .int .i64 n] w fun e w' => ∃ v', e = .returned v' ∧ RowB w' B v' (xs ++ W.put n) ∧ Gr w w' v v' := by
  have HO : Hid _ := ho
  have hpl := W.put_length n
  have HPB : Hid _ := W.put_bd n h0 (by omega)
  clear ho
  go_enter Tryd.func47, Tryd.ntmps47
  go_wp2_with fail
  refine (put_any n h0 (by omega) _).mono ?_
  rintro e w1 ⟨rfl, hb1⟩
  have HO1 : Hid (RowB w1 B v xs) := own_kept HO.out hb1
  have hB1 : B ≤ w1.heap.size := Nat.le_trans hB hb1.size
  have G1 : Hid (Gr w w1 v v) := Gr.below v hb1
  have hsz : (strOfNums (W.put n)).size = (W.put n).length := size_of HPB.out
  clear hb1
  go_wp2_with (first | (at_builtin; refine wpList_append_str rfl _ _ rfl rfl HO1.out (strOfNums (W.put n)) rfl (by omega) hB1 ?_) | go_in)
  intro v2 w2 ho2 hg2
  have G2 : Hid (Gr w w2 v v2) := G1.out.trans hg2
  have HO2 : Hid (RowB w2 B v2 (xs ++ W.put n)) := by
    exact row_is ho2 (by rw [strCells_nums, nums_of HPB.out]; simp)
  clear ho2 hg2
  go_wp2
  go_ret
  exact ⟨_, rfl, HO2.out, G2.out⟩

set_option maxRecDepth 100000 in
set_option maxHeartbeats 1000000 in
theorem text_any {w : World} {B : Nat} {v : Value} {xs : List Int} (ho : RowB w B v xs) (hB : B ≤ w.heap.size) (s : ByteArray) (hs : s.size ≤ 1000000000) (hm : xs.length ≤ 500000000) :
    Calls Tryd.prog 24 #[v, .string s] w fun e w' => ∃ v', e = .returned v' ∧ RowB w' B v' (xs ++ txt s) ∧ Gr w w' v v' := by
  have HO : Hid _ := ho
  have hpl := W.put_length (s.size : Int)
  clear ho
  go_enter Tryd.func24, Tryd.ntmps24
  go_wp2_with fail
  refine (number_any' HO.out hB s.size (by omega) (by omega) (by omega)).mono ?_
  rintro e w1 ⟨v1, rfl, ho1, hb1⟩
  have HO1 : Hid _ := ho1
  have hB1 : B ≤ w1.heap.size := Nat.le_trans hB hb1.grown.size
  have hl1 : (xs ++ W.put s.size).length ≤ 500000010 := by rw [List.length_append]; omega
  clear ho1
  go_wp2_with (first | (at_builtin; refine wpList_append_str rfl _ _ rfl rfl HO1.out s rfl (by omega) hB1 ?_) | go_in)
  intro v2 w2 ho2 hg2
  have G2 : Hid (Gr w w2 v v2) := hb1.trans hg2
  have HO2 : Hid (RowB w2 B v2 (xs ++ txt s)) := by
    exact row_is ho2 (by rw [strCells_nums]; simp [txt])
  clear ho2 hg2
  go_wp2
  go_ret
  exact ⟨_, rfl, HO2.out, G2.out⟩

set_option maxRecDepth 100000 in
set_option maxHeartbeats 1000000 in
theorem long_any {w : World} {B : Nat} {v : Value} {xs : List Int} (ho : RowB w B v xs) (hB : B ≤ w.heap.size) (n : Int) (hn : (Lit.int .i64 n).wf = true) (hm : xs.length ≤ 1000000000) :
    Calls Tryd.prog 26 #[v, .int .i64 n] w fun e w' => ∃ v', e = .returned v' ∧ RowB w' B v' (xs ++ long n) ∧ Gr w w' v v' := by
  have HO : Hid _ := ho
  have HL : Hid _ := long_len hn
  clear ho
  go_enter Tryd.func26, Tryd.ntmps26
  go_wp2_with fail
  refine (bytes_any n 8 _).mono ?_
  rintro e w1 ⟨rfl, hb1⟩
  have HO1 : Hid (RowB w1 B v xs) := own_kept HO.out hb1
  have hB1 : B ≤ w1.heap.size := Nat.le_trans hB hb1.size
  have G1 : Hid (Gr w w1 v v) := Gr.below v hb1
  have hsz : (strOfNums (W.bytesV n 8)).size = 8 := (size_of HL.out.2).trans HL.out.1
  clear hb1
  go_wp2_with (first | (at_builtin; refine wpList_append_str rfl _ _ rfl rfl HO1.out (strOfNums (W.bytesV n 8)) rfl (by omega) hB1 ?_) | go_in)
  intro v2 w2 ho2 hg2
  have G2 : Hid (Gr w w2 v v2) := G1.out.trans hg2
  have HO2 : Hid (RowB w2 B v2 (xs ++ long n)) := by
    exact row_is ho2 (by rw [strCells_nums]; have e : nums (strOfNums (W.bytesV n 8)) = long n := nums_of HL.out.2; rw [e]; simp)
  clear ho2 hg2
  go_wp2
  go_ret
  exact ⟨_, rfl, HO2.out, G2.out⟩

end Go.Proofs.YtmplnkfjaeegdaaDoor

/- What put.Sym and putReloc come to. -/
namespace Go.Proofs.YtmplnkfjaeegdaaDoor
set_option maxRecDepth 100000
open Go.RowKit Go.Maps Go.Lib
set_option linter.unusedVariables false

theorem one_cell (w : World) (u : Value) {g : Nat} (hg : g = w.heap.size) : ∀ j x, ([u] : List Value)[j]? = some x → (w.alloc (.cells #[u] 5)).cell? ((⟨g, 0, none⟩ : Addr).add j) = some x := by
  subst hg
  intro j x hx
  rw [Addr.add_lit]
  simp
  exact hx
theorem gr_lies {w w2 w' : World} {v : Value} {g n c : Nat} (hb : Below w.heap.size w w2) (hg : w2.grownBy w' v.ownBlock) (hat : v.ownBlock = some g ∨ g = w2.heap.size) : Gr w w' v (.slice (some ⟨g, 0, none⟩) n c) := by
  refine (Gr.below v hb).trans ⟨hg, fun x hx => ?_⟩
  have : x = g := by simpa [Value.ownBlock] using hx.symm
  subst this
  rcases hat with h | h
  · exact .inl h
  · exact .inr (by omega)

set_option maxRecDepth 100000 in
set_option maxHeartbeats 2000000 in
theorem symput_any {w : World} {B : Nat} {v : Value} {xs : List Int} (ho : RowB w B v xs) (hB : B ≤ w.heap.size) (nm : ByteArray) (kd ps : Int) (hn : nm.size ≤ 1000) (hk0 : 0 ≤ kd) (hk1 : kd ≤ 255) (hp0 : 0 ≤ ps) (hp1 : ps ≤ 9223372036854775807) (hm : xs.length ≤ 100000000) :
    Calls Tryd.prog 28 #[v, .agg #[.string nm, .int .i64 kd, .int .i64 ps]] w fun e w' => ∃ v', e = .returned v' ∧ RowB w' B v' (xs ++ symB ⟨nm, kd, ps⟩) ∧ Gr w w' v v' := by
  obtain ⟨i0, hi, hz0, hz1, hz2⟩ := info_parts infoB
  obtain ⟨W1, hW1⟩ : ∃ W1, w.alloc (.cells #[.string nm, .int .i64 kd, .int .i64 ps] 66) = W1 := ⟨_, rfl⟩
  have b1 : Below w.heap.size w W1 := by subst hW1; exact bl_one _ _
  have v0 : W1.cell? ⟨w.heap.size, 0, none⟩ = some (.string nm) := by subst hW1; exact cell_last rfl rfl
  have v1 : W1.cell? ⟨w.heap.size, 1, none⟩ = some (.int .i64 kd) := by subst hW1; exact cell_last rfl rfl
  have v2 : W1.cell? ⟨w.heap.size, 2, none⟩ = some (.int .i64 ps) := by subst hW1; exact cell_last rfl rfl
  have HNE : Hid (v.ownBlock ≠ some w.heap.size) := fun e => by have := (ho.lt _ e).2; omega
  have HO : Hid (RowB W1 B v xs) := own_kept ho b1
  have G0 : Hid (Gr w W1 v v) := Gr.below v b1
  have hB1 : B ≤ W1.heap.size := Nat.le_trans hB b1.size
  have z1 : w.heap.size < W1.heap.size := by subst hW1; simp
  have hpl := W.put_length (nm.size : Int)
  have hnl := nums_len nm
  have hkd : kd % 256 = kd := by omega
  clear ho b1
  go_enter Tryd.func28, Tryd.ntmps28
  go_wp2_with fail
  refine (text_any HO.out hB1 nm (by omega) (by omega)).mono ?_
  rintro e w2 ⟨u, rfl, ho2, g2⟩
  have c1 := g2.cell v1 HNE.out
  have c2 := g2.cell v2 HNE.out
  obtain ⟨ys, hys⟩ : ∃ ys, ys = xs ++ txt nm := ⟨_, rfl⟩
  rw [← hys] at ho2
  have HO2 : Hid (RowB w2 B u ys) := ho2
  have hB2 : B ≤ w2.heap.size := Nat.le_trans hB1 g2.grown.size
  have hl2 : ys.length ≤ 100001010 := by rw [hys]; simp only [txt, List.length_append]; omega
  have z2 : w.heap.size < w2.heap.size := Nat.lt_of_lt_of_le z1 g2.grown.size
  have HNU : Hid (u.ownBlock ≠ some w.heap.size) := fun e => by
    rcases g2.lies _ e with h | h
    · exact HNE.out h
    · omega
  have G2 : Hid (Gr w w2 v u) := G0.out.trans g2
  have HYS : Hid _ := hys
  clear ho2 g2 hys
  go_wp2_with (first | (at_builtin; refine wpList_append_lies _ rfl _ _ 60 rfl B 5 i0 (.int .u8 0) 1 1 Tryd.underlying60 hi hz0 hz1 hz2 rfl (by decide) u ys.length _ rfl (HO2.out.alloc _) ⟨w2.heap.size, 0, none⟩ 1 1 [.int .u8 kd] rfl rfl (one_cell _ _ rfl) (by intro y hy; simp at hy; subst hy; rfl) (by decide) (by unfold maxLen; omega) (by omega) (by simp; omega) (w2.heap.size + 1) (by simp) ?_) | go_in)
  intro g cap w3 ho3 hg3 hat3 hlt3
  have G3 : Gr w2 w3 u (.slice (some ⟨g, 0, none⟩) (ys.length + 1) cap) := gr_lies (bl_one w2 _) hg3 (by simpa using hat3)
  have d2 := G3.cell c2 HNU.out
  have HO3 : Hid (RowB w3 B (.slice (some ⟨g, 0, none⟩) (ys.length + 1) cap) (ys ++ [kd])) := row_is ho3 (by simp)
  have hB3 : B ≤ w3.heap.size := Nat.le_trans hB2 G3.grown.size
  have hl3 : (ys ++ [kd]).length ≤ 100001020 := by rw [List.length_append]; simp only [List.length_cons, List.length_nil]; omega
  have GG3 : Hid (Gr w w3 v (.slice (some ⟨g, 0, none⟩) (ys.length + 1) cap)) := G2.out.trans G3
  clear ho3 hg3 hat3 hlt3 G3 c1 c2
  go_wp2_with fail
  refine (number_any' HO3.out hB3 ps hp0 hp1 (by omega)).mono ?_
  rintro e w4 ⟨u4, rfl, ho4, g4⟩
  have HO4 : Hid (RowB w4 B u4 (xs ++ symB ⟨nm, kd, ps⟩)) := by
    have e : xs ++ symB ⟨nm, kd, ps⟩ = ys ++ [kd] ++ W.put ps := by rw [HYS.out]; simp [symB]
    show RowB _ _ _ _
    rw [e]
    exact ho4
  have G4 : Hid (Gr w w4 v u4) := GG3.out.trans g4
  clear ho4 g4 d2
  go_wp2
  go_ret
  exact ⟨_, rfl, HO4.out, G4.out⟩

end Go.Proofs.YtmplnkfjaeegdaaDoor

/- What the lists, form and Write come to. (Written by gen_form.py.) -/
namespace Go.Proofs.YtmplnkfjaeegdaaDoor
set_option maxRecDepth 100000
open Go.RowKit Go.Maps Go.Lib
set_option linter.unusedVariables false

theorem flat_snoc {α : Type} (f : α → List Int) (zs : List α) (d : α) (k : Nat) (h : k < zs.length) : (zs.take (k + 1)).flatMap f = (zs.take k).flatMap f ++ f (zs.getD k d) := by
  rw [List.take_succ_eq_append_getElem h, List.flatMap_append]; simp [List.getD, h]
theorem symB_len {s : Sym} (h : s.name.size ≤ 1000) : (symB s).length ≤ 1100 := by
  have h1 := W.put_length (s.name.size : Int)
  have h2 := W.put_length s.pos
  have h3 := nums_len s.name
  simp only [symB, txt, List.length_append, List.length_cons, List.length_nil]
  omega
theorem relB_len {r : Rel} (h : r.name.size ≤ 1000) (ha : (Lit.int .i64 r.add).wf = true) : (relB r).length ≤ 1100 := by
  have h1 := W.put_length (r.name.size : Int)
  have h2 := W.put_length r.pos
  have h3 := nums_len r.name
  have h4 := (long_len ha).1
  simp only [relB, txt, List.length_append, List.length_cons, List.length_nil]
  omega
def Apart (v : Value) (a : Option Addr) : Prop := ∀ b off, a = some ⟨b, off, none⟩ → v.ownBlock ≠ some b
theorem Gr.apart {w w' : World} {v v' : Value} (h : Gr w w' v v') {b : Nat} (hb : b < w.heap.size) (hne : v.ownBlock ≠ some b) : v'.ownBlock ≠ some b := fun e => by
  rcases h.lies b e with h1 | h1
  · exact hne h1
  · omega
/-- What a piece of a form needs. -/
def SymFit (s : Sym) : Prop := s.name.size ≤ 1000 ∧ 0 ≤ s.kind ∧ s.kind ≤ 255 ∧ 0 ≤ s.pos ∧ s.pos ≤ 9223372036854775807
def RelFit (r : Rel) : Prop := r.name.size ≤ 1000 ∧ 0 ≤ r.kind ∧ r.kind ≤ 255 ∧ 0 ≤ r.pos ∧ r.pos ≤ 9223372036854775807 ∧ (Lit.int .i64 r.add).wf = true

set_option maxRecDepth 100000 in
set_option maxHeartbeats 4000000 in
theorem listI_any {w : World} {B : Nat} {v : Value} {xs : List Int} (ho : RowB w B v xs) (hB : B ≤ w.heap.size) {a : Option Addr} {l c : Nat} {zs : List Int} (h : IntsV w a l c zs) (hv : 0 < l → Apart v a) (hf : ∀ z ∈ zs, (Lit.int .i64 z).wf = true) (hl : l ≤ 8000) (hm : xs.length ≤ 20000000) :
    Calls Tryd.prog 25 #[v, .slice a l c, .func (.func 26) #[] #[]] w fun e w' => ∃ v', e = .returned v' ∧ RowB w' B v' (xs ++ (W.put l ++ zs.flatMap long)) ∧ Gr w w' v v' := by
  have HV : Hid _ := h
  have HO : Hid _ := ho
  have HF : Hid _ := hf
  have HAP : Hid _ := hv
  have hcnt := h.count
  have hpl := W.put_length (l : Int)
  clear h ho hf hv
  go_enter Tryd.func25, Tryd.ntmps25
  go_wp2_with fail
  refine (number_any' HO.out hB (l : Int) (by omega) (by omega) (by omega)).mono ?_
  rintro e w1 ⟨v1, rfl, ho1, g1⟩
  have HO1 : Hid _ := ho1
  have G1 : Hid _ := g1
  have hl1 : (xs ++ W.put (l : Int)).length ≤ 20000010 := by rw [List.length_append]; omega
  clear ho1 g1
  go_wp2_with fail
  go_loopg [0, 15] l (fun r bv iv wq => ∃ (k : Nat) (ys : List Int), iv = .int .i64 k ∧ k ≤ l ∧ l - k ≤ r ∧ ys.length ≤ 20000010 + 1100 * k ∧ Hid (ys = xs ++ (W.put l ++ (zs.take k).flatMap long)) ∧ Hid (RowB wq B bv ys) ∧ Hid (Gr w wq v bv))
  case atStart => exact ⟨0, xs ++ W.put (l : Int), rfl, Nat.zero_le _, by omega, by omega, (by simp : xs ++ W.put (l : Int) = xs ++ (W.put l ++ (zs.take 0).flatMap long)), HO1.out, G1.out⟩
  case round =>
    obtain ⟨k, ys, rfl, hk, hr, hyl, HY, HR, G⟩ := hrel
    have hBr : B ≤ wr.heap.size := Nat.le_trans hB G.out.grown.size
    by_cases hlt : k < l
    · rcases HV.out.cells with h0 | ⟨b, off, hA, hc⟩
      · omega
      have k0 := hc k hlt
      have hne : v.ownBlock ≠ some b := HAP.out (by omega) b off hA
      have q0 := G.out.cell k0 hne
      have HFL : Hid _ := flat_snoc long zs 0 k (by omega)
      have hfit := HF.out (zs.getD k 0) (by simp [List.getD, show k < zs.length by omega])
      have HPC : Hid ((long (zs.getD k 0)).length ≤ 1100) := by show _ ≤ _; rw [(long_len hfit).1]; decide
      subst hA
      have hii : (k : Int) < l := by omega
      have hin : 0 ≤ (k : Int) := by omega
      clear hc k0
      obtain ⟨x, hx⟩ : ∃ x, zs.getD k 0 = x := ⟨_, rfl⟩
      rw [hx] at q0 HFL hfit HPC
      have HX : Hid _ := hfit
      clear hx hfit
      go_wp2_with fail
      refine (long_any HR.out hBr x HX.out (by omega)).mono ?_
      rintro e w2 ⟨v2, rfl, ho2, g2⟩
      have HO2 : Hid (RowB w2 B v2 (ys ++ long x)) := ho2
      have G2 : Hid (Gr w w2 v v2) := G.out.trans g2
      have HY2 : Hid (ys ++ long x = xs ++ (W.put l ++ (zs.take (k + 1)).flatMap long)) := by
        show _ = _
        rw [HFL.out, HY.out]
        simp
      have hyl2 : (ys ++ long x).length ≤ 20000010 + 1100 * (k + 1) := by rw [List.length_append]; have := HPC.out; omega
      clear ho2 g2
      go_wp2_with fail
      go_roundg (l - (k + 1))
      case measure => omega
      case rel => exact ⟨k + 1, _, by first | rfl | (congr 1; omega), by omega, Nat.le_refl _, hyl2, HY2.out, HO2.out, G2.out⟩
    · obtain rfl : k = l := by omega
      have HE : Hid (RowB wr B u0 (xs ++ (W.put k ++ zs.flatMap long))) := by
        have := HR.out
        rw [HY.out, List.take_of_length_le (by omega)] at this
        exact this
      go_wp2_with fail
      go_ret
      exact ⟨_, rfl, HE.out, G.out⟩

set_option maxRecDepth 100000 in
set_option maxHeartbeats 4000000 in
theorem listS_any {w : World} {B : Nat} {v : Value} {xs : List Int} (ho : RowB w B v xs) (hB : B ≤ w.heap.size) {a : Option Addr} {l c : Nat} {zs : List Sym} (h : SymsV w a l c zs) (hv : 0 < l → Apart v a) (hf : ∀ z ∈ zs, SymFit z) (hl : l ≤ 8000) (hm : xs.length ≤ 20000000) :
    Calls Tryd.prog 27 #[v, .slice a l c, .func (.func 28) #[] #[]] w fun e w' => ∃ v', e = .returned v' ∧ RowB w' B v' (xs ++ (W.put l ++ zs.flatMap symB)) ∧ Gr w w' v v' := by
  have HV : Hid _ := h
  have HO : Hid _ := ho
  have HF : Hid _ := hf
  have HAP : Hid _ := hv
  have hcnt := h.count
  have hpl := W.put_length (l : Int)
  clear h ho hf hv
  go_enter Tryd.func27, Tryd.ntmps27
  go_wp2_with fail
  refine (number_any' HO.out hB (l : Int) (by omega) (by omega) (by omega)).mono ?_
  rintro e w1 ⟨v1, rfl, ho1, g1⟩
  have HO1 : Hid _ := ho1
  have G1 : Hid _ := g1
  have hl1 : (xs ++ W.put (l : Int)).length ≤ 20000010 := by rw [List.length_append]; omega
  clear ho1 g1
  go_wp2_with fail
  go_loopg [0, 15] l (fun r bv iv wq => ∃ (k : Nat) (ys : List Int), iv = .int .i64 k ∧ k ≤ l ∧ l - k ≤ r ∧ ys.length ≤ 20000010 + 1100 * k ∧ Hid (ys = xs ++ (W.put l ++ (zs.take k).flatMap symB)) ∧ Hid (RowB wq B bv ys) ∧ Hid (Gr w wq v bv))
  case atStart => exact ⟨0, xs ++ W.put (l : Int), rfl, Nat.zero_le _, by omega, by omega, (by simp : xs ++ W.put (l : Int) = xs ++ (W.put l ++ (zs.take 0).flatMap symB)), HO1.out, G1.out⟩
  case round =>
    obtain ⟨k, ys, rfl, hk, hr, hyl, HY, HR, G⟩ := hrel
    have hBr : B ≤ wr.heap.size := Nat.le_trans hB G.out.grown.size
    by_cases hlt : k < l
    · rcases HV.out.cells with h0 | ⟨b, off, hA, hc⟩
      · omega
      have ⟨k0, k1, k2⟩ := hc k hlt
      have hne : v.ownBlock ≠ some b := HAP.out (by omega) b off hA
      have q0 := G.out.cell k0 hne
      have q1 := G.out.cell k1 hne
      have q2 := G.out.cell k2 hne
      have HFL : Hid _ := flat_snoc symB zs noSym k (by omega)
      have hfit := HF.out (zs.getD k noSym) (by simp [List.getD, show k < zs.length by omega])
      have HPC : Hid ((symB (zs.getD k noSym)).length ≤ 1100) := symB_len hfit.1
      subst hA
      have hii : (k : Int) < l := by omega
      have hin : 0 ≤ (k : Int) := by omega
      clear hc k0 k1 k2
      obtain ⟨z, hz⟩ : ∃ z, zs.getD k noSym = z := ⟨_, rfl⟩
      rw [hz] at q0 q1 q2 HFL hfit HPC
      obtain ⟨nm, kd, ps⟩ := z
      simp only at q0 q1 q2
      have HX : Hid _ := hfit
      clear hz hfit
      obtain ⟨WA, hWA⟩ : ∃ WA, wr.alloc (.cells #[.string nm, .int .i64 kd, .int .i64 ps] 66) = WA := ⟨_, rfl⟩
      have bA : Below wr.heap.size wr WA := by subst hWA; exact bl_one _ _
      have j0 : WA.cell? ⟨wr.heap.size, 0, none⟩ = some (.string nm) := by subst hWA; exact cell_last rfl rfl
      have j1 : WA.cell? ⟨wr.heap.size, 1, none⟩ = some (.int .i64 kd) := by subst hWA; exact cell_last rfl rfl
      have j2 : WA.cell? ⟨wr.heap.size, 2, none⟩ = some (.int .i64 ps) := by subst hWA; exact cell_last rfl rfl
      go_wp2_with fail
      refine (symput_any (own_kept HR.out bA) (Nat.le_trans hBr bA.size) nm kd ps HX.out.1 HX.out.2.1 HX.out.2.2.1 HX.out.2.2.2.1 HX.out.2.2.2.2 (by omega)).mono ?_
      rintro e w2 ⟨v2, rfl, ho2, g2⟩
      have HO2 : Hid (RowB w2 B v2 (ys ++ symB ⟨nm, kd, ps⟩)) := ho2
      have G2 : Hid (Gr w w2 v v2) := G.out.trans ((Gr.below _ bA).trans g2)
      have HY2 : Hid (ys ++ symB ⟨nm, kd, ps⟩ = xs ++ (W.put l ++ (zs.take (k + 1)).flatMap symB)) := by
        show _ = _
        rw [HFL.out, HY.out]
        simp
      have hyl2 : (ys ++ symB ⟨nm, kd, ps⟩).length ≤ 20000010 + 1100 * (k + 1) := by rw [List.length_append]; have := HPC.out; omega
      clear ho2 g2 j0 j1 j2
      go_wp2_with fail
      go_roundg (l - (k + 1))
      case measure => omega
      case rel => exact ⟨k + 1, _, by first | rfl | (congr 1; omega), by omega, Nat.le_refl _, hyl2, HY2.out, HO2.out, G2.out⟩
    · obtain rfl : k = l := by omega
      have HE : Hid (RowB wr B u0 (xs ++ (W.put k ++ zs.flatMap symB))) := by
        have := HR.out
        rw [HY.out, List.take_of_length_le (by omega)] at this
        exact this
      go_wp2_with fail
      go_ret
      exact ⟨_, rfl, HE.out, G.out⟩

end Go.Proofs.YtmplnkfjaeegdaaDoor

/- What form and Write come to. -/
namespace Go.Proofs.YtmplnkfjaeegdaaDoor
set_option maxRecDepth 100000
open Go.RowKit Go.Maps Go.Lib
set_option linter.unusedVariables false

/-- A row that is full, whatever its marks: append makes a new one. -/
theorem full_grow {w : World} {g n : Nat} {xs : List Value} (ty : TypeId) (hlen : xs.length = n) (hc : ∀ j u, xs[j]? = some u → w.cell? ⟨g, j, none⟩ = some u) (s : ByteArray) (hs : 0 < s.size) (hbytes : n + s.size ≤ 140737488355328) :
    ∃ v' w', (Builtin.append_ #[60, 9] ty #[.slice (some ⟨g, 0, none⟩) n n, .string s]).run Tryd.prog w = .ok v' w' ∧ w'.ownsRow w.heap.size 5 1 v' (n + s.size) (xs ++ strCells s) ∧ Below w.heap.size w w' := by
  obtain ⟨i0, hi, hz0, hz1, hz2⟩ := info_parts infoB
  have hsrc : Src Tryd.prog i0.size 9 (.string s) s.size (byteCells s) w := by rw [hz1]; exact Src.ofString w Tryd.underlying9 s
  have hold : (Builtin.firstCells i0.size n (.slice (some ⟨g, 0, none⟩) n n)).run Tryd.prog w.drew = .ok xs.toArray w.drew := by
    rw [hz1]
    exact run_firstCells_some w.drew 1 n ⟨g, 0, none⟩ n n xs (by omega) (fun j u hu => by rw [Addr.add_lit, Nat.zero_add, World.cell?_drew]; exact hc j u hu)
  have hr := run_append_grow_src (P := Tryd.prog) w 60 9 ty 5 i0 (.int .u8 0) Tryd.underlying60 hi hz0 (some ⟨g, 0, none⟩) n n xs hold (.string s) s.size (byteCells s) hsrc (by omega) (by omega) (growslice_fits (by omega) (by rw [hz2]; omega))
  have hge := grownCap_ge w (n + s.size) n 5
  have hcm : grownCap w (n + s.size) n 5 ≤ maxLen := grownCap_le_maxLen w (n + s.size) n 5 (by unfold maxLen; omega)
  have hL : (xs ++ strCells s).length = (n + s.size) * 1 := by rw [List.length_append, strCells_length, hlen, Nat.mul_one]
  have hz : (Value.int IntKind.u8 0).cells.size = 1 := rfl
  refine ⟨_, _, hr, ⟨hL, .inr ⟨w.heap.size, _, _, rfl, Nat.le_refl _, heap_alloc_new w.drew _, hge, hcm, ?_, ?_⟩⟩, ((Below.refl _ w).drew.alloc (by simp) _)⟩
  · have e : byteCells s = strCells s := rfl
    rw [e]
    simp only [Array.size_append, List.size_toArray, size_zeroCells, hz, hL]
    omega
  · have e : byteCells s = strCells s := rfl
    rw [e]
    simp only [Array.toList_append]
    rw [← hL]
    exact List.take_left
theorem wpList_append_full {ops : Array Oper} {rest : List Oper} {o : Oper} {a : Act} {Q : Exit → Act → World → Prop} {w : World} (hgd : o.guard = none) (sl x : Operand)
    (ho : o.op = .call { callee := .builtin .append, args := #[sl, x], argTypes := #[60, 9] })
    {g n : Nat} {xs : List Value} (hs : a.eval sl = .slice (some ⟨g, 0, none⟩) n n) (hlen : xs.length = n) (hc : ∀ j u, xs[j]? = some u → w.cell? ⟨g, j, none⟩ = some u) (s : ByteArray) (hx : a.eval x = .string s) (h0 : 0 < s.size)
    (hbytes : n + s.size ≤ 140737488355328)
    (h : ∀ v' w', w'.ownsRow w.heap.size 5 1 v' (n + s.size) (xs ++ strCells s) → Below w.heap.size w w' → wpList Tryd.prog ops Q rest (a.put o.dst v') w') : wpList Tryd.prog ops Q (o :: rest) a w := by
  refine wpList_plain hgd fun K hK => ?_
  obtain ⟨v', w', hr, h2, h3⟩ := full_grow o.type hlen hc s h0 hbytes
  unfold Oper.wp execOp
  simp only [ho, resolve, invoke, builtin, Sem.run_bind, Sem.run_pure, Result.andThen_ok, List.map_toArray, List.map_cons, List.map_nil, hs, hx, hr]
  exact hK _ _ (h v' w' h2 h3)

set_option maxRecDepth 100000 in
set_option maxHeartbeats 1000000 in
theorem number_full {w : World} {g k : Nat} {xs : List Int} (hk : xs.length = k) (hc : ∀ j u, (xs.map (Value.int .u8))[j]? = some u → w.cell? ⟨g, j, none⟩ = some u) (n : Int) (h0 : 0 ≤ n) (h1 : n ≤ 9223372036854775807) (hm : k ≤ 1000) :
    Calls Tryd.prog 47 #[.slice (some ⟨g, 0, none⟩) k k, .int .i64 n] w fun e w' => ∃ v', e = .returned v' ∧ RowB w' w.heap.size v' (xs ++ W.put n) ∧ Below w.heap.size w w' := by
  have HC : Hid _ := hc
  have hpl := W.put_length n
  have HPB : Hid _ := W.put_bd n h0 (by omega)
  clear hc
  go_enter Tryd.func47, Tryd.ntmps47
  go_wp2_with fail
  refine (put_any n h0 (by omega) _).mono ?_
  rintro e w1 ⟨rfl, hb1⟩
  have HC1 : Hid (∀ j u, (xs.map (Value.int .u8))[j]? = some u → w1.cell? ⟨g, j, none⟩ = some u) := fun j u hu => cell_thru hb1 (HC.out j u hu)
  have hsz : (strOfNums (W.put n)).size = (W.put n).length := size_of HPB.out
  go_wp2_with (first | (at_builtin; refine wpList_append_full rfl _ _ rfl (xs := xs.map (Value.int .u8)) rfl (by simpa using hk) HC1.out (strOfNums (W.put n)) rfl (by omega) (by omega) ?_) | go_in)
  intro v2 w2 ho2 hb2
  have q2 : Below w.heap.size w w2 := hb1.trans (hb2.mono hb1.size)
  have HO2 : Hid (RowB w2 w.heap.size v2 (xs ++ W.put n)) := by
    have : RowB w2 w1.heap.size v2 (xs ++ W.put n) := row_is ho2 (by rw [strCells_nums, nums_of HPB.out]; simp)
    have hsz1 := hb1.size
    refine ⟨this.1, ?_⟩
    rcases this.2 with h2 | ⟨g, cap, cur, hv, hg, r⟩
    · exact .inl h2
    · exact .inr ⟨g, cap, cur, hv, by omega, r⟩
  clear ho2 hb2
  go_wp2
  go_ret
  exact ⟨_, rfl, HO2.out, q2⟩

set_option maxRecDepth 100000 in
set_option maxHeartbeats 1000000 in
theorem text_full {w : World} {g k : Nat} {xs : List Int} (hk : xs.length = k) (hc : ∀ j u, (xs.map (Value.int .u8))[j]? = some u → w.cell? ⟨g, j, none⟩ = some u) (s : ByteArray) (hs : s.size ≤ 1000000000) (hm : k ≤ 1000) :
    Calls Tryd.prog 24 #[.slice (some ⟨g, 0, none⟩) k k, .string s] w fun e w' => ∃ v', e = .returned v' ∧ RowB w' w.heap.size v' (xs ++ txt s) ∧ Below w.heap.size w w' := by
  have HC : Hid _ := hc
  have hpl := W.put_length (s.size : Int)
  clear hc
  go_enter Tryd.func24, Tryd.ntmps24
  go_wp2_with fail
  refine (number_full hk HC.out s.size (by omega) (by omega) hm).mono ?_
  rintro e w1 ⟨v1, rfl, ho1, hb1⟩
  have HO1 : Hid (RowB w1 w.heap.size v1 (xs ++ W.put s.size)) := ho1
  have HLT : Hid (∀ x, v1.ownBlock = some x → w.heap.size ≤ x) := fun x hx => (ho1.lt x hx).1
  have hl1 : (xs ++ W.put s.size).length ≤ 1010 := by rw [List.length_append]; omega
  have hB1 := hb1.size
  clear ho1
  go_wp2_with (first | (at_builtin; refine wpList_append_str rfl _ _ rfl rfl HO1.out s rfl (by omega) hB1 ?_) | go_in)
  intro v2 w2 ho2 hg2
  have q2 : Below w.heap.size w w2 := hb1.trans (hg2.toBelow hB1 HLT.out)
  have HO2 : Hid (RowB w2 w.heap.size v2 (xs ++ txt s)) := by
    exact row_is ho2 (by rw [strCells_nums]; simp [txt])
  clear ho2 hg2
  go_wp2
  go_ret
  exact ⟨_, rfl, HO2.out, q2⟩

/-- An object's form. -/
def formB (o : ObjD) : List Int := [67, 79, 84, 49] ++ txt o.code ++ (W.put o.data.length ++ o.data.flatMap long) ++ (W.put o.syms.length ++ o.syms.flatMap symB) ++ (W.put o.rels.length ++ o.rels.flatMap relB)

theorem getD_of_mem {α : Type} {l : List α} {x : α} (h : x ∈ l) (d : α) : ∃ i, i < l.length ∧ l.getD i d = x := by
  obtain ⟨i, hi, rfl⟩ := List.getElem_of_mem h
  exact ⟨i, hi, by simp [List.getD, hi]⟩
theorem syms_fit {cl dl : Nat} {ss : List Sym} (h : symsOk cl dl ss = true) (h1 : cl ≤ 65536) (h2 : dl ≤ 4096) : ss.length ≤ 1000 ∧ ∀ s ∈ ss, SymFit s := by
  unfold symsOk at h
  simp only [Bool.and_eq_true, decide_eq_true_eq, List.all_eq_true, List.mem_range] at h
  refine ⟨h.1, fun s hs => ?_⟩
  obtain ⟨i, hi, rfl⟩ := getD_of_mem hs noSym
  have := h.2 i hi
  unfold symAt symOk nameOk roomOf at this
  simp only [Bool.and_eq_true, decide_eq_true_eq] at this
  obtain ⟨-, ⟨hn1, hn2⟩, hp0, hp1⟩ := this
  unfold SymFit
  split at hp1
  · next hk => omega
  · split at hp1
    · next hk => omega
    · omega
theorem rels_fit {cl : Nat} {rs : List Rel} (h : relsOk cl rs = true) (h1 : cl ≤ 65536) (hw : ∀ r ∈ rs, (Lit.int .i64 r.add).wf = true) : rs.length ≤ 8000 ∧ ∀ r ∈ rs, RelFit r := by
  unfold relsOk at h
  simp only [Bool.and_eq_true, decide_eq_true_eq, List.all_eq_true, List.mem_range] at h
  have pos : ∀ i, i < rs.length → 0 ≤ (rs.getD i noRel).pos := by
    intro i
    induction i with
    | zero =>
      intro hi
      have := h.2 0 hi
      unfold relOk freeAt at this
      simp only [Bool.and_eq_true, decide_eq_true_eq, if_pos] at this
      exact this.1.1
    | succ i ih =>
      intro hi
      have h0 := ih (by omega)
      have := h.2 (i + 1) hi
      unfold relOk freeAt at this
      simp only [Bool.and_eq_true, decide_eq_true_eq, if_neg (Nat.succ_ne_zero i), Nat.add_sub_cancel] at this
      omega
  refine ⟨h.1, fun r hr => ?_⟩
  have hwr := hw r hr
  obtain ⟨i, hi, rfl⟩ := getD_of_mem hr noRel
  have hp := pos i hi
  have := h.2 i hi
  unfold relOk nameOk at this
  simp only [Bool.and_eq_true, decide_eq_true_eq] at this
  obtain ⟨⟨-, hq⟩, ⟨hn1, hn2⟩, ha⟩ := this
  have hk : (rs.getD i noRel).kind = 1 ∨ (rs.getD i noRel).kind = 2 := by
    unfold addOk at ha
    by_cases c1 : (rs.getD i noRel).kind = 1
    · exact .inl c1
    · by_cases c2 : (rs.getD i noRel).kind = 2
      · exact .inr c2
      · rw [if_neg c1, if_neg c2] at ha
        cases ha
  unfold RelFit
  exact ⟨by omega, by omega, by omega, hp, by omega, hwr⟩
theorem may_parts {o : ObjD} (h : o.may = true) : o.code.size ≤ 65536 ∧ o.data.length ≤ 4096 ∧ symsOk o.code.size o.data.length o.syms = true ∧ relsOk o.code.size o.rels = true := by
  unfold ObjD.may at h
  simp only [Bool.and_eq_true, decide_eq_true_eq] at h
  exact ⟨h.1.1, h.1.2, h.2.1, h.2.2⟩
theorem row_base {w : World} {B B' : Nat} {v : Value} {xs : List Int} (o : RowB w B v xs) (h : B' ≤ B) : RowB w B' v xs := by
  refine ⟨o.1, ?_⟩
  rcases o.2 with h2 | ⟨g, cap, cur, hv, hg, r⟩
  · exact .inl h2
  · exact .inr ⟨g, cap, cur, hv, Nat.le_trans h hg, r⟩
theorem row_ne {w : World} {B : Nat} {v : Value} {xs : List Int} (o : RowB w (B + 1) v xs) : v.ownBlock ≠ some B := fun e => by have := (o.lt B e).1; omega
theorem row_below {w w' : World} {B : Nat} {v v' : Value} {xs : List Int} (o : RowB w (B + 1) v xs) (g : Gr w w' v v') (hB : B + 1 ≤ w.heap.size) : Below B w w' := g.toBelow (by omega) (fun x hx => by have := (o.lt x hx).1; omega)
theorem apart_I {w w' : World} {v : Value} {xs zs : List Int} (ho : RowB w' w.heap.size v xs) {a : Option Addr} {l c : Nat} (h : IntsV w a l c zs) (hl : 0 < l) : Apart v a := fun b off e hv => by
  have := (ho.lt b hv).1
  rcases h.cells with h0 | ⟨b', off', e', hc⟩
  · omega
  · rw [e] at e'
    cases e'
    have : b < w.heap.size := World.block_lt_of_cell? w ⟨b, off + 0, none⟩ (hc 0 hl)
    omega
theorem apart_S {w w' : World} {v : Value} {xs : List Int} {zs : List Sym} (ho : RowB w' w.heap.size v xs) {a : Option Addr} {l c : Nat} (h : SymsV w a l c zs) (hl : 0 < l) : Apart v a := fun b off e hv => by
  have := (ho.lt b hv).1
  rcases h.cells with h0 | ⟨b', off', e', hc⟩
  · omega
  · rw [e] at e'
    cases e'
    have : b < w.heap.size := World.block_lt_of_cell? w ⟨b, off + 0 * 3, none⟩ (hc 0 hl).1
    omega
theorem apart_R {w w' : World} {v : Value} {xs : List Int} {zs : List Rel} (ho : RowB w' w.heap.size v xs) {a : Option Addr} {l c : Nat} (h : RelsV w a l c zs) (hl : 0 < l) : Apart v a := fun b off e hv => by
  have := (ho.lt b hv).1
  rcases h.cells with h0 | ⟨b', off', e', hc⟩
  · omega
  · rw [e] at e'
    cases e'
    have : b < w.heap.size := World.block_lt_of_cell? w ⟨b, off + 0 * 4, none⟩ (hc 0 hl).1
    omega
theorem flat_len {α : Type} (f : α → List Int) (m : Nat) : ∀ (l : List α), (∀ x ∈ l, (f x).length ≤ m) → (l.flatMap f).length ≤ m * l.length
  | [], _ => by simp
  | x :: r, h => by
    have h1 := h x (by simp)
    have h2 := flat_len f m r (fun y hy => h y (by simp [hy]))
    simp only [List.flatMap_cons, List.length_append, List.length_cons]
    rw [Nat.mul_succ]
    omega

end Go.Proofs.YtmplnkfjaeegdaaDoor

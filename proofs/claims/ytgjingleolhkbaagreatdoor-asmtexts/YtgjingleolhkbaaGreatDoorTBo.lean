import Derived.Test.YtgjingleolhkbaaGreatDoorTBm
import Derived.Test.YtgjingleolhkbaaGreatDoorTBn
import Derived.Test.YtgjingleolhkbaaGreatDoorTAj
import Derived.Test.YtgjingleolhkbaaGreatDoorTBh
import Derived.Test.YtgjingleolhkbaaGreatDoorTBi
namespace Go.Proofs.YtgjingleolhkbaaGreatDoor
open Go.RowKit Go.Maps Go.Lib
set_option linter.unusedVariables false
set_option linter.unusedSimpArgs false

set_option maxRecDepth 100000 in
set_option maxHeartbeats 16000000 in
theorem ritem_e3 {w : World} {a : Option Addr} {n c : Nat} {f : X.By} {r : List X.By} (h : StrV w a n c (f :: r)) (hf : f ≠ []) (hn : n ≤ 200000) (hr : 2 ≤ r.length) (eW : f ≠ X.wWords) :
  Calls Tryz.prog 37 #[.slice a n c] w (TakeOut w (X.read (f :: r))) := by
 have HV : Hid _ := h
 have hcount : r.length + 1 = n := by have := h.count; simpa using this
 have HCT : Hid _ := hcount
 have h0n2 : 0 < n := by omega
 have h0n : (0 : Int) < n := by omega
 obtain ⟨b, off, s0, rfl, cw0, hs0, hz0⟩ := h.at (i := 0) (by omega)
 simp only [Nat.add_zero] at cw0
 have hs0' : s0.data.toList = f := hs0
 have hsz : 0 < s0.size := by
  rw [← len_list, hs0']
  exact List.length_pos_iff.2 hf
 obtain ⟨m, hm⟩ : ∃ m, s0.size = m + 1 := ⟨s0.size - 1, by omega⟩
 have hms : m < s0.size := by omega
 have hms' : (m : Int) < s0.size := by omega
 have hml : m ≤ s0.size := by omega
 have hwm : IntKind.i64.wrap ((s0.size : Int) - 1) = (m : Int) := by rw [IntKind.wrap_i64]; omega
 have HLAST : Hid (s0.data.toList.getLast? = some (s0[m]'hms)) := last_eq hm
 have HDROP : Hid _ := drop_last hm
 have HHS : Hid (∀ y : World, Below w.heap.size w y → y.cell? ⟨b, off, none⟩ = some (.string s0)) := fun y hy => cell_thru hy cw0
 have HF : Hid (s0.data.toList = f) := hs0'
 have HBW : Hid (b < w.heap.size) := World.block_lt_of_cell? w ⟨b, off, none⟩ cw0
 have HFN : Hid _ := hf
 have H1 : Hid (r ≠ [] → ∀ y : World, Below w.heap.size w y → ∃ s1 : ByteArray, y.cell? ⟨b, off + 1, none⟩ = some (.string s1) ∧ r[0]? = some s1.data.toList ∧ s1.size ≤ 200000) := fun hr y hy => by
  have hrl := List.length_pos_iff.2 hr
  obtain ⟨b', off', s1, he, cw, hs, hz⟩ := (HV.out.below hy).at (i := 1) (by omega)
  cases he
  refine ⟨s1, cw, ?_, hz⟩
  rw [hs]
  simp [List.getD, hrl]
 have HT0 : Hid (Tx w ((w.alloc (.cells #[.int .i64 0, .string { data := #[] }, .int .i64 0, .int .i64 0, .int .i64 0, .int .i64 0, .slice none 0 0] 44)).alloc (.cells #[.int .i64 0, .string { data := #[] }, .int .i64 0, .int .i64 0, .int .i64 0, .int .i64 0, .slice none 0 0] 44)) X.noIt (.slice none 0 0)) := Tx.new w _
 clear h hf hs0 hs0' hcount hsz hm
 have hr0 : r ≠ [] := fun e => by rw [e] at hr; simp at hr
 have n1 : n ≠ 1 := by have := HCT.out; omega
 have n2 : n ≠ 2 := by have := HCT.out; omega
 have qn1 : ((n : Int) == 1) = false := by simp; omega
 have qn2 : ((n : Int) == 2) = false := by simp; omega
 have qn3 : (2 : Int) < n := by have := HCT.out; omega
 have h1n : 1 < n := by have := HCT.out; omega
 have qW : (s0.toList == [46, 119, 111, 114, 100, 115]) = false := by rw [ByteArray.toList_eq]; exact beq_eq_false_iff_ne.2 (fun e => eW (HF.out.symm.trans e))
 have HL : Hid (X.read (f :: r) = X.insD? f r) := X.read_other (fun e => hr0 e.2) (fun e => by have := HCT.out; have := e.2; omega) (fun e => by have := HCT.out; have := e.2; omega) (fun e => eW e.1)
 clear eW
 go_enter Tryz.func37, Tryz.ntmps37
 go_wp2_with fail
 obtain ⟨Y, hY⟩ : ∃ Y, ((w.alloc (.cells #[.int .i64 0, .string { data := #[] }, .int .i64 0, .int .i64 0, .int .i64 0, .int .i64 0, .slice none 0 0] 44)).alloc (.cells #[.int .i64 0, .string { data := #[] }, .int .i64 0, .int .i64 0, .int .i64 0, .int .i64 0, .slice none 0 0] 44)) = Y := ⟨_, rfl⟩
 rw [hY]
 rw [hY] at HT0
 have HYS : Hid (∀ y : World, Below Y.heap.size Y y → y.cell? ⟨b, off, none⟩ = some (.string s0)) := fun y hy => HHS.out y (HT0.out.b.trans (hy.mono HT0.out.b.size))
 clear hY
 refine wp_region_held_drew (S := (fun y : World => y.cell? ⟨b, off, none⟩ = some (.string s0))) (by kernel_rfl) (HYS.out _ (Below.refl _ _).drew) (fun hHeld => ?_)
 refine tj 0 ?_
 simp only [Act.put, zA, zB, zC]
 refine tj 1 ?_
 simp only [Act.put, zA, zB, zC]
 refine tj 2 ?_
 simp only [Act.put, zA, zB, zC]
 refine tj 3 ?_
 simp only [Act.put, zA, zB, zC]
 refine tj 4 ?_
 simp only [Act.put, zA, zB, zC]
 refine tj 5 ?_
 simp only [Act.put, zA, zB, zC]
 refine tj 6 ?_
 simp only [Act.put, zA, zB, zC]
 refine tj 7 ?_
 simp only [Act.put, zA, zB, zC]
 refine tj 8 ?_
 simp only [Act.put, zA, zB, zC]
 refine tj 9 ?_
 simp only [Act.put, zA, zB, zC]
 refine wpAnyH_done (by kernel_rfl) ?_ _
 clear hHeld
 have HTD : Hid (Tx w Y.drew X.noIt (.slice none 0 0)) := HT0.out.below (Below.refl _ _).drew
 obtain ⟨Yd, hYd⟩ : ∃ Yd, Y.drew = Yd := ⟨_, rfl⟩
 rw [hYd] at HTD ⊢
 have HYD : Hid (∀ y : World, Below Yd.heap.size Yd y → y.cell? ⟨b, off, none⟩ = some (.string s0)) := fun y hy => HHS.out y (HTD.out.b.trans (hy.mono HTD.out.b.size))
 clear hYd HYS HT0
 have cwY := HYD.out _ (Below.refl _ _)
 have hcall := rinstruction_any (HV.out.below HTD.out.b) HFN.out
 rw [← HL.out] at hcall
 have c0 := HTD.out.r.c 0 _ rfl; have c1 := HTD.out.r.c 1 _ rfl; have c2 := HTD.out.r.c 2 _ rfl; have c3 := HTD.out.r.c 3 _ rfl; have c4 := HTD.out.r.c 4 _ rfl; have c5 := HTD.out.r.c 5 _ rfl; have c6 := HTD.out.r.c 6 _ rfl
 have f0 := HTD.out.r.f 0; have f1 := HTD.out.r.f 1; have f2 := HTD.out.r.f 2; have f3 := HTD.out.r.f 3; have f4 := HTD.out.r.f 4; have f5 := HTD.out.r.f 5; have f6 := HTD.out.r.f 6
 go_wp2_with fail
 refine hcall.mono ?_
 rintro e y7 ⟨t, aw, lw, cw, ok, he, h1, h2, h3, h4, h5⟩
 rw [he]
 have HB7 : Hid (Below Yd.heap.size Yd y7) := h5
 have HRES : Hid (Bx y7 w.heap.size [.int .i64 0, .string { data := #[] }, .int .i64 0, .int .i64 0, .int .i64 0, .int .i64 0, .slice none 0 0]) := HTD.out.r.below h5
 have H12 : Hid _ := And.intro h1 h2
 have H3 : Hid _ := h3
 have HOWN : Hid (y7.ownsRow (w.heap.size + 1) 2 1 (.slice aw lw cw) lw (iC t.words)) := own_mono h4 (by have := HTD.out.r.lt; omega)
 clear h1 h2 h3 h4 h5 he e hcall c0 c1 c2 c3 c4 c5 c6 f0 f1 f2 f3 f4 f5 f6
 have c0 := HRES.out.c 0 _ rfl; have c1 := HRES.out.c 1 _ rfl; have c2 := HRES.out.c 2 _ rfl; have c3 := HRES.out.c 3 _ rfl; have c4 := HRES.out.c 4 _ rfl; have c5 := HRES.out.c 5 _ rfl; have c6 := HRES.out.c 6 _ rfl
 have f0 := HRES.out.f 0; have f1 := HRES.out.f 1; have f2 := HRES.out.f 2; have f3 := HRES.out.f 3; have f4 := HRES.out.f 4; have f5 := HRES.out.f 5; have f6 := HRES.out.f 6
 go_wp2_with fail
 have HF := Bx.put7 HRES.out rfl (.int .i64 t.kind) (.string (X.str t.name)) (.int .i64 t.op) (.int .i64 t.a) (.int .i64 t.b) (.int .i64 t.n) (.slice aw lw cw)
 have HE : Below w.heap.size w (((((((y7.setCell ⟨w.heap.size, 0, none⟩ (.int .i64 t.kind)).setCell ⟨w.heap.size, 1, none⟩ (.string (X.str t.name))).setCell ⟨w.heap.size, 2, none⟩ (.int .i64 t.op)).setCell ⟨w.heap.size, 3, none⟩ (.int .i64 t.a)).setCell ⟨w.heap.size, 4, none⟩ (.int .i64 t.b)).setCell ⟨w.heap.size, 5, none⟩ (.int .i64 t.n)).setCell ⟨w.heap.size, 6, none⟩ (.slice aw lw cw)) := below_put7 (HTD.out.b.trans (HB7.out.mono HTD.out.b.size)) (Nat.le_refl _)
 have HO9 : World.ownsRow (((((((y7.setCell ⟨w.heap.size, 0, none⟩ (.int .i64 t.kind)).setCell ⟨w.heap.size, 1, none⟩ (.string (X.str t.name))).setCell ⟨w.heap.size, 2, none⟩ (.int .i64 t.op)).setCell ⟨w.heap.size, 3, none⟩ (.int .i64 t.a)).setCell ⟨w.heap.size, 4, none⟩ (.int .i64 t.b)).setCell ⟨w.heap.size, 5, none⟩ (.int .i64 t.n)).setCell ⟨w.heap.size, 6, none⟩ (.slice aw lw cw)) (w.heap.size + 1) 2 1 (.slice aw lw cw) lw (iC t.words) := put7_own HOWN.out (by omega)
 generalize (((((((y7.setCell ⟨w.heap.size, 0, none⟩ (.int .i64 t.kind)).setCell ⟨w.heap.size, 1, none⟩ (.string (X.str t.name))).setCell ⟨w.heap.size, 2, none⟩ (.int .i64 t.op)).setCell ⟨w.heap.size, 3, none⟩ (.int .i64 t.a)).setCell ⟨w.heap.size, 4, none⟩ (.int .i64 t.b)).setCell ⟨w.heap.size, 5, none⟩ (.int .i64 t.n)).setCell ⟨w.heap.size, 6, none⟩ (.slice aw lw cw)) = Wf at HF HE HO9 ⊢
 have k0 := HF.c 0 _ rfl; have k1 := HF.c 1 _ rfl; have k2 := HF.c 2 _ rfl; have k3 := HF.c 3 _ rfl; have k4 := HF.c 4 _ rfl; have k5 := HF.c 5 _ rfl; have k6 := HF.c 6 _ rfl
 refine bodyPost_ret (v := .tuple #[.agg #[.int .i64 t.kind, .string (X.str t.name), .int .i64 t.op, .int .i64 t.a, .int .i64 t.b, .int .i64 t.n, .slice aw lw cw], .bool ok]) (by simp [results, Tryz.results37, go_sem, k0, k1, k2, k3, k4, k5, k6]) rfl ?_
 exact ⟨t, aw, lw, cw, ok, rfl, H12.out.1, H12.out.2, H3.out, own_mono HO9 (by omega), HE⟩
end Go.Proofs.YtgjingleolhkbaaGreatDoor

namespace Go.Proofs.YtgjingleolhkbaaGreatDoor
open Go.RowKit Go.Maps Go.Lib
set_option linter.unusedVariables false

theorem ritem_any {w : World} {a : Option Addr} {n c : Nat} {f : X.By} {r : List X.By} (h : StrV w a n c (f :: r)) (hf : f ≠ []) (hn : n ≤ 200000) :
  Calls Tryz.prog 37 #[.slice a n c] w (TakeOut w (X.read (f :: r))) := by
 by_cases hr : r = []
 ·by_cases e58 : f.getLast? = some 58
  ·exact ritem_label h hf hn hr e58
  ·exact ritem_e1 h hf hn hr e58
 ·by_cases h1 : r.length = 1
  ·by_cases eG : f = X.wGlobal
   ·exact ritem_glob h hf hn h1 eG
   ·by_cases eT : f = X.wThread
    ·exact ritem_thread h hf hn h1 eG eT
    ·exact ritem_e2 h hf hn h1 eG eT
  ·have h2 : 2 ≤ r.length := by
    have := List.length_pos_iff.2 hr
    omega
   by_cases eW : f = X.wWords
   ·exact ritem_words h hf hn h2 eW
   ·exact ritem_e3 h hf hn h2 eW

end Go.Proofs.YtgjingleolhkbaaGreatDoor

namespace Go.Proofs.YtgjingleolhkbaaGreatDoor
open Go.RowKit Go.Maps Go.Lib
set_option linter.unusedVariables false
set_option linter.unusedSimpArgs false

theorem fieldsGo_ne : ∀ (l cur : X.By), ∀ x ∈ X.fieldsGo cur l, x ≠ []
 | [], cur, x, hx => by
  rw [X.fieldsGo_end] at hx
  by_cases h : cur = []
  ·rw [if_pos h] at hx; cases hx
  ·rw [if_neg h] at hx; simp at hx; rw [hx]; exact h
 | c :: l, cur, x, hx => by
  by_cases h : c = 32
  ·subst h
   rw [X.fieldsGo_sp] at hx
   rcases List.mem_append.1 hx with hx | hx
   ·by_cases h : cur = []
    ·rw [if_pos h] at hx; cases hx
    ·rw [if_neg h] at hx; simp at hx; rw [hx]; exact h
   ·exact fieldsGo_ne l [] x hx
  ·rw [X.fieldsGo_step h] at hx
   exact fieldsGo_ne l _ x hx
theorem words_ne {l : X.By} : ∀ x ∈ X.wordsOf l, x ≠ [] := fun x hx => fieldsGo_ne _ _ x hx
def some1 (ws : List X.By) : List (List X.By) := if ws = [] then [] else [ws]
theorem wlOf_cons (x : X.By) (ls : List X.By) : wlOf (x :: ls) = some1 (X.wordsOf x) ++ wlOf ls := by
 unfold wlOf some1
 rw [List.map_cons, List.filter_cons]
 by_cases h : X.wordsOf x = []
 ·simp [h]
 ·simp [h]
theorem wl_line {L r : X.By} (h : ∀ c ∈ L, c ≠ 10) : X.wl (L ++ 10 :: r) = some1 (X.wordsOf L) ++ X.wl r := by
 rw [wl_eq, X.lines_app L r h, wlOf_cons]; rfl
theorem wl_last {L : X.By} (h : ∀ c ∈ L, c ≠ 10) : X.wl L = some1 (X.wordsOf L) := by
 rw [wl_eq, X.lines_one L h, wlOf_cons]
 simp [wlOf]
theorem drop_mid {S : X.By} {fr k : Nat} (h : fr ≤ k) (hk : k ≤ S.length) : S.drop fr = (S.take k).drop fr ++ S.drop k := by
 conv => lhs; rw [← List.take_append_drop k S]
 rw [List.drop_append_of_le_length (by rw [List.length_take]; omega)]

end Go.Proofs.YtgjingleolhkbaaGreatDoor

namespace Go.Proofs.YtgjingleolhkbaaGreatDoor
open Go.RowKit Go.Maps Go.Lib
set_option linter.unusedVariables false
set_option linter.unusedSimpArgs false

theorem cell_last {w : World} {A : Array Value} {t g j : Nat} (hg : g = w.heap.size) {v : Value} (hv : A[j]? = some v) : (w.alloc (.cells A t)).cell? ⟨g, j, none⟩ = some v := by
 subst hg
 simp [hv]
def ItC (B : Nat) (W : World) (tv : List (X.It × Value)) : Prop := ∀ p ∈ tv, ∃ aw lw cw, p.2 = .slice aw lw cw ∧ W.ownsRow B 2 1 (.slice aw lw cw) lw (iC p.1.words)
theorem ItC.kept {B : Nat} {W W' : World} {tv : List (X.It × Value)} {r : Option Nat} (h : ItC B W tv) (hg : W.grownBy W' r) (hr : ∀ b o, r = some b → W.heap[b]? = some o → ∀ cs fr, o ≠ .cells cs 2 fr) : ItC B W' tv := by
 intro p hp
 obtain ⟨aw, lw, cw, e, ho⟩ := h p hp
 refine ⟨aw, lw, cw, e, ?_⟩
 rcases ho.2 with ⟨e1, -⟩ | ⟨g, cap, cur, e1, hb, hh, -⟩
 ·exact ho.kept hg (.inl (by rw [e1]; rfl))
 ·refine ho.kept hg (.inr fun e2 => ?_)
  have e3 : (Value.slice aw lw cw).ownBlock = some g := by rw [e1]; rfl
  rw [e3] at e2
  exact hr g _ e2.symm hh _ _ rfl
theorem ItC.below {B : Nat} {W W' : World} {tv : List (X.It × Value)} (h : ItC B W tv) (hb : Below W.heap.size W W') : ItC B W' tv := h.kept (gb_of_below hb none) (fun b o e => by cases e)

end Go.Proofs.YtgjingleolhkbaaGreatDoor

namespace Go.Proofs.YtgjingleolhkbaaGreatDoor
open Go.RowKit Go.Maps Go.Lib
set_option linter.unusedVariables false
set_option linter.unusedSimpArgs false

structure DI (S : X.By) (fr k : Nat) (tv : List (X.It × Value)) : Prop where
 le : fr ≤ k
 no : ∀ c ∈ (S.take k).drop fr, c ≠ 10
 fin : k = S.length + 1 → fr = k
 ex : ∃ pre, X.wl S = pre ++ X.wl (S.drop fr) ∧ X.reads pre = some (tv.map (·.1))
theorem DI.start (S : X.By) : DI S 0 0 [] := ⟨Nat.le_refl _, by simp, by intro h; omega, [], by simp, rfl⟩
theorem take_drop_succ {S : X.By} {fr k : Nat} {c : UInt8} (h : fr ≤ k) (hc : S[k]? = some c) : (S.take (k + 1)).drop fr = (S.take k).drop fr ++ [c] := by
 have hk : k < S.length := (List.getElem?_eq_some_iff.1 hc).1
 rw [List.take_add_one, hc, Option.toList_some, List.drop_append_of_le_length (by rw [List.length_take]; omega)]
theorem DI.step {S : X.By} {fr k : Nat} {tv : List (X.It × Value)} {c : UInt8} (h : DI S fr k tv) (hc : S[k]? = some c) (h10 : c ≠ 10) : DI S fr (k + 1) tv := by
 have hk : k < S.length := (List.getElem?_eq_some_iff.1 hc).1
 refine ⟨Nat.le_succ_of_le h.le, ?_, (fun e => by omega), h.ex⟩
 rw [take_drop_succ h.le hc]
 intro x hx
 rcases List.mem_append.1 hx with hx | hx
 ·exact h.no x hx
 ·simp at hx; rw [hx]; exact h10
theorem DI.line {S : X.By} {fr k : Nat} {tv : List (X.It × Value)} (h : DI S fr k tv) (he : S[k]? = some 10 ∨ k = S.length) : X.wl (S.drop fr) = some1 (X.wordsOf ((S.take k).drop fr)) ++ X.wl (S.drop (k + 1)) := by
 rcases he with he | he
 ·have hk : k < S.length := (List.getElem?_eq_some_iff.1 he).1
  have e : S.drop k = 10 :: S.drop (k + 1) := by
   rw [List.drop_eq_getElem_cons hk]
   congr 1
   rw [List.getElem?_eq_getElem hk] at he
   exact Option.some.inj he
  rw [drop_mid h.le (Nat.le_of_lt hk), e, wl_line h.no]
 ·subst he
  rw [List.drop_eq_nil_of_le (Nat.le_succ _), X.wl_nil, List.append_nil]
  have := h.no
  rw [List.take_length] at this ⊢
  exact wl_last this
theorem DI.skip {S : X.By} {fr k : Nat} {tv : List (X.It × Value)} (h : DI S fr k tv) (he : S[k]? = some 10 ∨ k = S.length) (hw : X.wordsOf ((S.take k).drop fr) = []) : DI S (k + 1) (k + 1) tv := by
 obtain ⟨pre, h1, h2⟩ := h.ex
 refine ⟨Nat.le_refl _, ?_, (fun _ => rfl), pre, ?_, h2⟩
 ·rw [List.drop_eq_nil_of_le (by rw [List.length_take]; omega)]; simp
 ·rw [h1, h.line he, hw]; simp [some1]
theorem DI.more {S : X.By} {fr k : Nat} {tv : List (X.It × Value)} (h : DI S fr k tv) (he : S[k]? = some 10 ∨ k = S.length) {ws : List X.By} (hw : X.wordsOf ((S.take k).drop fr) = ws) (hne : ws ≠ []) {t : X.It} (ht : X.read ws = some t) (v : Value) : DI S (k + 1) (k + 1) (tv ++ [(t, v)]) := by
 obtain ⟨pre, h1, h2⟩ := h.ex
 refine ⟨Nat.le_refl _, ?_, (fun _ => rfl), pre ++ [ws], ?_, ?_⟩
 ·rw [List.drop_eq_nil_of_le (by rw [List.length_take]; omega)]; simp
 ·rw [h1, h.line he, hw]; simp [some1, hne]
 ·rw [reads_snoc h2 ht]; simp
theorem DI.bad {S : X.By} {fr k : Nat} {tv : List (X.It × Value)} (h : DI S fr k tv) (he : S[k]? = some 10 ∨ k = S.length) {ws : List X.By} (hw : X.wordsOf ((S.take k).drop fr) = ws) (hne : ws ≠ []) (ht : X.read ws = none) : X.reads (X.wl S) = none := by
 obtain ⟨pre, h1, h2⟩ := h.ex
 rw [h1, h.line he, hw]
 simp only [some1, hne, if_false]
 rw [← List.append_assoc]
 exact reads_bad ht
theorem DI.many {S : X.By} {fr k : Nat} {tv : List (X.It × Value)} (h : DI S fr k tv) (he : S[k]? = some 10 ∨ k = S.length) {ws : List X.By} (hw : X.wordsOf ((S.take k).drop fr) = ws) (hne : ws ≠ []) (hn : 20000 ≤ tv.length) : ∀ l, X.reads (X.wl S) = Option.some l → ¬ l.length ≤ 20000 := by
 obtain ⟨pre, h1, h2⟩ := h.ex
 have h3 := X.reads_length h2
 rw [List.length_map] at h3
 rw [h1, h.line he, hw]
 simp only [some1, hne, if_false]
 rw [← List.append_assoc]
 exact reads_many (by rw [List.length_append, List.length_singleton]; omega)
theorem DI.end {S : X.By} {fr k : Nat} {tv : List (X.It × Value)} (h : DI S fr k tv) (hk : k = S.length + 1) (hs : S.length ≤ 200000) (hn : tv.length ≤ 20000) : X.parse S = (tv.map (·.1), 0) := by
 obtain ⟨pre, h1, h2⟩ := h.ex
 have := h.fin hk
 rw [List.drop_eq_nil_of_le (by omega), X.wl_nil, List.append_nil] at h1
 unfold X.parse
 rw [if_neg (by omega), h1, h2]
 simp [hn]
theorem str_of_own' {w : World} {B c : Nat} {a : Option Addr} {ws : List X.By} (h : w.ownsRow B 9 1 (.slice a ws.length c) ws.length (sC ws)) (hs : ∀ x ∈ ws, x.length ≤ 200000) : StrV w a ws.length c ws := by
 rcases h.2 with ⟨e1, e2⟩ | ⟨g', cap, cur, e1, hb, hh, h1, h2, -⟩
 ·injection e1 with e1 _ e3
  subst e1 e3
  exact ⟨rfl, ⟨by omega, by unfold maxLen; omega⟩, hs, .inl e2⟩
 ·injection e1 with e1 _ e3
  subst e1 e3
  refine ⟨rfl, ⟨h1, h2⟩, hs, .inr ⟨_, 0, rfl, fun i hi => ?_⟩⟩
  rw [Nat.zero_add, h.cellAt i (by omega)]
  unfold sC
  rw [List.getElem?_map]
  simp [List.getD, hi]

set_option maxRecDepth 100000 in
set_option maxHeartbeats 8000000 in
theorem rparse_any (s : ByteArray) (hs : s.size ≤ maxLen) (w : World) :
  Calls Tryz.prog 16 #[.string s] w (ParseOut w (X.parse s.data.toList)) := by
 unfold maxLen at hs
 by_cases hbig : 200000 < s.size
 ·have HR : Hid (X.parse s.data.toList = ([], 8)) := by show _ = _; unfold X.parse; rw [if_pos (by rw [len_list]; exact hbig)]
  go_enter Tryz.func16, Tryz.ntmps16
  go_wp2_with fail
  go_ret2
  exact ParseOut.none HR.out (Below.refl _ _)
 have hsm : s.size ≤ 200000 := by omega
 have hdec : ¬ (200000 : Int) < s.size := by omega
 obtain ⟨S, hS⟩ : ∃ S, s.data.toList = S := ⟨_, rfl⟩
 have HLN : Hid (S.length = s.size) := by show _ = _; rw [← hS]; exact len_list s
 have HGET : Hid (∀ k (hk : k < s.size), S[k]? = some s[k]) := fun k hk => by rw [← hS]; exact get_list s k hk
 have HEX : Hid (∀ a b, s.extract a b = X.str ((S.take b).drop a)) := fun a b => by rw [← hS]; exact extract_eq s a b
 rw [hS]
 obtain ⟨i2, hi2, hz20, hz21, hz22⟩ := info_parts infoIt
 clear hbig hs hS
 go_enter Tryz.func16, Tryz.ntmps16
 go_wp2_with fail
 go_loopg [4, 5, 6] (s.size + 1) (fun r lv fv iv wq => ∃ (k fr : Nat) (tv : List (X.It × Value)) (ao : Option Addr) (co : Nat), lv = .slice ao tv.length co ∧ fv = .int .i64 fr ∧ iv = .int .i64 k ∧ k ≤ s.size + 1 ∧ s.size + 1 - k ≤ r ∧ fr ≤ k ∧ tv.length ≤ 20000 ∧ Hid (DI S fr k tv) ∧ Hid (wq.ownsRow w.heap.size 44 7 (.slice ao tv.length co) tv.length (tv.flatMap itF)) ∧ Hid (ItO w.heap.size wq tv) ∧ Hid (Below w.heap.size w wq))
 case atStart => exact ⟨0, 0, [], none, 0, rfl, rfl, rfl, Nat.zero_le _, by omega, Nat.le_refl _, by simp, DI.start S, World.ownsRow_nil _ _ _ _, (fun p hp => by simp at hp : ItO w.heap.size w []), Below.refl _ _⟩
 case round =>
  obtain ⟨k, fr, tv, ao, co, rfl, rfl, rfl, hk, hr, hfk, htl, HD, HO, HI, HB⟩ := hrel
  have hin : 0 ≤ (k : Int) := by omega
  have hfn : 0 ≤ (fr : Int) := by omega
  have hfki : (fr : Int) ≤ k := by omega
  by_cases hend : k = s.size + 1
  ·have hii : ¬ (k : Int) ≤ s.size := by omega
   have HR : Hid (X.parse S = (tv.map (·.1), 0)) := HD.out.end (by rw [HLN.out]; exact hend) (by rw [HLN.out]; exact hsm) htl
   go_wp2_with fail
   go_ret2
   unfold ParseOut
   rw [HR.out]
   exact ⟨tv, ao, co, rfl, rfl, HO.out, HI.out, HB.out⟩
  have hii : (k : Int) ≤ s.size := by omega
  have hks : k ≤ s.size := by omega
  have hmid : (∃ hlt : k < s.size, ((s[k].toNat : Int) != 10) = true ∧ DI S fr (k + 1) tv) ∨ ((S[k]? = some 10 ∨ k = S.length) ∧ ((k : Int) < s.size ∧ (∃ hlt : k < s.size, ((s[k].toNat : Int) != 10) = false) ∨ ¬ (k : Int) < s.size)) := by
   by_cases hlt : k < s.size
   ·by_cases h10 : s[k].toNat = 10
    ·refine .inr ⟨.inl ?_, .inl ⟨by omega, hlt, by simp [h10]⟩⟩
     rw [HGET.out k hlt]
     congr 1
     exact UInt8.toNat_inj.1 (by rw [h10]; rfl)
    ·exact .inl ⟨hlt, by simp; omega, HD.out.step (HGET.out k hlt) (fun e => h10 (by rw [e]; rfl))⟩
   ·exact .inr ⟨.inr (by rw [HLN.out]; omega), .inr (by omega)⟩
  rcases hmid with ⟨hlt, h10, hD2⟩ | ⟨he, hmid⟩
  ·have HD2 : Hid _ := hD2
   have hlt' : (k : Int) < s.size := by omega
   clear hD2
   go_wp2_with fail
   go_roundg (s.size + 1 - (k + 1))
   case measure => omega
   case rel => exact ⟨k + 1, fr, tv, ao, co, rfl, rfl, by go_num, by omega, Nat.le_refl _, by omega, htl, HD2.out, HO.out, HI.out, HB.out⟩
  obtain ⟨D, hDe⟩ : ∃ D, s.extract fr k = D := ⟨_, rfl⟩
  have HDE : Hid (D.data.toList = (S.take k).drop fr) := by show _ = _; rw [← hDe, HEX.out, str_list]
  have hDs : D.size ≤ 200000 := by rw [← hDe, ByteArray.size_extract]; omega
  obtain ⟨ws, hws⟩ : ∃ ws, X.wordsOf D.data.toList = ws := ⟨_, rfl⟩
  have HWS : Hid (X.wordsOf ((S.take k).drop fr) = ws) := by show _ = _; rw [← HDE.out, hws]
  obtain ⟨hw1, hw2⟩ := words_small (l := D.data.toList) (by rw [len_list]; exact hDs)
  have hwords := rwords_any D hDs wr
  rw [hws] at hw1 hw2 hwords
  have HE : Hid _ := he
  have HW2 : Hid _ := hw2
  clear hws he hw2
  have common : ∀ {T : Prop}, T → T := fun h => h
  rcases hmid with ⟨hlt', hlt, h10⟩ | hlt'
  all_goals
   go_wp2_with fail
   refine hwords.mono ?_
   rintro e w1 ⟨a1, c1, rfl, ho1, hb1⟩
   have HB1 : Hid (Below wr.heap.size wr w1) := hb1
   have HO1 : Hid _ := ho1
   clear ho1 hb1 hwords
   cases ws with
   | nil =>
    have HD2 : Hid _ := HD.out.skip HE.out HWS.out
    go_wp2_with fail
    go_roundg (s.size + 1 - (k + 1))
    case measure => omega
    case rel => exact ⟨k + 1, k + 1, tv, ao, co, rfl, by go_num, by go_num, by omega, Nat.le_refl _, Nat.le_refl _, htl, HD2.out, own_thru HO.out HB1.out, HI.out.below HB1.out, HB.out.trans (HB1.out.mono HB.out.size)⟩
   | cons f r =>
    have HSV : Hid (StrV w1 a1 (f :: r).length c1 (f :: r)) := str_of_own' HO1.out HW2.out
    have HF : Hid (f ≠ []) := words_ne f (by rw [HWS.out]; simp : f ∈ X.wordsOf ((S.take k).drop fr))
    have hitem := ritem_any HSV.out HF.out hw1
    have hn0 : (((f :: r).length : Int) == 0) = false := by simp; omega
    generalize hN : (f :: r).length = n at *
    have HNN : Hid _ := hN
    clear hN
    go_wp2_with fail
    refine hitem.mono ?_
    rintro e w2 ⟨t, aw, lw, cw, ok, rfl, h1, h2, hnm, ho2, hb2⟩
    have HB2 : Hid (Below w1.heap.size w1 w2) := hb2
    have HO2 : Hid _ := ho2
    have HNM : Hid _ := hnm
    have HBW : Hid (Below wr.heap.size wr w2) := HB1.out.trans (HB2.out.mono HB1.out.size)
    clear ho2 hb2 hnm hitem
    cases ok with
    | false =>
     have HR : Hid (X.parse S = ([], 2)) := parse_bad (by rw [HLN.out]; exact hsm) (.inl (HD.out.bad HE.out HWS.out (by simp) (h2 rfl)))
     clear h1 h2
     go_wp2_with fail
     go_ret2
     refine ParseOut.none HR.out ?_
     exact (HB.out.trans (HBW.out.mono HB.out.size)).alloc (by have := HB.out.size; have := HBW.out.size; omega) _
    | true =>
     have hrd := h1 rfl
     by_cases hmany : 20000 ≤ tv.length
     ·have HR : Hid (X.parse S = ([], 2)) := parse_bad (by rw [HLN.out]; exact hsm) (.inr (HD.out.many HE.out HWS.out (by simp) hmany))
      have hmany' : (20000 : Int) ≤ tv.length := by omega
      clear h1 h2 hrd
      go_wp2_with fail
      go_ret2
      refine ParseOut.none HR.out ?_
      exact (HB.out.trans (HBW.out.mono HB.out.size)).alloc (by have := HB.out.size; have := HBW.out.size; omega) _
     have hmany' : ¬ (20000 : Int) ≤ tv.length := by omega
     have HD2 : Hid (DI S (k + 1) (k + 1) (tv ++ [((t, Value.slice aw lw cw) : X.It × Value)])) := HD.out.more HE.out HWS.out (by simp) hrd _
     clear h1 h2 hrd
     obtain ⟨Y0, hY0⟩ : ∃ Y0, w2.alloc (.cells #[.int .i64 t.kind, .string (X.str t.name), .int .i64 t.op, .int .i64 t.a, .int .i64 t.b, .int .i64 t.n, .slice aw lw cw] 44) = Y0 := ⟨_, rfl⟩
     have f0 : Y0.cell? ⟨w2.heap.size, 0, none⟩ = some (.int .i64 t.kind) := by subst hY0; exact cell_lastW rfl rfl
     have f1 : Y0.cell? ⟨w2.heap.size, 1, none⟩ = some (.string (X.str t.name)) := by subst hY0; exact cell_lastW rfl rfl
     have f2 : Y0.cell? ⟨w2.heap.size, 2, none⟩ = some (.int .i64 t.op) := by subst hY0; exact cell_lastW rfl rfl
     have f3 : Y0.cell? ⟨w2.heap.size, 3, none⟩ = some (.int .i64 t.a) := by subst hY0; exact cell_lastW rfl rfl
     have f4 : Y0.cell? ⟨w2.heap.size, 4, none⟩ = some (.int .i64 t.b) := by subst hY0; exact cell_lastW rfl rfl
     have f5 : Y0.cell? ⟨w2.heap.size, 5, none⟩ = some (.int .i64 t.n) := by subst hY0; exact cell_lastW rfl rfl
     have f6 : Y0.cell? ⟨w2.heap.size, 6, none⟩ = some (.slice aw lw cw) := by subst hY0; exact cell_lastW rfl rfl
     have bY0 : Below w2.heap.size w2 Y0 := by subst hY0; exact bl1 _ _
     obtain ⟨Z, hZ⟩ : ∃ Z, Y0.alloc (.cells #[.int .i64 t.kind, .string (X.str t.name), .int .i64 t.op, .int .i64 t.a, .int .i64 t.b, .int .i64 t.n, .slice aw lw cw] 44) = Z := ⟨_, rfl⟩
     have bZ : Below Y0.heap.size Y0 Z := by subst hZ; exact bl1 _ _
     have BZ2 : Hid (Below w2.heap.size w2 Z) := bY0.trans (bZ.mono bY0.size)
     have BZ : Hid (Below wr.heap.size wr Z) := HBW.out.trans (BZ2.out.mono HBW.out.size)
     have NZ : Hid (Z.ownsRow w.heap.size 44 7 (.slice ao tv.length co) tv.length (tv.flatMap itF)) := own_thru HO.out BZ.out
     have IZ : Hid (ItO w.heap.size Z tv) := HI.out.below BZ.out
     have OZ : Hid (Z.ownsRow w.heap.size 2 1 (.slice aw lw cw) lw (iC t.words)) := own_mono (own_thru HO2.out BZ2.out) (by have := HB.out.size; have := HB1.out.size; omega)
     have HWZ : Hid (w.heap.size ≤ Z.heap.size) := by show _ ≤ _; have := HB.out.size; have := BZ.out.size; omega
     have HNC : Hid (∀ j u, (itC t (.slice aw lw cw))[j]? = some u → Z.cell? ((⟨Y0.heap.size, 0, none⟩ : Addr).add j) = some u) := by
      intro j u hu
      subst hZ
      rw [Addr.add_lit, Nat.zero_add]
      exact cell_lastW rfl (by simpa [itC] using hu)
     clear bZ bY0
     go_wp2_with (first | (at_builtin; refine wpList_append_lies _ rfl _ _ 22 rfl w.heap.size 44 i2 _ 7 80 Tryz.underlying22 hi2 hz20 hz21 hz22 rfl (by decide) (.slice ao tv.length co) tv.length (tv.flatMap itF) rfl NZ.out ⟨Y0.heap.size, 0, none⟩ 1 1 (itC t (.slice aw lw cw)) rfl rfl HNC.out oneIt (by decide) (by unfold maxLen; omega) (by omega) HWZ.out Z.heap.size rfl ?_; intro ga ca w3 ho3 hg3 hat3 hlt3; have HO3 : Hid _ := ho3; have HG3 : Hid _ := hg3; clear ho3 hg3 hat3) | go_in)
     have hty : ∀ b o, (Value.slice ao tv.length co).ownBlock = some b → Z.heap[b]? = some o → ∀ cs fr, o ≠ .cells cs 2 fr := fun b o hb ho cs fr e => by
      obtain ⟨-, cur, e2⟩ := own_cells NZ.out b o hb ho
      rw [e2] at e
      injection e with e3 e4
      exact absurd e4 (by decide)
     have HTY : Hid _ := hty
     have CX : Hid (w3.ownsRow w.heap.size 44 7 (.slice (some ⟨ga, 0, none⟩) (tv.length + 1) ca) (tv.length + 1) ((tv ++ [((t, Value.slice aw lw cw) : X.It × Value)]).flatMap itF)) := by
      show World.ownsRow _ _ _ _ _ _ _
      rw [List.flatMap_append]
      simp only [List.flatMap_cons, List.flatMap_nil, List.append_nil]
      exact HO3.out
     have IX : Hid (ItO w.heap.size w3 (tv ++ [((t, Value.slice aw lw cw) : X.It × Value)])) := by
      show ItO _ _ _
      have h2 : ItO w.heap.size Z (tv ++ [((t, Value.slice aw lw cw) : X.It × Value)]) := fun p hp => by
       rcases List.mem_append.1 hp with hp | hp
       ·exact IZ.out p hp
       ·simp at hp
        subst hp
        exact ⟨HNM.out, _, _, _, rfl, OZ.out⟩
      exact h2.kept HG3.out HTY.out
     have B4 : Hid (Below w.heap.size w w3) := by
      have hb := HB.out.trans (BZ.out.mono HB.out.size)
      exact below_own hb NZ.out HG3.out HWZ.out
     clear hty
     go_roundg (s.size + 1 - (k + 1))
     case measure => omega
     case rel => exact ⟨k + 1, k + 1, _, some ⟨ga, 0, none⟩, ca, (by rw [List.length_append]; rfl), by go_num, by go_num, by omega, Nat.le_refl _, Nat.le_refl _, (by rw [List.length_append, List.length_singleton]; omega), HD2.out, (by rw [List.length_append, List.length_singleton]; exact CX.out), IX.out, B4.out⟩

end Go.Proofs.YtgjingleolhkbaaGreatDoor

namespace Go.Proofs.YtgjingleolhkbaaGreatDoor
open Go.RowKit Go.Maps Go.Lib
set_option linter.unusedVariables false
set_option linter.unusedSimpArgs false

theorem rparse_v (s : ByteArray) (hs : s.size ≤ maxLen) (w : World) :
  Calls Tryz.prog 16 #[.string s] w (ParseV w (X.parse s.data.toList)) := by
 refine (rparse_any s hs w).mono ?_
 rintro e w' ⟨tv, a, c, rfl, h1, h2, h3, h4⟩
 obtain ⟨-, -, -, -, hf⟩ := X.parse_ok (s := s.data.toList) (l := (X.parse s.data.toList).1) (z := (X.parse s.data.toList).2) rfl
 have hl : (X.parse s.data.toList).1.length = tv.length := by rw [← h1]; simp
 have hv := its_of_own h2 h3 (by rw [h1]; exact hf)
 rw [h1] at hv
 refine ⟨a, c, by rw [hl], by rw [hl]; exact hv, h4⟩
theorem text_fit (s : ByteArray) : OFit (Z.text s.data.toList).1 := by
 obtain ⟨-, -, -, -, hf⟩ := X.parse_ok (s := s.data.toList) (l := (X.parse s.data.toList).1) (z := (X.parse s.data.toList).2) rfl
 unfold Z.text
 split
 ·exact (Z.asm_may (fun t ht => hf t ht)).1
 ·exact OFit.no
set_option maxRecDepth 100000 in
set_option maxHeartbeats 8000000 in
theorem rtxt_any (s : ByteArray) (hs : s.size ≤ maxLen) (w : World) :
  Calls Tryz.prog 18 #[.string s] w (AsmOut w (Z.text s.data.toList)) := by
 obtain ⟨rb, hrb⟩ : ∃ rb, w.heap.size = rb := ⟨_, rfl⟩
 obtain ⟨W1, hW1⟩ : ∃ W1, w.alloc (.cells #[.string { data := #[] }, .slice none 0 0, .slice none 0 0, .slice none 0 0] 30) = W1 := ⟨_, rfl⟩
 have bW1 : Below w.heap.size w W1 := by subst hW1; exact bl1 _ _
 have hs1 : rb < W1.heap.size := by subst hW1 hrb; simp
 have hle : w.heap.size ≤ rb := by omega
 have r0 : W1.cell? ⟨rb, 0, none⟩ = some (.string { data := #[] }) := by subst hW1 hrb; exact cellA rfl rfl
 have z0 : W1.frozen? ⟨rb, 0, none⟩ = false := by subst hW1 hrb; exact World.frozen?_alloc_at _ _ _ _ rfl
 have r1 : W1.cell? ⟨rb, 1, none⟩ = some (.slice none 0 0) := by subst hW1 hrb; exact cellA rfl rfl
 have z1 : W1.frozen? ⟨rb, 1, none⟩ = false := by subst hW1 hrb; exact World.frozen?_alloc_at _ _ _ _ rfl
 have r2 : W1.cell? ⟨rb, 2, none⟩ = some (.slice none 0 0) := by subst hW1 hrb; exact cellA rfl rfl
 have z2 : W1.frozen? ⟨rb, 2, none⟩ = false := by subst hW1 hrb; exact World.frozen?_alloc_at _ _ _ _ rfl
 have r3 : W1.cell? ⟨rb, 3, none⟩ = some (.slice none 0 0) := by subst hW1 hrb; exact cellA rfl rfl
 have z3 : W1.frozen? ⟨rb, 3, none⟩ = false := by subst hW1 hrb; exact World.frozen?_alloc_at _ _ _ _ rfl
 have HB : Hid (Below w.heap.size w W1) := bW1
 have HK : Hid (∀ W', Below W1.heap.size W1 W' → W'.cell? ⟨rb, 0, none⟩ = some (.string { data := #[] }) ∧ W'.frozen? ⟨rb, 0, none⟩ = false ∧ W'.cell? ⟨rb, 1, none⟩ = some (.slice none 0 0) ∧ W'.frozen? ⟨rb, 1, none⟩ = false ∧ W'.cell? ⟨rb, 2, none⟩ = some (.slice none 0 0) ∧ W'.frozen? ⟨rb, 2, none⟩ = false ∧ W'.cell? ⟨rb, 3, none⟩ = some (.slice none 0 0) ∧ W'.frozen? ⟨rb, 3, none⟩ = false) := fun W' hb => ⟨cell_thru hb r0, (hb.frozen (p := ⟨rb, 0, none⟩) hs1).trans z0, cell_thru hb r1, (hb.frozen (p := ⟨rb, 1, none⟩) hs1).trans z1, cell_thru hb r2, (hb.frozen (p := ⟨rb, 2, none⟩) hs1).trans z2, cell_thru hb r3, (hb.frozen (p := ⟨rb, 3, none⟩) hs1).trans z3⟩
 have hp := rparse_v s hs W1
 have HTX : Hid (Z.text s.data.toList = if (X.parse s.data.toList).2 = 0 then Z.asm (X.parse s.data.toList).1 else (Z.noObj, (X.parse s.data.toList).2)) := rfl
 obtain ⟨⟨l, z⟩, hr⟩ : ∃ r, X.parse s.data.toList = r := ⟨_, rfl⟩
 rw [hr] at hp HTX
 simp only at hp HTX
 clear bW1 hr
 go_enter Tryz.func18, Tryz.ntmps18
 go_wp2_with fail
 refine hp.mono ?_
 rintro e w2 ⟨a, c, rfl, hV, hb2⟩
 simp only at hV ⊢
 have HB2 : Hid (Below W1.heap.size W1 w2) := hb2
 clear hp hb2
 by_cases hz : z = 0
 ·subst hz
  have HR : Hid (Z.text s.data.toList = Z.asm l) := by show _ = _; rw [HTX.out]; rfl
  have hasm := rasm_any hV
  have hs2 : rb < w2.heap.size := Nat.lt_of_lt_of_le hs1 HB2.out.size
  have hw2 : w.heap.size ≤ w2.heap.size := by omega
  obtain ⟨ll, hll⟩ : ∃ ll, l.length = ll := ⟨_, rfl⟩
  rw [hll] at hasm ⊢
  clear hV hll
  go_wp2_with fail
  refine hasm.mono ?_
  rintro e w7 ⟨vd, vs, vr, rfl, o1, o2, o3, hb7⟩
  obtain ⟨s0, t0, s1, t1, s2, t2, s3, t3⟩ := HK.out w7 (HB2.out.trans (hb7.mono HB2.out.size))
  have HB7 : Hid (Below w.heap.size w w7) := HB.out.trans ((HB2.out.trans (hb7.mono HB2.out.size)).mono HB.out.size)
  have HAO : Hid (∀ W', (∀ ty k v n cs, w7.ownsRow w2.heap.size ty k v n cs → W'.ownsRow w2.heap.size ty k v n cs) → Below w.heap.size w W' → AsmOut w (Z.text s.data.toList) (.returned (.tuple #[.agg #[.string (Z.asm l).1.code, vd, vs, vr], .int .i64 (Z.asm l).2])) W') := fun W' hk hb => by
   rw [HR.out]
   exact ⟨vd, vs, vr, rfl, own_baseB (hk _ _ _ _ _ o1) hw2, own_baseB (hk _ _ _ _ _ o2) hw2, own_baseB (hk _ _ _ _ _ o3) hw2, hb⟩
  obtain ⟨ad, cd, rfl⟩ := own_slice o1
  obtain ⟨as2, cs, rfl⟩ := own_slice o2
  obtain ⟨ar, cr, rfl⟩ := own_slice o3
  generalize (Z.asm l).1.code = oc at *
  generalize (Z.asm l).1.data.length = ld at *
  generalize (Z.asm l).1.syms.length = ls at *
  generalize (Z.asm l).1.rels.length = lr at *
  generalize (Z.asm l).2 = en at *
  clear o1 o2 o3 hb7 hasm
  go_wp2_with fail
  refine bodyPost_ret (v := .tuple #[.agg #[.string oc, .slice ad ld cd, .slice as2 ls cs, .slice ar lr cr], .int .i64 en]) (by simp [results, Tryz.results18, go_sem, *]) rfl ?_
  exact HAO.out _ (fun ty k v n cs h => own_st4 h hs2) (below_st4 HB7.out hle)
 ·have HR : Hid (Z.text s.data.toList = (Z.noObj, z)) := by show _ = _; rw [HTX.out, if_neg hz]
  have hz' : ((z : Int) != 0) = true := by simp; omega
  obtain ⟨s0, t0, s1, t1, s2, t2, s3, t3⟩ := HK.out w2 HB2.out
  have HB4 : Hid (Below w.heap.size w w2) := HB.out.trans (HB2.out.mono HB.out.size)
  clear hV hz
  go_wp2_with fail
  refine bodyPost_ret (v := .tuple #[.agg #[.string { data := #[] }, .slice none 0 0, .slice none 0 0, .slice none 0 0], .int .i64 z]) (by simp [results, Tryz.results18, go_sem, *]) rfl ?_
  exact AsmOut.bad HR.out (below_st4 HB4.out hle)

set_option maxRecDepth 100000 in
set_option maxHeartbeats 16000000 in
theorem txW_any (s : ByteArray) (hs : s.size ≤ maxLen) {w : World} (ht : Tab w) (hJ : J.Tab w) :
  Calls Tryz.prog 4 #[.string s] w fun e w' => e = .returned (.bool true) ∧ Below w.heap.size w w' := by
 have HT : Hid _ := ht
 have HJ : Hid (J.Tab w) := hJ
 clear ht hJ
 by_cases hl : s.size ≤ 8000
 rotate_left
 ·have hl2 : (8000 : Int) < (s.size : Int) := by omega
  go_enter Tryz.func4, Tryz.ntmps4
  go_wp2_with fail
  refine (live_any _ HT.out HJ.out).mono ?_
  rintro e y2 ⟨rfl, hb⟩
  have HB : Hid _ := hb
  clear hb
  go_wp2_with fail
  go_ret
  exact ⟨rfl, HB.out⟩
 have hl2 : ¬ (8000 : Int) < (s.size : Int) := by omega
 have hp := rparse_v s hs w
 obtain ⟨⟨ps, pz⟩, hpp⟩ : ∃ r, X.parse s.data.toList = r := ⟨_, rfl⟩
 rw [hpp] at hp
 clear hpp
 go_enter Tryz.func4, Tryz.ntmps4
 go_wp2_with fail
 refine hp.mono ?_
 rintro e yc ⟨a, c, rfl, hV, hbc⟩
 simp only at hV ⊢
 obtain ⟨l, hll⟩ : ∃ l, ps.length = l := ⟨_, rfl⟩
 rw [hll]
 have HY3 : Hid (Below w.heap.size w yc) := hbc
 clear hp hV hbc hll
 by_cases hz : pz = 0
 ·subst hz
  have hsm := small_any a l c yc
  by_cases h400 : l ≤ 400
  ·rw [decide_eq_true h400] at hsm
   go_wp2_with fail
   refine hsm.mono ?_
   rintro e y ⟨rfl, hy⟩
   rw [hy]
   clear hy hsm
   skip
   have HF : Hid (OFit (Z.text s.data.toList).1) := text_fit s
   have hasm1 := text_any s hs yc (HT.out.below HY3.out) (J.Tab.below HJ.out HY3.out)
   have HAS2 : Hid (∀ W, Calls Tryz.prog 18 #[.string s] W (AsmOut W (Z.text s.data.toList))) := fun W => rtxt_any s hs W
   obtain ⟨⟨o, zz⟩, hr⟩ : ∃ r, Z.text s.data.toList = r := ⟨_, rfl⟩
   rw [hr] at hasm1 HF HAS2
   simp only at HF
   clear hr
   go_wp2_with fail
   refine hasm1.mono ?_
   rintro e w1 ⟨vd, vs, vr, rfl, o1, o2, o3, hb1⟩
   simp only at o1 o2 o3 ⊢
   have HOV : Hid (O.ObjV w1 (.agg #[.string o.code, vd, vs, vr]) o) := objV_of HF.out o1 o2 o3
   have HN1 : Hid (o.data.length ≤ maxLen ∧ o.syms.length ≤ maxLen ∧ o.rels.length ≤ maxLen) := by
    have q : ∀ {ty k n B : Nat} {v : Value} {cs : List Value}, w1.ownsRow B ty k v n cs → n ≤ maxLen := fun h => by
     rcases h.2 with ⟨-, e⟩ | ⟨g, cap, cur, -, -, -, h1, h2, -⟩
     ·omega
     ·omega
    exact ⟨q o1, q o2, q o3⟩
   obtain ⟨ad5, cd5, rfl⟩ := own_slice o1
   obtain ⟨as5, cs5, rfl⟩ := own_slice o2
   obtain ⟨ar5, cr5, rfl⟩ := own_slice o3
   obtain ⟨Y5, hY5⟩ : ∃ Y5, w1.alloc (.cells #[.string o.code, .slice ad5 o.data.length cd5, .slice as5 o.syms.length cs5, .slice ar5 o.rels.length cr5] 30) = Y5 := ⟨_, rfl⟩
   have bY5 : Below w1.heap.size w1 Y5 := by subst hY5; exact bl1 _ _
   have m50 : Y5.cell? ⟨w1.heap.size, 0, none⟩ = some (.string o.code) := by subst hY5; exact cellA rfl rfl
   have m51 : Y5.cell? ⟨w1.heap.size, 1, none⟩ = some (.slice ad5 o.data.length cd5) := by subst hY5; exact cellA rfl rfl
   have m52 : Y5.cell? ⟨w1.heap.size, 2, none⟩ = some (.slice as5 o.syms.length cs5) := by subst hY5; exact cellA rfl rfl
   have m53 : Y5.cell? ⟨w1.heap.size, 3, none⟩ = some (.slice ar5 o.rels.length cr5) := by subst hY5; exact cellA rfl rfl
   have HB5 : Hid (Below yc.heap.size yc Y5) := hb1.trans (bY5.mono hb1.size)
   have HO5 : Hid _ := HOV.out.below bY5
   have HS5 : Hid (w1.heap.size < Y5.heap.size) := by subst hY5; show _ < _; simp
   have hasm2 := HAS2.out Y5
   clear o1 o2 o3 hb1 hasm1 bY5 HOV
   generalize hld : o.data.length = ld at m50 m51 m52 m53 hY5 HO5 HN1 ⊢
   generalize hls : o.syms.length = ls at m50 m51 m52 m53 hY5 HO5 HN1 ⊢
   generalize hlr : o.rels.length = lr at m50 m51 m52 m53 hY5 HO5 HN1 ⊢
   generalize hoc : o.code = oc at m50 m51 m52 m53 hY5 HO5 HN1 ⊢
   have HLD : Hid (o.data.length = ld ∧ o.syms.length = ls ∧ o.rels.length = lr ∧ o.code = oc) := ⟨hld, hls, hlr, hoc⟩
   clear hld hls hlr hoc
   go_wp2_with fail
   refine hasm2.mono ?_
   rintro e w2 ⟨vd, vs, vr, rfl, o1, o2, o3, hb2⟩
   simp only at o1 o2 o3 ⊢
   have HOV6 : Hid (O.ObjV w2 (.agg #[.string o.code, vd, vs, vr]) o) := objV_of HF.out o1 o2 o3
   rw [HLD.out.1] at o1
   rw [HLD.out.2.1] at o2
   rw [HLD.out.2.2.1] at o3
   rw [HLD.out.2.2.2] at HOV6
   simp only [HLD.out.2.2.2]
   obtain ⟨ad6, cd6, rfl⟩ := own_slice o1
   obtain ⟨as6, cs6, rfl⟩ := own_slice o2
   obtain ⟨ar6, cr6, rfl⟩ := own_slice o3
   obtain ⟨Y6, hY6⟩ : ∃ Y6, w2.alloc (.cells #[.string oc, .slice ad6 ld cd6, .slice as6 ls cs6, .slice ar6 lr cr6] 30) = Y6 := ⟨_, rfl⟩
   have bY6 : Below w2.heap.size w2 Y6 := by subst hY6; exact bl1 _ _
   have m60 : Y6.cell? ⟨w2.heap.size, 0, none⟩ = some (.string oc) := by subst hY6; exact cellA rfl rfl
   have m61 : Y6.cell? ⟨w2.heap.size, 1, none⟩ = some (.slice ad6 ld cd6) := by subst hY6; exact cellA rfl rfl
   have m62 : Y6.cell? ⟨w2.heap.size, 2, none⟩ = some (.slice as6 ls cs6) := by subst hY6; exact cellA rfl rfl
   have m63 : Y6.cell? ⟨w2.heap.size, 3, none⟩ = some (.slice ar6 lr cr6) := by subst hY6; exact cellA rfl rfl
   have hb6 : Below Y5.heap.size Y5 Y6 := hb2.trans (bY6.mono hb2.size)
   have n50 := O.cell_thru hb6 m50
   have n51 := O.cell_thru hb6 m51
   have n52 := O.cell_thru hb6 m52
   have n53 := O.cell_thru hb6 m53
   have HOA : Hid _ := HO5.out.below hb6
   have HOB : Hid _ := HOV6.out.below bY6
   have hs6 := O.same_any HOA.out HOB.out (by rw [HLD.out.1]; exact HN1.out.1) (by rw [HLD.out.2.1]; exact HN1.out.2.1) (by rw [HLD.out.2.2.1]; exact HN1.out.2.2) true (by simp)
   have HB6 : Hid (Below w.heap.size w Y6) := HY3.out.trans ((HB5.out.trans (hb6.mono HB5.out.size)).mono HY3.out.size)
   clear o1 o2 o3 hb2 bY6 hb6 hasm2 HOV6 HOA HOB HO5 m50 m51 m52 m53
   go_wp2_with fail
   refine hs6.mono ?_
   rintro e w3 ⟨rfl, hb3⟩
   have HB7 : Hid (Below w.heap.size w w3) := HB6.out.trans (hb3.mono HB6.out.size)
   clear hb3 hs6
   go_wp2_with fail
   refine (live_any _ (HT.out.below HB7.out) (J.Tab.below HJ.out HB7.out)).mono ?_
   rintro e y2 ⟨rfl, hb⟩
   have HB2 : Hid _ := hb
   clear hb
   go_wp2_with fail
   go_ret
   exact ⟨rfl, HB7.out.trans (HB2.out.mono HB7.out.size)⟩
  ·rw [decide_eq_false h400] at hsm
   go_wp2_with fail
   refine hsm.mono ?_
   rintro e y ⟨rfl, hy⟩
   rw [hy]
   clear hy hsm
   go_wp2_with fail
   refine (live_any _ (HT.out.below HY3.out) (J.Tab.below HJ.out HY3.out)).mono ?_
   rintro e y2 ⟨rfl, hb⟩
   have HB2 : Hid _ := hb
   clear hb
   go_wp2_with fail
   go_ret
   exact ⟨rfl, HY3.out.trans (HB2.out.mono HY3.out.size)⟩
 ·have hz2 : ((pz : Int) == 0) = false := by simp; omega
  have hz3 : ¬ (pz : Int) = 0 := by omega
  clear hz
  have HF : Hid (OFit (Z.text s.data.toList).1) := text_fit s
  have hasm1 := text_any s hs yc (HT.out.below HY3.out) (J.Tab.below HJ.out HY3.out)
  have HAS2 : Hid (∀ W, Calls Tryz.prog 18 #[.string s] W (AsmOut W (Z.text s.data.toList))) := fun W => rtxt_any s hs W
  obtain ⟨⟨o, zz⟩, hr⟩ : ∃ r, Z.text s.data.toList = r := ⟨_, rfl⟩
  rw [hr] at hasm1 HF HAS2
  simp only at HF
  clear hr
  go_wp2_with fail
  refine hasm1.mono ?_
  rintro e w1 ⟨vd, vs, vr, rfl, o1, o2, o3, hb1⟩
  simp only at o1 o2 o3 ⊢
  have HOV : Hid (O.ObjV w1 (.agg #[.string o.code, vd, vs, vr]) o) := objV_of HF.out o1 o2 o3
  have HN1 : Hid (o.data.length ≤ maxLen ∧ o.syms.length ≤ maxLen ∧ o.rels.length ≤ maxLen) := by
   have q : ∀ {ty k n B : Nat} {v : Value} {cs : List Value}, w1.ownsRow B ty k v n cs → n ≤ maxLen := fun h => by
    rcases h.2 with ⟨-, e⟩ | ⟨g, cap, cur, -, -, -, h1, h2, -⟩
    ·omega
    ·omega
   exact ⟨q o1, q o2, q o3⟩
  obtain ⟨ad5, cd5, rfl⟩ := own_slice o1
  obtain ⟨as5, cs5, rfl⟩ := own_slice o2
  obtain ⟨ar5, cr5, rfl⟩ := own_slice o3
  obtain ⟨Y5, hY5⟩ : ∃ Y5, w1.alloc (.cells #[.string o.code, .slice ad5 o.data.length cd5, .slice as5 o.syms.length cs5, .slice ar5 o.rels.length cr5] 30) = Y5 := ⟨_, rfl⟩
  have bY5 : Below w1.heap.size w1 Y5 := by subst hY5; exact bl1 _ _
  have m50 : Y5.cell? ⟨w1.heap.size, 0, none⟩ = some (.string o.code) := by subst hY5; exact cellA rfl rfl
  have m51 : Y5.cell? ⟨w1.heap.size, 1, none⟩ = some (.slice ad5 o.data.length cd5) := by subst hY5; exact cellA rfl rfl
  have m52 : Y5.cell? ⟨w1.heap.size, 2, none⟩ = some (.slice as5 o.syms.length cs5) := by subst hY5; exact cellA rfl rfl
  have m53 : Y5.cell? ⟨w1.heap.size, 3, none⟩ = some (.slice ar5 o.rels.length cr5) := by subst hY5; exact cellA rfl rfl
  have HB5 : Hid (Below yc.heap.size yc Y5) := hb1.trans (bY5.mono hb1.size)
  have HO5 : Hid _ := HOV.out.below bY5
  have HS5 : Hid (w1.heap.size < Y5.heap.size) := by subst hY5; show _ < _; simp
  have hasm2 := HAS2.out Y5
  clear o1 o2 o3 hb1 hasm1 bY5 HOV
  generalize hld : o.data.length = ld at m50 m51 m52 m53 hY5 HO5 HN1 ⊢
  generalize hls : o.syms.length = ls at m50 m51 m52 m53 hY5 HO5 HN1 ⊢
  generalize hlr : o.rels.length = lr at m50 m51 m52 m53 hY5 HO5 HN1 ⊢
  generalize hoc : o.code = oc at m50 m51 m52 m53 hY5 HO5 HN1 ⊢
  have HLD : Hid (o.data.length = ld ∧ o.syms.length = ls ∧ o.rels.length = lr ∧ o.code = oc) := ⟨hld, hls, hlr, hoc⟩
  clear hld hls hlr hoc
  go_wp2_with fail
  refine hasm2.mono ?_
  rintro e w2 ⟨vd, vs, vr, rfl, o1, o2, o3, hb2⟩
  simp only at o1 o2 o3 ⊢
  have HOV6 : Hid (O.ObjV w2 (.agg #[.string o.code, vd, vs, vr]) o) := objV_of HF.out o1 o2 o3
  rw [HLD.out.1] at o1
  rw [HLD.out.2.1] at o2
  rw [HLD.out.2.2.1] at o3
  rw [HLD.out.2.2.2] at HOV6
  simp only [HLD.out.2.2.2]
  obtain ⟨ad6, cd6, rfl⟩ := own_slice o1
  obtain ⟨as6, cs6, rfl⟩ := own_slice o2
  obtain ⟨ar6, cr6, rfl⟩ := own_slice o3
  obtain ⟨Y6, hY6⟩ : ∃ Y6, w2.alloc (.cells #[.string oc, .slice ad6 ld cd6, .slice as6 ls cs6, .slice ar6 lr cr6] 30) = Y6 := ⟨_, rfl⟩
  have bY6 : Below w2.heap.size w2 Y6 := by subst hY6; exact bl1 _ _
  have m60 : Y6.cell? ⟨w2.heap.size, 0, none⟩ = some (.string oc) := by subst hY6; exact cellA rfl rfl
  have m61 : Y6.cell? ⟨w2.heap.size, 1, none⟩ = some (.slice ad6 ld cd6) := by subst hY6; exact cellA rfl rfl
  have m62 : Y6.cell? ⟨w2.heap.size, 2, none⟩ = some (.slice as6 ls cs6) := by subst hY6; exact cellA rfl rfl
  have m63 : Y6.cell? ⟨w2.heap.size, 3, none⟩ = some (.slice ar6 lr cr6) := by subst hY6; exact cellA rfl rfl
  have hb6 : Below Y5.heap.size Y5 Y6 := hb2.trans (bY6.mono hb2.size)
  have n50 := O.cell_thru hb6 m50
  have n51 := O.cell_thru hb6 m51
  have n52 := O.cell_thru hb6 m52
  have n53 := O.cell_thru hb6 m53
  have HOA : Hid _ := HO5.out.below hb6
  have HOB : Hid _ := HOV6.out.below bY6
  have hs6 := O.same_any HOA.out HOB.out (by rw [HLD.out.1]; exact HN1.out.1) (by rw [HLD.out.2.1]; exact HN1.out.2.1) (by rw [HLD.out.2.2.1]; exact HN1.out.2.2) true (by simp)
  have HB6 : Hid (Below w.heap.size w Y6) := HY3.out.trans ((HB5.out.trans (hb6.mono HB5.out.size)).mono HY3.out.size)
  clear o1 o2 o3 hb2 bY6 hb6 hasm2 HOV6 HOA HOB HO5 m50 m51 m52 m53
  go_wp2_with fail
  refine hs6.mono ?_
  rintro e w3 ⟨rfl, hb3⟩
  have HB7 : Hid (Below w.heap.size w w3) := HB6.out.trans (hb3.mono HB6.out.size)
  clear hb3 hs6
  go_wp2_with fail
  refine (live_any _ (HT.out.below HB7.out) (J.Tab.below HJ.out HB7.out)).mono ?_
  rintro e y2 ⟨rfl, hb⟩
  have HB2 : Hid _ := hb
  clear hb
  go_wp2_with fail
  go_ret
  exact ⟨rfl, HB7.out.trans (HB2.out.mono HB7.out.size)⟩

end Go.Proofs.YtgjingleolhkbaaGreatDoor

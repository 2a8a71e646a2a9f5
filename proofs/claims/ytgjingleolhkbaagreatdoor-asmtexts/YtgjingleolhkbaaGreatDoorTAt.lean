/- The object. (Written by gen_obj.py.) -/
import Derived.Test.YtgjingleolhkbaaGreatDoorTAs
namespace Go.Proofs.YtgjingleolhkbaaGreatDoor
open Go.RowKit Go.Maps Go.Lib
set_option linter.unusedVariables false
set_option linter.unusedSimpArgs false

def byV (c : UInt8) : Value := .int .u8 c.toNat
theorem strCells_by (s : ByteArray) : strCells s = s.data.toList.map byV := rfl
theorem strCells_app (a b : ByteArray) : strCells (a ++ b) = strCells a ++ strCells b := by rw [strCells_by, strCells_by, strCells_by]; simp
theorem strNums_eq (l : X.By) : strOfNums (l.map fun c => (c.toNat : Int)) = X.str l := by
 refine bytes_ext' ?_
 rw [str_list]
 unfold strOfNums
 simp
 conv => rhs; rw [← List.map_id l]
 refine List.map_congr_left fun c hc => ?_
 simp
theorem conv_row {w : World} {g n cap : Nat} {l : X.By} (hn : l.length = n) (h : ∀ j u, (l.map byV)[j]? = some u → w.cell? ⟨g, j, none⟩ = some u) : (convert 65 9 (.slice (some ⟨g, 0, none⟩) n cap)).run Tryz.prog w = .ok (.string (X.str l)) w := by
 have h1 := run_convert_bytes_arg (P := Tryz.prog) w 65 5 Tryz.underlying65 Tryz.underlying5 g 0 n cap (l.map fun c => (c.toNat : Int)) (by simpa using hn) (fun i hi => by
  rw [Nat.zero_add]
  have hi' : i < l.length := by omega
  have e1 : (l.map fun c => (c.toNat : Int)).getD i 0 = (l[i].toNat : Int) := by simp [List.getD, hi']
  rw [e1]
  exact h i _ (by simp [byV, hi'])) 9 Tryz.underlying9
 rw [h1, strNums_eq]
theorem conv_own {w : World} {B n : Nat} {v : Value} {l : X.By} (h : w.ownsRow B 5 1 v n (l.map byV)) : (convert 65 9 v).run Tryz.prog w = .ok (.string (X.str l)) w := by
 have hl : l.length = n := by have := h.1; simpa using this
 rcases h.2 with ⟨e1, e2⟩ | ⟨g, cap, cur, e1, -⟩
 ·subst e1
  obtain rfl : l = [] := List.eq_nil_of_length_eq_zero (by omega)
  exact run_convert_bytes_nil (P := Tryz.prog) w 65 5 Tryz.underlying65 Tryz.underlying5 0 0 9 Tryz.underlying9
 ·subst e1
  exact conv_row hl (fun j u hu => by
   rw [h.cellAt j (by have := (List.getElem?_eq_some_iff.1 hu).1; rw [List.length_map] at this; omega)]
   exact hu)
structure OI (s : O.ObjD) (nc : Nat) (cc : List Value) (nd : Nat) (cd : List Value) (ns : Nat) (cs : List Value) (nr : Nat) (cr : List Value) : Prop where
 fc : nc = s.code.size ∧ cc = strCells s.code
 fd : nd = s.data.length ∧ cd = s.data.flatMap O.intC
 fs : ns = s.syms.length ∧ cs = s.syms.flatMap O.symC
 fr : nr = s.rels.length ∧ cr = s.rels.flatMap O.relC
theorem intC_map (l : List Int) : l.flatMap O.intC = iC l := by
 unfold iC O.intC
 induction l with
 | nil => rfl
 | cons x l ih => simp only [List.flatMap_cons, List.map_cons, ih]; rfl
theorem itOk_words {t : X.It} (h : X.itOk t = true) : t.words.length ≤ 4096 ∧ (t.kind = 3 → 1 ≤ t.words.length) := by
 unfold X.itOk at h
 split at h
 ·next hk =>
  simp only [Bool.and_eq_true, decide_eq_true_eq] at h
  rw [h.2.1]
  exact ⟨by simp, fun e => by omega⟩
 ·split at h
  ·simp only [Bool.and_eq_true, decide_eq_true_eq] at h
   exact ⟨h.2.2.1, fun _ => h.2.1⟩
  ·split at h
   ·next hk =>
    simp only [Bool.and_eq_true, decide_eq_true_eq] at h
    rw [h.2]
    exact ⟨by simp, fun e => by omega⟩
   ·cases h
theorem IntsV.src' {w : World} {a : Option Addr} {n c : Nat} {zs : List Int} (h : IntsV w a n c zs) (h1 : 1 ≤ n) : (a = none → n = 0 ∧ c = 0) ∧ (iC zs).length = n * 1 ∧ (∀ ad, a = some ad → ∀ j u, (iC zs)[j]? = some u → w.cell? (ad.add j) = some u) ∧ ∀ u ∈ iC zs, u.oneCell' = true := by
 have hl : (iC zs).length = n * 1 := by unfold iC; rw [List.length_map, h.count, Nat.mul_one]
 rcases h.cells with h0 | ⟨b, off, e2, hc⟩
 ·omega
 refine ⟨(fun e => by rw [e] at e2; cases e2), hl, fun ad e j u hu => ?_, fun u hu => ?_⟩
 ·have hj : j < n := by have := (List.getElem?_eq_some_iff.1 hu).1; omega
  rw [e] at e2
  cases e2
  rw [Addr.add_lit, hc j hj, ← hu]
  have : j < zs.length := by rw [h.count]; exact hj
  simp [iC, List.getD, this]
 ·unfold iC at hu
  obtain ⟨z, -, rfl⟩ := List.mem_map.1 hu
  rfl
def ObjOut (W0 : World) (o : O.ObjD) (e : Ending) (w' : World) : Prop :=
 ∃ vd vs vr, e = .returned (.agg #[.string o.code, vd, vs, vr]) ∧ w'.ownsRow W0.heap.size 2 1 vd o.data.length (o.data.flatMap O.intC) ∧ w'.ownsRow W0.heap.size 69 3 vs o.syms.length (o.syms.flatMap O.symC) ∧ w'.ownsRow W0.heap.size 51 4 vr o.rels.length (o.rels.flatMap O.relC) ∧ Below W0.heap.size W0 w'
section
variable {w W0 : World} {yb bm : Nat} {ai : Option Addr} {li ci : Nat} {ts : List X.It} {ap aj : Option Addr} {cp cj : Nat}
set_option maxRecDepth 100000 in
set_option maxHeartbeats 16000000 in
theorem object_any (h : LV w W0 yb bm ai li ci ts ap aj cp cj (Z.ops ts) (Z.ats (Z.ops ts)) (Z.js ts) (Z.tot (Z.ops ts))) (hv : ItsV w ai li ci ts) (hl : li ≤ 20000) (hJ : J.Tab w) (hw : ∀ t ∈ ts, X.itOk t = true) :
  Calls Tryz.prog 27 #[.pointer (some ⟨yb, 0, none⟩)] W0 (ObjOut W0 (Z.obj ts)) := by
 obtain ⟨i1, hi1, hz10, hz11, hz12⟩ := info_parts O.infoI
 obtain ⟨i2, hi2, hz20, hz21, hz22⟩ := info_parts O.infoS
 obtain ⟨i3, hi3, hz30, hz31, hz32⟩ := info_parts O.infoR
 have HV : Hid _ := hv
 have HC : Hid (ts.length = li) := hv.count
 have HW : Hid _ := hw
 have HJT : Hid (J.Tab w) := hJ
 have HLV : Hid _ := h
 obtain ⟨-, y1, -⟩ := h.cells
 obtain ⟨rb, hrb⟩ : ∃ rb, W0.heap.size = rb := ⟨_, rfl⟩
 obtain ⟨Y1, hY1⟩ : ∃ Y1, W0.alloc (.cells #[.string { data := #[] }, .slice none 0 0, .slice none 0 0, .slice none 0 0] 30) = Y1 := ⟨_, rfl⟩
 obtain ⟨ob, hob⟩ : ∃ ob, Y1.heap.size = ob := ⟨_, rfl⟩
 obtain ⟨Y2, hY2⟩ : ∃ Y2, Y1.alloc (.cells #[.string { data := #[] }, .slice none 0 0, .slice none 0 0, .slice none 0 0] 30) = Y2 := ⟨_, rfl⟩
 have HB0 : Hid (O.BS W0 Y2 [⟨5, 1, .slice none 0 0, 0, []⟩, ⟨2, 1, .slice none 0 0, 0, []⟩, ⟨69, 3, .slice none 0 0, 0, []⟩, ⟨51, 4, .slice none 0 0, 0, []⟩] [(ob, [.string { data := #[] }, .slice none 0 0, .slice none 0 0, .slice none 0 0]), (rb, [.string { data := #[] }, .slice none 0 0, .slice none 0 0, .slice none 0 0])]) := by
  have b1 := (O.BS.start W0).alloc #[.string { data := #[] }, .slice none 0 0, .slice none 0 0, .slice none 0 0] 30
  rw [hY1, hrb] at b1
  have b2 := b1.alloc #[.string { data := #[] }, .slice none 0 0, .slice none 0 0, .slice none 0 0] 30
  rw [hY2, hob] at b2
  exact (((b2.nil 51 4).nil 69 3).nil 2 1).nil 5 1
 have y1b := cell_thru HB0.out.low y1
 clear h hv hw hJ
 go_enter Tryz.func27, Tryz.ntmps27
 go_wp2_with fail
 go_loopg [4, 12] li (fun r cv iv wq => ∃ (k : Nat) (ac : Option Addr) (xc nc nd ns nr : Nat), cv = .slice ac nc xc ∧ iv = .int .i64 k ∧ k ≤ li ∧ li - k ≤ r ∧ nc ≤ 20 * k ∧ nd ≤ 4096 * k ∧ ns ≤ k ∧ nr ≤ k ∧ Hid (∃ vd vs vr cc cd cs cr, O.BS W0 wq [⟨5, 1, (.slice ac nc xc), nc, cc⟩, ⟨2, 1, vd, nd, cd⟩, ⟨69, 3, vs, ns, cs⟩, ⟨51, 4, vr, nr, cr⟩] [(ob, [.string { data := #[] }, vd, vs, vr]), (rb, [.string { data := #[] }, .slice none 0 0, .slice none 0 0, .slice none 0 0])] ∧ OI (Z.objTo ts (Z.ops ts) k) nc cc nd cd ns cs nr cr))
 case atStart => exact ⟨0, none, 0, 0, 0, 0, 0, rfl, rfl, Nat.zero_le _, by omega, by omega, by omega, by omega, by omega, ⟨_, _, _, _, _, _, _, HB0.out, ⟨⟨rfl, rfl⟩, ⟨rfl, rfl⟩, ⟨rfl, rfl⟩, ⟨rfl, rfl⟩⟩⟩⟩
 case round =>
  obtain ⟨k, ac, xc, nc, nd, ns, nr, rfl, rfl, hk, hr, hnc, hnd, hns, hnr, HX⟩ := hrel
  obtain ⟨vd, vs, vr, cc, cd, cs, cr, hBS, hOI⟩ := HX.out
  have ow1 : wr.ownsRow W0.heap.size 2 1 vd nd cd := hBS.own 1 _ rfl
  have ow2 : wr.ownsRow W0.heap.size 69 3 vs ns cs := hBS.own 2 _ rfl
  have ow3 : wr.ownsRow W0.heap.size 51 4 vr nr cr := hBS.own 3 _ rfl
  obtain ⟨ad, xd, rfl⟩ := own_slice ow1
  obtain ⟨as2, xs2, rfl⟩ := own_slice ow2
  obtain ⟨ar, xr, rfl⟩ := own_slice ow3
  clear ow1 ow2 ow3
  have HBS : Hid _ := hBS
  have HOI : Hid _ := hOI
  clear HX HB0 y1 y1b hY1 hY2 hOI
  by_cases hlt : k < li
  ·have hii : (k : Int) < li := by omega
   have hin : 0 ≤ (k : Int) := by omega
   obtain ⟨b, off, t, aw, lw, cw, rfl, hg, hmem, d0, d1, d2, d3, d4, d5, d6, hi⟩ := (HV.out.below HLV.out.low).at hlt
   have c0 := cell_thru hBS.low d0
   have c1 := cell_thru hBS.low d1
   have c2 := cell_thru hBS.low d2
   have c3 := cell_thru hBS.low d3
   have c4 := cell_thru hBS.low d4
   have c5 := cell_thru hBS.low d5
   have c6 := cell_thru hBS.low d6
   have hfit := (HV.out.fit t hmem).1
   have hwl : t.words.length = lw := hi.count
   obtain ⟨hw4, hw1⟩ := itOk_words (HW.out t hmem)
   rw [hwl] at hw4 hw1
   have HIV : Hid (∀ W', Below W0.heap.size W0 W' → IntsV W' aw lw cw t.words) := fun W' hb => hi.below hb
   have HGD : Hid (ts.getD k X.noIt = t) := hg
   have HST : Hid (Z.objTo ts (Z.ops ts) (k + 1) = Z.stepO ts (Z.ops ts) (Z.objTo ts (Z.ops ts) k) k) := Z.objTo_succ _ _ _
   obtain ⟨s, hs⟩ : ∃ s, Z.objTo ts (Z.ops ts) k = s := ⟨_, rfl⟩
   rw [hs] at HOI HST
   obtain ⟨nm, hnm⟩ : ∃ nm, X.str t.name = nm := ⟨_, rfl⟩
   rw [hnm] at c1
   obtain ⟨bx, hbx⟩ : ∃ bx, wr.heap.size = bx := ⟨_, rfl⟩
   obtain ⟨Y0, hY0⟩ : ∃ Y0, wr.alloc (.cells #[.int .i64 t.kind, .string nm, .int .i64 t.op, .int .i64 t.a, .int .i64 t.b, .int .i64 t.n, .slice aw lw cw] 44) = Y0 := ⟨_, rfl⟩
   have HB1 : Hid (O.BS W0 Y0 [⟨5, 1, (.slice ac nc xc), nc, cc⟩, ⟨2, 1, (.slice ad nd xd), nd, cd⟩, ⟨69, 3, (.slice as2 ns xs2), ns, cs⟩, ⟨51, 4, (.slice ar nr xr), nr, cr⟩] [(bx, [.int .i64 t.kind, .string nm, .int .i64 t.op, .int .i64 t.a, .int .i64 t.b, .int .i64 t.n, .slice aw lw cw]), (ob, [.string { data := #[] }, (.slice ad nd xd), (.slice as2 ns xs2), (.slice ar nr xr)]), (rb, [.string { data := #[] }, .slice none 0 0, .slice none 0 0, .slice none 0 0])]) := by
    have := hBS.alloc #[.int .i64 t.kind, .string nm, .int .i64 t.op, .int .i64 t.a, .int .i64 t.b, .int .i64 t.n, .slice aw lw cw] 44
    rw [hY0, hbx] at this
    exact this
   have f0 : Y0.cell? ⟨bx, 0, none⟩ = some (.int .i64 t.kind) := (HB1.out.box 0 _ rfl).1 0 _ rfl
   have f1 : Y0.cell? ⟨bx, 1, none⟩ = some (.string nm) := (HB1.out.box 0 _ rfl).1 1 _ rfl
   have f2 : Y0.cell? ⟨bx, 2, none⟩ = some (.int .i64 t.op) := (HB1.out.box 0 _ rfl).1 2 _ rfl
   have f3 : Y0.cell? ⟨bx, 3, none⟩ = some (.int .i64 t.a) := (HB1.out.box 0 _ rfl).1 3 _ rfl
   have f4 : Y0.cell? ⟨bx, 4, none⟩ = some (.int .i64 t.b) := (HB1.out.box 0 _ rfl).1 4 _ rfl
   have f5 : Y0.cell? ⟨bx, 5, none⟩ = some (.int .i64 t.n) := (HB1.out.box 0 _ rfl).1 5 _ rfl
   have f6 : Y0.cell? ⟨bx, 6, none⟩ = some (.slice aw lw cw) := (HB1.out.box 0 _ rfl).1 6 _ rfl
   have HLW : Hid (∀ W', Below W0.heap.size W0 W' → LV w W' yb bm (some ⟨b, off, none⟩) li ci ts ap aj cp cj (Z.ops ts) (Z.ats (Z.ops ts)) (Z.js ts) (Z.tot (Z.ops ts))) := fun W' hb => LV.below HLV.out hb
   have HWL : Hid (t.words.length = lw) := hwl
   clear hBS hmem hi hg hwl hs d0 d1 d2 d3 d4 d5 d6
   by_cases k2 : t.kind = 2
   ·have e2 : (t.kind == 2) = true := by simpa using k2
    obtain ⟨cb, hcb⟩ : ∃ cb, strOfNums (Z.codeV ts (Z.ops ts) k) = cb := ⟨_, rfl⟩
    have hcs : cb.size ≤ 20 := by rw [← hcb, Z.strOf_size]; exact Z.enc_len _ _ _ _
    have hcode := code_any (HLW.out Y0 HB1.out.low) HV.out hl HJT.out k hlt
    rw [hcb] at hcode
    have HNS : Hid (Z.objTo ts (Z.ops ts) (k + 1) = ⟨s.code ++ cb, s.data, s.syms, if Z.isOpen ts t = true then s.rels ++ [Z.relOf t ((s.code ++ cb).size - 4)] else s.rels⟩) := by
     show _ = _
     rw [HST.out]
     unfold Z.stepO
     rw [HGD.out, if_pos k2, hcb]
    clear k2 hcb
    go_wp2_with fail
    refine hcode.mono ?_
    rintro e y1 ⟨rfl, hb1⟩
    have HD1 : Hid (O.BS W0 y1 [⟨5, 1, (.slice ac nc xc), nc, cc⟩, ⟨2, 1, (.slice ad nd xd), nd, cd⟩, ⟨69, 3, (.slice as2 ns xs2), ns, cs⟩, ⟨51, 4, (.slice ar nr xr), nr, cr⟩] [(bx, [.int .i64 t.kind, .string nm, .int .i64 t.op, .int .i64 t.a, .int .i64 t.b, .int .i64 t.n, .slice aw lw cw]), (ob, [.string { data := #[] }, (.slice ad nd xd), (.slice as2 ns xs2), (.slice ar nr xr)]), (rb, [.string { data := #[] }, .slice none 0 0, .slice none 0 0, .slice none 0 0])]) := HB1.out.below hb1
    clear hb1 hcode
    go_wp2_with (first | (at_builtin; refine O.wpList_append_str rfl _ _ rfl rfl (HD1.out.own 0 _ rfl) cb rfl (show nc + cb.size ≤ 140737488355328 by omega) HD1.out.low.size ?_; intro v2 y2 ho2 hgr2; obtain ⟨a2, x2, rfl⟩ := own_slice ho2; have HD2' := HD1.out.push (k := 0) rfl ho2 hgr2.grown hgr2.lies; obtain ⟨nn, hnn⟩ : ∃ nn, nc + cb.size = nn := ⟨_, rfl⟩; simp only [hnn] at HD2' ⊢; have HNN : Hid _ := hnn; have HD2 : Hid (O.BS W0 y2 [⟨5, 1, (.slice a2 nn x2), nn, (cc ++ strCells cb)⟩, ⟨2, 1, (.slice ad nd xd), nd, cd⟩, ⟨69, 3, (.slice as2 ns xs2), ns, cs⟩, ⟨51, 4, (.slice ar nr xr), nr, cr⟩] [(bx, [.int .i64 t.kind, .string nm, .int .i64 t.op, .int .i64 t.a, .int .i64 t.b, .int .i64 t.n, .slice aw lw cw]), (ob, [.string { data := #[] }, (.slice ad nd xd), (.slice as2 ns xs2), (.slice ar nr xr)]), (rb, [.string { data := #[] }, .slice none 0 0, .slice none 0 0, .slice none 0 0])]) := HD2'; have p0 := (HD2.out.box 0 _ rfl).1 0 _ rfl; have p1 := (HD2.out.box 0 _ rfl).1 1 _ rfl; have p2 := (HD2.out.box 0 _ rfl).1 2 _ rfl; have p3 := (HD2.out.box 0 _ rfl).1 3 _ rfl; have p4 := (HD2.out.box 0 _ rfl).1 4 _ rfl; have p5 := (HD2.out.box 0 _ rfl).1 5 _ rfl; have p6 := (HD2.out.box 0 _ rfl).1 6 _ rfl; clear ho2 hgr2 HD2' hnn) | fail)
    have hoc := isOpen_any (HLW.out y2 HD2.out.low) t hfit aw lw cw
    unfold itV at hoc
    rw [hnm] at hoc
    have hnn20 : nn ≤ 20 * (k + 1) := by have := HNN.out; omega
    have HSC : Hid (nn = (s.code ++ cb).size ∧ cc ++ strCells cb = strCells (s.code ++ cb)) := ⟨by rw [← HNN.out, HOI.out.fc.1, ByteArray.size_append], by rw [strCells_app, HOI.out.fc.2]⟩
    cases hO : Z.isOpen ts t with
    | false =>
     rw [hO] at hoc
     have HN : Hid (OI (Z.objTo ts (Z.ops ts) (k + 1)) nn (cc ++ strCells cb) nd cd ns cs nr cr) := by
      show OI _ _ _ _ _ _ _ _ _
      rw [HNS.out, hO]
      exact ⟨HSC.out, HOI.out.fd, HOI.out.fs, HOI.out.fr⟩
     clear hO
     refine hoc.mono ?_
     rintro e y3 ⟨rfl, hb3⟩
     have HP : Hid _ := HD2.out.below hb3
     clear hb3 hoc hY0 c0 c1 c2 c3 c4 c5 c6 f0 f1 f2 f3 f4 f5 f6 p0 p1 p2 p3 p4 p5 p6
     go_wp2_with fail
     go_roundg (li - (k + 1))
     case measure => omega
     case rel => exact ⟨k + 1, _, _, nn, nd, ns, nr, rfl, by go_num, by omega, Nat.le_refl _, by omega, by omega, by omega, by omega, ⟨_, _, _, _, _, _, _, HP.out.drop, HN.out⟩⟩
    | true =>
     rw [hO] at hoc
     obtain ⟨⟨rp, rk, rn, ra⟩, hrr⟩ : ∃ r, Z.relOf t ((nn : Int) - 4) = r := ⟨_, rfl⟩
     have HN : Hid (OI (Z.objTo ts (Z.ops ts) (k + 1)) nn (cc ++ strCells cb) nd cd ns cs (nr + 1) (cr ++ O.relC ⟨rp, rk, rn, ra⟩)) := by
      show OI _ _ _ _ _ _ _ _ _
      rw [HNS.out, hO, ← HSC.out.1, if_pos rfl, hrr]
      exact ⟨HSC.out, HOI.out.fd, HOI.out.fs, ⟨by rw [HOI.out.fr.1]; simp, by rw [HOI.out.fr.2]; simp⟩⟩
     clear hO
     refine hoc.mono ?_
     rintro e y3 ⟨rfl, hb3⟩
     have HD : Hid (O.BS W0 y3 [⟨5, 1, (.slice a2 nn x2), nn, (cc ++ strCells cb)⟩, ⟨2, 1, (.slice ad nd xd), nd, cd⟩, ⟨69, 3, (.slice as2 ns xs2), ns, cs⟩, ⟨51, 4, (.slice ar nr xr), nr, cr⟩] [(bx, [.int .i64 t.kind, .string nm, .int .i64 t.op, .int .i64 t.a, .int .i64 t.b, .int .i64 t.n, .slice aw lw cw]), (ob, [.string { data := #[] }, (.slice ad nd xd), (.slice as2 ns xs2), (.slice ar nr xr)]), (rb, [.string { data := #[] }, .slice none 0 0, .slice none 0 0, .slice none 0 0])]) := HD2.out.below hb3
     have hrc := reloc_any t ((nn : Int) - 4) aw lw cw y3.drew
     unfold itV at hrc
     rw [hrr, hnm] at hrc
     simp only at hrc
     have hwr : IntKind.i64.wrap ((nn : Int) - 4) = (nn : Int) - 4 := by rw [IntKind.wrap_i64]; omega
     have HS0 : Hid (y3.drew.cell? ⟨bx, 0, none⟩ = some (.int .i64 t.kind) ∧ y3.drew.cell? ⟨bx, 1, none⟩ = some (.string nm) ∧ y3.drew.cell? ⟨bx, 2, none⟩ = some (.int .i64 t.op) ∧ y3.drew.cell? ⟨bx, 3, none⟩ = some (.int .i64 t.a) ∧ y3.drew.cell? ⟨bx, 4, none⟩ = some (.int .i64 t.b) ∧ y3.drew.cell? ⟨bx, 5, none⟩ = some (.int .i64 t.n) ∧ y3.drew.cell? ⟨bx, 6, none⟩ = some (.slice aw lw cw)) := ⟨((HD.out.below (Below.refl _ _).drew).box 0 _ rfl).1 0 _ rfl, ((HD.out.below (Below.refl _ _).drew).box 0 _ rfl).1 1 _ rfl, ((HD.out.below (Below.refl _ _).drew).box 0 _ rfl).1 2 _ rfl, ((HD.out.below (Below.refl _ _).drew).box 0 _ rfl).1 3 _ rfl, ((HD.out.below (Below.refl _ _).drew).box 0 _ rfl).1 4 _ rfl, ((HD.out.below (Below.refl _ _).drew).box 0 _ rfl).1 5 _ rfl, ((HD.out.below (Below.refl _ _).drew).box 0 _ rfl).1 6 _ rfl⟩
     clear hb3 hoc hrr hY0 c0 c1 c2 c3 c4 c5 c6 f0 f1 f2 f3 f4 f5 f6 p0 p1 p2 p3 p4 p5 p6
     go_wp2_with fail
     refine wp_region_held_drew (S := (fun w' : World => w'.cell? ⟨bx, 0, none⟩ = some (.int .i64 t.kind) ∧ w'.cell? ⟨bx, 1, none⟩ = some (.string nm) ∧ w'.cell? ⟨bx, 2, none⟩ = some (.int .i64 t.op) ∧ w'.cell? ⟨bx, 3, none⟩ = some (.int .i64 t.a) ∧ w'.cell? ⟨bx, 4, none⟩ = some (.int .i64 t.b) ∧ w'.cell? ⟨bx, 5, none⟩ = some (.int .i64 t.n) ∧ w'.cell? ⟨bx, 6, none⟩ = some (.slice aw lw cw))) (by kernel_rfl) HS0.out (fun hHeld => ?_)
     refine tj 0 ?_
     simp only [Act.put, zA, zB, zC]
     refine tj 2 ?_
     simp only [Act.put, zA, zB, zC]
     refine tj 3 ?_
     simp only [Act.put, zA, zB, zC]
     refine tj 4 ?_
     simp only [Act.put, zA, zB, zC]
     refine tj 5 ?_
     simp only [Act.put, zA, zB, zC]
     refine tr [1, 6] ?_
     refine AllReadyH.cons (tA rfl) (fun K hK => ?_) ?_
     ·have m3 := (HD.out.box 1 _ rfl).1 3 _ rfl
      go_simp
      refine hK.out _ _ hHeld (fun hHeld => ?_)
      clear hK K m3
      try simp only [Act.put, zA, zB, zC]
      refine tr [6] ?_
      refine AllReadyH.cons (tA rfl) (fun K hK => ?_) ?_
      ·go_simp
       refine (hrc).mono ?_
       rintro e y1 ⟨rfl, hb1⟩
       have HC : Hid (O.BS W0 y1 [⟨5, 1, (.slice a2 nn x2), nn, (cc ++ strCells cb)⟩, ⟨2, 1, (.slice ad nd xd), nd, cd⟩, ⟨69, 3, (.slice as2 ns xs2), ns, cs⟩, ⟨51, 4, (.slice ar nr xr), nr, cr⟩] [(bx, [.int .i64 t.kind, .string nm, .int .i64 t.op, .int .i64 t.a, .int .i64 t.b, .int .i64 t.n, .slice aw lw cw]), (ob, [.string { data := #[] }, (.slice ad nd xd), (.slice as2 ns xs2), (.slice ar nr xr)]), (rb, [.string { data := #[] }, .slice none 0 0, .slice none 0 0, .slice none 0 0])]) := (HD.out.below (Below.refl _ _).drew).below hb1
       clear hb1
       try go_wp2_with fail
       refine hK.out _ _ ⟨(HC.out.box 0 _ rfl).1 0 _ rfl, (HC.out.box 0 _ rfl).1 1 _ rfl, (HC.out.box 0 _ rfl).1 2 _ rfl, (HC.out.box 0 _ rfl).1 3 _ rfl, (HC.out.box 0 _ rfl).1 4 _ rfl, (HC.out.box 0 _ rfl).1 5 _ rfl, (HC.out.box 0 _ rfl).1 6 _ rfl⟩ (fun hHeld => ?_)
       clear hK K
       try simp only [Act.put, zA, zB, zC]
       refine tr [7] ?_
       refine AllReadyH.cons (tA rfl) (fun K hK => ?_) ?_
       ·go_simp
        have HE : Hid (O.BS W0 (y1.alloc (.cells #[.int .i64 rp, .int .i64 rk, .string rn, .int .i64 ra] 51)) [⟨5, 1, (.slice a2 nn x2), nn, (cc ++ strCells cb)⟩, ⟨2, 1, (.slice ad nd xd), nd, cd⟩, ⟨69, 3, (.slice as2 ns xs2), ns, cs⟩, ⟨51, 4, (.slice ar nr xr), nr, cr⟩] [(bx, [.int .i64 t.kind, .string nm, .int .i64 t.op, .int .i64 t.a, .int .i64 t.b, .int .i64 t.n, .slice aw lw cw]), (ob, [.string { data := #[] }, (.slice ad nd xd), (.slice as2 ns xs2), (.slice ar nr xr)]), (rb, [.string { data := #[] }, .slice none 0 0, .slice none 0 0, .slice none 0 0])]) := HC.out.below (bl1 _ _)
        have HNC : Hid (∀ j u, ((O.relC ⟨rp, rk, rn, ra⟩))[j]? = some u → (y1.alloc (.cells #[.int .i64 rp, .int .i64 rk, .string rn, .int .i64 ra] 51)).cell? ((⟨y1.heap.size, 0, none⟩ : Addr).add j) = some u) := fun j u hu => by
         rw [Addr.add_lit, Nat.zero_add]
         exact cellA rfl (by simpa [O.symC, O.relC] using hu)
        refine hK.out _ _ ⟨(HE.out.box 0 _ rfl).1 0 _ rfl, (HE.out.box 0 _ rfl).1 1 _ rfl, (HE.out.box 0 _ rfl).1 2 _ rfl, (HE.out.box 0 _ rfl).1 3 _ rfl, (HE.out.box 0 _ rfl).1 4 _ rfl, (HE.out.box 0 _ rfl).1 5 _ rfl, (HE.out.box 0 _ rfl).1 6 _ rfl⟩ (fun hHeld => ?_)
        clear hK K
        try simp only [Act.put, zA, zB, zC]
        refine tr [8] ?_
        refine AllReadyH.cons (tA rfl) (fun K hK => ?_) AllReadyH.nil
        refine step_append_lies _ (by rfl) _ _ 28 (by rfl) W0.heap.size 51 i3 _ 4 40 Tryz.underlying28 hi3 hz30 hz31 hz32 (by rfl) (by decide) (.slice ar nr xr) nr cr (by rfl) (HE.out.own 3 _ rfl) ⟨y1.heap.size, 0, none⟩ 1 1 (O.relC ⟨rp, rk, rn, ra⟩) (by rfl) (by rfl) HNC.out (by intro u hu; simp [O.relC] at hu; rcases hu with rfl | rfl | rfl | rfl <;> rfl) (by decide) (by unfold maxLen; omega) (by omega) HE.out.low.size _ rfl ?_
        intro g cap Y6 ho6 hg6 hat6 hlt6
        have HP0 : Hid _ := HE.out.push (k := 3) rfl ho6 hg6 (fun g' hg' => by simp [Value.ownBlock] at hg'; subst hg'; rcases hat6 with e | e; exact .inl e; exact .inr (by rw [e]; exact Nat.le_refl _))
        have HP : Hid _ := HP0.out.put 1 ob [.string { data := #[] }, (.slice ad nd xd), (.slice as2 ns xs2), (.slice ar nr xr)] rfl 3 (by simp) (.slice (some ⟨g, 0, none⟩) (nr + 1) cap)
        have h60 : Y6.cell? ⟨bx, 0, none⟩ = some (.int .i64 t.kind) ∧ Y6.cell? ⟨bx, 1, none⟩ = some (.string nm) ∧ Y6.cell? ⟨bx, 2, none⟩ = some (.int .i64 t.op) ∧ Y6.cell? ⟨bx, 3, none⟩ = some (.int .i64 t.a) ∧ Y6.cell? ⟨bx, 4, none⟩ = some (.int .i64 t.b) ∧ Y6.cell? ⟨bx, 5, none⟩ = some (.int .i64 t.n) ∧ Y6.cell? ⟨bx, 6, none⟩ = some (.slice aw lw cw) := ⟨(HP0.out.box 0 _ rfl).1 0 _ rfl, (HP0.out.box 0 _ rfl).1 1 _ rfl, (HP0.out.box 0 _ rfl).1 2 _ rfl, (HP0.out.box 0 _ rfl).1 3 _ rfl, (HP0.out.box 0 _ rfl).1 4 _ rfl, (HP0.out.box 0 _ rfl).1 5 _ rfl, (HP0.out.box 0 _ rfl).1 6 _ rfl⟩
        have h61 : (Y6.setCell ⟨ob, 3, none⟩ (.slice (some ⟨g, 0, none⟩) (nr + 1) cap)).cell? ⟨bx, 0, none⟩ = some (.int .i64 t.kind) ∧ (Y6.setCell ⟨ob, 3, none⟩ (.slice (some ⟨g, 0, none⟩) (nr + 1) cap)).cell? ⟨bx, 1, none⟩ = some (.string nm) ∧ (Y6.setCell ⟨ob, 3, none⟩ (.slice (some ⟨g, 0, none⟩) (nr + 1) cap)).cell? ⟨bx, 2, none⟩ = some (.int .i64 t.op) ∧ (Y6.setCell ⟨ob, 3, none⟩ (.slice (some ⟨g, 0, none⟩) (nr + 1) cap)).cell? ⟨bx, 3, none⟩ = some (.int .i64 t.a) ∧ (Y6.setCell ⟨ob, 3, none⟩ (.slice (some ⟨g, 0, none⟩) (nr + 1) cap)).cell? ⟨bx, 4, none⟩ = some (.int .i64 t.b) ∧ (Y6.setCell ⟨ob, 3, none⟩ (.slice (some ⟨g, 0, none⟩) (nr + 1) cap)).cell? ⟨bx, 5, none⟩ = some (.int .i64 t.n) ∧ (Y6.setCell ⟨ob, 3, none⟩ (.slice (some ⟨g, 0, none⟩) (nr + 1) cap)).cell? ⟨bx, 6, none⟩ = some (.slice aw lw cw) := ⟨(HP.out.box 0 _ rfl).1 0 _ rfl, (HP.out.box 0 _ rfl).1 1 _ rfl, (HP.out.box 0 _ rfl).1 2 _ rfl, (HP.out.box 0 _ rfl).1 3 _ rfl, (HP.out.box 0 _ rfl).1 4 _ rfl, (HP.out.box 0 _ rfl).1 5 _ rfl, (HP.out.box 0 _ rfl).1 6 _ rfl⟩
        have m6 : Y6.cell? ⟨ob, 3, none⟩ = some (.slice ar nr xr) := (HP0.out.box 1 _ rfl).1 3 _ rfl
        have z6 : Y6.frozen? ⟨ob, 3, none⟩ = false := (HP0.out.box 1 _ rfl).2.1 3
        refine hK.out _ _ h60 (fun hHeld => ?_)
        clear hK K ho6 hg6 hat6 hlt6
        try simp only [Act.put, zA, zB, zC]
        refine tj 9 ?_
        simp only [Act.put, zA, zB, zC]
        refine tr [10] ?_
        refine AllReadyH.cons (tA rfl) (fun K hK => ?_) AllReadyH.nil
        go_simp
        refine hK.out _ _ h61 (fun hHeld => ?_)
        clear hK K
        try simp only [Act.put, zA, zB, zC]
        refine wpAnyH_done (by kernel_rfl) ?_ _
        clear hHeld
        clear m6 z6 h60 h61
        go_wp2_with fail
        go_roundg (li - (k + 1))
        case measure => omega
        case rel => exact ⟨k + 1, _, _, nn, nd, ns, (nr + 1), rfl, by go_num, by omega, Nat.le_refl _, by omega, by omega, by omega, by omega, ⟨_, _, _, _, _, _, _, HP.out.drop, HN.out⟩⟩
       exact AllReadyH.nil

      exact AllReadyH.nil

     refine AllReadyH.cons (tA rfl) (fun K hK => ?_) ?_
     ·go_simp
      refine (hrc).mono ?_
      rintro e y1 ⟨rfl, hb1⟩
      have HC : Hid (O.BS W0 y1 [⟨5, 1, (.slice a2 nn x2), nn, (cc ++ strCells cb)⟩, ⟨2, 1, (.slice ad nd xd), nd, cd⟩, ⟨69, 3, (.slice as2 ns xs2), ns, cs⟩, ⟨51, 4, (.slice ar nr xr), nr, cr⟩] [(bx, [.int .i64 t.kind, .string nm, .int .i64 t.op, .int .i64 t.a, .int .i64 t.b, .int .i64 t.n, .slice aw lw cw]), (ob, [.string { data := #[] }, (.slice ad nd xd), (.slice as2 ns xs2), (.slice ar nr xr)]), (rb, [.string { data := #[] }, .slice none 0 0, .slice none 0 0, .slice none 0 0])]) := (HD.out.below (Below.refl _ _).drew).below hb1
      clear hb1
      try go_wp2_with fail
      refine hK.out _ _ ⟨(HC.out.box 0 _ rfl).1 0 _ rfl, (HC.out.box 0 _ rfl).1 1 _ rfl, (HC.out.box 0 _ rfl).1 2 _ rfl, (HC.out.box 0 _ rfl).1 3 _ rfl, (HC.out.box 0 _ rfl).1 4 _ rfl, (HC.out.box 0 _ rfl).1 5 _ rfl, (HC.out.box 0 _ rfl).1 6 _ rfl⟩ (fun hHeld => ?_)
      clear hK K
      try simp only [Act.put, zA, zB, zC]
      refine tr [1, 7] ?_
      refine AllReadyH.cons (tA rfl) (fun K hK => ?_) ?_
      ·have m3 := (HC.out.box 1 _ rfl).1 3 _ rfl
       go_simp
       refine hK.out _ _ hHeld (fun hHeld => ?_)
       clear hK K m3
       try simp only [Act.put, zA, zB, zC]
       refine tr [7] ?_
       refine AllReadyH.cons (tA rfl) (fun K hK => ?_) ?_
       ·go_simp
        have HE : Hid (O.BS W0 (y1.alloc (.cells #[.int .i64 rp, .int .i64 rk, .string rn, .int .i64 ra] 51)) [⟨5, 1, (.slice a2 nn x2), nn, (cc ++ strCells cb)⟩, ⟨2, 1, (.slice ad nd xd), nd, cd⟩, ⟨69, 3, (.slice as2 ns xs2), ns, cs⟩, ⟨51, 4, (.slice ar nr xr), nr, cr⟩] [(bx, [.int .i64 t.kind, .string nm, .int .i64 t.op, .int .i64 t.a, .int .i64 t.b, .int .i64 t.n, .slice aw lw cw]), (ob, [.string { data := #[] }, (.slice ad nd xd), (.slice as2 ns xs2), (.slice ar nr xr)]), (rb, [.string { data := #[] }, .slice none 0 0, .slice none 0 0, .slice none 0 0])]) := HC.out.below (bl1 _ _)
        have HNC : Hid (∀ j u, ((O.relC ⟨rp, rk, rn, ra⟩))[j]? = some u → (y1.alloc (.cells #[.int .i64 rp, .int .i64 rk, .string rn, .int .i64 ra] 51)).cell? ((⟨y1.heap.size, 0, none⟩ : Addr).add j) = some u) := fun j u hu => by
         rw [Addr.add_lit, Nat.zero_add]
         exact cellA rfl (by simpa [O.symC, O.relC] using hu)
        refine hK.out _ _ ⟨(HE.out.box 0 _ rfl).1 0 _ rfl, (HE.out.box 0 _ rfl).1 1 _ rfl, (HE.out.box 0 _ rfl).1 2 _ rfl, (HE.out.box 0 _ rfl).1 3 _ rfl, (HE.out.box 0 _ rfl).1 4 _ rfl, (HE.out.box 0 _ rfl).1 5 _ rfl, (HE.out.box 0 _ rfl).1 6 _ rfl⟩ (fun hHeld => ?_)
        clear hK K
        try simp only [Act.put, zA, zB, zC]
        refine tr [8] ?_
        refine AllReadyH.cons (tA rfl) (fun K hK => ?_) AllReadyH.nil
        refine step_append_lies _ (by rfl) _ _ 28 (by rfl) W0.heap.size 51 i3 _ 4 40 Tryz.underlying28 hi3 hz30 hz31 hz32 (by rfl) (by decide) (.slice ar nr xr) nr cr (by rfl) (HE.out.own 3 _ rfl) ⟨y1.heap.size, 0, none⟩ 1 1 (O.relC ⟨rp, rk, rn, ra⟩) (by rfl) (by rfl) HNC.out (by intro u hu; simp [O.relC] at hu; rcases hu with rfl | rfl | rfl | rfl <;> rfl) (by decide) (by unfold maxLen; omega) (by omega) HE.out.low.size _ rfl ?_
        intro g cap Y6 ho6 hg6 hat6 hlt6
        have HP0 : Hid _ := HE.out.push (k := 3) rfl ho6 hg6 (fun g' hg' => by simp [Value.ownBlock] at hg'; subst hg'; rcases hat6 with e | e; exact .inl e; exact .inr (by rw [e]; exact Nat.le_refl _))
        have HP : Hid _ := HP0.out.put 1 ob [.string { data := #[] }, (.slice ad nd xd), (.slice as2 ns xs2), (.slice ar nr xr)] rfl 3 (by simp) (.slice (some ⟨g, 0, none⟩) (nr + 1) cap)
        have h60 : Y6.cell? ⟨bx, 0, none⟩ = some (.int .i64 t.kind) ∧ Y6.cell? ⟨bx, 1, none⟩ = some (.string nm) ∧ Y6.cell? ⟨bx, 2, none⟩ = some (.int .i64 t.op) ∧ Y6.cell? ⟨bx, 3, none⟩ = some (.int .i64 t.a) ∧ Y6.cell? ⟨bx, 4, none⟩ = some (.int .i64 t.b) ∧ Y6.cell? ⟨bx, 5, none⟩ = some (.int .i64 t.n) ∧ Y6.cell? ⟨bx, 6, none⟩ = some (.slice aw lw cw) := ⟨(HP0.out.box 0 _ rfl).1 0 _ rfl, (HP0.out.box 0 _ rfl).1 1 _ rfl, (HP0.out.box 0 _ rfl).1 2 _ rfl, (HP0.out.box 0 _ rfl).1 3 _ rfl, (HP0.out.box 0 _ rfl).1 4 _ rfl, (HP0.out.box 0 _ rfl).1 5 _ rfl, (HP0.out.box 0 _ rfl).1 6 _ rfl⟩
        have h61 : (Y6.setCell ⟨ob, 3, none⟩ (.slice (some ⟨g, 0, none⟩) (nr + 1) cap)).cell? ⟨bx, 0, none⟩ = some (.int .i64 t.kind) ∧ (Y6.setCell ⟨ob, 3, none⟩ (.slice (some ⟨g, 0, none⟩) (nr + 1) cap)).cell? ⟨bx, 1, none⟩ = some (.string nm) ∧ (Y6.setCell ⟨ob, 3, none⟩ (.slice (some ⟨g, 0, none⟩) (nr + 1) cap)).cell? ⟨bx, 2, none⟩ = some (.int .i64 t.op) ∧ (Y6.setCell ⟨ob, 3, none⟩ (.slice (some ⟨g, 0, none⟩) (nr + 1) cap)).cell? ⟨bx, 3, none⟩ = some (.int .i64 t.a) ∧ (Y6.setCell ⟨ob, 3, none⟩ (.slice (some ⟨g, 0, none⟩) (nr + 1) cap)).cell? ⟨bx, 4, none⟩ = some (.int .i64 t.b) ∧ (Y6.setCell ⟨ob, 3, none⟩ (.slice (some ⟨g, 0, none⟩) (nr + 1) cap)).cell? ⟨bx, 5, none⟩ = some (.int .i64 t.n) ∧ (Y6.setCell ⟨ob, 3, none⟩ (.slice (some ⟨g, 0, none⟩) (nr + 1) cap)).cell? ⟨bx, 6, none⟩ = some (.slice aw lw cw) := ⟨(HP.out.box 0 _ rfl).1 0 _ rfl, (HP.out.box 0 _ rfl).1 1 _ rfl, (HP.out.box 0 _ rfl).1 2 _ rfl, (HP.out.box 0 _ rfl).1 3 _ rfl, (HP.out.box 0 _ rfl).1 4 _ rfl, (HP.out.box 0 _ rfl).1 5 _ rfl, (HP.out.box 0 _ rfl).1 6 _ rfl⟩
        have m6 : Y6.cell? ⟨ob, 3, none⟩ = some (.slice ar nr xr) := (HP0.out.box 1 _ rfl).1 3 _ rfl
        have z6 : Y6.frozen? ⟨ob, 3, none⟩ = false := (HP0.out.box 1 _ rfl).2.1 3
        refine hK.out _ _ h60 (fun hHeld => ?_)
        clear hK K ho6 hg6 hat6 hlt6
        try simp only [Act.put, zA, zB, zC]
        refine tj 9 ?_
        simp only [Act.put, zA, zB, zC]
        refine tr [10] ?_
        refine AllReadyH.cons (tA rfl) (fun K hK => ?_) AllReadyH.nil
        go_simp
        refine hK.out _ _ h61 (fun hHeld => ?_)
        clear hK K
        try simp only [Act.put, zA, zB, zC]
        refine wpAnyH_done (by kernel_rfl) ?_ _
        clear hHeld
        clear m6 z6 h60 h61
        go_wp2_with fail
        go_roundg (li - (k + 1))
        case measure => omega
        case rel => exact ⟨k + 1, _, _, nn, nd, ns, (nr + 1), rfl, by go_num, by omega, Nat.le_refl _, by omega, by omega, by omega, by omega, ⟨_, _, _, _, _, _, _, HP.out.drop, HN.out⟩⟩
       exact AllReadyH.nil

      refine AllReadyH.cons (tA rfl) (fun K hK => ?_) ?_
      ·go_simp
       have HE : Hid (O.BS W0 (y1.alloc (.cells #[.int .i64 rp, .int .i64 rk, .string rn, .int .i64 ra] 51)) [⟨5, 1, (.slice a2 nn x2), nn, (cc ++ strCells cb)⟩, ⟨2, 1, (.slice ad nd xd), nd, cd⟩, ⟨69, 3, (.slice as2 ns xs2), ns, cs⟩, ⟨51, 4, (.slice ar nr xr), nr, cr⟩] [(bx, [.int .i64 t.kind, .string nm, .int .i64 t.op, .int .i64 t.a, .int .i64 t.b, .int .i64 t.n, .slice aw lw cw]), (ob, [.string { data := #[] }, (.slice ad nd xd), (.slice as2 ns xs2), (.slice ar nr xr)]), (rb, [.string { data := #[] }, .slice none 0 0, .slice none 0 0, .slice none 0 0])]) := HC.out.below (bl1 _ _)
       have HNC : Hid (∀ j u, ((O.relC ⟨rp, rk, rn, ra⟩))[j]? = some u → (y1.alloc (.cells #[.int .i64 rp, .int .i64 rk, .string rn, .int .i64 ra] 51)).cell? ((⟨y1.heap.size, 0, none⟩ : Addr).add j) = some u) := fun j u hu => by
        rw [Addr.add_lit, Nat.zero_add]
        exact cellA rfl (by simpa [O.symC, O.relC] using hu)
       refine hK.out _ _ ⟨(HE.out.box 0 _ rfl).1 0 _ rfl, (HE.out.box 0 _ rfl).1 1 _ rfl, (HE.out.box 0 _ rfl).1 2 _ rfl, (HE.out.box 0 _ rfl).1 3 _ rfl, (HE.out.box 0 _ rfl).1 4 _ rfl, (HE.out.box 0 _ rfl).1 5 _ rfl, (HE.out.box 0 _ rfl).1 6 _ rfl⟩ (fun hHeld => ?_)
       clear hK K
       try simp only [Act.put, zA, zB, zC]
       refine tr [1] ?_
       refine AllReadyH.cons (tA rfl) (fun K hK => ?_) ?_
       ·have m3 := (HE.out.box 1 _ rfl).1 3 _ rfl
        go_simp
        refine hK.out _ _ hHeld (fun hHeld => ?_)
        clear hK K m3
        try simp only [Act.put, zA, zB, zC]
        refine tr [8] ?_
        refine AllReadyH.cons (tA rfl) (fun K hK => ?_) AllReadyH.nil
        refine step_append_lies _ (by rfl) _ _ 28 (by rfl) W0.heap.size 51 i3 _ 4 40 Tryz.underlying28 hi3 hz30 hz31 hz32 (by rfl) (by decide) (.slice ar nr xr) nr cr (by rfl) (HE.out.own 3 _ rfl) ⟨y1.heap.size, 0, none⟩ 1 1 (O.relC ⟨rp, rk, rn, ra⟩) (by rfl) (by rfl) HNC.out (by intro u hu; simp [O.relC] at hu; rcases hu with rfl | rfl | rfl | rfl <;> rfl) (by decide) (by unfold maxLen; omega) (by omega) HE.out.low.size _ rfl ?_
        intro g cap Y6 ho6 hg6 hat6 hlt6
        have HP0 : Hid _ := HE.out.push (k := 3) rfl ho6 hg6 (fun g' hg' => by simp [Value.ownBlock] at hg'; subst hg'; rcases hat6 with e | e; exact .inl e; exact .inr (by rw [e]; exact Nat.le_refl _))
        have HP : Hid _ := HP0.out.put 1 ob [.string { data := #[] }, (.slice ad nd xd), (.slice as2 ns xs2), (.slice ar nr xr)] rfl 3 (by simp) (.slice (some ⟨g, 0, none⟩) (nr + 1) cap)
        have h60 : Y6.cell? ⟨bx, 0, none⟩ = some (.int .i64 t.kind) ∧ Y6.cell? ⟨bx, 1, none⟩ = some (.string nm) ∧ Y6.cell? ⟨bx, 2, none⟩ = some (.int .i64 t.op) ∧ Y6.cell? ⟨bx, 3, none⟩ = some (.int .i64 t.a) ∧ Y6.cell? ⟨bx, 4, none⟩ = some (.int .i64 t.b) ∧ Y6.cell? ⟨bx, 5, none⟩ = some (.int .i64 t.n) ∧ Y6.cell? ⟨bx, 6, none⟩ = some (.slice aw lw cw) := ⟨(HP0.out.box 0 _ rfl).1 0 _ rfl, (HP0.out.box 0 _ rfl).1 1 _ rfl, (HP0.out.box 0 _ rfl).1 2 _ rfl, (HP0.out.box 0 _ rfl).1 3 _ rfl, (HP0.out.box 0 _ rfl).1 4 _ rfl, (HP0.out.box 0 _ rfl).1 5 _ rfl, (HP0.out.box 0 _ rfl).1 6 _ rfl⟩
        have h61 : (Y6.setCell ⟨ob, 3, none⟩ (.slice (some ⟨g, 0, none⟩) (nr + 1) cap)).cell? ⟨bx, 0, none⟩ = some (.int .i64 t.kind) ∧ (Y6.setCell ⟨ob, 3, none⟩ (.slice (some ⟨g, 0, none⟩) (nr + 1) cap)).cell? ⟨bx, 1, none⟩ = some (.string nm) ∧ (Y6.setCell ⟨ob, 3, none⟩ (.slice (some ⟨g, 0, none⟩) (nr + 1) cap)).cell? ⟨bx, 2, none⟩ = some (.int .i64 t.op) ∧ (Y6.setCell ⟨ob, 3, none⟩ (.slice (some ⟨g, 0, none⟩) (nr + 1) cap)).cell? ⟨bx, 3, none⟩ = some (.int .i64 t.a) ∧ (Y6.setCell ⟨ob, 3, none⟩ (.slice (some ⟨g, 0, none⟩) (nr + 1) cap)).cell? ⟨bx, 4, none⟩ = some (.int .i64 t.b) ∧ (Y6.setCell ⟨ob, 3, none⟩ (.slice (some ⟨g, 0, none⟩) (nr + 1) cap)).cell? ⟨bx, 5, none⟩ = some (.int .i64 t.n) ∧ (Y6.setCell ⟨ob, 3, none⟩ (.slice (some ⟨g, 0, none⟩) (nr + 1) cap)).cell? ⟨bx, 6, none⟩ = some (.slice aw lw cw) := ⟨(HP.out.box 0 _ rfl).1 0 _ rfl, (HP.out.box 0 _ rfl).1 1 _ rfl, (HP.out.box 0 _ rfl).1 2 _ rfl, (HP.out.box 0 _ rfl).1 3 _ rfl, (HP.out.box 0 _ rfl).1 4 _ rfl, (HP.out.box 0 _ rfl).1 5 _ rfl, (HP.out.box 0 _ rfl).1 6 _ rfl⟩
        have m6 : Y6.cell? ⟨ob, 3, none⟩ = some (.slice ar nr xr) := (HP0.out.box 1 _ rfl).1 3 _ rfl
        have z6 : Y6.frozen? ⟨ob, 3, none⟩ = false := (HP0.out.box 1 _ rfl).2.1 3
        refine hK.out _ _ h60 (fun hHeld => ?_)
        clear hK K ho6 hg6 hat6 hlt6
        try simp only [Act.put, zA, zB, zC]
        refine tj 9 ?_
        simp only [Act.put, zA, zB, zC]
        refine tr [10] ?_
        refine AllReadyH.cons (tA rfl) (fun K hK => ?_) AllReadyH.nil
        go_simp
        refine hK.out _ _ h61 (fun hHeld => ?_)
        clear hK K
        try simp only [Act.put, zA, zB, zC]
        refine wpAnyH_done (by kernel_rfl) ?_ _
        clear hHeld
        clear m6 z6 h60 h61
        go_wp2_with fail
        go_roundg (li - (k + 1))
        case measure => omega
        case rel => exact ⟨k + 1, _, _, nn, nd, ns, (nr + 1), rfl, by go_num, by omega, Nat.le_refl _, by omega, by omega, by omega, by omega, ⟨_, _, _, _, _, _, _, HP.out.drop, HN.out⟩⟩
       exact AllReadyH.nil

      exact AllReadyH.nil

     exact AllReadyH.nil
   by_cases k3 : t.kind = 3
   ·have e2 : (t.kind == 2) = false := by simpa using k2
    have e3 : (t.kind == 3) = true := by simpa using k3
    have hl1 := hw1 k3
    have HN : Hid (OI (Z.objTo ts (Z.ops ts) (k + 1)) nc cc (nd + lw) (cd ++ iC t.words) (ns + 1) (cs ++ O.symC ⟨nm, 2, nd⟩) nr cr) := by
     show OI _ _ _ _ _ _ _ _ _
     rw [HST.out]
     unfold Z.stepO
     rw [HGD.out, if_neg k2, if_pos k3, hnm]
     exact ⟨HOI.out.fc, ⟨by rw [HOI.out.fd.1, List.length_append, HWL.out], by rw [HOI.out.fd.2, List.flatMap_append, intC_map t.words]⟩, ⟨by rw [HOI.out.fs.1]; simp, by rw [HOI.out.fs.2, HOI.out.fd.1]; simp⟩, HOI.out.fr⟩
    obtain ⟨Z1, hZ1⟩ : ∃ Z1, Y0.alloc (.cells #[.string nm, .int .i64 2, .int .i64 nd] 69) = Z1 := ⟨_, rfl⟩
    have HE : Hid (O.BS W0 Z1 [⟨5, 1, (.slice ac nc xc), nc, cc⟩, ⟨2, 1, (.slice ad nd xd), nd, cd⟩, ⟨69, 3, (.slice as2 ns xs2), ns, cs⟩, ⟨51, 4, (.slice ar nr xr), nr, cr⟩] [(bx, [.int .i64 t.kind, .string nm, .int .i64 t.op, .int .i64 t.a, .int .i64 t.b, .int .i64 t.n, .slice aw lw cw]), (ob, [.string { data := #[] }, (.slice ad nd xd), (.slice as2 ns xs2), (.slice ar nr xr)]), (rb, [.string { data := #[] }, .slice none 0 0, .slice none 0 0, .slice none 0 0])]) := by subst hZ1; exact HB1.out.below (bl1 _ _)
    have HNC : Hid (∀ j u, (O.symC ⟨nm, 2, nd⟩)[j]? = some u → Z1.cell? ((⟨Y0.heap.size, 0, none⟩ : Addr).add j) = some u) := fun j u hu => by
     subst hZ1
     rw [Addr.add_lit, Nat.zero_add]
     exact cellA rfl (by simpa [O.symC] using hu)
    have q1 : Y0.cell? ⟨ob, 1, none⟩ = some (.slice ad nd xd) := (HB1.out.box 1 _ rfl).1 1 _ rfl
    have q2 : Y0.cell? ⟨ob, 2, none⟩ = some (.slice as2 ns xs2) := (HB1.out.box 1 _ rfl).1 2 _ rfl
    clear k2 k3
    go_wp2_with (first | (at_builtin; refine wpList_append_lies _ rfl _ _ 27 rfl W0.heap.size 69 i2 _ 3 32 Tryz.underlying27 hi2 hz20 hz21 hz22 rfl (by decide) (.slice as2 ns xs2) ns cs rfl (HE.out.own 2 _ rfl) ⟨Y0.heap.size, 0, none⟩ 1 1 (O.symC ⟨nm, 2, nd⟩) rfl rfl HNC.out (by intro u hu; simp [O.symC] at hu; rcases hu with rfl | rfl | rfl <;> rfl) (by decide) (by unfold maxLen; omega) (by omega) HE.out.low.size Z1.heap.size rfl ?_; intro g cap Y6 ho6 hg6 hat6 hlt6; have HP0 : Hid (O.BS W0 Y6 [⟨5, 1, (.slice ac nc xc), nc, cc⟩, ⟨2, 1, (.slice ad nd xd), nd, cd⟩, ⟨69, 3, (.slice (some ⟨g, 0, none⟩) (ns + 1) cap), (ns + 1), (cs ++ O.symC ⟨nm, 2, nd⟩)⟩, ⟨51, 4, (.slice ar nr xr), nr, cr⟩] [(bx, [.int .i64 t.kind, .string nm, .int .i64 t.op, .int .i64 t.a, .int .i64 t.b, .int .i64 t.n, .slice aw lw cw]), (ob, [.string { data := #[] }, (.slice ad nd xd), (.slice as2 ns xs2), (.slice ar nr xr)]), (rb, [.string { data := #[] }, .slice none 0 0, .slice none 0 0, .slice none 0 0])]) := HE.out.push (k := 2) rfl ho6 hg6 (fun g' hg' => by simp [Value.ownBlock] at hg'; subst hg'; rcases hat6 with e | e; exact .inl e; exact .inr (by rw [e]; exact Nat.le_refl _)); have m6 : Y6.cell? ⟨ob, 2, none⟩ = some (.slice as2 ns xs2) := (HP0.out.box 1 _ rfl).1 2 _ rfl; have z6 : Y6.frozen? ⟨ob, 2, none⟩ = false := (HP0.out.box 1 _ rfl).2.1 2; obtain ⟨Y7, hY7⟩ : ∃ Y7, Y6.setCell ⟨ob, 2, none⟩ (.slice (some ⟨g, 0, none⟩) (ns + 1) cap) = Y7 := ⟨_, rfl⟩; have HP1 := HP0.out.put 1 ob [.string { data := #[] }, (.slice ad nd xd), (.slice as2 ns xs2), (.slice ar nr xr)] rfl 2 (by simp) (.slice (some ⟨g, 0, none⟩) (ns + 1) cap); simp only [hY7] at HP1; have HP : Hid (O.BS W0 Y7 [⟨5, 1, (.slice ac nc xc), nc, cc⟩, ⟨2, 1, (.slice ad nd xd), nd, cd⟩, ⟨69, 3, (.slice (some ⟨g, 0, none⟩) (ns + 1) cap), (ns + 1), (cs ++ O.symC ⟨nm, 2, nd⟩)⟩, ⟨51, 4, (.slice ar nr xr), nr, cr⟩] [(bx, [.int .i64 t.kind, .string nm, .int .i64 t.op, .int .i64 t.a, .int .i64 t.b, .int .i64 t.n, .slice aw lw cw]), (ob, [.string { data := #[] }, (.slice ad nd xd), (.slice (some ⟨g, 0, none⟩) (ns + 1) cap), (.slice ar nr xr)]), (rb, [.string { data := #[] }, .slice none 0 0, .slice none 0 0, .slice none 0 0])]) := HP1; have n1 : Y7.cell? ⟨ob, 1, none⟩ = some (.slice ad nd xd) := (HP.out.box 1 _ rfl).1 1 _ rfl; have n6 : Y7.cell? ⟨bx, 6, none⟩ = some (.slice aw lw cw) := (HP.out.box 0 _ rfl).1 6 _ rfl; have HI7 := IntsV.src' (HIV.out Y7 HP.out.low) hl1; clear ho6 hg6 hat6 hlt6 HP1) | (at_builtin; refine O.wpList_append_more rfl _ _ 26 rfl W0.heap.size 2 i1 _ 1 8 Tryz.underlying26 hi1 hz10 hz11 hz12 rfl (by decide) rfl (HP.out.own 1 _ rfl) HP.out.low.size (a := aw) (l := lw) (c := cw) (cs := iC t.words) rfl HI7.1 HI7.2.1 HI7.2.2.1 HI7.2.2.2 (show (nd + lw) * 8 ≤ 140737488355328 by omega) (show nd + lw ≤ 140737488355328 by omega) ?_; intro v8 Y8 ho8 hg8 hat8; obtain ⟨a8, c8, rfl⟩ := own_slice ho8; have HQ0 := HP.out.push (k := 1) rfl ho8 hg8 hat8; obtain ⟨nn, hnn⟩ : ∃ nn, nd + lw = nn := ⟨_, rfl⟩; simp only [hnn] at HQ0 HN ⊢; have HNN : Hid _ := hnn; have HQ1 : Hid (O.BS W0 Y8 [⟨5, 1, (.slice ac nc xc), nc, cc⟩, ⟨2, 1, (.slice a8 nn c8), nn, (cd ++ iC t.words)⟩, ⟨69, 3, (.slice (some ⟨g, 0, none⟩) (ns + 1) cap), (ns + 1), (cs ++ O.symC ⟨nm, 2, nd⟩)⟩, ⟨51, 4, (.slice ar nr xr), nr, cr⟩] [(bx, [.int .i64 t.kind, .string nm, .int .i64 t.op, .int .i64 t.a, .int .i64 t.b, .int .i64 t.n, .slice aw lw cw]), (ob, [.string { data := #[] }, (.slice ad nd xd), (.slice (some ⟨g, 0, none⟩) (ns + 1) cap), (.slice ar nr xr)]), (rb, [.string { data := #[] }, .slice none 0 0, .slice none 0 0, .slice none 0 0])]) := HQ0; have m8 : Y8.cell? ⟨ob, 1, none⟩ = some (.slice ad nd xd) := (HQ1.out.box 1 _ rfl).1 1 _ rfl; have z8 : Y8.frozen? ⟨ob, 1, none⟩ = false := (HQ1.out.box 1 _ rfl).2.1 1; clear ho8 hg8 hat8 HQ0 hnn) | fail)
    have HQ : Hid _ := HQ1.out.put 1 ob [.string { data := #[] }, (.slice ad nd xd), (.slice (some ⟨g, 0, none⟩) (ns + 1) cap), (.slice ar nr xr)] rfl 1 (by simp) (.slice a8 nn c8)
    have hnb : nn ≤ 4096 * (k + 1) := by have := HNN.out; omega
    clear m6 z6 m8 z8 n1 n6 q1 q2 hZ1 hY7 hY0 c0 c1 c2 c3 c4 c5 c6 f0 f1 f2 f3 f4 f5 f6
    go_wp2_with fail
    go_roundg (li - (k + 1))
    case measure => omega
    case rel => exact ⟨k + 1, _, _, nc, nn, (ns + 1), nr, rfl, by go_num, by omega, Nat.le_refl _, by omega, by omega, by omega, by omega, ⟨_, _, _, _, _, _, _, HQ.out.drop, HN.out⟩⟩
   by_cases k4 : t.kind = 4
   ·have e2 : (t.kind == 2) = false := by simpa using k2
    have e3 : (t.kind == 3) = false := by simpa using k3
    have e4 : (t.kind == 4) = true := by simpa using k4
    obtain ⟨pl, hpl⟩ : ∃ pl, Z.placeOf ts (Z.ops ts) t.name = pl := ⟨_, rfl⟩
    have HN : Hid (OI (Z.objTo ts (Z.ops ts) (k + 1)) nc cc nd cd (ns + 1) (cs ++ O.symC ⟨nm, 1, pl⟩) nr cr) := by
     show OI _ _ _ _ _ _ _ _ _
     rw [HST.out]
     unfold Z.stepO
     rw [HGD.out, if_neg k2, if_neg k3, if_pos k4, hpl, hnm]
     exact ⟨HOI.out.fc, HOI.out.fd, ⟨by rw [HOI.out.fs.1]; simp, by rw [HOI.out.fs.2]; simp⟩, HOI.out.fr⟩
    have hplc := placeOf_any (LV.below (HLW.out Y0 HB1.out.low) (Below.refl _ _).drew) (Z.ops_len ts) t.name hfit (by rw [HC.out]; omega)
    rw [hpl, hnm] at hplc
    have HD : Hid (O.BS W0 Y0 [⟨5, 1, (.slice ac nc xc), nc, cc⟩, ⟨2, 1, (.slice ad nd xd), nd, cd⟩, ⟨69, 3, (.slice as2 ns xs2), ns, cs⟩, ⟨51, 4, (.slice ar nr xr), nr, cr⟩] [(bx, [.int .i64 t.kind, .string nm, .int .i64 t.op, .int .i64 t.a, .int .i64 t.b, .int .i64 t.n, .slice aw lw cw]), (ob, [.string { data := #[] }, (.slice ad nd xd), (.slice as2 ns xs2), (.slice ar nr xr)]), (rb, [.string { data := #[] }, .slice none 0 0, .slice none 0 0, .slice none 0 0])]) := HB1.out
    have HS0 : Hid (Y0.drew.cell? ⟨bx, 0, none⟩ = some (.int .i64 t.kind) ∧ Y0.drew.cell? ⟨bx, 1, none⟩ = some (.string nm) ∧ Y0.drew.cell? ⟨bx, 2, none⟩ = some (.int .i64 t.op) ∧ Y0.drew.cell? ⟨bx, 3, none⟩ = some (.int .i64 t.a) ∧ Y0.drew.cell? ⟨bx, 4, none⟩ = some (.int .i64 t.b) ∧ Y0.drew.cell? ⟨bx, 5, none⟩ = some (.int .i64 t.n) ∧ Y0.drew.cell? ⟨bx, 6, none⟩ = some (.slice aw lw cw)) := ⟨((HB1.out.below (Below.refl _ _).drew).box 0 _ rfl).1 0 _ rfl, ((HB1.out.below (Below.refl _ _).drew).box 0 _ rfl).1 1 _ rfl, ((HB1.out.below (Below.refl _ _).drew).box 0 _ rfl).1 2 _ rfl, ((HB1.out.below (Below.refl _ _).drew).box 0 _ rfl).1 3 _ rfl, ((HB1.out.below (Below.refl _ _).drew).box 0 _ rfl).1 4 _ rfl, ((HB1.out.below (Below.refl _ _).drew).box 0 _ rfl).1 5 _ rfl, ((HB1.out.below (Below.refl _ _).drew).box 0 _ rfl).1 6 _ rfl⟩
    clear k2 k3 k4 hpl
    go_wp2_with fail
    clear hY0 c0 c1 c2 c3 c4 c5 c6 f0 f1 f2 f3 f4 f5 f6
    refine wp_region_held_drew (S := (fun w' : World => w'.cell? ⟨bx, 0, none⟩ = some (.int .i64 t.kind) ∧ w'.cell? ⟨bx, 1, none⟩ = some (.string nm) ∧ w'.cell? ⟨bx, 2, none⟩ = some (.int .i64 t.op) ∧ w'.cell? ⟨bx, 3, none⟩ = some (.int .i64 t.a) ∧ w'.cell? ⟨bx, 4, none⟩ = some (.int .i64 t.b) ∧ w'.cell? ⟨bx, 5, none⟩ = some (.int .i64 t.n) ∧ w'.cell? ⟨bx, 6, none⟩ = some (.slice aw lw cw))) (by kernel_rfl) HS0.out (fun hHeld => ?_)
    refine tj 0 ?_
    simp only [Act.put, zA, zB, zC]
    refine tj 2 ?_
    simp only [Act.put, zA, zB, zC]
    refine tj 3 ?_
    simp only [Act.put, zA, zB, zC]
    refine tj 4 ?_
    simp only [Act.put, zA, zB, zC]
    refine tj 5 ?_
    simp only [Act.put, zA, zB, zC]
    refine tj 6 ?_
    simp only [Act.put, zA, zB, zC]
    refine tr [1, 7] ?_
    refine AllReadyH.cons (tA rfl) (fun K hK => ?_) ?_
    ·have m3 := (HD.out.box 1 _ rfl).1 2 _ rfl
     go_simp
     refine hK.out _ _ hHeld (fun hHeld => ?_)
     clear hK K m3
     try simp only [Act.put, zA, zB, zC]
     refine tr [7] ?_
     refine AllReadyH.cons (tA rfl) (fun K hK => ?_) ?_
     ·go_simp
      refine (hplc).mono ?_
      rintro e y1 ⟨rfl, hb1⟩
      have HC : Hid (O.BS W0 y1 [⟨5, 1, (.slice ac nc xc), nc, cc⟩, ⟨2, 1, (.slice ad nd xd), nd, cd⟩, ⟨69, 3, (.slice as2 ns xs2), ns, cs⟩, ⟨51, 4, (.slice ar nr xr), nr, cr⟩] [(bx, [.int .i64 t.kind, .string nm, .int .i64 t.op, .int .i64 t.a, .int .i64 t.b, .int .i64 t.n, .slice aw lw cw]), (ob, [.string { data := #[] }, (.slice ad nd xd), (.slice as2 ns xs2), (.slice ar nr xr)]), (rb, [.string { data := #[] }, .slice none 0 0, .slice none 0 0, .slice none 0 0])]) := (HD.out.below (Below.refl _ _).drew).below hb1
      clear hb1
      try go_wp2_with fail
      refine hK.out _ _ ⟨(HC.out.box 0 _ rfl).1 0 _ rfl, (HC.out.box 0 _ rfl).1 1 _ rfl, (HC.out.box 0 _ rfl).1 2 _ rfl, (HC.out.box 0 _ rfl).1 3 _ rfl, (HC.out.box 0 _ rfl).1 4 _ rfl, (HC.out.box 0 _ rfl).1 5 _ rfl, (HC.out.box 0 _ rfl).1 6 _ rfl⟩ (fun hHeld => ?_)
      clear hK K
      try simp only [Act.put, zA, zB, zC]
      refine tj 8 ?_
      simp only [Act.put, zA, zB, zC]
      refine tr [9] ?_
      refine AllReadyH.cons (tA rfl) (fun K hK => ?_) ?_
      ·go_simp
       have HE : Hid (O.BS W0 (y1.alloc (.cells #[.string nm, .int .i64 1, .int .i64 pl] 69)) [⟨5, 1, (.slice ac nc xc), nc, cc⟩, ⟨2, 1, (.slice ad nd xd), nd, cd⟩, ⟨69, 3, (.slice as2 ns xs2), ns, cs⟩, ⟨51, 4, (.slice ar nr xr), nr, cr⟩] [(bx, [.int .i64 t.kind, .string nm, .int .i64 t.op, .int .i64 t.a, .int .i64 t.b, .int .i64 t.n, .slice aw lw cw]), (ob, [.string { data := #[] }, (.slice ad nd xd), (.slice as2 ns xs2), (.slice ar nr xr)]), (rb, [.string { data := #[] }, .slice none 0 0, .slice none 0 0, .slice none 0 0])]) := HC.out.below (bl1 _ _)
       have HNC : Hid (∀ j u, ((O.symC ⟨nm, 1, pl⟩))[j]? = some u → (y1.alloc (.cells #[.string nm, .int .i64 1, .int .i64 pl] 69)).cell? ((⟨y1.heap.size, 0, none⟩ : Addr).add j) = some u) := fun j u hu => by
        rw [Addr.add_lit, Nat.zero_add]
        exact cellA rfl (by simpa [O.symC, O.relC] using hu)
       refine hK.out _ _ ⟨(HE.out.box 0 _ rfl).1 0 _ rfl, (HE.out.box 0 _ rfl).1 1 _ rfl, (HE.out.box 0 _ rfl).1 2 _ rfl, (HE.out.box 0 _ rfl).1 3 _ rfl, (HE.out.box 0 _ rfl).1 4 _ rfl, (HE.out.box 0 _ rfl).1 5 _ rfl, (HE.out.box 0 _ rfl).1 6 _ rfl⟩ (fun hHeld => ?_)
       clear hK K
       try simp only [Act.put, zA, zB, zC]
       refine tr [10] ?_
       refine AllReadyH.cons (tA rfl) (fun K hK => ?_) AllReadyH.nil
       refine step_append_lies _ (by rfl) _ _ 27 (by rfl) W0.heap.size 69 i2 _ 3 32 Tryz.underlying27 hi2 hz20 hz21 hz22 (by rfl) (by decide) (.slice as2 ns xs2) ns cs (by rfl) (HE.out.own 2 _ rfl) ⟨y1.heap.size, 0, none⟩ 1 1 (O.symC ⟨nm, 1, pl⟩) (by rfl) (by rfl) HNC.out (by intro u hu; simp [O.symC] at hu; rcases hu with rfl | rfl | rfl <;> rfl) (by decide) (by unfold maxLen; omega) (by omega) HE.out.low.size _ rfl ?_
       intro g cap Y6 ho6 hg6 hat6 hlt6
       have HP0 : Hid _ := HE.out.push (k := 2) rfl ho6 hg6 (fun g' hg' => by simp [Value.ownBlock] at hg'; subst hg'; rcases hat6 with e | e; exact .inl e; exact .inr (by rw [e]; exact Nat.le_refl _))
       have HP : Hid _ := HP0.out.put 1 ob [.string { data := #[] }, (.slice ad nd xd), (.slice as2 ns xs2), (.slice ar nr xr)] rfl 2 (by simp) (.slice (some ⟨g, 0, none⟩) (ns + 1) cap)
       have h60 : Y6.cell? ⟨bx, 0, none⟩ = some (.int .i64 t.kind) ∧ Y6.cell? ⟨bx, 1, none⟩ = some (.string nm) ∧ Y6.cell? ⟨bx, 2, none⟩ = some (.int .i64 t.op) ∧ Y6.cell? ⟨bx, 3, none⟩ = some (.int .i64 t.a) ∧ Y6.cell? ⟨bx, 4, none⟩ = some (.int .i64 t.b) ∧ Y6.cell? ⟨bx, 5, none⟩ = some (.int .i64 t.n) ∧ Y6.cell? ⟨bx, 6, none⟩ = some (.slice aw lw cw) := ⟨(HP0.out.box 0 _ rfl).1 0 _ rfl, (HP0.out.box 0 _ rfl).1 1 _ rfl, (HP0.out.box 0 _ rfl).1 2 _ rfl, (HP0.out.box 0 _ rfl).1 3 _ rfl, (HP0.out.box 0 _ rfl).1 4 _ rfl, (HP0.out.box 0 _ rfl).1 5 _ rfl, (HP0.out.box 0 _ rfl).1 6 _ rfl⟩
       have h61 : (Y6.setCell ⟨ob, 2, none⟩ (.slice (some ⟨g, 0, none⟩) (ns + 1) cap)).cell? ⟨bx, 0, none⟩ = some (.int .i64 t.kind) ∧ (Y6.setCell ⟨ob, 2, none⟩ (.slice (some ⟨g, 0, none⟩) (ns + 1) cap)).cell? ⟨bx, 1, none⟩ = some (.string nm) ∧ (Y6.setCell ⟨ob, 2, none⟩ (.slice (some ⟨g, 0, none⟩) (ns + 1) cap)).cell? ⟨bx, 2, none⟩ = some (.int .i64 t.op) ∧ (Y6.setCell ⟨ob, 2, none⟩ (.slice (some ⟨g, 0, none⟩) (ns + 1) cap)).cell? ⟨bx, 3, none⟩ = some (.int .i64 t.a) ∧ (Y6.setCell ⟨ob, 2, none⟩ (.slice (some ⟨g, 0, none⟩) (ns + 1) cap)).cell? ⟨bx, 4, none⟩ = some (.int .i64 t.b) ∧ (Y6.setCell ⟨ob, 2, none⟩ (.slice (some ⟨g, 0, none⟩) (ns + 1) cap)).cell? ⟨bx, 5, none⟩ = some (.int .i64 t.n) ∧ (Y6.setCell ⟨ob, 2, none⟩ (.slice (some ⟨g, 0, none⟩) (ns + 1) cap)).cell? ⟨bx, 6, none⟩ = some (.slice aw lw cw) := ⟨(HP.out.box 0 _ rfl).1 0 _ rfl, (HP.out.box 0 _ rfl).1 1 _ rfl, (HP.out.box 0 _ rfl).1 2 _ rfl, (HP.out.box 0 _ rfl).1 3 _ rfl, (HP.out.box 0 _ rfl).1 4 _ rfl, (HP.out.box 0 _ rfl).1 5 _ rfl, (HP.out.box 0 _ rfl).1 6 _ rfl⟩
       have m6 : Y6.cell? ⟨ob, 2, none⟩ = some (.slice as2 ns xs2) := (HP0.out.box 1 _ rfl).1 2 _ rfl
       have z6 : Y6.frozen? ⟨ob, 2, none⟩ = false := (HP0.out.box 1 _ rfl).2.1 2
       refine hK.out _ _ h60 (fun hHeld => ?_)
       clear hK K ho6 hg6 hat6 hlt6
       try simp only [Act.put, zA, zB, zC]
       refine tj 11 ?_
       simp only [Act.put, zA, zB, zC]
       refine tr [12] ?_
       refine AllReadyH.cons (tA rfl) (fun K hK => ?_) AllReadyH.nil
       go_simp
       refine hK.out _ _ h61 (fun hHeld => ?_)
       clear hK K
       try simp only [Act.put, zA, zB, zC]
       refine wpAnyH_done (by kernel_rfl) ?_ _
       clear hHeld
       clear m6 z6 h60 h61
       go_wp2_with fail
       go_roundg (li - (k + 1))
       case measure => omega
       case rel => exact ⟨k + 1, _, _, nc, nd, (ns + 1), nr, rfl, by go_num, by omega, Nat.le_refl _, by omega, by omega, by omega, by omega, ⟨_, _, _, _, _, _, _, HP.out.drop, HN.out⟩⟩
      exact AllReadyH.nil

     exact AllReadyH.nil

    refine AllReadyH.cons (tA rfl) (fun K hK => ?_) ?_
    ·go_simp
     refine (hplc).mono ?_
     rintro e y1 ⟨rfl, hb1⟩
     have HC : Hid (O.BS W0 y1 [⟨5, 1, (.slice ac nc xc), nc, cc⟩, ⟨2, 1, (.slice ad nd xd), nd, cd⟩, ⟨69, 3, (.slice as2 ns xs2), ns, cs⟩, ⟨51, 4, (.slice ar nr xr), nr, cr⟩] [(bx, [.int .i64 t.kind, .string nm, .int .i64 t.op, .int .i64 t.a, .int .i64 t.b, .int .i64 t.n, .slice aw lw cw]), (ob, [.string { data := #[] }, (.slice ad nd xd), (.slice as2 ns xs2), (.slice ar nr xr)]), (rb, [.string { data := #[] }, .slice none 0 0, .slice none 0 0, .slice none 0 0])]) := (HD.out.below (Below.refl _ _).drew).below hb1
     clear hb1
     try go_wp2_with fail
     refine hK.out _ _ ⟨(HC.out.box 0 _ rfl).1 0 _ rfl, (HC.out.box 0 _ rfl).1 1 _ rfl, (HC.out.box 0 _ rfl).1 2 _ rfl, (HC.out.box 0 _ rfl).1 3 _ rfl, (HC.out.box 0 _ rfl).1 4 _ rfl, (HC.out.box 0 _ rfl).1 5 _ rfl, (HC.out.box 0 _ rfl).1 6 _ rfl⟩ (fun hHeld => ?_)
     clear hK K
     try simp only [Act.put, zA, zB, zC]
     refine tj 8 ?_
     simp only [Act.put, zA, zB, zC]
     refine tr [1, 9] ?_
     refine AllReadyH.cons (tA rfl) (fun K hK => ?_) ?_
     ·have m3 := (HC.out.box 1 _ rfl).1 2 _ rfl
      go_simp
      refine hK.out _ _ hHeld (fun hHeld => ?_)
      clear hK K m3
      try simp only [Act.put, zA, zB, zC]
      refine tr [9] ?_
      refine AllReadyH.cons (tA rfl) (fun K hK => ?_) ?_
      ·go_simp
       have HE : Hid (O.BS W0 (y1.alloc (.cells #[.string nm, .int .i64 1, .int .i64 pl] 69)) [⟨5, 1, (.slice ac nc xc), nc, cc⟩, ⟨2, 1, (.slice ad nd xd), nd, cd⟩, ⟨69, 3, (.slice as2 ns xs2), ns, cs⟩, ⟨51, 4, (.slice ar nr xr), nr, cr⟩] [(bx, [.int .i64 t.kind, .string nm, .int .i64 t.op, .int .i64 t.a, .int .i64 t.b, .int .i64 t.n, .slice aw lw cw]), (ob, [.string { data := #[] }, (.slice ad nd xd), (.slice as2 ns xs2), (.slice ar nr xr)]), (rb, [.string { data := #[] }, .slice none 0 0, .slice none 0 0, .slice none 0 0])]) := HC.out.below (bl1 _ _)
       have HNC : Hid (∀ j u, ((O.symC ⟨nm, 1, pl⟩))[j]? = some u → (y1.alloc (.cells #[.string nm, .int .i64 1, .int .i64 pl] 69)).cell? ((⟨y1.heap.size, 0, none⟩ : Addr).add j) = some u) := fun j u hu => by
        rw [Addr.add_lit, Nat.zero_add]
        exact cellA rfl (by simpa [O.symC, O.relC] using hu)
       refine hK.out _ _ ⟨(HE.out.box 0 _ rfl).1 0 _ rfl, (HE.out.box 0 _ rfl).1 1 _ rfl, (HE.out.box 0 _ rfl).1 2 _ rfl, (HE.out.box 0 _ rfl).1 3 _ rfl, (HE.out.box 0 _ rfl).1 4 _ rfl, (HE.out.box 0 _ rfl).1 5 _ rfl, (HE.out.box 0 _ rfl).1 6 _ rfl⟩ (fun hHeld => ?_)
       clear hK K
       try simp only [Act.put, zA, zB, zC]
       refine tr [10] ?_
       refine AllReadyH.cons (tA rfl) (fun K hK => ?_) AllReadyH.nil
       refine step_append_lies _ (by rfl) _ _ 27 (by rfl) W0.heap.size 69 i2 _ 3 32 Tryz.underlying27 hi2 hz20 hz21 hz22 (by rfl) (by decide) (.slice as2 ns xs2) ns cs (by rfl) (HE.out.own 2 _ rfl) ⟨y1.heap.size, 0, none⟩ 1 1 (O.symC ⟨nm, 1, pl⟩) (by rfl) (by rfl) HNC.out (by intro u hu; simp [O.symC] at hu; rcases hu with rfl | rfl | rfl <;> rfl) (by decide) (by unfold maxLen; omega) (by omega) HE.out.low.size _ rfl ?_
       intro g cap Y6 ho6 hg6 hat6 hlt6
       have HP0 : Hid _ := HE.out.push (k := 2) rfl ho6 hg6 (fun g' hg' => by simp [Value.ownBlock] at hg'; subst hg'; rcases hat6 with e | e; exact .inl e; exact .inr (by rw [e]; exact Nat.le_refl _))
       have HP : Hid _ := HP0.out.put 1 ob [.string { data := #[] }, (.slice ad nd xd), (.slice as2 ns xs2), (.slice ar nr xr)] rfl 2 (by simp) (.slice (some ⟨g, 0, none⟩) (ns + 1) cap)
       have h60 : Y6.cell? ⟨bx, 0, none⟩ = some (.int .i64 t.kind) ∧ Y6.cell? ⟨bx, 1, none⟩ = some (.string nm) ∧ Y6.cell? ⟨bx, 2, none⟩ = some (.int .i64 t.op) ∧ Y6.cell? ⟨bx, 3, none⟩ = some (.int .i64 t.a) ∧ Y6.cell? ⟨bx, 4, none⟩ = some (.int .i64 t.b) ∧ Y6.cell? ⟨bx, 5, none⟩ = some (.int .i64 t.n) ∧ Y6.cell? ⟨bx, 6, none⟩ = some (.slice aw lw cw) := ⟨(HP0.out.box 0 _ rfl).1 0 _ rfl, (HP0.out.box 0 _ rfl).1 1 _ rfl, (HP0.out.box 0 _ rfl).1 2 _ rfl, (HP0.out.box 0 _ rfl).1 3 _ rfl, (HP0.out.box 0 _ rfl).1 4 _ rfl, (HP0.out.box 0 _ rfl).1 5 _ rfl, (HP0.out.box 0 _ rfl).1 6 _ rfl⟩
       have h61 : (Y6.setCell ⟨ob, 2, none⟩ (.slice (some ⟨g, 0, none⟩) (ns + 1) cap)).cell? ⟨bx, 0, none⟩ = some (.int .i64 t.kind) ∧ (Y6.setCell ⟨ob, 2, none⟩ (.slice (some ⟨g, 0, none⟩) (ns + 1) cap)).cell? ⟨bx, 1, none⟩ = some (.string nm) ∧ (Y6.setCell ⟨ob, 2, none⟩ (.slice (some ⟨g, 0, none⟩) (ns + 1) cap)).cell? ⟨bx, 2, none⟩ = some (.int .i64 t.op) ∧ (Y6.setCell ⟨ob, 2, none⟩ (.slice (some ⟨g, 0, none⟩) (ns + 1) cap)).cell? ⟨bx, 3, none⟩ = some (.int .i64 t.a) ∧ (Y6.setCell ⟨ob, 2, none⟩ (.slice (some ⟨g, 0, none⟩) (ns + 1) cap)).cell? ⟨bx, 4, none⟩ = some (.int .i64 t.b) ∧ (Y6.setCell ⟨ob, 2, none⟩ (.slice (some ⟨g, 0, none⟩) (ns + 1) cap)).cell? ⟨bx, 5, none⟩ = some (.int .i64 t.n) ∧ (Y6.setCell ⟨ob, 2, none⟩ (.slice (some ⟨g, 0, none⟩) (ns + 1) cap)).cell? ⟨bx, 6, none⟩ = some (.slice aw lw cw) := ⟨(HP.out.box 0 _ rfl).1 0 _ rfl, (HP.out.box 0 _ rfl).1 1 _ rfl, (HP.out.box 0 _ rfl).1 2 _ rfl, (HP.out.box 0 _ rfl).1 3 _ rfl, (HP.out.box 0 _ rfl).1 4 _ rfl, (HP.out.box 0 _ rfl).1 5 _ rfl, (HP.out.box 0 _ rfl).1 6 _ rfl⟩
       have m6 : Y6.cell? ⟨ob, 2, none⟩ = some (.slice as2 ns xs2) := (HP0.out.box 1 _ rfl).1 2 _ rfl
       have z6 : Y6.frozen? ⟨ob, 2, none⟩ = false := (HP0.out.box 1 _ rfl).2.1 2
       refine hK.out _ _ h60 (fun hHeld => ?_)
       clear hK K ho6 hg6 hat6 hlt6
       try simp only [Act.put, zA, zB, zC]
       refine tj 11 ?_
       simp only [Act.put, zA, zB, zC]
       refine tr [12] ?_
       refine AllReadyH.cons (tA rfl) (fun K hK => ?_) AllReadyH.nil
       go_simp
       refine hK.out _ _ h61 (fun hHeld => ?_)
       clear hK K
       try simp only [Act.put, zA, zB, zC]
       refine wpAnyH_done (by kernel_rfl) ?_ _
       clear hHeld
       clear m6 z6 h60 h61
       go_wp2_with fail
       go_roundg (li - (k + 1))
       case measure => omega
       case rel => exact ⟨k + 1, _, _, nc, nd, (ns + 1), nr, rfl, by go_num, by omega, Nat.le_refl _, by omega, by omega, by omega, by omega, ⟨_, _, _, _, _, _, _, HP.out.drop, HN.out⟩⟩
      exact AllReadyH.nil

     refine AllReadyH.cons (tA rfl) (fun K hK => ?_) ?_
     ·go_simp
      have HE : Hid (O.BS W0 (y1.alloc (.cells #[.string nm, .int .i64 1, .int .i64 pl] 69)) [⟨5, 1, (.slice ac nc xc), nc, cc⟩, ⟨2, 1, (.slice ad nd xd), nd, cd⟩, ⟨69, 3, (.slice as2 ns xs2), ns, cs⟩, ⟨51, 4, (.slice ar nr xr), nr, cr⟩] [(bx, [.int .i64 t.kind, .string nm, .int .i64 t.op, .int .i64 t.a, .int .i64 t.b, .int .i64 t.n, .slice aw lw cw]), (ob, [.string { data := #[] }, (.slice ad nd xd), (.slice as2 ns xs2), (.slice ar nr xr)]), (rb, [.string { data := #[] }, .slice none 0 0, .slice none 0 0, .slice none 0 0])]) := HC.out.below (bl1 _ _)
      have HNC : Hid (∀ j u, ((O.symC ⟨nm, 1, pl⟩))[j]? = some u → (y1.alloc (.cells #[.string nm, .int .i64 1, .int .i64 pl] 69)).cell? ((⟨y1.heap.size, 0, none⟩ : Addr).add j) = some u) := fun j u hu => by
       rw [Addr.add_lit, Nat.zero_add]
       exact cellA rfl (by simpa [O.symC, O.relC] using hu)
      refine hK.out _ _ ⟨(HE.out.box 0 _ rfl).1 0 _ rfl, (HE.out.box 0 _ rfl).1 1 _ rfl, (HE.out.box 0 _ rfl).1 2 _ rfl, (HE.out.box 0 _ rfl).1 3 _ rfl, (HE.out.box 0 _ rfl).1 4 _ rfl, (HE.out.box 0 _ rfl).1 5 _ rfl, (HE.out.box 0 _ rfl).1 6 _ rfl⟩ (fun hHeld => ?_)
      clear hK K
      try simp only [Act.put, zA, zB, zC]
      refine tr [1] ?_
      refine AllReadyH.cons (tA rfl) (fun K hK => ?_) ?_
      ·have m3 := (HE.out.box 1 _ rfl).1 2 _ rfl
       go_simp
       refine hK.out _ _ hHeld (fun hHeld => ?_)
       clear hK K m3
       try simp only [Act.put, zA, zB, zC]
       refine tr [10] ?_
       refine AllReadyH.cons (tA rfl) (fun K hK => ?_) AllReadyH.nil
       refine step_append_lies _ (by rfl) _ _ 27 (by rfl) W0.heap.size 69 i2 _ 3 32 Tryz.underlying27 hi2 hz20 hz21 hz22 (by rfl) (by decide) (.slice as2 ns xs2) ns cs (by rfl) (HE.out.own 2 _ rfl) ⟨y1.heap.size, 0, none⟩ 1 1 (O.symC ⟨nm, 1, pl⟩) (by rfl) (by rfl) HNC.out (by intro u hu; simp [O.symC] at hu; rcases hu with rfl | rfl | rfl <;> rfl) (by decide) (by unfold maxLen; omega) (by omega) HE.out.low.size _ rfl ?_
       intro g cap Y6 ho6 hg6 hat6 hlt6
       have HP0 : Hid _ := HE.out.push (k := 2) rfl ho6 hg6 (fun g' hg' => by simp [Value.ownBlock] at hg'; subst hg'; rcases hat6 with e | e; exact .inl e; exact .inr (by rw [e]; exact Nat.le_refl _))
       have HP : Hid _ := HP0.out.put 1 ob [.string { data := #[] }, (.slice ad nd xd), (.slice as2 ns xs2), (.slice ar nr xr)] rfl 2 (by simp) (.slice (some ⟨g, 0, none⟩) (ns + 1) cap)
       have h60 : Y6.cell? ⟨bx, 0, none⟩ = some (.int .i64 t.kind) ∧ Y6.cell? ⟨bx, 1, none⟩ = some (.string nm) ∧ Y6.cell? ⟨bx, 2, none⟩ = some (.int .i64 t.op) ∧ Y6.cell? ⟨bx, 3, none⟩ = some (.int .i64 t.a) ∧ Y6.cell? ⟨bx, 4, none⟩ = some (.int .i64 t.b) ∧ Y6.cell? ⟨bx, 5, none⟩ = some (.int .i64 t.n) ∧ Y6.cell? ⟨bx, 6, none⟩ = some (.slice aw lw cw) := ⟨(HP0.out.box 0 _ rfl).1 0 _ rfl, (HP0.out.box 0 _ rfl).1 1 _ rfl, (HP0.out.box 0 _ rfl).1 2 _ rfl, (HP0.out.box 0 _ rfl).1 3 _ rfl, (HP0.out.box 0 _ rfl).1 4 _ rfl, (HP0.out.box 0 _ rfl).1 5 _ rfl, (HP0.out.box 0 _ rfl).1 6 _ rfl⟩
       have h61 : (Y6.setCell ⟨ob, 2, none⟩ (.slice (some ⟨g, 0, none⟩) (ns + 1) cap)).cell? ⟨bx, 0, none⟩ = some (.int .i64 t.kind) ∧ (Y6.setCell ⟨ob, 2, none⟩ (.slice (some ⟨g, 0, none⟩) (ns + 1) cap)).cell? ⟨bx, 1, none⟩ = some (.string nm) ∧ (Y6.setCell ⟨ob, 2, none⟩ (.slice (some ⟨g, 0, none⟩) (ns + 1) cap)).cell? ⟨bx, 2, none⟩ = some (.int .i64 t.op) ∧ (Y6.setCell ⟨ob, 2, none⟩ (.slice (some ⟨g, 0, none⟩) (ns + 1) cap)).cell? ⟨bx, 3, none⟩ = some (.int .i64 t.a) ∧ (Y6.setCell ⟨ob, 2, none⟩ (.slice (some ⟨g, 0, none⟩) (ns + 1) cap)).cell? ⟨bx, 4, none⟩ = some (.int .i64 t.b) ∧ (Y6.setCell ⟨ob, 2, none⟩ (.slice (some ⟨g, 0, none⟩) (ns + 1) cap)).cell? ⟨bx, 5, none⟩ = some (.int .i64 t.n) ∧ (Y6.setCell ⟨ob, 2, none⟩ (.slice (some ⟨g, 0, none⟩) (ns + 1) cap)).cell? ⟨bx, 6, none⟩ = some (.slice aw lw cw) := ⟨(HP.out.box 0 _ rfl).1 0 _ rfl, (HP.out.box 0 _ rfl).1 1 _ rfl, (HP.out.box 0 _ rfl).1 2 _ rfl, (HP.out.box 0 _ rfl).1 3 _ rfl, (HP.out.box 0 _ rfl).1 4 _ rfl, (HP.out.box 0 _ rfl).1 5 _ rfl, (HP.out.box 0 _ rfl).1 6 _ rfl⟩
       have m6 : Y6.cell? ⟨ob, 2, none⟩ = some (.slice as2 ns xs2) := (HP0.out.box 1 _ rfl).1 2 _ rfl
       have z6 : Y6.frozen? ⟨ob, 2, none⟩ = false := (HP0.out.box 1 _ rfl).2.1 2
       refine hK.out _ _ h60 (fun hHeld => ?_)
       clear hK K ho6 hg6 hat6 hlt6
       try simp only [Act.put, zA, zB, zC]
       refine tj 11 ?_
       simp only [Act.put, zA, zB, zC]
       refine tr [12] ?_
       refine AllReadyH.cons (tA rfl) (fun K hK => ?_) AllReadyH.nil
       go_simp
       refine hK.out _ _ h61 (fun hHeld => ?_)
       clear hK K
       try simp only [Act.put, zA, zB, zC]
       refine wpAnyH_done (by kernel_rfl) ?_ _
       clear hHeld
       clear m6 z6 h60 h61
       go_wp2_with fail
       go_roundg (li - (k + 1))
       case measure => omega
       case rel => exact ⟨k + 1, _, _, nc, nd, (ns + 1), nr, rfl, by go_num, by omega, Nat.le_refl _, by omega, by omega, by omega, by omega, ⟨_, _, _, _, _, _, _, HP.out.drop, HN.out⟩⟩
      exact AllReadyH.nil

     exact AllReadyH.nil

    exact AllReadyH.nil
   by_cases k5 : t.kind = 5
   ·have e2 : (t.kind == 2) = false := by simpa using k2
    have e3 : (t.kind == 3) = false := by simpa using k3
    have e4 : (t.kind == 4) = false := by simpa using k4
    have e5 : (t.kind == 5) = true := by simpa using k5
    obtain ⟨pl, hpl⟩ : ∃ pl, Z.placeOf ts (Z.ops ts) t.name = pl := ⟨_, rfl⟩
    have HN : Hid (OI (Z.objTo ts (Z.ops ts) (k + 1)) nc cc nd cd (ns + 1) (cs ++ O.symC ⟨nm, 3, pl⟩) nr cr) := by
     show OI _ _ _ _ _ _ _ _ _
     rw [HST.out]
     unfold Z.stepO
     rw [HGD.out, if_neg k2, if_neg k3, if_neg k4, if_pos k5, hpl, hnm]
     exact ⟨HOI.out.fc, HOI.out.fd, ⟨by rw [HOI.out.fs.1]; simp, by rw [HOI.out.fs.2]; simp⟩, HOI.out.fr⟩
    have hplc := placeOf_any (LV.below (HLW.out Y0 HB1.out.low) (Below.refl _ _).drew) (Z.ops_len ts) t.name hfit (by rw [HC.out]; omega)
    rw [hpl, hnm] at hplc
    have HD : Hid (O.BS W0 Y0 [⟨5, 1, (.slice ac nc xc), nc, cc⟩, ⟨2, 1, (.slice ad nd xd), nd, cd⟩, ⟨69, 3, (.slice as2 ns xs2), ns, cs⟩, ⟨51, 4, (.slice ar nr xr), nr, cr⟩] [(bx, [.int .i64 t.kind, .string nm, .int .i64 t.op, .int .i64 t.a, .int .i64 t.b, .int .i64 t.n, .slice aw lw cw]), (ob, [.string { data := #[] }, (.slice ad nd xd), (.slice as2 ns xs2), (.slice ar nr xr)]), (rb, [.string { data := #[] }, .slice none 0 0, .slice none 0 0, .slice none 0 0])]) := HB1.out
    have HS0 : Hid (Y0.drew.cell? ⟨bx, 0, none⟩ = some (.int .i64 t.kind) ∧ Y0.drew.cell? ⟨bx, 1, none⟩ = some (.string nm) ∧ Y0.drew.cell? ⟨bx, 2, none⟩ = some (.int .i64 t.op) ∧ Y0.drew.cell? ⟨bx, 3, none⟩ = some (.int .i64 t.a) ∧ Y0.drew.cell? ⟨bx, 4, none⟩ = some (.int .i64 t.b) ∧ Y0.drew.cell? ⟨bx, 5, none⟩ = some (.int .i64 t.n) ∧ Y0.drew.cell? ⟨bx, 6, none⟩ = some (.slice aw lw cw)) := ⟨((HB1.out.below (Below.refl _ _).drew).box 0 _ rfl).1 0 _ rfl, ((HB1.out.below (Below.refl _ _).drew).box 0 _ rfl).1 1 _ rfl, ((HB1.out.below (Below.refl _ _).drew).box 0 _ rfl).1 2 _ rfl, ((HB1.out.below (Below.refl _ _).drew).box 0 _ rfl).1 3 _ rfl, ((HB1.out.below (Below.refl _ _).drew).box 0 _ rfl).1 4 _ rfl, ((HB1.out.below (Below.refl _ _).drew).box 0 _ rfl).1 5 _ rfl, ((HB1.out.below (Below.refl _ _).drew).box 0 _ rfl).1 6 _ rfl⟩
    clear k2 k3 k4 k5 hpl
    go_wp2_with fail
    clear hY0 c0 c1 c2 c3 c4 c5 c6 f0 f1 f2 f3 f4 f5 f6
    refine wp_region_held_drew (S := (fun w' : World => w'.cell? ⟨bx, 0, none⟩ = some (.int .i64 t.kind) ∧ w'.cell? ⟨bx, 1, none⟩ = some (.string nm) ∧ w'.cell? ⟨bx, 2, none⟩ = some (.int .i64 t.op) ∧ w'.cell? ⟨bx, 3, none⟩ = some (.int .i64 t.a) ∧ w'.cell? ⟨bx, 4, none⟩ = some (.int .i64 t.b) ∧ w'.cell? ⟨bx, 5, none⟩ = some (.int .i64 t.n) ∧ w'.cell? ⟨bx, 6, none⟩ = some (.slice aw lw cw))) (by kernel_rfl) HS0.out (fun hHeld => ?_)
    refine tj 0 ?_
    simp only [Act.put, zA, zB, zC]
    refine tj 2 ?_
    simp only [Act.put, zA, zB, zC]
    refine tj 3 ?_
    simp only [Act.put, zA, zB, zC]
    refine tj 4 ?_
    simp only [Act.put, zA, zB, zC]
    refine tj 5 ?_
    simp only [Act.put, zA, zB, zC]
    refine tj 6 ?_
    simp only [Act.put, zA, zB, zC]
    refine tr [1, 7] ?_
    refine AllReadyH.cons (tA rfl) (fun K hK => ?_) ?_
    ·have m3 := (HD.out.box 1 _ rfl).1 2 _ rfl
     go_simp
     refine hK.out _ _ hHeld (fun hHeld => ?_)
     clear hK K m3
     try simp only [Act.put, zA, zB, zC]
     refine tr [7] ?_
     refine AllReadyH.cons (tA rfl) (fun K hK => ?_) ?_
     ·go_simp
      refine (hplc).mono ?_
      rintro e y1 ⟨rfl, hb1⟩
      have HC : Hid (O.BS W0 y1 [⟨5, 1, (.slice ac nc xc), nc, cc⟩, ⟨2, 1, (.slice ad nd xd), nd, cd⟩, ⟨69, 3, (.slice as2 ns xs2), ns, cs⟩, ⟨51, 4, (.slice ar nr xr), nr, cr⟩] [(bx, [.int .i64 t.kind, .string nm, .int .i64 t.op, .int .i64 t.a, .int .i64 t.b, .int .i64 t.n, .slice aw lw cw]), (ob, [.string { data := #[] }, (.slice ad nd xd), (.slice as2 ns xs2), (.slice ar nr xr)]), (rb, [.string { data := #[] }, .slice none 0 0, .slice none 0 0, .slice none 0 0])]) := (HD.out.below (Below.refl _ _).drew).below hb1
      clear hb1
      try go_wp2_with fail
      refine hK.out _ _ ⟨(HC.out.box 0 _ rfl).1 0 _ rfl, (HC.out.box 0 _ rfl).1 1 _ rfl, (HC.out.box 0 _ rfl).1 2 _ rfl, (HC.out.box 0 _ rfl).1 3 _ rfl, (HC.out.box 0 _ rfl).1 4 _ rfl, (HC.out.box 0 _ rfl).1 5 _ rfl, (HC.out.box 0 _ rfl).1 6 _ rfl⟩ (fun hHeld => ?_)
      clear hK K
      try simp only [Act.put, zA, zB, zC]
      refine tj 8 ?_
      simp only [Act.put, zA, zB, zC]
      refine tr [9] ?_
      refine AllReadyH.cons (tA rfl) (fun K hK => ?_) ?_
      ·go_simp
       have HE : Hid (O.BS W0 (y1.alloc (.cells #[.string nm, .int .i64 3, .int .i64 pl] 69)) [⟨5, 1, (.slice ac nc xc), nc, cc⟩, ⟨2, 1, (.slice ad nd xd), nd, cd⟩, ⟨69, 3, (.slice as2 ns xs2), ns, cs⟩, ⟨51, 4, (.slice ar nr xr), nr, cr⟩] [(bx, [.int .i64 t.kind, .string nm, .int .i64 t.op, .int .i64 t.a, .int .i64 t.b, .int .i64 t.n, .slice aw lw cw]), (ob, [.string { data := #[] }, (.slice ad nd xd), (.slice as2 ns xs2), (.slice ar nr xr)]), (rb, [.string { data := #[] }, .slice none 0 0, .slice none 0 0, .slice none 0 0])]) := HC.out.below (bl1 _ _)
       have HNC : Hid (∀ j u, ((O.symC ⟨nm, 3, pl⟩))[j]? = some u → (y1.alloc (.cells #[.string nm, .int .i64 3, .int .i64 pl] 69)).cell? ((⟨y1.heap.size, 0, none⟩ : Addr).add j) = some u) := fun j u hu => by
        rw [Addr.add_lit, Nat.zero_add]
        exact cellA rfl (by simpa [O.symC, O.relC] using hu)
       refine hK.out _ _ ⟨(HE.out.box 0 _ rfl).1 0 _ rfl, (HE.out.box 0 _ rfl).1 1 _ rfl, (HE.out.box 0 _ rfl).1 2 _ rfl, (HE.out.box 0 _ rfl).1 3 _ rfl, (HE.out.box 0 _ rfl).1 4 _ rfl, (HE.out.box 0 _ rfl).1 5 _ rfl, (HE.out.box 0 _ rfl).1 6 _ rfl⟩ (fun hHeld => ?_)
       clear hK K
       try simp only [Act.put, zA, zB, zC]
       refine tr [10] ?_
       refine AllReadyH.cons (tA rfl) (fun K hK => ?_) AllReadyH.nil
       refine step_append_lies _ (by rfl) _ _ 27 (by rfl) W0.heap.size 69 i2 _ 3 32 Tryz.underlying27 hi2 hz20 hz21 hz22 (by rfl) (by decide) (.slice as2 ns xs2) ns cs (by rfl) (HE.out.own 2 _ rfl) ⟨y1.heap.size, 0, none⟩ 1 1 (O.symC ⟨nm, 3, pl⟩) (by rfl) (by rfl) HNC.out (by intro u hu; simp [O.symC] at hu; rcases hu with rfl | rfl | rfl <;> rfl) (by decide) (by unfold maxLen; omega) (by omega) HE.out.low.size _ rfl ?_
       intro g cap Y6 ho6 hg6 hat6 hlt6
       have HP0 : Hid _ := HE.out.push (k := 2) rfl ho6 hg6 (fun g' hg' => by simp [Value.ownBlock] at hg'; subst hg'; rcases hat6 with e | e; exact .inl e; exact .inr (by rw [e]; exact Nat.le_refl _))
       have HP : Hid _ := HP0.out.put 1 ob [.string { data := #[] }, (.slice ad nd xd), (.slice as2 ns xs2), (.slice ar nr xr)] rfl 2 (by simp) (.slice (some ⟨g, 0, none⟩) (ns + 1) cap)
       have h60 : Y6.cell? ⟨bx, 0, none⟩ = some (.int .i64 t.kind) ∧ Y6.cell? ⟨bx, 1, none⟩ = some (.string nm) ∧ Y6.cell? ⟨bx, 2, none⟩ = some (.int .i64 t.op) ∧ Y6.cell? ⟨bx, 3, none⟩ = some (.int .i64 t.a) ∧ Y6.cell? ⟨bx, 4, none⟩ = some (.int .i64 t.b) ∧ Y6.cell? ⟨bx, 5, none⟩ = some (.int .i64 t.n) ∧ Y6.cell? ⟨bx, 6, none⟩ = some (.slice aw lw cw) := ⟨(HP0.out.box 0 _ rfl).1 0 _ rfl, (HP0.out.box 0 _ rfl).1 1 _ rfl, (HP0.out.box 0 _ rfl).1 2 _ rfl, (HP0.out.box 0 _ rfl).1 3 _ rfl, (HP0.out.box 0 _ rfl).1 4 _ rfl, (HP0.out.box 0 _ rfl).1 5 _ rfl, (HP0.out.box 0 _ rfl).1 6 _ rfl⟩
       have h61 : (Y6.setCell ⟨ob, 2, none⟩ (.slice (some ⟨g, 0, none⟩) (ns + 1) cap)).cell? ⟨bx, 0, none⟩ = some (.int .i64 t.kind) ∧ (Y6.setCell ⟨ob, 2, none⟩ (.slice (some ⟨g, 0, none⟩) (ns + 1) cap)).cell? ⟨bx, 1, none⟩ = some (.string nm) ∧ (Y6.setCell ⟨ob, 2, none⟩ (.slice (some ⟨g, 0, none⟩) (ns + 1) cap)).cell? ⟨bx, 2, none⟩ = some (.int .i64 t.op) ∧ (Y6.setCell ⟨ob, 2, none⟩ (.slice (some ⟨g, 0, none⟩) (ns + 1) cap)).cell? ⟨bx, 3, none⟩ = some (.int .i64 t.a) ∧ (Y6.setCell ⟨ob, 2, none⟩ (.slice (some ⟨g, 0, none⟩) (ns + 1) cap)).cell? ⟨bx, 4, none⟩ = some (.int .i64 t.b) ∧ (Y6.setCell ⟨ob, 2, none⟩ (.slice (some ⟨g, 0, none⟩) (ns + 1) cap)).cell? ⟨bx, 5, none⟩ = some (.int .i64 t.n) ∧ (Y6.setCell ⟨ob, 2, none⟩ (.slice (some ⟨g, 0, none⟩) (ns + 1) cap)).cell? ⟨bx, 6, none⟩ = some (.slice aw lw cw) := ⟨(HP.out.box 0 _ rfl).1 0 _ rfl, (HP.out.box 0 _ rfl).1 1 _ rfl, (HP.out.box 0 _ rfl).1 2 _ rfl, (HP.out.box 0 _ rfl).1 3 _ rfl, (HP.out.box 0 _ rfl).1 4 _ rfl, (HP.out.box 0 _ rfl).1 5 _ rfl, (HP.out.box 0 _ rfl).1 6 _ rfl⟩
       have m6 : Y6.cell? ⟨ob, 2, none⟩ = some (.slice as2 ns xs2) := (HP0.out.box 1 _ rfl).1 2 _ rfl
       have z6 : Y6.frozen? ⟨ob, 2, none⟩ = false := (HP0.out.box 1 _ rfl).2.1 2
       refine hK.out _ _ h60 (fun hHeld => ?_)
       clear hK K ho6 hg6 hat6 hlt6
       try simp only [Act.put, zA, zB, zC]
       refine tj 11 ?_
       simp only [Act.put, zA, zB, zC]
       refine tr [12] ?_
       refine AllReadyH.cons (tA rfl) (fun K hK => ?_) AllReadyH.nil
       go_simp
       refine hK.out _ _ h61 (fun hHeld => ?_)
       clear hK K
       try simp only [Act.put, zA, zB, zC]
       refine wpAnyH_done (by kernel_rfl) ?_ _
       clear hHeld
       clear m6 z6 h60 h61
       go_wp2_with fail
       go_roundg (li - (k + 1))
       case measure => omega
       case rel => exact ⟨k + 1, _, _, nc, nd, (ns + 1), nr, rfl, by go_num, by omega, Nat.le_refl _, by omega, by omega, by omega, by omega, ⟨_, _, _, _, _, _, _, HP.out.drop, HN.out⟩⟩
      exact AllReadyH.nil

     exact AllReadyH.nil

    refine AllReadyH.cons (tA rfl) (fun K hK => ?_) ?_
    ·go_simp
     refine (hplc).mono ?_
     rintro e y1 ⟨rfl, hb1⟩
     have HC : Hid (O.BS W0 y1 [⟨5, 1, (.slice ac nc xc), nc, cc⟩, ⟨2, 1, (.slice ad nd xd), nd, cd⟩, ⟨69, 3, (.slice as2 ns xs2), ns, cs⟩, ⟨51, 4, (.slice ar nr xr), nr, cr⟩] [(bx, [.int .i64 t.kind, .string nm, .int .i64 t.op, .int .i64 t.a, .int .i64 t.b, .int .i64 t.n, .slice aw lw cw]), (ob, [.string { data := #[] }, (.slice ad nd xd), (.slice as2 ns xs2), (.slice ar nr xr)]), (rb, [.string { data := #[] }, .slice none 0 0, .slice none 0 0, .slice none 0 0])]) := (HD.out.below (Below.refl _ _).drew).below hb1
     clear hb1
     try go_wp2_with fail
     refine hK.out _ _ ⟨(HC.out.box 0 _ rfl).1 0 _ rfl, (HC.out.box 0 _ rfl).1 1 _ rfl, (HC.out.box 0 _ rfl).1 2 _ rfl, (HC.out.box 0 _ rfl).1 3 _ rfl, (HC.out.box 0 _ rfl).1 4 _ rfl, (HC.out.box 0 _ rfl).1 5 _ rfl, (HC.out.box 0 _ rfl).1 6 _ rfl⟩ (fun hHeld => ?_)
     clear hK K
     try simp only [Act.put, zA, zB, zC]
     refine tj 8 ?_
     simp only [Act.put, zA, zB, zC]
     refine tr [1, 9] ?_
     refine AllReadyH.cons (tA rfl) (fun K hK => ?_) ?_
     ·have m3 := (HC.out.box 1 _ rfl).1 2 _ rfl
      go_simp
      refine hK.out _ _ hHeld (fun hHeld => ?_)
      clear hK K m3
      try simp only [Act.put, zA, zB, zC]
      refine tr [9] ?_
      refine AllReadyH.cons (tA rfl) (fun K hK => ?_) ?_
      ·go_simp
       have HE : Hid (O.BS W0 (y1.alloc (.cells #[.string nm, .int .i64 3, .int .i64 pl] 69)) [⟨5, 1, (.slice ac nc xc), nc, cc⟩, ⟨2, 1, (.slice ad nd xd), nd, cd⟩, ⟨69, 3, (.slice as2 ns xs2), ns, cs⟩, ⟨51, 4, (.slice ar nr xr), nr, cr⟩] [(bx, [.int .i64 t.kind, .string nm, .int .i64 t.op, .int .i64 t.a, .int .i64 t.b, .int .i64 t.n, .slice aw lw cw]), (ob, [.string { data := #[] }, (.slice ad nd xd), (.slice as2 ns xs2), (.slice ar nr xr)]), (rb, [.string { data := #[] }, .slice none 0 0, .slice none 0 0, .slice none 0 0])]) := HC.out.below (bl1 _ _)
       have HNC : Hid (∀ j u, ((O.symC ⟨nm, 3, pl⟩))[j]? = some u → (y1.alloc (.cells #[.string nm, .int .i64 3, .int .i64 pl] 69)).cell? ((⟨y1.heap.size, 0, none⟩ : Addr).add j) = some u) := fun j u hu => by
        rw [Addr.add_lit, Nat.zero_add]
        exact cellA rfl (by simpa [O.symC, O.relC] using hu)
       refine hK.out _ _ ⟨(HE.out.box 0 _ rfl).1 0 _ rfl, (HE.out.box 0 _ rfl).1 1 _ rfl, (HE.out.box 0 _ rfl).1 2 _ rfl, (HE.out.box 0 _ rfl).1 3 _ rfl, (HE.out.box 0 _ rfl).1 4 _ rfl, (HE.out.box 0 _ rfl).1 5 _ rfl, (HE.out.box 0 _ rfl).1 6 _ rfl⟩ (fun hHeld => ?_)
       clear hK K
       try simp only [Act.put, zA, zB, zC]
       refine tr [10] ?_
       refine AllReadyH.cons (tA rfl) (fun K hK => ?_) AllReadyH.nil
       refine step_append_lies _ (by rfl) _ _ 27 (by rfl) W0.heap.size 69 i2 _ 3 32 Tryz.underlying27 hi2 hz20 hz21 hz22 (by rfl) (by decide) (.slice as2 ns xs2) ns cs (by rfl) (HE.out.own 2 _ rfl) ⟨y1.heap.size, 0, none⟩ 1 1 (O.symC ⟨nm, 3, pl⟩) (by rfl) (by rfl) HNC.out (by intro u hu; simp [O.symC] at hu; rcases hu with rfl | rfl | rfl <;> rfl) (by decide) (by unfold maxLen; omega) (by omega) HE.out.low.size _ rfl ?_
       intro g cap Y6 ho6 hg6 hat6 hlt6
       have HP0 : Hid _ := HE.out.push (k := 2) rfl ho6 hg6 (fun g' hg' => by simp [Value.ownBlock] at hg'; subst hg'; rcases hat6 with e | e; exact .inl e; exact .inr (by rw [e]; exact Nat.le_refl _))
       have HP : Hid _ := HP0.out.put 1 ob [.string { data := #[] }, (.slice ad nd xd), (.slice as2 ns xs2), (.slice ar nr xr)] rfl 2 (by simp) (.slice (some ⟨g, 0, none⟩) (ns + 1) cap)
       have h60 : Y6.cell? ⟨bx, 0, none⟩ = some (.int .i64 t.kind) ∧ Y6.cell? ⟨bx, 1, none⟩ = some (.string nm) ∧ Y6.cell? ⟨bx, 2, none⟩ = some (.int .i64 t.op) ∧ Y6.cell? ⟨bx, 3, none⟩ = some (.int .i64 t.a) ∧ Y6.cell? ⟨bx, 4, none⟩ = some (.int .i64 t.b) ∧ Y6.cell? ⟨bx, 5, none⟩ = some (.int .i64 t.n) ∧ Y6.cell? ⟨bx, 6, none⟩ = some (.slice aw lw cw) := ⟨(HP0.out.box 0 _ rfl).1 0 _ rfl, (HP0.out.box 0 _ rfl).1 1 _ rfl, (HP0.out.box 0 _ rfl).1 2 _ rfl, (HP0.out.box 0 _ rfl).1 3 _ rfl, (HP0.out.box 0 _ rfl).1 4 _ rfl, (HP0.out.box 0 _ rfl).1 5 _ rfl, (HP0.out.box 0 _ rfl).1 6 _ rfl⟩
       have h61 : (Y6.setCell ⟨ob, 2, none⟩ (.slice (some ⟨g, 0, none⟩) (ns + 1) cap)).cell? ⟨bx, 0, none⟩ = some (.int .i64 t.kind) ∧ (Y6.setCell ⟨ob, 2, none⟩ (.slice (some ⟨g, 0, none⟩) (ns + 1) cap)).cell? ⟨bx, 1, none⟩ = some (.string nm) ∧ (Y6.setCell ⟨ob, 2, none⟩ (.slice (some ⟨g, 0, none⟩) (ns + 1) cap)).cell? ⟨bx, 2, none⟩ = some (.int .i64 t.op) ∧ (Y6.setCell ⟨ob, 2, none⟩ (.slice (some ⟨g, 0, none⟩) (ns + 1) cap)).cell? ⟨bx, 3, none⟩ = some (.int .i64 t.a) ∧ (Y6.setCell ⟨ob, 2, none⟩ (.slice (some ⟨g, 0, none⟩) (ns + 1) cap)).cell? ⟨bx, 4, none⟩ = some (.int .i64 t.b) ∧ (Y6.setCell ⟨ob, 2, none⟩ (.slice (some ⟨g, 0, none⟩) (ns + 1) cap)).cell? ⟨bx, 5, none⟩ = some (.int .i64 t.n) ∧ (Y6.setCell ⟨ob, 2, none⟩ (.slice (some ⟨g, 0, none⟩) (ns + 1) cap)).cell? ⟨bx, 6, none⟩ = some (.slice aw lw cw) := ⟨(HP.out.box 0 _ rfl).1 0 _ rfl, (HP.out.box 0 _ rfl).1 1 _ rfl, (HP.out.box 0 _ rfl).1 2 _ rfl, (HP.out.box 0 _ rfl).1 3 _ rfl, (HP.out.box 0 _ rfl).1 4 _ rfl, (HP.out.box 0 _ rfl).1 5 _ rfl, (HP.out.box 0 _ rfl).1 6 _ rfl⟩
       have m6 : Y6.cell? ⟨ob, 2, none⟩ = some (.slice as2 ns xs2) := (HP0.out.box 1 _ rfl).1 2 _ rfl
       have z6 : Y6.frozen? ⟨ob, 2, none⟩ = false := (HP0.out.box 1 _ rfl).2.1 2
       refine hK.out _ _ h60 (fun hHeld => ?_)
       clear hK K ho6 hg6 hat6 hlt6
       try simp only [Act.put, zA, zB, zC]
       refine tj 11 ?_
       simp only [Act.put, zA, zB, zC]
       refine tr [12] ?_
       refine AllReadyH.cons (tA rfl) (fun K hK => ?_) AllReadyH.nil
       go_simp
       refine hK.out _ _ h61 (fun hHeld => ?_)
       clear hK K
       try simp only [Act.put, zA, zB, zC]
       refine wpAnyH_done (by kernel_rfl) ?_ _
       clear hHeld
       clear m6 z6 h60 h61
       go_wp2_with fail
       go_roundg (li - (k + 1))
       case measure => omega
       case rel => exact ⟨k + 1, _, _, nc, nd, (ns + 1), nr, rfl, by go_num, by omega, Nat.le_refl _, by omega, by omega, by omega, by omega, ⟨_, _, _, _, _, _, _, HP.out.drop, HN.out⟩⟩
      exact AllReadyH.nil

     refine AllReadyH.cons (tA rfl) (fun K hK => ?_) ?_
     ·go_simp
      have HE : Hid (O.BS W0 (y1.alloc (.cells #[.string nm, .int .i64 3, .int .i64 pl] 69)) [⟨5, 1, (.slice ac nc xc), nc, cc⟩, ⟨2, 1, (.slice ad nd xd), nd, cd⟩, ⟨69, 3, (.slice as2 ns xs2), ns, cs⟩, ⟨51, 4, (.slice ar nr xr), nr, cr⟩] [(bx, [.int .i64 t.kind, .string nm, .int .i64 t.op, .int .i64 t.a, .int .i64 t.b, .int .i64 t.n, .slice aw lw cw]), (ob, [.string { data := #[] }, (.slice ad nd xd), (.slice as2 ns xs2), (.slice ar nr xr)]), (rb, [.string { data := #[] }, .slice none 0 0, .slice none 0 0, .slice none 0 0])]) := HC.out.below (bl1 _ _)
      have HNC : Hid (∀ j u, ((O.symC ⟨nm, 3, pl⟩))[j]? = some u → (y1.alloc (.cells #[.string nm, .int .i64 3, .int .i64 pl] 69)).cell? ((⟨y1.heap.size, 0, none⟩ : Addr).add j) = some u) := fun j u hu => by
       rw [Addr.add_lit, Nat.zero_add]
       exact cellA rfl (by simpa [O.symC, O.relC] using hu)
      refine hK.out _ _ ⟨(HE.out.box 0 _ rfl).1 0 _ rfl, (HE.out.box 0 _ rfl).1 1 _ rfl, (HE.out.box 0 _ rfl).1 2 _ rfl, (HE.out.box 0 _ rfl).1 3 _ rfl, (HE.out.box 0 _ rfl).1 4 _ rfl, (HE.out.box 0 _ rfl).1 5 _ rfl, (HE.out.box 0 _ rfl).1 6 _ rfl⟩ (fun hHeld => ?_)
      clear hK K
      try simp only [Act.put, zA, zB, zC]
      refine tr [1] ?_
      refine AllReadyH.cons (tA rfl) (fun K hK => ?_) ?_
      ·have m3 := (HE.out.box 1 _ rfl).1 2 _ rfl
       go_simp
       refine hK.out _ _ hHeld (fun hHeld => ?_)
       clear hK K m3
       try simp only [Act.put, zA, zB, zC]
       refine tr [10] ?_
       refine AllReadyH.cons (tA rfl) (fun K hK => ?_) AllReadyH.nil
       refine step_append_lies _ (by rfl) _ _ 27 (by rfl) W0.heap.size 69 i2 _ 3 32 Tryz.underlying27 hi2 hz20 hz21 hz22 (by rfl) (by decide) (.slice as2 ns xs2) ns cs (by rfl) (HE.out.own 2 _ rfl) ⟨y1.heap.size, 0, none⟩ 1 1 (O.symC ⟨nm, 3, pl⟩) (by rfl) (by rfl) HNC.out (by intro u hu; simp [O.symC] at hu; rcases hu with rfl | rfl | rfl <;> rfl) (by decide) (by unfold maxLen; omega) (by omega) HE.out.low.size _ rfl ?_
       intro g cap Y6 ho6 hg6 hat6 hlt6
       have HP0 : Hid _ := HE.out.push (k := 2) rfl ho6 hg6 (fun g' hg' => by simp [Value.ownBlock] at hg'; subst hg'; rcases hat6 with e | e; exact .inl e; exact .inr (by rw [e]; exact Nat.le_refl _))
       have HP : Hid _ := HP0.out.put 1 ob [.string { data := #[] }, (.slice ad nd xd), (.slice as2 ns xs2), (.slice ar nr xr)] rfl 2 (by simp) (.slice (some ⟨g, 0, none⟩) (ns + 1) cap)
       have h60 : Y6.cell? ⟨bx, 0, none⟩ = some (.int .i64 t.kind) ∧ Y6.cell? ⟨bx, 1, none⟩ = some (.string nm) ∧ Y6.cell? ⟨bx, 2, none⟩ = some (.int .i64 t.op) ∧ Y6.cell? ⟨bx, 3, none⟩ = some (.int .i64 t.a) ∧ Y6.cell? ⟨bx, 4, none⟩ = some (.int .i64 t.b) ∧ Y6.cell? ⟨bx, 5, none⟩ = some (.int .i64 t.n) ∧ Y6.cell? ⟨bx, 6, none⟩ = some (.slice aw lw cw) := ⟨(HP0.out.box 0 _ rfl).1 0 _ rfl, (HP0.out.box 0 _ rfl).1 1 _ rfl, (HP0.out.box 0 _ rfl).1 2 _ rfl, (HP0.out.box 0 _ rfl).1 3 _ rfl, (HP0.out.box 0 _ rfl).1 4 _ rfl, (HP0.out.box 0 _ rfl).1 5 _ rfl, (HP0.out.box 0 _ rfl).1 6 _ rfl⟩
       have h61 : (Y6.setCell ⟨ob, 2, none⟩ (.slice (some ⟨g, 0, none⟩) (ns + 1) cap)).cell? ⟨bx, 0, none⟩ = some (.int .i64 t.kind) ∧ (Y6.setCell ⟨ob, 2, none⟩ (.slice (some ⟨g, 0, none⟩) (ns + 1) cap)).cell? ⟨bx, 1, none⟩ = some (.string nm) ∧ (Y6.setCell ⟨ob, 2, none⟩ (.slice (some ⟨g, 0, none⟩) (ns + 1) cap)).cell? ⟨bx, 2, none⟩ = some (.int .i64 t.op) ∧ (Y6.setCell ⟨ob, 2, none⟩ (.slice (some ⟨g, 0, none⟩) (ns + 1) cap)).cell? ⟨bx, 3, none⟩ = some (.int .i64 t.a) ∧ (Y6.setCell ⟨ob, 2, none⟩ (.slice (some ⟨g, 0, none⟩) (ns + 1) cap)).cell? ⟨bx, 4, none⟩ = some (.int .i64 t.b) ∧ (Y6.setCell ⟨ob, 2, none⟩ (.slice (some ⟨g, 0, none⟩) (ns + 1) cap)).cell? ⟨bx, 5, none⟩ = some (.int .i64 t.n) ∧ (Y6.setCell ⟨ob, 2, none⟩ (.slice (some ⟨g, 0, none⟩) (ns + 1) cap)).cell? ⟨bx, 6, none⟩ = some (.slice aw lw cw) := ⟨(HP.out.box 0 _ rfl).1 0 _ rfl, (HP.out.box 0 _ rfl).1 1 _ rfl, (HP.out.box 0 _ rfl).1 2 _ rfl, (HP.out.box 0 _ rfl).1 3 _ rfl, (HP.out.box 0 _ rfl).1 4 _ rfl, (HP.out.box 0 _ rfl).1 5 _ rfl, (HP.out.box 0 _ rfl).1 6 _ rfl⟩
       have m6 : Y6.cell? ⟨ob, 2, none⟩ = some (.slice as2 ns xs2) := (HP0.out.box 1 _ rfl).1 2 _ rfl
       have z6 : Y6.frozen? ⟨ob, 2, none⟩ = false := (HP0.out.box 1 _ rfl).2.1 2
       refine hK.out _ _ h60 (fun hHeld => ?_)
       clear hK K ho6 hg6 hat6 hlt6
       try simp only [Act.put, zA, zB, zC]
       refine tj 11 ?_
       simp only [Act.put, zA, zB, zC]
       refine tr [12] ?_
       refine AllReadyH.cons (tA rfl) (fun K hK => ?_) AllReadyH.nil
       go_simp
       refine hK.out _ _ h61 (fun hHeld => ?_)
       clear hK K
       try simp only [Act.put, zA, zB, zC]
       refine wpAnyH_done (by kernel_rfl) ?_ _
       clear hHeld
       clear m6 z6 h60 h61
       go_wp2_with fail
       go_roundg (li - (k + 1))
       case measure => omega
       case rel => exact ⟨k + 1, _, _, nc, nd, (ns + 1), nr, rfl, by go_num, by omega, Nat.le_refl _, by omega, by omega, by omega, by omega, ⟨_, _, _, _, _, _, _, HP.out.drop, HN.out⟩⟩
      exact AllReadyH.nil

     exact AllReadyH.nil

    exact AllReadyH.nil
   ·have e2 : (t.kind == 2) = false := by simpa using k2
    have e3 : (t.kind == 3) = false := by simpa using k3
    have e4 : (t.kind == 4) = false := by simpa using k4
    have e5 : (t.kind == 5) = false := by simpa using k5
    have HN : Hid (OI (Z.objTo ts (Z.ops ts) (k + 1)) nc cc nd cd ns cs nr cr) := by
     show OI _ _ _ _ _ _ _ _ _
     rw [HST.out]
     unfold Z.stepO
     rw [HGD.out, if_neg k2, if_neg k3, if_neg k4, if_neg k5]
     exact HOI.out
    clear k2 k3 k4 k5
    go_wp2_with fail
    go_roundg (li - (k + 1))
    case measure => omega
    case rel => exact ⟨k + 1, _, _, nc, nd, ns, nr, rfl, by go_num, by omega, Nat.le_refl _, by omega, by omega, by omega, by omega, ⟨_, _, _, _, _, _, _, HB1.out.drop, HN.out⟩⟩
  ·obtain rfl : k = li := by omega
   have hii : ¬ (k : Int) < k := by omega
   have HOE : Hid (OI (Z.obj ts) nc cc nd cd ns cs nr cr) := by
    show OI _ _ _ _ _ _ _ _ _
    unfold Z.obj
    rw [HC.out]
    exact HOI.out
   have hcv : (convert 65 9 (.slice ac nc xc)).run Tryz.prog wr = .ok (.string (Z.obj ts).code) wr := by
    have h0 : wr.ownsRow W0.heap.size 5 1 (.slice ac nc xc) nc cc := hBS.own 0 _ rfl
    rw [HOE.out.fc.2, strCells_by] at h0
    have := conv_own h0
    rw [str_eq] at this
    exact this
   obtain ⟨oc, hoc⟩ : ∃ oc, (Z.obj ts).code = oc := ⟨_, rfl⟩
   rw [hoc] at hcv
   have o0 : wr.cell? ⟨ob, 0, none⟩ = some (.string { data := #[] }) := (hBS.box 0 _ rfl).1 0 _ rfl
   have o1 : wr.cell? ⟨ob, 1, none⟩ = some (.slice ad nd xd) := (hBS.box 0 _ rfl).1 1 _ rfl
   have o2 : wr.cell? ⟨ob, 2, none⟩ = some (.slice as2 ns xs2) := (hBS.box 0 _ rfl).1 2 _ rfl
   have o3 : wr.cell? ⟨ob, 3, none⟩ = some (.slice ar nr xr) := (hBS.box 0 _ rfl).1 3 _ rfl
   have zo : wr.frozen? ⟨ob, 0, none⟩ = false := (hBS.box 0 _ rfl).2.1 0
   have HF : Hid (O.BS W0 (((((wr.setCell ⟨ob, 0, none⟩ (.string oc)).setCell ⟨rb, 0, none⟩ (.string oc)).setCell ⟨rb, 1, none⟩ (.slice ad nd xd)).setCell ⟨rb, 2, none⟩ (.slice as2 ns xs2)).setCell ⟨rb, 3, none⟩ (.slice ar nr xr)) [⟨5, 1, (.slice ac nc xc), nc, cc⟩, ⟨2, 1, (.slice ad nd xd), nd, cd⟩, ⟨69, 3, (.slice as2 ns xs2), ns, cs⟩, ⟨51, 4, (.slice ar nr xr), nr, cr⟩] [(ob, [.string oc, (.slice ad nd xd), (.slice as2 ns xs2), (.slice ar nr xr)]), (rb, [.string oc, (.slice ad nd xd), (.slice as2 ns xs2), (.slice ar nr xr)])]) := by
    have h1 := hBS.put 0 ob _ rfl 0 (by simp) (.string oc)
    have h2 := h1.put 1 rb _ rfl 0 (by simp) (.string oc)
    have h3 := h2.put 1 rb _ rfl 1 (by simp) (.slice ad nd xd)
    have h4 := h3.put 1 rb _ rfl 2 (by simp) (.slice as2 ns xs2)
    have h5 := h4.put 1 rb _ rfl 3 (by simp) (.slice ar nr xr)
    exact h5
   have hne : ob ≠ rb := hBS.nd 0 1 _ _ rfl rfl (by decide)
   have hne2 := Ne.symm hne
   have rc0 : wr.cell? ⟨rb, 0, none⟩ = some (.string { data := #[] }) := (hBS.box 1 _ rfl).1 0 _ rfl
   have rz0 : wr.frozen? ⟨rb, 0, none⟩ = false := (hBS.box 1 _ rfl).2.1 0
   have rc1 : wr.cell? ⟨rb, 1, none⟩ = some (.slice none 0 0) := (hBS.box 1 _ rfl).1 1 _ rfl
   have rz1 : wr.frozen? ⟨rb, 1, none⟩ = false := (hBS.box 1 _ rfl).2.1 1
   have rc2 : wr.cell? ⟨rb, 2, none⟩ = some (.slice none 0 0) := (hBS.box 1 _ rfl).1 2 _ rfl
   have rz2 : wr.frozen? ⟨rb, 2, none⟩ = false := (hBS.box 1 _ rfl).2.1 2
   have rc3 : wr.cell? ⟨rb, 3, none⟩ = some (.slice none 0 0) := (hBS.box 1 _ rfl).1 3 _ rfl
   have rz3 : wr.frozen? ⟨rb, 3, none⟩ = false := (hBS.box 1 _ rfl).2.1 3
   have HOC : Hid _ := hoc
   clear hBS hoc
   go_wp2_with fail
   refine bodyPost_ret (v := .agg #[.string oc, (.slice ad nd xd), (.slice as2 ns xs2), (.slice ar nr xr)]) ?_ rfl ?_
   ·have r0 := (HF.out.box 1 _ rfl).1 0 _ rfl
    have r1 := (HF.out.box 1 _ rfl).1 1 _ rfl
    have r2 := (HF.out.box 1 _ rfl).1 2 _ rfl
    have r3 := (HF.out.box 1 _ rfl).1 3 _ rfl
    simp only at r0 r1 r2 r3
    simp [results, Tryz.results27, go_sem, r0, r1, r2, r3]
   ·refine ⟨(.slice ad nd xd), (.slice as2 ns xs2), (.slice ar nr xr), by rw [HOC.out], ?_, ?_, ?_, HF.out.low⟩
    ·have := HF.out.own 1 _ rfl
     simp only [HOE.out.fd.1, HOE.out.fd.2] at this
     rw [HOE.out.fd.1]
     exact this
    ·have := HF.out.own 2 _ rfl
     simp only [HOE.out.fs.1, HOE.out.fs.2] at this
     rw [HOE.out.fs.1]
     exact this
    ·have := HF.out.own 3 _ rfl
     simp only [HOE.out.fr.1, HOE.out.fr.2] at this
     rw [HOE.out.fr.1]
     exact this
end

end Go.Proofs.YtgjingleolhkbaaGreatDoor

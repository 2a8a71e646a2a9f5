import Derived.Test.YtgjingleolhkbaaGreatDoorTBe
import Derived.Test.YtgjingleolhkbaaGreatDoorTBh
namespace Go.Proofs.YtgjingleolhkbaaGreatDoor
open Go.RowKit Go.Maps Go.Lib
set_option linter.unusedVariables false
set_option linter.unusedSimpArgs false

theorem bs_add {w x y : World} {rs : List O.Row} {bx : List (Nat × List Value)} (h : O.BS w x rs bx) {ty : TypeId} {k n : Nat} {v : Value} {cs : List Value} (ho : y.ownsRow x.heap.size ty k v n cs) (hb : Below x.heap.size x y) : O.BS w y (⟨ty, k, v, n, cs⟩ :: rs) bx := by
 have h1 := (h.nil ty k).push (k := 0) rfl (d_mono ho h.low.size) (gb_of_below hb none) (fun g e => .inr (ho.lt g e).1)
 exact h1
theorem row_new {x y : World} {B : Nat} {ty : TypeId} {k n : Nat} {v : Value} {cs : List Value} {r : Option Nat} (h : x.ownsRow B ty k v n cs) (hg : x.grownBy y r) (hr : ∀ g, r = some g → g < B) : y.ownsRow B ty k v n cs := by
 rcases h.2 with ⟨e, -⟩ | ⟨g, cap, cur, e, hb, -⟩
 ·exact h.kept hg (.inl (by rw [e]; rfl))
 ·refine h.kept hg (.inr fun e2 => ?_)
  rw [e] at e2
  have := hr g e2.symm
  omega
theorem symC_one {r : O.Sym} : ∀ u ∈ O.symC r, u.oneCell' = true := by
 intro u hu
 simp [O.symC] at hu
 rcases hu with rfl | rfl | rfl <;> rfl
set_option maxRecDepth 100000 in
set_option maxHeartbeats 40000000 in
theorem rasm_any {w : World} {a : Option Addr} {l c : Nat} {ts : List X.It} (h : ItsV w a l c ts) :
  Calls Tryz.prog 13 #[.slice a l c] w (AsmOut w (Z.asm ts)) := by
 obtain ⟨i1, hi1, hz10, hz11, hz12⟩ := info_parts O.infoI
 obtain ⟨i2, hi2, hz20, hz21, hz22⟩ := info_parts O.infoS
 obtain ⟨i3, hi3, hz30, hz31, hz32⟩ := info_parts O.infoR
 obtain ⟨rb, hrb⟩ : ∃ rb, w.heap.size = rb := ⟨_, rfl⟩
 obtain ⟨W1, hW1⟩ : ∃ W1, w.alloc (.cells #[.string { data := #[] }, .slice none 0 0, .slice none 0 0, .slice none 0 0] 30) = W1 := ⟨_, rfl⟩
 have bW1 : Below w.heap.size w W1 := by subst hW1; exact bl1 _ _
 have hs1 : rb < W1.heap.size := by subst hW1 hrb; simp
 have hle : w.heap.size ≤ rb := by omega
 have r0 : W1.cell? ⟨rb, 0, none⟩ = some (.string { data := #[] }) := by subst hW1 hrb; exact cellA rfl rfl
 have z0 : W1.frozen? ⟨rb, 0, none⟩ = false := by subst hW1 hrb; exact World.frozen?_alloc_at _ _ _ _ rfl
 have r1 : W1.cell? ⟨rb, 1, none⟩ = some (.slice none 0 0) := by subst hW1 hrb; exact cellA rfl rfl
 have z1 : W1.frozen? ⟨rb, 1, none⟩ = false := by subst hW1 hrb; exact World.frozen?_alloc_at _ _ _ _ rfl
 have r2 : W1.cell? ⟨rb, 2, none⟩ = some (.slice none 0 0) := by subst hW1 hrb; exact cellA rfl rfl
 have z2 : W1.frozen? ⟨rb, 2, none⟩ = false := by subst hW1 hrb; exact World.frozen?_alloc_at _ _ _ _ rfl
 have r3 : W1.cell? ⟨rb, 3, none⟩ = some (.slice none 0 0) := by subst hW1 hrb; exact cellA rfl rfl
 have z3 : W1.frozen? ⟨rb, 3, none⟩ = false := by subst hW1 hrb; exact World.frozen?_alloc_at _ _ _ _ rfl
 have HBS0 : Hid (O.BS w W1 [] [(rb, [.string { data := #[] }, .slice none 0 0, .slice none 0 0, .slice none 0 0])]) := by
  have b1 := (O.BS.start w).alloc #[.string { data := #[] }, .slice none 0 0, .slice none 0 0, .slice none 0 0] 30
  rw [hW1, hrb] at b1
  exact b1
 have HV0 : Hid (ItsV w a l c ts) := h
 have HV : Hid (ItsV W1 a l c ts) := h.below bW1
 have HCT : Hid (ts.length = l) := h.count
 have HFIT : Hid (∀ t ∈ ts, X.fitsIt t) := fun t ht => (h.fit t ht).2
 have HB : Hid (Below w.heap.size w W1) := bW1
 have HK : Hid (∀ W', Below W1.heap.size W1 W' → W'.cell? ⟨rb, 0, none⟩ = some (.string { data := #[] }) ∧ W'.frozen? ⟨rb, 0, none⟩ = false ∧ W'.cell? ⟨rb, 1, none⟩ = some (.slice none 0 0) ∧ W'.frozen? ⟨rb, 1, none⟩ = false ∧ W'.cell? ⟨rb, 2, none⟩ = some (.slice none 0 0) ∧ W'.frozen? ⟨rb, 2, none⟩ = false ∧ W'.cell? ⟨rb, 3, none⟩ = some (.slice none 0 0) ∧ W'.frozen? ⟨rb, 3, none⟩ = false) := fun W' hb => ⟨cell_thru hb r0, (hb.frozen (p := ⟨rb, 0, none⟩) hs1).trans z0, cell_thru hb r1, (hb.frozen (p := ⟨rb, 1, none⟩) hs1).trans z1, cell_thru hb r2, (hb.frozen (p := ⟨rb, 2, none⟩) hs1).trans z2, cell_thru hb r3, (hb.frozen (p := ⟨rb, 3, none⟩) hs1).trans z3⟩
 have hck := rMay_any HV.out
 clear h bW1
 cases hok : X.itsOk ts with
 | false =>
  rw [hok] at hck
  have HR : Hid (Z.asm ts = (Z.noObj, 1)) := by show _ = _; unfold Z.asm; rw [hok]; rfl
  clear hok
  go_enter Tryz.func13, Tryz.ntmps13
  go_wp2_with fail
  refine hck.mono ?_
  rintro e w2 ⟨rfl, hb2⟩
  obtain ⟨s0, t0, s1, t1, s2, t2, s3, t3⟩ := HK.out w2 hb2
  have HB2 : Hid (Below w.heap.size w w2) := HB.out.trans (hb2.mono HB.out.size)
  clear hb2 hck
  go_wp2_with fail
  refine bodyPost_ret (v := .tuple #[.agg #[.string { data := #[] }, .slice none 0 0, .slice none 0 0, .slice none 0 0], .int .i64 1]) (by simp [results, Tryz.results13, go_sem, *]) rfl ?_
  exact AsmOut.bad HR.out (below_st4 HB2.out hle)
 | true =>
  rw [hok] at hck
  have hl : l ≤ 20000 := by have := (X.itsOk_iff.1 hok).1; rw [HCT.out] at this; exact this
  have HOK : Hid (∀ t ∈ ts, X.itOk t = true) := (X.itsOk_iff.1 hok).2
  have HA : Hid (Z.asm ts = if Z.nameE ts = 0 then (if Z.fits ts = true then (if Z.symsOk ts = true then (Z.obj ts, 0) else (Z.noObj, 6)) else (Z.noObj, 8)) else (Z.noObj, Z.nameE ts)) := by show _ = _; unfold Z.asm; rw [hok]; rfl
  clear hok
  go_enter Tryz.func13, Tryz.ntmps13
  go_wp2_with fail
  refine hck.mono ?_
  rintro e w2 ⟨rfl, hb2⟩
  have HB2 : Hid (Below W1.heap.size W1 w2) := hb2
  clear hb2 hck
  go_wp2_with fail
  refine (rnames_any (HV.out.below HB2.out) HOK.out).mono ?_
  rintro e w3 ⟨rfl, hb3⟩
  have HB3 : Hid (Below W1.heap.size W1 w3) := HB2.out.trans (hb3.mono HB2.out.size)
  clear hb3
  by_cases hE : Z.nameE ts = 0
  rotate_left
  ·have HR : Hid (Z.asm ts = (Z.noObj, Z.nameE ts)) := by show _ = _; rw [HA.out, if_neg hE]
   obtain ⟨s0, t0, s1, t1, s2, t2, s3, t3⟩ := HK.out w3 HB3.out
   have HB4 : Hid (Below w.heap.size w w3) := HB.out.trans (HB3.out.mono HB.out.size)
   obtain ⟨z, hz⟩ : ∃ z, Z.nameE ts = z := ⟨_, rfl⟩
   rw [hz] at hE HR ⊢
   have hE' : ((z : Int) != 0) = true := by simp; omega
   clear hz hE
   go_wp2_with fail
   refine bodyPost_ret (v := .tuple #[.agg #[.string { data := #[] }, .slice none 0 0, .slice none 0 0, .slice none 0 0], .int .i64 z]) (by simp [results, Tryz.results13, go_sem, *]) rfl ?_
   exact AsmOut.bad HR.out (below_st4 HB4.out hle)
  rw [if_pos hE] at HA
  rw [hE]
  clear hE
  go_wp2_with fail
  refine (rlengths_any (HV.out.below HB3.out) HOK.out hl).mono ?_
  rintro e w4 ⟨al, cl, bs, rfl, hrl, hbl, hops, hb4⟩
  have HBL : Hid (bs.length = l) := hbl
  have HOPS : Hid (Z.ops ts = Z.opsL ts bs) := hops
  have HB4 : Hid (Below W1.heap.size W1 w4) := HB3.out.trans (hb4.mono HB3.out.size)
  have HRL : Hid (w4.ownsRow w3.heap.size 4 1 (.slice al l cl) l (bs.map bV)) := hrl
  have HBS2 : Hid (O.BS w w4 [⟨4, 1, .slice al l cl, l, bs.map bV⟩] [(rb, [.string { data := #[] }, .slice none 0 0, .slice none 0 0, .slice none 0 0])]) := bs_add (HBS0.out.below HB3.out) hrl hb4
  clear hrl hbl hops hb4
  go_wp2_with fail
  refine (rplaces_any (HV.out.below HB4.out) HOK.out hl HRL.out HBL.out).mono ?_
  rintro e w5 ⟨aa, ca, rfl, hra, hb5⟩
  rw [← HOPS.out] at hra ⊢
  have HBS3 : Hid (O.BS w w5 [⟨3, 1, .slice aa l ca, l, (Z.ats (Z.ops ts)).map iV⟩, ⟨4, 1, .slice al l cl, l, bs.map bV⟩] [(rb, [.string { data := #[] }, .slice none 0 0, .slice none 0 0, .slice none 0 0])]) := bs_add HBS2.out hra hb5
  clear hra hb5 HRL HBS2 HBS0 hW1 r0 r1 r2 r3 z0 z1 z2 z3
  obtain ⟨tt, htt⟩ : ∃ tt, Z.tot (Z.ops ts) = tt := ⟨_, rfl⟩
  rw [htt]
  have HTT : Hid (Z.tot (Z.ops ts) = tt) := htt
  clear htt
  obtain ⟨ob, hob⟩ : ∃ ob, w5.heap.size = ob := ⟨_, rfl⟩
  obtain ⟨Y2, hY2⟩ : ∃ Y2, w5.alloc (.cells #[.string { data := #[] }, .slice none 0 0, .slice none 0 0, .slice none 0 0] 30) = Y2 := ⟨_, rfl⟩
  have HB0 : Hid (O.BS w Y2 [⟨5, 1, .slice none 0 0, 0, []⟩, ⟨2, 1, .slice none 0 0, 0, []⟩, ⟨69, 3, .slice none 0 0, 0, []⟩, ⟨51, 4, .slice none 0 0, 0, []⟩, ⟨3, 1, .slice aa l ca, l, (Z.ats (Z.ops ts)).map iV⟩, ⟨4, 1, .slice al l cl, l, bs.map bV⟩] [(ob, [.string { data := #[] }, .slice none 0 0, .slice none 0 0, .slice none 0 0]), (rb, [.string { data := #[] }, .slice none 0 0, .slice none 0 0, .slice none 0 0])]) := by
   have b2 := HBS3.out.alloc #[.string { data := #[] }, .slice none 0 0, .slice none 0 0, .slice none 0 0] 30
   rw [hY2, hob] at b2
   exact (((b2.nil 51 4).nil 69 3).nil 2 1).nil 5 1
  go_wp2_with fail
  try rw [hY2]
  try rw [hob]
  clear hY2 hob HBS3
  go_loopg [9, 10, 11, 12, 13, 14, 15, 16] l (fun r cv bv iv z12 z13 z14 z15 z16 wq => ∃ (k : Nat) (ac : Option Addr) (xc nc nd ns nr : Nat), cv = .slice ac nc xc ∧ bv = .bool (Z.behind ts k) ∧ iv = .int .i64 k ∧ k ≤ l ∧ l - k ≤ r ∧ nc ≤ 20 * k ∧ nd ≤ 4096 * k ∧ ns ≤ k ∧ nr ≤ k ∧ Hid (∃ vd vs vr cc cd cs cr, O.BS w wq [⟨5, 1, .slice ac nc xc, nc, cc⟩, ⟨2, 1, vd, nd, cd⟩, ⟨69, 3, vs, ns, cs⟩, ⟨51, 4, vr, nr, cr⟩, ⟨3, 1, .slice aa l ca, l, (Z.ats (Z.ops ts)).map iV⟩, ⟨4, 1, .slice al l cl, l, bs.map bV⟩] [(ob, [.string { data := #[] }, vd, vs, vr]), (rb, [.string { data := #[] }, .slice none 0 0, .slice none 0 0, .slice none 0 0])] ∧ OI (Z.objTo ts (Z.ops ts) k) nc cc nd cd ns cs nr cr))
  case atStart => exact ⟨0, none, 0, 0, 0, 0, 0, rfl, rfl, rfl, Nat.zero_le _, by omega, by omega, by omega, by omega, by omega, ⟨_, _, _, _, _, _, _, HB0.out, ⟨⟨rfl, rfl⟩, ⟨rfl, rfl⟩, ⟨rfl, rfl⟩, ⟨rfl, rfl⟩⟩⟩⟩
  case round =>
   obtain ⟨k, ac, xc, nc, nd, ns, nr, rfl, rfl, rfl, hk, hr, hnc, hnd, hns, hnr, HX⟩ := hrel
   obtain ⟨vd, vs, vr, cc, cd, cs, cr, hBS, hOI⟩ := HX.out
   have ow1 : wr.ownsRow w.heap.size 2 1 vd nd cd := hBS.own 1 _ rfl
   have ow2 : wr.ownsRow w.heap.size 69 3 vs ns cs := hBS.own 2 _ rfl
   have ow3 : wr.ownsRow w.heap.size 51 4 vr nr cr := hBS.own 3 _ rfl
   obtain ⟨ad, xd, rfl⟩ := own_slice ow1
   obtain ⟨as2, xs2, rfl⟩ := own_slice ow2
   obtain ⟨ar, xr, rfl⟩ := own_slice ow3
   clear ow1 ow2 ow3
   have HBS : Hid (O.BS w wr [⟨5, 1, .slice ac nc xc, nc, cc⟩, ⟨2, 1, .slice ad nd xd, nd, cd⟩, ⟨69, 3, .slice as2 ns xs2, ns, cs⟩, ⟨51, 4, .slice ar nr xr, nr, cr⟩, ⟨3, 1, .slice aa l ca, l, (Z.ats (Z.ops ts)).map iV⟩, ⟨4, 1, .slice al l cl, l, bs.map bV⟩] [(ob, [.string { data := #[] }, (.slice ad nd xd), (.slice as2 ns xs2), (.slice ar nr xr)]), (rb, [.string { data := #[] }, .slice none 0 0, .slice none 0 0, .slice none 0 0])]) := hBS
   have HOI : Hid _ := hOI
   clear HX HB0 hOI
   by_cases hlt : k < l
   ·have hii : (k : Int) < l := by omega
    have hin : 0 ≤ (k : Int) := by omega
    obtain ⟨b, off, t, aw, lw, cw, rfl, hg, hmem, d0, d1, d2, d3, d4, d5, d6, hi⟩ := HV0.out.at hlt
    have hfit := (HV0.out.fit t hmem).1
    have hwl : t.words.length = lw := hi.count
    obtain ⟨hw4, hw1⟩ := itOk_words (HOK.out t hmem)
    rw [hwl] at hw4 hw1
    have HIV : Hid (∀ W', Below w.heap.size w W' → IntsV W' aw lw cw t.words) := fun W' hb => hi.below hb
    have HGD : Hid (ts.getD k X.noIt = t) := hg
    have HST : Hid (Z.objTo ts (Z.ops ts) (k + 1) = Z.stepO ts (Z.ops ts) (Z.objTo ts (Z.ops ts) k) k) := Z.objTo_succ _ _ _
    have HSZ : Hid (Z.SZ ts (k + 1) (Z.objTo ts (Z.ops ts) (k + 1))) := Z.sz_all (by rw [HCT.out]; exact hl) HOK.out HFIT.out (k + 1) (by rw [HCT.out]; omega)
    have HBH : Hid (Z.behind ts (k + 1) = (Z.behind ts k || (Z.shown t && decide (Z.placeOf ts (Z.ops ts) t.name = tt)))) := by show _ = _; rw [Z.behind_succ (by rw [HCT.out]; exact hlt), HGD.out, HTT.out]
    obtain ⟨s, hs⟩ : ∃ s, Z.objTo ts (Z.ops ts) k = s := ⟨_, rfl⟩
    rw [hs] at HOI HST
    obtain ⟨nm, hnm⟩ : ∃ nm, X.str t.name = nm := ⟨_, rfl⟩
    rw [hnm] at d1
    have HNM : Hid (X.str t.name = nm) := hnm
    have HIT : Hid (∀ y, Below w.heap.size w y → y.cell? ⟨b, off + k * 7, none⟩ = some (.int .i64 t.kind) ∧ y.cell? ⟨b, off + k * 7 + 1, none⟩ = some (.string nm) ∧ y.cell? ⟨b, off + k * 7 + 2, none⟩ = some (.int .i64 t.op) ∧ y.cell? ⟨b, off + k * 7 + 3, none⟩ = some (.int .i64 t.a) ∧ y.cell? ⟨b, off + k * 7 + 4, none⟩ = some (.int .i64 t.b) ∧ y.cell? ⟨b, off + k * 7 + 5, none⟩ = some (.int .i64 t.n) ∧ y.cell? ⟨b, off + k * 7 + 6, none⟩ = some (.slice aw lw cw)) := fun y hb => ⟨cell_thru hb d0, cell_thru hb d1, cell_thru hb d2, cell_thru hb d3, cell_thru hb d4, cell_thru hb d5, cell_thru hb d6⟩
    obtain ⟨c0, c1, c2, c3, c4, c5, c6⟩ := HIT.out wr hBS.low
    have HWL : Hid (t.words.length = lw) := hwl
    have HLB : Hid (∀ y, Below w.heap.size w y → Calls Tryz.prog 33 #[.slice (some ⟨b, off, none⟩) l c, .string nm] y fun e w' => e = .returned (.tuple #[.int .i64 (Z.labN ts t.name), .bool (Z.lab ts t.name).isSome]) ∧ Below y.heap.size y w') := fun y hy => by rw [← HNM.out]; exact rlabel_any (HV0.out.below hy) t.name
    clear hBS hmem hi hg hwl hs hnm d0 d1 d2 d3 d4 d5 d6
    by_cases k2 : t.kind = 2
    ·have e2 : (t.kind == 2) = true := by simpa using k2
     obtain ⟨bb, hbb⟩ : ∃ bb, bs.getD k false = bb := ⟨_, rfl⟩
     have hrow : wr.ownsRow w.heap.size 4 1 (.slice al l cl) l (bs.map bV) := HBS.out.own 5 _ rfl
     obtain ⟨gl, rfl, -, -, -, -⟩ := row_some hrow (by omega : 0 < l)
     have cbl := row_bool hrow hlt
     rw [hbb] at cbl
     obtain ⟨cb, hcb⟩ : ∃ cb, strOfNums (Z.codeV ts (Z.ops ts) k) = cb := ⟨_, rfl⟩
     have hcs : cb.size ≤ 20 := by rw [← hcb, Z.strOf_size]; exact Z.enc_len _ _ _ _
     have hcode := rcode_any (HV0.out.below HBS.out.low) HOK.out hl hlt (by rw [HGD.out]; exact k2) (bb := bb) (HBS.out.own 4 _ rfl) (by rw [Z.ops_len, HCT.out]) (by rw [HOPS.out, Z.opsL_at (by rw [HBL.out, HCT.out]) (by rw [HCT.out]; exact hlt), hbb])
     unfold CodeOut at hcode
     rw [hcb] at hcode
     obtain ⟨rs, hrs⟩ : ∃ rs, Z.relsAt ts (Z.ops ts) k = rs := ⟨_, rfl⟩
     rw [hrs] at hcode
     have hrs1 : rs.length ≤ 1 := by rw [← hrs]; unfold Z.relsAt; split <;> simp
     have HNS : Hid (Z.objTo ts (Z.ops ts) (k + 1) = ⟨s.code ++ cb, s.data, s.syms, s.rels ++ rs⟩) := by
      show _ = _
      have hz := HSZ.out.c
      rw [HST.out] at hz ⊢
      unfold Z.stepO at hz ⊢
      rw [HGD.out, if_pos k2, hcb] at hz ⊢
      simp only at hz
      rw [← hrs]
      unfold Z.relsAt
      rw [HGD.out, ← hz]
      split
      ·rfl
      ·rw [List.append_nil]
     have HB3' : Hid (Z.behind ts (k + 1) = Z.behind ts k) := by
      show _ = _
      have : Z.shown t = false := by unfold Z.shown; rw [k2]; rfl
      rw [HBH.out, this, Bool.false_and, Bool.or_false]
     clear k2 hcb hrs hbb hrow
     go_wp2_with fail
     refine hcode.mono ?_
     rintro e y1 ⟨arr, crr, rfl, hro, hb1⟩
     have HD1 : Hid (O.BS w y1 [⟨5, 1, .slice ac nc xc, nc, cc⟩, ⟨2, 1, .slice ad nd xd, nd, cd⟩, ⟨69, 3, .slice as2 ns xs2, ns, cs⟩, ⟨51, 4, .slice ar nr xr, nr, cr⟩, ⟨3, 1, .slice aa l ca, l, (Z.ats (Z.ops ts)).map iV⟩, ⟨4, 1, .slice (some ⟨gl, 0, none⟩) l cl, l, bs.map bV⟩] [(ob, [.string { data := #[] }, (.slice ad nd xd), (.slice as2 ns xs2), (.slice ar nr xr)]), (rb, [.string { data := #[] }, .slice none 0 0, .slice none 0 0, .slice none 0 0])]) := HBS.out.below hb1
     obtain ⟨hn1, hn2, hn3⟩ := own_src hro
     have HRO : Hid (y1.ownsRow wr.heap.size 51 4 (.slice arr rs.length crr) rs.length (rs.flatMap O.relC)) := hro
     have HFB : Hid (∀ g, (Value.slice ac nc xc).ownBlock = some g → g < wr.heap.size) := fun g e => ((HBS.out.own 0 _ rfl).lt g e).2
     clear hb1 hcode hro hn1 hn2 hn3
     go_wp2_with (first | (at_builtin; refine O.wpList_append_str rfl _ _ rfl rfl (HD1.out.own 0 _ rfl) cb rfl (show nc + cb.size ≤ 140737488355328 by omega) HD1.out.low.size ?_; intro v2 y2 ho2 hgr2; obtain ⟨a2, x2, rfl⟩ := own_slice ho2; have HD2' := HD1.out.push (k := 0) rfl ho2 hgr2.grown hgr2.lies; have HRO2 : Hid (y2.ownsRow wr.heap.size 51 4 (.slice arr rs.length crr) rs.length (rs.flatMap O.relC)) := row_new HRO.out hgr2.grown HFB.out; obtain ⟨nn, hnn⟩ : ∃ nn, nc + cb.size = nn := ⟨_, rfl⟩; simp only [hnn] at HD2' ⊢; have HNN : Hid (nc + cb.size = nn) := hnn; have HD2 : Hid (O.BS w y2 [⟨5, 1, .slice a2 nn x2, nn, (cc ++ strCells cb)⟩, ⟨2, 1, .slice ad nd xd, nd, cd⟩, ⟨69, 3, .slice as2 ns xs2, ns, cs⟩, ⟨51, 4, .slice ar nr xr, nr, cr⟩, ⟨3, 1, .slice aa l ca, l, (Z.ats (Z.ops ts)).map iV⟩, ⟨4, 1, .slice (some ⟨gl, 0, none⟩) l cl, l, bs.map bV⟩] [(ob, [.string { data := #[] }, (.slice ad nd xd), (.slice as2 ns xs2), (.slice ar nr xr)]), (rb, [.string { data := #[] }, .slice none 0 0, .slice none 0 0, .slice none 0 0])]) := HD2'; have p3 : y2.cell? ⟨ob, 3, none⟩ = some (.slice ar nr xr) := (HD2.out.box 0 _ rfl).1 3 _ rfl; clear ho2 hgr2 HD2' hnn) | (at_builtin; refine O.wpList_append_more rfl _ _ 28 rfl w.heap.size 51 i3 _ 4 40 Tryz.underlying28 hi3 hz30 hz31 hz32 rfl (by decide) (v := (.slice ar nr xr)) (n := nr) (xs := cr) rfl (HD2.out.own 3 _ rfl) HD2.out.low.size (a := arr) (l := rs.length) (c := crr) (cs := rs.flatMap O.relC) rfl (own_src HRO2.out).1 (own_src HRO2.out).2.1 (own_src HRO2.out).2.2 (fun u hu => by obtain ⟨x, -, hx⟩ := List.mem_flatMap.1 hu; exact relC_one u hx) (show (nr + rs.length) * 40 ≤ 140737488355328 by omega) (show nr + rs.length ≤ 140737488355328 by omega) ?_; intro v3 y3 ho3 hg3 hat3; obtain ⟨a3, x3, rfl⟩ := own_slice ho3; have HD3' := HD2.out.push (k := 3) rfl ho3 hg3 hat3; obtain ⟨mm, hmm⟩ : ∃ mm, nr + rs.length = mm := ⟨_, rfl⟩; simp only [hmm] at HD3' ⊢; have HMM : Hid (nr + rs.length = mm) := hmm; have HD3 : Hid (O.BS w y3 [⟨5, 1, .slice a2 nn x2, nn, (cc ++ strCells cb)⟩, ⟨2, 1, .slice ad nd xd, nd, cd⟩, ⟨69, 3, .slice as2 ns xs2, ns, cs⟩, ⟨51, 4, .slice a3 mm x3, mm, (cr ++ rs.flatMap O.relC)⟩, ⟨3, 1, .slice aa l ca, l, (Z.ats (Z.ops ts)).map iV⟩, ⟨4, 1, .slice (some ⟨gl, 0, none⟩) l cl, l, bs.map bV⟩] [(ob, [.string { data := #[] }, (.slice ad nd xd), (.slice as2 ns xs2), (.slice ar nr xr)]), (rb, [.string { data := #[] }, .slice none 0 0, .slice none 0 0, .slice none 0 0])]) := HD3'; have p3b : y3.cell? ⟨ob, 3, none⟩ = some (.slice ar nr xr) := (HD3.out.box 0 _ rfl).1 3 _ rfl; have z3b : y3.frozen? ⟨ob, 3, none⟩ = false := (HD3.out.box 0 _ rfl).2.1 3; have HD4 : Hid _ := HD3.out.put 0 ob [.string { data := #[] }, (.slice ad nd xd), (.slice as2 ns xs2), (.slice ar nr xr)] rfl 3 (by simp) (.slice a3 mm x3); clear ho3 hg3 hat3 HD3' hmm) | fail)
     have hnn20 : nn ≤ 20 * (k + 1) := by have := HNN.out; omega
     have hmm1 : mm ≤ k + 1 := by have := HMM.out; omega
     have HN : Hid (OI (Z.objTo ts (Z.ops ts) (k + 1)) nn (cc ++ strCells cb) nd cd ns cs mm (cr ++ rs.flatMap O.relC)) := by
      show OI _ _ _ _ _ _ _ _ _
      rw [HNS.out]
      exact ⟨⟨by rw [← HNN.out, HOI.out.fc.1, ByteArray.size_append], by rw [strCells_app, HOI.out.fc.2]⟩, HOI.out.fd, HOI.out.fs, ⟨by rw [← HMM.out, HOI.out.fr.1, List.length_append], by rw [HOI.out.fr.2, List.flatMap_append]⟩⟩
     go_roundg (l - (k + 1))
     case measure => omega
     case rel => exact ⟨k + 1, _, _, nn, nd, ns, mm, rfl, by rw [HB3'.out], by go_num, by omega, Nat.le_refl _, by omega, by omega, by omega, by omega, ⟨_, _, _, _, _, _, _, HD4.out, HN.out⟩⟩
    by_cases k3 : t.kind = 3
    ·have e2 : (t.kind == 2) = false := by simpa using k2
     have e3 : (t.kind == 3) = true := by simpa using k3
     have hl1 := hw1 k3
     have HN : Hid (OI (Z.objTo ts (Z.ops ts) (k + 1)) nc cc (nd + lw) (cd ++ iC t.words) (ns + 1) (cs ++ O.symC ⟨nm, 2, nd⟩) nr cr) := by
      show OI _ _ _ _ _ _ _ _ _
      rw [HST.out]
      unfold Z.stepO
      rw [HGD.out, if_neg k2, if_pos k3, HNM.out]
      exact ⟨HOI.out.fc, ⟨by rw [HOI.out.fd.1, List.length_append, HWL.out], by rw [HOI.out.fd.2, List.flatMap_append, intC_map t.words]⟩, ⟨by rw [HOI.out.fs.1]; simp, by rw [HOI.out.fs.2, HOI.out.fd.1]; simp⟩, HOI.out.fr⟩
     have HB3' : Hid (Z.behind ts (k + 1) = Z.behind ts k) := by
      show _ = _
      have : Z.shown t = false := by unfold Z.shown; rw [k3]; rfl
      rw [HBH.out, this, Bool.false_and, Bool.or_false]
     have q1 : wr.cell? ⟨ob, 1, none⟩ = some (.slice ad nd xd) := (HBS.out.box 0 _ rfl).1 1 _ rfl
     have hndl : nd + lw ≤ 4096 * (k + 1) := by omega
     clear k2 k3
     go_upto_region 20 with fail
     refine wp_region_held_drew (S := (fun w' : World => w'.cell? ⟨b, off + k * 7 + 1, none⟩ = some (.string nm) ∧ w'.cell? ⟨ob, 1, none⟩ = some (.slice ad nd xd))) (by kernel_rfl) ⟨by rw [World.cell?_drew]; exact c1, by rw [World.cell?_drew]; exact q1⟩ (fun hHeld => ?_)
     refine tj 0 ?_
     simp only [Act.put, zA, zB, zC]
     refine tj 2 ?_
     simp only [Act.put, zA, zB, zC]
     refine tj 3 ?_
     simp only [Act.put, zA, zB, zC]
     refine tj 4 ?_
     simp only [Act.put, zA, zB, zC]
     refine tj 5 ?_
     simp only [Act.put, zA, zB, zC]
     refine tj 6 ?_
     simp only [Act.put, zA, zB, zC]
     refine tj 7 ?_
     simp only [Act.put, zA, zB, zC]
     refine tj 8 ?_
     simp only [Act.put, zA, zB, zC]
     refine tj 9 ?_
     simp only [Act.put, zA, zB, zC]
     refine tj 10 ?_
     simp only [Act.put, zA, zB, zC]
     refine tr [1, 11] ?_
     refine AllReadyH.cons (tA rfl) (fun K hK => ?_) ?_
     ·have m3 := ((HBS.out.below (Below.refl _ _).drew).box 0 _ rfl).1 2 _ rfl
      go_simp
      refine hK.out _ _ hHeld (fun hHeld => ?_)
      clear hK K m3
      try simp only [Act.put, zA, zB, zC]
      refine tr [11] ?_
      refine AllReadyH.cons (tA rfl) (fun K hK => ?_) ?_
      ·go_simp
       have HE : Hid (O.BS w (wr.drew.alloc (.cells #[.string nm, .int .i64 2, .int .i64 nd] 69)) [⟨5, 1, .slice ac nc xc, nc, cc⟩, ⟨2, 1, .slice ad nd xd, nd, cd⟩, ⟨69, 3, .slice as2 ns xs2, ns, cs⟩, ⟨51, 4, .slice ar nr xr, nr, cr⟩, ⟨3, 1, .slice aa l ca, l, (Z.ats (Z.ops ts)).map iV⟩, ⟨4, 1, .slice al l cl, l, bs.map bV⟩] [(ob, [.string { data := #[] }, (.slice ad nd xd), (.slice as2 ns xs2), (.slice ar nr xr)]), (rb, [.string { data := #[] }, .slice none 0 0, .slice none 0 0, .slice none 0 0])]) := (HBS.out.below (Below.refl _ _).drew).below (bl1 _ _)
       have HNC : Hid (∀ j u, (O.symC ⟨nm, 2, nd⟩)[j]? = some u → (wr.drew.alloc (.cells #[.string nm, .int .i64 2, .int .i64 nd] 69)).cell? ((⟨wr.heap.size, 0, none⟩ : Addr).add j) = some u) := fun j u hu => by
        rw [Addr.add_lit, Nat.zero_add]
        exact cellA rfl (by simpa [O.symC] using hu)
       refine hK.out _ _ ⟨(HIT.out _ HE.out.low).2.1, (HE.out.box 0 _ rfl).1 1 _ rfl⟩ (fun hHeld => ?_)
       clear hK K
       try simp only [Act.put, zA, zB, zC]
       refine tr [12] ?_
       refine AllReadyH.cons (tA rfl) (fun K hK => ?_) AllReadyH.nil
       refine step_append_lies _ (by rfl) _ _ 27 (by rfl) w.heap.size 69 i2 _ 3 32 Tryz.underlying27 hi2 hz20 hz21 hz22 (by rfl) (by decide) (.slice as2 ns xs2) ns cs (by rfl) (HE.out.own 2 _ rfl) ⟨wr.heap.size, 0, none⟩ 1 1 (O.symC ⟨nm, 2, nd⟩) (by rfl) (by rfl) HNC.out symC_one (by decide) (by unfold maxLen; omega) (by omega) HE.out.low.size _ rfl ?_
       intro g cap Y6 ho6 hg6 hat6 hlt6
       have HP0 : Hid (O.BS w Y6 [⟨5, 1, .slice ac nc xc, nc, cc⟩, ⟨2, 1, .slice ad nd xd, nd, cd⟩, ⟨69, 3, (.slice (some ⟨g, 0, none⟩) (ns + 1) cap), (ns + 1), (cs ++ O.symC ⟨nm, 2, nd⟩)⟩, ⟨51, 4, .slice ar nr xr, nr, cr⟩, ⟨3, 1, .slice aa l ca, l, (Z.ats (Z.ops ts)).map iV⟩, ⟨4, 1, .slice al l cl, l, bs.map bV⟩] [(ob, [.string { data := #[] }, (.slice ad nd xd), (.slice as2 ns xs2), (.slice ar nr xr)]), (rb, [.string { data := #[] }, .slice none 0 0, .slice none 0 0, .slice none 0 0])]) := HE.out.push (k := 2) rfl ho6 hg6 (fun g' hg' => by simp [Value.ownBlock] at hg'; subst hg'; rcases hat6 with e | e; exact .inl e; exact .inr (by rw [e]; exact Nat.le_refl _))
       have HP : Hid (O.BS w (Y6.setCell ⟨ob, 2, none⟩ (.slice (some ⟨g, 0, none⟩) (ns + 1) cap)) [⟨5, 1, .slice ac nc xc, nc, cc⟩, ⟨2, 1, .slice ad nd xd, nd, cd⟩, ⟨69, 3, (.slice (some ⟨g, 0, none⟩) (ns + 1) cap), (ns + 1), (cs ++ O.symC ⟨nm, 2, nd⟩)⟩, ⟨51, 4, .slice ar nr xr, nr, cr⟩, ⟨3, 1, .slice aa l ca, l, (Z.ats (Z.ops ts)).map iV⟩, ⟨4, 1, .slice al l cl, l, bs.map bV⟩] [(ob, [.string { data := #[] }, (.slice ad nd xd), (.slice (some ⟨g, 0, none⟩) (ns + 1) cap), (.slice ar nr xr)]), (rb, [.string { data := #[] }, .slice none 0 0, .slice none 0 0, .slice none 0 0])]) := HP0.out.put 0 ob [.string { data := #[] }, (.slice ad nd xd), (.slice as2 ns xs2), (.slice ar nr xr)] rfl 2 (by simp) (.slice (some ⟨g, 0, none⟩) (ns + 1) cap)
       have h60 : Y6.cell? ⟨b, off + k * 7 + 1, none⟩ = some (.string nm) ∧ Y6.cell? ⟨ob, 1, none⟩ = some (.slice ad nd xd) := ⟨(HIT.out Y6 HP0.out.low).2.1, (HP0.out.box 0 _ rfl).1 1 _ rfl⟩
       have h61 : (Y6.setCell ⟨ob, 2, none⟩ (.slice (some ⟨g, 0, none⟩) (ns + 1) cap)).cell? ⟨b, off + k * 7 + 1, none⟩ = some (.string nm) ∧ (Y6.setCell ⟨ob, 2, none⟩ (.slice (some ⟨g, 0, none⟩) (ns + 1) cap)).cell? ⟨ob, 1, none⟩ = some (.slice ad nd xd) := ⟨(HIT.out _ HP.out.low).2.1, (HP.out.box 0 _ rfl).1 1 _ rfl⟩
       have m6 : Y6.cell? ⟨ob, 2, none⟩ = some (.slice as2 ns xs2) := (HP0.out.box 0 _ rfl).1 2 _ rfl
       have z6 : Y6.frozen? ⟨ob, 2, none⟩ = false := (HP0.out.box 0 _ rfl).2.1 2
       refine hK.out _ _ h60 (fun hHeld => ?_)
       clear hK K ho6 hg6 hat6 hlt6
       try simp only [Act.put, zA, zB, zC]
       refine tj 13 ?_
       simp only [Act.put, zA, zB, zC]
       refine tr [14] ?_
       refine AllReadyH.cons (tA rfl) (fun K hK => ?_) AllReadyH.nil
       go_simp
       refine hK.out _ _ h61 (fun hHeld => ?_)
       clear hK K
       try simp only [Act.put, zA, zB, zC]
       refine wpAnyH_done (by kernel_rfl) ?_ _
       clear hHeld
       clear m6 z6 h60 h61 HP0 HE HNC
       obtain ⟨Y7, hY7⟩ : ∃ Y7, Y6.setCell ⟨ob, 2, none⟩ (.slice (some ⟨g, 0, none⟩) (ns + 1) cap) = Y7 := ⟨_, rfl⟩
       rw [hY7] at HP
       try rw [hY7]
       clear hY7
       have w6 := (HIT.out Y7 HP.out.low).2.2.2.2.2.2
       go_wp2_with fail
       refine wp_region_held_drew (S := (fun w' : World => w'.cell? ⟨b, off + k * 7 + 6, none⟩ = some (.slice aw lw cw))) (by kernel_rfl) (by rw [World.cell?_drew]; exact w6) (fun hHeld => ?_)
       refine tj 0 ?_
       simp only [Act.put, zA, zB, zC]
       refine tj 2 ?_
       simp only [Act.put, zA, zB, zC]
       refine tj 3 ?_
       simp only [Act.put, zA, zB, zC]
       refine tj 4 ?_
       simp only [Act.put, zA, zB, zC]
       refine tj 5 ?_
       simp only [Act.put, zA, zB, zC]
       refine tj 6 ?_
       simp only [Act.put, zA, zB, zC]
       refine tr [1] ?_
       refine AllReadyH.cons (tA rfl) (fun K hK => ?_) AllReadyH.nil
       have m3 := ((HP.out.below (Below.refl _ _).drew).box 0 _ rfl).1 1 _ rfl
       go_simp
       refine hK.out _ _ hHeld (fun hHeld => ?_)
       clear hK K m3
       try simp only [Act.put, zA, zB, zC]
       refine tr [7] ?_
       refine AllReadyH.cons (tA rfl) (fun K hK => ?_) AllReadyH.nil
       have hsrc := IntsV.src' (HIV.out Y7.drew (HP.out.below (Below.refl _ _).drew).low) hl1
       obtain ⟨adw, hadw⟩ : ∃ x, aw = some x := by
        cases aw with
        | none => have := (hsrc.1 rfl).1; omega
        | some x => exact ⟨x, rfl⟩
       subst hadw
       refine step_append_lies _ (by rfl) _ _ 26 (by rfl) w.heap.size 2 i1 _ 1 8 Tryz.underlying26 hi1 hz10 hz11 hz12 (by rfl) (by decide) (.slice ad nd xd) nd cd (by rfl) ((HP.out.below (Below.refl _ _).drew).own 1 _ rfl) adw lw cw (iC t.words) (by rfl) hsrc.2.1 (hsrc.2.2.1 adw rfl) hsrc.2.2.2 (by omega) (by unfold maxLen; omega) (by omega) (HP.out.below (Below.refl _ _).drew).low.size _ rfl ?_
       intro g2 cap2 Y8 ho8 hg8 hat8 hlt8
       have HQ0 : Hid (O.BS w Y8 [⟨5, 1, .slice ac nc xc, nc, cc⟩, ⟨2, 1, (.slice (some ⟨g2, 0, none⟩) (nd + lw) cap2), (nd + lw), (cd ++ iC t.words)⟩, ⟨69, 3, (.slice (some ⟨g, 0, none⟩) (ns + 1) cap), (ns + 1), (cs ++ O.symC ⟨nm, 2, nd⟩)⟩, ⟨51, 4, .slice ar nr xr, nr, cr⟩, ⟨3, 1, .slice aa l ca, l, (Z.ats (Z.ops ts)).map iV⟩, ⟨4, 1, .slice al l cl, l, bs.map bV⟩] [(ob, [.string { data := #[] }, (.slice ad nd xd), (.slice (some ⟨g, 0, none⟩) (ns + 1) cap), (.slice ar nr xr)]), (rb, [.string { data := #[] }, .slice none 0 0, .slice none 0 0, .slice none 0 0])]) := (HP.out.below (Below.refl _ _).drew).push (k := 1) rfl ho8 hg8 (fun g' hg' => by simp [Value.ownBlock] at hg'; subst hg'; rcases hat8 with e | e; exact .inl e; exact .inr (by rw [e]; exact Nat.le_refl _))
       have HQ : Hid _ := HQ0.out.put 0 ob [.string { data := #[] }, (.slice ad nd xd), (.slice (some ⟨g, 0, none⟩) (ns + 1) cap), (.slice ar nr xr)] rfl 1 (by simp) (.slice (some ⟨g2, 0, none⟩) (nd + lw) cap2)
       have h80 : Y8.cell? ⟨b, off + k * 7 + 6, none⟩ = some (.slice (some adw) lw cw) := (HIT.out Y8 HQ0.out.low).2.2.2.2.2.2
       have h81 : (Y8.setCell ⟨ob, 1, none⟩ (.slice (some ⟨g2, 0, none⟩) (nd + lw) cap2)).cell? ⟨b, off + k * 7 + 6, none⟩ = some (.slice (some adw) lw cw) := (HIT.out _ HQ.out.low).2.2.2.2.2.2
       have m8 : Y8.cell? ⟨ob, 1, none⟩ = some (.slice ad nd xd) := (HQ0.out.box 0 _ rfl).1 1 _ rfl
       have z8 : Y8.frozen? ⟨ob, 1, none⟩ = false := (HQ0.out.box 0 _ rfl).2.1 1
       refine hK.out _ _ h80 (fun hHeld => ?_)
       clear hK K ho8 hg8 hat8 hlt8 hsrc
       try simp only [Act.put, zA, zB, zC]
       refine tj 8 ?_
       simp only [Act.put, zA, zB, zC]
       refine tr [9] ?_
       refine AllReadyH.cons (tA rfl) (fun K hK => ?_) AllReadyH.nil
       go_simp
       refine hK.out _ _ h81 (fun hHeld => ?_)
       clear hK K
       try simp only [Act.put, zA, zB, zC]
       refine wpAnyH_done (by kernel_rfl) ?_ _
       clear hHeld
       clear m8 z8 h80 h81
       go_wp2_with fail
       go_roundg (l - (k + 1))
       case measure => omega
       case rel => exact ⟨k + 1, _, _, nc, (nd + lw), (ns + 1), nr, rfl, by rw [HB3'.out], by go_num, by omega, Nat.le_refl _, by omega, by omega, by omega, by omega, ⟨_, _, _, _, _, _, _, HQ.out, HN.out⟩⟩
      exact AllReadyH.nil

     refine AllReadyH.cons (tA rfl) (fun K hK => ?_) ?_
     ·go_simp
      have HE : Hid (O.BS w (wr.drew.alloc (.cells #[.string nm, .int .i64 2, .int .i64 nd] 69)) [⟨5, 1, .slice ac nc xc, nc, cc⟩, ⟨2, 1, .slice ad nd xd, nd, cd⟩, ⟨69, 3, .slice as2 ns xs2, ns, cs⟩, ⟨51, 4, .slice ar nr xr, nr, cr⟩, ⟨3, 1, .slice aa l ca, l, (Z.ats (Z.ops ts)).map iV⟩, ⟨4, 1, .slice al l cl, l, bs.map bV⟩] [(ob, [.string { data := #[] }, (.slice ad nd xd), (.slice as2 ns xs2), (.slice ar nr xr)]), (rb, [.string { data := #[] }, .slice none 0 0, .slice none 0 0, .slice none 0 0])]) := (HBS.out.below (Below.refl _ _).drew).below (bl1 _ _)
      have HNC : Hid (∀ j u, (O.symC ⟨nm, 2, nd⟩)[j]? = some u → (wr.drew.alloc (.cells #[.string nm, .int .i64 2, .int .i64 nd] 69)).cell? ((⟨wr.heap.size, 0, none⟩ : Addr).add j) = some u) := fun j u hu => by
       rw [Addr.add_lit, Nat.zero_add]
       exact cellA rfl (by simpa [O.symC] using hu)
      refine hK.out _ _ ⟨(HIT.out _ HE.out.low).2.1, (HE.out.box 0 _ rfl).1 1 _ rfl⟩ (fun hHeld => ?_)
      clear hK K
      try simp only [Act.put, zA, zB, zC]
      refine tr [1] ?_
      refine AllReadyH.cons (tA rfl) (fun K hK => ?_) ?_
      ·have m3 := ((HBS.out.below (bl1 wr (.cells #[.string nm, .int .i64 2, .int .i64 nd] 69))).box 0 _ rfl).1 2 _ rfl
       go_simp
       refine hK.out _ _ hHeld (fun hHeld => ?_)
       clear hK K m3
       try simp only [Act.put, zA, zB, zC]
       refine tr [12] ?_
       refine AllReadyH.cons (tA rfl) (fun K hK => ?_) AllReadyH.nil
       refine step_append_lies _ (by rfl) _ _ 27 (by rfl) w.heap.size 69 i2 _ 3 32 Tryz.underlying27 hi2 hz20 hz21 hz22 (by rfl) (by decide) (.slice as2 ns xs2) ns cs (by rfl) (HE.out.own 2 _ rfl) ⟨wr.heap.size, 0, none⟩ 1 1 (O.symC ⟨nm, 2, nd⟩) (by rfl) (by rfl) HNC.out symC_one (by decide) (by unfold maxLen; omega) (by omega) HE.out.low.size _ rfl ?_
       intro g cap Y6 ho6 hg6 hat6 hlt6
       have HP0 : Hid (O.BS w Y6 [⟨5, 1, .slice ac nc xc, nc, cc⟩, ⟨2, 1, .slice ad nd xd, nd, cd⟩, ⟨69, 3, (.slice (some ⟨g, 0, none⟩) (ns + 1) cap), (ns + 1), (cs ++ O.symC ⟨nm, 2, nd⟩)⟩, ⟨51, 4, .slice ar nr xr, nr, cr⟩, ⟨3, 1, .slice aa l ca, l, (Z.ats (Z.ops ts)).map iV⟩, ⟨4, 1, .slice al l cl, l, bs.map bV⟩] [(ob, [.string { data := #[] }, (.slice ad nd xd), (.slice as2 ns xs2), (.slice ar nr xr)]), (rb, [.string { data := #[] }, .slice none 0 0, .slice none 0 0, .slice none 0 0])]) := HE.out.push (k := 2) rfl ho6 hg6 (fun g' hg' => by simp [Value.ownBlock] at hg'; subst hg'; rcases hat6 with e | e; exact .inl e; exact .inr (by rw [e]; exact Nat.le_refl _))
       have HP : Hid (O.BS w (Y6.setCell ⟨ob, 2, none⟩ (.slice (some ⟨g, 0, none⟩) (ns + 1) cap)) [⟨5, 1, .slice ac nc xc, nc, cc⟩, ⟨2, 1, .slice ad nd xd, nd, cd⟩, ⟨69, 3, (.slice (some ⟨g, 0, none⟩) (ns + 1) cap), (ns + 1), (cs ++ O.symC ⟨nm, 2, nd⟩)⟩, ⟨51, 4, .slice ar nr xr, nr, cr⟩, ⟨3, 1, .slice aa l ca, l, (Z.ats (Z.ops ts)).map iV⟩, ⟨4, 1, .slice al l cl, l, bs.map bV⟩] [(ob, [.string { data := #[] }, (.slice ad nd xd), (.slice (some ⟨g, 0, none⟩) (ns + 1) cap), (.slice ar nr xr)]), (rb, [.string { data := #[] }, .slice none 0 0, .slice none 0 0, .slice none 0 0])]) := HP0.out.put 0 ob [.string { data := #[] }, (.slice ad nd xd), (.slice as2 ns xs2), (.slice ar nr xr)] rfl 2 (by simp) (.slice (some ⟨g, 0, none⟩) (ns + 1) cap)
       have h60 : Y6.cell? ⟨b, off + k * 7 + 1, none⟩ = some (.string nm) ∧ Y6.cell? ⟨ob, 1, none⟩ = some (.slice ad nd xd) := ⟨(HIT.out Y6 HP0.out.low).2.1, (HP0.out.box 0 _ rfl).1 1 _ rfl⟩
       have h61 : (Y6.setCell ⟨ob, 2, none⟩ (.slice (some ⟨g, 0, none⟩) (ns + 1) cap)).cell? ⟨b, off + k * 7 + 1, none⟩ = some (.string nm) ∧ (Y6.setCell ⟨ob, 2, none⟩ (.slice (some ⟨g, 0, none⟩) (ns + 1) cap)).cell? ⟨ob, 1, none⟩ = some (.slice ad nd xd) := ⟨(HIT.out _ HP.out.low).2.1, (HP.out.box 0 _ rfl).1 1 _ rfl⟩
       have m6 : Y6.cell? ⟨ob, 2, none⟩ = some (.slice as2 ns xs2) := (HP0.out.box 0 _ rfl).1 2 _ rfl
       have z6 : Y6.frozen? ⟨ob, 2, none⟩ = false := (HP0.out.box 0 _ rfl).2.1 2
       refine hK.out _ _ h60 (fun hHeld => ?_)
       clear hK K ho6 hg6 hat6 hlt6
       try simp only [Act.put, zA, zB, zC]
       refine tj 13 ?_
       simp only [Act.put, zA, zB, zC]
       refine tr [14] ?_
       refine AllReadyH.cons (tA rfl) (fun K hK => ?_) AllReadyH.nil
       go_simp
       refine hK.out _ _ h61 (fun hHeld => ?_)
       clear hK K
       try simp only [Act.put, zA, zB, zC]
       refine wpAnyH_done (by kernel_rfl) ?_ _
       clear hHeld
       clear m6 z6 h60 h61 HP0 HE HNC
       obtain ⟨Y7, hY7⟩ : ∃ Y7, Y6.setCell ⟨ob, 2, none⟩ (.slice (some ⟨g, 0, none⟩) (ns + 1) cap) = Y7 := ⟨_, rfl⟩
       rw [hY7] at HP
       try rw [hY7]
       clear hY7
       have w6 := (HIT.out Y7 HP.out.low).2.2.2.2.2.2
       go_wp2_with fail
       refine wp_region_held_drew (S := (fun w' : World => w'.cell? ⟨b, off + k * 7 + 6, none⟩ = some (.slice aw lw cw))) (by kernel_rfl) (by rw [World.cell?_drew]; exact w6) (fun hHeld => ?_)
       refine tj 0 ?_
       simp only [Act.put, zA, zB, zC]
       refine tj 2 ?_
       simp only [Act.put, zA, zB, zC]
       refine tj 3 ?_
       simp only [Act.put, zA, zB, zC]
       refine tj 4 ?_
       simp only [Act.put, zA, zB, zC]
       refine tj 5 ?_
       simp only [Act.put, zA, zB, zC]
       refine tj 6 ?_
       simp only [Act.put, zA, zB, zC]
       refine tr [1] ?_
       refine AllReadyH.cons (tA rfl) (fun K hK => ?_) AllReadyH.nil
       have m3 := ((HP.out.below (Below.refl _ _).drew).box 0 _ rfl).1 1 _ rfl
       go_simp
       refine hK.out _ _ hHeld (fun hHeld => ?_)
       clear hK K m3
       try simp only [Act.put, zA, zB, zC]
       refine tr [7] ?_
       refine AllReadyH.cons (tA rfl) (fun K hK => ?_) AllReadyH.nil
       have hsrc := IntsV.src' (HIV.out Y7.drew (HP.out.below (Below.refl _ _).drew).low) hl1
       obtain ⟨adw, hadw⟩ : ∃ x, aw = some x := by
        cases aw with
        | none => have := (hsrc.1 rfl).1; omega
        | some x => exact ⟨x, rfl⟩
       subst hadw
       refine step_append_lies _ (by rfl) _ _ 26 (by rfl) w.heap.size 2 i1 _ 1 8 Tryz.underlying26 hi1 hz10 hz11 hz12 (by rfl) (by decide) (.slice ad nd xd) nd cd (by rfl) ((HP.out.below (Below.refl _ _).drew).own 1 _ rfl) adw lw cw (iC t.words) (by rfl) hsrc.2.1 (hsrc.2.2.1 adw rfl) hsrc.2.2.2 (by omega) (by unfold maxLen; omega) (by omega) (HP.out.below (Below.refl _ _).drew).low.size _ rfl ?_
       intro g2 cap2 Y8 ho8 hg8 hat8 hlt8
       have HQ0 : Hid (O.BS w Y8 [⟨5, 1, .slice ac nc xc, nc, cc⟩, ⟨2, 1, (.slice (some ⟨g2, 0, none⟩) (nd + lw) cap2), (nd + lw), (cd ++ iC t.words)⟩, ⟨69, 3, (.slice (some ⟨g, 0, none⟩) (ns + 1) cap), (ns + 1), (cs ++ O.symC ⟨nm, 2, nd⟩)⟩, ⟨51, 4, .slice ar nr xr, nr, cr⟩, ⟨3, 1, .slice aa l ca, l, (Z.ats (Z.ops ts)).map iV⟩, ⟨4, 1, .slice al l cl, l, bs.map bV⟩] [(ob, [.string { data := #[] }, (.slice ad nd xd), (.slice (some ⟨g, 0, none⟩) (ns + 1) cap), (.slice ar nr xr)]), (rb, [.string { data := #[] }, .slice none 0 0, .slice none 0 0, .slice none 0 0])]) := (HP.out.below (Below.refl _ _).drew).push (k := 1) rfl ho8 hg8 (fun g' hg' => by simp [Value.ownBlock] at hg'; subst hg'; rcases hat8 with e | e; exact .inl e; exact .inr (by rw [e]; exact Nat.le_refl _))
       have HQ : Hid _ := HQ0.out.put 0 ob [.string { data := #[] }, (.slice ad nd xd), (.slice (some ⟨g, 0, none⟩) (ns + 1) cap), (.slice ar nr xr)] rfl 1 (by simp) (.slice (some ⟨g2, 0, none⟩) (nd + lw) cap2)
       have h80 : Y8.cell? ⟨b, off + k * 7 + 6, none⟩ = some (.slice (some adw) lw cw) := (HIT.out Y8 HQ0.out.low).2.2.2.2.2.2
       have h81 : (Y8.setCell ⟨ob, 1, none⟩ (.slice (some ⟨g2, 0, none⟩) (nd + lw) cap2)).cell? ⟨b, off + k * 7 + 6, none⟩ = some (.slice (some adw) lw cw) := (HIT.out _ HQ.out.low).2.2.2.2.2.2
       have m8 : Y8.cell? ⟨ob, 1, none⟩ = some (.slice ad nd xd) := (HQ0.out.box 0 _ rfl).1 1 _ rfl
       have z8 : Y8.frozen? ⟨ob, 1, none⟩ = false := (HQ0.out.box 0 _ rfl).2.1 1
       refine hK.out _ _ h80 (fun hHeld => ?_)
       clear hK K ho8 hg8 hat8 hlt8 hsrc
       try simp only [Act.put, zA, zB, zC]
       refine tj 8 ?_
       simp only [Act.put, zA, zB, zC]
       refine tr [9] ?_
       refine AllReadyH.cons (tA rfl) (fun K hK => ?_) AllReadyH.nil
       go_simp
       refine hK.out _ _ h81 (fun hHeld => ?_)
       clear hK K
       try simp only [Act.put, zA, zB, zC]
       refine wpAnyH_done (by kernel_rfl) ?_ _
       clear hHeld
       clear m8 z8 h80 h81
       go_wp2_with fail
       go_roundg (l - (k + 1))
       case measure => omega
       case rel => exact ⟨k + 1, _, _, nc, (nd + lw), (ns + 1), nr, rfl, by rw [HB3'.out], by go_num, by omega, Nat.le_refl _, by omega, by omega, by omega, by omega, ⟨_, _, _, _, _, _, _, HQ.out, HN.out⟩⟩
      exact AllReadyH.nil

     exact AllReadyH.nil
    by_cases k4 : t.kind = 4
    ·have e2 : (t.kind == 2) = false := by simpa using k2
     have e3 : (t.kind == 3) = false := by simpa using k3
     have e4 : (t.kind == 4) = true := by simpa using k4
     have e5 : (t.kind == 5) = false := by rw [k4]; rfl
     have hsho : Z.shown t = true := by unfold Z.shown; rw [k4]; rfl
     rw [hsho, Bool.true_and] at HBH
     obtain ⟨q, hq⟩ : ∃ q, Z.labN ts t.name = q := ⟨_, rfl⟩
     have hql : q < l := by rw [← hq, ← HCT.out]; exact Z.labN_lt _ (by rw [HCT.out]; omega)
     obtain ⟨zq, hzq⟩ : ∃ zq, (Z.ats (Z.ops ts)).getD q 0 = zq := ⟨_, rfl⟩
     have HPL : Hid (Z.placeOf ts (Z.ops ts) t.name = zq) := by show _ = _; unfold Z.placeOf; rw [hq, hzq]
     have HN : Hid (OI (Z.objTo ts (Z.ops ts) (k + 1)) nc cc nd cd (ns + 1) (cs ++ O.symC ⟨nm, 1, zq⟩) nr cr) := by
      show OI _ _ _ _ _ _ _ _ _
      rw [HST.out]
      unfold Z.stepO
      rw [HGD.out, if_neg k2, if_neg k3, if_pos k4, HPL.out, HNM.out]
      exact ⟨HOI.out.fc, HOI.out.fd, ⟨by rw [HOI.out.fs.1]; simp, by rw [HOI.out.fs.2]; simp⟩, HOI.out.fr⟩
     have hlb := HLB.out wr HBS.out.low
     rw [hq] at hlb
     obtain ⟨isq, hisq⟩ : ∃ x, (Z.lab ts t.name).isSome = x := ⟨_, rfl⟩
     rw [hisq] at hlb
     obtain ⟨ga, rfl, -, -, -, -⟩ := row_some (HBS.out.own 4 _ rfl) (by omega : 0 < l)
     have HCQ2 : Hid (∀ y rr bx, O.BS w y rr bx → rr[4]? = some ⟨3, 1, .slice (some ⟨ga, 0, none⟩) l ca, l, (Z.ats (Z.ops ts)).map iV⟩ → y.cell? ⟨ga, q, none⟩ = some (.int .i64 zq)) := fun y rr bx hy h4 => by
      have := row_int (hy.own 4 _ h4) hql
      rwa [hzq] at this
     have hqi : (q : Int) < l := by omega
     have hq0 : 0 ≤ (q : Int) := by omega
     clear k2 k3 k4 hsho hq hisq
     go_wp2_with fail
     refine hlb.mono ?_
     rintro e y1 ⟨rfl, hb1⟩
     have HD1 : Hid (O.BS w y1 [⟨5, 1, .slice ac nc xc, nc, cc⟩, ⟨2, 1, .slice ad nd xd, nd, cd⟩, ⟨69, 3, .slice as2 ns xs2, ns, cs⟩, ⟨51, 4, .slice ar nr xr, nr, cr⟩, ⟨3, 1, .slice (some ⟨ga, 0, none⟩) l ca, l, (Z.ats (Z.ops ts)).map iV⟩, ⟨4, 1, .slice al l cl, l, bs.map bV⟩] [(ob, [.string { data := #[] }, (.slice ad nd xd), (.slice as2 ns xs2), (.slice ar nr xr)]), (rb, [.string { data := #[] }, .slice none 0 0, .slice none 0 0, .slice none 0 0])]) := HBS.out.below hb1
     clear hb1 hlb c0 c1 c2 c3 c4 c5 c6
     obtain ⟨g0, g1, -, -, -, -, -⟩ := HIT.out y1 HD1.out.low
     have gq := HCQ2.out y1 _ _ HD1.out rfl
     obtain ⟨sb, hsb⟩ : ∃ sb, y1.heap.size = sb := ⟨_, rfl⟩
     obtain ⟨Y3, hY3⟩ : ∃ Y3, (y1.alloc (.cells #[.string nm, .int .i64 1, .int .i64 zq] 69)).drew = Y3 := ⟨_, rfl⟩
     have HE2 : Hid (O.BS w Y3 [⟨5, 1, .slice ac nc xc, nc, cc⟩, ⟨2, 1, .slice ad nd xd, nd, cd⟩, ⟨69, 3, .slice as2 ns xs2, ns, cs⟩, ⟨51, 4, .slice ar nr xr, nr, cr⟩, ⟨3, 1, .slice (some ⟨ga, 0, none⟩) l ca, l, (Z.ats (Z.ops ts)).map iV⟩, ⟨4, 1, .slice al l cl, l, bs.map bV⟩] [(sb, [.string nm, .int .i64 1, .int .i64 zq]), (ob, [.string { data := #[] }, (.slice ad nd xd), (.slice as2 ns xs2), (.slice ar nr xr)]), (rb, [.string { data := #[] }, .slice none 0 0, .slice none 0 0, .slice none 0 0])]) := by
      have h0 := HD1.out.alloc #[.string nm, .int .i64 1, .int .i64 zq] 69
      have this := h0.below (Below.refl _ _).drew
      rw [hY3, hsb] at this
      exact this
     go_upto_region 25 with fail
     refine wp_region_held_drew (S := (fun w' : World => w'.cell? ⟨b, off + k * 7 + 1, none⟩ = some (.string nm) ∧ w'.cell? ⟨ga, q, none⟩ = some (.int .i64 zq))) (by kernel_rfl) ⟨by rw [World.cell?_drew]; exact g1, by rw [World.cell?_drew]; exact gq⟩ (fun hHeld => ?_)
     refine tj 0 ?_
     simp only [Act.put, zA, zB, zC]
     refine tj 1 ?_
     simp only [Act.put, zA, zB, zC]
     refine tj 2 ?_
     simp only [Act.put, zA, zB, zC]
     refine tj 3 ?_
     simp only [Act.put, zA, zB, zC]
     refine tj 4 ?_
     simp only [Act.put, zA, zB, zC]
     refine tj 5 ?_
     simp only [Act.put, zA, zB, zC]
     refine tj 6 ?_
     simp only [Act.put, zA, zB, zC]
     refine tj 7 ?_
     simp only [Act.put, zA, zB, zC]
     refine tj 8 ?_
     simp only [Act.put, zA, zB, zC]
     refine tj 9 ?_
     simp only [Act.put, zA, zB, zC]
     refine tr [10] ?_
     refine AllReadyH.cons (tA rfl) (fun K hK => ?_) AllReadyH.nil
     go_simp
     refine hK.out _ _ ⟨cell_thru (bl1 _ _) hHeld.1, cell_thru (bl1 _ _) hHeld.2⟩ (fun hHeld => ?_)
     clear hK K
     try simp only [Act.put, zA, zB, zC]
     refine tr [11] ?_
     refine AllReadyH.cons (tA rfl) (fun K hK => ?_) AllReadyH.nil
     go_simp
     try rw [hY3]
     refine hK.out _ _ ⟨(HIT.out _ HE2.out.low).2.1, HCQ2.out _ _ _ HE2.out rfl⟩ (fun hHeld => ?_)
     clear hK K
     try simp only [Act.put, zA, zB, zC]
     refine wpAnyH_done (by kernel_rfl) ?_ _
     clear hHeld
     try rw [hY3]
     try rw [hsb]
     clear hY3 hsb g0 g1 gq
     cases hbk : Z.behind ts k with
     | true =>
      rw [hbk] at HBH
      obtain ⟨k0, k1, -, -, -, -, -⟩ := HIT.out Y3 HE2.out.low
      have sc0 : Y3.cell? ⟨sb, 0, none⟩ = some (.string nm) := (HE2.out.box 0 _ rfl).1 0 _ rfl
      have sc1 : Y3.cell? ⟨sb, 1, none⟩ = some (.int .i64 1) := (HE2.out.box 0 _ rfl).1 1 _ rfl
      have sc2 : Y3.cell? ⟨sb, 2, none⟩ = some (.int .i64 zq) := (HE2.out.box 0 _ rfl).1 2 _ rfl
      have so2 : Y3.cell? ⟨ob, 2, none⟩ = some (.slice as2 ns xs2) := (HE2.out.box 1 _ rfl).1 2 _ rfl
      obtain ⟨Y4, hY4⟩ : ∃ Y4, Y3.alloc (.cells #[.string nm, .int .i64 1, .int .i64 zq] 69) = Y4 := ⟨_, rfl⟩
      have HF : Hid (O.BS w Y4 [⟨5, 1, .slice ac nc xc, nc, cc⟩, ⟨2, 1, .slice ad nd xd, nd, cd⟩, ⟨69, 3, .slice as2 ns xs2, ns, cs⟩, ⟨51, 4, .slice ar nr xr, nr, cr⟩, ⟨3, 1, .slice (some ⟨ga, 0, none⟩) l ca, l, (Z.ats (Z.ops ts)).map iV⟩, ⟨4, 1, .slice al l cl, l, bs.map bV⟩] [(sb, [.string nm, .int .i64 1, .int .i64 zq]), (ob, [.string { data := #[] }, (.slice ad nd xd), (.slice as2 ns xs2), (.slice ar nr xr)]), (rb, [.string { data := #[] }, .slice none 0 0, .slice none 0 0, .slice none 0 0])]) := by subst hY4; exact HE2.out.below (bl1 _ _)
      have HNC : Hid (∀ j u, (O.symC ⟨nm, 1, zq⟩)[j]? = some u → Y4.cell? ((⟨Y3.heap.size, 0, none⟩ : Addr).add j) = some u) := fun j u hu => by
       subst hY4
       rw [Addr.add_lit, Nat.zero_add]
       exact cellA rfl (by simpa [O.symC] using hu)
      have HYS : Hid (Y3.heap.size = Y3.heap.size) := by show _ = _; simp
      go_wp2_with (first | (at_builtin; refine wpList_append_lies _ rfl _ _ 27 rfl w.heap.size 69 i2 _ 3 32 Tryz.underlying27 hi2 hz20 hz21 hz22 rfl (by decide) (.slice as2 ns xs2) ns cs rfl (HF.out.own 2 _ rfl) ⟨Y3.heap.size, 0, none⟩ 1 1 (O.symC ⟨nm, 1, zq⟩) rfl rfl (by rw [← HYS.out]; exact HNC.out) symC_one (by decide) (by unfold maxLen; omega) (by omega) HF.out.low.size Y4.heap.size rfl ?_; intro g cap Y6 ho6 hg6 hat6 hlt6; have HP0 : Hid (O.BS w Y6 [⟨5, 1, .slice ac nc xc, nc, cc⟩, ⟨2, 1, .slice ad nd xd, nd, cd⟩, ⟨69, 3, (.slice (some ⟨g, 0, none⟩) (ns + 1) cap), (ns + 1), (cs ++ O.symC ⟨nm, 1, zq⟩)⟩, ⟨51, 4, .slice ar nr xr, nr, cr⟩, ⟨3, 1, .slice (some ⟨ga, 0, none⟩) l ca, l, (Z.ats (Z.ops ts)).map iV⟩, ⟨4, 1, .slice al l cl, l, bs.map bV⟩] [(sb, [.string nm, .int .i64 1, .int .i64 zq]), (ob, [.string { data := #[] }, (.slice ad nd xd), (.slice as2 ns xs2), (.slice ar nr xr)]), (rb, [.string { data := #[] }, .slice none 0 0, .slice none 0 0, .slice none 0 0])]) := HF.out.push (k := 2) rfl ho6 hg6 (fun g' hg' => by simp [Value.ownBlock] at hg'; subst hg'; rcases hat6 with e | e; exact .inl e; exact .inr (by rw [e]; exact Nat.le_refl _)); have m6 : Y6.cell? ⟨ob, 2, none⟩ = some (.slice as2 ns xs2) := (HP0.out.box 1 _ rfl).1 2 _ rfl; have z6 : Y6.frozen? ⟨ob, 2, none⟩ = false := (HP0.out.box 1 _ rfl).2.1 2; have HP : Hid (O.BS w (Y6.setCell ⟨ob, 2, none⟩ (.slice (some ⟨g, 0, none⟩) (ns + 1) cap)) [⟨5, 1, .slice ac nc xc, nc, cc⟩, ⟨2, 1, .slice ad nd xd, nd, cd⟩, ⟨69, 3, (.slice (some ⟨g, 0, none⟩) (ns + 1) cap), (ns + 1), (cs ++ O.symC ⟨nm, 1, zq⟩)⟩, ⟨51, 4, .slice ar nr xr, nr, cr⟩, ⟨3, 1, .slice (some ⟨ga, 0, none⟩) l ca, l, (Z.ats (Z.ops ts)).map iV⟩, ⟨4, 1, .slice al l cl, l, bs.map bV⟩] [(sb, [.string nm, .int .i64 1, .int .i64 zq]), (ob, [.string { data := #[] }, (.slice ad nd xd), (.slice (some ⟨g, 0, none⟩) (ns + 1) cap), (.slice ar nr xr)]), (rb, [.string { data := #[] }, .slice none 0 0, .slice none 0 0, .slice none 0 0])]) := HP0.out.put 1 ob [.string { data := #[] }, (.slice ad nd xd), (.slice as2 ns xs2), (.slice ar nr xr)] rfl 2 (by simp) (.slice (some ⟨g, 0, none⟩) (ns + 1) cap); have n8 := HCQ2.out _ _ _ HP.out rfl; clear ho6 hg6 hat6 hlt6) | fail)
      go_roundg (l - (k + 1))
      case measure => omega
      case rel => exact ⟨k + 1, _, _, nc, nd, (ns + 1), nr, rfl, by rw [HBH.out]; rfl, by go_num, by omega, Nat.le_refl _, by omega, by omega, by omega, by omega, ⟨_, _, _, _, _, _, _, HP.out.drop, HN.out⟩⟩
     | false =>
      rw [hbk] at HBH
      by_cases hzt : zq = tt
      ·have hzt2 : (zq == tt) = true := by simpa using hzt
       have HB3' : Hid (Z.behind ts (k + 1) = true) := by show _ = _; rw [HBH.out, HPL.out, decide_eq_true hzt]; rfl
       clear hzt HBH
       obtain ⟨k0, k1, -, -, -, -, -⟩ := HIT.out Y3 HE2.out.low
       have sc0 : Y3.cell? ⟨sb, 0, none⟩ = some (.string nm) := (HE2.out.box 0 _ rfl).1 0 _ rfl
       have sc1 : Y3.cell? ⟨sb, 1, none⟩ = some (.int .i64 1) := (HE2.out.box 0 _ rfl).1 1 _ rfl
       have sc2 : Y3.cell? ⟨sb, 2, none⟩ = some (.int .i64 zq) := (HE2.out.box 0 _ rfl).1 2 _ rfl
       have so2 : Y3.cell? ⟨ob, 2, none⟩ = some (.slice as2 ns xs2) := (HE2.out.box 1 _ rfl).1 2 _ rfl
       obtain ⟨Y4, hY4⟩ : ∃ Y4, Y3.alloc (.cells #[.string nm, .int .i64 1, .int .i64 zq] 69) = Y4 := ⟨_, rfl⟩
       have HF : Hid (O.BS w Y4 [⟨5, 1, .slice ac nc xc, nc, cc⟩, ⟨2, 1, .slice ad nd xd, nd, cd⟩, ⟨69, 3, .slice as2 ns xs2, ns, cs⟩, ⟨51, 4, .slice ar nr xr, nr, cr⟩, ⟨3, 1, .slice (some ⟨ga, 0, none⟩) l ca, l, (Z.ats (Z.ops ts)).map iV⟩, ⟨4, 1, .slice al l cl, l, bs.map bV⟩] [(sb, [.string nm, .int .i64 1, .int .i64 zq]), (ob, [.string { data := #[] }, (.slice ad nd xd), (.slice as2 ns xs2), (.slice ar nr xr)]), (rb, [.string { data := #[] }, .slice none 0 0, .slice none 0 0, .slice none 0 0])]) := by subst hY4; exact HE2.out.below (bl1 _ _)
       have HNC : Hid (∀ j u, (O.symC ⟨nm, 1, zq⟩)[j]? = some u → Y4.cell? ((⟨Y3.heap.size, 0, none⟩ : Addr).add j) = some u) := fun j u hu => by
        subst hY4
        rw [Addr.add_lit, Nat.zero_add]
        exact cellA rfl (by simpa [O.symC] using hu)
       have HYS : Hid (Y3.heap.size = Y3.heap.size) := by show _ = _; simp
       go_wp2_with (first | (at_builtin; refine wpList_append_lies _ rfl _ _ 27 rfl w.heap.size 69 i2 _ 3 32 Tryz.underlying27 hi2 hz20 hz21 hz22 rfl (by decide) (.slice as2 ns xs2) ns cs rfl (HF.out.own 2 _ rfl) ⟨Y3.heap.size, 0, none⟩ 1 1 (O.symC ⟨nm, 1, zq⟩) rfl rfl (by rw [← HYS.out]; exact HNC.out) symC_one (by decide) (by unfold maxLen; omega) (by omega) HF.out.low.size Y4.heap.size rfl ?_; intro g cap Y6 ho6 hg6 hat6 hlt6; have HP0 : Hid (O.BS w Y6 [⟨5, 1, .slice ac nc xc, nc, cc⟩, ⟨2, 1, .slice ad nd xd, nd, cd⟩, ⟨69, 3, (.slice (some ⟨g, 0, none⟩) (ns + 1) cap), (ns + 1), (cs ++ O.symC ⟨nm, 1, zq⟩)⟩, ⟨51, 4, .slice ar nr xr, nr, cr⟩, ⟨3, 1, .slice (some ⟨ga, 0, none⟩) l ca, l, (Z.ats (Z.ops ts)).map iV⟩, ⟨4, 1, .slice al l cl, l, bs.map bV⟩] [(sb, [.string nm, .int .i64 1, .int .i64 zq]), (ob, [.string { data := #[] }, (.slice ad nd xd), (.slice as2 ns xs2), (.slice ar nr xr)]), (rb, [.string { data := #[] }, .slice none 0 0, .slice none 0 0, .slice none 0 0])]) := HF.out.push (k := 2) rfl ho6 hg6 (fun g' hg' => by simp [Value.ownBlock] at hg'; subst hg'; rcases hat6 with e | e; exact .inl e; exact .inr (by rw [e]; exact Nat.le_refl _)); have m6 : Y6.cell? ⟨ob, 2, none⟩ = some (.slice as2 ns xs2) := (HP0.out.box 1 _ rfl).1 2 _ rfl; have z6 : Y6.frozen? ⟨ob, 2, none⟩ = false := (HP0.out.box 1 _ rfl).2.1 2; have HP : Hid (O.BS w (Y6.setCell ⟨ob, 2, none⟩ (.slice (some ⟨g, 0, none⟩) (ns + 1) cap)) [⟨5, 1, .slice ac nc xc, nc, cc⟩, ⟨2, 1, .slice ad nd xd, nd, cd⟩, ⟨69, 3, (.slice (some ⟨g, 0, none⟩) (ns + 1) cap), (ns + 1), (cs ++ O.symC ⟨nm, 1, zq⟩)⟩, ⟨51, 4, .slice ar nr xr, nr, cr⟩, ⟨3, 1, .slice (some ⟨ga, 0, none⟩) l ca, l, (Z.ats (Z.ops ts)).map iV⟩, ⟨4, 1, .slice al l cl, l, bs.map bV⟩] [(sb, [.string nm, .int .i64 1, .int .i64 zq]), (ob, [.string { data := #[] }, (.slice ad nd xd), (.slice (some ⟨g, 0, none⟩) (ns + 1) cap), (.slice ar nr xr)]), (rb, [.string { data := #[] }, .slice none 0 0, .slice none 0 0, .slice none 0 0])]) := HP0.out.put 1 ob [.string { data := #[] }, (.slice ad nd xd), (.slice as2 ns xs2), (.slice ar nr xr)] rfl 2 (by simp) (.slice (some ⟨g, 0, none⟩) (ns + 1) cap); have n8 := HCQ2.out _ _ _ HP.out rfl; clear ho6 hg6 hat6 hlt6) | fail)
       go_roundg (l - (k + 1))
       case measure => omega
       case rel => exact ⟨k + 1, _, _, nc, nd, (ns + 1), nr, rfl, by rw [HB3'.out], by go_num, by omega, Nat.le_refl _, by omega, by omega, by omega, by omega, ⟨_, _, _, _, _, _, _, HP.out.drop, HN.out⟩⟩
      ·have hzt2 : (zq == tt) = false := by simpa using hzt
       have HB3' : Hid (Z.behind ts (k + 1) = false) := by show _ = _; rw [HBH.out, HPL.out, decide_eq_false hzt]; rfl
       clear hzt HBH
       obtain ⟨k0, k1, -, -, -, -, -⟩ := HIT.out Y3 HE2.out.low
       have sc0 : Y3.cell? ⟨sb, 0, none⟩ = some (.string nm) := (HE2.out.box 0 _ rfl).1 0 _ rfl
       have sc1 : Y3.cell? ⟨sb, 1, none⟩ = some (.int .i64 1) := (HE2.out.box 0 _ rfl).1 1 _ rfl
       have sc2 : Y3.cell? ⟨sb, 2, none⟩ = some (.int .i64 zq) := (HE2.out.box 0 _ rfl).1 2 _ rfl
       have so2 : Y3.cell? ⟨ob, 2, none⟩ = some (.slice as2 ns xs2) := (HE2.out.box 1 _ rfl).1 2 _ rfl
       obtain ⟨Y4, hY4⟩ : ∃ Y4, Y3.alloc (.cells #[.string nm, .int .i64 1, .int .i64 zq] 69) = Y4 := ⟨_, rfl⟩
       have HF : Hid (O.BS w Y4 [⟨5, 1, .slice ac nc xc, nc, cc⟩, ⟨2, 1, .slice ad nd xd, nd, cd⟩, ⟨69, 3, .slice as2 ns xs2, ns, cs⟩, ⟨51, 4, .slice ar nr xr, nr, cr⟩, ⟨3, 1, .slice (some ⟨ga, 0, none⟩) l ca, l, (Z.ats (Z.ops ts)).map iV⟩, ⟨4, 1, .slice al l cl, l, bs.map bV⟩] [(sb, [.string nm, .int .i64 1, .int .i64 zq]), (ob, [.string { data := #[] }, (.slice ad nd xd), (.slice as2 ns xs2), (.slice ar nr xr)]), (rb, [.string { data := #[] }, .slice none 0 0, .slice none 0 0, .slice none 0 0])]) := by subst hY4; exact HE2.out.below (bl1 _ _)
       have HNC : Hid (∀ j u, (O.symC ⟨nm, 1, zq⟩)[j]? = some u → Y4.cell? ((⟨Y3.heap.size, 0, none⟩ : Addr).add j) = some u) := fun j u hu => by
        subst hY4
        rw [Addr.add_lit, Nat.zero_add]
        exact cellA rfl (by simpa [O.symC] using hu)
       have HYS : Hid (Y3.heap.size = Y3.heap.size) := by show _ = _; simp
       go_wp2_with (first | (at_builtin; refine wpList_append_lies _ rfl _ _ 27 rfl w.heap.size 69 i2 _ 3 32 Tryz.underlying27 hi2 hz20 hz21 hz22 rfl (by decide) (.slice as2 ns xs2) ns cs rfl (HF.out.own 2 _ rfl) ⟨Y3.heap.size, 0, none⟩ 1 1 (O.symC ⟨nm, 1, zq⟩) rfl rfl (by rw [← HYS.out]; exact HNC.out) symC_one (by decide) (by unfold maxLen; omega) (by omega) HF.out.low.size Y4.heap.size rfl ?_; intro g cap Y6 ho6 hg6 hat6 hlt6; have HP0 : Hid (O.BS w Y6 [⟨5, 1, .slice ac nc xc, nc, cc⟩, ⟨2, 1, .slice ad nd xd, nd, cd⟩, ⟨69, 3, (.slice (some ⟨g, 0, none⟩) (ns + 1) cap), (ns + 1), (cs ++ O.symC ⟨nm, 1, zq⟩)⟩, ⟨51, 4, .slice ar nr xr, nr, cr⟩, ⟨3, 1, .slice (some ⟨ga, 0, none⟩) l ca, l, (Z.ats (Z.ops ts)).map iV⟩, ⟨4, 1, .slice al l cl, l, bs.map bV⟩] [(sb, [.string nm, .int .i64 1, .int .i64 zq]), (ob, [.string { data := #[] }, (.slice ad nd xd), (.slice as2 ns xs2), (.slice ar nr xr)]), (rb, [.string { data := #[] }, .slice none 0 0, .slice none 0 0, .slice none 0 0])]) := HF.out.push (k := 2) rfl ho6 hg6 (fun g' hg' => by simp [Value.ownBlock] at hg'; subst hg'; rcases hat6 with e | e; exact .inl e; exact .inr (by rw [e]; exact Nat.le_refl _)); have m6 : Y6.cell? ⟨ob, 2, none⟩ = some (.slice as2 ns xs2) := (HP0.out.box 1 _ rfl).1 2 _ rfl; have z6 : Y6.frozen? ⟨ob, 2, none⟩ = false := (HP0.out.box 1 _ rfl).2.1 2; have HP : Hid (O.BS w (Y6.setCell ⟨ob, 2, none⟩ (.slice (some ⟨g, 0, none⟩) (ns + 1) cap)) [⟨5, 1, .slice ac nc xc, nc, cc⟩, ⟨2, 1, .slice ad nd xd, nd, cd⟩, ⟨69, 3, (.slice (some ⟨g, 0, none⟩) (ns + 1) cap), (ns + 1), (cs ++ O.symC ⟨nm, 1, zq⟩)⟩, ⟨51, 4, .slice ar nr xr, nr, cr⟩, ⟨3, 1, .slice (some ⟨ga, 0, none⟩) l ca, l, (Z.ats (Z.ops ts)).map iV⟩, ⟨4, 1, .slice al l cl, l, bs.map bV⟩] [(sb, [.string nm, .int .i64 1, .int .i64 zq]), (ob, [.string { data := #[] }, (.slice ad nd xd), (.slice (some ⟨g, 0, none⟩) (ns + 1) cap), (.slice ar nr xr)]), (rb, [.string { data := #[] }, .slice none 0 0, .slice none 0 0, .slice none 0 0])]) := HP0.out.put 1 ob [.string { data := #[] }, (.slice ad nd xd), (.slice as2 ns xs2), (.slice ar nr xr)] rfl 2 (by simp) (.slice (some ⟨g, 0, none⟩) (ns + 1) cap); have n8 := HCQ2.out _ _ _ HP.out rfl; clear ho6 hg6 hat6 hlt6) | fail)
       go_roundg (l - (k + 1))
       case measure => omega
       case rel => exact ⟨k + 1, _, _, nc, nd, (ns + 1), nr, rfl, by rw [HB3'.out], by go_num, by omega, Nat.le_refl _, by omega, by omega, by omega, by omega, ⟨_, _, _, _, _, _, _, HP.out.drop, HN.out⟩⟩
    by_cases k5 : t.kind = 5
    ·have e2 : (t.kind == 2) = false := by simpa using k2
     have e3 : (t.kind == 3) = false := by simpa using k3
     have e4 : (t.kind == 4) = false := by simpa using k4
     have e5 : (t.kind == 5) = true := by simpa using k5
     have hsho : Z.shown t = true := by unfold Z.shown; rw [k5]; rfl
     rw [hsho, Bool.true_and] at HBH
     obtain ⟨q, hq⟩ : ∃ q, Z.labN ts t.name = q := ⟨_, rfl⟩
     have hql : q < l := by rw [← hq, ← HCT.out]; exact Z.labN_lt _ (by rw [HCT.out]; omega)
     obtain ⟨zq, hzq⟩ : ∃ zq, (Z.ats (Z.ops ts)).getD q 0 = zq := ⟨_, rfl⟩
     have HPL : Hid (Z.placeOf ts (Z.ops ts) t.name = zq) := by show _ = _; unfold Z.placeOf; rw [hq, hzq]
     have HN : Hid (OI (Z.objTo ts (Z.ops ts) (k + 1)) nc cc nd cd (ns + 1) (cs ++ O.symC ⟨nm, 3, zq⟩) nr cr) := by
      show OI _ _ _ _ _ _ _ _ _
      rw [HST.out]
      unfold Z.stepO
      rw [HGD.out, if_neg k2, if_neg k3, if_neg k4, if_pos k5, HPL.out, HNM.out]
      exact ⟨HOI.out.fc, HOI.out.fd, ⟨by rw [HOI.out.fs.1]; simp, by rw [HOI.out.fs.2]; simp⟩, HOI.out.fr⟩
     have hlb := HLB.out wr HBS.out.low
     rw [hq] at hlb
     obtain ⟨isq, hisq⟩ : ∃ x, (Z.lab ts t.name).isSome = x := ⟨_, rfl⟩
     rw [hisq] at hlb
     obtain ⟨ga, rfl, -, -, -, -⟩ := row_some (HBS.out.own 4 _ rfl) (by omega : 0 < l)
     have HCQ2 : Hid (∀ y rr bx, O.BS w y rr bx → rr[4]? = some ⟨3, 1, .slice (some ⟨ga, 0, none⟩) l ca, l, (Z.ats (Z.ops ts)).map iV⟩ → y.cell? ⟨ga, q, none⟩ = some (.int .i64 zq)) := fun y rr bx hy h4 => by
      have := row_int (hy.own 4 _ h4) hql
      rwa [hzq] at this
     have hqi : (q : Int) < l := by omega
     have hq0 : 0 ≤ (q : Int) := by omega
     clear k2 k3 k4 k5 hsho hq hisq
     go_wp2_with fail
     refine hlb.mono ?_
     rintro e y1 ⟨rfl, hb1⟩
     have HD1 : Hid (O.BS w y1 [⟨5, 1, .slice ac nc xc, nc, cc⟩, ⟨2, 1, .slice ad nd xd, nd, cd⟩, ⟨69, 3, .slice as2 ns xs2, ns, cs⟩, ⟨51, 4, .slice ar nr xr, nr, cr⟩, ⟨3, 1, .slice (some ⟨ga, 0, none⟩) l ca, l, (Z.ats (Z.ops ts)).map iV⟩, ⟨4, 1, .slice al l cl, l, bs.map bV⟩] [(ob, [.string { data := #[] }, (.slice ad nd xd), (.slice as2 ns xs2), (.slice ar nr xr)]), (rb, [.string { data := #[] }, .slice none 0 0, .slice none 0 0, .slice none 0 0])]) := HBS.out.below hb1
     clear hb1 hlb c0 c1 c2 c3 c4 c5 c6
     obtain ⟨g0, g1, -, -, -, -, -⟩ := HIT.out y1 HD1.out.low
     have gq := HCQ2.out y1 _ _ HD1.out rfl
     obtain ⟨sb, hsb⟩ : ∃ sb, y1.heap.size = sb := ⟨_, rfl⟩
     obtain ⟨Y3, hY3⟩ : ∃ Y3, (y1.alloc (.cells #[.string nm, .int .i64 1, .int .i64 zq] 69)).drew = Y3 := ⟨_, rfl⟩
     have HE2 : Hid (O.BS w Y3 [⟨5, 1, .slice ac nc xc, nc, cc⟩, ⟨2, 1, .slice ad nd xd, nd, cd⟩, ⟨69, 3, .slice as2 ns xs2, ns, cs⟩, ⟨51, 4, .slice ar nr xr, nr, cr⟩, ⟨3, 1, .slice (some ⟨ga, 0, none⟩) l ca, l, (Z.ats (Z.ops ts)).map iV⟩, ⟨4, 1, .slice al l cl, l, bs.map bV⟩] [(sb, [.string nm, .int .i64 1, .int .i64 zq]), (ob, [.string { data := #[] }, (.slice ad nd xd), (.slice as2 ns xs2), (.slice ar nr xr)]), (rb, [.string { data := #[] }, .slice none 0 0, .slice none 0 0, .slice none 0 0])]) := by
      have h0 := HD1.out.alloc #[.string nm, .int .i64 1, .int .i64 zq] 69
      have this := h0.below (Below.refl _ _).drew
      rw [hY3, hsb] at this
      exact this
     go_upto_region 25 with fail
     refine wp_region_held_drew (S := (fun w' : World => w'.cell? ⟨b, off + k * 7 + 1, none⟩ = some (.string nm) ∧ w'.cell? ⟨ga, q, none⟩ = some (.int .i64 zq))) (by kernel_rfl) ⟨by rw [World.cell?_drew]; exact g1, by rw [World.cell?_drew]; exact gq⟩ (fun hHeld => ?_)
     refine tj 0 ?_
     simp only [Act.put, zA, zB, zC]
     refine tj 1 ?_
     simp only [Act.put, zA, zB, zC]
     refine tj 2 ?_
     simp only [Act.put, zA, zB, zC]
     refine tj 3 ?_
     simp only [Act.put, zA, zB, zC]
     refine tj 4 ?_
     simp only [Act.put, zA, zB, zC]
     refine tj 5 ?_
     simp only [Act.put, zA, zB, zC]
     refine tj 6 ?_
     simp only [Act.put, zA, zB, zC]
     refine tj 7 ?_
     simp only [Act.put, zA, zB, zC]
     refine tj 8 ?_
     simp only [Act.put, zA, zB, zC]
     refine tj 9 ?_
     simp only [Act.put, zA, zB, zC]
     refine tr [10] ?_
     refine AllReadyH.cons (tA rfl) (fun K hK => ?_) AllReadyH.nil
     go_simp
     refine hK.out _ _ ⟨cell_thru (bl1 _ _) hHeld.1, cell_thru (bl1 _ _) hHeld.2⟩ (fun hHeld => ?_)
     clear hK K
     try simp only [Act.put, zA, zB, zC]
     refine tr [11] ?_
     refine AllReadyH.cons (tA rfl) (fun K hK => ?_) AllReadyH.nil
     go_simp
     try rw [hY3]
     refine hK.out _ _ ⟨(HIT.out _ HE2.out.low).2.1, HCQ2.out _ _ _ HE2.out rfl⟩ (fun hHeld => ?_)
     clear hK K
     try simp only [Act.put, zA, zB, zC]
     refine wpAnyH_done (by kernel_rfl) ?_ _
     clear hHeld
     try rw [hY3]
     try rw [hsb]
     clear hY3 hsb g0 g1 gq
     cases hbk : Z.behind ts k with
     | true =>
      rw [hbk] at HBH
      obtain ⟨k0, k1, -, -, -, -, -⟩ := HIT.out Y3 HE2.out.low
      have sc0 : Y3.cell? ⟨sb, 0, none⟩ = some (.string nm) := (HE2.out.box 0 _ rfl).1 0 _ rfl
      have sc1 : Y3.cell? ⟨sb, 1, none⟩ = some (.int .i64 1) := (HE2.out.box 0 _ rfl).1 1 _ rfl
      have sc2 : Y3.cell? ⟨sb, 2, none⟩ = some (.int .i64 zq) := (HE2.out.box 0 _ rfl).1 2 _ rfl
      have zs1 : Y3.frozen? ⟨sb, 1, none⟩ = false := (HE2.out.box 0 _ rfl).2.1 1
      have HE3 : Hid (O.BS w (Y3.setCell ⟨sb, 1, none⟩ (.int .i64 3)) [⟨5, 1, .slice ac nc xc, nc, cc⟩, ⟨2, 1, .slice ad nd xd, nd, cd⟩, ⟨69, 3, .slice as2 ns xs2, ns, cs⟩, ⟨51, 4, .slice ar nr xr, nr, cr⟩, ⟨3, 1, .slice (some ⟨ga, 0, none⟩) l ca, l, (Z.ats (Z.ops ts)).map iV⟩, ⟨4, 1, .slice al l cl, l, bs.map bV⟩] [(sb, [.string nm, .int .i64 3, .int .i64 zq]), (ob, [.string { data := #[] }, (.slice ad nd xd), (.slice as2 ns xs2), (.slice ar nr xr)]), (rb, [.string { data := #[] }, .slice none 0 0, .slice none 0 0, .slice none 0 0])]) := HE2.out.put 0 sb _ rfl 1 (by simp) (.int .i64 3)
      have so2 : (Y3.setCell ⟨sb, 1, none⟩ (.int .i64 3)).cell? ⟨ob, 2, none⟩ = some (.slice as2 ns xs2) := (HE3.out.box 1 _ rfl).1 2 _ rfl
      obtain ⟨Y4, hY4⟩ : ∃ Y4, (Y3.setCell ⟨sb, 1, none⟩ (.int .i64 3)).alloc (.cells #[.string nm, .int .i64 3, .int .i64 zq] 69) = Y4 := ⟨_, rfl⟩
      have HF : Hid (O.BS w Y4 [⟨5, 1, .slice ac nc xc, nc, cc⟩, ⟨2, 1, .slice ad nd xd, nd, cd⟩, ⟨69, 3, .slice as2 ns xs2, ns, cs⟩, ⟨51, 4, .slice ar nr xr, nr, cr⟩, ⟨3, 1, .slice (some ⟨ga, 0, none⟩) l ca, l, (Z.ats (Z.ops ts)).map iV⟩, ⟨4, 1, .slice al l cl, l, bs.map bV⟩] [(sb, [.string nm, .int .i64 3, .int .i64 zq]), (ob, [.string { data := #[] }, (.slice ad nd xd), (.slice as2 ns xs2), (.slice ar nr xr)]), (rb, [.string { data := #[] }, .slice none 0 0, .slice none 0 0, .slice none 0 0])]) := by subst hY4; exact HE3.out.below (bl1 _ _)
      have HNC : Hid (∀ j u, (O.symC ⟨nm, 3, zq⟩)[j]? = some u → Y4.cell? ((⟨(Y3.setCell ⟨sb, 1, none⟩ (.int .i64 3)).heap.size, 0, none⟩ : Addr).add j) = some u) := fun j u hu => by
       subst hY4
       rw [Addr.add_lit, Nat.zero_add]
       exact cellA rfl (by simpa [O.symC] using hu)
      have HYS : Hid ((Y3.setCell ⟨sb, 1, none⟩ (.int .i64 3)).heap.size = Y3.heap.size) := by show _ = _; simp
      go_wp2_with (first | (at_builtin; refine wpList_append_lies _ rfl _ _ 27 rfl w.heap.size 69 i2 _ 3 32 Tryz.underlying27 hi2 hz20 hz21 hz22 rfl (by decide) (.slice as2 ns xs2) ns cs rfl (HF.out.own 2 _ rfl) ⟨Y3.heap.size, 0, none⟩ 1 1 (O.symC ⟨nm, 3, zq⟩) rfl rfl (by rw [← HYS.out]; exact HNC.out) symC_one (by decide) (by unfold maxLen; omega) (by omega) HF.out.low.size Y4.heap.size rfl ?_; intro g cap Y6 ho6 hg6 hat6 hlt6; have HP0 : Hid (O.BS w Y6 [⟨5, 1, .slice ac nc xc, nc, cc⟩, ⟨2, 1, .slice ad nd xd, nd, cd⟩, ⟨69, 3, (.slice (some ⟨g, 0, none⟩) (ns + 1) cap), (ns + 1), (cs ++ O.symC ⟨nm, 3, zq⟩)⟩, ⟨51, 4, .slice ar nr xr, nr, cr⟩, ⟨3, 1, .slice (some ⟨ga, 0, none⟩) l ca, l, (Z.ats (Z.ops ts)).map iV⟩, ⟨4, 1, .slice al l cl, l, bs.map bV⟩] [(sb, [.string nm, .int .i64 3, .int .i64 zq]), (ob, [.string { data := #[] }, (.slice ad nd xd), (.slice as2 ns xs2), (.slice ar nr xr)]), (rb, [.string { data := #[] }, .slice none 0 0, .slice none 0 0, .slice none 0 0])]) := HF.out.push (k := 2) rfl ho6 hg6 (fun g' hg' => by simp [Value.ownBlock] at hg'; subst hg'; rcases hat6 with e | e; exact .inl e; exact .inr (by rw [e]; exact Nat.le_refl _)); have m6 : Y6.cell? ⟨ob, 2, none⟩ = some (.slice as2 ns xs2) := (HP0.out.box 1 _ rfl).1 2 _ rfl; have z6 : Y6.frozen? ⟨ob, 2, none⟩ = false := (HP0.out.box 1 _ rfl).2.1 2; have HP : Hid (O.BS w (Y6.setCell ⟨ob, 2, none⟩ (.slice (some ⟨g, 0, none⟩) (ns + 1) cap)) [⟨5, 1, .slice ac nc xc, nc, cc⟩, ⟨2, 1, .slice ad nd xd, nd, cd⟩, ⟨69, 3, (.slice (some ⟨g, 0, none⟩) (ns + 1) cap), (ns + 1), (cs ++ O.symC ⟨nm, 3, zq⟩)⟩, ⟨51, 4, .slice ar nr xr, nr, cr⟩, ⟨3, 1, .slice (some ⟨ga, 0, none⟩) l ca, l, (Z.ats (Z.ops ts)).map iV⟩, ⟨4, 1, .slice al l cl, l, bs.map bV⟩] [(sb, [.string nm, .int .i64 3, .int .i64 zq]), (ob, [.string { data := #[] }, (.slice ad nd xd), (.slice (some ⟨g, 0, none⟩) (ns + 1) cap), (.slice ar nr xr)]), (rb, [.string { data := #[] }, .slice none 0 0, .slice none 0 0, .slice none 0 0])]) := HP0.out.put 1 ob [.string { data := #[] }, (.slice ad nd xd), (.slice as2 ns xs2), (.slice ar nr xr)] rfl 2 (by simp) (.slice (some ⟨g, 0, none⟩) (ns + 1) cap); have n8 := HCQ2.out _ _ _ HP.out rfl; clear ho6 hg6 hat6 hlt6) | fail)
      go_roundg (l - (k + 1))
      case measure => omega
      case rel => exact ⟨k + 1, _, _, nc, nd, (ns + 1), nr, rfl, by rw [HBH.out]; rfl, by go_num, by omega, Nat.le_refl _, by omega, by omega, by omega, by omega, ⟨_, _, _, _, _, _, _, HP.out.drop, HN.out⟩⟩
     | false =>
      rw [hbk] at HBH
      by_cases hzt : zq = tt
      ·have hzt2 : (zq == tt) = true := by simpa using hzt
       have HB3' : Hid (Z.behind ts (k + 1) = true) := by show _ = _; rw [HBH.out, HPL.out, decide_eq_true hzt]; rfl
       clear hzt HBH
       obtain ⟨k0, k1, -, -, -, -, -⟩ := HIT.out Y3 HE2.out.low
       have sc0 : Y3.cell? ⟨sb, 0, none⟩ = some (.string nm) := (HE2.out.box 0 _ rfl).1 0 _ rfl
       have sc1 : Y3.cell? ⟨sb, 1, none⟩ = some (.int .i64 1) := (HE2.out.box 0 _ rfl).1 1 _ rfl
       have sc2 : Y3.cell? ⟨sb, 2, none⟩ = some (.int .i64 zq) := (HE2.out.box 0 _ rfl).1 2 _ rfl
       have zs1 : Y3.frozen? ⟨sb, 1, none⟩ = false := (HE2.out.box 0 _ rfl).2.1 1
       have HE3 : Hid (O.BS w (Y3.setCell ⟨sb, 1, none⟩ (.int .i64 3)) [⟨5, 1, .slice ac nc xc, nc, cc⟩, ⟨2, 1, .slice ad nd xd, nd, cd⟩, ⟨69, 3, .slice as2 ns xs2, ns, cs⟩, ⟨51, 4, .slice ar nr xr, nr, cr⟩, ⟨3, 1, .slice (some ⟨ga, 0, none⟩) l ca, l, (Z.ats (Z.ops ts)).map iV⟩, ⟨4, 1, .slice al l cl, l, bs.map bV⟩] [(sb, [.string nm, .int .i64 3, .int .i64 zq]), (ob, [.string { data := #[] }, (.slice ad nd xd), (.slice as2 ns xs2), (.slice ar nr xr)]), (rb, [.string { data := #[] }, .slice none 0 0, .slice none 0 0, .slice none 0 0])]) := HE2.out.put 0 sb _ rfl 1 (by simp) (.int .i64 3)
       have so2 : (Y3.setCell ⟨sb, 1, none⟩ (.int .i64 3)).cell? ⟨ob, 2, none⟩ = some (.slice as2 ns xs2) := (HE3.out.box 1 _ rfl).1 2 _ rfl
       obtain ⟨Y4, hY4⟩ : ∃ Y4, (Y3.setCell ⟨sb, 1, none⟩ (.int .i64 3)).alloc (.cells #[.string nm, .int .i64 3, .int .i64 zq] 69) = Y4 := ⟨_, rfl⟩
       have HF : Hid (O.BS w Y4 [⟨5, 1, .slice ac nc xc, nc, cc⟩, ⟨2, 1, .slice ad nd xd, nd, cd⟩, ⟨69, 3, .slice as2 ns xs2, ns, cs⟩, ⟨51, 4, .slice ar nr xr, nr, cr⟩, ⟨3, 1, .slice (some ⟨ga, 0, none⟩) l ca, l, (Z.ats (Z.ops ts)).map iV⟩, ⟨4, 1, .slice al l cl, l, bs.map bV⟩] [(sb, [.string nm, .int .i64 3, .int .i64 zq]), (ob, [.string { data := #[] }, (.slice ad nd xd), (.slice as2 ns xs2), (.slice ar nr xr)]), (rb, [.string { data := #[] }, .slice none 0 0, .slice none 0 0, .slice none 0 0])]) := by subst hY4; exact HE3.out.below (bl1 _ _)
       have HNC : Hid (∀ j u, (O.symC ⟨nm, 3, zq⟩)[j]? = some u → Y4.cell? ((⟨(Y3.setCell ⟨sb, 1, none⟩ (.int .i64 3)).heap.size, 0, none⟩ : Addr).add j) = some u) := fun j u hu => by
        subst hY4
        rw [Addr.add_lit, Nat.zero_add]
        exact cellA rfl (by simpa [O.symC] using hu)
       have HYS : Hid ((Y3.setCell ⟨sb, 1, none⟩ (.int .i64 3)).heap.size = Y3.heap.size) := by show _ = _; simp
       go_wp2_with (first | (at_builtin; refine wpList_append_lies _ rfl _ _ 27 rfl w.heap.size 69 i2 _ 3 32 Tryz.underlying27 hi2 hz20 hz21 hz22 rfl (by decide) (.slice as2 ns xs2) ns cs rfl (HF.out.own 2 _ rfl) ⟨Y3.heap.size, 0, none⟩ 1 1 (O.symC ⟨nm, 3, zq⟩) rfl rfl (by rw [← HYS.out]; exact HNC.out) symC_one (by decide) (by unfold maxLen; omega) (by omega) HF.out.low.size Y4.heap.size rfl ?_; intro g cap Y6 ho6 hg6 hat6 hlt6; have HP0 : Hid (O.BS w Y6 [⟨5, 1, .slice ac nc xc, nc, cc⟩, ⟨2, 1, .slice ad nd xd, nd, cd⟩, ⟨69, 3, (.slice (some ⟨g, 0, none⟩) (ns + 1) cap), (ns + 1), (cs ++ O.symC ⟨nm, 3, zq⟩)⟩, ⟨51, 4, .slice ar nr xr, nr, cr⟩, ⟨3, 1, .slice (some ⟨ga, 0, none⟩) l ca, l, (Z.ats (Z.ops ts)).map iV⟩, ⟨4, 1, .slice al l cl, l, bs.map bV⟩] [(sb, [.string nm, .int .i64 3, .int .i64 zq]), (ob, [.string { data := #[] }, (.slice ad nd xd), (.slice as2 ns xs2), (.slice ar nr xr)]), (rb, [.string { data := #[] }, .slice none 0 0, .slice none 0 0, .slice none 0 0])]) := HF.out.push (k := 2) rfl ho6 hg6 (fun g' hg' => by simp [Value.ownBlock] at hg'; subst hg'; rcases hat6 with e | e; exact .inl e; exact .inr (by rw [e]; exact Nat.le_refl _)); have m6 : Y6.cell? ⟨ob, 2, none⟩ = some (.slice as2 ns xs2) := (HP0.out.box 1 _ rfl).1 2 _ rfl; have z6 : Y6.frozen? ⟨ob, 2, none⟩ = false := (HP0.out.box 1 _ rfl).2.1 2; have HP : Hid (O.BS w (Y6.setCell ⟨ob, 2, none⟩ (.slice (some ⟨g, 0, none⟩) (ns + 1) cap)) [⟨5, 1, .slice ac nc xc, nc, cc⟩, ⟨2, 1, .slice ad nd xd, nd, cd⟩, ⟨69, 3, (.slice (some ⟨g, 0, none⟩) (ns + 1) cap), (ns + 1), (cs ++ O.symC ⟨nm, 3, zq⟩)⟩, ⟨51, 4, .slice ar nr xr, nr, cr⟩, ⟨3, 1, .slice (some ⟨ga, 0, none⟩) l ca, l, (Z.ats (Z.ops ts)).map iV⟩, ⟨4, 1, .slice al l cl, l, bs.map bV⟩] [(sb, [.string nm, .int .i64 3, .int .i64 zq]), (ob, [.string { data := #[] }, (.slice ad nd xd), (.slice (some ⟨g, 0, none⟩) (ns + 1) cap), (.slice ar nr xr)]), (rb, [.string { data := #[] }, .slice none 0 0, .slice none 0 0, .slice none 0 0])]) := HP0.out.put 1 ob [.string { data := #[] }, (.slice ad nd xd), (.slice as2 ns xs2), (.slice ar nr xr)] rfl 2 (by simp) (.slice (some ⟨g, 0, none⟩) (ns + 1) cap); have n8 := HCQ2.out _ _ _ HP.out rfl; clear ho6 hg6 hat6 hlt6) | fail)
       go_roundg (l - (k + 1))
       case measure => omega
       case rel => exact ⟨k + 1, _, _, nc, nd, (ns + 1), nr, rfl, by rw [HB3'.out], by go_num, by omega, Nat.le_refl _, by omega, by omega, by omega, by omega, ⟨_, _, _, _, _, _, _, HP.out.drop, HN.out⟩⟩
      ·have hzt2 : (zq == tt) = false := by simpa using hzt
       have HB3' : Hid (Z.behind ts (k + 1) = false) := by show _ = _; rw [HBH.out, HPL.out, decide_eq_false hzt]; rfl
       clear hzt HBH
       obtain ⟨k0, k1, -, -, -, -, -⟩ := HIT.out Y3 HE2.out.low
       have sc0 : Y3.cell? ⟨sb, 0, none⟩ = some (.string nm) := (HE2.out.box 0 _ rfl).1 0 _ rfl
       have sc1 : Y3.cell? ⟨sb, 1, none⟩ = some (.int .i64 1) := (HE2.out.box 0 _ rfl).1 1 _ rfl
       have sc2 : Y3.cell? ⟨sb, 2, none⟩ = some (.int .i64 zq) := (HE2.out.box 0 _ rfl).1 2 _ rfl
       have zs1 : Y3.frozen? ⟨sb, 1, none⟩ = false := (HE2.out.box 0 _ rfl).2.1 1
       have HE3 : Hid (O.BS w (Y3.setCell ⟨sb, 1, none⟩ (.int .i64 3)) [⟨5, 1, .slice ac nc xc, nc, cc⟩, ⟨2, 1, .slice ad nd xd, nd, cd⟩, ⟨69, 3, .slice as2 ns xs2, ns, cs⟩, ⟨51, 4, .slice ar nr xr, nr, cr⟩, ⟨3, 1, .slice (some ⟨ga, 0, none⟩) l ca, l, (Z.ats (Z.ops ts)).map iV⟩, ⟨4, 1, .slice al l cl, l, bs.map bV⟩] [(sb, [.string nm, .int .i64 3, .int .i64 zq]), (ob, [.string { data := #[] }, (.slice ad nd xd), (.slice as2 ns xs2), (.slice ar nr xr)]), (rb, [.string { data := #[] }, .slice none 0 0, .slice none 0 0, .slice none 0 0])]) := HE2.out.put 0 sb _ rfl 1 (by simp) (.int .i64 3)
       have so2 : (Y3.setCell ⟨sb, 1, none⟩ (.int .i64 3)).cell? ⟨ob, 2, none⟩ = some (.slice as2 ns xs2) := (HE3.out.box 1 _ rfl).1 2 _ rfl
       obtain ⟨Y4, hY4⟩ : ∃ Y4, (Y3.setCell ⟨sb, 1, none⟩ (.int .i64 3)).alloc (.cells #[.string nm, .int .i64 3, .int .i64 zq] 69) = Y4 := ⟨_, rfl⟩
       have HF : Hid (O.BS w Y4 [⟨5, 1, .slice ac nc xc, nc, cc⟩, ⟨2, 1, .slice ad nd xd, nd, cd⟩, ⟨69, 3, .slice as2 ns xs2, ns, cs⟩, ⟨51, 4, .slice ar nr xr, nr, cr⟩, ⟨3, 1, .slice (some ⟨ga, 0, none⟩) l ca, l, (Z.ats (Z.ops ts)).map iV⟩, ⟨4, 1, .slice al l cl, l, bs.map bV⟩] [(sb, [.string nm, .int .i64 3, .int .i64 zq]), (ob, [.string { data := #[] }, (.slice ad nd xd), (.slice as2 ns xs2), (.slice ar nr xr)]), (rb, [.string { data := #[] }, .slice none 0 0, .slice none 0 0, .slice none 0 0])]) := by subst hY4; exact HE3.out.below (bl1 _ _)
       have HNC : Hid (∀ j u, (O.symC ⟨nm, 3, zq⟩)[j]? = some u → Y4.cell? ((⟨(Y3.setCell ⟨sb, 1, none⟩ (.int .i64 3)).heap.size, 0, none⟩ : Addr).add j) = some u) := fun j u hu => by
        subst hY4
        rw [Addr.add_lit, Nat.zero_add]
        exact cellA rfl (by simpa [O.symC] using hu)
       have HYS : Hid ((Y3.setCell ⟨sb, 1, none⟩ (.int .i64 3)).heap.size = Y3.heap.size) := by show _ = _; simp
       go_wp2_with (first | (at_builtin; refine wpList_append_lies _ rfl _ _ 27 rfl w.heap.size 69 i2 _ 3 32 Tryz.underlying27 hi2 hz20 hz21 hz22 rfl (by decide) (.slice as2 ns xs2) ns cs rfl (HF.out.own 2 _ rfl) ⟨Y3.heap.size, 0, none⟩ 1 1 (O.symC ⟨nm, 3, zq⟩) rfl rfl (by rw [← HYS.out]; exact HNC.out) symC_one (by decide) (by unfold maxLen; omega) (by omega) HF.out.low.size Y4.heap.size rfl ?_; intro g cap Y6 ho6 hg6 hat6 hlt6; have HP0 : Hid (O.BS w Y6 [⟨5, 1, .slice ac nc xc, nc, cc⟩, ⟨2, 1, .slice ad nd xd, nd, cd⟩, ⟨69, 3, (.slice (some ⟨g, 0, none⟩) (ns + 1) cap), (ns + 1), (cs ++ O.symC ⟨nm, 3, zq⟩)⟩, ⟨51, 4, .slice ar nr xr, nr, cr⟩, ⟨3, 1, .slice (some ⟨ga, 0, none⟩) l ca, l, (Z.ats (Z.ops ts)).map iV⟩, ⟨4, 1, .slice al l cl, l, bs.map bV⟩] [(sb, [.string nm, .int .i64 3, .int .i64 zq]), (ob, [.string { data := #[] }, (.slice ad nd xd), (.slice as2 ns xs2), (.slice ar nr xr)]), (rb, [.string { data := #[] }, .slice none 0 0, .slice none 0 0, .slice none 0 0])]) := HF.out.push (k := 2) rfl ho6 hg6 (fun g' hg' => by simp [Value.ownBlock] at hg'; subst hg'; rcases hat6 with e | e; exact .inl e; exact .inr (by rw [e]; exact Nat.le_refl _)); have m6 : Y6.cell? ⟨ob, 2, none⟩ = some (.slice as2 ns xs2) := (HP0.out.box 1 _ rfl).1 2 _ rfl; have z6 : Y6.frozen? ⟨ob, 2, none⟩ = false := (HP0.out.box 1 _ rfl).2.1 2; have HP : Hid (O.BS w (Y6.setCell ⟨ob, 2, none⟩ (.slice (some ⟨g, 0, none⟩) (ns + 1) cap)) [⟨5, 1, .slice ac nc xc, nc, cc⟩, ⟨2, 1, .slice ad nd xd, nd, cd⟩, ⟨69, 3, (.slice (some ⟨g, 0, none⟩) (ns + 1) cap), (ns + 1), (cs ++ O.symC ⟨nm, 3, zq⟩)⟩, ⟨51, 4, .slice ar nr xr, nr, cr⟩, ⟨3, 1, .slice (some ⟨ga, 0, none⟩) l ca, l, (Z.ats (Z.ops ts)).map iV⟩, ⟨4, 1, .slice al l cl, l, bs.map bV⟩] [(sb, [.string nm, .int .i64 3, .int .i64 zq]), (ob, [.string { data := #[] }, (.slice ad nd xd), (.slice (some ⟨g, 0, none⟩) (ns + 1) cap), (.slice ar nr xr)]), (rb, [.string { data := #[] }, .slice none 0 0, .slice none 0 0, .slice none 0 0])]) := HP0.out.put 1 ob [.string { data := #[] }, (.slice ad nd xd), (.slice as2 ns xs2), (.slice ar nr xr)] rfl 2 (by simp) (.slice (some ⟨g, 0, none⟩) (ns + 1) cap); have n8 := HCQ2.out _ _ _ HP.out rfl; clear ho6 hg6 hat6 hlt6) | fail)
       go_roundg (l - (k + 1))
       case measure => omega
       case rel => exact ⟨k + 1, _, _, nc, nd, (ns + 1), nr, rfl, by rw [HB3'.out], by go_num, by omega, Nat.le_refl _, by omega, by omega, by omega, by omega, ⟨_, _, _, _, _, _, _, HP.out.drop, HN.out⟩⟩
    ·have e2 : (t.kind == 2) = false := by simpa using k2
     have e3 : (t.kind == 3) = false := by simpa using k3
     have e4 : (t.kind == 4) = false := by simpa using k4
     have e5 : (t.kind == 5) = false := by simpa using k5
     have HN : Hid (OI (Z.objTo ts (Z.ops ts) (k + 1)) nc cc nd cd ns cs nr cr) := by
      show OI _ _ _ _ _ _ _ _ _
      rw [HST.out]
      unfold Z.stepO
      rw [HGD.out, if_neg k2, if_neg k3, if_neg k4, if_neg k5]
      exact HOI.out
     have HB3' : Hid (Z.behind ts (k + 1) = Z.behind ts k) := by
      show _ = _
      have : Z.shown t = false := by unfold Z.shown; rw [decide_eq_false k4, decide_eq_false k5]; rfl
      rw [HBH.out, this, Bool.false_and, Bool.or_false]
     clear k2 k3 k4 k5
     go_wp2_with fail
     go_roundg (l - (k + 1))
     case measure => omega
     case rel => exact ⟨k + 1, _, _, nc, nd, ns, nr, rfl, by rw [HB3'.out], by go_num, by omega, Nat.le_refl _, by omega, by omega, by omega, by omega, ⟨_, _, _, _, _, _, _, HBS.out, HN.out⟩⟩
   ·obtain rfl : k = l := by omega
    have hii : ¬ (k : Int) < k := by omega
    have HOE : Hid (OI (Z.obj ts) nc cc nd cd ns cs nr cr) := by
     show OI _ _ _ _ _ _ _ _ _
     unfold Z.obj
     rw [HCT.out]
     exact HOI.out
    have hcv : (convert 65 9 (.slice ac nc xc)).run Tryz.prog wr = .ok (.string (Z.obj ts).code) wr := by
     have h0 : wr.ownsRow w.heap.size 5 1 (.slice ac nc xc) nc cc := HBS.out.own 0 _ rfl
     rw [HOE.out.fc.2, strCells_by] at h0
     have := conv_own h0
     rw [str_eq] at this
     exact this
    have hfi := Z.fits_is (by rw [HCT.out]; exact hl) HOK.out HFIT.out
    rw [← HOE.out.fd.1, ← HOE.out.fs.1, ← HOE.out.fr.1] at hfi
    have hbe := Z.behind_all ts
    rw [HCT.out] at hbe
    obtain ⟨oc, hoc⟩ : ∃ oc, (Z.obj ts).code = oc := ⟨_, rfl⟩
    rw [hoc] at hcv hfi
    have hocs : oc.size ≤ 20 * k := by rw [← hoc, ← HOE.out.fc.1]; exact hnc
    have o0 : wr.cell? ⟨ob, 0, none⟩ = some (.string { data := #[] }) := (HBS.out.box 0 _ rfl).1 0 _ rfl
    have o1 : wr.cell? ⟨ob, 1, none⟩ = some (.slice ad nd xd) := (HBS.out.box 0 _ rfl).1 1 _ rfl
    have o2 : wr.cell? ⟨ob, 2, none⟩ = some (.slice as2 ns xs2) := (HBS.out.box 0 _ rfl).1 2 _ rfl
    have o3 : wr.cell? ⟨ob, 3, none⟩ = some (.slice ar nr xr) := (HBS.out.box 0 _ rfl).1 3 _ rfl
    have zo : wr.frozen? ⟨ob, 0, none⟩ = false := (HBS.out.box 0 _ rfl).2.1 0
    have hne : ob ≠ rb := HBS.out.nd 0 1 _ _ rfl rfl (by decide)
    have hne2 := Ne.symm hne
    have rc0 : wr.cell? ⟨rb, 0, none⟩ = some (.string { data := #[] }) := (HBS.out.box 1 _ rfl).1 0 _ rfl
    have rz0 : wr.frozen? ⟨rb, 0, none⟩ = false := (HBS.out.box 1 _ rfl).2.1 0
    have rc1 : wr.cell? ⟨rb, 1, none⟩ = some (.slice none 0 0) := (HBS.out.box 1 _ rfl).1 1 _ rfl
    have rz1 : wr.frozen? ⟨rb, 1, none⟩ = false := (HBS.out.box 1 _ rfl).2.1 1
    have rc2 : wr.cell? ⟨rb, 2, none⟩ = some (.slice none 0 0) := (HBS.out.box 1 _ rfl).1 2 _ rfl
    have rz2 : wr.frozen? ⟨rb, 2, none⟩ = false := (HBS.out.box 1 _ rfl).2.1 2
    have rc3 : wr.cell? ⟨rb, 3, none⟩ = some (.slice none 0 0) := (HBS.out.box 1 _ rfl).1 3 _ rfl
    have rz3 : wr.frozen? ⟨rb, 3, none⟩ = false := (HBS.out.box 1 _ rfl).2.1 3
    have HZ : Hid (O.BS w (((((wr.setCell ⟨ob, 0, none⟩ (.string oc)).setCell ⟨rb, 0, none⟩ (.string { data := #[] })).setCell ⟨rb, 1, none⟩ (.slice none 0 0)).setCell ⟨rb, 2, none⟩ (.slice none 0 0)).setCell ⟨rb, 3, none⟩ (.slice none 0 0)) [⟨5, 1, .slice ac nc xc, nc, cc⟩, ⟨2, 1, .slice ad nd xd, nd, cd⟩, ⟨69, 3, .slice as2 ns xs2, ns, cs⟩, ⟨51, 4, .slice ar nr xr, nr, cr⟩, ⟨3, 1, .slice aa k ca, k, (Z.ats (Z.ops ts)).map iV⟩, ⟨4, 1, .slice al k cl, k, bs.map bV⟩] [(ob, [.string oc, (.slice ad nd xd), (.slice as2 ns xs2), (.slice ar nr xr)]), (rb, [(.string { data := #[] }), (.slice none 0 0), (.slice none 0 0), (.slice none 0 0)])]) := by
     have h1 := HBS.out.put 0 ob _ rfl 0 (by simp) (.string oc)
     have h2 := h1.put 1 rb _ rfl 0 (by simp) (.string { data := #[] })
     have h3 := h2.put 1 rb _ rfl 1 (by simp) (.slice none 0 0)
     have h4 := h3.put 1 rb _ rfl 2 (by simp) (.slice none 0 0)
     have h5 := h4.put 1 rb _ rfl 3 (by simp) (.slice none 0 0)
     exact h5
    have HF : Hid (O.BS w (((((wr.setCell ⟨ob, 0, none⟩ (.string oc)).setCell ⟨rb, 0, none⟩ (.string oc)).setCell ⟨rb, 1, none⟩ (.slice ad nd xd)).setCell ⟨rb, 2, none⟩ (.slice as2 ns xs2)).setCell ⟨rb, 3, none⟩ (.slice ar nr xr)) [⟨5, 1, .slice ac nc xc, nc, cc⟩, ⟨2, 1, .slice ad nd xd, nd, cd⟩, ⟨69, 3, .slice as2 ns xs2, ns, cs⟩, ⟨51, 4, .slice ar nr xr, nr, cr⟩, ⟨3, 1, .slice aa k ca, k, (Z.ats (Z.ops ts)).map iV⟩, ⟨4, 1, .slice al k cl, k, bs.map bV⟩] [(ob, [.string oc, (.slice ad nd xd), (.slice as2 ns xs2), (.slice ar nr xr)]), (rb, [(.string oc), (.slice ad nd xd), (.slice as2 ns xs2), (.slice ar nr xr)])]) := by
     have h1 := HBS.out.put 0 ob _ rfl 0 (by simp) (.string oc)
     have h2 := h1.put 1 rb _ rfl 0 (by simp) (.string oc)
     have h3 := h2.put 1 rb _ rfl 1 (by simp) (.slice ad nd xd)
     have h4 := h3.put 1 rb _ rfl 2 (by simp) (.slice as2 ns xs2)
     have h5 := h4.put 1 rb _ rfl 3 (by simp) (.slice ar nr xr)
     exact h5
    have HOC : Hid ((Z.obj ts).code = oc) := hoc
    clear hoc
    by_cases g0 : oc.size ≤ 65536
    rotate_left
    ·have HR : Hid (Z.asm ts = (Z.noObj, 8)) := by
      show _ = _
      have hf : Z.fits ts = false := by
       rw [hfi, decide_eq_false g0]
       simp
      rw [HA.out, hf]
      rfl
     have l0 : (65536 : Int) < (oc.size : Int) := by omega
     clear hfi hbe g0
     go_wp2_with fail
     refine bodyPost_ret (v := .tuple #[.agg #[.string { data := #[] }, .slice none 0 0, .slice none 0 0, .slice none 0 0], .int .i64 8]) ?_ rfl ?_
     ·have r0 := (HZ.out.box 1 _ rfl).1 0 _ rfl
      have r1 := (HZ.out.box 1 _ rfl).1 1 _ rfl
      have r2 := (HZ.out.box 1 _ rfl).1 2 _ rfl
      have r3 := (HZ.out.box 1 _ rfl).1 3 _ rfl
      simp only at r0 r1 r2 r3
      simp [results, Tryz.results13, go_sem, r0, r1, r2, r3]
     ·exact AsmOut.bad HR.out HZ.out.low
    by_cases g1 : nd ≤ 4096
    rotate_left
    ·have HR : Hid (Z.asm ts = (Z.noObj, 8)) := by
      show _ = _
      have hf : Z.fits ts = false := by
       rw [hfi, decide_eq_false g1]
       simp
      rw [HA.out, hf]
      rfl
     have l1 : (4096 : Int) < (nd : Int) := by omega
     have l0 : ¬ (65536 : Int) < (oc.size : Int) := by omega
     clear hfi hbe g1
     go_wp2_with fail
     refine bodyPost_ret (v := .tuple #[.agg #[.string { data := #[] }, .slice none 0 0, .slice none 0 0, .slice none 0 0], .int .i64 8]) ?_ rfl ?_
     ·have r0 := (HZ.out.box 1 _ rfl).1 0 _ rfl
      have r1 := (HZ.out.box 1 _ rfl).1 1 _ rfl
      have r2 := (HZ.out.box 1 _ rfl).1 2 _ rfl
      have r3 := (HZ.out.box 1 _ rfl).1 3 _ rfl
      simp only at r0 r1 r2 r3
      simp [results, Tryz.results13, go_sem, r0, r1, r2, r3]
     ·exact AsmOut.bad HR.out HZ.out.low
    by_cases g2 : ns ≤ 1000
    rotate_left
    ·have HR : Hid (Z.asm ts = (Z.noObj, 8)) := by
      show _ = _
      have hf : Z.fits ts = false := by
       rw [hfi, decide_eq_false g2]
       simp
      rw [HA.out, hf]
      rfl
     have l2 : (1000 : Int) < (ns : Int) := by omega
     have l0 : ¬ (65536 : Int) < (oc.size : Int) := by omega
     have l1 : ¬ (4096 : Int) < (nd : Int) := by omega
     clear hfi hbe g2
     go_wp2_with fail
     refine bodyPost_ret (v := .tuple #[.agg #[.string { data := #[] }, .slice none 0 0, .slice none 0 0, .slice none 0 0], .int .i64 8]) ?_ rfl ?_
     ·have r0 := (HZ.out.box 1 _ rfl).1 0 _ rfl
      have r1 := (HZ.out.box 1 _ rfl).1 1 _ rfl
      have r2 := (HZ.out.box 1 _ rfl).1 2 _ rfl
      have r3 := (HZ.out.box 1 _ rfl).1 3 _ rfl
      simp only at r0 r1 r2 r3
      simp [results, Tryz.results13, go_sem, r0, r1, r2, r3]
     ·exact AsmOut.bad HR.out HZ.out.low
    by_cases g3 : nr ≤ 8000
    rotate_left
    ·have HR : Hid (Z.asm ts = (Z.noObj, 8)) := by
      show _ = _
      have hf : Z.fits ts = false := by
       rw [hfi, decide_eq_false g3]
       simp
      rw [HA.out, hf]
      rfl
     have l3 : (8000 : Int) < (nr : Int) := by omega
     have l0 : ¬ (65536 : Int) < (oc.size : Int) := by omega
     have l1 : ¬ (4096 : Int) < (nd : Int) := by omega
     have l2 : ¬ (1000 : Int) < (ns : Int) := by omega
     clear hfi hbe g3
     go_wp2_with fail
     refine bodyPost_ret (v := .tuple #[.agg #[.string { data := #[] }, .slice none 0 0, .slice none 0 0, .slice none 0 0], .int .i64 8]) ?_ rfl ?_
     ·have r0 := (HZ.out.box 1 _ rfl).1 0 _ rfl
      have r1 := (HZ.out.box 1 _ rfl).1 1 _ rfl
      have r2 := (HZ.out.box 1 _ rfl).1 2 _ rfl
      have r3 := (HZ.out.box 1 _ rfl).1 3 _ rfl
      simp only at r0 r1 r2 r3
      simp [results, Tryz.results13, go_sem, r0, r1, r2, r3]
     ·exact AsmOut.bad HR.out HZ.out.low
    have hft : Z.fits ts = true := by rw [hfi, decide_eq_true g0, decide_eq_true g1, decide_eq_true g2, decide_eq_true g3]; rfl
    have l0 : ¬ (65536 : Int) < (oc.size : Int) := by omega
    have l1 : ¬ (4096 : Int) < (nd : Int) := by omega
    have l2 : ¬ (1000 : Int) < (ns : Int) := by omega
    have l3 : ¬ (8000 : Int) < (nr : Int) := by omega
    rw [hft, if_pos rfl] at HA
    clear hfi hft g0 g1 g2 g3
    cases hso : Z.symsOk ts with
    | false =>
     rw [hso] at hbe
     have HR : Hid (Z.asm ts = (Z.noObj, 6)) := by show _ = _; rw [HA.out, hso]; rfl
     rw [hbe]
     clear hso hbe
     go_wp2_with fail
     refine bodyPost_ret (v := .tuple #[.agg #[.string { data := #[] }, .slice none 0 0, .slice none 0 0, .slice none 0 0], .int .i64 6]) ?_ rfl ?_
     ·have r0 := (HZ.out.box 1 _ rfl).1 0 _ rfl
      have r1 := (HZ.out.box 1 _ rfl).1 1 _ rfl
      have r2 := (HZ.out.box 1 _ rfl).1 2 _ rfl
      have r3 := (HZ.out.box 1 _ rfl).1 3 _ rfl
      simp only at r0 r1 r2 r3
      simp [results, Tryz.results13, go_sem, r0, r1, r2, r3]
     ·exact AsmOut.bad HR.out HZ.out.low
    | true =>
     rw [hso] at hbe
     have HR : Hid (Z.asm ts = (Z.obj ts, 0)) := by show _ = _; rw [HA.out, hso]; rfl
     rw [hbe]
     clear hso hbe
     go_wp2_with fail
     refine bodyPost_ret (v := .tuple #[.agg #[.string oc, (.slice ad nd xd), (.slice as2 ns xs2), (.slice ar nr xr)], .int .i64 0]) ?_ rfl ?_
     ·have r0 := (HF.out.box 1 _ rfl).1 0 _ rfl
      have r1 := (HF.out.box 1 _ rfl).1 1 _ rfl
      have r2 := (HF.out.box 1 _ rfl).1 2 _ rfl
      have r3 := (HF.out.box 1 _ rfl).1 3 _ rfl
      simp only at r0 r1 r2 r3
      simp [results, Tryz.results13, go_sem, r0, r1, r2, r3]
     ·rw [HR.out]
      refine ⟨(.slice ad nd xd), (.slice as2 ns xs2), (.slice ar nr xr), by rw [HOC.out]; rfl, ?_, ?_, ?_, HF.out.low⟩
      ·have := HF.out.own 1 _ rfl
       simp only [HOE.out.fd.1, HOE.out.fd.2] at this
       rw [HOE.out.fd.1]
       exact this
      ·have := HF.out.own 2 _ rfl
       simp only [HOE.out.fs.1, HOE.out.fs.2] at this
       rw [HOE.out.fs.1]
       exact this
      ·have := HF.out.own 3 _ rfl
       simp only [HOE.out.fr.1, HOE.out.fr.2] at this
       rw [HOE.out.fr.1]
       exact this

end Go.Proofs.YtgjingleolhkbaaGreatDoor

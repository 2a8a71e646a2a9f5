/- Assemble and Text. (Written by gen_asm.py.) -/
import Derived.Test.YtgjingleolhkbaaGreatDoorTAt
import Derived.Test.YtgjingleolhkbaaGreatDoorTAs
import Derived.WalkKit
import Derived.WalkSpells
import Derived.WalkLawsBesides
import Derived.Maps.OwnSet
import Derived.Maps.Keyed
import Derived.OpenShut
import Derived.Deep.LoopGhost
import Derived.Deep.RegionHeld3
import Derived.StringKeys
import Derived.BigQuiet
namespace Go.Proofs.YtgjingleolhkbaaGreatDoor
open Go.RowKit Go.Maps Go.Lib
set_option linter.unusedVariables false
set_option linter.unusedSimpArgs false
namespace Z
def asm (ts : List X.It) : O.ObjD × Nat :=
 if X.itsOk ts = true then (if nameE ts = 0 then (if fits ts = true then (if symsOk ts = true then (obj ts, 0) else (noObj, 6)) else (noObj, 8)) else (noObj, nameE ts)) else (noObj, 1)
end Z
def AsmOut (w : World) (r : O.ObjD × Nat) (e : Ending) (w' : World) : Prop :=
 ∃ vd vs vr, e = .returned (.tuple #[.agg #[.string r.1.code, vd, vs, vr], .int .i64 r.2]) ∧ w'.ownsRow w.heap.size 2 1 vd r.1.data.length (r.1.data.flatMap O.intC) ∧ w'.ownsRow w.heap.size 69 3 vs r.1.syms.length (r.1.syms.flatMap O.symC) ∧ w'.ownsRow w.heap.size 51 4 vr r.1.rels.length (r.1.rels.flatMap O.relC) ∧ Below w.heap.size w w'
theorem AsmOut.bad {w w' : World} {r : O.ObjD × Nat} {z : Nat} (h : r = (Z.noObj, z)) (hb : Below w.heap.size w w') : AsmOut w r (.returned (.tuple #[.agg #[.string { data := #[] }, .slice none 0 0, .slice none 0 0, .slice none 0 0], .int .i64 z])) w' := by
 subst h
 exact ⟨_, _, _, rfl, World.ownsRow_nil _ _ _ _, World.ownsRow_nil _ _ _ _, World.ownsRow_nil _ _ _ _, hb⟩
theorem below_st4 {w x : World} {b : Nat} {u0 u1 u2 u3 : Value} (h : Below w.heap.size w x) (hb : w.heap.size ≤ b) : Below w.heap.size w ((((x.setCell ⟨b, 0, none⟩ u0).setCell ⟨b, 1, none⟩ u1).setCell ⟨b, 2, none⟩ u2).setCell ⟨b, 3, none⟩ u3) := (((h.setCell hb _).setCell hb _).setCell hb _).setCell hb _
theorem own_st4 {x : World} {B b ty k n : Nat} {v : Value} {cs : List Value} {u0 u1 u2 u3 : Value} (h : x.ownsRow B ty k v n cs) (hb : b < B) : ((((x.setCell ⟨b, 0, none⟩ u0).setCell ⟨b, 1, none⟩ u1).setCell ⟨b, 2, none⟩ u2).setCell ⟨b, 3, none⟩ u3).ownsRow B ty k v n cs := by
 have one : ∀ {y : World} (j : Nat) (u : Value), y.ownsRow B ty k v n cs → (y.setCell ⟨b, j, none⟩ u).ownsRow B ty k v n cs := fun {y} j u hy => hy.kept (gb_set y ⟨b, j, none⟩ u) (.inr fun e => by have := (hy.lt b e).1; omega)
 exact one 3 _ (one 2 _ (one 1 _ (one 0 _ h)))
set_option maxRecDepth 100000 in
set_option maxHeartbeats 8000000 in
theorem asm_any {w : World} {a : Option Addr} {l c : Nat} {ts : List X.It} (h : ItsV w a l c ts) (ht : Tab w) (hJ : J.Tab w) :
  Calls Tryz.prog 12 #[.slice a l c] w (AsmOut w (Z.asm ts)) := by
 obtain ⟨rb, hrb⟩ : ∃ rb, w.heap.size = rb := ⟨_, rfl⟩
 obtain ⟨W1, hW1⟩ : ∃ W1, w.alloc (.cells #[.string { data := #[] }, .slice none 0 0, .slice none 0 0, .slice none 0 0] 30) = W1 := ⟨_, rfl⟩
 have bW1 : Below w.heap.size w W1 := by subst hW1; exact bl1 _ _
 have hs1 : rb < W1.heap.size := by subst hW1 hrb; simp
 have hle : w.heap.size ≤ rb := by omega
 have r0 : W1.cell? ⟨rb, 0, none⟩ = some (.string { data := #[] }) := by subst hW1 hrb; exact cellA rfl rfl
 have z0 : W1.frozen? ⟨rb, 0, none⟩ = false := by subst hW1 hrb; exact World.frozen?_alloc_at _ _ _ _ rfl
 have r1 : W1.cell? ⟨rb, 1, none⟩ = some (.slice none 0 0) := by subst hW1 hrb; exact cellA rfl rfl
 have z1 : W1.frozen? ⟨rb, 1, none⟩ = false := by subst hW1 hrb; exact World.frozen?_alloc_at _ _ _ _ rfl
 have r2 : W1.cell? ⟨rb, 2, none⟩ = some (.slice none 0 0) := by subst hW1 hrb; exact cellA rfl rfl
 have z2 : W1.frozen? ⟨rb, 2, none⟩ = false := by subst hW1 hrb; exact World.frozen?_alloc_at _ _ _ _ rfl
 have r3 : W1.cell? ⟨rb, 3, none⟩ = some (.slice none 0 0) := by subst hW1 hrb; exact cellA rfl rfl
 have z3 : W1.frozen? ⟨rb, 3, none⟩ = false := by subst hW1 hrb; exact World.frozen?_alloc_at _ _ _ _ rfl
 have HV : Hid (ItsV W1 a l c ts) := h.below bW1
 have HT : Hid (Tab W1) := ht.below bW1
 have HJ : Hid (J.Tab W1) := J.Tab.below hJ bW1
 have HCT : Hid (ts.length = l) := h.count
 have HB : Hid (Below w.heap.size w W1) := bW1
 have HK : Hid (∀ W', Below W1.heap.size W1 W' → W'.cell? ⟨rb, 0, none⟩ = some (.string { data := #[] }) ∧ W'.frozen? ⟨rb, 0, none⟩ = false ∧ W'.cell? ⟨rb, 1, none⟩ = some (.slice none 0 0) ∧ W'.frozen? ⟨rb, 1, none⟩ = false ∧ W'.cell? ⟨rb, 2, none⟩ = some (.slice none 0 0) ∧ W'.frozen? ⟨rb, 2, none⟩ = false ∧ W'.cell? ⟨rb, 3, none⟩ = some (.slice none 0 0) ∧ W'.frozen? ⟨rb, 3, none⟩ = false) := fun W' hb => ⟨cell_thru hb r0, (hb.frozen (p := ⟨rb, 0, none⟩) hs1).trans z0, cell_thru hb r1, (hb.frozen (p := ⟨rb, 1, none⟩) hs1).trans z1, cell_thru hb r2, (hb.frozen (p := ⟨rb, 2, none⟩) hs1).trans z2, cell_thru hb r3, (hb.frozen (p := ⟨rb, 3, none⟩) hs1).trans z3⟩
 have hck := check_any HV.out HT.out
 clear h ht hJ bW1
 cases hok : X.itsOk ts with
 | false =>
  rw [hok] at hck
  have HR : Hid (Z.asm ts = (Z.noObj, 1)) := by show _ = _; unfold Z.asm; rw [hok]; rfl
  clear hok
  go_enter Tryz.func12, Tryz.ntmps12
  go_wp2_with fail
  refine hck.mono ?_
  rintro e w2 ⟨rfl, hb2⟩
  obtain ⟨s0, t0, s1, t1, s2, t2, s3, t3⟩ := HK.out w2 hb2
  have HB2 : Hid (Below w.heap.size w w2) := HB.out.trans (hb2.mono HB.out.size)
  clear hb2 hck
  go_wp2_with fail
  refine bodyPost_ret (v := .tuple #[.agg #[.string { data := #[] }, .slice none 0 0, .slice none 0 0, .slice none 0 0], .int .i64 1]) (by simp [results, Tryz.results12, go_sem, *]) rfl ?_
  exact AsmOut.bad HR.out (below_st4 HB2.out hle)
 | true =>
  rw [hok] at hck
  have hl : l ≤ 20000 := by have := (X.itsOk_iff.1 hok).1; rw [HCT.out] at this; exact this
  have HOK : Hid (∀ t ∈ ts, X.itOk t = true) := (X.itsOk_iff.1 hok).2
  have HA : Hid (Z.asm ts = if Z.nameE ts = 0 then (if Z.fits ts = true then (if Z.symsOk ts = true then (Z.obj ts, 0) else (Z.noObj, 6)) else (Z.noObj, 8)) else (Z.noObj, Z.nameE ts)) := by show _ = _; unfold Z.asm; rw [hok]; rfl
  clear hok
  go_enter Tryz.func12, Tryz.ntmps12
  go_wp2_with fail
  refine hck.mono ?_
  rintro e w2 ⟨rfl, hb2⟩
  have HB2 : Hid (Below W1.heap.size W1 w2) := hb2
  clear hb2 hck
  go_wp2_with fail
  refine (collect_any (HV.out.below HB2.out) hl).mono ?_
  rintro e w3 ⟨⟨hE, bm, rfl, hNM, hbm, -⟩ | ⟨hE, rfl⟩, hb3⟩
  rotate_left
  ·have HB3 : Hid (Below W1.heap.size W1 w3) := HB2.out.trans (hb3.mono HB2.out.size)
   have HR : Hid (Z.asm ts = (Z.noObj, Z.nameE ts)) := by show _ = _; rw [HA.out, if_neg hE]
   obtain ⟨s0, t0, s1, t1, s2, t2, s3, t3⟩ := HK.out w3 HB3.out
   have HB4 : Hid (Below w.heap.size w w3) := HB.out.trans (HB3.out.mono HB.out.size)
   obtain ⟨z, hz⟩ : ∃ z, Z.nameE ts = z := ⟨_, rfl⟩
   rw [hz] at hE HR ⊢
   have hE' : ((z : Int) != 0) = true := by simp; omega
   clear hb3 hz hE
   go_wp2_with fail
   refine bodyPost_ret (v := .tuple #[.agg #[.string { data := #[] }, .slice none 0 0, .slice none 0 0, .slice none 0 0], .int .i64 z]) (by simp [results, Tryz.results12, go_sem, *]) rfl ?_
   exact AsmOut.bad HR.out (below_st4 HB4.out hle)
  have HB3 : Hid (Below W1.heap.size W1 w3) := HB2.out.trans (hb3.mono HB2.out.size)
  have hlay := lay_any HV.out hl HJ.out HB3.out (Nat.le_trans HB2.out.size hbm) hNM
  rw [if_pos hE] at HA
  clear hb3 hNM hbm hE
  go_wp2_with fail
  refine hlay.mono ?_
  rintro e w4 ⟨yb, ap, aj, cp, cj, rfl, hLV⟩
  have hft := fits_any hLV HV.out hl (fun t ht => (itOk_words (HOK.out t ht)).1)
  clear hLV hlay
  cases hF : Z.fits ts with
  | false =>
   rw [hF] at hft
   have HR : Hid (Z.asm ts = (Z.noObj, 8)) := by show _ = _; rw [HA.out, hF]; rfl
   clear hF
   go_wp2_with fail
   refine hft.mono ?_
   rintro e w5 ⟨rfl, hL5⟩
   obtain ⟨s0, t0, s1, t1, s2, t2, s3, t3⟩ := HK.out w5 hL5.low
   have HB5 : Hid (Below w.heap.size w w5) := HB.out.trans (hL5.low.mono HB.out.size)
   clear hL5 hft
   go_wp2_with fail
   refine bodyPost_ret (v := .tuple #[.agg #[.string { data := #[] }, .slice none 0 0, .slice none 0 0, .slice none 0 0], .int .i64 8]) (by simp [results, Tryz.results12, go_sem, *]) rfl ?_
   exact AsmOut.bad HR.out (below_st4 HB5.out hle)
  | true =>
   rw [hF] at hft HA
   clear hF
   go_wp2_with fail
   refine hft.mono ?_
   rintro e w5 ⟨rfl, hL5⟩
   have hsm := symbolsMayBe_any hL5 HV.out hl
   clear hL5 hft
   cases hS : Z.symsOk ts with
   | false =>
    rw [hS] at hsm
    have HR : Hid (Z.asm ts = (Z.noObj, 6)) := by show _ = _; rw [HA.out, hS]; rfl
    clear hS
    go_wp2_with fail
    refine hsm.mono ?_
    rintro e w6 ⟨rfl, hL6⟩
    obtain ⟨s0, t0, s1, t1, s2, t2, s3, t3⟩ := HK.out w6 hL6.low
    have HB6 : Hid (Below w.heap.size w w6) := HB.out.trans (hL6.low.mono HB.out.size)
    clear hL6 hsm
    go_wp2_with fail
    refine bodyPost_ret (v := .tuple #[.agg #[.string { data := #[] }, .slice none 0 0, .slice none 0 0, .slice none 0 0], .int .i64 6]) (by simp [results, Tryz.results12, go_sem, *]) rfl ?_
    exact AsmOut.bad HR.out (below_st4 HB6.out hle)
   | true =>
    rw [hS] at hsm
    have HR : Hid (Z.asm ts = (Z.obj ts, 0)) := by show _ = _; rw [HA.out, hS]; rfl
    clear hS
    go_wp2_with fail
    refine hsm.mono ?_
    rintro e w6 ⟨rfl, hL6⟩
    have hobj := object_any hL6 HV.out hl HJ.out HOK.out
    have HL6 : Hid (Below W1.heap.size W1 w6) := hL6.low
    have hs6 : rb < w6.heap.size := Nat.lt_of_lt_of_le hs1 HL6.out.size
    clear hL6 hsm
    go_wp2_with fail
    refine hobj.mono ?_
    rintro e w7 ⟨vd, vs, vr, rfl, o1, o2, o3, hb7⟩
    obtain ⟨s0, t0, s1, t1, s2, t2, s3, t3⟩ := HK.out w7 (HL6.out.trans (hb7.mono HL6.out.size))
    obtain ⟨ad, cd, rfl⟩ := own_slice o1
    obtain ⟨as2, cs, rfl⟩ := own_slice o2
    obtain ⟨ar, cr, rfl⟩ := own_slice o3
    have HB7 : Hid (Below w.heap.size w w7) := HB.out.trans ((HL6.out.trans (hb7.mono HL6.out.size)).mono HB.out.size)
    have HO1 : Hid _ := o1
    have HO2 : Hid _ := o2
    have HO3 : Hid _ := o3
    have hw6 : w.heap.size ≤ w6.heap.size := by omega
    clear hb7 hobj o1 o2 o3
    obtain ⟨oc, hoc⟩ : ∃ oc, (Z.obj ts).code = oc := ⟨_, rfl⟩
    obtain ⟨ld, hld⟩ : ∃ ld, (Z.obj ts).data.length = ld := ⟨_, rfl⟩
    obtain ⟨ls, hls⟩ : ∃ ls, (Z.obj ts).syms.length = ls := ⟨_, rfl⟩
    obtain ⟨lr, hlr⟩ : ∃ lr, (Z.obj ts).rels.length = lr := ⟨_, rfl⟩
    rw [hld] at HO1
    rw [hls] at HO2
    rw [hlr] at HO3
    rw [hoc, hld, hls, hlr]
    have HQ : Hid _ := (⟨hoc, hld, hls, hlr⟩ : (Z.obj ts).code = oc ∧ (Z.obj ts).data.length = ld ∧ (Z.obj ts).syms.length = ls ∧ (Z.obj ts).rels.length = lr)
    clear hoc hld hls hlr
    go_wp2_with fail
    refine bodyPost_ret (v := .tuple #[.agg #[.string oc, .slice ad ld cd, .slice as2 ls cs, .slice ar lr cr], .int .i64 0]) (by simp [results, Tryz.results12, go_sem, *]) rfl ?_
    rw [HR.out]
    refine ⟨.slice ad ld cd, .slice as2 ls cs, .slice ar lr cr, by rw [HQ.out.1]; rfl, ?_, ?_, ?_, below_st4 HB7.out hle⟩
    ·rw [HQ.out.2.1]; exact own_baseB (own_st4 HO1.out hs6) hw6
    ·rw [HQ.out.2.2.1]; exact own_baseB (own_st4 HO2.out hs6) hw6
    ·rw [HQ.out.2.2.2]; exact own_baseB (own_st4 HO3.out hs6) hw6

end Go.Proofs.YtgjingleolhkbaaGreatDoor

/- Text. -/
namespace Go.Proofs.YtgjingleolhkbaaGreatDoor
open Go.RowKit Go.Maps Go.Lib
set_option linter.unusedVariables false
set_option linter.unusedSimpArgs false

theorem ints_of_own {W : World} {B : Nat} {aw : Option Addr} {lw cw : Nat} {ns : List Int} (h : W.ownsRow B 2 1 (.slice aw lw cw) lw (iC ns)) : IntsV W aw lw cw ns := by
 have hl : ns.length = lw := by have := h.1; unfold iC at this; simpa using this
 rcases h.2 with ⟨e1, rfl⟩ | ⟨g, cap, cur, e1, -, -, h1, h2, -⟩
 ·cases e1; exact ⟨hl, ⟨Nat.le_refl _, Nat.zero_le _⟩, .inl rfl⟩
 ·cases e1
  refine ⟨hl, ⟨h1, h2⟩, .inr ⟨_, 0, rfl, fun i hi => ?_⟩⟩
  rw [Nat.zero_add, h.cellAt i (by omega)]
  unfold iC
  rw [List.getElem?_map]
  have : i < ns.length := by omega
  simp [List.getD, this]
theorem its_of_own {W : World} {B B' : Nat} {tv : List (X.It × Value)} {a : Option Addr} {c : Nat} (h : W.ownsRow B 44 7 (.slice a tv.length c) tv.length (tv.flatMap itF)) (ho : ItO B' W tv) (hf : ∀ t ∈ tv.map (·.1), X.fitsIt t) : ItsV W a tv.length c (tv.map (·.1)) := by
 have hfit : ∀ t ∈ tv.map (·.1), t.name.length ≤ maxLen ∧ X.fitsIt t := fun t ht => by
  obtain ⟨p, hp, rfl⟩ := List.mem_map.1 ht
  exact ⟨Nat.le_trans (ho p hp).1 (by unfold maxLen; omega), hf _ ht⟩
 rcases h.2 with ⟨e1, e2⟩ | ⟨g, cap, cur, e1, -, -, h1, h2, -⟩
 ·injection e1 with e1 _ e3
  subst e1 e3
  exact ⟨by simp, ⟨by omega, Nat.zero_le _⟩, hfit, .inl e2⟩
 ·injection e1 with e1 _ e3
  subst e1 e3
  refine ⟨by simp, ⟨h1, h2⟩, hfit, .inr ⟨g, 0, rfl, fun i hi => ?_⟩⟩
  have hg : (tv.map (·.1)).getD i X.noIt = (tv.getD i (X.noIt, .slice none 0 0)).1 := by simp [List.getD, hi]
  have hm : tv.getD i (X.noIt, .slice none 0 0) ∈ tv := by simp [List.getD, hi]
  obtain ⟨-, aw, lw, cw, e, hw⟩ := ho _ hm
  have hc : ∀ j u, j < 7 → (itF (tv.getD i (X.noIt, .slice none 0 0)))[j]? = some u → W.cell? ⟨g, i * 7 + j, none⟩ = some u := fun j u hj hu => by
   rw [h.cellAt _ (by omega), flat_at itF 7 (X.noIt, .slice none 0 0) itF_len tv i j hi hj]
   exact hu
  rw [hg]
  refine ⟨aw, lw, cw, ?_, ?_, ?_, ?_, ?_, ?_, ?_, ints_of_own hw⟩
  ·simpa using hc 0 _ (by omega) rfl
  ·simpa using hc 1 _ (by omega) rfl
  ·simpa using hc 2 _ (by omega) rfl
  ·simpa using hc 3 _ (by omega) rfl
  ·simpa using hc 4 _ (by omega) rfl
  ·simpa using hc 5 _ (by omega) rfl
  ·rw [← e]; simpa using hc 6 _ (by omega) rfl
def ParseV (w : World) (r : List X.It × Nat) (e : Ending) (w' : World) : Prop := ∃ a c, e = .returned (.tuple #[.slice a r.1.length c, .int .i64 r.2]) ∧ ItsV w' a r.1.length c r.1 ∧ Below w.heap.size w w'
theorem parse_v (s : ByteArray) (hs : s.size ≤ maxLen) (w : World) (ht : Tab w) :
  Calls Tryz.prog 38 #[.string s] w (ParseV w (X.parse s.data.toList)) := by
 refine (parse_any s hs w ht).mono ?_
 rintro e w' ⟨tv, a, c, rfl, h1, h2, h3, h4⟩
 obtain ⟨-, -, -, -, hf⟩ := X.parse_ok (s := s.data.toList) (l := (X.parse s.data.toList).1) (z := (X.parse s.data.toList).2) rfl
 have hl : (X.parse s.data.toList).1.length = tv.length := by rw [← h1]; simp
 have hv := its_of_own h2 h3 (by rw [h1]; exact hf)
 rw [h1] at hv
 refine ⟨a, c, by rw [hl], by rw [hl]; exact hv, h4⟩

namespace Z
def text (s : X.By) : O.ObjD × Nat := if (X.parse s).2 = 0 then asm (X.parse s).1 else (noObj, (X.parse s).2)
end Z
set_option maxRecDepth 100000 in
set_option maxHeartbeats 8000000 in
theorem text_any (s : ByteArray) (hs : s.size ≤ maxLen) (w : World) (ht : Tab w) (hJ : J.Tab w) :
  Calls Tryz.prog 17 #[.string s] w (AsmOut w (Z.text s.data.toList)) := by
 obtain ⟨rb, hrb⟩ : ∃ rb, w.heap.size = rb := ⟨_, rfl⟩
 obtain ⟨W1, hW1⟩ : ∃ W1, w.alloc (.cells #[.string { data := #[] }, .slice none 0 0, .slice none 0 0, .slice none 0 0] 30) = W1 := ⟨_, rfl⟩
 have bW1 : Below w.heap.size w W1 := by subst hW1; exact bl1 _ _
 have hs1 : rb < W1.heap.size := by subst hW1 hrb; simp
 have hle : w.heap.size ≤ rb := by omega
 have r0 : W1.cell? ⟨rb, 0, none⟩ = some (.string { data := #[] }) := by subst hW1 hrb; exact cellA rfl rfl
 have z0 : W1.frozen? ⟨rb, 0, none⟩ = false := by subst hW1 hrb; exact World.frozen?_alloc_at _ _ _ _ rfl
 have r1 : W1.cell? ⟨rb, 1, none⟩ = some (.slice none 0 0) := by subst hW1 hrb; exact cellA rfl rfl
 have z1 : W1.frozen? ⟨rb, 1, none⟩ = false := by subst hW1 hrb; exact World.frozen?_alloc_at _ _ _ _ rfl
 have r2 : W1.cell? ⟨rb, 2, none⟩ = some (.slice none 0 0) := by subst hW1 hrb; exact cellA rfl rfl
 have z2 : W1.frozen? ⟨rb, 2, none⟩ = false := by subst hW1 hrb; exact World.frozen?_alloc_at _ _ _ _ rfl
 have r3 : W1.cell? ⟨rb, 3, none⟩ = some (.slice none 0 0) := by subst hW1 hrb; exact cellA rfl rfl
 have z3 : W1.frozen? ⟨rb, 3, none⟩ = false := by subst hW1 hrb; exact World.frozen?_alloc_at _ _ _ _ rfl
 have HT : Hid (Tab W1) := ht.below bW1
 have HJ : Hid (J.Tab W1) := J.Tab.below hJ bW1
 have HB : Hid (Below w.heap.size w W1) := bW1
 have HK : Hid (∀ W', Below W1.heap.size W1 W' → W'.cell? ⟨rb, 0, none⟩ = some (.string { data := #[] }) ∧ W'.frozen? ⟨rb, 0, none⟩ = false ∧ W'.cell? ⟨rb, 1, none⟩ = some (.slice none 0 0) ∧ W'.frozen? ⟨rb, 1, none⟩ = false ∧ W'.cell? ⟨rb, 2, none⟩ = some (.slice none 0 0) ∧ W'.frozen? ⟨rb, 2, none⟩ = false ∧ W'.cell? ⟨rb, 3, none⟩ = some (.slice none 0 0) ∧ W'.frozen? ⟨rb, 3, none⟩ = false) := fun W' hb => ⟨cell_thru hb r0, (hb.frozen (p := ⟨rb, 0, none⟩) hs1).trans z0, cell_thru hb r1, (hb.frozen (p := ⟨rb, 1, none⟩) hs1).trans z1, cell_thru hb r2, (hb.frozen (p := ⟨rb, 2, none⟩) hs1).trans z2, cell_thru hb r3, (hb.frozen (p := ⟨rb, 3, none⟩) hs1).trans z3⟩
 have hp := parse_v s hs W1 HT.out
 have HTX : Hid (Z.text s.data.toList = if (X.parse s.data.toList).2 = 0 then Z.asm (X.parse s.data.toList).1 else (Z.noObj, (X.parse s.data.toList).2)) := rfl
 obtain ⟨⟨l, z⟩, hr⟩ : ∃ r, X.parse s.data.toList = r := ⟨_, rfl⟩
 rw [hr] at hp HTX
 simp only at hp HTX
 clear ht hJ bW1 hr
 go_enter Tryz.func17, Tryz.ntmps17
 go_wp2_with fail
 refine hp.mono ?_
 rintro e w2 ⟨a, c, rfl, hV, hb2⟩
 simp only at hV ⊢
 have HB2 : Hid (Below W1.heap.size W1 w2) := hb2
 clear hp hb2
 by_cases hz : z = 0
 ·subst hz
  have HR : Hid (Z.text s.data.toList = Z.asm l) := by show _ = _; rw [HTX.out]; rfl
  have hasm := asm_any hV (HT.out.below HB2.out) (J.Tab.below HJ.out HB2.out)
  have hs2 : rb < w2.heap.size := Nat.lt_of_lt_of_le hs1 HB2.out.size
  have hw2 : w.heap.size ≤ w2.heap.size := by omega
  obtain ⟨ll, hll⟩ : ∃ ll, l.length = ll := ⟨_, rfl⟩
  rw [hll] at hasm ⊢
  clear hV hll
  go_wp2_with fail
  refine hasm.mono ?_
  rintro e w7 ⟨vd, vs, vr, rfl, o1, o2, o3, hb7⟩
  obtain ⟨s0, t0, s1, t1, s2, t2, s3, t3⟩ := HK.out w7 (HB2.out.trans (hb7.mono HB2.out.size))
  have HB7 : Hid (Below w.heap.size w w7) := HB.out.trans ((HB2.out.trans (hb7.mono HB2.out.size)).mono HB.out.size)
  have HAO : Hid (∀ W', (∀ ty k v n cs, w7.ownsRow w2.heap.size ty k v n cs → W'.ownsRow w2.heap.size ty k v n cs) → Below w.heap.size w W' → AsmOut w (Z.text s.data.toList) (.returned (.tuple #[.agg #[.string (Z.asm l).1.code, vd, vs, vr], .int .i64 (Z.asm l).2])) W') := fun W' hk hb => by
   rw [HR.out]
   exact ⟨vd, vs, vr, rfl, own_baseB (hk _ _ _ _ _ o1) hw2, own_baseB (hk _ _ _ _ _ o2) hw2, own_baseB (hk _ _ _ _ _ o3) hw2, hb⟩
  obtain ⟨ad, cd, rfl⟩ := own_slice o1
  obtain ⟨as2, cs, rfl⟩ := own_slice o2
  obtain ⟨ar, cr, rfl⟩ := own_slice o3
  generalize (Z.asm l).1.code = oc at *
  generalize (Z.asm l).1.data.length = ld at *
  generalize (Z.asm l).1.syms.length = ls at *
  generalize (Z.asm l).1.rels.length = lr at *
  generalize (Z.asm l).2 = en at *
  clear o1 o2 o3 hb7 hasm
  go_wp2_with fail
  refine bodyPost_ret (v := .tuple #[.agg #[.string oc, .slice ad ld cd, .slice as2 ls cs, .slice ar lr cr], .int .i64 en]) (by simp [results, Tryz.results17, go_sem, *]) rfl ?_
  exact HAO.out _ (fun ty k v n cs h => own_st4 h hs2) (below_st4 HB7.out hle)
 ·have HR : Hid (Z.text s.data.toList = (Z.noObj, z)) := by show _ = _; rw [HTX.out, if_neg hz]
  have hz' : ((z : Int) != 0) = true := by simp; omega
  obtain ⟨s0, t0, s1, t1, s2, t2, s3, t3⟩ := HK.out w2 HB2.out
  have HB4 : Hid (Below w.heap.size w w2) := HB.out.trans (HB2.out.mono HB.out.size)
  clear hV hz
  go_wp2_with fail
  refine bodyPost_ret (v := .tuple #[.agg #[.string { data := #[] }, .slice none 0 0, .slice none 0 0, .slice none 0 0], .int .i64 z]) (by simp [results, Tryz.results17, go_sem, *]) rfl ?_
  exact AsmOut.bad HR.out (below_st4 HB4.out hle)

end Go.Proofs.YtgjingleolhkbaaGreatDoor

/- Examples. -/
namespace Go.Proofs.YtgjingleolhkbaaGreatDoor
open Go.RowKit Go.Maps Go.Lib
def lx1 : X.By := [120, 58, 10, 106, 109, 112, 32, 120, 10, 99, 97, 108, 108, 32, 121, 10, 46, 103, 108, 111, 98, 97, 108, 32, 120, 10]
def lx2 : X.By := [106, 109, 112, 32, 121, 10]
theorem lp1 : X.parse lx1 = ([⟨1, [120], 0, 0, 0, 0, []⟩, ⟨2, [120], 20, 0, 0, 0, []⟩, ⟨2, [121], 23, 0, 0, 0, []⟩, ⟨4, [120], 0, 0, 0, 0, []⟩], 0) := by decide +kernel
theorem lp2 : X.parse lx2 = ([⟨2, [121], 20, 0, 0, 0, []⟩], 0) := by decide +kernel
theorem la1 : Z.asm [⟨1, [120], 0, 0, 0, 0, []⟩, ⟨2, [120], 20, 0, 0, 0, []⟩, ⟨2, [121], 23, 0, 0, 0, []⟩, ⟨4, [120], 0, 0, 0, 0, []⟩] = (⟨{ data := #[25, 254, 23, 0, 0, 0, 0] }, [], [⟨{ data := #[120] }, 1, 0⟩], [⟨3, 1, { data := #[121] }, 0⟩]⟩, 0) := by kernel_rfl
theorem la2 : Z.asm [⟨2, [121], 20, 0, 0, 0, []⟩] = (Z.noObj, 6) := by kernel_rfl
end Go.Proofs.YtgjingleolhkbaaGreatDoor

/- Objects: what may be, no program in sight; and how an object lies. -/
namespace Go.Proofs.YtgjingleolhkbaaGreatDoor.O
open Go.RowKit Go.Maps

def nameOk (s : ByteArray) : Bool := decide (1 ≤ s.size) && decide (s.size ≤ 28)
def roomOf (cl dl : Nat) (k : Int) : Int := if k = 1 ∨ k = 3 then cl else if k = 2 then dl else 0
def addOk (k n : Int) : Bool := if k = 1 then decide (n = 0) else if k = 2 then decide (-2147483648 ≤ n) && decide (n ≤ 2147483647) else false
def symOk (cl dl : Nat) (s : Sym) : Bool := nameOk s.name && (decide (0 ≤ s.pos) && decide (s.pos < roomOf cl dl s.kind))
def symAt (cl dl : Nat) (ss : List Sym) (i : Nat) : Bool := (List.range i).all (fun j => decide ((ss.getD j noSym).name ≠ (ss.getD i noSym).name)) && symOk cl dl (ss.getD i noSym)
def symsOk (cl dl : Nat) (ss : List Sym) : Bool := decide (ss.length ≤ 1000) && (List.range ss.length).all (symAt cl dl ss)
def freeAt (rs : List Rel) (i : Nat) : Int := if i = 0 then 0 else (rs.getD (i - 1) noRel).pos + 4
def relOk (cl : Nat) (free : Int) (r : Rel) : Bool := (decide (free ≤ r.pos) && decide (r.pos ≤ (cl : Int) - 4)) && (nameOk r.name && addOk r.kind r.add)
def relsOk (cl : Nat) (rs : List Rel) : Bool := decide (rs.length ≤ 8000) && (List.range rs.length).all fun i => relOk cl (freeAt rs i) (rs.getD i noRel)
def ObjD.may (o : ObjD) : Bool := (decide (o.code.size ≤ 65536) && decide (o.data.length ≤ 4096)) && (symsOk o.code.size o.data.length o.syms && relsOk o.code.size o.rels)

theorem all_range_no {n i : Nat} {f : Nat → Bool} (hi : i < n) (h : f i = false) : (List.range n).all f = false := by
 rw [← Bool.not_eq_true, List.all_eq_true]
 intro h'
 have := h' i (List.mem_range.2 hi)
 rw [h] at this
 cases this
theorem all_range_yes {n : Nat} {f : Nat → Bool} (h : ∀ i, i < n → f i = true) : (List.range n).all f = true := by
 rw [List.all_eq_true]
 intro i hi
 exact h i (List.mem_range.1 hi)

structure IntsV (w : World) (a : Option Addr) (len cap : Nat) (zs : List Int) : Prop where
 count : zs.length = len
 fits : ∀ n ∈ zs, (Lit.int .i64 n).wf = true
 nilOf : a = none → len = 0 ∧ cap = 0
 cells : len = 0 ∨ ∃ b off, a = some ⟨b, off, none⟩ ∧ ∀ i, i < len → w.cell? ⟨b, off + i, none⟩ = some (.int .i64 (zs.getD i 0))
structure SymsV (w : World) (a : Option Addr) (len cap : Nat) (ss : List Sym) : Prop where
 count : ss.length = len
 fits : ∀ s ∈ ss, s.name.size ≤ maxLen ∧ (Lit.int .i64 s.kind).wf = true ∧ (Lit.int .i64 s.pos).wf = true
 nilOf : a = none → len = 0 ∧ cap = 0
 cells : len = 0 ∨ ∃ b off, a = some ⟨b, off, none⟩ ∧ ∀ i, i < len → w.cell? ⟨b, off + i * 3, none⟩ = some (.string (ss.getD i noSym).name) ∧ w.cell? ⟨b, off + i * 3 + 1, none⟩ = some (.int .i64 (ss.getD i noSym).kind) ∧ w.cell? ⟨b, off + i * 3 + 2, none⟩ = some (.int .i64 (ss.getD i noSym).pos)
structure RelsV (w : World) (a : Option Addr) (len cap : Nat) (rs : List Rel) : Prop where
 count : rs.length = len
 fits : ∀ r ∈ rs, r.name.size ≤ maxLen ∧ (Lit.int .i64 r.kind).wf = true ∧ (Lit.int .i64 r.pos).wf = true ∧ (Lit.int .i64 r.add).wf = true
 nilOf : a = none → len = 0 ∧ cap = 0
 cells : len = 0 ∨ ∃ b off, a = some ⟨b, off, none⟩ ∧ ∀ i, i < len → w.cell? ⟨b, off + i * 4, none⟩ = some (.int .i64 (rs.getD i noRel).pos) ∧ w.cell? ⟨b, off + i * 4 + 1, none⟩ = some (.int .i64 (rs.getD i noRel).kind) ∧ w.cell? ⟨b, off + i * 4 + 2, none⟩ = some (.string (rs.getD i noRel).name) ∧ w.cell? ⟨b, off + i * 4 + 3, none⟩ = some (.int .i64 (rs.getD i noRel).add)

theorem IntsV.below {w w1 : World} {a : Option Addr} {len cap : Nat} {zs : List Int} (h : IntsV w a len cap zs) (hb : Below w.heap.size w w1) : IntsV w1 a len cap zs := by
 refine ⟨h.count, h.fits, h.nilOf, ?_⟩
 rcases h.cells with h0 | ⟨b, off, ha, hc⟩
 ·exact .inl h0
 ·exact .inr ⟨b, off, ha, fun i hi => (hb.cell (p := ⟨b, off + i, none⟩) (World.block_lt_of_cell? w ⟨b, off + i, none⟩ (hc i hi))).trans (hc i hi)⟩
theorem SymsV.below {w w1 : World} {a : Option Addr} {len cap : Nat} {ss : List Sym} (h : SymsV w a len cap ss) (hb : Below w.heap.size w w1) : SymsV w1 a len cap ss := by
 refine ⟨h.count, h.fits, h.nilOf, ?_⟩
 rcases h.cells with h0 | ⟨b, off, ha, hc⟩
 ·exact .inl h0
 ·refine .inr ⟨b, off, ha, fun i hi => ?_⟩
  obtain ⟨k0, k1, k2⟩ := hc i hi
  have hbl : b < w.heap.size := World.block_lt_of_cell? w ⟨b, off + i * 3, none⟩ k0
  exact ⟨(hb.cell (p := ⟨b, off + i * 3, none⟩) hbl).trans k0, (hb.cell (p := ⟨b, off + i * 3 + 1, none⟩) hbl).trans k1, (hb.cell (p := ⟨b, off + i * 3 + 2, none⟩) hbl).trans k2⟩
theorem RelsV.below {w w1 : World} {a : Option Addr} {len cap : Nat} {rs : List Rel} (h : RelsV w a len cap rs) (hb : Below w.heap.size w w1) : RelsV w1 a len cap rs := by
 refine ⟨h.count, h.fits, h.nilOf, ?_⟩
 rcases h.cells with h0 | ⟨b, off, ha, hc⟩
 ·exact .inl h0
 ·refine .inr ⟨b, off, ha, fun i hi => ?_⟩
  obtain ⟨k0, k1, k2, k3⟩ := hc i hi
  have hbl : b < w.heap.size := World.block_lt_of_cell? w ⟨b, off + i * 4, none⟩ k0
  exact ⟨(hb.cell (p := ⟨b, off + i * 4, none⟩) hbl).trans k0, (hb.cell (p := ⟨b, off + i * 4 + 1, none⟩) hbl).trans k1, (hb.cell (p := ⟨b, off + i * 4 + 2, none⟩) hbl).trans k2, (hb.cell (p := ⟨b, off + i * 4 + 3, none⟩) hbl).trans k3⟩
structure ObjV (w : World) (v : Value) (o : ObjD) : Prop where
 form : ∃ a1 l1 c1 a2 l2 c2 a3 l3 c3, v = .agg #[.string o.code, .slice a1 l1 c1, .slice a2 l2 c2, .slice a3 l3 c3] ∧ o.code.size ≤ maxLen ∧ IntsV w a1 l1 c1 o.data ∧ SymsV w a2 l2 c2 o.syms ∧ RelsV w a3 l3 c3 o.rels
theorem ObjV.below {w w1 : World} {v : Value} {o : ObjD} (h : ObjV w v o) (hb : Below w.heap.size w w1) : ObjV w1 v o := by
 obtain ⟨a1, l1, c1, a2, l2, c2, a3, l3, c3, e, hs, h1, h2, h3⟩ := h.form
 exact ⟨⟨a1, l1, c1, a2, l2, c2, a3, l3, c3, e, hs, h1.below hb, h2.below hb, h3.below hb⟩⟩

theorem cell_thru {w w' : World} {p : Addr} {v : Value} (hb : Below w.heap.size w w') (h : w.cell? p = some v) : w'.cell? p = some v := (hb.cell (p := p) (World.block_lt_of_cell? w p h)).trans h

theorem bytes_ext {a b : ByteArray} (h : a.data.toList = b.data.toList) : a = b := by
 cases a; cases b; simp at h; rw [h]

end Go.Proofs.YtgjingleolhkbaaGreatDoor.O

/- What nameMayBe, room and addMayBe come to. -/
namespace Go.Proofs.YtgjingleolhkbaaGreatDoor.O
open Go.RowKit Go.Maps
set_option linter.unusedVariables false

end Go.Proofs.YtgjingleolhkbaaGreatDoor.O

/- What objf.Check comes to. (Written by gen_check.py.) -/
namespace Go.Proofs.YtgjingleolhkbaaGreatDoor.O
open Go.RowKit Go.Maps
set_option linter.unusedVariables false

theorem lawS : Keyed Tryz.prog 9 := string_keyed Tryz.underlying9
theorem zeroU (w : World) : (zeroValue 106).run Tryz.prog w = .ok (.agg #[]) w := by kernel_rfl

end Go.Proofs.YtgjingleolhkbaaGreatDoor.O

/- What relocsMayBe and Check come to. -/
namespace Go.Proofs.YtgjingleolhkbaaGreatDoor.O
open Go.RowKit Go.Maps
set_option linter.unusedVariables false

theorem rels_no {cl : Nat} {rs : List Rel} {k : Nat} (hk : k < rs.length) (h : relOk cl (freeAt rs k) (rs.getD k noRel) = false) : relsOk cl rs = false := by
 unfold relsOk
 rw [all_range_no hk h, Bool.and_false]

end Go.Proofs.YtgjingleolhkbaaGreatDoor.O

/- What the document's SameData, SameSyms and Same come to. (Written by gen_same.py.) -/
namespace Go.Proofs.YtgjingleolhkbaaGreatDoor.O
open Go.RowKit Go.Maps Go.Lib
set_option linter.unusedVariables false

theorem bl_drewN {B : Nat} {x y : World} (h : Below B x y) (m : Nat) : Below B x (y.drewN m) := ⟨h.os, h.tape, h.output, h.size, h.block⟩
theorem list_ext_getD {α : Type} {xs ys : List α} (d : α) (hl : xs.length = ys.length) (h : ∀ i, i < xs.length → xs.getD i d = ys.getD i d) : xs = ys := by
 refine List.ext_getElem hl fun i h1 h2 => ?_
 have := h i h1
 simpa [List.getD, h1, h2] using this
theorem bool_of (P : Prop) : ∃ b : Bool, (b = true ↔ P) := by
 by_cases h : P
 ·exact ⟨true, by simp [h]⟩
 ·exact ⟨false, by simp [h]⟩
theorem bool_no {b : Bool} {P : Prop} (h : b = true ↔ P) (hn : ¬ P) : b = false := by
 cases b with
 | false => rfl
 | true => exact absurd (h.1 rfl) hn
theorem toList_ne {a b : ByteArray} (h : ¬ a = b) : (a.toList == b.toList) = false := by
 rw [ByteArray.toList_eq, ByteArray.toList_eq]
 exact beq_eq_false_iff_ne.2 (fun e => h (bytes_ext e))
theorem symEq_yes (n : ByteArray) (k p : Int) (w : World) : (Op.equalIn 10000 69 (.agg #[.string n, .int .i64 k, .int .i64 p]) (.agg #[.string n, .int .i64 k, .int .i64 p])).run Tryz.prog w = .ok true w := by
 go_simp
theorem symEq_no {n n' : ByteArray} {k p k' p' : Int} (h : ¬ (⟨n, k, p⟩ : Sym) = ⟨n', k', p'⟩) (w : World) : (Op.equalIn 10000 69 (.agg #[.string n, .int .i64 k, .int .i64 p]) (.agg #[.string n', .int .i64 k', .int .i64 p'])).run Tryz.prog w = .ok false w := by
 by_cases h1 : n = n'
 ·subst h1
  by_cases h2 : k = k'
  ·subst h2
   by_cases h3 : p = p'
   ·subst h3; exact absurd rfl h
   ·clear h
    go_simp
  ·clear h
   go_simp
 ·clear h
  have hd := toList_ne h1
  go_simp
theorem relEq_yes (p k : Int) (n : ByteArray) (a : Int) (w : World) : (Op.equalIn 10000 51 (.agg #[.int .i64 p, .int .i64 k, .string n, .int .i64 a]) (.agg #[.int .i64 p, .int .i64 k, .string n, .int .i64 a])).run Tryz.prog w = .ok true w := by
 go_simp
theorem relEq_no {n n' : ByteArray} {k p a k' p' a' : Int} (h : ¬ (⟨p, k, n, a⟩ : Rel) = ⟨p', k', n', a'⟩) (w : World) : (Op.equalIn 10000 51 (.agg #[.int .i64 p, .int .i64 k, .string n, .int .i64 a]) (.agg #[.int .i64 p', .int .i64 k', .string n', .int .i64 a'])).run Tryz.prog w = .ok false w := by
 by_cases h1 : p = p'
 ·subst h1
  by_cases h2 : k = k'
  ·subst h2
   by_cases h3 : n = n'
   ·subst h3
    by_cases h4 : a = a'
    ·subst h4; exact absurd rfl h
    ·clear h
     go_simp
   ·clear h
    have hd := toList_ne h3
    go_simp
  ·clear h
   go_simp
 ·clear h
  go_simp

set_option maxRecDepth 100000 in
set_option maxHeartbeats 4000000 in
theorem samedata_any {w : World} {a1 a2 : Option Addr} {l1 c1 l2 c2 : Nat} {xs ys : List Int} (h1 : IntsV w a1 l1 c1 xs) (h2 : IntsV w a2 l2 c2 ys) (hm : l1 ≤ maxLen) (bb : Bool) (hbb : bb = true ↔ xs = ys) :
  Calls Tryz.prog 34 #[.slice a1 l1 c1, .slice a2 l2 c2] w fun e w' => e = .returned (.bool bb) ∧ Below w.heap.size w w' := by
 have HBB : Hid _ := hbb
 have H1 : Hid _ := h1
 have H2 : Hid _ := h2
 have hm' : l1 ≤ 9223372036854775807 := by unfold maxLen at hm; omega
 clear h1 h2 hm hbb
 by_cases hl : l1 = l2
 rotate_left
 ·have HNO : Hid (¬ xs = ys) := fun e => hl (by rw [← H1.out.count, ← H2.out.count, e])
  have hd : ((l1 : Int) != (l2 : Int)) = true := by simp; omega
  go_enter Tryz.func34, Tryz.ntmps34
  go_wp2
  go_ret
  exact ⟨by rw [bool_no HBB.out HNO.out]; rfl, Below.refl _ _⟩
 subst hl
 have hd : ((l1 : Int) != (l1 : Int)) = false := by simp
 go_enter Tryz.func34, Tryz.ntmps34
 go_wp2_with fail
 go_loopg [5] l1 (fun r iv wq => ∃ (k : Nat), iv = .int .i64 k ∧ k ≤ l1 ∧ l1 - k ≤ r ∧ Hid (∀ j, j < k → xs.getD j 0 = ys.getD j 0) ∧ Hid (Below w.heap.size w wq))
 case atStart => exact ⟨0, rfl, Nat.zero_le _, by omega, (fun j hj => by omega : ∀ j, j < 0 → xs.getD j 0 = ys.getD j 0), Below.refl _ _⟩
 case round =>
  obtain ⟨k, rfl, hk, hr, HAL, HBL⟩ := hrel
  by_cases hlt : k < l1
  ·rcases H1.out.cells with h0 | ⟨b, off, hA, hc⟩
   ·omega
   rcases H2.out.cells with h0 | ⟨b', off', hA', hc'⟩
   ·omega
   have k0 := hc k hlt
   have k0' := hc' k hlt
   have hb0 := World.block_lt_of_cell? w ⟨b, off + k, none⟩ k0
   have hb1 := World.block_lt_of_cell? w ⟨b', off' + k, none⟩ k0'
   have q0 := (HBL.out.cell (p := ⟨b, off + k, none⟩) hb0).trans k0
   have r0 := (HBL.out.cell (p := ⟨b', off' + k, none⟩) hb1).trans k0'
   have HNE : Hid (∀ {x y : Int}, xs.getD k 0 = x → ys.getD k 0 = y → x ≠ y → ¬ xs = ys) := fun hx hy hne e => hne (by rw [← hx, ← hy, e])
   have HEQ : Hid (∀ {x y : Int}, xs.getD k 0 = x → ys.getD k 0 = y → x = y → ∀ j, j < k + 1 → xs.getD j 0 = ys.getD j 0) := fun hx hy he j hj => by
    by_cases hjk : j = k
    ·rw [hjk, hx, hy, he]
    ·exact HAL.out j (by omega)
   obtain ⟨x, hx⟩ : ∃ x, xs.getD k 0 = x := ⟨_, rfl⟩
   obtain ⟨y, hy⟩ : ∃ y, ys.getD k 0 = y := ⟨_, rfl⟩
   rw [hx] at q0
   rw [hy] at r0
   have HX : Hid _ := hx
   have HY : Hid _ := hy
   subst hA
   subst hA'
   have hii : (k : Int) < l1 := by omega
   have hin : 0 ≤ (k : Int) := by omega
   clear hc hc' k0 k0' hx hy hb0 hb1
   by_cases he : (x : Int) = y
   ·have HNX : Hid _ := HEQ.out HX.out HY.out he
    have hde : (x != y) = false := by simp [he]
    clear he
    go_wp2_with fail
    go_quiet (fail)
    go_wp2_with fail
    go_roundg (l1 - (k + 1))
    case measure => omega
    case rel => exact ⟨k + 1, by first | rfl | (congr 1; omega), by omega, Nat.le_refl _, HNX.out, bl_drewN HBL.out _⟩
   ·have HNO : Hid _ := HNE.out HX.out HY.out he
    have hde : (x != y) = true := by simp [he]
    clear he
    go_wp2_with fail
    go_quiet (fail)
    go_wp2
    go_ret
    exact ⟨by rw [bool_no HBB.out HNO.out]; rfl, bl_drewN HBL.out _⟩
  ·obtain rfl : l1 = k := by omega
   have HYES : Hid (xs = ys) := list_ext_getD 0 (by rw [H1.out.count, H2.out.count]) (fun i hi => HAL.out i (by rw [← H1.out.count]; exact hi))
   go_wp2_with fail
   go_ret
   exact ⟨by rw [HBB.out.2 HYES.out]; rfl, HBL.out⟩

set_option maxRecDepth 100000 in
set_option maxHeartbeats 4000000 in
theorem samesyms_any {w : World} {a1 a2 : Option Addr} {l1 c1 l2 c2 : Nat} {xs ys : List Sym} (h1 : SymsV w a1 l1 c1 xs) (h2 : SymsV w a2 l2 c2 ys) (hm : l1 ≤ maxLen) (bb : Bool) (hbb : bb = true ↔ xs = ys) :
  Calls Tryz.prog 35 #[.slice a1 l1 c1, .slice a2 l2 c2] w fun e w' => e = .returned (.bool bb) ∧ Below w.heap.size w w' := by
 have HBB : Hid _ := hbb
 have H1 : Hid _ := h1
 have H2 : Hid _ := h2
 have hm' : l1 ≤ 9223372036854775807 := by unfold maxLen at hm; omega
 clear h1 h2 hm hbb
 by_cases hl : l1 = l2
 rotate_left
 ·have HNO : Hid (¬ xs = ys) := fun e => hl (by rw [← H1.out.count, ← H2.out.count, e])
  have hd : ((l1 : Int) != (l2 : Int)) = true := by simp; omega
  go_enter Tryz.func35, Tryz.ntmps35
  go_wp2
  go_ret
  exact ⟨by rw [bool_no HBB.out HNO.out]; rfl, Below.refl _ _⟩
 subst hl
 have hd : ((l1 : Int) != (l1 : Int)) = false := by simp
 go_enter Tryz.func35, Tryz.ntmps35
 go_wp2_with fail
 go_loopg [5] l1 (fun r iv wq => ∃ (k : Nat), iv = .int .i64 k ∧ k ≤ l1 ∧ l1 - k ≤ r ∧ Hid (∀ j, j < k → xs.getD j noSym = ys.getD j noSym) ∧ Hid (Below w.heap.size w wq))
 case atStart => exact ⟨0, rfl, Nat.zero_le _, by omega, (fun j hj => by omega : ∀ j, j < 0 → xs.getD j noSym = ys.getD j noSym), Below.refl _ _⟩
 case round =>
  obtain ⟨k, rfl, hk, hr, HAL, HBL⟩ := hrel
  by_cases hlt : k < l1
  ·rcases H1.out.cells with h0 | ⟨b, off, hA, hc⟩
   ·omega
   rcases H2.out.cells with h0 | ⟨b', off', hA', hc'⟩
   ·omega
   obtain ⟨k0, k1, k2⟩ := hc k hlt
   obtain ⟨k0', k1', k2'⟩ := hc' k hlt
   have hb0 := World.block_lt_of_cell? w ⟨b, off + k * 3, none⟩ k0
   have hb1 := World.block_lt_of_cell? w ⟨b', off' + k * 3, none⟩ k0'
   have q0 := (HBL.out.cell (p := ⟨b, off + k * 3, none⟩) hb0).trans k0
   have r0 := (HBL.out.cell (p := ⟨b', off' + k * 3, none⟩) hb1).trans k0'
   have q1 := (HBL.out.cell (p := ⟨b, off + k * 3 + 1, none⟩) hb0).trans k1
   have r1 := (HBL.out.cell (p := ⟨b', off' + k * 3 + 1, none⟩) hb1).trans k1'
   have q2 := (HBL.out.cell (p := ⟨b, off + k * 3 + 2, none⟩) hb0).trans k2
   have r2 := (HBL.out.cell (p := ⟨b', off' + k * 3 + 2, none⟩) hb1).trans k2'
   have HNE : Hid (∀ {x y : Sym}, xs.getD k noSym = x → ys.getD k noSym = y → x ≠ y → ¬ xs = ys) := fun hx hy hne e => hne (by rw [← hx, ← hy, e])
   have HEQ : Hid (∀ {x y : Sym}, xs.getD k noSym = x → ys.getD k noSym = y → x = y → ∀ j, j < k + 1 → xs.getD j noSym = ys.getD j noSym) := fun hx hy he j hj => by
    by_cases hjk : j = k
    ·rw [hjk, hx, hy, he]
    ·exact HAL.out j (by omega)
   obtain ⟨⟨xn, xk, xp⟩, hx⟩ : ∃ x, xs.getD k noSym = x := ⟨_, rfl⟩
   obtain ⟨⟨yn, yk, yp⟩, hy⟩ : ∃ y, ys.getD k noSym = y := ⟨_, rfl⟩
   rw [hx] at q0 q1 q2
   rw [hy] at r0 r1 r2
   simp only at q0 r0 q1 r1 q2 r2
   have HX : Hid _ := hx
   have HY : Hid _ := hy
   subst hA
   subst hA'
   have hii : (k : Int) < l1 := by omega
   have hin : 0 ≤ (k : Int) := by omega
   clear hc hc' k0 k0' k1 k1' k2 k2' hx hy hb0 hb1
   by_cases he : (⟨xn, xk, xp⟩ : Sym) = ⟨yn, yk, yp⟩
   ·have HNX : Hid _ := HEQ.out HX.out HY.out he
    injection he with en ek ep
    subst en
    subst ek
    subst ep
    have hde := fun w => symEq_yes xn xk xp w
    go_wp2_with fail
    go_quiet (fail)
    go_wp2_with fail
    go_roundg (l1 - (k + 1))
    case measure => omega
    case rel => exact ⟨k + 1, by first | rfl | (congr 1; omega), by omega, Nat.le_refl _, HNX.out, bl_drewN HBL.out _⟩
   ·have HNO : Hid _ := HNE.out HX.out HY.out he
    have hde := fun w => symEq_no he w
    clear he
    go_wp2_with fail
    go_quiet (fail)
    go_wp2
    go_ret
    exact ⟨by rw [bool_no HBB.out HNO.out]; rfl, bl_drewN HBL.out _⟩
  ·obtain rfl : l1 = k := by omega
   have HYES : Hid (xs = ys) := list_ext_getD noSym (by rw [H1.out.count, H2.out.count]) (fun i hi => HAL.out i (by rw [← H1.out.count]; exact hi))
   go_wp2_with fail
   go_ret
   exact ⟨by rw [HBB.out.2 HYES.out]; rfl, HBL.out⟩

set_option maxRecDepth 100000 in
set_option maxHeartbeats 8000000 in
theorem same_any {w : World} {v v' : Value} {o p : ObjD} (h : ObjV w v o) (h' : ObjV w v' p) (hd1 : o.data.length ≤ maxLen) (hd2 : o.syms.length ≤ maxLen) (hd3 : o.rels.length ≤ maxLen) (bb : Bool) (hbb : bb = true ↔ o = p) :
  Calls Tryz.prog 14 #[v, v'] w fun e w' => e = .returned (.bool bb) ∧ Below w.heap.size w w' := by
 obtain ⟨a1, l1, c1, a2, l2, c2, a3, l3, c3, rfl, hcs, h1, h2, h3⟩ := h.form
 obtain ⟨a1', l1', c1', a2', l2', c2', a3', l3', c3', rfl, hcs', h1', h2', h3'⟩ := h'.form
 obtain ⟨code, data, syms, rels⟩ := o
 obtain ⟨code', data', syms', rels'⟩ := p
 simp only at hcs hcs' h1 h2 h3 h1' h2' h3' hd1 hd2 hd3
 have HBB : Hid _ := hbb
 clear h h' hbb
 have hm1 : l1 ≤ maxLen := by rw [← h1.count]; exact hd1
 have hm2 : l2 ≤ maxLen := by rw [← h2.count]; exact hd2
 have hm3 : l3 ≤ 9223372036854775807 := by have := h3.count; unfold maxLen at hd3; omega
 obtain ⟨W1, hW1⟩ : ∃ W1, w.alloc (.cells #[.string code, .slice a1 l1 c1, .slice a2 l2 c2, .slice a3 l3 c3] 30) = W1 := ⟨_, rfl⟩
 have s1 : W1.heap.size = w.heap.size + 1 := by subst hW1; simp
 have b1 : Below w.heap.size w W1 := by subst hW1; exact bl_one _ _
 obtain ⟨W2, hW2⟩ : ∃ W2, W1.alloc (.cells #[.string code', .slice a1' l1' c1', .slice a2' l2' c2', .slice a3' l3' c3'] 30) = W2 := ⟨_, rfl⟩
 have b2 : Below W1.heap.size W1 W2 := by subst hW2; exact bl_one _ _
 have s2 : W2.heap.size = w.heap.size + 1 + 1 := by subst hW2; simp; omega
 have HW : Hid (Below w.heap.size w W2) := b1.trans (b2.mono (by omega))
 have V0 : Hid (W2.cell? ⟨w.heap.size, 0, none⟩ = some (.string code)) := cell_thru b2 (by subst hW1; exact cell_last rfl rfl)
 have V1 : Hid (W2.cell? ⟨w.heap.size, 1, none⟩ = some (.slice a1 l1 c1)) := cell_thru b2 (by subst hW1; exact cell_last rfl rfl)
 have V2 : Hid (W2.cell? ⟨w.heap.size, 2, none⟩ = some (.slice a2 l2 c2)) := cell_thru b2 (by subst hW1; exact cell_last rfl rfl)
 have V3 : Hid (W2.cell? ⟨w.heap.size, 3, none⟩ = some (.slice a3 l3 c3)) := cell_thru b2 (by subst hW1; exact cell_last rfl rfl)
 have U0 : Hid (W2.cell? ⟨w.heap.size + 1, 0, none⟩ = some (.string code')) := by show _ = _; subst hW2; exact cell_last s1.symm rfl
 have U1 : Hid (W2.cell? ⟨w.heap.size + 1, 1, none⟩ = some (.slice a1' l1' c1')) := by show _ = _; subst hW2; exact cell_last s1.symm rfl
 have U2 : Hid (W2.cell? ⟨w.heap.size + 1, 2, none⟩ = some (.slice a2' l2' c2')) := by show _ = _; subst hW2; exact cell_last s1.symm rfl
 have U3 : Hid (W2.cell? ⟨w.heap.size + 1, 3, none⟩ = some (.slice a3' l3' c3')) := by show _ = _; subst hW2; exact cell_last s1.symm rfl
 have H1 : Hid _ := h1.below HW.out
 have H2 : Hid _ := h2.below HW.out
 have H3 : Hid _ := h3.below HW.out
 have H1' : Hid _ := h1'.below HW.out
 have H2' : Hid _ := h2'.below HW.out
 have H3' : Hid _ := h3'.below HW.out
 clear h1 h2 h3 h1' h2' h3' b1 b2 hd1 hd2 hd3
 have v0 := V0.out
 have v1 := V1.out
 have u0 := U0.out
 have u1 := U1.out
 go_enter Tryz.func14, Tryz.ntmps14
 by_cases hc : code = code'
 rotate_left
 ·have hdc := toList_ne hc
  have HNO : Hid (¬ (⟨code, data, syms, rels⟩ : ObjD) = ⟨code', data', syms', rels'⟩) := fun e => hc (congrArg ObjD.code e)
  go_wp2
  go_ret
  exact ⟨by rw [bool_no HBB.out HNO.out]; rfl, HW.out⟩
 subst hc
 go_wp2_with fail
 obtain ⟨b1, hbb⟩ := bool_of (data = data')
 refine (samedata_any H1.out H1'.out hm1 b1 hbb).mono ?_
 rintro e y1 ⟨rfl, hb1⟩
 have v2 := cell_thru hb1 V2.out
 have u2 := cell_thru hb1 U2.out
 have v3' := cell_thru hb1 V3.out
 have u3' := cell_thru hb1 U3.out
 have HB1 : Hid _ := hb1
 have HD1 : Hid _ := hbb
 clear hb1 hbb v0 v1 u0 u1
 cases b1 with
 | false =>
  have HNO : Hid (¬ (⟨code, data, syms, rels⟩ : ObjD) = ⟨code, data', syms', rels'⟩) := fun e => by have := HD1.out.2 (congrArg ObjD.data e); simp at this
  go_wp2
  go_ret
  exact ⟨by rw [bool_no HBB.out HNO.out]; rfl, HW.out.trans (HB1.out.mono HW.out.size)⟩
 | true =>
 go_wp2_with fail
 obtain ⟨b2, hbb⟩ := bool_of (syms = syms')
 refine (samesyms_any (H2.out.below HB1.out) (H2'.out.below HB1.out) hm2 b2 hbb).mono ?_
 rintro e y2 ⟨rfl, hb2⟩
 have v3 := cell_thru hb2 v3'
 have u3 := cell_thru hb2 u3'
 have HB2 : Hid (Below W2.heap.size W2 y2) := HB1.out.trans (hb2.mono HB1.out.size)
 have HD2 : Hid _ := hbb
 clear hb2 hbb v2 u2 v3' u3'
 cases b2 with
 | false =>
  have HNO : Hid (¬ (⟨code, data, syms, rels⟩ : ObjD) = ⟨code, data', syms', rels'⟩) := fun e => by have := HD2.out.2 (congrArg ObjD.syms e); simp at this
  go_wp2
  go_ret
  exact ⟨by rw [bool_no HBB.out HNO.out]; rfl, HW.out.trans (HB2.out.mono HW.out.size)⟩
 | true =>
 by_cases hl : l3 = l3'
 rotate_left
 ·have HNO : Hid (¬ (⟨code, data, syms, rels⟩ : ObjD) = ⟨code, data', syms', rels'⟩) := fun e => hl (by rw [← H3.out.count, ← H3'.out.count]; exact congrArg (fun o => o.rels.length) e)
  have hd : ((l3 : Int) != (l3' : Int)) = true := by simp; omega
  go_wp2
  go_ret
  exact ⟨by rw [bool_no HBB.out HNO.out]; rfl, HW.out.trans (HB2.out.mono HW.out.size)⟩
 subst hl
 have hd : ((l3 : Int) != (l3 : Int)) = false := by simp
 have HA : Hid _ := H3.out.below HB2.out
 have HA' : Hid _ := H3'.out.below HB2.out
 go_wp2_with fail
 clear H1 H2 H3 H1' H2' H3'
 have e1 : data = data' := HD1.out.1 (by simp)
 have e2 : syms = syms' := HD2.out.1 (by simp)
 subst e1
 subst e2
 go_loopg [5] l3 (fun r iv wq => ∃ (k : Nat), iv = .int .i64 k ∧ k ≤ l3 ∧ l3 - k ≤ r ∧ Hid (∀ j, j < k → rels.getD j noRel = rels'.getD j noRel) ∧ Hid (Below y2.heap.size y2 wq))
 case atStart => exact ⟨0, rfl, Nat.zero_le _, by omega, (fun j hj => by omega : ∀ j, j < 0 → rels.getD j noRel = rels'.getD j noRel), Below.refl _ _⟩
 case round =>
  obtain ⟨k, rfl, hk, hr, HAL, HBL⟩ := hrel
  have t3 := cell_thru HBL.out v3
  have t3' := cell_thru HBL.out u3
  by_cases hlt : k < l3
  ·rcases HA.out.cells with h0 | ⟨b, off, hA, hc⟩
   ·omega
   rcases HA'.out.cells with h0 | ⟨b', off', hA', hc'⟩
   ·omega
   obtain ⟨k0, k1, k2, k3⟩ := hc k hlt
   obtain ⟨k0', k1', k2', k3'⟩ := hc' k hlt
   have hb0 := World.block_lt_of_cell? y2 ⟨b, off + k * 4, none⟩ k0
   have hb1 := World.block_lt_of_cell? y2 ⟨b', off' + k * 4, none⟩ k0'
   have q0 := (HBL.out.cell (p := ⟨b, off + k * 4, none⟩) hb0).trans k0
   have r0 := (HBL.out.cell (p := ⟨b', off' + k * 4, none⟩) hb1).trans k0'
   have q1 := (HBL.out.cell (p := ⟨b, off + k * 4 + 1, none⟩) hb0).trans k1
   have r1 := (HBL.out.cell (p := ⟨b', off' + k * 4 + 1, none⟩) hb1).trans k1'
   have q2 := (HBL.out.cell (p := ⟨b, off + k * 4 + 2, none⟩) hb0).trans k2
   have r2 := (HBL.out.cell (p := ⟨b', off' + k * 4 + 2, none⟩) hb1).trans k2'
   have q3 := (HBL.out.cell (p := ⟨b, off + k * 4 + 3, none⟩) hb0).trans k3
   have r3 := (HBL.out.cell (p := ⟨b', off' + k * 4 + 3, none⟩) hb1).trans k3'
   have HNE : Hid (∀ {x y : Rel}, rels.getD k noRel = x → rels'.getD k noRel = y → x ≠ y → ¬ rels = rels') := fun hx hy hne e => hne (by rw [← hx, ← hy, e])
   have HEQ : Hid (∀ {x y : Rel}, rels.getD k noRel = x → rels'.getD k noRel = y → x = y → ∀ j, j < k + 1 → rels.getD j noRel = rels'.getD j noRel) := fun hx hy he j hj => by
    by_cases hjk : j = k
    ·rw [hjk, hx, hy, he]
    ·exact HAL.out j (by omega)
   obtain ⟨⟨xp, xk, xn, xa⟩, hx⟩ : ∃ x, rels.getD k noRel = x := ⟨_, rfl⟩
   obtain ⟨⟨yp, yk, yn, ya⟩, hy⟩ : ∃ y, rels'.getD k noRel = y := ⟨_, rfl⟩
   rw [hx] at q0 q1 q2 q3
   rw [hy] at r0 r1 r2 r3
   simp only at q0 r0 q1 r1 q2 r2 q3 r3
   have HX : Hid _ := hx
   have HY : Hid _ := hy
   subst hA
   subst hA'
   have hii : (k : Int) < l3 := by omega
   have hin : 0 ≤ (k : Int) := by omega
   clear hc hc' k0 k0' k1 k1' k2 k2' k3 k3' hx hy hb0 hb1
   by_cases he : (⟨xp, xk, xn, xa⟩ : Rel) = ⟨yp, yk, yn, ya⟩
   ·have HNX : Hid _ := HEQ.out HX.out HY.out he
    injection he with ep ek en ea
    subst ep
    subst ek
    subst en
    subst ea
    have hde := fun w => relEq_yes xp xk xn xa w
    go_wp2_with fail
    go_quiet (fail)
    go_wp2_with fail
    go_roundg (l3 - (k + 1))
    case measure => omega
    case rel => exact ⟨k + 1, by first | rfl | (congr 1; omega), by omega, Nat.le_refl _, HNX.out, bl_drewN HBL.out _⟩
   ·have HNO : Hid _ := HNE.out HX.out HY.out he
    have hde := fun w => relEq_no he w
    clear he
    go_wp2_with fail
    go_quiet (fail)
    go_wp2
    go_ret
    exact ⟨by rw [bool_no HBB.out (fun e => HNO.out (congrArg ObjD.rels e))]; rfl, HW.out.trans ((HB2.out.trans ((bl_drewN HBL.out _).mono HB2.out.size)).mono HW.out.size)⟩
  ·obtain rfl : l3 = k := by omega
   have HYES : Hid (rels = rels') := list_ext_getD noRel (by rw [HA.out.count, HA'.out.count]) (fun i hi => HAL.out i (by rw [← HA.out.count]; exact hi))
   go_wp2_with fail
   go_ret
   exact ⟨by rw [HBB.out.2 (by rw [HYES.out])]; rfl, HW.out.trans ((HB2.out.trans (HBL.out.mono HB2.out.size)).mono HW.out.size)⟩

end Go.Proofs.YtgjingleolhkbaaGreatDoor.O

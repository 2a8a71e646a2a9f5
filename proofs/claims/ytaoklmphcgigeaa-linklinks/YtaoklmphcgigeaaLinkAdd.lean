/- An object more in the layout. -/
import Derived.Test.YtaoklmphcgigeaaLinkObjs
import Derived.Deep.AppendLies
import Derived.Deep.RegionLaw
namespace Go.Proofs.Ytaoklmphcgigeaa
open Go.RowKit
set_option linter.unusedVariables false
set_option linter.unusedSimpArgs false

/-- A part's cells. -/
def partC (z : L.Sz) (d : ObjD) (s : Sl) : List Value := [.int .i64 z.b, .int .i64 z.d, .int .i64 z.s, .int .i64 z.t, .string d.code, .slice s.a1 s.l1 s.c1, .slice s.a2 s.l2 s.c2, .slice s.a3 s.l3 s.c3]
def partsC : L.Sz → List (ObjD × Sl) → List Value
  | _, [] => []
  | z, (d, s) :: l => partC z d s ++ partsC (L.grow z d) l
theorem partsC_snoc : ∀ (z : L.Sz) (l : List (ObjD × Sl)) (d : ObjD) (s : Sl), partsC z (l ++ [(d, s)]) = partsC z l ++ partC ((l.map Prod.fst).foldl L.grow z) d s
  | z, [], d, s => by simp [partsC]
  | z, (e, t) :: l, d, s => by
    show partC z e t ++ partsC (L.grow z e) (l ++ [(d, s)]) = _
    rw [partsC_snoc (L.grow z e) l d s, ← List.append_assoc]
    rfl
/-- The layout as it lies in a linker's block: the objects that were added. -/
structure LY (w x : World) (b bm : Nat) (v : Value) (l : List (ObjD × Sl)) : Prop where
  low : Below w.heap.size w x
  c0 : x.cell? ⟨b, 0, none⟩ = some (.int .i64 (L.sizes (l.map Prod.fst)).b)
  c1 : x.cell? ⟨b, 1, none⟩ = some (.int .i64 (L.sizes (l.map Prod.fst)).d)
  c2 : x.cell? ⟨b, 2, none⟩ = some (.int .i64 (L.sizes (l.map Prod.fst)).s)
  c3 : x.cell? ⟨b, 3, none⟩ = some (.int .i64 (L.sizes (l.map Prod.fst)).t)
  c4 : x.cell? ⟨b, 4, none⟩ = some v
  c5 : x.cell? ⟨b, 5, none⟩ = some (.map (some bm))
  fz : ∀ o, x.frozen? ⟨b, o, none⟩ = false
  nm : NM x bm (L.syms (l.map Prod.fst))
  own : x.ownsRow w.heap.size 79 8 v l.length (partsC L.zero l)
  hb : w.heap.size ≤ b
  hm : w.heap.size ≤ bm
  ne : bm ≠ b
  vb : v.ownBlock ≠ some b
  vm : v.ownBlock ≠ some bm
  c6e : ∃ u, x.cell? ⟨b, 6, none⟩ = some u

theorem LY.of_grow {w X y : World} {b bm : Nat} {v : Value} {l : List (ObjD × Sl)} {d : ObjD} {s : Sl} {z : L.Sz} (hz : L.sizes (l.map Prod.fst) = z) (hlow : Below w.heap.size w X) (h4 : X.cell? ⟨b, 4, none⟩ = some v) (h5 : X.cell? ⟨b, 5, none⟩ = some (.map (some bm))) (hf : ∀ o, X.frozen? ⟨b, o, none⟩ = false)
    (hN : NM X bm (L.syms (l.map Prod.fst ++ [d]))) (hown : X.ownsRow w.heap.size 79 8 v (l.length + 1) (partsC L.zero l ++ partC z d s)) (hb : w.heap.size ≤ b) (hm : w.heap.size ≤ bm) (ne : bm ≠ b) (vb : v.ownBlock ≠ some b) (vm : v.ownBlock ≠ some bm) (h6 : ∃ u, X.cell? ⟨b, 6, none⟩ = some u) (g : GS X y b (L.grow z d)) : LY w y b bm v (l ++ [(d, s)]) := by
  have e1 : (l ++ [(d, s)]).map Prod.fst = l.map Prod.fst ++ [d] := by simp
  have e2 : L.sizes (l.map Prod.fst ++ [d]) = L.grow z d := by rw [L.sizes_snoc, hz]
  refine ⟨hlow.grown g.gr hlow.size (by intro k hk; cases hk; exact hb), ?_, ?_, ?_, ?_, (g.rest 4 (by omega)).trans h4, (g.rest 5 (by omega)).trans h5, fun o => (g.fz o).trans (hf o), ?_, ?_, hb, hm, ne, vb, vm, h6.imp fun u hu => (g.rest 6 (by omega)).trans hu⟩
  · rw [e1, e2]; exact g.c0
  · rw [e1, e2]; exact g.c1
  · rw [e1, e2]; exact g.c2
  · rw [e1, e2]; exact g.c3
  · rw [e1]; exact hN.kept g.gr (by intro e; cases e; exact ne rfl)
  · rw [partsC_snoc, show (l.map Prod.fst).foldl L.grow L.zero = z from hz, List.length_append]
    exact hown.kept g.gr (.inr vb)
theorem infoP : (Try.prog.info? 79).map (fun i => (i.zero, i.size, i.bytes)) = some (some (.agg #[.int .i64 0, .int .i64 0, .int .i64 0, .int .i64 0, .string { data := #[] }, .slice none 0 0, .slice none 0 0, .slice none 0 0]), 8, 120) := by kernel_rfl
theorem info_partsL {P : Program} {t : TypeId} {z : Option Value} {k m : Nat} (h : (P.info? t).map (fun i => (i.zero, i.size, i.bytes)) = some (z, k, m)) : ∃ i, P.info? t = some i ∧ i.zero = z ∧ i.size = k ∧ i.bytes = m := by
  cases e : P.info? t with
  | none => rw [e] at h; simp at h
  | some i => rw [e] at h; simp at h; exact ⟨i, rfl, h.1, h.2.1, h.2.2⟩
theorem symsFrom_len : ∀ (l : List ObjD) (z : L.Sz), (L.symsFrom z l).length + z.s = (l.foldl L.grow z).s
  | [], z => by simp [L.symsFrom]
  | o :: l, z => by
    have := symsFrom_len l (L.grow z o)
    simp only [L.symsFrom, List.length_append, List.length_map, List.foldl_cons]
    have h : (L.grow z o).s = z.s + o.syms.length := rfl
    omega
theorem syms_len (l : List ObjD) : (L.syms l).length = (L.sizes l).s := by
  have h := symsFrom_len l L.zero
  have h0 : L.zero.s = 0 := rfl
  show (L.symsFrom L.zero l).length = (l.foldl L.grow L.zero).s
  omega
theorem moved_name (z : L.Sz) (y : Sym) : (L.moved z y).name = y.name := rfl
theorem twice_found {S ss : List Sym} {z : L.Sz} {k : Nat} (hk : k < ss.length) (h : L.look (S ++ (ss.take k).map (L.moved z)) (ss.getD k noSym).name ≠ none) : L.twice (S ++ ss.map (L.moved z)) = true := by
  have hg : ss.getD k noSym = ss[k] := by simp [List.getD, hk]
  rw [hg] at h
  have e : S ++ ss.map (L.moved z) = (S ++ (ss.take k).map (L.moved z) ++ [L.moved z ss[k]]) ++ (ss.drop (k + 1)).map (L.moved z) := by
    have e0 : ss = ss.take k ++ ss[k] :: ss.drop (k + 1) := by rw [← List.drop_eq_getElem_cons hk, List.take_append_drop]
    have e1 := congrArg (List.map (L.moved z)) e0
    rw [List.map_append, List.map_cons] at e1
    rw [e1]
    simp only [List.append_assoc, List.singleton_append]
  rw [e, L.twice_append, L.twice_snoc, moved_name]
  cases q : L.look (S ++ (ss.take k).map (L.moved z)) ss[k].name with
  | none => exact absurd q h
  | some u => simp
theorem take_moved {ss : List Sym} {z : L.Sz} {k : Nat} (hk : k < ss.length) : (ss.take (k + 1)).map (L.moved z) = (ss.take k).map (L.moved z) ++ [L.moved z (ss.getD k noSym)] := by
  rw [List.take_succ_eq_append_getElem hk, List.map_append]
  simp [List.getD, hk]

set_option maxRecDepth 100000 in
set_option maxHeartbeats 4000000 in
theorem addO_any {w x : World} {b bm : Nat} {v : Value} {l : List (ObjD × Sl)} (h : LY w x b bm v l) {d : ObjD} {s : Sl} (hO : OV w d s) (hn : l.length < 16) (hz : (L.sizes (l.map Prod.fst)).b ≤ 1048576 ∧ (L.sizes (l.map Prod.fst)).d ≤ 1048576 ∧ (L.sizes (l.map Prod.fst)).s ≤ 1048576 ∧ (L.sizes (l.map Prod.fst)).t ≤ 1048576) (hsz : d.code.size ≤ 65536 ∧ s.l1 ≤ 65536 ∧ s.l2 ≤ 65536)
    (hsy : ∀ y ∈ d.syms, 0 ≤ y.pos ∧ y.pos ≤ 65536) :
    Calls Try.prog 33 #[.pointer (some ⟨b, 0, none⟩), s.val d] x fun e x' => (L.twice (L.syms (l.map Prod.fst ++ [d])) = true ∧ e = .returned (.bool false) ∧ Below w.heap.size w x') ∨
      (L.twice (L.syms (l.map Prod.fst ++ [d])) = false ∧ e = .returned (.bool true) ∧ ∃ v', LY w x' b bm v' (l ++ [(d, s)])) := by
  have hsn := L.syms_snoc (l.map Prod.fst) d
  have hzn := L.sizes_snoc (l.map Prod.fst) d
  obtain ⟨z, hzz⟩ : ∃ z, L.sizes (l.map Prod.fst) = z := ⟨_, rfl⟩
  obtain ⟨S, hS⟩ : ∃ S, L.syms (l.map Prod.fst) = S := ⟨_, rfl⟩
  have HL : Hid _ := h
  have HO : Hid _ := hO
  have e0 := h.c0
  have e1 := h.c1
  have e2 := h.c2
  have e3 := h.c3
  have e4 := h.c4
  have e5 := h.c5
  obtain ⟨u6, e6⟩ := h.c6e
  have HE6 : Hid _ := e6
  clear e6
  have hN := h.nm
  have hSl : S.length = z.s := by rw [← hS, ← hzz]; exact syms_len _
  rw [hzz] at e0 e1 e2 e3 hsn hz
  rw [hS] at hN hsn
  rw [hsn]
  have HN : Hid _ := hN
  have hbx : b < x.heap.size := World.block_lt_of_cell? x ⟨b, 0, none⟩ e0
  have hmx : bm < x.heap.size := hN.lt
  clear h hO hN
  obtain ⟨zb, zd, zs, zt⟩ := z
  obtain ⟨a1, l1, c1, a2, l2, c2, a3, l3, c3⟩ := s
  obtain ⟨code, data, syms, rels⟩ := d
  unfold Sl.val
  simp only at *
  go_enter Try.func33, Try.ntmps33
  go_wp2_with fail
  go_region
  obtain ⟨X2, hX2⟩ : ∃ X2, ((x.alloc (.cells #[.string code, .slice a1 l1 c1, .slice a2 l2 c2, .slice a3 l3 c3] 40)).alloc (.cells #[.int .i64 zb, .int .i64 zd, .int .i64 zs, .int .i64 zt, .string code, .slice a1 l1 c1, .slice a2 l2 c2, .slice a3 l3 c3] 79)).drew = X2 := ⟨_, rfl⟩
  have sX2 : X2.heap.size = x.heap.size + 2 := by subst hX2; simp
  have b2 : Below x.heap.size x X2 := by subst hX2; exact (((Below.refl _ _).alloc (Nat.le_refl _) _).alloc (by simp) _).drew
  have HP : Hid (∀ j u, (partC ⟨zb, zd, zs, zt⟩ ⟨code, data, syms, rels⟩ ⟨a1, l1, c1, a2, l2, c2, a3, l3, c3⟩)[j]? = some u → X2.cell? ⟨x.heap.size + 1, j, none⟩ = some u) := fun j u hu => by
    subst hX2
    exact cell_last (by simp) (by simpa [partC] using hu)
  have HQ : Hid (X2.cell? ⟨x.heap.size, 0, none⟩ = some (.string code) ∧ X2.cell? ⟨x.heap.size, 1, none⟩ = some (.slice a1 l1 c1) ∧ X2.cell? ⟨x.heap.size, 2, none⟩ = some (.slice a2 l2 c2) ∧ X2.cell? ⟨x.heap.size, 3, none⟩ = some (.slice a3 l3 c3)) := by
    subst hX2
    exact ⟨cell_thru (bl_one _ _).drew (cell_last rfl rfl), cell_thru (bl_one _ _).drew (cell_last rfl rfl), cell_thru (bl_one _ _).drew (cell_last rfl rfl), cell_thru (bl_one _ _).drew (cell_last rfl rfl)⟩
  have HN2 : Hid (NM X2 bm S) := HN.out.below b2
  have E5 := cell_thru b2 e5
  have hq2 := HQ.out.2.2.1
  go_wp2_with fail
  clear hX2
  go_loopg [19] l2 (fun r iv wq => ∃ (k : Nat), iv = .int .i64 k ∧ k ≤ l2 ∧ l2 - k ≤ r ∧ Hid (NM wq bm (S ++ (syms.take k).map (L.moved ⟨zb, zd, zs, zt⟩))) ∧ Hid (X2.grownBy wq (some bm)))
  case atStart => exact ⟨0, rfl, Nat.zero_le _, by omega, (by simpa using HN2.out : NM X2 bm (S ++ (syms.take 0).map (L.moved ⟨zb, zd, zs, zt⟩))), gb_of_below (Below.refl _ _) _⟩
  case round =>
    obtain ⟨k, rfl, hk, hr, HM, HG⟩ := hrel
    by_cases hlt : k < l2
    · rcases HO.out.syms.cells with h0 | ⟨c, off, hA, hc⟩
      · simp only at h0
        omega
      simp only at hA
      obtain ⟨q0, q1, q2⟩ := hc k hlt
      have hcnt : syms.length = l2 := HO.out.syms.count
      have hcw : c < w.heap.size := World.block_lt_of_cell? w ⟨c, off + k * 3, none⟩ q0
      have hmw := HL.out.hm
      have hcm : some c ≠ some bm := by intro e; cases e; omega
      have Q0 : wr.cell? ⟨c, off + k * 3, none⟩ = some (.string (syms.getD k noSym).name) := HG.out.cell (cell_thru b2 (cell_thru HL.out.low q0)) hcm
      have Q1 : wr.cell? ⟨c, off + k * 3 + 1, none⟩ = some (.int .i64 (syms.getD k noSym).kind) := HG.out.cell (cell_thru b2 (cell_thru HL.out.low q1)) hcm
      have Q2 : wr.cell? ⟨c, off + k * 3 + 2, none⟩ = some (.int .i64 (syms.getD k noSym).pos) := HG.out.cell (cell_thru b2 (cell_thru HL.out.low q2)) hcm
      have hfit := (HO.out.syms.fits (syms.getD k noSym) (by simp [List.getD, show k < syms.length by omega])).1
      have hpos := hsy (syms.getD k noSym) (by simp [List.getD, show k < syms.length by omega])
      have HTW : Hid _ := @twice_found S syms ⟨zb, zd, zs, zt⟩ k (by omega)
      have HTK : Hid _ := @take_moved syms ⟨zb, zd, zs, zt⟩ k (by omega)
      have F5 : wr.cell? ⟨b, 5, none⟩ = some (.map (some bm)) := HG.out.cell E5 (by intro e; cases e; exact HL.out.ne rfl)
      obtain ⟨y, hy⟩ : ∃ y, syms.getD k noSym = y := ⟨_, rfl⟩
      rw [hy] at Q0 Q1 Q2 hfit hpos HTW HTK
      clear q0 q1 q2 hc hy
      obtain ⟨ny, ky, py⟩ := y
      subst hA
      simp only at Q0 Q1 Q2 hfit hpos HTW
      have hin : 0 ≤ (k : Int) := by omega
      have hii : (k : Int) < l2 := by omega
      obtain ⟨Y1, hY1⟩ : ∃ Y1, wr.alloc (.cells #[.string ny, .int .i64 ky, .int .i64 py] 36) = Y1 := ⟨_, rfl⟩
      have bY : Below wr.heap.size wr Y1 := by subst hY1; exact bl_one _ _
      have sY1 : Y1.heap.size = wr.heap.size + 1 := by subst hY1; simp
      have g0 : Y1.cell? ⟨wr.heap.size, 0, none⟩ = some (.string ny) := by subst hY1; exact cell_last rfl rfl
      have g1 : Y1.cell? ⟨wr.heap.size, 1, none⟩ = some (.int .i64 ky) := by subst hY1; exact cell_last rfl rfl
      have g2 : Y1.cell? ⟨wr.heap.size, 2, none⟩ = some (.int .i64 py) := by subst hY1; exact cell_last rfl rfl
      have G5 := cell_thru bY F5
      have hM1 : NM Y1 bm _ := HM.out.below bY
      have bZ : ∀ o : Obj, Below Y1.heap.size Y1 (Y1.alloc o).drew := fun o => (bl_one _ _).drew
      have hlk := (hM1.below (Below.refl _ _).drew).look ny hfit
      have hlk2 := fun o => (hM1.below (bZ o)).look ny hfit
      have HM1 : Hid _ := hM1
      clear hM1
      have z5 : ∀ o : Obj, (Y1.alloc o).cell? ⟨b, 5, none⟩ = some (.map (some bm)) := fun o => cell_thru (bl_one Y1 o) G5
      have z0 : ∀ o : Obj, (Y1.alloc o).cell? ⟨wr.heap.size, 0, none⟩ = some (.string ny) := fun o => cell_thru (bl_one Y1 o) g0
      obtain ⟨ok, sn, sk, sp, hok, hg⟩ : ∃ ok : Bool, ∃ sn sk sp, (L.look (S ++ (syms.take k).map (L.moved ⟨zb, zd, zs, zt⟩)) ny).isSome = ok ∧ (L.look (S ++ (syms.take k).map (L.moved ⟨zb, zd, zs, zt⟩)) ny).getD noSym = ⟨sn, sk, sp⟩ := ⟨_, _, _, _, rfl, rfl⟩
      rw [hok, hg] at hlk
      simp only [hok, hg] at hlk2
      unfold symV at hlk hlk2
      simp only at hlk hlk2
      have hlwr : Below w.heap.size w wr := (HL.out.low.trans (b2.mono HL.out.low.size)).grown HG.out (by have := HL.out.low.size; omega) (by intro k hk; cases hk; exact hmw)
      have hlow : ∀ o : Obj, Below w.heap.size w (Y1.alloc o).drew := fun o => (hlwr.trans (bY.mono hlwr.size)).trans ((bZ o).mono (Nat.le_trans hlwr.size bY.size))
      cases ok with
      | true =>
        have HE : Hid (L.twice (S ++ syms.map (L.moved ⟨zb, zd, zs, zt⟩)) = true) := HTW.out (by intro e; rw [e] at hok; cases hok)
        clear hok hg HTW HTK hsn
        go_wp2_with fail
        go_region
        go_wp2
        go_ret
        exact .inl ⟨HE.out, rfl, hlow _⟩
      | false =>
        have HNO : Hid (L.look (S ++ (syms.take k).map (L.moved ⟨zb, zd, zs, zt⟩)) ny = none) := by show _ = _; simpa using hok
        clear hok hg HTW hsn
        obtain ⟨uk, up, hu⟩ : ∃ uk up, L.moved ⟨zb, zd, zs, zt⟩ ⟨ny, ky, py⟩ = ⟨ny, uk, up⟩ := ⟨_, _, rfl⟩
        have HMV : Hid (∀ W : World, Calls Try.prog 36 #[.agg #[.int .i64 zb, .int .i64 zd, .int .i64 zs, .int .i64 zt, .string code, .slice a1 l1 c1, .slice (some ⟨c, off, none⟩) l2 c2, .slice a3 l3 c3], .agg #[.string ny, .int .i64 ky, .int .i64 py]] W fun e w' => e = .returned (.agg #[.string ny, .int .i64 uk, .int .i64 up]) ∧ Below W.heap.size W w') := fun W => by
          have := moved_any (a1 := a1) (l1 := l1) (c1 := c1) (a2 := some ⟨c, off, none⟩) (l2 := l2) (c2 := c2) (a3 := a3) (l3 := l3) (c3 := c3) ⟨zb, zd, zs, zt⟩ ⟨ny, ky, py⟩ code hpos.1 (by simp only; omega) (by simp only; omega) W
          rw [hu] at this
          exact this
        obtain ⟨Z, hZ⟩ : ∃ Z, (Y1.alloc (.cells #[.string sn, .int .i64 sk, .int .i64 sp] 36)).drew = Z := ⟨_, rfl⟩
        have bYZ : Below Y1.heap.size Y1 Z := by subst hZ; exact bZ _
        have HMZ : Hid (NM Z bm _) := HM1.out.below bYZ
        have hwx : x.heap.size + 2 ≤ wr.heap.size := by have := HG.out.size; omega
        have HPP : Hid (∀ j u, (partC ⟨zb, zd, zs, zt⟩ ⟨code, data, syms, rels⟩ ⟨a1, l1, c1, some ⟨c, off, none⟩, l2, c2, a3, l3, c3⟩)[j]? = some u → ∀ w', Z.grownBy w' (some bm) → w'.cell? ⟨x.heap.size + 1, j, none⟩ = some u) := fun j u hu w' hg' => hg'.cell (cell_thru bYZ (cell_thru bY (HG.out.cell (HP.out j u hu) (by simp; omega)))) (by simp; omega)
        have HSS : Hid (∀ w' : World, Z.grownBy w' (some bm) → (w'.cell? ⟨b, 5, none⟩ = some (.map (some bm)) ∧ w'.cell? ⟨wr.heap.size, 0, none⟩ = some (.string ny) ∧ w'.cell? ⟨wr.heap.size, 1, none⟩ = some (.int .i64 ky) ∧ w'.cell? ⟨wr.heap.size, 2, none⟩ = some (.int .i64 py) ∧ w'.cell? ⟨x.heap.size + 1, 0, none⟩ = some (.int .i64 zb) ∧ w'.cell? ⟨x.heap.size + 1, 1, none⟩ = some (.int .i64 zd) ∧ w'.cell? ⟨x.heap.size + 1, 2, none⟩ = some (.int .i64 zs) ∧ w'.cell? ⟨x.heap.size + 1, 3, none⟩ = some (.int .i64 zt) ∧ w'.cell? ⟨x.heap.size + 1, 4, none⟩ = some (.string code) ∧ w'.cell? ⟨x.heap.size + 1, 5, none⟩ = some (.slice a1 l1 c1) ∧ w'.cell? ⟨x.heap.size + 1, 6, none⟩ = some (.slice (some ⟨c, off, none⟩) l2 c2) ∧ w'.cell? ⟨x.heap.size + 1, 7, none⟩ = some (.slice a3 l3 c3))) := fun w' hg' =>
          ⟨hg'.cell (cell_thru bYZ G5) (by intro e; cases e; exact HL.out.ne rfl), hg'.cell (cell_thru bYZ g0) (by simp; omega), hg'.cell (cell_thru bYZ g1) (by simp; omega), hg'.cell (cell_thru bYZ g2) (by simp; omega), HPP.out 0 _ rfl w' hg', HPP.out 1 _ rfl w' hg', HPP.out 2 _ rfl w' hg', HPP.out 3 _ rfl w' hg', HPP.out 4 _ rfl w' hg', HPP.out 5 _ rfl w' hg', HPP.out 6 _ rfl w' hg', HPP.out 7 _ rfl w' hg'⟩
        go_wp2_with fail
        go_region
        go_wp2_with fail
        clear z0 z5 hlk hlk2 g0 g1 g2 G5 F5 Q0 Q1 Q2
        go_region_held3 (fun w' : World => (w'.cell? ⟨b, 5, none⟩ = some (.map (some bm)) ∧ w'.cell? ⟨wr.heap.size, 0, none⟩ = some (.string ny) ∧ w'.cell? ⟨wr.heap.size, 1, none⟩ = some (.int .i64 ky) ∧ w'.cell? ⟨wr.heap.size, 2, none⟩ = some (.int .i64 py) ∧ w'.cell? ⟨x.heap.size + 1, 0, none⟩ = some (.int .i64 zb) ∧ w'.cell? ⟨x.heap.size + 1, 1, none⟩ = some (.int .i64 zd) ∧ w'.cell? ⟨x.heap.size + 1, 2, none⟩ = some (.int .i64 zs) ∧ w'.cell? ⟨x.heap.size + 1, 3, none⟩ = some (.int .i64 zt) ∧ w'.cell? ⟨x.heap.size + 1, 4, none⟩ = some (.string code) ∧ w'.cell? ⟨x.heap.size + 1, 5, none⟩ = some (.slice a1 l1 c1) ∧ w'.cell? ⟨x.heap.size + 1, 6, none⟩ = some (.slice (some ⟨c, off, none⟩) l2 c2) ∧ w'.cell? ⟨x.heap.size + 1, 7, none⟩ = some (.slice a3 l3 c3))) (first | (exact HSS.out _ (gb_of_below (Below.refl _ _).drew _)) | (exact HSS.out _ (gb_of_below (Below.refl _ _) _)) | (exact HSS.out _ hgy) | (exact HSS.out _ hg2)) ((go_at_call 36; refine (HMV.out _).mono ?_; rintro e y ⟨rfl, hby⟩; have hgy : Z.grownBy y (some bm) := gb_of_below ((Below.refl _ _).drew.trans hby) _; obtain ⟨w2, hup, hN2, hgw⟩ := (HMZ.out.below ((Below.refl _ _).drew.trans hby)).store ⟨ny, uk, up⟩ hfit (by unfold maxLen; simp only [List.length_append, List.length_map, List.length_take]; omega) HNO.out; have hg2 : Z.grownBy w2 (some bm) := gbt hgy hgw; unfold symV at hup; simp only at hup))
        have HR : Hid (NM w2 bm (S ++ (syms.take (k + 1)).map (L.moved ⟨zb, zd, zs, zt⟩))) := by
          show NM _ _ _
          rw [HTK.out, hu, ← List.append_assoc]
          exact hN2
        have HGR : Hid (X2.grownBy w2 (some bm)) := gbt (gbt HG.out (gb_of_below (bY.trans (bYZ.mono bY.size)) _)) hg2
        clear HSS HPP HMV hup hN2 hgw hg2 hgy hby HMZ
        go_wp2_with fail
        go_roundg (l2 - (k + 1))
        case measure => omega
        case rel => exact ⟨k + 1, by go_num, by omega, Nat.le_refl _, HR.out, HGR.out⟩
    · obtain rfl : k = l2 := by omega
      have hcnt : syms.length = k := HO.out.syms.count
      have hfull : syms.take k = syms := List.take_of_length_le (by omega)
      have HMF : Hid (NM wr bm (S ++ syms.map (L.moved ⟨zb, zd, zs, zt⟩))) := by
        have := HM.out
        rw [hfull] at this
        exact this
      have hii : ¬ (k : Int) < k := by omega
      have hmw := HL.out.hm
      have hlwr : Below w.heap.size w wr := (HL.out.low.trans (b2.mono HL.out.low.size)).grown HG.out (by have := HL.out.low.size; omega) (by intro k hk; cases hk; exact hmw)
      have hOx := HL.out.own
      have HW : Hid (wr.ownsRow w.heap.size 79 8 v l.length (partsC L.zero l)) := (hOx.kept (gb_of_below b2 (some x.heap.size)) (.inr fun e => by have := (hOx.lt _ e).2; omega)).kept HG.out (.inr HL.out.vm)
      have hbm : some b ≠ some bm := by intro e; cases e; exact HL.out.ne rfl
      have F4 : wr.cell? ⟨b, 4, none⟩ = some v := HG.out.cell (cell_thru b2 e4) hbm
      have FZ : ∀ o, wr.frozen? ⟨b, o, none⟩ = false := fun o => (HG.out.frozen_far ⟨b, o, none⟩ (by show b < _; omega) hbm).trans ((b2.frozen (p := ⟨b, o, none⟩) hbx).trans (HL.out.fz o))
      have F4a : ∀ o : Obj, (wr.alloc o).cell? ⟨b, 4, none⟩ = some v := fun o => cell_thru (bl_one wr o) F4
      have hwx : x.heap.size + 2 ≤ wr.heap.size := by have := HG.out.size; omega
      have HPP : Hid (∀ j u, (partC ⟨zb, zd, zs, zt⟩ ⟨code, data, syms, rels⟩ ⟨a1, l1, c1, a2, k, c2, a3, l3, c3⟩)[j]? = some u → wr.cell? ⟨x.heap.size + 1, j, none⟩ = some u) := fun j u hu => HG.out.cell (HP.out j u hu) (by simp; omega)
      have HNC : Hid (∀ j u, (partC ⟨zb, zd, zs, zt⟩ ⟨code, data, syms, rels⟩ ⟨a1, l1, c1, a2, k, c2, a3, l3, c3⟩)[j]? = some u → (wr.alloc (.cells #[.int .i64 zb, .int .i64 zd, .int .i64 zs, .int .i64 zt, .string code, .slice a1 l1 c1, .slice a2 k c2, .slice a3 l3 c3] 79)).drew.cell? ((⟨wr.heap.size, 0, none⟩ : Addr).add j) = some u) := fun j u hu => by rw [Addr.add_lit, Nat.zero_add]; exact cell_last rfl (by simpa [partC] using hu)
      obtain ⟨ip, hip, hp0, hp1, hp2⟩ := info_partsL infoP
      have HS10 : Hid (∀ w' : World, (∀ j, w'.cell? ⟨x.heap.size + 1, j, none⟩ = wr.cell? ⟨x.heap.size + 1, j, none⟩) → (w'.cell? ⟨x.heap.size + 1, 0, none⟩ = some (.int .i64 zb) ∧ w'.cell? ⟨x.heap.size + 1, 1, none⟩ = some (.int .i64 zd) ∧ w'.cell? ⟨x.heap.size + 1, 2, none⟩ = some (.int .i64 zs) ∧ w'.cell? ⟨x.heap.size + 1, 3, none⟩ = some (.int .i64 zt) ∧ w'.cell? ⟨x.heap.size + 1, 4, none⟩ = some (.string code) ∧ w'.cell? ⟨x.heap.size + 1, 5, none⟩ = some (.slice a1 l1 c1) ∧ w'.cell? ⟨x.heap.size + 1, 6, none⟩ = some (.slice a2 k c2) ∧ w'.cell? ⟨x.heap.size + 1, 7, none⟩ = some (.slice a3 l3 c3))) := fun w' hj => ⟨(hj 0).trans (HPP.out 0 _ rfl), (hj 1).trans (HPP.out 1 _ rfl), (hj 2).trans (HPP.out 2 _ rfl), (hj 3).trans (HPP.out 3 _ rfl), (hj 4).trans (HPP.out 4 _ rfl), (hj 5).trans (HPP.out 5 _ rfl), (hj 6).trans (HPP.out 6 _ rfl), (hj 7).trans (HPP.out 7 _ rfl)⟩
      have HB1 : Hid (Below wr.heap.size wr (wr.alloc (.cells #[.int .i64 zb, .int .i64 zd, .int .i64 zs, .int .i64 zt, .string code, .slice a1 l1 c1, .slice a2 k c2, .slice a3 l3 c3] 79)).drew) := (bl_one _ _).drew
      have HW1 : Hid ((wr.alloc (.cells #[.int .i64 zb, .int .i64 zd, .int .i64 zs, .int .i64 zt, .string code, .slice a1 l1 c1, .slice a2 k c2, .slice a3 l3 c3] 79)).drew.ownsRow w.heap.size 79 8 v l.length (partsC L.zero l)) := HW.out.kept (gb_of_below HB1.out (some wr.heap.size)) (.inr fun e => by have := (HW.out.lt _ e).2; omega)
      have hxw : w.heap.size ≤ x.heap.size := HL.out.low.size
      have hvx : ∀ q, v.ownBlock = some q → q < x.heap.size := fun q e => (hOx.lt _ e).2
      go_wp2_with fail
      clear hlwr
      have pc0 := HPP.out 0 _ rfl
      have pc1 := HPP.out 1 _ rfl
      have pc2 := HPP.out 2 _ rfl
      have pc3 := HPP.out 3 _ rfl
      have pc4 := HPP.out 4 _ rfl
      have pc5 := HPP.out 5 _ rfl
      have pc6 := HPP.out 6 _ rfl
      have pc7 := HPP.out 7 _ rfl
      go_region_law ((refine step_append_lies _ (by rfl) _ _ 55 (by rfl) w.heap.size 79 ip _ 8 120 Try.underlying55 hip hp0 hp1 hp2 (by rfl) (by decide) v l.length _ (by rfl) HW1.out ⟨wr.heap.size, 0, none⟩ 1 1 (partC ⟨zb, zd, zs, zt⟩ ⟨code, data, syms, rels⟩ ⟨a1, l1, c1, a2, k, c2, a3, l3, c3⟩) (by rfl) (by rfl) HNC.out (by intro u hu; simp [partC] at hu; rcases hu with rfl | rfl | rfl | rfl | rfl | rfl | rfl | rfl <;> rfl) (by decide) (by unfold maxLen; omega) (by omega) (by simp; omega) (wr.heap.size + 1) (by simp) ?_; intro g cap Y6 ho6 hg6 hat6 hlt6; have m6 : Y6.cell? ⟨b, 4, none⟩ = some v := hg6.cell (F4a _) (fun e => HL.out.vb e.symm); have z6 : Y6.frozen? ⟨b, 4, none⟩ = false := (hg6.frozen_far ⟨b, 4, none⟩ (by show b < _; simp; omega) (fun e => HL.out.vb e.symm)).trans ((HB1.out.frozen (p := ⟨b, 4, none⟩) (by show b < _; omega)).trans (FZ 4)); have hs6 : ∀ j, Y6.cell? ⟨x.heap.size + 1, j, none⟩ = wr.cell? ⟨x.heap.size + 1, j, none⟩ := fun j => (World.cell?_of_block (hg6.block (x.heap.size + 1) (by simp; omega) (fun e => by have := hvx _ e.symm; omega))).trans (HB1.out.cell (p := ⟨x.heap.size + 1, j, none⟩) (by show x.heap.size + 1 < _; omega)); have hs7 : ∀ j, (Y6.setCell ⟨b, 4, none⟩ (.slice (some ⟨g, 0, none⟩) (l.length + 1) cap)).cell? ⟨x.heap.size + 1, j, none⟩ = wr.cell? ⟨x.heap.size + 1, j, none⟩ := fun j => (World.cell?_setCell_far _ _ _ _ (by show b ≠ x.heap.size + 1; omega)).trans (hs6 j)))
      all_goals
        obtain ⟨X7, hX7⟩ : ∃ X7, Y6.setCell ⟨b, 4, none⟩ (.slice (some ⟨g, 0, none⟩) (l.length + 1) cap) = X7 := ⟨_, rfl⟩
        have hgb : g ≠ b := by
          rcases hat6 with h | h
          · intro e; subst e; exact HL.out.vb h
          · omega
        have hgm : g ≠ bm := by
          rcases hat6 with h | h
          · intro e; subst e; exact HL.out.vm h
          · omega
        have gs7 : Y6.grownBy X7 (some b) := by subst hX7; exact gb_set _ _ _
        have hvl : ∀ q, v.ownBlock = some q → w.heap.size ≤ q := fun q e => (hOx.lt _ e).1
        have hlwr : Below w.heap.size w wr := (HL.out.low.trans (b2.mono HL.out.low.size)).grown HG.out (by omega) (by intro k hk; cases hk; exact hmw)
        have lowW : Below w.heap.size w (wr.alloc (.cells #[.int .i64 zb, .int .i64 zd, .int .i64 zs, .int .i64 zt, .string code, .slice a1 l1 c1, .slice a2 k c2, .slice a3 l3 c3] 79)).drew := hlwr.trans (HB1.out.mono hlwr.size)
        have lowY : Below w.heap.size w Y6 := lowW.grown hg6 lowW.size hvl
        have HLOW : Hid (Below w.heap.size w X7) := lowY.grown gs7 lowY.size (by intro k hk; cases hk; exact HL.out.hb)
        have farY : ∀ q o u, q ≠ bm → v.ownBlock ≠ some q → X2.cell? ⟨q, o, none⟩ = some u → Y6.cell? ⟨q, o, none⟩ = some u := fun q o u hqm hqv hu => hg6.cell (cell_thru HB1.out (HG.out.cell hu (by intro e; cases e; exact hqm rfl))) (fun e => hqv e.symm)
        have far7 : ∀ q o u, q ≠ bm → v.ownBlock ≠ some q → q ≠ b → X2.cell? ⟨q, o, none⟩ = some u → X7.cell? ⟨q, o, none⟩ = some u := fun q o u hqm hqv hqb hu => gs7.cell (farY q o u hqm hqv hu) (by intro e; cases e; exact hqb rfl)
        have hxv : v.ownBlock ≠ some x.heap.size := fun e => by have := hvx _ e; omega
        have own7 : ∀ o u, o ≠ 4 → x.cell? ⟨b, o, none⟩ = some u → X7.cell? ⟨b, o, none⟩ = some u := fun o u ho hu => by
          subst hX7
          rw [World.cell?_setCell_other _ _ _ _ (fun e' => ho (by have := congrArg Addr.off e'; simpa using this.symm))]
          exact farY b o u (fun e => HL.out.ne e.symm) HL.out.vb (cell_thru b2 hu)
        have k0 := own7 0 _ (by decide) e0
        have k1 := own7 1 _ (by decide) e1
        have k2 := own7 2 _ (by decide) e2
        have k3 := own7 3 _ (by decide) e3
        have k5 := own7 5 _ (by decide) e5
        have HK6 : Hid (∃ u, X7.cell? ⟨b, 6, none⟩ = some u) := ⟨_, own7 6 _ (by decide) HE6.out⟩
        have k4 : X7.cell? ⟨b, 4, none⟩ = some (.slice (some ⟨g, 0, none⟩) (l.length + 1) cap) := by subst hX7; exact World.cell?_setCell_same' _ _ _ (by rw [m6]; rfl)
        have kf : ∀ o, X7.frozen? ⟨b, o, none⟩ = false := fun o => by
          subst hX7
          rw [World.frozen?_setCell]
          exact (hg6.frozen_far ⟨b, o, none⟩ (by show b < _; simp; omega) (fun e => HL.out.vb e.symm)).trans ((HB1.out.frozen (p := ⟨b, o, none⟩) (by show b < _; omega)).trans (FZ o))
        have HN7 : Hid (NM X7 bm (S ++ syms.map (L.moved ⟨zb, zd, zs, zt⟩))) := ((HMF.out.below HB1.out).kept hg6 (fun e => HL.out.vm e.symm)).kept gs7 (by intro e; cases e; exact HL.out.ne rfl)
        have HW7 : Hid (X7.ownsRow w.heap.size 79 8 (.slice (some ⟨g, 0, none⟩) (l.length + 1) cap) (l.length + 1) (partsC L.zero l ++ (partC ⟨zb, zd, zs, zt⟩ ⟨code, data, syms, rels⟩ ⟨a1, l1, c1, a2, k, c2, a3, l3, c3⟩))) := ho6.kept gs7 (.inr (by intro e; apply hgb; simpa [Value.ownBlock] using e))
        have HSY : Hid (SymsV X7 a2 k c2 syms) := HO.out.syms.below HLOW.out
        have HQ7 : Hid (∀ y : World, X7.grownBy y (some b) → (fun w' : World => (w'.cell? ⟨x.heap.size, 0, none⟩ = some (.string code) ∧ w'.cell? ⟨x.heap.size, 1, none⟩ = some (.slice a1 l1 c1) ∧ w'.cell? ⟨x.heap.size, 2, none⟩ = some (.slice a2 k c2) ∧ w'.cell? ⟨x.heap.size, 3, none⟩ = some (.slice a3 l3 c3))) y) := fun y hy => ⟨hy.cell (far7 _ 0 _ (by omega) hxv (by omega) HQ.out.1) (by simp; omega), hy.cell (far7 _ 1 _ (by omega) hxv (by omega) HQ.out.2.1) (by simp; omega), hy.cell (far7 _ 2 _ (by omega) hxv (by omega) HQ.out.2.2.1) (by simp; omega), hy.cell (far7 _ 3 _ (by omega) hxv (by omega) HQ.out.2.2.2) (by simp; omega)⟩
        have hne : 0 < k → ∀ ad, a2 = some ad → ad.block ≠ b := fun hk0 ad ha => by
          rcases HO.out.syms.cells with h0 | ⟨c, off, hA, hc⟩
          · simp only at h0; omega
          · simp only at hA
            rw [ha] at hA
            cases hA
            have h7 : c < w.heap.size := World.block_lt_of_cell? w ⟨c, off + 0 * 3, none⟩ (hc 0 hk0).1
            have h8 := HL.out.hb
            show c ≠ b
            omega
        have HDL : Hid (data.length = l1) := HO.out.ints.count
        have HZZ : Hid _ := hzz
        have HSN : Hid _ := hsn
        rw [hX7]
        clear pc0 pc1 pc2 pc3 pc4 pc5 pc6 pc7 hs6 hs7 m6 z6 ho6 hg6 hat6 hlt6 gs7 own7 farY far7 lowY lowW hX7 hlwr F4 F4a FZ hq2 E5 e0 e1 e2 e3 e4 e5
        go_wp2_with fail
        go_region_held3 (fun w' : World => (w'.cell? ⟨x.heap.size, 0, none⟩ = some (.string code) ∧ w'.cell? ⟨x.heap.size, 1, none⟩ = some (.slice a1 l1 c1) ∧ w'.cell? ⟨x.heap.size, 2, none⟩ = some (.slice a2 k c2) ∧ w'.cell? ⟨x.heap.size, 3, none⟩ = some (.slice a3 l3 c3))) (first | (exact HQ7.out _ (gb_of_below (Below.refl _ _).drew _)) | (exact HQ7.out _ (gb_of_below (Below.refl _ _) _)) | (exact HQ7.out _ hgr)) ((go_at_call 41; refine (grow_any (w := X7.drew) (o := ⟨code, data, syms, rels⟩) (a1 := a1) (l1 := l1) (c1 := c1) (a3 := a3) (l3 := l3) (c3 := c3) ⟨zb, zd, zs, zt⟩ (HSY.out.below (Below.refl _ _).drew) HDL.out k0 k1 k2 k3 (kf 0) (kf 1) (kf 2) (kf 3) (by simp only; omega) (by simp only; omega) (by simp only; omega) (by simp only; omega) hne).mono ?_; rintro e y ⟨rfl, hGS⟩; have hgr : X7.grownBy y (some b) := gbt (gb_of_below (Below.refl _ _).drew _) hGS.gr))
        go_wp2
        go_ret
        refine .inr ⟨HN7.out.uniq, rfl, _, LY.of_grow HZZ.out HLOW.out.drew k4 k5 kf ?_ HW7.out HL.out.hb HL.out.hm HL.out.ne (by intro e; apply hgb; simpa [Value.ownBlock] using e) (by intro e; apply hgm; simpa [Value.ownBlock] using e) HK6.out hGS⟩
        rw [HSN.out]
        exact HN7.out.below (Below.refl _ _).drew
end Go.Proofs.Ytaoklmphcgigeaa

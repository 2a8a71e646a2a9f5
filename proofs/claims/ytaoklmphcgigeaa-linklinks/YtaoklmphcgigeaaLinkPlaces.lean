/- Filling a part's places. -/
import Derived.Test.YtaoklmphcgigeaaLinkLay
import Derived.Test.YtaoklmphcgigeaaLinkValue
import Derived.Test.YtaoklmphcgigeaaWordBytes
import Derived.Lib.BufferWrite
namespace Go.Proofs.Ytaoklmphcgigeaa
open Go.RowKit Go.Lib
set_option linter.unusedVariables false
set_option linter.unusedSimpArgs false

/-- Bytes laid over others from a place on. -/
def patch (l : List UInt8) (o : Nat) (s : ByteArray) : List UInt8 := l.take o ++ s.data.toList ++ l.drop (o + s.size)
theorem patch_len {l : List UInt8} {o : Nat} {s : ByteArray} (h : o + s.size ≤ l.length) : (patch l o s).length = l.length := by
  unfold patch
  have : s.data.toList.length = s.size := rfl
  simp only [List.length_append, List.length_take, List.length_drop]
  omega
/-- A block of bytes. -/
def CR (x : World) (g : Nat) (l : List UInt8) : Prop := x.heap[g]? = some (.cells (byteCells l).toArray 5 (0, 0))
theorem sizeB : (Try.prog.info? 5).map (·.size) = some 1 := by kernel_rfl
theorem byteCells_app (a c : List UInt8) : byteCells (a ++ c) = byteCells a ++ byteCells c := by simp [byteCells]
theorem CR.copy {x : World} {g : Nat} {l : List UInt8} (h : CR x g l) (o n cap : Nat) (s : ByteArray) (hn : s.size ≤ n) (ho : o + s.size ≤ l.length) :
    ∃ y, (∀ ty, (Builtin.copy_ #[58, 9] ty #[.slice (some ⟨g, o, none⟩) n cap, .string s]).run Try.prog x = .ok (goInt s.size) y) ∧ CR y g (patch l o s) ∧ x.grownBy y (some g) := by
  have hr := fun ty => run_copy_row_string (P := Try.prog) x 58 9 ty 5 g o n cap s (byteCells l).toArray 5 Try.underlying58 sizeB h hn (by simp [byteCells]; exact ho)
  refine ⟨_, hr, ?_, ?_⟩
  · unfold CR
    rw [setRow_heap x g _ _ _ _ h]
    unfold patch
    rw [byteCells_app, byteCells_app]
    simp only [byteCells, List.map_take, List.map_drop]
  · exact ⟨rfl, rfl, rfl, by simp, fun k _ hk => setRow_other x g k _ (fun e => hk (by rw [e]))⟩
theorem CR.kept {x y : World} {g : Nat} {l : List UInt8} {row : Option Nat} (h : CR x g l) (hg : x.grownBy y row) (hne : some g ≠ row) : CR y g l := by
  have hlt : g < x.heap.size := by
    have := h
    unfold CR at this
    exact (Array.getElem?_eq_some_iff.1 this).1
  exact (hg.block g hlt hne).trans h
theorem CR.below {x y : World} {g : Nat} {l : List UInt8} (h : CR x g l) (hb : Below x.heap.size x y) : CR y g l := h.kept (gb_of_below hb none) (by simp)
/-- A linker as it lies: its layout, its code so far. -/
structure LK (w x : World) (b bm : Nat) (v : Value) (pl : List (ObjD × Sl)) (g N : Nat) (l : List UInt8) : Prop where
  ly : LY w x b bm v pl
  c6 : x.cell? ⟨b, 6, none⟩ = some (.slice (some ⟨g, 0, none⟩) N N)
  cr : CR x g l
  len : l.length = N
  hg : w.heap.size ≤ g
  gb : g ≠ b
  gm : g ≠ bm
  vg : v.ownBlock ≠ some g
theorem LK.below {w x y : World} {b bm : Nat} {v : Value} {pl : List (ObjD × Sl)} {g N : Nat} {l : List UInt8} (h : LK w x b bm v pl g N l) (hb : Below x.heap.size x y) : LK w y b bm v pl g N l :=
  ⟨h.ly.below hb, cell_thru hb h.c6, h.cr.below hb, h.len, h.hg, h.gb, h.gm, h.vg⟩
theorem LY.kept {w x y : World} {b bm : Nat} {v : Value} {l : List (ObjD × Sl)} {g : Nat} (h : LY w x b bm v l) (hg : x.grownBy y (some g)) (hw : w.heap.size ≤ g) (gb : g ≠ b) (gm : g ≠ bm) (vg : v.ownBlock ≠ some g) : LY w y b bm v l := by
  have hlt : b < x.heap.size := World.block_lt_of_cell? x ⟨b, 0, none⟩ h.c0
  have hne : some b ≠ some g := by intro e; cases e; exact gb rfl
  exact ⟨h.low.grown hg h.low.size (by intro k hk; cases hk; exact hw), hg.cell h.c0 hne, hg.cell h.c1 hne, hg.cell h.c2 hne, hg.cell h.c3 hne, hg.cell h.c4 hne, hg.cell h.c5 hne, fun o => (hg.frozen_far ⟨b, o, none⟩ hlt hne).trans (h.fz o), h.nm.kept hg (by intro e; cases e; exact gm rfl), h.own.kept hg (.inr vg), h.hb, h.hm, h.ne, h.vb, h.vm, h.c6e.imp fun u hu => hg.cell hu hne⟩
theorem LK.patched {w x y : World} {b bm : Nat} {v : Value} {pl : List (ObjD × Sl)} {g N : Nat} {l l' : List UInt8} (h : LK w x b bm v pl g N l) (hg : x.grownBy y (some g)) (hc : CR y g l') (hl : l'.length = N) : LK w y b bm v pl g N l' :=
  ⟨h.ly.kept hg h.hg h.gb h.gm h.vg, hg.cell h.c6 (by intro e; cases e; exact h.gb rfl), hc, hl, h.hg, h.gb, h.gm, h.vg⟩

/-- What is laid into a place. -/
def fillS (ss : List Sym) (z : L.Sz) (r : Rel) : ByteArray := strOfNums (W.bytesV (L.value ss z r) 4)
def fillRels (ss : List Sym) (z : L.Sz) : List UInt8 → List Rel → Option (List UInt8)
  | l, [] => some l
  | l, r :: rs => if L.valueOk ss z r = true then fillRels ss z (patch l (z.b + r.pos.toNat) (fillS ss z r)) rs else none
theorem fillS_size (ss : List Sym) (z : L.Sz) (r : Rel) : (fillS ss z r).size ≤ 4 := by
  unfold fillS W.bytesV
  rw [strOfNums_size]
  split
  · split
    · rw [W.bytesOf_length]; decide
    · simp
  · simp
theorem fill_drop {ss : List Sym} {z : L.Sz} {l : List UInt8} {rs : List Rel} {k : Nat} (hk : k < rs.length) : fillRels ss z l (rs.drop k) = if L.valueOk ss z (rs.getD k noRel) = true then fillRels ss z (patch l (z.b + (rs.getD k noRel).pos.toNat) (fillS ss z (rs.getD k noRel))) (rs.drop (k + 1)) else none := by
  rw [List.drop_eq_getElem_cons hk]
  have : rs.getD k noRel = rs[k] := by simp [List.getD, hk]
  rw [this]
  rfl

set_option maxRecDepth 100000 in
set_option maxHeartbeats 4000000 in
theorem fillPlaces_any {w x : World} {b bm : Nat} {v : Value} {pl : List (ObjD × Sl)} {g N : Nat} {l0 : List UInt8} (h : LK w x b bm v pl g N l0) {ss : List Sym} (hss : L.syms (pl.map Prod.fst) = ss) (z : L.Sz) {d : ObjD} {s : Sl} (hO : OV w d s) (hl3 : s.l3 ≤ 8000) (hN : N ≤ 65536)
    (hrl : ∀ r ∈ d.rels, (-2147483648 ≤ r.add ∧ r.add ≤ 2147483647) ∧ 0 ≤ r.pos ∧ (z.b : Int) + r.pos + 4 ≤ N) (hp : ∀ r ∈ d.rels, 0 ≤ ((L.look ss r.name).getD noSym).pos ∧ ((L.look ss r.name).getD noSym).pos ≤ 4294967296) :
    Calls Try.prog 35 #[.pointer (some ⟨b, 0, none⟩), .agg #[.int .i64 z.b, .int .i64 z.d, .int .i64 z.s, .int .i64 z.t, .string d.code, .slice s.a1 s.l1 s.c1, .slice s.a2 s.l2 s.c2, .slice s.a3 s.l3 s.c3]] x fun e x' =>
      e = .returned (.bool (fillRels ss z l0 d.rels).isSome) ∧ Below w.heap.size w x' ∧ ∀ l', fillRels ss z l0 d.rels = some l' → LK w x' b bm v pl g N l' := by
  have HL : Hid _ := h
  have HO : Hid _ := hO
  have HRL : Hid _ := hrl
  have HP : Hid _ := hp
  have hcnt := hO.rels.count
  have hgx : g < x.heap.size := by have := h.cr; unfold CR at this; exact (Array.getElem?_eq_some_iff.1 this).1
  clear h hO hrl hp
  obtain ⟨a1, l1, c1, a2, l2, c2, a3, l3, c3⟩ := s
  simp only at *
  obtain ⟨X1, hX1⟩ : ∃ X1, x.alloc (.cells #[.int .i64 z.b, .int .i64 z.d, .int .i64 z.s, .int .i64 z.t, .string d.code, .slice a1 l1 c1, .slice a2 l2 c2, .slice a3 l3 c3] 79) = X1 := ⟨_, rfl⟩
  have b1 : Below x.heap.size x X1 := by subst hX1; exact bl_one _ _
  have p0 : X1.cell? ⟨x.heap.size, 0, none⟩ = some (.int .i64 z.b) := by subst hX1; exact cell_last rfl rfl
  have p7 : X1.cell? ⟨x.heap.size, 7, none⟩ = some (.slice a3 l3 c3) := by subst hX1; exact cell_last rfl rfl
  go_enter Try.func35, Try.ntmps35
  go_wp2_with fail
  go_loopg [16] l3 (fun r iv wq => ∃ (k : Nat) (lq : List UInt8), iv = .int .i64 k ∧ k ≤ l3 ∧ l3 - k ≤ r ∧ Hid (fillRels ss z l0 d.rels = fillRels ss z lq (d.rels.drop k)) ∧ Hid (LK w wq b bm v pl g N lq) ∧ Hid (X1.grownBy wq (some g)))
  case atStart => exact ⟨0, l0, rfl, Nat.zero_le _, by omega, (rfl : fillRels ss z l0 d.rels = fillRels ss z l0 (d.rels.drop 0)), HL.out.below b1, gb_of_below (Below.refl _ _) _⟩
  case round =>
    obtain ⟨k, lq, rfl, hk, hr, HA, HK, HG⟩ := hrel
    by_cases hlt : k < l3
    · rcases HO.out.rels.cells with h0 | ⟨c, off, hA, hc⟩
      · simp only at h0
        omega
      simp only at hA
      obtain ⟨k0, k1, k2, k3⟩ := hc k hlt
      have hlow := HK.out.ly.low
      have hbl : c < w.heap.size := World.block_lt_of_cell? w ⟨c, off + k * 4, none⟩ k0
      have q0 := (hlow.cell (p := ⟨c, off + k * 4, none⟩) hbl).trans k0
      have q1 := (hlow.cell (p := ⟨c, off + k * 4 + 1, none⟩) hbl).trans k1
      have q2 := (hlow.cell (p := ⟨c, off + k * 4 + 2, none⟩) hbl).trans k2
      have q3 := (hlow.cell (p := ⟨c, off + k * 4 + 3, none⟩) hbl).trans k3
      have hmem : d.rels.getD k noRel ∈ d.rels := by simp [List.getD, show k < d.rels.length by omega]
      have hfit := (HO.out.rels.fits _ hmem).1
      have hrr := HRL.out _ hmem
      have hpp := HP.out _ hmem
      have HD : Hid _ := fill_drop (ss := ss) (z := z) (l := lq) (rs := d.rels) (k := k) (by omega)
      have P0 : wr.cell? ⟨x.heap.size, 0, none⟩ = some (.int .i64 z.b) := HG.out.cell p0 (by simp; omega)
      obtain ⟨y, hy⟩ : ∃ y, d.rels.getD k noRel = y := ⟨_, rfl⟩
      rw [hy] at q0 q1 q2 q3 hfit hrr hpp HD
      clear hmem hy
      obtain ⟨py, ky, ny, ay⟩ := y
      subst hA
      simp only at q0 q1 q2 q3 hfit hrr hpp
      have F6 := HK.out.c6
      obtain ⟨Y1, hY1⟩ : ∃ Y1, wr.alloc (.cells #[.int .i64 py, .int .i64 ky, .string ny, .int .i64 ay] 45) = Y1 := ⟨_, rfl⟩
      have bY : Below wr.heap.size wr Y1 := by subst hY1; exact bl_one _ _
      have sY1 : Y1.heap.size = wr.heap.size + 1 := by subst hY1; simp
      have g0 : Y1.cell? ⟨wr.heap.size, 0, none⟩ = some (.int .i64 py) := by subst hY1; exact cell_last rfl rfl
      have g1 : Y1.cell? ⟨wr.heap.size, 1, none⟩ = some (.int .i64 ky) := by subst hY1; exact cell_last rfl rfl
      have g2 : Y1.cell? ⟨wr.heap.size, 2, none⟩ = some (.string ny) := by subst hY1; exact cell_last rfl rfl
      have g3 : Y1.cell? ⟨wr.heap.size, 3, none⟩ = some (.int .i64 ay) := by subst hY1; exact cell_last rfl rfl
      have P0 := cell_thru bY P0
      have HK1 : Hid (LK w Y1 b bm v pl g N lq) := HK.out.below bY
      have hin : 0 ≤ (k : Int) := by omega
      have hii : (k : Int) < l3 := by omega
      clear hc k0 k1 k2 k3
      have hNM : NM Y1 bm ss := by rw [← hss]; exact HK1.out.ly.nm
      have hval := value_any HK1.out.ly.c5 hNM z ⟨py, ky, ny, ay⟩ hfit hrr.1 ⟨hrr.2.1, by simp only; omega⟩ hpp
      obtain ⟨vv, hvv⟩ : ∃ vv, L.value ss z ⟨py, ky, ny, ay⟩ = vv := ⟨_, rfl⟩
      obtain ⟨oo, hoo⟩ : ∃ oo, L.valueOk ss z ⟨py, ky, ny, ay⟩ = oo := ⟨_, rfl⟩
      have HFS : Hid (fillS ss z ⟨py, ky, ny, ay⟩ = strOfNums (W.bytesV vv 4)) := by show _ = _; unfold fillS; rw [hvv]
      have HFZ : Hid _ := fillS_size ss z ⟨py, ky, ny, ay⟩
      rw [hvv, hoo] at hval
      rw [hoo] at HD
      obtain ⟨at', hat⟩ : ∃ n : Nat, (z.b : Int) + py = n := ⟨z.b + py.toNat, by omega⟩
      have hatn : z.b + py.toNat = at' := by omega
      simp only at HD
      rw [hatn] at HD
      rw [HFS.out] at HD HFZ
      simp only at hval
      rw [hat] at hval
      have ha0 : (0 : Int) ≤ (at' : Int) := by omega
      have ha1 : (at' : Int) ≤ N := by omega
      have ha2 : at' + 4 ≤ N := by omega
      clear hvv hoo hNM hrr hpp hlow HFS
      go_wp2_with fail
      refine hval.mono ?_
      clear hval
      rintro e y ⟨rfl, hb⟩
      have HK2 : Hid (LK w y b bm v pl g N lq) := HK1.out.below hb
      have bY2 : Below wr.heap.size wr y := bY.trans (hb.mono bY.size)
      cases oo with
      | false =>
        have HE : Hid (fillRels ss z l0 d.rels = none) := by show _ = _; rw [HA.out, HD.out]; rfl
        clear HD HA
        go_wp2
        go_ret
        exact ⟨by rw [HE.out]; rfl, HK2.out.ly.low, fun l' h => by rw [HE.out] at h; cases h⟩
      | true =>
        have HE0 : Hid _ := HD.out
        rw [if_pos rfl] at HE0
        clear HD
        go_wp2_with fail
        refine (bytes_any vv 4 _).mono ?_
        rintro e y2 ⟨rfl, hb2⟩
        have HK3 : Hid (LK w y2 b bm v pl g N lq) := HK2.out.below hb2
        have bY3 : Below wr.heap.size wr y2 := bY2.trans (hb2.mono bY2.size)
        generalize strOfNums (W.bytesV vv 4) = sB at *
        generalize W.bytesE vv 4 = eB at *
        have f6 := HK3.out.c6
        obtain ⟨y3, hcp, hcr, hgr⟩ := HK3.out.cr.copy at' (N - at') (N - at') sB (by have := HFZ.out; omega) (by have := HFZ.out; have := HK3.out.len; omega)
        have hfz : sB.size ≤ 4 := HFZ.out
        have hlq := HK3.out.len
        have HE : Hid (fillRels ss z l0 d.rels = fillRels ss z (patch lq at' sB) (d.rels.drop (k + 1))) := by show _ = _; rw [HA.out, HE0.out]
        have HKN : Hid (LK w y3 b bm v pl g N (patch lq at' sB)) := HK3.out.patched hgr hcr (by rw [patch_len (by omega)]; exact hlq)
        have HGN : Hid (X1.grownBy y3 (some g)) := gbt (gbt HG.out (gb_of_below bY3 _)) hgr
        clear HE0 HA HK3 HK2 HK1 HK
        go_wp2
        go_roundg (l3 - (k + 1))
        case measure => omega
        case rel => exact ⟨k + 1, patch lq at' sB, by go_num, by omega, Nat.le_refl _, HE.out, HKN.out, HGN.out⟩
    · obtain rfl : k = l3 := by omega
      have hfull : d.rels.drop k = [] := by rw [← hcnt]; simp
      have HF : Hid (fillRels ss z l0 d.rels = some lq) := by have := HA.out; rw [hfull] at this; exact this
      have hii : ¬ (k : Int) < k := by omega
      go_wp2
      go_ret
      exact ⟨by rw [HF.out]; rfl, HK.out.ly.low, fun l' h => by rw [HF.out] at h; cases h; exact HK.out⟩
end Go.Proofs.Ytaoklmphcgigeaa

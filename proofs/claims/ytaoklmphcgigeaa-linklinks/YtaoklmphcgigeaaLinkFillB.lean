/- The contract of filling. -/
import Derived.Test.YtaoklmphcgigeaaLinkFill
namespace Go.Proofs.Ytaoklmphcgigeaa
open Go.RowKit Go.Lib
set_option linter.unusedVariables false
set_option linter.unusedSimpArgs false

theorem LY.set6 {w x : World} {b bm : Nat} {v : Value} {l : List (ObjD × Sl)} (h : LY w x b bm v l) (u : Value) : LY w (x.setCell ⟨b, 6, none⟩ u) b bm v l := by
  have o6 : ∀ o r, o ≠ 6 → x.cell? ⟨b, o, none⟩ = some r → (x.setCell ⟨b, 6, none⟩ u).cell? ⟨b, o, none⟩ = some r := fun o r ho hr => by
    rw [World.cell?_setCell_other _ _ _ _ (fun e' => ho (by have := congrArg Addr.off e'; simpa using this.symm))]
    exact hr
  have hg := gb_set x ⟨b, 6, none⟩ u
  exact ⟨h.low.grown hg h.low.size (by intro k hk; cases hk; exact h.hb), o6 0 _ (by decide) h.c0, o6 1 _ (by decide) h.c1, o6 2 _ (by decide) h.c2, o6 3 _ (by decide) h.c3, o6 4 _ (by decide) h.c4, o6 5 _ (by decide) h.c5, fun o => by rw [World.frozen?_setCell]; exact h.fz o, h.nm.kept hg (by intro e; cases e; exact h.ne rfl), h.own.kept hg (.inr h.vb), h.hb, h.hm, h.ne, h.vb, h.vm, ⟨u, World.cell?_setCell_same' _ _ _ (by obtain ⟨q, hq⟩ := h.c6e; rw [hq]; rfl)⟩⟩

theorem patch_none {l : List UInt8} {o : Nat} {s : ByteArray} (h : s.size = 0) : patch l o s = l := by
  unfold patch
  have e : s.data.toList = [] := List.eq_nil_of_length_eq_zero h
  rw [e, h, List.append_nil, Nat.add_zero, List.take_append_drop]
theorem CR.copyAt {x : World} {g : Nat} {l : List UInt8} (h : CR x g l) (o N : Nat) (s : ByteArray) (ho : o + s.size ≤ N) (hl : l.length = N) :
    ∃ y, (∀ ty, (Builtin.copy_ #[58, 9] ty #[.slice (if N = o then some ⟨g, 0, none⟩ else some ⟨g, o, none⟩) (N - o) (N - o), .string s]).run Try.prog x = .ok (goInt s.size) y) ∧ CR y g (patch l o s) ∧ x.grownBy y (some g) := by
  by_cases e : N = o
  · have h0 : s.size = 0 := by omega
    refine ⟨x, fun ty => ?_, by rw [patch_none h0]; exact h, gb_of_below (Below.refl _ _) _⟩
    rw [if_pos e, run_copy_empty_string (P := Try.prog) x 58 9 ty 5 _ _ _ s Try.underlying58 (by kernel_rfl) h0, h0]
    rfl
  · rw [if_neg e]
    exact h.copy o (N - o) (N - o) s (by omega) (by omega)

set_option maxRecDepth 100000 in
set_option maxHeartbeats 4000000 in
theorem fill_any {w x : World} {b bm : Nat} {v u6 : Value} {pl : List (ObjD × Sl)} (h : LY w x b bm v pl) (h6 : x.cell? ⟨b, 6, none⟩ = some u6) {os : List ObjD} (hos : pl.map Prod.fst = os) (hov : ∀ p ∈ pl, OV w p.1 p.2) (hmay : ∀ o ∈ os, o.may = true) (hn : pl.length ≤ 16) {N : Nat} (hNN : (L.sizes os).b = N) (hN : N ≤ 65536)
    (hp : ∀ nm, 0 ≤ ((L.look (L.syms os) nm).getD noSym).pos ∧ ((L.look (L.syms os) nm).getD noSym).pos ≤ 4294967296) :
    Calls Try.prog 23 #[.pointer (some ⟨b, 0, none⟩)] x fun e x' =>
      e = .returned (.bool (fillAll (L.syms os) L.zero (List.replicate N 0) os).isSome) ∧ Below w.heap.size w x' ∧ ∀ l', fillAll (L.syms os) L.zero (List.replicate N 0) os = some l' → LK w x' b bm v pl x.heap.size N l' := by
  have hbx : b < x.heap.size := World.block_lt_of_cell? x ⟨b, 0, none⟩ h.c0
  have hmx : bm < x.heap.size := h.nm.lt
  have hvx : ∀ q, v.ownBlock = some q → q < x.heap.size := fun q e => (h.own.lt _ e).2
  obtain ⟨ao, cap, hv, hao⟩ : ∃ ao cap, v = .slice ao pl.length cap ∧ (0 < pl.length → ∃ g', ao = some ⟨g', 0, none⟩ ∧ v.ownBlock = some g') := by
    rcases h.parts with ⟨h1, h2⟩ | ⟨g', cap, h1, h2⟩
    · exact ⟨none, 0, by rw [h2]; exact h1, fun h3 => by omega⟩
    · exact ⟨_, cap, h1, fun _ => ⟨g', rfl, h2⟩⟩
  have hmk := makeB x N hN
  obtain ⟨X1, hX1⟩ : ∃ X1, x.alloc (.cells (byteCells (List.replicate N 0)).toArray 5) = X1 := ⟨_, rfl⟩
  rw [hX1] at hmk
  have b1 : Below x.heap.size x X1 := by subst hX1; exact bl_one _ _
  have cr1 : CR X1 x.heap.size (List.replicate N 0) := by subst hX1; unfold CR; exact heap_alloc_new x _
  have e0 := h.c0
  rw [hos, hNN] at e0
  have e6 := cell_thru b1 h6
  have f6 : X1.frozen? ⟨b, 6, none⟩ = false := (b1.frozen (p := ⟨b, 6, none⟩) hbx).trans (h.fz 6)
  obtain ⟨X2, hX2⟩ : ∃ X2, X1.setCell ⟨b, 6, none⟩ (.slice (some ⟨x.heap.size, 0, none⟩) N N) = X2 := ⟨_, rfl⟩
  have gs : X1.grownBy X2 (some b) := by subst hX2; exact gb_set _ _ _
  have HK0 : Hid (LK w X2 b bm v pl x.heap.size N (List.replicate N 0)) := by
    have hly : LY w X2 b bm v pl := by subst hX2; exact (h.below b1).set6 _
    exact ⟨hly, by subst hX2; exact World.cell?_setCell_same' _ _ _ (by rw [e6]; rfl), cr1.kept gs (by intro e; cases e; omega), by simp, h.low.size, by omega, by omega, fun e => by have := hvx _ e; omega⟩
  have c4 := HK0.out.ly.c4
  rw [hv] at c4
  have HVV : Hid _ := hv
  clear hv
  have HOV : Hid _ := hov
  have HMY : Hid _ := hmay
  have HPP : Hid _ := hp
  have HOS : Hid _ := hos
  have HAO : Hid _ := hao
  have hlen : os.length = pl.length := by rw [← hos, List.length_map]
  clear h hov hmay hp hos hao h6
  go_enter Try.func23, Try.ntmps23
  go_wp2_with fail
  obtain ⟨n, hnn⟩ : ∃ n, pl.length = n := ⟨_, rfl⟩
  rw [hnn]
  obtain ⟨g, hg⟩ : ∃ g, x.heap.size = g := ⟨_, rfl⟩
  rw [hg] at HK0
  rw [hg]
  have HB0 : Hid (Below x.heap.size x X1) := b1
  clear hmk c4 e0 e6 f6 gs cr1 b1 hX1 hX2
  go_loopg [21] n (fun r iv wq => ∃ (k : Nat) (lq : List UInt8), iv = .int .i64 k ∧ k ≤ n ∧ n - k ≤ r ∧ Hid (fillAll (L.syms os) L.zero (List.replicate N 0) os = fillAll (L.syms os) (L.sizes (os.take k)) lq (os.drop k)) ∧ Hid (LK w wq b bm v pl g N lq))
  case atStart => exact ⟨0, List.replicate N 0, rfl, Nat.zero_le _, by omega, (rfl : fillAll (L.syms os) L.zero (List.replicate N 0) os = fillAll (L.syms os) (L.sizes (os.take 0)) (List.replicate N 0) (os.drop 0)), HK0.out⟩
  case round =>
    obtain ⟨k, lq, rfl, hk, hr, HA, HK⟩ := hrel
    by_cases hlt : k < n
    · obtain ⟨g', hao', hvb⟩ := HAO.out (by omega)
      obtain ⟨p, hpk⟩ : ∃ p, pl[k]? = some p := ⟨pl[k]'(by omega), by simp⟩
      have hpm : p ∈ pl := List.mem_of_getElem? hpk
      obtain ⟨d, sl⟩ := p
      have hdk : os[k]? = some d := by rw [← HOS.out, List.getElem?_map, hpk]; rfl
      have HDR : Hid _ := fillAll_drop (ss := L.syms os) (z := L.sizes (os.take k)) (l := lq) hdk
      have HST : Hid _ := sizes_take hdk
      have hah := sizes_ahead hdk
      rw [hNN] at hah
      have hmd : d.may = true := HMY.out d (List.mem_of_getElem? hdk)
      have HO : Hid (OV w d sl) := HOV.out _ hpm
      have hst : ((pl.take k).map Prod.fst).foldl L.grow L.zero = L.sizes (os.take k) := by rw [List.map_take, HOS.out]; rfl
      have hcell : ∀ j u, j < 8 → (partC (L.sizes (os.take k)) d sl)[j]? = some u → wr.cell? ⟨g', k * 8 + j, none⟩ = some u := fun j u hj hu => by
        have h1 := HK.out.ly.own.cells hvb (k * 8 + j) u (by rw [partsC_at pl L.zero k _ hpk j hj, hst]; exact hu)
        rw [Addr.add_lit, Nat.zero_add] at h1
        exact h1
      have HRL : Hid _ := may_rels hmd
      have hrn : sl.l3 ≤ 8000 := by have := (may_sizes hmd).2.2.2.1; have h3 := HO.out.rels.count; omega
      obtain ⟨z, hz⟩ : ∃ z, L.sizes (os.take k) = z := ⟨_, rfl⟩
      rw [hz] at HDR HST hah hcell HA
      have q0 := hcell 0 _ (by decide) rfl
      have q1 := hcell 1 _ (by decide) rfl
      have q2 := hcell 2 _ (by decide) rfl
      have q3 := hcell 3 _ (by decide) rfl
      have q4 := hcell 4 _ (by decide) rfl
      have q5 := hcell 5 _ (by decide) rfl
      have q6 := hcell 6 _ (by decide) rfl
      have q7 := hcell 7 _ (by decide) rfl
      rw [Nat.add_zero] at q0
      have hin : 0 ≤ (k : Int) := by omega
      have hii : (k : Int) < n := by omega
      obtain ⟨Y1, hY1⟩ : ∃ Y1, wr.alloc (.cells #[.int .i64 z.b, .int .i64 z.d, .int .i64 z.s, .int .i64 z.t, .string d.code, .slice sl.a1 sl.l1 sl.c1, .slice sl.a2 sl.l2 sl.c2, .slice sl.a3 sl.l3 sl.c3] 79) = Y1 := ⟨_, rfl⟩
      have bY : Below wr.heap.size wr Y1 := by subst hY1; exact bl_one _ _
      have gc : ∀ j u, (partC z d sl)[j]? = some u → Y1.cell? ⟨wr.heap.size, j, none⟩ = some u := fun j u hu => by subst hY1; exact cell_last rfl (by simpa [partC] using hu)
      have g0 := gc 0 _ rfl
      have g4 := gc 4 _ rfl
      have HK1 : Hid (LK w Y1 b bm v pl g N lq) := HK.out.below bY
      have c6 := HK1.out.c6
      have hgw : g < wr.heap.size := by have := HK.out.cr; unfold CR at this; exact (Array.getElem?_eq_some_iff.1 this).1
      have hln := HK1.out.len
      obtain ⟨y3, hcp, hcr, hgr⟩ := (HK1.out.below (Below.refl _ _).drew).cr.copyAt z.b N d.code (by omega) hln
      have HK2 : Hid (LK w y3 b bm v pl g N (patch lq z.b d.code)) := (HK1.out.below (Below.refl _ _).drew).patched hgr hcr (by rw [patch_len (by omega)]; exact hln)
      have gd : ∀ j u, (partC z d sl)[j]? = some u → y3.cell? ⟨wr.heap.size, j, none⟩ = some u := fun j u hu => hgr.cell (gc j u hu) (by simp; omega)
      have r0 := gd 0 _ rfl
      have r1 := gd 1 _ rfl
      have r2 := gd 2 _ rfl
      have r3 := gd 3 _ rfl
      have r4 := gd 4 _ rfl
      have r5 := gd 5 _ rfl
      have r6 := gd 6 _ rfl
      have r7 := gd 7 _ rfl
      have hz0 : (0 : Int) ≤ z.b := by omega
      have hz1 : (z.b : Int) ≤ N := by omega
      subst hao'
      clear hcell gc gd hst hmd hpm hpk
      have HRR : Hid (∀ r ∈ d.rels, (-2147483648 ≤ r.add ∧ r.add ≤ 2147483647) ∧ 0 ≤ r.pos ∧ (z.b : Int) + r.pos + 4 ≤ N) := fun r hr => by
        obtain ⟨h1, h2, h3⟩ := HRL.out r hr
        exact ⟨h1, h2, by omega⟩
      have HSS : Hid (L.syms (pl.map Prod.fst) = L.syms os) := by show _ = _; rw [HOS.out]
      rcases Classical.em (N = z.b) with heq | heq
      · simp only [if_pos heq] at hcp
        have hE : (N = z.b) = True := eq_true heq
        have HEQ : Hid _ := heq
        clear heq
        go_wp2_with fail
        go_region
        go_wp2_with fail
        refine (fillPlaces_any HK2.out HSS.out z HO.out hrn hN HRR.out (fun r hr => HPP.out r.name)).mono ?_
        rintro e y ⟨rfl, hlow, hres⟩
        obtain ⟨fr, hfr⟩ : ∃ fr, fillRels (L.syms os) z (patch lq z.b d.code) d.rels = fr := ⟨_, rfl⟩
        rw [hfr]
        rw [hfr] at HDR hres
        have HRES : Hid _ := hres
        clear hres hcp hcr hgr q0 q1 q2 q3 q4 q5 q6 q7 r0 r1 r2 r3 r4 r5 r6 r7 g0 g4 c6
        cases fr with
        | none =>
          have HE : Hid (fillAll (L.syms os) L.zero (List.replicate N 0) os = none) := by show _ = _; rw [HA.out, HDR.out]
          clear HDR HA HRES
          simp only [Option.isSome_none]
          go_wp2
          go_ret
          exact ⟨by rw [HE.out]; rfl, hlow, fun l' h => by rw [HE.out] at h; cases h⟩
        | some l2 =>
          have HE : Hid (fillAll (L.syms os) L.zero (List.replicate N 0) os = fillAll (L.syms os) (L.sizes (os.take (k + 1))) l2 (os.drop (k + 1))) := by show _ = _; rw [HA.out, HDR.out, HST.out]
          have HK3 : Hid (LK w y b bm v pl g N l2) := HRES.out l2 rfl
          clear HDR HA HRES HST
          simp only [Option.isSome_some]
          go_wp2_with fail
          go_roundg (n - (k + 1))
          case measure => omega
          case rel => exact ⟨k + 1, l2, by go_num, by omega, Nat.le_refl _, HE.out, HK3.out⟩
      · simp only [if_neg heq] at hcp
        go_wp2_with fail
        go_region
        go_wp2_with fail
        refine (fillPlaces_any HK2.out HSS.out z HO.out hrn hN HRR.out (fun r hr => HPP.out r.name)).mono ?_
        rintro e y ⟨rfl, hlow, hres⟩
        obtain ⟨fr, hfr⟩ : ∃ fr, fillRels (L.syms os) z (patch lq z.b d.code) d.rels = fr := ⟨_, rfl⟩
        rw [hfr]
        rw [hfr] at HDR hres
        have HRES : Hid _ := hres
        clear hres hcp hcr hgr q0 q1 q2 q3 q4 q5 q6 q7 r0 r1 r2 r3 r4 r5 r6 r7 g0 g4 c6
        cases fr with
        | none =>
          have HE : Hid (fillAll (L.syms os) L.zero (List.replicate N 0) os = none) := by show _ = _; rw [HA.out, HDR.out]
          clear HDR HA HRES
          simp only [Option.isSome_none]
          go_wp2
          go_ret
          exact ⟨by rw [HE.out]; rfl, hlow, fun l' h => by rw [HE.out] at h; cases h⟩
        | some l2 =>
          have HE : Hid (fillAll (L.syms os) L.zero (List.replicate N 0) os = fillAll (L.syms os) (L.sizes (os.take (k + 1))) l2 (os.drop (k + 1))) := by show _ = _; rw [HA.out, HDR.out, HST.out]
          have HK3 : Hid (LK w y b bm v pl g N l2) := HRES.out l2 rfl
          clear HDR HA HRES HST
          simp only [Option.isSome_some]
          go_wp2_with fail
          go_roundg (n - (k + 1))
          case measure => omega
          case rel => exact ⟨k + 1, l2, by go_num, by omega, Nat.le_refl _, HE.out, HK3.out⟩
    · obtain rfl : k = n := by omega
      have HF : Hid (fillAll (L.syms os) L.zero (List.replicate N 0) os = some lq) := by
        have := HA.out
        rw [show os.drop k = [] from by apply List.drop_eq_nil_of_le; omega] at this
        exact this
      have hii : ¬ (k : Int) < k := by omega
      go_wp2
      go_ret
      exact ⟨by rw [HF.out]; rfl, HK.out.ly.low, fun l' h => by rw [HF.out] at h; cases h; exact HK.out⟩
end Go.Proofs.Ytaoklmphcgigeaa

/- The contract of the linker's image. -/
import Derived.Test.YtaoklmphcgigeaaLinkImage
namespace Go.Proofs.Ytaoklmphcgigeaa
open Go.RowKit Go.Lib
set_option linter.unusedVariables false
set_option linter.unusedSimpArgs false

set_option maxRecDepth 100000 in
set_option maxHeartbeats 8000000 in
theorem image_any {w x : World} {b bm : Nat} {v : Value} {pl : List (ObjD × Sl)} {g N : Nat} {lc : List UInt8} (h : LK w x b bm v pl g N lc) {os : List ObjD} (hos : pl.map Prod.fst = os) (hov : ∀ p ∈ pl, OV w p.1 p.2) (hmay : ∀ o ∈ os, o.may = true) (hn : pl.length ≤ 16) :
    Calls Try.prog 24 #[.pointer (some ⟨b, 0, none⟩)] x fun e x' =>
      ∃ v1 v2, e = .returned (.agg #[.string ⟨lc.toArray⟩, v1, v2]) ∧ ImgR x x' v1 v2 (datas os) (L.syms os) := by
  have hbx : b < x.heap.size := World.block_lt_of_cell? x ⟨b, 0, none⟩ h.ly.c0
  obtain ⟨ao, cap, hv, hao⟩ : ∃ ao cap, v = .slice ao pl.length cap ∧ (0 < pl.length → ∃ g', ao = some ⟨g', 0, none⟩ ∧ v.ownBlock = some g') := by
    rcases h.ly.parts with ⟨h1, h2⟩ | ⟨g', cap, h1, h2⟩
    · exact ⟨none, 0, by rw [h2]; exact h1, fun h3 => by omega⟩
    · exact ⟨_, cap, h1, fun _ => ⟨g', rfl, h2⟩⟩
  obtain ⟨i1, hi1, hz10, hz11, hz12⟩ := info_partsL infoI
  obtain ⟨i2, hi2, hz20, hz21, hz22⟩ := info_partsL infoS
  obtain ⟨X1, hX1⟩ : ∃ X1, x.alloc (.cells #[.string { data := #[] }, .slice none 0 0, .slice none 0 0] 29) = X1 := ⟨_, rfl⟩
  have b1 : Below x.heap.size x X1 := by subst hX1; exact bl_one _ _
  have sX1 : X1.heap.size = x.heap.size + 1 := by subst hX1; simp
  have hcv := cr_conv (h.cr.below b1)
  have hlen := h.len
  rw [hlen] at hcv
  have c6 := cell_thru b1 h.c6
  have HIS0 : Hid (IS x (X1.alloc (.cells #[.string ⟨lc.toArray⟩, .slice none 0 0, .slice none 0 0] 29)) ⟨lc.toArray⟩ (.slice none 0 0) (.slice none 0 0) [] [] []) := by subst hX1; exact IS.start x _
  have bX2 : Below x.heap.size x (X1.alloc (.cells #[.string ⟨lc.toArray⟩, .slice none 0 0, .slice none 0 0] 29)) := b1.alloc b1.size _
  have c4 : ∀ o : Obj, (X1.alloc o).cell? ⟨b, 4, none⟩ = some v := fun o => cell_thru (bl_one X1 o) (cell_thru b1 h.ly.c4)
  simp only [hv] at c4
  have HVV : Hid _ := hv
  have HAO : Hid _ := hao
  have HOV : Hid _ := hov
  have HMY : Hid _ := hmay
  have HOS : Hid _ := hos
  have HL : Hid _ := h
  have hlen : os.length = pl.length := by rw [← hos, List.length_map]
  clear h hv hao hov hmay hos
  go_enter Try.func24, Try.ntmps24
  go_wp2_with fail
  obtain ⟨n, hnn⟩ : ∃ n, pl.length = n := ⟨_, rfl⟩
  rw [hnn]
  rw [hnn] at hlen hn HAO
  clear hcv c6 c4 hX1
  obtain ⟨X2, hX2⟩ : ∃ X2, X1.alloc (.cells #[.string ⟨lc.toArray⟩, .slice none 0 0, .slice none 0 0] 29) = X2 := ⟨_, rfl⟩
  rw [hX2] at HIS0 bX2
  rw [hX2]
  clear hX2
  go_loopg [20] n (fun r iv wq => ∃ (k : Nat) (v1 v2 : Value), iv = .int .i64 k ∧ k ≤ n ∧ n - k ≤ r ∧ Hid (IS x wq ⟨lc.toArray⟩ v1 v2 (datas (os.take k)) (L.syms (os.take k)) []))
  case atStart => exact ⟨0, _, _, rfl, Nat.zero_le _, by omega, HIS0.out⟩
  case round =>
    obtain ⟨k, v1, v2, rfl, hk, hr, HI⟩ := hrel
    obtain ⟨d1, g1, d2, g2, rfl, rfl⟩ := HI.out.sl
    by_cases hlt : k < n
    · obtain ⟨g', hao', hvb⟩ := HAO.out (by omega)
      obtain ⟨p, hpk⟩ : ∃ p, pl[k]? = some p := ⟨pl[k]'(by omega), by simp⟩
      have hpm : p ∈ pl := List.mem_of_getElem? hpk
      obtain ⟨d, sl⟩ := p
      have hdk : os[k]? = some d := by rw [← HOS.out, List.getElem?_map, hpk]; rfl
      have HDT : Hid _ := datas_take hdk
      have HST : Hid _ := syms_take hdk
      have hmd : d.may = true := HMY.out d (List.mem_of_getElem? hdk)
      have HO : Hid (OV w d sl) := HOV.out _ hpm
      have hst : ((pl.take k).map Prod.fst).foldl L.grow L.zero = L.sizes (os.take k) := by rw [List.map_take, HOS.out]; rfl
      have hlow : Below x.heap.size x wr := BS.low HI.out
      have hgx : g' < x.heap.size := (HL.out.ly.own.lt _ hvb).2
      have hcell : ∀ j u, j < 8 → (partC (L.sizes (os.take k)) d sl)[j]? = some u → wr.cell? ⟨g', k * 8 + j, none⟩ = some u := fun j u hj hu => by
        have h1 := (HL.out.below hlow).ly.own.cells hvb (k * 8 + j) u (by rw [partsC_at pl L.zero k _ hpk j hj, hst]; exact hu)
        rw [Addr.add_lit, Nat.zero_add] at h1
        exact h1
      have HSZ : Hid _ := sizes_le (os.take k) L.zero (fun o ho => HMY.out o (List.mem_of_mem_take ho))
      have hsz : (L.sizes (os.take k)).b ≤ 1048576 ∧ (L.sizes (os.take k)).d ≤ 65536 ∧ (L.sizes (os.take k)).s ≤ 16000 := by
        have h1 := HSZ.out
        have hl : (os.take k).length ≤ 16 := by rw [List.length_take]; omega
        have z1 : L.zero.b = 0 := rfl
        have z2 : L.zero.d = 0 := rfl
        have z3 : L.zero.s = 0 := rfl
        unfold L.sizes
        omega
      have hdl : (datas (os.take k)).length ≤ 65536 := by
        have h1 := datas_len (os.take k) L.zero
        have z2 : L.zero.d = 0 := rfl
        have := hsz.2.1
        unfold L.sizes at this
        omega
      have hsl : (L.syms (os.take k)).length ≤ 16000 := by rw [syms_len]; exact hsz.2.2
      have hmm := may_sizes hmd
      have HMM : Hid _ := hmm
      have h1c := HO.out.ints.count
      have h2c := HO.out.syms.count
      have hl1 : sl.l1 ≤ 4096 := by omega
      have hl2 : sl.l2 ≤ 1000 := by omega
      obtain ⟨z, hz⟩ : ∃ z, L.sizes (os.take k) = z := ⟨_, rfl⟩
      obtain ⟨D, hD⟩ : ∃ D, datas (os.take k) = D := ⟨_, rfl⟩
      obtain ⟨S, hS⟩ : ∃ S, L.syms (os.take k) = S := ⟨_, rfl⟩
      rw [hz] at hcell hsz HST
      rw [hD] at hdl HI HDT
      rw [hS] at hsl HI HST
      obtain ⟨a1, l1, c1, a2, l2, c2, a3, l3, c3⟩ := sl
      obtain ⟨zb, zd, zs, zt⟩ := z
      simp only at hl1 hl2 h1c h2c hsz
      have q0 := hcell 0 _ (by decide) rfl
      have q1 := hcell 1 _ (by decide) rfl
      have q2 := hcell 2 _ (by decide) rfl
      have q3 := hcell 3 _ (by decide) rfl
      have q4 := hcell 4 _ (by decide) rfl
      have q5 := hcell 5 _ (by decide) rfl
      have q6 := hcell 6 _ (by decide) rfl
      have q7 := hcell 7 _ (by decide) rfl
      rw [Nat.add_zero] at q0
      simp only at q0 q1 q2 q3 q4 q5 q6 q7
      have hin : 0 ≤ (k : Int) := by omega
      have hii : (k : Int) < n := by omega
      obtain ⟨Y1, hY1⟩ : ∃ Y1, wr.alloc (.cells #[.int .i64 zb, .int .i64 zd, .int .i64 zs, .int .i64 zt, .string d.code, .slice a1 l1 c1, .slice a2 l2 c2, .slice a3 l3 c3] 79) = Y1 := ⟨_, rfl⟩
      have HI1 : Hid (IS x Y1 ⟨lc.toArray⟩ (.slice d1 D.length g1) (.slice d2 S.length g2) D S [(wr.heap.size, partC ⟨zb, zd, zs, zt⟩ d ⟨a1, l1, c1, a2, l2, c2, a3, l3, c3⟩)]) := by subst hY1; exact HI.out.put _ _
      have lowY : Below w.heap.size w Y1 := by
        have h1 : Below x.heap.size x Y1 := BS.low HI1.out
        exact HL.out.ly.low.trans (h1.mono HL.out.ly.low.size)
      have HSR : Hid _ := (HO.out.ints.below lowY).src
      have HNI : Hid _ := HO.out.ints.nilOf
      have i1c := HI1.out.cell.1.2.1
      have m5 := HI1.out.more 5 _ rfl
      simp only [partC] at m5
      have hYx : x.heap.size ≤ Y1.heap.size := (BS.low HI1.out).size
      have hown1 := BS.own HI1.out 1 _ rfl
      simp only at hown1
      have HOW : Hid _ := hown1
      obtain ⟨bp, hbp⟩ : ∃ bp, wr.heap.size = bp := ⟨_, rfl⟩
      rw [hbp] at HI1 m5
      subst hao'
      clear hcell hst hmd hpm hpk hlow hmm hown1
      go_wp2_with (first | (at_builtin; refine wpList_append_more rfl _ _ 26 rfl x.heap.size 2 i1 _ 1 8 Try.underlying26 hi1 hz10 hz11 hz12 rfl (by decide) (v := .slice d1 D.length g1) rfl HOW.out hYx (a := a1) (l := l1) (c := c1) (cs := d.data.flatMap intC) rfl HNI.out HSR.out.1 HSR.out.2.1 HSR.out.2.2 (by omega) (by omega) ?_) | go_in)
      intro v1' y2 ho2 hg2 hat2
      obtain ⟨e1, f1', hv1⟩ := own_slice ho2
      subst hv1
      have nb1 : (Value.slice d1 D.length g1).ownBlock ≠ some (x.heap.size + 1) := BS.far HI1.out 0 1 _ _ rfl rfl
      have j1 : y2.cell? ⟨x.heap.size + 1, 1, none⟩ = some (.slice d1 D.length g1) := hg2.cell i1c (fun e => nb1 e.symm)
      have f1 : y2.frozen? ⟨x.heap.size + 1, 1, none⟩ = false := (hg2.frozen_far ⟨x.heap.size + 1, 1, none⟩ HI1.out.cell.2.2 (fun e => nb1 e.symm)).trans (HI1.out.cell.2.1 1)
      obtain ⟨Y3, hY3⟩ : ∃ Y3, y2.setCell ⟨x.heap.size + 1, 1, none⟩ (.slice e1 (D.length + l1) f1') = Y3 := ⟨_, rfl⟩
      have HI3 : Hid (IS x Y3 ⟨lc.toArray⟩ (.slice e1 (D.length + l1) f1') (.slice d2 S.length g2) (D ++ d.data) S [(bp, partC ⟨zb, zd, zs, zt⟩ d ⟨a1, l1, c1, a2, l2, c2, a3, l3, c3⟩)]) := by
        subst hY3
        exact HI1.out.pushD (by rw [h1c]) ho2 hg2 hat2
      have m6 := HI3.out.more 6 _ rfl
      simp only [partC] at m6
      clear HI1 HI i1c m5 q0 q1 q2 q3 q4 q5 q6 q7 ho2 hg2 hat2 HOW HSR HNI hY1
      go_wp2_with fail
      clear hY3 j1 f1 m6
      generalize wr = W at *
      go_loopg [35] l2 (fun r iv wq => ∃ (j : Nat) (v2' : Value), iv = .int .i64 j ∧ j ≤ l2 ∧ l2 - j ≤ r ∧ Hid (IS x wq ⟨lc.toArray⟩ (.slice e1 (D.length + l1) f1') v2' (D ++ d.data) (S ++ (d.syms.take j).map (L.moved ⟨zb, zd, zs, zt⟩)) [(bp, partC ⟨zb, zd, zs, zt⟩ d ⟨a1, l1, c1, a2, l2, c2, a3, l3, c3⟩)]))
      case atStart => exact ⟨0, .slice d2 S.length g2, rfl, Nat.zero_le _, by omega, (by simpa using HI3.out : IS x Y3 ⟨lc.toArray⟩ (.slice e1 (D.length + l1) f1') (.slice d2 S.length g2) (D ++ d.data) (S ++ (d.syms.take 0).map (L.moved ⟨zb, zd, zs, zt⟩)) [(bp, partC ⟨zb, zd, zs, zt⟩ d ⟨a1, l1, c1, a2, l2, c2, a3, l3, c3⟩)])⟩
      case round =>
        obtain ⟨j, v2', rfl, hj, hr2, HJ⟩ := hrel
        by_cases hjl : j < l2
        · rcases HO.out.syms.cells with h0 | ⟨c, off, hA, hc⟩
          · simp only at h0
            omega
          simp only at hA hc
          obtain ⟨k0, k1, k2⟩ := hc j hjl
          obtain ⟨e0, f0, e2, g2', hv1', rfl⟩ := HJ.out.sl
          have lowr : Below w.heap.size w wr := HL.out.ly.low.trans ((BS.low HJ.out).mono HL.out.ly.low.size)
          have hcw : c < w.heap.size := World.block_lt_of_cell? w ⟨c, off + j * 3, none⟩ k0
          have Q0 := (lowr.cell (p := ⟨c, off + j * 3, none⟩) hcw).trans k0
          have Q1 := (lowr.cell (p := ⟨c, off + j * 3 + 1, none⟩) hcw).trans k1
          have Q2 := (lowr.cell (p := ⟨c, off + j * 3 + 2, none⟩) hcw).trans k2
          have hmem : d.syms.getD j noSym ∈ d.syms := by simp [List.getD, show j < d.syms.length by omega]
          have hpos := HMM.out.2.2.2.2 _ hmem
          have HTK : Hid _ := @take_moved d.syms ⟨zb, zd, zs, zt⟩ j (by omega)
          obtain ⟨y, hy⟩ : ∃ y, d.syms.getD j noSym = y := ⟨_, rfl⟩
          rw [hy] at Q0 Q1 Q2 hpos HTK
          clear k0 k1 k2 hc hy hmem hv1'
          obtain ⟨ny, ky, py⟩ := y
          subst hA
          simp only at Q0 Q1 Q2 hpos
          obtain ⟨SS, hSS⟩ : ∃ SS, S ++ (d.syms.take j).map (L.moved ⟨zb, zd, zs, zt⟩) = SS := ⟨_, rfl⟩
          have hssl : SS.length ≤ 17000 := by
            rw [← hSS, List.length_append, List.length_map, List.length_take]
            omega
          rw [hSS] at HJ
          have HTS : Hid (S ++ (d.syms.take (j + 1)).map (L.moved ⟨zb, zd, zs, zt⟩) = SS ++ [L.moved ⟨zb, zd, zs, zt⟩ ⟨ny, ky, py⟩]) := by
            show _ = _
            rw [HTK.out, ← List.append_assoc, hSS]
          obtain ⟨uk, up, hu⟩ : ∃ uk up, L.moved ⟨zb, zd, zs, zt⟩ ⟨ny, ky, py⟩ = ⟨ny, uk, up⟩ := ⟨_, _, rfl⟩
          have HMV : Hid (∀ W : World, Calls Try.prog 36 #[.agg #[.int .i64 zb, .int .i64 zd, .int .i64 zs, .int .i64 zt, .string d.code, .slice a1 l1 c1, .slice (some ⟨c, off, none⟩) l2 c2, .slice a3 l3 c3], .agg #[.string ny, .int .i64 ky, .int .i64 py]] W fun e w' => e = .returned (.agg #[.string ny, .int .i64 uk, .int .i64 up]) ∧ Below W.heap.size W w') := fun W => by
            have := moved_any (a1 := a1) (l1 := l1) (c1 := c1) (a2 := some ⟨c, off, none⟩) (l2 := l2) (c2 := c2) (a3 := a3) (l3 := l3) (c3 := c3) ⟨zb, zd, zs, zt⟩ ⟨ny, ky, py⟩ d.code hpos.1 (by simp only; omega) (by simp only; omega) W
            rw [hu] at this
            exact this
          rw [hu] at HTS
          have hin2 : 0 ≤ (j : Int) := by omega
          have hii2 : (j : Int) < l2 := by omega
          obtain ⟨Y4, hY4⟩ : ∃ Y4, wr.alloc (.cells #[.string ny, .int .i64 ky, .int .i64 py] 36) = Y4 := ⟨_, rfl⟩
          have bY4 : Below wr.heap.size wr Y4 := by subst hY4; exact bl_one _ _
          have g0 : Y4.cell? ⟨wr.heap.size, 0, none⟩ = some (.string ny) := by subst hY4; exact cell_last rfl rfl
          have g1' : Y4.cell? ⟨wr.heap.size, 1, none⟩ = some (.int .i64 ky) := by subst hY4; exact cell_last rfl rfl
          have g2'' : Y4.cell? ⟨wr.heap.size, 2, none⟩ = some (.int .i64 py) := by subst hY4; exact cell_last rfl rfl
          have HE4 : Hid (IS x Y4.drew ⟨lc.toArray⟩ (.slice e1 (D.length + l1) f1') (.slice e2 SS.length g2') (D ++ d.data) SS [(bp, partC ⟨zb, zd, zs, zt⟩ d ⟨a1, l1, c1, some ⟨c, off, none⟩, l2, c2, a3, l3, c3⟩)]) := HJ.out.below bY4.drew
          have HP : Hid (∀ y : World, Below Y4.drew.heap.size Y4.drew y → (y.cell? ⟨x.heap.size + 1, 2, none⟩ = some (.slice e2 SS.length g2')) ∧ (y.cell? ⟨bp, 0, none⟩ = some (.int .i64 zb) ∧ y.cell? ⟨bp, 1, none⟩ = some (.int .i64 zd) ∧ y.cell? ⟨bp, 2, none⟩ = some (.int .i64 zs) ∧ y.cell? ⟨bp, 3, none⟩ = some (.int .i64 zt) ∧ y.cell? ⟨bp, 4, none⟩ = some (.string d.code) ∧ y.cell? ⟨bp, 5, none⟩ = some (.slice a1 l1 c1) ∧ y.cell? ⟨bp, 6, none⟩ = some (.slice (some ⟨c, off, none⟩) l2 c2) ∧ y.cell? ⟨bp, 7, none⟩ = some (.slice a3 l3 c3))) := fun y hb => by
            have h1 := HE4.out.below hb
            exact ⟨h1.cell.1.2.2, h1.more 0 _ rfl, h1.more 1 _ rfl, h1.more 2 _ rfl, h1.more 3 _ rfl, h1.more 4 _ rfl, h1.more 5 _ rfl, h1.more 6 _ rfl, h1.more 7 _ rfl⟩
          have m2 := (HP.out _ (Below.refl _ _)).1
          have p0 := (HP.out _ (Below.refl _ _)).2.1
          have p1 := (HP.out _ (Below.refl _ _)).2.2.1
          have p2 := (HP.out _ (Below.refl _ _)).2.2.2.1
          have p3 := (HP.out _ (Below.refl _ _)).2.2.2.2.1
          have p4 := (HP.out _ (Below.refl _ _)).2.2.2.2.2.1
          have p5 := (HP.out _ (Below.refl _ _)).2.2.2.2.2.2.1
          have p6 := (HP.out _ (Below.refl _ _)).2.2.2.2.2.2.2.1
          have p7 := (HP.out _ (Below.refl _ _)).2.2.2.2.2.2.2.2
          rw [World.cell?_drew] at m2 p0 p1 p2 p3 p4 p5 p6 p7
          clear HJ hSS HTK
          go_wp2_with fail
          go_region_law (first | (go_simp; go_at_call 36; refine (HMV.out _).mono ?_; rintro e y ⟨rfl, hby⟩; have r2 := (HP.out _ hby).1; have r2a : ∀ o : Obj, (y.alloc o).cell? ⟨x.heap.size + 1, 2, none⟩ = some (.slice e2 SS.length g2') := fun o => cell_thru (bl_one y o) r2; have HEy : Hid (IS x (y.alloc (.cells #[.string ny, .int .i64 uk, .int .i64 up] 36)) ⟨lc.toArray⟩ (.slice e1 (D.length + l1) f1') (.slice e2 SS.length g2') (D ++ d.data) SS [(bp, partC ⟨zb, zd, zs, zt⟩ d ⟨a1, l1, c1, some ⟨c, off, none⟩, l2, c2, a3, l3, c3⟩)]) := (HE4.out.below hby).below (bl_one _ _); have HNC : Hid (∀ j u, (symC ⟨ny, uk, up⟩)[j]? = some u → (y.alloc (.cells #[.string ny, .int .i64 uk, .int .i64 up] 36)).cell? ((⟨y.heap.size, 0, none⟩ : Addr).add j) = some u) := (fun j u hu => by rw [Addr.add_lit, Nat.zero_add]; exact cell_last rfl (by simpa [symC] using hu))) | (refine step_append_lies _ (by rfl) _ _ 27 (by rfl) x.heap.size 36 i2 _ 3 32 Try.underlying27 hi2 hz20 hz21 hz22 (by rfl) (by decide) (.slice e2 SS.length g2') SS.length _ (by rfl) (BS.own HEy.out 0 _ rfl) ⟨y.heap.size, 0, none⟩ 1 1 (symC ⟨ny, uk, up⟩) (by rfl) (by rfl) HNC.out (by intro u hu; simp [symC] at hu; rcases hu with rfl | rfl | rfl <;> rfl) (by decide) (by unfold maxLen; omega) (by omega) (BS.low HEy.out).size (y.heap.size + 1) (by simp) ?_; intro gg cp Y6 ho6 hg6 hat6 hlt6; have nb2 : (Value.slice e2 SS.length g2').ownBlock ≠ some (x.heap.size + 1) := BS.far HEy.out 0 0 _ _ rfl rfl; have m6 : Y6.cell? ⟨x.heap.size + 1, 2, none⟩ = some (.slice e2 SS.length g2') := hg6.cell HEy.out.cell.1.2.2 (fun e => nb2 e.symm); have z6 : Y6.frozen? ⟨x.heap.size + 1, 2, none⟩ = false := (hg6.frozen_far ⟨x.heap.size + 1, 2, none⟩ HEy.out.cell.2.2 (fun e => nb2 e.symm)).trans (HEy.out.cell.2.1 2)))
          all_goals
            have HJ2 : Hid (IS x (Y6.setCell ⟨x.heap.size + 1, 2, none⟩ (.slice (some ⟨gg, 0, none⟩) (SS.length + 1) cp)) ⟨lc.toArray⟩ (.slice e1 (D.length + l1) f1') (.slice (some ⟨gg, 0, none⟩) (SS.length + 1) cp) (D ++ d.data) (S ++ (d.syms.take (j + 1)).map (L.moved ⟨zb, zd, zs, zt⟩)) [(bp, partC ⟨zb, zd, zs, zt⟩ d ⟨a1, l1, c1, some ⟨c, off, none⟩, l2, c2, a3, l3, c3⟩)]) := by
              show IS _ _ _ _ _ _ _ _
              rw [HTS.out]
              refine HEy.out.pushS rfl ho6 hg6 (fun q hq => ?_)
              have hq' : gg = q := by simpa [Value.ownBlock] using hq
              subst hq'
              rcases hat6 with h1 | h1
              · exact .inl h1
              · exact .inr (by rw [h1]; simp)
            clear HEy HNC HP HMV HE4 r2 r2a m6 z6 ho6 hg6 hat6 hlt6 m2 p0 p1 p2 p3 p4 p5 p6 p7 g0 g1' g2'' HTS hu
            go_wp2_with fail
            go_roundg (l2 - (j + 1))
            case measure => omega
            case rel => exact ⟨j + 1, _, by go_num, by omega, Nat.le_refl _, HJ2.out⟩
        · obtain rfl : j = l2 := by omega
          have HF : Hid (IS x wr ⟨lc.toArray⟩ (.slice e1 (D.length + l1) f1') v2' (datas (os.take (k + 1))) (L.syms (os.take (k + 1))) []) := by
            have := HJ.out.drop
            rw [List.take_of_length_le (by omega)] at this
            show IS _ _ _ _ _ _ _ _
            rw [HDT.out, HST.out]
            exact this
          have hjj : ¬ (j : Int) < j := by omega
          clear HDT HST
          go_wp2_with fail
          go_roundg (n - (k + 1))
          case measure => omega
          case rel => exact ⟨k + 1, _, _, by go_num, by omega, Nat.le_refl _, HF.out⟩
    · obtain rfl : k = n := by omega
      have hii : ¬ (k : Int) < k := by omega
      obtain ⟨nd, hnd⟩ : ∃ nd, (datas (os.take k)).length = nd := ⟨_, rfl⟩
      obtain ⟨ns, hns⟩ : ∃ ns, (L.syms (os.take k)).length = ns := ⟨_, rfl⟩
      rw [hnd, hns] at HI
      have HF : Hid (IS x wr ⟨lc.toArray⟩ (.slice d1 nd g1) (.slice d2 ns g2) (datas os) (L.syms os) []) := by
        have := HI.out
        rw [List.take_of_length_le (by omega)] at this
        exact this
      clear HI
      have u0 := HF.out.cell.1.1
      have u1 := HF.out.cell.1.2.1
      have u2 := HF.out.cell.1.2.2
      have t0 := HF.out.cellR.1.1
      have t1 := HF.out.cellR.1.2.1
      have t2 := HF.out.cellR.1.2.2
      have f0 := HF.out.cellR.2 0
      have f1 := HF.out.cellR.2 1
      have f2 := HF.out.cellR.2 2
      go_wp2
      refine bodyPost_ret (v := .agg #[.string ⟨lc.toArray⟩, .slice d1 nd g1, .slice d2 ns g2]) (by simp [results, Try.results24, go_sem, u0, u1, u2, t0, t1, t2]) rfl ?_
      have o1 := BS.own HF.out 1 _ rfl
      have o2 := BS.own HF.out 0 _ rfl
      have far : ∀ {y : World} {T : TypeId} {m q : Nat} {u : Value} {cs : List Value} (j : Nat) (r : Value), u.ownBlock ≠ some x.heap.size → y.ownsRow x.heap.size T m u q cs → (y.setCell ⟨x.heap.size, j, none⟩ r).ownsRow x.heap.size T m u q cs := fun j r hu ho => ho.kept (gb_set _ ⟨x.heap.size, j, none⟩ r) (.inr hu)
      have n1 := BS.far HF.out 1 1 _ _ rfl rfl
      have n2 := BS.far HF.out 1 0 _ _ rfl rfl
      exact ⟨_, _, rfl, (((BS.low HF.out).setCell (Nat.le_refl _) _).setCell (Nat.le_refl _) _).setCell (Nat.le_refl _) _, far _ _ n1 (far _ _ n1 (far _ _ n1 o1)), far _ _ n2 (far _ _ n2 (far _ _ n2 o2)), fun b hb => BS.dis HF.out 1 0 _ _ rfl rfl (by decide) b hb⟩
end Go.Proofs.Ytaoklmphcgigeaa

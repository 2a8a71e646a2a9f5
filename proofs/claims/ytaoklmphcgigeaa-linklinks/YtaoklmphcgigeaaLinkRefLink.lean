/- The document's Link. (Written by gen_reflink.py.) -/
import Derived.Test.YtaoklmphcgigeaaLinkRefCode
namespace Go.Proofs.Ytaoklmphcgigeaa
open Go.RowKit Go.Lib
set_option linter.unusedVariables false
set_option linter.unusedSimpArgs false

theorem syms_fits {w : World} {a : Option Addr} {l c : Nat} {os : List ObjD} (h : ObjsV w a l c os) (hl : os.length ≤ 16) (hm : ∀ o ∈ os, o.may = true) : ∀ s ∈ L.syms os, s.name.size ≤ maxLen ∧ (Lit.int .i64 s.kind).wf = true ∧ (Lit.int .i64 s.pos).wf = true := fun s hs => by
  obtain ⟨pl, rfl, hP⟩ := objs_p h
  have hs1 : ∀ (ps : List (ObjD × Sl)) (z : L.Sz), (∀ p ∈ ps, p ∈ pl) → ∀ s ∈ L.symsFrom z (ps.map Prod.fst), s.name.size ≤ maxLen ∧ (Lit.int .i64 s.kind).wf = true := by
    intro ps
    induction ps with
    | nil => intro z _ s hs; simp [L.symsFrom] at hs
    | cons p ps ih =>
      intro z hps s hs
      simp only [List.map_cons, L.symsFrom, List.mem_append, List.mem_map] at hs
      rcases hs with ⟨y, hy, rfl⟩ | hs
      · have := (hP.ov p (hps p (List.mem_cons_self ..))).syms.fits y hy
        exact ⟨this.1, this.2.1⟩
      · exact ih _ (fun q hq => hps q (List.mem_cons_of_mem _ hq)) s hs
  obtain ⟨k1, k2⟩ := hs1 pl L.zero (fun p hp => hp) s hs
  refine ⟨k1, k2, ?_⟩
  have hp := syms_pos _ L.zero hm s hs
  have hsz := sizes_le _ L.zero hm
  have z1 : L.zero.b = 0 := rfl
  have z2 : L.zero.d = 0 := rfl
  simp only [Lit.wf]
  have : s.pos ≤ 4294967296 := by omega
  have m1 : IntKind.i64.min = -9223372036854775808 := by decide
  have m2 : IntKind.i64.max = 9223372036854775807 := by decide
  simp only [m1, m2, Bool.and_eq_true, decide_eq_true_eq]
  omega
theorem may_kind2 {o : ObjD} (h : o.may = true) : ∀ r ∈ o.rels, r.kind = 1 ∨ r.kind = 2 := by
  unfold ObjD.may relsOk at h
  simp only [Bool.and_eq_true, decide_eq_true_eq, List.all_eq_true, List.mem_range] at h
  obtain ⟨-, -, -, h6⟩ := h
  intro r hr
  obtain ⟨i, hi, rfl⟩ := List.getElem_of_mem hr
  have h7 := h6 i hi
  have e : o.rels.getD i noRel = o.rels[i] := by simp [List.getD, hi]
  rw [e] at h7
  unfold relOk addOk at h7
  simp only [Bool.and_eq_true] at h7
  have h8 := h7.2.2
  split at h8
  · rename_i h9; exact .inl h9
  · split at h8
    · rename_i h9; exact .inr h9
    · cases h8
structure DS (y x : World) (g : Nat) (l : List UInt8) : Prop where
  low : Below y.heap.size y x
  cb : CBy x g l
  hg : y.heap.size ≤ g
theorem DS.below {y x z : World} {g : Nat} {l : List UInt8} (h : DS y x g l) (hb : Below x.heap.size x z) : DS y z g l := ⟨h.low.trans (hb.mono h.low.size), h.cb.below hb, h.hg⟩
theorem DS.copy {y x : World} {g : Nat} {l : List UInt8} (h : DS y x g l) (o n cap : Nat) (s : ByteArray) (hn : s.size ≤ n) (ho : o + s.size ≤ l.length) :
    ∃ z, (∀ ty, (Builtin.copy_ #[58, 9] ty #[.slice (some ⟨g, o, none⟩) n cap, .string s]).run Try.prog x = .ok (goInt s.size) z) ∧ DS y z g (patch l o s) := by
  obtain ⟨z, h1, h2, h3⟩ := h.cb.copy o n cap s hn ho
  exact ⟨z, h1, h3 _ _ h.hg h.low, h2, h.hg⟩

set_option maxRecDepth 100000 in
set_option maxHeartbeats 16000000 in
theorem rlink_any {w : World} {a : Option Addr} {l c : Nat} {os : List ObjD} (h : ObjsV w a l c os) :
    Calls Try.prog 13 #[.slice a l c] w fun e w' => ∃ v1 v2, e = .returned (.tuple #[.agg #[.string ⟨(linkC os).toArray⟩, v1, v2], .int .i64 (linkE os)]) ∧ ImgR w w' v1 v2 (linkD os) (linkS os) := by
  have HV : Hid _ := h
  have hcnt := h.count
  clear h
  obtain ⟨X1, hX1⟩ : ∃ X1, w.alloc (.cells #[.string { data := #[] }, .slice none 0 0, .slice none 0 0] 29) = X1 := ⟨_, rfl⟩
  have b1 : Below w.heap.size w X1 := by subst hX1; exact bl_one _ _
  have sX1 : w.heap.size < X1.heap.size := by subst hX1; simp
  have HR : Hid (∀ y : World, Below X1.heap.size X1 y → (y.cell? ⟨w.heap.size, 0, none⟩ = some (.string { data := #[] }) ∧ y.cell? ⟨w.heap.size, 1, none⟩ = some (.slice none 0 0) ∧ y.cell? ⟨w.heap.size, 2, none⟩ = some (.slice none 0 0)) ∧ (∀ o, y.frozen? ⟨w.heap.size, o, none⟩ = false)) := fun y hb => by
    refine ⟨⟨cell_thru hb ?_, cell_thru hb ?_, cell_thru hb ?_⟩, fun o => (hb.frozen (p := ⟨w.heap.size, o, none⟩) (by show w.heap.size < _; omega)).trans ?_⟩
    · subst hX1; exact cell_last rfl rfl
    · subst hX1; exact cell_last rfl rfl
    · subst hX1; exact cell_last rfl rfl
    · subst hX1; exact World.frozen?_alloc_at _ _ _ _ rfl
  by_cases hbig : (16 : Int) < l
  · have HE : Hid (linkE os = 1) := by
      have : mayAll os = false := by unfold mayAll; rw [show decide (os.length ≤ 16) = false from decide_eq_false (by omega), Bool.false_and]
      show _ = _
      unfold linkE
      rw [this]
      rfl
    go_enter Try.func13, Try.ntmps13
    have t0 := (HR.out X1 (Below.refl _ _)).1.1
    have t1 := (HR.out X1 (Below.refl _ _)).1.2.1
    have t2 := (HR.out X1 (Below.refl _ _)).1.2.2
    have z0 := (HR.out X1 (Below.refl _ _)).2 0
    have z1 := (HR.out X1 (Below.refl _ _)).2 1
    have z2 := (HR.out X1 (Below.refl _ _)).2 2
    go_wp2
    refine bodyPost_ret (v := .tuple #[.agg #[.string { data := #[] }, .slice none 0 0, .slice none 0 0], .int .i64 1]) (by simp [results, Try.results13, go_sem, t0, t1, t2]) rfl ?_
    exact link_end HE.out (by decide) (((b1.setCell (Nat.le_refl _) _).setCell (Nat.le_refl _) _).setCell (Nat.le_refl _) _)
  have hl16 : l ≤ 16 := by omega
  go_enter Try.func13, Try.ntmps13
  go_wp2_with fail
  clear hX1
  go_loopg [4] l (fun r iv wq => ∃ (k : Nat), iv = .int .i64 k ∧ k ≤ l ∧ l - k ≤ r ∧ Hid (os.all ObjD.may = (os.drop k).all ObjD.may) ∧ Hid (Below X1.heap.size X1 wq))
  case atStart => exact ⟨0, rfl, Nat.zero_le _, by omega, (rfl : os.all ObjD.may = (os.drop 0).all ObjD.may), Below.refl _ _⟩
  case round =>
    obtain ⟨k, rfl, hk, hr, HA, HB⟩ := hrel
    have hbw : Below w.heap.size w wr := b1.trans (HB.out.mono b1.size)
    by_cases hlt : k < l
    · rcases HV.out.cells with h0 | ⟨b, off, hA, hc⟩
      · omega
      obtain ⟨s, hC, hO⟩ := hc k hlt
      have hC := hC.below hbw
      have HO : Hid _ := hO.below hbw
      have HD : Hid _ := all_drop (os := os) (k := k) (by omega)
      obtain ⟨k0, k1, k2, k3⟩ := hC
      generalize os.getD k noObj = d at *
      subst hA
      have hin : 0 ≤ (k : Int) := by omega
      have hii : (k : Int) < l := by omega
      clear hc hO
      go_wp2_with fail
      refine (rmay_any HO.out.objV).mono ?_
      rintro e x ⟨rfl, hb⟩
      have HBx : Hid (Below X1.heap.size X1 x) := HB.out.trans (hb.mono HB.out.size)
      have hbx : Below w.heap.size w x := b1.trans (HBx.out.mono b1.size)
      cases hm : d.may with
      | true =>
        have HE : Hid (os.all ObjD.may = (os.drop (k + 1)).all ObjD.may) := by show _ = _; rw [HA.out, HD.out, hm, Bool.true_and]
        clear HD HA hm
        go_wp2_with fail
        go_roundg (l - (k + 1))
        case measure => omega
        case rel => exact ⟨k + 1, by go_num, by omega, Nat.le_refl _, HE.out, HBx.out⟩
      | false =>
        have HE : Hid (linkE os = 1) := by
          have h1 : os.all ObjD.may = false := by rw [HA.out, HD.out, hm, Bool.false_and]
          have : mayAll os = false := by unfold mayAll; rw [h1, Bool.and_false]
          show _ = _
          unfold linkE
          rw [this]
          rfl
        clear HD HA hm k0 k1 k2 k3
        have t0 := (HR.out x HBx.out).1.1
        have t1 := (HR.out x HBx.out).1.2.1
        have t2 := (HR.out x HBx.out).1.2.2
        have z0 := (HR.out x HBx.out).2 0
        have z1 := (HR.out x HBx.out).2 1
        have z2 := (HR.out x HBx.out).2 2
        go_wp2
        refine bodyPost_ret (v := .tuple #[.agg #[.string { data := #[] }, .slice none 0 0, .slice none 0 0], .int .i64 1]) (by simp [results, Try.results13, go_sem, t0, t1, t2]) rfl ?_
        exact link_end HE.out (by decide) (((hbx.setCell (Nat.le_refl _) _).setCell (Nat.le_refl _) _).setCell (Nat.le_refl _) _)
    · obtain rfl : k = l := by omega
      have hii : ¬ (k : Int) < k := by omega
      have hall : os.all ObjD.may = true := by rw [HA.out, List.drop_eq_nil_of_le (by omega)]; rfl
      have hma : ∀ o ∈ os, o.may = true := by simpa using hall
      have HMA : Hid (∀ o ∈ os, o.may = true) := hma
      clear hma
      have HM1 : Hid (linkE os = if layE os = 0 then (if L.fit (L.sizes os) = true then (if (filled os).isSome = true then 0 else 7) else 8) else layE os) := by
        have : mayAll os = true := by unfold mayAll; rw [hall, show decide (os.length ≤ 16) = true from decide_eq_true (by omega)]; rfl
        show _ = _
        unfold linkE
        rw [this]
        rfl
      have hsle := sizes_le os L.zero HMA.out
      have hszz : (L.sizes os).b ≤ 1048576 ∧ (L.sizes os).d ≤ 65536 ∧ (L.sizes os).s ≤ 16000 := by
        have z1 : L.zero.b = 0 := rfl
        have z2 : L.zero.d = 0 := rfl
        have z3 : L.zero.s = 0 := rfl
        unfold L.sizes
        omega
      clear HA hall hsle
      generalize wr = x2 at *
      go_wp2_with fail
      refine (rlay_any (HV.out.below hbw) hl16 HMA.out).mono ?_
      rintro e x3 ⟨v1, v2, rfl, hR3⟩
      obtain ⟨a1, c1, rfl⟩ := own_slice hR3.d
      obtain ⟨a2, c2, rfl⟩ := own_slice hR3.s
      have hSV : SymsV x3 a2 (L.syms os).length c2 (L.syms os) := symsV_own (syms_fits HV.out (by omega) HMA.out) rfl hR3.s
      have hsn := syms_len os
      have hdn : (datas os).length = (L.sizes os).d := by
        have h1 := datas_len os L.zero
        have z2 : L.zero.d = 0 := rfl
        have e1 : (os.foldl L.grow L.zero) = L.sizes os := rfl
        rw [e1] at h1
        omega
      have htn : L.thr (L.syms os) = (L.sizes os).t := by
        have h1 := thr_syms os L.zero
        have z2 : L.zero.t = 0 := rfl
        have e1 : (os.foldl L.grow L.zero) = L.sizes os := rfl
        rw [e1] at h1
        unfold L.syms
        omega
      have hcn := cat_len os
      obtain ⟨CC, hCC⟩ : ∃ CC, cat os = CC := ⟨_, rfl⟩
      obtain ⟨nd, hnd⟩ : ∃ nd, (datas os).length = nd := ⟨_, rfl⟩
      obtain ⟨ns, hns⟩ : ∃ ns, (L.syms os).length = ns := ⟨_, rfl⟩
      obtain ⟨nt, hnt⟩ : ∃ nt, L.thr (L.syms os) = nt := ⟨_, rfl⟩
      have HDF : Hid _ := doc_filled HMA.out
      rw [hCC] at hcn HDF
      rw [hnd] at hdn
      rw [hns] at hsn hSV
      rw [hnt] at htn
      rw [hCC, hnd, hns]
      have HR3 : Hid _ := hR3
      rw [hnd, hns] at HR3
      have HSV : Hid (SymsV x3 a2 ns c2 (L.syms os)) := hSV
      have hb3 := hR3.low
      have HFT : Hid (L.fit (L.sizes os) = ((decide (CC.size ≤ 65536) && decide (nd ≤ 4096) && decide (ns ≤ 1000)) && (decide (1 ≤ nt) && decide (nt ≤ 4)))) := by
        show _ = _
        unfold L.fit
        rw [hcn, hdn, hsn, htn]
      have HZB : Hid ((L.sizes os).b = CC.size) := hcn.symm
      have hCb : CC.size ≤ 1048576 := by omega
      have hnd' : nd ≤ 65536 := by omega
      have hns' : ns ≤ 16000 := by omega
      have hnt' : nt ≤ ns := by rw [← hnt, ← hns]; exact thr_le _
      have HNT : Hid _ := hnt
      clear hR3 hSV hsn hdn htn hcn hCC hnd hns hnt hszz
      obtain ⟨Y3, hY3⟩ : ∃ Y, x3.alloc (.cells #[.string CC, .slice a1 nd c1, .slice a2 ns c2] 29) = Y := ⟨_, rfl⟩
      have bY3 : Below x3.heap.size x3 Y3 := by subst hY3; exact bl_one _ _
      have HI3 : Hid (∀ y : World, Below Y3.heap.size Y3 y → (y.cell? ⟨x3.heap.size, 0, none⟩ = some (.string CC) ∧ y.cell? ⟨x3.heap.size, 1, none⟩ = some (.slice a1 nd c1) ∧ y.cell? ⟨x3.heap.size, 2, none⟩ = some (.slice a2 ns c2)) ∧ ∀ o, y.frozen? ⟨x3.heap.size, o, none⟩ = false) := fun y hb => by
        refine ⟨⟨cell_thru hb ?_, cell_thru hb ?_, cell_thru hb ?_⟩, fun o => (hb.frozen (p := ⟨x3.heap.size, o, none⟩) (by show x3.heap.size < _; subst hY3; simp)).trans ?_⟩
        · subst hY3; exact cell_last rfl rfl
        · subst hY3; exact cell_last rfl rfl
        · subst hY3; exact cell_last rfl rfl
        · subst hY3; exact World.frozen?_alloc_at _ _ _ _ rfl
      have B3 : Below X1.heap.size X1 Y3 := by
        have h1 := HB.out.trans (hb3.mono HB.out.size)
        exact h1.trans (bY3.mono h1.size)
      have bw3 : Below w.heap.size w Y3 := b1.trans (B3.mono b1.size)
      have i2 := (HI3.out Y3 (Below.refl _ _)).1.2.2
      go_wp2_with fail
      refine (rnames_any (HV.out.below bw3) hl16 HMA.out (HSV.out.below bY3) (by omega)).mono ?_
      rintro e x4 ⟨rfl, hb4⟩
      have hne : nameE (L.syms os) os = layE os := rfl
      rw [hne]
      clear hne hY3
      have B4 : Below X1.heap.size X1 x4 := B3.trans (hb4.mono B3.size)
      have bw4 : Below w.heap.size w x4 := b1.trans (B4.mono b1.size)
      by_cases h0 : layE os = 0
      · have HM2 : Hid (linkE os = if L.fit (L.sizes os) = true then (if (filled os).isSome = true then 0 else 7) else 8) := by show _ = _; rw [HM1.out, if_pos h0]
        have HL0 : Hid _ := h0
        rw [h0]
        clear HM1 h0
        have j2 := (HI3.out x4 hb4).1.2.2
        go_wp2_with fail
        refine (rthreads_any ((HSV.out.below bY3).below hb4) (by omega)).mono ?_
        rintro e x5 ⟨rfl, hb5⟩
        rw [HNT.out]
        have b35 : Below Y3.heap.size Y3 x5 := hb4.trans (hb5.mono hb4.size)
        have B5 : Below X1.heap.size X1 x5 := B3.trans (b35.mono B3.size)
        have bw5 : Below w.heap.size w x5 := b1.trans (B5.mono b1.size)
        have k0 := (HI3.out x5 b35).1.1
        have k1 := (HI3.out x5 b35).1.2.1
        have k2 := (HI3.out x5 b35).1.2.2
        clear j2 i2
        by_cases hz0 : (65536 : Int) < CC.size
        · have HE : Hid (linkE os = 8) := by
            have : L.fit (L.sizes os) = false := by
              rw [HFT.out]
              simp
              omega
            show _ = _
            rw [HM2.out, this]
            rfl
          have t0 := (HR.out x5 B5).1.1
          have t1 := (HR.out x5 B5).1.2.1
          have t2 := (HR.out x5 B5).1.2.2
          have z0 := (HR.out x5 B5).2 0
          have z1 := (HR.out x5 B5).2 1
          have z2 := (HR.out x5 B5).2 2
          go_wp2
          refine bodyPost_ret (v := .tuple #[.agg #[.string { data := #[] }, .slice none 0 0, .slice none 0 0], .int .i64 8]) (by simp [results, Try.results13, go_sem, t0, t1, t2]) rfl ?_
          exact link_end HE.out (by decide) (((bw5.setCell (Nat.le_refl _) _).setCell (Nat.le_refl _) _).setCell (Nat.le_refl _) _)
        by_cases hz1 : (4096 : Int) < nd
        · have HE : Hid (linkE os = 8) := by
            have : L.fit (L.sizes os) = false := by
              rw [HFT.out]
              simp
              omega
            show _ = _
            rw [HM2.out, this]
            rfl
          have t0 := (HR.out x5 B5).1.1
          have t1 := (HR.out x5 B5).1.2.1
          have t2 := (HR.out x5 B5).1.2.2
          have z0 := (HR.out x5 B5).2 0
          have z1 := (HR.out x5 B5).2 1
          have z2 := (HR.out x5 B5).2 2
          go_wp2
          refine bodyPost_ret (v := .tuple #[.agg #[.string { data := #[] }, .slice none 0 0, .slice none 0 0], .int .i64 8]) (by simp [results, Try.results13, go_sem, t0, t1, t2]) rfl ?_
          exact link_end HE.out (by decide) (((bw5.setCell (Nat.le_refl _) _).setCell (Nat.le_refl _) _).setCell (Nat.le_refl _) _)
        by_cases hz2 : (1000 : Int) < ns
        · have HE : Hid (linkE os = 8) := by
            have : L.fit (L.sizes os) = false := by
              rw [HFT.out]
              simp
              omega
            show _ = _
            rw [HM2.out, this]
            rfl
          have t0 := (HR.out x5 B5).1.1
          have t1 := (HR.out x5 B5).1.2.1
          have t2 := (HR.out x5 B5).1.2.2
          have z0 := (HR.out x5 B5).2 0
          have z1 := (HR.out x5 B5).2 1
          have z2 := (HR.out x5 B5).2 2
          go_wp2
          refine bodyPost_ret (v := .tuple #[.agg #[.string { data := #[] }, .slice none 0 0, .slice none 0 0], .int .i64 8]) (by simp [results, Try.results13, go_sem, t0, t1, t2]) rfl ?_
          exact link_end HE.out (by decide) (((bw5.setCell (Nat.le_refl _) _).setCell (Nat.le_refl _) _).setCell (Nat.le_refl _) _)
        by_cases hz3 : nt = 0
        · have HE : Hid (linkE os = 8) := by
            have : L.fit (L.sizes os) = false := by
              rw [HFT.out]
              simp
              omega
            show _ = _
            rw [HM2.out, this]
            rfl
          have hzb : ((nt : Int) == 0) = true := by simp; omega
          have t0 := (HR.out x5 B5).1.1
          have t1 := (HR.out x5 B5).1.2.1
          have t2 := (HR.out x5 B5).1.2.2
          have z0 := (HR.out x5 B5).2 0
          have z1 := (HR.out x5 B5).2 1
          have z2 := (HR.out x5 B5).2 2
          go_wp2
          refine bodyPost_ret (v := .tuple #[.agg #[.string { data := #[] }, .slice none 0 0, .slice none 0 0], .int .i64 8]) (by simp [results, Try.results13, go_sem, t0, t1, t2]) rfl ?_
          exact link_end HE.out (by decide) (((bw5.setCell (Nat.le_refl _) _).setCell (Nat.le_refl _) _).setCell (Nat.le_refl _) _)
        by_cases hz4 : (4 : Int) < nt
        · have HE : Hid (linkE os = 8) := by
            have : L.fit (L.sizes os) = false := by
              rw [HFT.out]
              simp
              omega
            show _ = _
            rw [HM2.out, this]
            rfl
          have hzb : ((nt : Int) == 0) = false := by simp; omega
          have t0 := (HR.out x5 B5).1.1
          have t1 := (HR.out x5 B5).1.2.1
          have t2 := (HR.out x5 B5).1.2.2
          have z0 := (HR.out x5 B5).2 0
          have z1 := (HR.out x5 B5).2 1
          have z2 := (HR.out x5 B5).2 2
          go_wp2
          refine bodyPost_ret (v := .tuple #[.agg #[.string { data := #[] }, .slice none 0 0, .slice none 0 0], .int .i64 8]) (by simp [results, Try.results13, go_sem, t0, t1, t2]) rfl ?_
          exact link_end HE.out (by decide) (((bw5.setCell (Nat.le_refl _) _).setCell (Nat.le_refl _) _).setCell (Nat.le_refl _) _)
        have hzb : ((nt : Int) == 0) = false := by simp; omega
        have hfit : L.fit (L.sizes os) = true := by
          rw [HFT.out]
          simp
          omega
        have HM3 : Hid (linkE os = if (filled os).isSome = true then 0 else 7) := by show _ = _; rw [HM2.out, hfit]; rfl
        obtain ⟨cap, x6, hcv, hcb, hb6, hcap⟩ := cby_conv x5 CC hCb
        have HDS : Hid (DS x5 x6 x5.heap.size CC.data.toList) := ⟨hb6, hcb, Nat.le_refl _⟩
        clear HM2 hfit hcb
        go_wp2_with fail
        clear hcv k0 k1 k2
        obtain ⟨g, hg⟩ : ∃ g, x5.heap.size = g := ⟨_, rfl⟩
        rw [hg] at HDS
        rw [hg]
        obtain ⟨l0, hl0⟩ : ∃ l0, CC.data.toList = l0 := ⟨_, rfl⟩
        have hl0n : l0.length = CC.size := by rw [← hl0]; rfl
        rw [hl0] at HDS HDF
        obtain ⟨N, hN⟩ : ∃ N, CC.size = N := ⟨_, rfl⟩
        rw [hN] at hl0n hcap HZB hz0 ⊢
        have hN6 : N ≤ 65536 := by omega
        clear hl0 hb6 hg
        go_loopg [9, 10] k (fun r av iv wq => ∃ (i : Nat) (lq : List UInt8), iv = .int .i64 i ∧ av = .int .i64 (L.sizes (os.take i)).b ∧ i ≤ k ∧ k - i ≤ r ∧ lq.length = N ∧ Hid (docAll (L.syms os) L.zero l0 os = docAll (L.syms os) (L.sizes (os.take i)) lq (os.drop i)) ∧ Hid (DS x5 wq g lq))
        case atStart => exact ⟨0, l0, rfl, rfl, Nat.zero_le _, by omega, hl0n, (rfl : docAll (L.syms os) L.zero l0 os = docAll (L.syms os) (L.sizes (os.take 0)) l0 (os.drop 0)), HDS.out⟩
        case round =>
          obtain ⟨i, lq, rfl, rfl, hi, hr2, hlq, HA2, HD2⟩ := hrel
          have bw6 : Below w.heap.size w wr := bw5.trans (HD2.out.low.mono bw5.size)
          by_cases hil : i < k
          · obtain ⟨d, hd⟩ : ∃ d, os[i]? = some d := ⟨os[i]'(by omega), by simp⟩
            have hgd : os.getD i noObj = d := by simp [List.getD, hd]
            rcases HV.out.cells with hx | ⟨ob, off, hA, hc⟩
            · omega
            obtain ⟨s, hC, hO⟩ := hc i hil
            rw [hgd] at hC hO
            have hmd : d.may = true := HMA.out d (List.mem_of_getElem? hd)
            have hrn : s.l3 ≤ 8000 := by have := (may_sizes hmd).2.2.2.1; have h3 := hO.rels.count; omega
            have hah := sizes_ahead hd
            rw [HZB.out] at hah
            have HST : Hid ((L.sizes (os.take (i + 1))) = L.grow (L.sizes (os.take i)) d) := sizes_take hd
            have HDD : Hid _ := docAll_drop (ss := L.syms os) (z := L.sizes (os.take i)) (l := lq) hd
            have HRM : Hid _ := may_rels hmd
            have HKD : Hid _ := may_kind2 hmd
            have HFND : Hid (∀ r ∈ d.rels, ∃ y, L.look (L.syms os) r.name = some y) := fun r hr => by
              have hask : L.ask (L.syms os) (L.rels os) = 0 := by
                have h0 := HL0.out
                unfold layE at h0
                split at h0
                · cases h0
                · exact h0
              obtain ⟨y, hy, -⟩ := askOne_found (ask_found _ hask r (List.mem_flatMap.2 ⟨d, List.mem_of_getElem? hd, hr⟩))
              exact ⟨y, hy⟩
            obtain ⟨z, hz⟩ : ∃ z, L.sizes (os.take i) = z := ⟨_, rfl⟩
            rw [hz] at hah HST HDD HA2 ⊢
            obtain ⟨a1', l1, c1', a2', l2, c2', a3, l3, c3⟩ := s
            simp only at hrn
            subst hA
            have hin : 0 ≤ (i : Int) := by omega
            have hii2 : (i : Int) < k := by omega
            have HRV : Hid (RelsV w a3 l3 c3 d.rels) := hO.rels
            have hrc : d.rels.length = l3 := hO.rels.count
            have HC0 : Hid (∀ y : World, Below w.heap.size w y → y.cell? ⟨ob, off + i * 4, none⟩ = some (.string d.code) ∧ y.cell? ⟨ob, off + i * 4 + 3, none⟩ = some (.slice a3 l3 c3)) := fun y hb => ⟨cell_thru hb hC.k0, cell_thru hb hC.k3⟩
            clear hc hgd hmd hO hz hC hd
            generalize wr = U at *
            go_wp2_with fail
            go_loopg [11] l3 (fun r jv wq => ∃ (j : Nat) (lj : List UInt8), jv = .int .i64 j ∧ j ≤ l3 ∧ l3 - j ≤ r ∧ lj.length = N ∧ Hid (fillRels (L.syms os) z lq d.rels = fillRels (L.syms os) z lj (d.rels.drop j)) ∧ Hid (DS x5 wq g lj))
            case atStart => exact ⟨0, lq, rfl, Nat.zero_le _, by omega, hlq, (rfl : fillRels (L.syms os) z lq d.rels = fillRels (L.syms os) z lq (d.rels.drop 0)), HD2.out⟩
            case round =>
              obtain ⟨j, lj, rfl, hj, hr3, hlj, HA3, HD3⟩ := hrel
              have bw7 : Below w.heap.size w wr := bw5.trans (HD3.out.low.mono bw5.size)
              have u0 := (HC0.out wr bw7).1
              have u3 := (HC0.out wr bw7).2
              by_cases hjl : j < l3
              · rcases HRV.out.cells with hx | ⟨rb, ro, hA3', hc3⟩
                · omega
                obtain ⟨m0, m1, m2, m3⟩ := hc3 j hjl
                have m0 := cell_thru bw7 m0
                have m1 := cell_thru bw7 m1
                have m2 := cell_thru bw7 m2
                have m3 := cell_thru bw7 m3
                have hmem : d.rels.getD j noRel ∈ d.rels := by simp [List.getD, show j < d.rels.length by omega]
                have HFD : Hid _ := fill_drop (ss := L.syms os) (z := z) (l := lj) (rs := d.rels) (k := j) (by omega)
                have hkind := HKD.out _ hmem
                have hrmm := HRM.out _ hmem
                obtain ⟨sy, hsy⟩ := HFND.out _ hmem
                obtain ⟨y, hy⟩ : ∃ y, d.rels.getD j noRel = y := ⟨_, rfl⟩
                rw [hy] at m0 m1 m2 m3 hkind hrmm hsy HFD
                clear hy hmem hc3
                obtain ⟨ry, ky, ny, ay⟩ := y
                simp only at m0 m1 m2 m3 hkind hrmm hsy
                obtain ⟨pp, hpp⟩ : ∃ pp : Nat, (z.b : Int) + ry = pp := ⟨z.b + ry.toNat, by omega⟩
                have hpp4 : pp + 4 ≤ N := by omega
                have HPT : Hid (z.b + ry.toNat = pp) := by show _ = _; omega
                have hsp : 0 ≤ sy.pos ∧ sy.pos ≤ 200000 := by
                  have h1 := syms_pos os L.zero HMA.out sy (look_mem hsy).1
                  have e1 : (os.foldl L.grow L.zero) = L.sizes os := rfl
                  rw [e1, HZB.out] at h1
                  have h2 : (L.sizes os).d ≤ 65536 := by
                    have hsle := sizes_le os L.zero HMA.out
                    have z2 : L.zero.d = 0 := rfl
                    unfold L.sizes
                    omega
                  omega
                subst hA3'
                have hjj : (j : Int) < l3 := by omega
                have hjn : 0 ≤ (j : Int) := by omega
                have HSY : Hid _ := hsy
                obtain ⟨Y7, hY7⟩ : ∃ Y, wr.alloc (.cells #[.int .i64 ry, .int .i64 ky, .string ny, .int .i64 ay] 45) = Y := ⟨_, rfl⟩
                have bY7 : Below wr.heap.size wr Y7 := by subst hY7; exact bl_one _ _
                have HR7 : Hid (∀ y : World, Below Y7.heap.size Y7 y → y.cell? ⟨wr.heap.size, 0, none⟩ = some (.int .i64 ry) ∧ y.cell? ⟨wr.heap.size, 1, none⟩ = some (.int .i64 ky) ∧ y.cell? ⟨wr.heap.size, 2, none⟩ = some (.string ny) ∧ y.cell? ⟨wr.heap.size, 3, none⟩ = some (.int .i64 ay)) := fun y hb => by
                  refine ⟨cell_thru hb ?_, cell_thru hb ?_, cell_thru hb ?_, cell_thru hb ?_⟩
                  all_goals
                    subst hY7
                    exact cell_last rfl rfl
                have HD4 : Hid (DS x5 Y7 g lj) := HD3.out.below bY7
                have b37 : Below Y3.heap.size Y3 Y7 := b35.trans (HD4.out.low.mono b35.size)
                have i2' := (HI3.out Y7 b37).1.2.2
                have q2 := (HR7.out Y7 (Below.refl _ _)).2.2.1
                clear hsy
                go_wp2_with fail
                have hS7 : SymsV Y7 a2 ns c2 (L.syms os) := by
                  have h1 := HSV.out.below bY3
                  exact h1.below b37
                refine (rfind_any hS7 (by omega) ny).mono ?_
                rintro e y8 ⟨rfl, hb8⟩
                rw [HSY.out]
                simp only [Option.getD_some, Option.isSome_some]
                obtain ⟨sn, sk, sp⟩ := sy
                simp only at hsp ⊢
                obtain ⟨Y8, hY8⟩ : ∃ Y, y8.alloc (.cells #[.string sn, .int .i64 sk, .int .i64 sp] 36) = Y := ⟨_, rfl⟩
                have bY8 : Below y8.heap.size y8 Y8 := by subst hY8; exact bl_one _ _
                have s2 : Y8.cell? ⟨y8.heap.size, 2, none⟩ = some (.int .i64 sp) := by subst hY8; exact cell_last rfl rfl
                have b78 : Below Y7.heap.size Y7 Y8 := hb8.trans (bY8.mono hb8.size)
                have r0 := (HR7.out Y8 b78).1
                have r1 := (HR7.out Y8 b78).2.1
                have r3 := (HR7.out Y8 b78).2.2.2
                have hVL : L.value (L.syms os) z ⟨ry, ky, ny, ay⟩ = if ky = 1 then sp - (z.b + ry + 4) else 1048576 + 8 * sp + ay := by
                  unfold L.value
                  rw [HSY.out]
                  rfl
                have hVK : L.valueOk (L.syms os) z ⟨ry, ky, ny, ay⟩ = if ky = 1 then true else decide (0 ≤ L.value (L.syms os) z ⟨ry, ky, ny, ay⟩) && decide (L.value (L.syms os) z ⟨ry, ky, ny, ay⟩ ≤ 2147483647) := rfl
                have b38 : Below Y3.heap.size Y3 Y8 := b37.trans (b78.mono b37.size)
                have B8 : Below X1.heap.size X1 Y8 := B3.trans (b38.mono B3.size)
                have bw8 : Below w.heap.size w Y8 := b1.trans (B8.mono b1.size)
                have hcp1 : ¬ cap = pp := by omega
                have hpi : (pp : Int) ≤ N := by omega
                have hp0 : (0 : Int) ≤ pp := by omega
                clear hY7 i2' q2 HSY
                rcases hkind with rfl | rfl
                · rw [if_pos rfl] at hVL hVK
                  obtain ⟨VV, hVV⟩ : ∃ VV, sp - ((pp : Int) + 4) = VV := ⟨_, rfl⟩
                  have hVe : L.value (L.syms os) z ⟨ry, 1, ny, ay⟩ = VV := by rw [hVL, ← hVV]; omega
                  have hv1 : -2147483648 ≤ VV := by omega
                  have hv2 : VV ≤ 2147483647 := by omega
                  have hok := hVK
                  have HFS : Hid (fillS (L.syms os) z ⟨ry, 1, ny, ay⟩ = strOfNums (W.bytesOf VV 4)) := by show _ = _; unfold fillS; rw [hVe, bytesV4 hv1 hv2]
                  have hs4 : (strOfNums (W.bytesOf VV 4)).size = 4 := by rw [strOfNums_size, W.bytesOf_length]
                  have HHK : Hid _ := hok
                  clear hVL hVK hVe
                  have hok := HHK.out
                  clear hok
                  go_wp2_with fail
                  have hok := HHK.out
                  refine (rbytes_ok4 VV (sx4_in hv1 hv2) _).mono ?_
                  rintro e y9 ⟨rfl, hb9⟩
                  have HD9 : Hid (DS x5 y9 g lj) := (HD4.out.below b78).below hb9
                  obtain ⟨y10, hcp, hds⟩ := HD9.out.copy pp (N - pp) (cap - pp) (strOfNums (W.bytesOf VV 4)) (by rw [hs4]; omega) (by rw [hs4]; omega)
                  have HD10 : Hid (DS x5 y10 g (patch lj pp (strOfNums (W.bytesOf VV 4)))) := hds
                  have HFR : Hid (fillRels (L.syms os) z lq d.rels = fillRels (L.syms os) z (patch lj pp (strOfNums (W.bytesOf VV 4))) (d.rels.drop (j + 1))) := by
                    show _ = _
                    rw [HA3.out, HFD.out, if_pos hok]
                    congr 1
                    rw [HFS.out, HPT.out]
                  have hlen10 : (patch lj pp (strOfNums (W.bytesOf VV 4))).length = N := by rw [patch_len (by rw [hs4]; omega)]; exact hlj
                  clear hds HA3 HFD
                  go_wp2_with fail
                  go_roundg (l3 - (j + 1))
                  case measure => omega
                  case rel => exact ⟨j + 1, _, by go_num, by omega, Nat.le_refl _, hlen10, HFR.out, HD10.out⟩
                · rw [if_neg (by decide)] at hVL hVK
                  obtain ⟨VV, hVV⟩ : ∃ VV, 1048576 + 8 * sp + ay = VV := ⟨_, rfl⟩
                  rw [hVL, hVV] at hVK
                  rw [hVV] at hVL
                  have HVL : Hid _ := hVL
                  have HVK : Hid _ := hVK
                  clear hVL hVK
                  by_cases hneg : VV < 0
                  · have hok : L.valueOk (L.syms os) z ⟨ry, 2, ny, ay⟩ = false := by rw [HVK.out]; simp; omega
                    have HE : Hid (linkE os = 7) := by
                      have h1 : fillRels (L.syms os) z lq d.rels = none := by rw [HA3.out, HFD.out, hok]; rfl
                      have h2 : filled os = none := by rw [← HDF.out, HA2.out, HDD.out, h1]
                      show _ = _
                      rw [HM3.out, h2]
                      rfl
                    clear hok HVK HVL HA3 HFD HA2 HDD
                    have t0 := (HR.out Y8 B8).1.1
                    have t1 := (HR.out Y8 B8).1.2.1
                    have t2 := (HR.out Y8 B8).1.2.2
                    have z0 := (HR.out Y8 B8).2 0
                    have z1 := (HR.out Y8 B8).2 1
                    have z2 := (HR.out Y8 B8).2 2
                    go_wp2
                    refine bodyPost_ret (v := .tuple #[.agg #[.string { data := #[] }, .slice none 0 0, .slice none 0 0], .int .i64 7]) (by simp [results, Try.results13, go_sem, t0, t1, t2]) rfl ?_
                    exact link_end HE.out (by decide) (((bw8.setCell (Nat.le_refl _) _).setCell (Nat.le_refl _) _).setCell (Nat.le_refl _) _)
                  · by_cases hbig2 : 2147483647 < VV
                    · have hok : L.valueOk (L.syms os) z ⟨ry, 2, ny, ay⟩ = false := by rw [HVK.out]; simp; omega
                      have HE : Hid (linkE os = 7) := by
                        have h1 : fillRels (L.syms os) z lq d.rels = none := by rw [HA3.out, HFD.out, hok]; rfl
                        have h2 : filled os = none := by rw [← HDF.out, HA2.out, HDD.out, h1]
                        show _ = _
                        rw [HM3.out, h2]
                        rfl
                      have hsx : ¬ W.sx 4 VV = VV := by
                        unfold W.sx
                        simp
                        unfold wrap32
                        omega
                      clear hok HVK HVL HA3 HFD HA2 HDD
                      go_wp2_with fail
                      refine (rbytes_no4 VV hsx _).mono ?_
                      rintro e y9 ⟨rfl, hb9⟩
                      have B9 : Below X1.heap.size X1 y9 := B8.trans (hb9.mono B8.size)
                      have bw9 : Below w.heap.size w y9 := b1.trans (B9.mono b1.size)
                      have t0 := (HR.out y9 B9).1.1
                      have t1 := (HR.out y9 B9).1.2.1
                      have t2 := (HR.out y9 B9).1.2.2
                      have z0 := (HR.out y9 B9).2 0
                      have z1 := (HR.out y9 B9).2 1
                      have z2 := (HR.out y9 B9).2 2
                      go_wp2
                      refine bodyPost_ret (v := .tuple #[.agg #[.string { data := #[] }, .slice none 0 0, .slice none 0 0], .int .i64 7]) (by simp [results, Try.results13, go_sem, t0, t1, t2]) rfl ?_
                      exact link_end HE.out (by decide) (((bw9.setCell (Nat.le_refl _) _).setCell (Nat.le_refl _) _).setCell (Nat.le_refl _) _)
                    · have hv1 : -2147483648 ≤ VV := by omega
                      have hv2 : VV ≤ 2147483647 := by omega
                      have hok : L.valueOk (L.syms os) z ⟨ry, 2, ny, ay⟩ = true := by rw [HVK.out]; simp; omega
                      have HFS : Hid (fillS (L.syms os) z ⟨ry, 2, ny, ay⟩ = strOfNums (W.bytesOf VV 4)) := by show _ = _; unfold fillS; rw [HVL.out, bytesV4 hv1 hv2]
                      have hs4 : (strOfNums (W.bytesOf VV 4)).size = 4 := by rw [strOfNums_size, W.bytesOf_length]
                      have HHK : Hid _ := hok
                      clear HVK HVL hok
                      go_wp2_with fail
                      have hok := HHK.out
                      refine (rbytes_ok4 VV (sx4_in hv1 hv2) _).mono ?_
                      rintro e y9 ⟨rfl, hb9⟩
                      have HD9 : Hid (DS x5 y9 g lj) := (HD4.out.below b78).below hb9
                      obtain ⟨y10, hcp, hds⟩ := HD9.out.copy pp (N - pp) (cap - pp) (strOfNums (W.bytesOf VV 4)) (by rw [hs4]; omega) (by rw [hs4]; omega)
                      have HD10 : Hid (DS x5 y10 g (patch lj pp (strOfNums (W.bytesOf VV 4)))) := hds
                      have HFR : Hid (fillRels (L.syms os) z lq d.rels = fillRels (L.syms os) z (patch lj pp (strOfNums (W.bytesOf VV 4))) (d.rels.drop (j + 1))) := by
                        show _ = _
                        rw [HA3.out, HFD.out, if_pos hok]
                        congr 1
                        rw [HFS.out, HPT.out]
                      have hlen10 : (patch lj pp (strOfNums (W.bytesOf VV 4))).length = N := by rw [patch_len (by rw [hs4]; omega)]; exact hlj
                      clear hds HA3 HFD
                      go_wp2_with fail
                      go_roundg (l3 - (j + 1))
                      case measure => omega
                      case rel => exact ⟨j + 1, _, by go_num, by omega, Nat.le_refl _, hlen10, HFR.out, HD10.out⟩
              · obtain rfl : j = l3 := by omega
                have hjj : ¬ (j : Int) < j := by omega
                have HAn : Hid (docAll (L.syms os) L.zero l0 os = docAll (L.syms os) (L.sizes (os.take (i + 1))) lj (os.drop (i + 1))) := by
                  have h1 : fillRels (L.syms os) z lq d.rels = some lj := by
                    rw [HA3.out, List.drop_eq_nil_of_le (by omega)]
                    rfl
                  show _ = _
                  rw [HA2.out, HDD.out, h1, HST.out]
                have HSB : Hid ((L.sizes (os.take (i + 1))).b = z.b + d.code.size) := by show _ = _; rw [HST.out]; rfl
                have hsum : (z.b : Int) + d.code.size ≤ 65536 := by omega
                clear HA3 HA2 HDD
                go_wp2_with fail
                go_roundg (k - (i + 1))
                case measure => omega
                case rel => exact ⟨i + 1, lj, by go_num, by rw [HSB.out]; go_num, by omega, Nat.le_refl _, hlj, HAn.out, HD3.out⟩
          · obtain rfl : i = k := by omega
            have hii2 : ¬ (i : Int) < i := by omega
            have hfl : filled os = some lq := by
              rw [← HDF.out, HA2.out, List.drop_eq_nil_of_le (by omega)]
              rfl
            have HE : Hid (linkE os = 0) := by show _ = _; rw [HM3.out, hfl]; rfl
            have HC : Hid (linkC os = lq ∧ linkD os = datas os ∧ linkS os = L.syms os) := by
              unfold linkC linkD linkS
              rw [HE.out, hfl]
              exact ⟨rfl, rfl, rfl⟩
            have hbk := HD2.out.cb.back (cap := cap)
            rw [hlq] at hbk
            have b39 : Below Y3.heap.size Y3 wr := b35.trans (HD2.out.low.mono b35.size)
            have B9 : Below X1.heap.size X1 wr := B3.trans (b39.mono B3.size)
            have j0 := (HI3.out wr b39).1.1
            have j1 := (HI3.out wr b39).1.2.1
            have j2 := (HI3.out wr b39).1.2.2
            have jz := (HI3.out wr b39).2 0
            have hx13 : X1.heap.size ≤ x3.heap.size := by
              have h1 := HB.out.size
              have h2 := hb3.size
              omega
            obtain ⟨X9, hX9⟩ : ∃ X, wr.setCell ⟨x3.heap.size, 0, none⟩ (.string ⟨lq.toArray⟩) = X := ⟨_, rfl⟩
            have B9' : Below X1.heap.size X1 X9 := by subst hX9; exact B9.setCell hx13 _
            have n0 : X9.cell? ⟨x3.heap.size, 0, none⟩ = some (.string ⟨lq.toArray⟩) := by subst hX9; exact World.cell?_setCell_same' _ _ _ (by rw [j0]; rfl)
            have n1 : X9.cell? ⟨x3.heap.size, 1, none⟩ = some (.slice a1 nd c1) := by subst hX9; rw [World.cell?_setCell_other _ _ _ _ (fun e => by have := congrArg Addr.off e; simp at this)]; exact j1
            have n2 : X9.cell? ⟨x3.heap.size, 2, none⟩ = some (.slice a2 ns c2) := by subst hX9; rw [World.cell?_setCell_other _ _ _ _ (fun e => by have := congrArg Addr.off e; simp at this)]; exact j2
            clear HA2 hfl HM3
            have t0 := (HR.out X9 B9').1.1
            have t1 := (HR.out X9 B9').1.2.1
            have t2 := (HR.out X9 B9').1.2.2
            have z0 := (HR.out X9 B9').2 0
            have z1 := (HR.out X9 B9').2 1
            have z2 := (HR.out X9 B9').2 2
            go_wp2
            refine bodyPost_ret (v := .tuple #[.agg #[.string ⟨lq.toArray⟩, .slice a1 nd c1, .slice a2 ns c2], .int .i64 0]) (by simp [results, Try.results13, go_sem, t0, t1, t2]) rfl ?_
            have hx2 : w.heap.size < x2.heap.size := by have := HB.out.size; omega
            have far : ∀ {y : World} {T : TypeId} {m q : Nat} {u : Value} {cs : List Value} (j : Nat) (r : Value), y.ownsRow x2.heap.size T m u q cs → (y.setCell ⟨w.heap.size, j, none⟩ r).ownsRow x2.heap.size T m u q cs := fun j r ho => ho.kept (gb_set _ ⟨w.heap.size, j, none⟩ r) (.inr fun e => by have := (ho.lt _ e).1; simp at this; omega)
            have keep : ∀ {T : TypeId} {m q : Nat} {u : Value} {cs : List Value}, x3.ownsRow x2.heap.size T m u q cs → X9.ownsRow x2.heap.size T m u q cs := fun {T m q u cs} ho => by
              have h1 : wr.ownsRow x2.heap.size T m u q cs := row_below (row_below ho bY3) b39
              subst hX9
              refine h1.kept (gb_set _ ⟨x3.heap.size, 0, none⟩ _) (.inr fun e => ?_)
              have := (ho.lt _ e).2
              simp at this
            refine ⟨_, _, by rw [HC.out.1, HE.out], ?_⟩
            rw [HC.out.2.1, HC.out.2.2]
            have hle : w.heap.size ≤ x2.heap.size := by omega
            have bw9 : Below w.heap.size w X9 := b1.trans (B9'.mono b1.size)
            exact ⟨((bw9.setCell (Nat.le_refl _) _).setCell (Nat.le_refl _) _).setCell (Nat.le_refl _) _, own_base (far _ _ (far _ _ (far _ _ (keep HR3.out.d)))) hle, own_base (far _ _ (far _ _ (far _ _ (keep HR3.out.s)))) hle, HR3.out.ap⟩
      · have HE : Hid (linkE os = layE os) := by show _ = _; rw [HM1.out, if_neg h0]
        have hq : (layE os == 0) = false := by simpa using h0
        obtain ⟨E, hEE⟩ : ∃ E, layE os = E := ⟨_, rfl⟩
        rw [hEE]
        rw [hEE] at HE h0 hq
        clear HM1 i2
        have t0 := (HR.out x4 B4).1.1
        have t1 := (HR.out x4 B4).1.2.1
        have t2 := (HR.out x4 B4).1.2.2
        have z0 := (HR.out x4 B4).2 0
        have z1 := (HR.out x4 B4).2 1
        have z2 := (HR.out x4 B4).2 2
        go_wp2
        refine bodyPost_ret (v := .tuple #[.agg #[.string { data := #[] }, .slice none 0 0, .slice none 0 0], .int .i64 E]) (by simp [results, Try.results13, go_sem, t0, t1, t2]) rfl ?_
        exact link_end HE.out h0 (((bw4.setCell (Nat.le_refl _) _).setCell (Nat.le_refl _) _).setCell (Nat.le_refl _) _)
end Go.Proofs.Ytaoklmphcgigeaa

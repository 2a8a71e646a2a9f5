/- The walk of LinkMore. -/
import Derived.Test.YtaoklmphcgigeaaLinkObjRow
import Derived.Deep.RegionHeld3
namespace Go.Proofs.Ytaoklmphcgigeaa
open Go.RowKit Go.Lib
set_option linter.unusedVariables false
set_option linter.unusedSimpArgs false

theorem own_cap {x : World} {B : Nat} {T : TypeId} {m n : Nat} {a : Option Addr} {k c : Nat} {cs : List Value} (h : x.ownsRow B T m (.slice a k c) n cs) : k = n ∧ n ≤ c := by
  rcases h.2 with ⟨h1, h2⟩ | ⟨g, cap, cur, h1, hb, hg, hc, -⟩
  · cases h1
    exact ⟨h2.symm, by omega⟩
  · cases h1
    exact ⟨rfl, hc⟩

theorem IntsV.part {w : World} {a : Option Addr} {l c k : Nat} {zs : List Int} (h : IntsV w a l c zs) (hk : k ≤ l) : IntsV w a k c (zs.take k) := by
  refine ⟨by rw [List.length_take, h.count]; omega, fun n hn => h.fits n (List.mem_of_mem_take hn), fun e => ⟨by have := (h.nilOf e).1; omega, (h.nilOf e).2⟩, ?_⟩
  rcases h.cells with h0 | ⟨b, off, ha, hc⟩
  · exact .inl (by omega)
  · refine .inr ⟨b, off, ha, fun i hi => ?_⟩
    rw [hc i (by omega)]
    simp [List.getD, hi]
theorem SymsV.part {w : World} {a : Option Addr} {l c k : Nat} {zs : List Sym} (h : SymsV w a l c zs) (hk : k ≤ l) : SymsV w a k c (zs.take k) := by
  refine ⟨by rw [List.length_take, h.count]; omega, fun n hn => h.fits n (List.mem_of_mem_take hn), fun e => ⟨by have := (h.nilOf e).1; omega, (h.nilOf e).2⟩, ?_⟩
  rcases h.cells with h0 | ⟨b, off, ha, hc⟩
  · exact .inl (by omega)
  · refine .inr ⟨b, off, ha, fun i hi => ?_⟩
    have e : (zs.take k).getD i noSym = zs.getD i noSym := by simp [List.getD, hi]
    rw [e]
    exact hc i (by omega)

theorem link_sizes {os : List ObjD} (h : linkE os = 0) : (linkC os).length = (L.sizes os).b ∧ (linkC os).length ≤ 65536 ∧ (linkD os).length ≤ 4096 ∧ (linkS os).length ≤ 1000 := by
  obtain ⟨a1, a2, a3, a4, a5, a6, a7⟩ := link_ok h
  have h1 := codes_len os L.zero _ a1.2 a5
  have z1 : L.zero.b = 0 := rfl
  have h2 := datas_len os L.zero
  have z2 : L.zero.d = 0 := rfl
  have h3 := syms_len os
  have e1 : (os.foldl L.grow L.zero) = L.sizes os := rfl
  rw [e1] at h1 h2
  rw [a6, a7]
  unfold L.fit at a4
  simp at a4
  omega

set_option maxRecDepth 100000 in
set_option maxHeartbeats 8000000 in
theorem more_any {w : World} {a : Option Addr} {l c : Nat} {os : List ObjD} (h : ObjsV w a l c os) (hl : l * 88 ≤ 140737488351232) (hL : ∀ o ∈ os, Len 140737488351232 o) {o : ObjD} {s : Sl} (hO : OV w o s) (hLo : Len 140737488351232 o) :
    Calls Try.prog 8 #[.slice a l c, s.val o] w fun e w' => e = .returned (.bool true) ∧ Below w.heap.size w w' := by
  obtain ⟨pl, hpl, hP⟩ := objs_p h
  have HV : Hid _ := h
  have HP : Hid _ := hP
  have HL : Hid _ := hL
  have HLo : Hid (Len 140737488351232 o) := hLo
  have HO : Hid _ := hO
  have HPL : Hid _ := hpl
  clear h hP hL hLo hO hpl
  obtain ⟨i4, hi4, hz40, hz41, hz42⟩ := info_partsL infoO
  obtain ⟨a1, l1, c1, a2, l2, c2, a3, l3, c3⟩ := s
  unfold Sl.val
  simp only
  obtain ⟨W1, hW1⟩ : ∃ W1, w.alloc (.cells #[.string o.code, .slice a1 l1 c1, .slice a2 l2 c2, .slice a3 l3 c3] 40) = W1 := ⟨_, rfl⟩
  have b1 : Below w.heap.size w W1 := by subst hW1; exact bl_one _ _
  have sW1 : w.heap.size < W1.heap.size := by subst hW1; simp
  have HC : Hid (∀ y : World, Below W1.heap.size W1 y → y.cell? ⟨w.heap.size, 0, none⟩ = some (.string o.code) ∧ y.cell? ⟨w.heap.size, 1, none⟩ = some (.slice a1 l1 c1) ∧ y.cell? ⟨w.heap.size, 2, none⟩ = some (.slice a2 l2 c2) ∧ y.cell? ⟨w.heap.size, 3, none⟩ = some (.slice a3 l3 c3)) := fun y hb => by
    refine ⟨cell_thru hb ?_, cell_thru hb ?_, cell_thru hb ?_, cell_thru hb ?_⟩
    all_goals
      subst hW1
      exact cell_last rfl rfl
  have HP1 : Hid _ := HP.out.below b1
  have HSR : Hid _ := HP1.out.src
  have HNI : Hid _ := HP1.out.nilOf
  have HCS : Hid _ := HP1.out.cells
  go_enter Try.func8, Try.ntmps8
  go_wp2_with (first | (at_builtin; refine wpList_append_more rfl _ _ 22 rfl W1.heap.size 40 i4 _ 4 88 Try.underlying22 hi4 hz40 hz41 hz42 rfl (by decide) (v := .slice none 0 0) (n := 0) (xs := []) rfl (World.ownsRow_nil _ _ _ _) (Nat.le_refl _) (a := a) (l := l) (c := c) (cs := pl.flatMap objC) rfl HNI.out HSR.out.1 HCS.out HSR.out.2 (by omega) (by omega) ?_) | go_in)
  intro v1 x1 ho1 hg1 hat1
  have B1 : Below W1.heap.size W1 x1 := (Below.refl _ _).grown hg1 (Nat.le_refl _) (by intro k hk; simp [Value.ownBlock] at hk)
  obtain ⟨e1, f1, rfl⟩ := own_slice ho1
  have HO1 : Hid _ := ho1
  have k0 := (HC.out x1 B1).1
  have k1 := (HC.out x1 B1).2.1
  have k2 := (HC.out x1 B1).2.2.1
  have k3 := (HC.out x1 B1).2.2.2
  obtain ⟨X2, hX2⟩ : ∃ X2, x1.alloc (.cells #[.string o.code, .slice a1 l1 c1, .slice a2 l2 c2, .slice a3 l3 c3] 40) = X2 := ⟨_, rfl⟩
  have bX2 : Below x1.heap.size x1 X2 := by subst hX2; exact bl_one _ _
  have HO2 : Hid (X2.ownsRow W1.heap.size 40 4 (.slice e1 l f1) l (pl.flatMap objC)) := row_below ho1 bX2
  have HNC : Hid (∀ ad, some (⟨x1.heap.size, 0, none⟩ : Addr) = some ad → ∀ j u, (objC (o, ⟨a1, l1, c1, a2, l2, c2, a3, l3, c3⟩))[j]? = some u → X2.cell? (ad.add j) = some u) := fun ad e j u hu => by
    cases e
    rw [Addr.add_lit, Nat.zero_add]
    subst hX2
    exact cell_last rfl (by simpa [objC] using hu)
  have hWX : W1.heap.size ≤ X2.heap.size := Nat.le_trans B1.size bX2.size
  clear ho1 hg1 hat1
  go_wp2_with (first | (at_builtin; refine wpList_append_more rfl _ _ 22 rfl W1.heap.size 40 i4 _ 4 88 Try.underlying22 hi4 hz40 hz41 hz42 rfl (by decide) (v := .slice e1 l f1) rfl HO2.out hWX (a := some ⟨x1.heap.size, 0, none⟩) (l := 1) (c := 1) (cs := objC (o, ⟨a1, l1, c1, a2, l2, c2, a3, l3, c3⟩)) rfl (by intro e; cases e) rfl HNC.out (by intro u hu; simp [objC] at hu; rcases hu with rfl | rfl | rfl | rfl <;> rfl) (by omega) (by omega) ?_) | go_in)
  intro v3 x3 ho3 hg3 hat3
  have hvl : ∀ q, (Value.slice e1 l f1).ownBlock = some q → W1.heap.size ≤ q := fun q e => (HO2.out.lt _ e).1
  have BX2 : Below W1.heap.size W1 X2 := B1.trans (bX2.mono B1.size)
  have B3 : Below W1.heap.size W1 x3 := BX2.grown hg3 hWX hvl
  obtain ⟨e3, f3, rfl⟩ := own_slice ho3
  have bw3 : Below w.heap.size w x3 := b1.trans (B3.mono b1.size)
  have HFM : Hid (pl.flatMap objC ++ objC (o, ⟨a1, l1, c1, a2, l2, c2, a3, l3, c3⟩) = (pl ++ [(o, (⟨a1, l1, c1, a2, l2, c2, a3, l3, c3⟩ : Sl))]).flatMap objC) := by show _ = _; simp
  rw [HFM.out] at ho3
  have hpn := HP.out.count
  have HOV3 : Hid (∀ p ∈ pl ++ [(o, (⟨a1, l1, c1, a2, l2, c2, a3, l3, c3⟩ : Sl))], OV x3 p.1 p.2) := fun p hp => by
    rcases List.mem_append.1 hp with h1 | h1
    · exact (HP.out.ov p h1).below bw3
    · simp at h1
      subst h1
      exact HO.out.below bw3
  obtain ⟨e4, f4, he4, hP3⟩ := objs_own ho3 (by simp [hpn]) (by unfold maxLen; omega) HOV3.out
  cases he4
  have hV3 := objs_v hP3
  rw [List.map_append, HPL.out] at hV3
  have HV3 : Hid (ObjsV x3 e3 (l + 1) f3 (os ++ [o])) := hV3
  have HLM : Hid (∀ p ∈ os ++ [o], Len 140737488355328 p) := fun p hp => by
    have h1 : Len 140737488351232 p := by
      rcases List.mem_append.1 hp with h1 | h1
      · exact HL.out p h1
      · simp at h1; subst h1; exact HLo.out
    unfold Len at *
    omega
  clear hV3 hP3 ho3 hg3 hat3 HOV3 HFM hvl HNC HO2 HO1 HCS HNI HSR k0 k1 k2 k3 hX2
  go_wp2_with fail
  refine (small_any HV3.out HLM.out).mono ?_
  rintro e x4 ⟨rfl, hb4⟩
  have B4 : Below W1.heap.size W1 x4 := B3.trans (hb4.mono B3.size)
  have bw4 : Below w.heap.size w x4 := b1.trans (B4.mono b1.size)
  cases hsm : smallB (os ++ [o]) with
  | false =>
    clear hsm
    go_wp2_with (go_at_call 10; refine (live_any _).mono ?_; rintro e y ⟨rfl, hb⟩)
    go_ret
    exact ⟨rfl, bw4.trans (hb.mono bw4.size)⟩
  | true =>
    clear hsm
    have HV4 : Hid (ObjsV x4 e3 (l + 1) f3 (os ++ [o])) := HV3.out.below hb4
    go_wp2_with fail
    refine (link_any (HV.out.below bw4)).mono ?_
    rintro e x5 ⟨v1, v2, rfl, hR5⟩
    obtain ⟨p1, q1, p2, q2, rfl, rfl, hI5, hS5⟩ := imgR_view hR5 (link_fits HV.out).1 (link_fits HV.out).2
    have hb5 := hR5.low
    have hcap1 := (own_cap hR5.d).2
    have hcap2 := (own_cap hR5.s).2
    clear hR5
    obtain ⟨CA, hCA⟩ : ∃ CA : ByteArray, (⟨(linkC os).toArray⟩ : ByteArray) = CA := ⟨_, rfl⟩
    obtain ⟨EA, hEA⟩ : ∃ EA, linkE os = EA := ⟨_, rfl⟩
    obtain ⟨na, hna⟩ : ∃ na, (linkD os).length = na := ⟨_, rfl⟩
    obtain ⟨ma, hma⟩ : ∃ ma, (linkS os).length = ma := ⟨_, rfl⟩
    rw [hna] at hI5 hcap1
    rw [hma] at hS5 hcap2
    rw [hCA, hEA, hna, hma]
    have HI5 : Hid _ := hI5
    have HS5 : Hid _ := hS5
    clear hI5 hS5
    obtain ⟨Y5, hY5⟩ : ∃ Y, x5.alloc (.cells #[.string CA, .slice p1 na q1, .slice p2 ma q2] 29) = Y := ⟨_, rfl⟩
    have bY5 : Below x5.heap.size x5 Y5 := by subst hY5; exact bl_one _ _
    have HA5 : Hid (∀ y : World, Below Y5.heap.size Y5 y → y.cell? ⟨x5.heap.size, 0, none⟩ = some (.string CA) ∧ y.cell? ⟨x5.heap.size, 1, none⟩ = some (.slice p1 na q1) ∧ y.cell? ⟨x5.heap.size, 2, none⟩ = some (.slice p2 ma q2)) := fun y hb => by
      refine ⟨cell_thru hb ?_, cell_thru hb ?_, cell_thru hb ?_⟩
      all_goals
        subst hY5
        exact cell_last rfl rfl
    have b45 : Below x4.heap.size x4 Y5 := hb5.trans (bY5.mono hb5.size)
    have B5 : Below W1.heap.size W1 Y5 := B4.trans (b45.mono B4.size)
    have bw5 : Below w.heap.size w Y5 := b1.trans (B5.mono b1.size)
    have HV5 : Hid (ObjsV Y5 e3 (l + 1) f3 (os ++ [o])) := HV4.out.below b45
    go_wp2_with fail
    refine (link_any HV5.out).mono ?_
    rintro e x6 ⟨v1, v2, rfl, hR6⟩
    obtain ⟨r1, t1, r2, t2, rfl, rfl, hI6, hS6⟩ := imgR_view hR6 (link_fits HV5.out).1 (link_fits HV5.out).2
    have hb6 := hR6.low
    have hcap3 := (own_cap hR6.d).2
    have hcap4 := (own_cap hR6.s).2
    clear hR6
    obtain ⟨CB, hCB⟩ : ∃ CB : ByteArray, (⟨(linkC (os ++ [o])).toArray⟩ : ByteArray) = CB := ⟨_, rfl⟩
    obtain ⟨EB, hEB⟩ : ∃ EB, linkE (os ++ [o]) = EB := ⟨_, rfl⟩
    obtain ⟨nb, hnb⟩ : ∃ nb, (linkD (os ++ [o])).length = nb := ⟨_, rfl⟩
    obtain ⟨mb, hmb⟩ : ∃ mb, (linkS (os ++ [o])).length = mb := ⟨_, rfl⟩
    rw [hnb] at hI6 hcap3
    rw [hmb] at hS6 hcap4
    rw [hCB, hEB, hnb, hmb]
    have HI6 : Hid _ := hI6
    have HS6 : Hid _ := hS6
    clear hI6 hS6
    obtain ⟨Y6, hY6⟩ : ∃ Y, x6.alloc (.cells #[.string CB, .slice r1 nb t1, .slice r2 mb t2] 29) = Y := ⟨_, rfl⟩
    have bY6 : Below x6.heap.size x6 Y6 := by subst hY6; exact bl_one _ _
    have HA6 : Hid (∀ y : World, Below Y6.heap.size Y6 y → y.cell? ⟨x6.heap.size, 0, none⟩ = some (.string CB) ∧ y.cell? ⟨x6.heap.size, 1, none⟩ = some (.slice r1 nb t1) ∧ y.cell? ⟨x6.heap.size, 2, none⟩ = some (.slice r2 mb t2)) := fun y hb => by
      refine ⟨cell_thru hb ?_, cell_thru hb ?_, cell_thru hb ?_⟩
      all_goals
        subst hY6
        exact cell_last rfl rfl
    have b56 : Below Y5.heap.size Y5 Y6 := hb6.trans (bY6.mono hb6.size)
    have B6 : Below W1.heap.size W1 Y6 := B5.trans (b56.mono B5.size)
    have bw6 : Below w.heap.size w Y6 := b1.trans (B6.mono b1.size)
    by_cases h1 : EA = 0
    · by_cases h2 : EB = 0
      · obtain ⟨⟨q, hq1, hq2⟩, hq3, ⟨tt, hq4⟩⟩ := link_more (hEA.trans h1) (hEB.trans h2)
        have hsa : CB.size = CA.size + o.code.size := by
          rw [← hCA, ← hCB, hq1]
          show (linkC os ++ q).toArray.size = (linkC os).toArray.size + o.code.size
          simp [hq2]
        have hex : CB.extract 0 CA.size = CA := by
          apply bytes_ext
          rw [← hCA, ← hCB, hq1]
          simp [ByteArray.size]
        have hnn : nb = na + o.data.length := by rw [← hna, ← hnb, hq3, List.length_append]
        have hmm : ma ≤ mb := by rw [← hma, ← hmb, hq4, List.length_append]; omega
        have hsz6 := link_sizes (hEB.trans h2)
        have hszb : CB.size ≤ 65536 := by rw [← hCB]; show (linkC (os ++ [o])).toArray.size ≤ 65536; simpa using hsz6.2.1
        have hnb' : nb ≤ 4096 := by rw [← hnb]; exact hsz6.2.2.1
        have hmb' : mb ≤ 1000 := by rw [← hmb]; exact hsz6.2.2.2
        have HD1 : Hid (IntsV Y6 r1 na t1 (linkD os)) := by
          have := ((HI6.out.below bY6).part (k := na) (by omega))
          rw [hq3, List.take_left' hna] at this
          exact this
        have HD2 : Hid (IntsV Y6 p1 na q1 (linkD os)) := (HI5.out.below bY5).below b56
        have HS1 : Hid (SymsV Y6 r2 ma t2 (linkS os)) := by
          have := ((HS6.out.below bY6).part (k := ma) (by omega))
          rw [hq4, List.take_left' hma] at this
          exact this
        have HS2 : Hid (SymsV Y6 p2 ma q2 (linkS os)) := (HS5.out.below bY5).below b56
        have HK : Hid (∀ y : World, Below Y6.heap.size Y6 y → (fun w' : World => (w'.cell? ⟨w.heap.size, 0, none⟩ = some (.string o.code)) ∧ (w'.cell? ⟨x5.heap.size, 0, none⟩ = some (.string CA) ∧ w'.cell? ⟨x5.heap.size, 1, none⟩ = some (.slice p1 na q1) ∧ w'.cell? ⟨x5.heap.size, 2, none⟩ = some (.slice p2 ma q2)) ∧ (w'.cell? ⟨x6.heap.size, 0, none⟩ = some (.string CB) ∧ w'.cell? ⟨x6.heap.size, 1, none⟩ = some (.slice r1 nb t1) ∧ w'.cell? ⟨x6.heap.size, 2, none⟩ = some (.slice r2 mb t2))) y) := fun y hb => ⟨(HC.out y (B6.trans (hb.mono B6.size))).1, HA5.out y (b56.trans (hb.mono b56.size)), HA6.out y hb⟩
        have hi1 : (na : Int) ≤ t1 := by omega
        have hi2 : (ma : Int) ≤ t2 := by omega
        have hi3 : (CA.size : Int) ≤ CB.size := by omega
        have hi4 : (0 : Int) ≤ na := by omega
        have hi5 : (0 : Int) ≤ ma := by omega
        have hi6 : (0 : Int) ≤ CA.size := by omega
        have hi7 : IntKind.i64.wrap ((CA.size : Int) + o.code.size) = (CB.size : Int) := by
          rw [IntKind.wrap_i64]
          omega
        have hmx : maxLen = 9223372036854775807 := rfl
        have hna' : na ≤ maxLen := by omega
        have hma' : ma ≤ maxLen := by omega
        subst h1 h2
        have hnn' : na ≤ nb := by omega
        clear hEA hEB hq1 hq2 hq3 hq4 hsz6 hCA hCB hna hnb hma hmb hmx hY5 hW1 hsa hnn
        go_wp2_with fail
        clear hY6
        go_region_held3 (fun w' : World => (w'.cell? ⟨w.heap.size, 0, none⟩ = some (.string o.code)) ∧ (w'.cell? ⟨x5.heap.size, 0, none⟩ = some (.string CA) ∧ w'.cell? ⟨x5.heap.size, 1, none⟩ = some (.slice p1 na q1) ∧ w'.cell? ⟨x5.heap.size, 2, none⟩ = some (.slice p2 ma q2)) ∧ (w'.cell? ⟨x6.heap.size, 0, none⟩ = some (.string CB) ∧ w'.cell? ⟨x6.heap.size, 1, none⟩ = some (.slice r1 nb t1) ∧ w'.cell? ⟨x6.heap.size, 2, none⟩ = some (.slice r2 mb t2))) (first | (exact HK.out _ (Below.refl _ _).drew) | (exact HK.out _ hB1) | (exact HK.out _ hB2) | (exact HK.out _ hB3)) (first | (go_at_call 16; refine (samedata_any (HD1.out.below (Below.refl _ _).drew) (HD2.out.below (Below.refl _ _).drew) hna' true (by simp)).mono ?_; rintro e y1 ⟨rfl, hb1⟩; have hB1 : Below Y6.heap.size Y6 y1 := (Below.refl _ _).drew.trans hb1) | (go_at_call 18; refine (samesyms_any (HS1.out.below hB1) (HS2.out.below hB1) hma' true (by simp)).mono ?_; rintro e y2 ⟨rfl, hb2⟩; have hB2 : Below Y6.heap.size Y6 y2 := hB1.trans (hb2.mono hB1.size)) | (go_at_call 10; refine (live_any _).mono ?_; rintro e y3 ⟨rfl, hb3⟩; have hB3 : Below Y6.heap.size Y6 y3 := hB2.trans (hb3.mono hB2.size)))
        go_wp2
        go_ret
        exact ⟨rfl, bw6.trans (hB3.mono bw6.size)⟩
      · have hne : (EB == 0) = false := by simpa using h2
        have HH : Hid (EA = 0) := h1
        subst h1
        clear hEA hEB
        go_wp2_with (go_at_call 10; refine (live_any _).mono ?_; rintro e y ⟨rfl, hb⟩)
        go_ret
        exact ⟨rfl, bw6.trans (hb.mono bw6.size)⟩
    · have hne : (EA == 0) = false := by simpa using h1
      clear hEA hEB
      go_wp2_with (go_at_call 10; refine (live_any _).mono ?_; rintro e y ⟨rfl, hb⟩)
      go_ret
      exact ⟨rfl, bw6.trans (hb.mono bw6.size)⟩
end Go.Proofs.Ytaoklmphcgigeaa

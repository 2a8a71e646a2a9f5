/- The walk of LinkKeeps. -/
import Derived.Test.YtaoklmphcgigeaaLinkKeepM
import Derived.Deep.RegionHeld3
import Derived.Deep.CutRange
namespace Go.Proofs.Ytaoklmphcgigeaa
open Go.RowKit Go.Lib
set_option linter.unusedVariables false
set_option linter.unusedSimpArgs false

theorem syms_none (w : World) : SymsV w none 0 0 [] := ⟨rfl, by simp, fun _ => ⟨rfl, rfl⟩, .inl rfl⟩
theorem infoBo : (Try.prog.info? 4).map (fun i => (i.zero, i.size, i.bytes)) = some (some (.bool false), 1, 1) := by kernel_rfl
theorem makeBool (w : World) (N : Nat) (hN : N ≤ 65536) :
    (Instr.makeSlice 43 (.int .i64 N) (.int .i64 N)).run Try.prog w = .ok (.slice (some ⟨w.heap.size, 0, none⟩) N N) (w.alloc (.cells (List.replicate N (Value.bool false)).toArray 4)) := by
  obtain ⟨i, hi, h0, h1, h2⟩ := info_partsL infoBo
  have := run_make (P := Try.prog) w 43 4 i (.bool false) Try.underlying43 hi h0 .i64 .i64 N N (by omega) (by omega) (by rw [h2]; omega) (by omega)
  rw [this, h1, Int.toNat_natCast]
  congr 3
  unfold madeCells
  apply Array.ext
  · simp
  · intro i h1 h2
    simp [Value.cells, Nat.mod_one]
/-- A block of marks. -/
structure BC (x : World) (g : Nat) (bl : List Bool) : Prop where
  at' : ∀ q b, bl[q]? = some b → x.cell? ⟨g, q, none⟩ = some (.bool b)
  fz : ∀ q, x.frozen? ⟨g, q, none⟩ = false
theorem BC.below {x y : World} {g : Nat} {bl : List Bool} (h : BC x g bl) (hg : g < x.heap.size) (hb : Below x.heap.size x y) : BC y g bl := ⟨fun q b hq => cell_thru hb (h.at' q b hq), fun q => (hb.frozen (p := ⟨g, q, none⟩) hg).trans (h.fz q)⟩
theorem BC.set {x : World} {g q : Nat} {bl : List Bool} (h : BC x g bl) (hq : q < bl.length) : BC (x.setCell ⟨g, q, none⟩ (.bool true)) g (bl.set q true) := by
  refine ⟨fun p b hp => ?_, fun p => by rw [World.frozen?_setCell]; exact h.fz p⟩
  by_cases e : q = p
  · subst e
    rw [List.getElem?_set_self hq] at hp
    cases hp
    refine World.cell?_setCell_same' _ _ _ ?_
    rw [h.at' q bl[q] (by simp [hq])]
    rfl
  · rw [List.getElem?_set_ne e] at hp
    rw [World.cell?_setCell_other _ _ _ _ (fun e' => e (by have := congrArg Addr.off e'; simpa using this))]
    exact h.at' p b hp
/-- The marks that relocations leave: all four of the first k ones, and so many of the next. -/
def Cov (rs : List Rel) (k j : Nat) (bl : List Bool) : Prop := ∀ i r q, rs[i]? = some r → (i < k ∧ q < 4 ∨ i = k ∧ q < j) → bl[r.pos.toNat + q]? = some true
theorem Cov.set {rs : List Rel} {k j p : Nat} {bl : List Bool} {r : Rel} (h : Cov rs k j bl) (hk : rs[k]? = some r) (hp : p = r.pos.toNat + j) (hl : p < bl.length) : Cov rs k (j + 1) (bl.set p true) := fun i s q hi hq => by
  by_cases e : p = s.pos.toNat + q
  · rw [← e, List.getElem?_set_self hl]
  · rw [List.getElem?_set_ne e]
    refine h i s q hi ?_
    rcases hq with h1 | ⟨rfl, h1⟩
    · exact .inl h1
    · rw [hk] at hi
      cases hi
      refine .inr ⟨rfl, ?_⟩
      omega
theorem Cov.next {rs : List Rel} {k : Nat} {bl : List Bool} (h : Cov rs k 4 bl) : Cov rs (k + 1) 0 bl := fun i s q hi hq => by
  refine h i s q hi ?_
  rcases hq with ⟨h1, h2⟩ | ⟨-, h1⟩
  · by_cases e : i = k
    · exact .inr ⟨e, h2⟩
    · exact .inl ⟨by omega, h2⟩
  · omega

/-- The marks so far. -/
structure MK (x y : World) (g N : Nat) (rs : List Rel) (k j : Nat) : Prop where
  low : Below x.heap.size x y
  hg : g < y.heap.size
  gx : x.heap.size ≤ g
  ex : ∃ bl, BC y g bl ∧ bl.length = N ∧ Cov rs k j bl
theorem MK.below {x y z : World} {g N : Nat} {rs : List Rel} {k j : Nat} (h : MK x y g N rs k j) (hb : Below y.heap.size y z) : MK x z g N rs k j := by
  obtain ⟨bl, h1, h2, h3⟩ := h.ex
  exact ⟨h.low.trans (hb.mono h.low.size), Nat.lt_of_lt_of_le h.hg hb.size, h.gx, bl, h1.below h.hg hb, h2, h3⟩
theorem MK.next {x y : World} {g N : Nat} {rs : List Rel} {k : Nat} (h : MK x y g N rs k 4) : MK x y g N rs (k + 1) 0 := by
  obtain ⟨bl, h1, h2, h3⟩ := h.ex
  exact ⟨h.low, h.hg, h.gx, bl, h1, h2, h3.next⟩
theorem MK.mark {x y : World} {g N : Nat} {rs : List Rel} {k j p : Nat} {r : Rel} (h : MK x y g N rs k j) (hk : rs[k]? = some r) (hp : p = r.pos.toNat + j) (hl : p < N) : MK x (y.setCell ⟨g, p, none⟩ (.bool true)) g N rs k (j + 1) := by
  obtain ⟨bl, h1, h2, h3⟩ := h.ex
  exact ⟨h.low.setCell h.gx _, by rw [World.size_setCell]; exact h.hg, h.gx, _, h1.set (by omega), by rw [List.length_set]; exact h2, h3.set hk hp (by omega)⟩
theorem MK.cell {x y : World} {g N : Nat} {rs : List Rel} {k j p : Nat} (h : MK x y g N rs k j) (hl : p < N) : (∃ b, y.cell? ⟨g, p, none⟩ = some (.bool b)) ∧ y.frozen? ⟨g, p, none⟩ = false := by
  obtain ⟨bl, h1, h2, h3⟩ := h.ex
  exact ⟨⟨bl[p]'(by omega), h1.at' p _ (by simp [h2, hl])⟩, h1.fz p⟩
/-- A place without a mark lies in no relocation. -/
theorem MK.out {x y : World} {g N : Nat} {rs : List Rel} {p : Nat} (h : MK x y g N rs rs.length 0) (hl : p < N) (hr : ∀ r ∈ rs, 0 ≤ r.pos) (hb : y.cell? ⟨g, p, none⟩ = some (.bool false)) : ∀ r ∈ rs, (p : Int) < r.pos ∨ r.pos + 4 ≤ (p : Int) := fun r hr' => by
  obtain ⟨bl, h1, h2, h3⟩ := h.ex
  have h0 := hr r hr'
  by_cases hin : (p : Int) < r.pos ∨ r.pos + 4 ≤ (p : Int)
  · exact hin
  · exfalso
    obtain ⟨i, hi, rfl⟩ := List.getElem_of_mem hr'
    have := h3 i rs[i] (p - rs[i].pos.toNat) (by simp [hi]) (.inl ⟨hi, by omega⟩)
    rw [show rs[i].pos.toNat + (p - rs[i].pos.toNat) = p by omega] at this
    have := h1.at' p true this
    rw [hb] at this
    cases this
theorem MK.start (x : World) (N : Nat) (rs : List Rel) : MK x (x.alloc (.cells (List.replicate N (Value.bool false)).toArray 4)) x.heap.size N rs 0 0 :=
  ⟨bl_one _ _, by simp, Nat.le_refl _, List.replicate N false, ⟨fun q b hq => cell_last rfl (by
    have hq' : q < N := by simpa using (List.getElem?_eq_some_iff.1 hq).1
    simp [hq'] at hq ⊢
    exact hq), fun q => World.frozen?_alloc_at _ _ _ _ rfl⟩, by simp, fun i r q _ hq => by omega⟩

set_option maxRecDepth 100000 in
set_option maxHeartbeats 8000000 in
theorem keeps_any {w : World} {a : Option Addr} {l c : Nat} {os : List ObjD} (h : ObjsV w a l c os) (hL : ∀ o ∈ os, Len 140737488351232 o) :
    Calls Try.prog 5 #[.slice a l c] w fun e w' => e = .returned (.bool true) ∧ Below w.heap.size w w' := by
  have HV : Hid _ := h
  have hcnt := h.count
  have HLM : Hid (∀ p ∈ os, Len 140737488355328 p) := fun p hp => by
    have h1 := hL p hp
    unfold Len at *
    omega
  clear h hL
  go_enter Try.func5, Try.ntmps5
  go_wp2_with fail
  refine (small_any HV.out HLM.out).mono ?_
  rintro e x1 ⟨rfl, b1⟩
  cases hsm : smallB os with
  | false =>
    clear hsm
    go_wp2_with (go_at_call 10; refine (live_any _).mono ?_; rintro e y ⟨rfl, hb⟩)
    go_ret
    exact ⟨rfl, b1.trans (hb.mono b1.size)⟩
  | true =>
    clear hsm
    go_wp2_with fail
    refine (link_any (HV.out.below b1)).mono ?_
    rintro e x2 ⟨v1, v2, rfl, hR2⟩
    obtain ⟨p1, q1, p2, q2, rfl, rfl, hI2, hS2⟩ := imgR_view hR2 (link_fits HV.out).1 (link_fits HV.out).2
    have hb2 := hR2.low
    have hform : (p1 = none ∧ (linkD os).length = 0 ∧ q1 = 0) ∨ ∃ g, p1 = some ⟨g, 0, none⟩ ∧ (linkD os).length ≤ q1 := by
      rcases hR2.d.2 with ⟨h1, h2⟩ | ⟨g, cap, cur, h1, hb, hg, hc, -⟩
      · simp only [Value.slice.injEq] at h1
        exact .inl ⟨h1.1, h2, h1.2.2⟩
      · simp only [Value.slice.injEq] at h1
        exact .inr ⟨g, h1.1, by rw [h1.2.2]; exact hc⟩
    clear hR2
    have bw2' : Below w.heap.size w x2 := b1.trans (hb2.mono b1.size)
    by_cases h0 : linkE os = 0
    · obtain ⟨CA, hCA⟩ : ∃ CA : ByteArray, (⟨(linkC os).toArray⟩ : ByteArray) = CA := ⟨_, rfl⟩
      obtain ⟨na, hna⟩ : ∃ na, (linkD os).length = na := ⟨_, rfl⟩
      obtain ⟨ns, hns⟩ : ∃ ns, (linkS os).length = ns := ⟨_, rfl⟩
      rw [hna] at hI2 hform
      rw [hCA, h0, hna, hns]
      have HI2 : Hid (IntsV x2 p1 na q1 (linkD os)) := hI2
      have hCS : CA.size = (linkC os).length := by rw [← hCA]; show (linkC os).toArray.size = _; simp
      obtain ⟨hz1, hz2, hz3, hz4⟩ := link_sizes h0
      have hCA6 : CA.size ≤ 65536 := by omega
      have hna6 : na ≤ 4096 := by omega
      have HOK : Hid _ := link_ok h0
      have hl16 : l ≤ 16 := by have := HOK.out.1.1; omega
      have HKB : Hid (∀ k d, os[k]? = some d → ∀ q : Nat, q < d.code.size → (∀ r ∈ d.rels, (q : Int) < r.pos ∨ r.pos + 4 ≤ (q : Int)) → CA.data.toList[(L.sizes (os.take k)).b + q]? = d.code.data.toList[q]?) := fun k d hk q hq hout => by
        have := kept_byte h0 hk hq hout
        rw [← hCA]
        exact this
      have hbb : (L.sizes os).b = CA.size := by omega
      have hdd : (L.sizes os).d = na := by rw [← hna]; exact (link_sizesD h0).symm
      have hform' := hform
      have HFO : Hid _ := hform'
      clear hI2 hS2 hCS hCA h0 hz1 hz2 hz3 hform hform'
      obtain ⟨Y2, hY2⟩ : ∃ Y, x2.alloc (.cells #[.string CA, .slice p1 na q1, .slice p2 ns q2] 29) = Y := ⟨_, rfl⟩
      have bY2 : Below x2.heap.size x2 Y2 := by subst hY2; exact bl_one _ _
      have HA2 : Hid (∀ y : World, Below Y2.heap.size Y2 y → y.cell? ⟨x2.heap.size, 0, none⟩ = some (.string CA) ∧ y.cell? ⟨x2.heap.size, 1, none⟩ = some (.slice p1 na q1) ∧ y.cell? ⟨x2.heap.size, 2, none⟩ = some (.slice p2 ns q2)) := fun y hb => by
        refine ⟨cell_thru hb ?_, cell_thru hb ?_, cell_thru hb ?_⟩
        all_goals
          subst hY2
          exact cell_last rfl rfl
      have b12 : Below x1.heap.size x1 Y2 := hb2.trans (bY2.mono hb2.size)
      have bw2 : Below w.heap.size w Y2 := b1.trans (b12.mono b1.size)
      go_wp2_with fail
      clear hY2
      go_loopg [5, 6, 7] l (fun r av dv iv wq => ∃ (k : Nat), iv = .int .i64 k ∧ av = .int .i64 (L.sizes (os.take k)).b ∧ dv = .int .i64 (L.sizes (os.take k)).d ∧ k ≤ l ∧ l - k ≤ r ∧ Hid (Below Y2.heap.size Y2 wq))
      case atStart => exact ⟨0, rfl, rfl, rfl, Nat.zero_le _, by omega, Below.refl _ _⟩
      case round =>
        obtain ⟨k, rfl, rfl, rfl, hk, hr, HB⟩ := hrel
        by_cases hlt : k < l
        · have hw3 : Below w.heap.size w wr := bw2.trans (HB.out.mono bw2.size)
          obtain ⟨d, hd⟩ : ∃ d, os[k]? = some d := ⟨os[k]'(by omega), by simp⟩
          have hg : os.getD k noObj = d := by simp [List.getD, hd]
          rcases HV.out.cells with hx | ⟨ob, off, hA, hc⟩
          · omega
          obtain ⟨s, hC, hO⟩ := hc k hlt
          rw [hg] at hC hO
          have hC := hC.below hw3
          have hmd : d.may = true := HOK.out.1.2 d (List.mem_of_getElem? hd)
          have hrn : s.l3 ≤ 8000 := by have := (may_sizes hmd).2.2.2.1; have h3 := hO.rels.count; omega
          have hln1 : s.l1 ≤ 4096 := by have := (may_sizes hmd).2.1; have h3 := hO.ints.count; omega
          have hah := sizes_ahead hd
          have hahd := sizes_aheadD hd
          rw [hbb] at hah
          rw [hdd] at hahd
          have HKK : Hid _ := HKB.out k d hd
          have HST : Hid ((L.sizes (os.take (k + 1))).b = (L.sizes (os.take k)).b + d.code.size ∧ (L.sizes (os.take (k + 1))).d = (L.sizes (os.take k)).d + d.data.length) := by show _ ∧ _; rw [sizes_take hd]; exact ⟨rfl, rfl⟩
          have HRM : Hid _ := may_rels hmd
          have HDA : Hid ((linkD os).drop (L.sizes (os.take k)).d = d.data ++ datas (os.drop (k + 1))) := by show _ = _; rw [HOK.out.2.2.2.2.2.1]; exact (datas_at hd).2
          obtain ⟨z, hz⟩ : ∃ z, L.sizes (os.take k) = z := ⟨_, rfl⟩
          rw [hz] at hah hahd HKK HST HDA ⊢
          obtain ⟨a1, l1, c1, a2, l2, c2, a3, l3, c3⟩ := s
          obtain ⟨k0, k1, k2, k3⟩ := hC
          simp only at k1 k2 k3 hrn hln1
          subst hA
          have hin : 0 ≤ (k : Int) := by omega
          have hii : (k : Int) < l := by omega
          have HOV : Hid (OV w d ⟨a1, l1, c1, a2, l2, c2, a3, l3, c3⟩) := hO
          have hrc : d.rels.length = l3 := hO.rels.count
          have hdc : d.data.length = l1 := hO.ints.count
          rw [hdc] at hahd HST
          clear hc hg hmd hO hz
          obtain ⟨Y3, hY3⟩ : ∃ Y, wr.alloc (.cells #[.string d.code, .slice a1 l1 c1, .slice a2 l2 c2, .slice a3 l3 c3] 40) = Y := ⟨_, rfl⟩
          have bY3 : Below wr.heap.size wr Y3 := by subst hY3; exact bl_one _ _
          have HO3 : Hid (∀ y : World, Below Y3.heap.size Y3 y → y.cell? ⟨wr.heap.size, 0, none⟩ = some (.string d.code) ∧ y.cell? ⟨wr.heap.size, 1, none⟩ = some (.slice a1 l1 c1) ∧ y.cell? ⟨wr.heap.size, 3, none⟩ = some (.slice a3 l3 c3)) := fun y hb => by
            refine ⟨cell_thru hb ?_, cell_thru hb ?_, cell_thru hb ?_⟩
            all_goals
              subst hY3
              exact cell_last rfl rfl
          have B3 : Below Y2.heap.size Y2 Y3 := HB.out.trans (bY3.mono HB.out.size)
          have bw3 : Below w.heap.size w Y3 := bw2.trans (B3.mono bw2.size)
          obtain ⟨bo, hbo⟩ : ∃ bo, wr.heap.size = bo := ⟨_, rfl⟩
          rw [hbo] at HO3
          go_wp2_with fail
          clear hY3
          have HK1 : Hid (∀ y : World, Below Y3.heap.size Y3 y → (fun w' : World => (w'.cell? ⟨bo, 0, none⟩ = some (.string d.code) ∧ w'.cell? ⟨bo, 1, none⟩ = some (.slice a1 l1 c1)) ∧ (w'.cell? ⟨x2.heap.size, 0, none⟩ = some (.string CA) ∧ w'.cell? ⟨x2.heap.size, 1, none⟩ = some (.slice p1 na q1))) y) := fun y hb => ⟨⟨(HO3.out y hb).1, (HO3.out y hb).2.1⟩, (HA2.out y (B3.trans (hb.mono B3.size))).1, (HA2.out y (B3.trans (hb.mono B3.size))).2.1⟩
          have hmx : maxLen = 9223372036854775807 := rfl
          go_cut [74] from 30 to 134 (fun tv wc => tv = .bool false ∧ Hid (Below Y3.heap.size Y3 wc))
          case first =>
            obtain ⟨sb, hsb, HSB⟩ : ∃ sb : Nat, IntKind.i64.wrap ((z.b : Int) + d.code.size) = (sb : Int) ∧ Hid (sb = z.b + d.code.size) := ⟨z.b + d.code.size, by rw [IntKind.wrap_i64]; omega, rfl⟩
            obtain ⟨sd, hsd, HSD⟩ : ∃ sd : Nat, IntKind.i64.wrap ((z.d : Int) + l1) = (sd : Int) ∧ Hid (sd = z.d + l1) := ⟨z.d + l1, by rw [IntKind.wrap_i64]; omega, rfl⟩
            have hq1' : na ≤ q1 := by
              rcases HFO.out with ⟨-, h1, h2⟩ | ⟨g, -, h1⟩
              · omega
              · exact h1
            have hsd0 := HSD.out
            have hsb0 := HSB.out
            have hc1 : ¬ (CA.size : Int) < sb := by omega
            have hc2 : ¬ (na : Int) < sd := by omega
            have hc3 : (sd : Int) ≤ q1 := by omega
            have hc4 : (0 : Int) ≤ z.d := by omega
            have hc5 : (z.d : Int) ≤ sd := by omega
            have hc6 : (0 : Int) ≤ sd := by omega
            have hc7 : sd - z.d = l1 := by omega
            have HD2 : Hid (IntsV Y3 a1 l1 c1 d.data) := HOV.out.ints.below bw3
            have HI3 : Hid (IntsV Y3 p1 na q1 (linkD os)) := by
              have h1 := HI2.out.below bY2
              exact h1.below B3
            clear hsd0 hsb0
            rcases HFO.out with ⟨hp, hn0, hq0⟩ | ⟨g, hp, hnq⟩
            · subst hp
              have HD1 : Hid (IntsV Y3 none l1 (q1 - z.d) d.data) := by
                have : d.data = [] := List.eq_nil_of_length_eq_zero (by omega)
                rw [this]
                exact ⟨by simp; omega, by simp, fun _ => ⟨by omega, by omega⟩, .inl (by omega)⟩
              have HN0 : Hid _ := hn0
              have HQ0 : Hid _ := hq0
              clear hn0 hq0
              go_region_held3 (fun w' : World => (w'.cell? ⟨bo, 0, none⟩ = some (.string d.code) ∧ w'.cell? ⟨bo, 1, none⟩ = some (.slice a1 l1 c1)) ∧ (w'.cell? ⟨x2.heap.size, 0, none⟩ = some (.string CA) ∧ w'.cell? ⟨x2.heap.size, 1, none⟩ = some (.slice none na q1))) (first | (exact HK1.out _ (Below.refl _ _).drew) | (exact HK1.out _ hB1)) (first | (go_at_call 16; refine (samedata_any (HD1.out.below (Below.refl _ _).drew) (HD2.out.below (Below.refl _ _).drew) (by omega) true (by simp)).mono ?_; rintro e y1 ⟨rfl, hb1⟩; have hB1 : Below Y3.heap.size Y3 y1 := (Below.refl _ _).drew.trans hb1))
              go_wp2_with fail
              go_meet
              case rel => exact ⟨rfl, hB1⟩
            · subst hp
              rcases Classical.em (q1 = z.d) with heq | heq
              · have hE : (q1 = z.d) = True := eq_true heq
                have HD1 : Hid (IntsV Y3 (some ⟨g, 0, none⟩) l1 (q1 - z.d) d.data) := by
                  have : d.data = [] := List.eq_nil_of_length_eq_zero (by omega)
                  rw [this]
                  exact ⟨by simp; omega, by simp, fun e => (by cases e), .inl (by omega)⟩
                have HEQ : Hid _ := heq
                clear heq
                go_region_held3 (fun w' : World => (w'.cell? ⟨bo, 0, none⟩ = some (.string d.code) ∧ w'.cell? ⟨bo, 1, none⟩ = some (.slice a1 l1 c1)) ∧ (w'.cell? ⟨x2.heap.size, 0, none⟩ = some (.string CA) ∧ w'.cell? ⟨x2.heap.size, 1, none⟩ = some (.slice (some ⟨g, 0, none⟩) na q1))) (first | (exact HK1.out _ (Below.refl _ _).drew) | (exact HK1.out _ hB1)) (first | (go_at_call 16; refine (samedata_any (HD1.out.below (Below.refl _ _).drew) (HD2.out.below (Below.refl _ _).drew) (by omega) true (by simp)).mono ?_; rintro e y1 ⟨rfl, hb1⟩; have hB1 : Below Y3.heap.size Y3 y1 := (Below.refl _ _).drew.trans hb1))
                go_wp2_with fail
                go_meet
                case rel => exact ⟨rfl, hB1⟩
              · have HD1 : Hid (IntsV Y3 (some ⟨g, z.d, none⟩) l1 (q1 - z.d) d.data) := by
                  have h1 := HI3.out.sub (lo := z.d) (n := l1) (by omega) hnq
                  rw [if_neg heq, HDA.out, List.take_left' hdc] at h1
                  exact h1
                go_region_held3 (fun w' : World => (w'.cell? ⟨bo, 0, none⟩ = some (.string d.code) ∧ w'.cell? ⟨bo, 1, none⟩ = some (.slice a1 l1 c1)) ∧ (w'.cell? ⟨x2.heap.size, 0, none⟩ = some (.string CA) ∧ w'.cell? ⟨x2.heap.size, 1, none⟩ = some (.slice (some ⟨g, 0, none⟩) na q1))) (first | (exact HK1.out _ (Below.refl _ _).drew) | (exact HK1.out _ hB1)) (first | (go_at_call 16; refine (samedata_any (HD1.out.below (Below.refl _ _).drew) (HD2.out.below (Below.refl _ _).drew) (by omega) true (by simp)).mono ?_; rintro e y1 ⟨rfl, hb1⟩; have hB1 : Below Y3.heap.size Y3 y1 := (Below.refl _ _).drew.trans hb1))
                go_wp2_with fail
                go_meet
                case rel => exact ⟨rfl, hB1⟩
          case rest =>
            obtain ⟨rfl, HBc⟩ := hcut
            have hN : d.code.size ≤ 65536 := by omega
            obtain ⟨N, hNN⟩ : ∃ N, d.code.size = N := ⟨_, rfl⟩
            rw [hNN] at hN
            have hmk := makeBool wc N hN
            obtain ⟨Z, hZ⟩ : ∃ Z, wc.alloc (.cells (List.replicate N (Value.bool false)).toArray 4) = Z := ⟨_, rfl⟩
            rw [hZ] at hmk
            have HM0 : Hid (MK wc Z wc.heap.size N d.rels 0 0) := by subst hZ; exact MK.start _ _ _
            have B4 : Below Y2.heap.size Y2 wc := B3.trans (HBc.out.mono B3.size)
            have HO4 : Hid (∀ y : World, Below wc.heap.size wc y → y.cell? ⟨bo, 0, none⟩ = some (.string d.code) ∧ y.cell? ⟨bo, 1, none⟩ = some (.slice a1 l1 c1) ∧ y.cell? ⟨bo, 3, none⟩ = some (.slice a3 l3 c3)) := fun y hb => HO3.out y (HBc.out.trans (hb.mono HBc.out.size))
            have HA4 : Hid (∀ y : World, Below wc.heap.size wc y → y.cell? ⟨x2.heap.size, 0, none⟩ = some (.string CA) ∧ y.cell? ⟨x2.heap.size, 1, none⟩ = some (.slice p1 na q1)) := fun y hb => ⟨(HA2.out y (B4.trans (hb.mono B4.size))).1, (HA2.out y (B4.trans (hb.mono B4.size))).2.1⟩
            have bw4 : Below w.heap.size w wc := bw2.trans (B4.mono bw2.size)
            have o0 := (HO4.out wc (Below.refl _ _)).1
            have oz3 := (HO4.out Z HM0.out.low).2.2
            go_wp2_with fail
            obtain ⟨gb, hgb⟩ : ∃ gb, wc.heap.size = gb := ⟨_, rfl⟩
            rw [hgb] at HM0
            rw [hgb]
            clear hmk hZ o0 oz3 HK1
            generalize wr = U at *
            go_loopg [10] l3 (fun r iv wq => ∃ (i : Nat), iv = .int .i64 i ∧ i ≤ l3 ∧ l3 - i ≤ r ∧ Hid (MK wc wq gb N d.rels i 0))
            case atStart => exact ⟨0, rfl, Nat.zero_le _, by omega, HM0.out⟩
            case round =>
              obtain ⟨i, rfl, hi, hr2, HM⟩ := hrel
              have u3 := (HO4.out wr HM.out.low).2.2
              by_cases hil : i < l3
              · have hii2 : (i : Int) < l3 := by omega
                have hin2 : 0 ≤ (i : Int) := by omega
                rcases HOV.out.rels.cells with hx | ⟨rb, ro, hA3, hc3⟩
                · simp only at hx
                  omega
                simp only at hA3 hc3
                obtain ⟨m0, -, -, -⟩ := hc3 i hil
                obtain ⟨ry, hry⟩ : ∃ ry, d.rels[i]? = some ry := ⟨d.rels[i]'(by omega), by simp⟩
                have hge : d.rels.getD i noRel = ry := by simp [List.getD, hry]
                rw [hge] at m0
                have hrr := HRM.out ry (List.mem_of_getElem? hry)
                have HRY : Hid _ := hry
                obtain ⟨pn, hpn⟩ : ∃ pn : Nat, ry.pos = pn := ⟨ry.pos.toNat, by omega⟩
                rw [hpn] at m0
                have hp4 : pn + 4 ≤ N := by omega
                have HPN : Hid _ := hpn
                have hrw : rb < w.heap.size := World.block_lt_of_cell? w ⟨rb, ro + i * 4, none⟩ m0
                have HM0' : Hid (∀ y : World, Below wc.heap.size wc y → y.cell? ⟨rb, ro + i * 4, none⟩ = some (.int .i64 pn)) := fun y hb => cell_thru (bw4.trans (hb.mono bw4.size)) m0
                subst hA3
                clear hc3 hge hry hrr hpn m0
                go_wp2_with fail
                clear u3
                generalize wr = V at *
                go_loopg [11] 4 (fun r iv wq => ∃ (j : Nat), iv = .int .i64 j ∧ j ≤ 4 ∧ 4 - j ≤ r ∧ Hid (MK wc wq gb N d.rels i j))
                case atStart => exact ⟨0, rfl, by omega, by omega, HM.out⟩
                case round =>
                  obtain ⟨j, rfl, hj, hr3, HMj⟩ := hrel
                  by_cases hj4 : j < 4
                  · have v3 := (HO4.out wr HMj.out.low).2.2
                    have n0 := HM0'.out wr HMj.out.low
                    have hjj : (j : Int) < 4 := by omega
                    obtain ⟨⟨bb, hbb'⟩, hfz⟩ := HMj.out.cell (p := pn + j) (by omega)
                    have hx1 : (0 : Int) ≤ (pn : Int) + j := by omega
                    have hx2 : (pn : Int) + j < N := by omega
                    have hx3 : ((pn : Int) + j).toNat = pn + j := by omega
                    have HMn : Hid (MK wc (wr.setCell ⟨gb, pn + j, none⟩ (.bool true)) gb N d.rels i (j + 1)) := HMj.out.mark HRY.out (by rw [HPN.out]; simp) (by omega)
                    go_wp2_with fail
                    go_roundg (4 - (j + 1))
                    case measure => omega
                    case rel => exact ⟨j + 1, by go_num, by omega, Nat.le_refl _, HMn.out⟩
                  · obtain rfl : j = 4 := by omega
                    have HMn : Hid (MK wc wr gb N d.rels (i + 1) 0) := HMj.out.next
                    go_wp2_with fail
                    go_roundg (l3 - (i + 1))
                    case measure => omega
                    case rel => exact ⟨i + 1, by go_num, by omega, Nat.le_refl _, HMn.out⟩
              · obtain rfl : i = l3 := by omega
                have hii2 : ¬ (i : Int) < i := by omega
                rw [← hrc] at HM
                generalize wr = V at *
                go_wp2_with fail
                go_loopg [12] N (fun r iv wq => ∃ (q : Nat), iv = .int .i64 q ∧ q ≤ N ∧ N - q ≤ r ∧ Hid (MK wc wq gb N d.rels d.rels.length 0))
                case atStart => exact ⟨0, rfl, by omega, by omega, HM.out⟩
                case round =>
                  obtain ⟨q, rfl, hq, hr3, HMq⟩ := hrel
                  have v0 := (HO4.out wr HMq.out.low).1
                  have v1 := (HO4.out wr HMq.out.low).2.1
                  by_cases hqN : q < N
                  · have y0 := (HA4.out wr HMq.out.low).1
                    obtain ⟨⟨bb, hbb'⟩, -⟩ := HMq.out.cell (p := q) hqN
                    have hx0 : (0 : Int) ≤ q := by omega
                    have hx1 : (q : Int) < N := by omega
                    have hx2 : (0 : Int) ≤ (z.b : Int) + q := by omega
                    have hx3 : (z.b : Int) + q < CA.size := by omega
                    have hx4 : ((z.b : Int) + q).toNat = z.b + q := by omega
                    have hlt1 : z.b + q < CA.size := by omega
                    have hlt2 : q < d.code.size := by omega
                    have HMd : Hid (MK wc wr.drew gb N d.rels d.rels.length 0) := HMq.out.below (Below.refl _ _).drew
                    cases bb with
                    | true =>
                      go_wp2_with fail
                      go_region
                      go_wp2_with fail
                      go_roundg (N - (q + 1))
                      case measure => omega
                      case rel => exact ⟨q + 1, by go_num, by omega, Nat.le_refl _, HMd.out⟩
                    | false =>
                      have hby := HKK.out q hlt2 (HMq.out.out hqN (fun r hr => (HRM.out r hr).2.1) hbb')
                      have hby2 : CA[z.b + q] = d.code[q] := by
                        have e1 : CA.data.toList[z.b + q]? = some CA[z.b + q] := by
                          rw [List.getElem?_eq_getElem (by simpa using hlt1)]
                          rfl
                        have e2 : d.code.data.toList[q]? = some d.code[q] := by
                          rw [List.getElem?_eq_getElem (by simpa using hlt2)]
                          rfl
                        rw [e1, e2] at hby
                        exact Option.some.inj hby
                      obtain ⟨cc, hcc⟩ : ∃ cc, d.code[q].toNat = cc := ⟨_, rfl⟩
                      have hcc2 : CA[z.b + q].toNat = cc := by rw [hby2]; exact hcc
                      clear hby hby2
                      go_wp2_with fail
                      go_region
                      go_wp2_with fail
                      go_roundg (N - (q + 1))
                      case measure => omega
                      case rel => exact ⟨q + 1, by go_num, by omega, Nat.le_refl _, HMd.out⟩
                  · obtain rfl : q = N := by omega
                    have hqq : ¬ (q : Int) < q := by omega
                    have HBB : Hid (Below Y2.heap.size Y2 wr) := B4.trans (HMq.out.low.mono B4.size)
                    have hs1 : (z.b : Int) + q ≤ 65536 := by omega
                    have hs2 : (z.d : Int) + l1 ≤ 65536 := by omega
                    have HST2 : Hid ((L.sizes (os.take (k + 1))).b = z.b + q ∧ (L.sizes (os.take (k + 1))).d = z.d + l1) := by
                      have := HST.out
                      rw [hNN] at this
                      exact this
                    go_wp2_with fail
                    go_roundg (l - (k + 1))
                    case measure => omega
                    case rel => exact ⟨k + 1, by go_num, by rw [HST2.out.1]; go_num, by rw [HST2.out.2]; go_num, by omega, Nat.le_refl _, HBB.out⟩
        · obtain rfl : k = l := by omega
          have hii : ¬ (k : Int) < k := by omega
          have bw3 : Below w.heap.size w wr := bw2.trans (HB.out.mono bw2.size)
          have y0 := (HA2.out wr HB.out).1
          have y1 := (HA2.out wr HB.out).2.1
          have hfull : os.take k = os := List.take_of_length_le (by omega)
          rw [hfull, hbb, hdd]
          go_wp2_with (go_at_call 10; refine (live_any _).mono ?_; rintro e y ⟨rfl, hb⟩)
          go_ret
          exact ⟨rfl, bw3.trans (hb.mono bw3.size)⟩
    · obtain ⟨c1, c2, c3⟩ := link_bad h0
      obtain ⟨EA, hEA⟩ : ∃ EA, linkE os = EA := ⟨_, rfl⟩
      rw [c2] at hI2
      rw [c3] at hS2
      rw [hEA, c1, c2, c3]
      rw [hEA] at h0
      have hne : (EA == 0) = false := by simpa using h0
      obtain ⟨Y2, hY2⟩ : ∃ Y, x2.alloc (.cells #[.string { data := #[] }, .slice p1 0 q1, .slice p2 0 q2] 29) = Y := ⟨_, rfl⟩
      have bY2 : Below x2.heap.size x2 Y2 := by subst hY2; exact bl_one _ _
      have y0 : Y2.cell? ⟨x2.heap.size, 0, none⟩ = some (.string { data := #[] }) := by subst hY2; exact cell_last rfl rfl
      have y1 : Y2.cell? ⟨x2.heap.size, 1, none⟩ = some (.slice p1 0 q1) := by subst hY2; exact cell_last rfl rfl
      have y2 : Y2.cell? ⟨x2.heap.size, 2, none⟩ = some (.slice p2 0 q2) := by subst hY2; exact cell_last rfl rfl
      have bw4 : Below w.heap.size w Y2 := bw2'.trans (bY2.mono bw2'.size)
      have HI3 : Hid (IntsV Y2 p1 0 q1 []) := hI2.below bY2
      have HS3 : Hid (SymsV Y2 p2 0 q2 []) := hS2.below bY2
      clear hEA hI2 hS2 hform h0 c1 c2 c3
      go_wp2_with (first | (go_at_call 14; refine (sameI_any HI3.out HS3.out (ints_none _) (syms_none _) (by decide) (by decide)).mono ?_; rintro e y ⟨rfl, hb⟩) | (go_at_call 10; refine (live_any _).mono ?_; rintro e y3 ⟨rfl, hb3⟩))
      go_ret
      have h5 := bw4.trans (hb.mono bw4.size)
      exact ⟨rfl, h5.trans (hb3.mono h5.size)⟩
end Go.Proofs.Ytaoklmphcgigeaa

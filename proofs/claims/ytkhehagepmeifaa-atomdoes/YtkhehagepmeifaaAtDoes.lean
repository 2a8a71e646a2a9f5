/- Do and Check answer what the document does, and leave what they were given as it was. -/
import Derived.Test.YtkhehagepmeifaaAtRefDo
import Derived.Test.YtkhehagepmeifaaAtLive
import Derived.Test.YtkhehagepmeifaaAtOpen
namespace Go.Proofs.Ytkhehagepmeifaa
open Go.RowKit Go.Maps Go.Lib
set_option linter.unusedVariables false
set_option linter.unusedSimpArgs false

/-- Objects that may be written on: where their owners and items lie. -/
structure Shp (B g n : Nat) (w : World) : Prop where
  low : B ≤ g
  fr : ∀ j, w.frozen? ⟨g, j, none⟩ = false
  cell : ∀ i, i < n → (∃ z, w.cell? ⟨g, i * 4 + 2, none⟩ = some (.int .i64 z)) ∧ ∃ a1 l1 c1, w.cell? ⟨g, i * 4 + 3, none⟩ = some (.slice a1 l1 c1) ∧ l1 ≤ maxLen ∧ (l1 = 0 ∨ ∃ b off, a1 = some ⟨b, off, none⟩ ∧ B ≤ b ∧ b ≠ g ∧ (∀ j, w.frozen? ⟨b, j, none⟩ = false) ∧ ∀ k, k < l1 → ∃ z, w.cell? ⟨b, off + k, none⟩ = some (.int .i64 z))
theorem Res.shp {B : Nat} {w : World} {g n : Nat} {os : List At} (h : Res B w g n os) (hB : B ≤ g) : Shp B g n w := by
  obtain ⟨xs, hx⟩ := h.row
  refine ⟨hB, fun j => hx.frozenAt j, fun i hi => ?_⟩
  obtain ⟨c0, c1, c2, a1, l1, c1', c3, V, N⟩ := h.cell i hi
  have hr := V.room
  refine ⟨⟨_, c2⟩, a1, l1, c1', c3, by omega, ?_⟩
  rcases V.cells with h0 | ⟨b, off, ha, hc⟩
  · exact .inl h0
  · exact .inr ⟨b, off, ha, (N _ ha).1, (N _ ha).2.1, (N _ ha).2.2, fun k hk => ⟨_, hc k hk⟩⟩
theorem Shp.below {B g n : Nat} {w w' : World} (h : Shp B g n w) (hb : Below w.heap.size w w') (hg : g < w.heap.size) : Shp B g n w' := by
  refine ⟨h.low, fun j => (hb.frozen (p := ⟨g, j, none⟩) hg).trans (h.fr j), fun i hi => ?_⟩
  obtain ⟨⟨z, c2⟩, a1, l1, c1, c3, hm, hc⟩ := h.cell i hi
  refine ⟨⟨z, cell_thru hb c2⟩, a1, l1, c1, cell_thru hb c3, hm, ?_⟩
  rcases hc with h0 | ⟨b, off, ha, h1, h2, h3, h4⟩
  · exact .inl h0
  · by_cases h0 : l1 = 0
    · exact .inl h0
    · obtain ⟨z0, hz0⟩ := h4 0 (by omega)
      have hbl := World.block_lt_of_cell? w ⟨b, off + 0, none⟩ hz0
      exact .inr ⟨b, off, ha, h1, h2, fun j => (hb.frozen (p := ⟨b, j, none⟩) hbl).trans (h3 j), fun k hk => by obtain ⟨z, hz⟩ := h4 k hk; exact ⟨z, cell_thru hb hz⟩⟩
theorem int_set {w : World} {p q : Addr} {z : Int} (h : ∃ y, w.cell? q = some (.int .i64 y)) : ∃ y, (w.setCell p (.int .i64 z)).cell? q = some (.int .i64 y) := by
  obtain ⟨y, h⟩ := h
  by_cases e : p = q
  · subst e
    exact ⟨z, World.cell?_setCell_same' _ _ _ (by rw [h]; rfl)⟩
  · exact ⟨y, by rw [World.cell?_setCell_other _ _ _ _ e]; exact h⟩
theorem Shp.set {B g n : Nat} {w : World} (h : Shp B g n w) (p : Addr) (hp : p.block = g → ∃ i, p.off = i * 4 + 2) (z : Int) : Shp B g n (w.setCell p (.int .i64 z)) := by
  refine ⟨h.low, fun j => by rw [World.frozen?_setCell]; exact h.fr j, fun i hi => ?_⟩
  obtain ⟨c2, a1, l1, c1, c3, hm, hc⟩ := h.cell i hi
  refine ⟨int_set c2, a1, l1, c1, ?_, hm, ?_⟩
  · rw [World.cell?_setCell_other _ _ _ _ (fun e => by
      subst e
      obtain ⟨m, hm⟩ := hp rfl
      simp at hm
      omega)]
    exact c3
  · rcases hc with h0 | ⟨b, off, ha, h1, h2, h3, h4⟩
    · exact .inl h0
    · exact .inr ⟨b, off, ha, h1, h2, fun j => by rw [World.frozen?_setCell]; exact h3 j, fun k hk => int_set (h4 k hk)⟩

set_option maxRecDepth 100000 in
set_option maxHeartbeats 8000000 in
theorem does_any {w : World} {a : Option Addr} {l c : Nat} {os : List At} (h : AtsV w a l c os) (hi : ∀ x ∈ os, x.items.length * 8 ≤ 140737488355328) (s : Stp) (hs : (Lit.int .i64 s.arg).wf = true) :
    Calls Try.prog 3 #[.slice a l c, .agg #[.int .i64 s.thread, .int .i64 s.doo, .string s.name, .int .i64 s.arg]] w fun e w' => e = .returned (.bool true) ∧ Below w.heap.size w w' := by
  obtain ⟨st, sd, sn, sa⟩ := s
  simp only at hs ⊢
  have HV : Hid _ := h
  have HI : Hid _ := hi
  have HS : Hid _ := hs
  clear h hi hs
  obtain ⟨W1, hW1⟩ : ∃ W1, w.alloc (.cells #[.int .i64 st, .int .i64 sd, .string sn, .int .i64 sa] 24) = W1 := ⟨_, rfl⟩
  have b1 : Below w.heap.size w W1 := by subst hW1; exact bl_one _ _
  have HB1 : Hid _ := b1
  have g0 : W1.cell? ⟨w.heap.size, 0, none⟩ = some (.int .i64 st) := by subst hW1; exact cell_last rfl rfl
  have g1 : W1.cell? ⟨w.heap.size, 1, none⟩ = some (.int .i64 sd) := by subst hW1; exact cell_last rfl rfl
  have g2 : W1.cell? ⟨w.heap.size, 2, none⟩ = some (.string sn) := by subst hW1; exact cell_last rfl rfl
  have g3 : W1.cell? ⟨w.heap.size, 3, none⟩ = some (.int .i64 sa) := by subst hW1; exact cell_last rfl rfl
  by_cases h60 : l ≤ 60
  rotate_left
  · clear g0 g1 g2 g3 b1
    go_enter Try.func3, Try.ntmps3
    go_wp2_with fail
    refine (few_any _).mono ?_
    rintro e y ⟨rfl, rfl⟩
    rw [decide_eq_false h60]
    go_wp2_with fail
    refine (live_any _).mono ?_
    rintro e y7 ⟨rfl, g7⟩
    have B7 : Hid _ := HB1.out.trans (g7.mono HB1.out.size)
    clear g7
    go_wp2
    go_ret
    exact ⟨rfl, B7.out⟩
  have HV1 : Hid _ := HV.out.below b1
  clear b1
  go_enter Try.func3, Try.ntmps3
  go_wp2_with fail
  refine (few_any _).mono ?_
  rintro e y ⟨rfl, rfl⟩
  rw [decide_eq_true h60]
  go_wp2_with fail
  refine (rcopy_any HV1.out (by omega) HI.out).mono ?_
  rintro e y1 ⟨⟨lv, rfl, vs, hN⟩, hb1⟩
  obtain ⟨ao, co, hlv, hA1⟩ : ∃ ao co, lv = .slice ao l co ∧ AtsV y1 ao l co os := by
    have h2 := HV.out.count
    subst h2
    exact hN.ats HV.out.fits
  subst hlv
  have A1 : Hid _ := hA1
  have V1 : Hid _ := HV1.out.below hb1
  have B1 : Hid (Below w.heap.size w y1) := HB1.out.trans (hb1.mono HB1.out.size)
  have p0 := cell_thru hb1 g0
  have p1 := cell_thru hb1 g1
  have p2 := cell_thru hb1 g2
  have p3 := cell_thru hb1 g3
  clear hN hA1 hb1 g0 g1 g2 g3
  go_wp2_with fail
  refine (do_any A1.out (by omega) HI.out st sd sn sa HS.out).mono ?_
  rintro e y2 ⟨rfl, hr2, hb2⟩
  have R2 : Hid _ := hr2
  have HFT : Hid _ := doA_fit (th := st) (d := sd) (nm := sn) (arg := sa) A1.out.fits HS.out
  have D2 : Hid _ := hr2.ats HFT.out
  have A2 : Hid _ := A1.out.below hb2
  have V2 : Hid _ := V1.out.below hb2
  have B2 : Hid (Below y1.heap.size y1 y2) := hb2
  have q0 := cell_thru hb2 p0
  have q1 := cell_thru hb2 p1
  have q2 := cell_thru hb2 p2
  have q3 := cell_thru hb2 p3
  have S2 : Hid _ := hr2.shp (Nat.le_refl _)
  have G2 : Hid (y1.heap.size + 1 < y2.heap.size) := by
    obtain ⟨xs, hx⟩ := hr2.row
    exact (hx.lt _ rfl).2
  clear hr2 hb2 p0 p1 p2 p3
  go_wp2_with fail
  refine (rdo_any V2.out (by omega) HI.out st sd sn sa HS.out).mono ?_
  rintro e y3 ⟨⟨a4, c4, rfl, hA4⟩, hb3⟩
  have E3 : Hid _ := hA4
  have D3 : Hid _ := D2.out.below hb3
  have A3 : Hid _ := A2.out.below hb3
  have V3 : Hid _ := V2.out.below hb3
  have S3 : Hid _ := S2.out.below hb3 G2.out
  have G3 : Hid (y1.heap.size + 1 < y3.heap.size) := Nat.lt_of_lt_of_le G2.out hb3.size
  have B3 : Hid (Below y1.heap.size y1 y3) := B2.out.trans (hb3.mono B2.out.size)
  generalize (doA os st sd sn sa).1 = os2 at *
  generalize (doA os st sd sn sa).2.1 = n1 at *
  generalize (doA os st sd sn sa).2.2 = n2 at *
  clear hA4 hb3 q0 q1 q2 q3
  go_wp2_with fail
  refine (same_any D3.out E3.out true (by simp)).mono ?_
  rintro e y4 ⟨rfl, hb4⟩
  have A4 : Hid _ := A3.out.below hb4
  have V4 : Hid _ := V3.out.below hb4
  have S4 : Hid _ := S3.out.below hb4 G3.out
  have G4 : Hid (y1.heap.size + 1 < y4.heap.size) := Nat.lt_of_lt_of_le G3.out hb4.size
  have B4 : Hid (Below y1.heap.size y1 y4) := B3.out.trans (hb4.mono B3.out.size)
  have hd1 : (n1 != n1) = false := by simp
  have hd2 : (n2 != n2) = false := by simp
  clear hb4
  go_wp2_with fail
  refine (check_any A4.out).mono ?_
  rintro e y5 ⟨rfl, hb5⟩
  have A5 : Hid _ := A4.out.below hb5
  have V5 : Hid _ := V4.out.below hb5
  have S5 : Hid _ := S4.out.below hb5 G4.out
  have G5 : Hid (y1.heap.size + 1 < y5.heap.size) := Nat.lt_of_lt_of_le G4.out hb5.size
  have B5 : Hid (Below y1.heap.size y1 y5) := B4.out.trans (hb5.mono B4.out.size)
  obtain ⟨ck, hck⟩ : ∃ ck, (if mayAll os = true then (0 : Int) else 1) = ck := ⟨_, rfl⟩
  have HCK : Hid _ := hck
  rw [hck]
  clear hb5 hck
  go_wp2_with fail
  refine (rcheck_any V5.out).mono ?_
  rintro e y6 ⟨rfl, hb6⟩
  rw [HCK.out]
  have A6 : Hid _ := A5.out.below hb6
  have V6 : Hid _ := V5.out.below hb6
  have S6 : Hid _ := S5.out.below hb6 G5.out
  have B6 : Hid (Below y1.heap.size y1 y6) := B5.out.trans (hb6.mono B5.out.size)
  have hd3 : (ck != ck) = false := by simp
  clear hb6
  go_wp2_with fail
  go_loopg [12] l (fun r iv wq => ∃ (k : Nat), iv = .int .i64 k ∧ k ≤ l ∧ l - k ≤ r ∧ Hid (Shp (y1.heap.size + 1) (y1.heap.size + 1) l wq) ∧ Hid (Below y1.heap.size y1 wq))
  case atStart => exact ⟨0, rfl, Nat.zero_le _, by omega, S6.out, B6.out⟩
  case round =>
    obtain ⟨k, rfl, hk, hr, HSH, HBL⟩ := hrel
    by_cases hlt : k < l
    · obtain ⟨⟨z2, t2⟩, -⟩ := HSH.out.cell k hlt
      have fz := HSH.out.fr (k * 4 + 2)
      have hii : (k : Int) < l := by omega
      have hin : 0 ≤ (k : Int) := by omega
      have S7 : Hid (Shp (y1.heap.size + 1) (y1.heap.size + 1) l (wr.setCell ⟨y1.heap.size + 1, k * 4 + 2, none⟩ (.int .i64 (-7)))) := HSH.out.set _ (fun _ => ⟨k, rfl⟩) _
      have B7 : Hid (Below y1.heap.size y1 (wr.setCell ⟨y1.heap.size + 1, k * 4 + 2, none⟩ (.int .i64 (-7)))) := HBL.out.setCell (Nat.le_succ _) _
      obtain ⟨X7, hX7⟩ : ∃ X, wr.setCell ⟨y1.heap.size + 1, k * 4 + 2, none⟩ (.int .i64 (-7)) = X := ⟨_, rfl⟩
      rw [hX7] at S7 B7
      obtain ⟨-, a1, l1, c1, u3, hm1, hit⟩ := S7.out.cell k hlt
      have hmax : maxLen = 9223372036854775807 := rfl
      clear HSH HBL
      generalize wr = wo at *
      go_wp2_with fail
      have HU3 : Hid _ := u3
      clear t2 fz u3
      go_loopg [13] l1 (fun r jv wq => ∃ (j : Nat), jv = .int .i64 j ∧ j ≤ l1 ∧ l1 - j ≤ r ∧ wq.cell? ⟨y1.heap.size + 1, k * 4 + 3, none⟩ = some (.slice a1 l1 c1) ∧ Hid (Shp (y1.heap.size + 1) (y1.heap.size + 1) l wq) ∧ Hid (Below y1.heap.size y1 wq))
      case atStart => exact ⟨0, rfl, Nat.zero_le _, by omega, HU3.out, S7.out, B7.out⟩
      case round =>
        obtain ⟨j, rfl, hj, hr2, u3, HSJ, HBJ⟩ := hrel
        by_cases hltj : j < l1
        · obtain ⟨-, a1', l1', c1', u3', hm1', hit'⟩ := HSJ.out.cell k hlt
          obtain ⟨rfl, rfl, rfl⟩ : a1' = a1 ∧ l1' = l1 ∧ c1' = c1 := by
            have e := u3'.symm.trans u3
            simp at e
            exact e
          rcases hit' with h0 | ⟨bi, oi, hai, hbi, hbg, hfi, hci⟩
          · omega
          obtain ⟨zj, tj⟩ := hci j hltj
          have fj := hfi (oi + j)
          have S8 : Hid (Shp (y1.heap.size + 1) (y1.heap.size + 1) l (wr.setCell ⟨bi, oi + j, none⟩ (.int .i64 (-7)))) := HSJ.out.set _ (fun e => absurd e hbg) _
          have B8 : Hid (Below y1.heap.size y1 (wr.setCell ⟨bi, oi + j, none⟩ (.int .i64 (-7)))) := HBJ.out.setCell (by show y1.heap.size ≤ bi; omega) _
          have U8 : Hid ((wr.setCell ⟨bi, oi + j, none⟩ (.int .i64 (-7))).cell? ⟨y1.heap.size + 1, k * 4 + 3, none⟩ = some (.slice a1' l1' c1')) := (World.cell?_setCell_far _ _ _ _ hbg).trans u3
          subst hai
          have hji : (j : Int) < l1' := by omega
          have hjn : 0 ≤ (j : Int) := by omega
          clear u3' hci hfi hit
          go_wp2_with fail
          go_roundg (l1' - (j + 1))
          case measure => omega
          case rel => exact ⟨j + 1, by first | rfl | (congr 1; omega), by omega, Nat.le_refl _, U8.out, S8.out, B8.out⟩
        · obtain rfl : j = l1 := by omega
          have hji : ¬ (j : Int) < j := by omega
          go_wp2_with fail
          go_roundg (l - (k + 1))
          case measure => omega
          case rel => exact ⟨k + 1, by first | rfl | (congr 1; omega), by omega, Nat.le_refl _, HSJ.out, HBJ.out⟩
    · have hii : ¬ (k : Int) < l := by omega
      have A9 : Hid _ := A1.out.below HBL.out
      have V9 : Hid _ := V1.out.below HBL.out
      have B9 : Hid (Below w.heap.size w wr) := B1.out.trans (HBL.out.mono B1.out.size)
      go_wp2_with fail
      refine (same_any A9.out V9.out true (by simp)).mono ?_
      rintro e z6 ⟨rfl, g6⟩
      have BA : Hid _ := B9.out.trans (g6.mono B9.out.size)
      clear g6
      go_wp2_with fail
      refine (live_any _).mono ?_
      rintro e z7 ⟨rfl, g7⟩
      have BB : Hid _ := BA.out.trans (g7.mono BA.out.size)
      clear g7
      go_wp2
      go_ret
      exact ⟨rfl, BB.out⟩
end Go.Proofs.Ytkhehagepmeifaa

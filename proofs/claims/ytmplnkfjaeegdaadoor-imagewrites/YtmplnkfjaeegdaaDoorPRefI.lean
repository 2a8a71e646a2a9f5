/- What the document's Read comes to. -/
import Derived.Test.YtmplnkfjaeegdaaDoorPRefH
import Derived.Test.YtmplnkfjaeegdaaDoorPRefG
import Derived.Test.YtmplnkfjaeegdaaDoorPImC
namespace Go.Proofs.YtmplnkfjaeegdaaDoor
set_option maxRecDepth 100000
open Go.RowKit Go.Maps Go.Lib
set_option linter.unusedVariables false
set_option linter.unusedSimpArgs false

theorem imgOf {B : Nat} {x : World} {a1 a2 : Option Addr} {l1 c1 l2 c2 : Nat} {m : ImgD} (h : ObjF B x (.agg #[.string m.code, .slice a1 l1 c1, .slice a2 l2 c2, .slice none 0 0]) m.obj) : ImgV x (.agg #[.string m.code, .slice a1 l1 c1, .slice a2 l2 c2]) m := by
  obtain ⟨b1, m1, d1, b2, m2, d2, b3, m3, d3, hve, hcs, V1, V2, V3⟩ := h.toV.form
  simp [ImgD.obj] at hve
  obtain ⟨⟨rfl, rfl, rfl⟩, ⟨rfl, rfl, rfl⟩, -⟩ := hve
  exact ⟨⟨_, _, _, _, _, _, rfl, hcs, V1, V2⟩⟩

theorem grown_below' {w x : World} {B br : Nat} (h : w.grownBy x (some br)) (hB : w.heap.size ≤ br) : Below w.heap.size w x := grown_toBelow h (Nat.le_refl _) hB

set_option maxHeartbeats 16000000 in
theorem rreadI_any (s : ByteArray) (hs : s.size ≤ maxLen) (w : World) :
    Calls Tryd.prog 18 #[.string s] w fun e w' => RdIs w w' e s := by
  have hsz : s.size ≤ 9223372036854775807 := by unfold maxLen at hs; omega
  obtain ⟨W1, hW1⟩ : ∃ W1, w.alloc (.cells #[.string { data := #[] }, .slice none 0 0, .slice none 0 0] 25) = W1 := ⟨_, rfl⟩
  have s1 : W1.heap.size = w.heap.size + 1 := by subst hW1; simp
  have b1 : Below w.heap.size w W1 := by subst hW1; exact bl_one _ _
  obtain ⟨W2, hW2⟩ : ∃ W2, W1.alloc (.cells #[.string s, .int .i64 0, .bool false] 77) = W2 := ⟨_, rfl⟩
  have s2 : W2.heap.size = w.heap.size + 1 + 1 := by subst hW2; simp; omega
  have b2 : Below W1.heap.size W1 W2 := by subst hW2; exact bl_one _ _
  obtain ⟨W3, hW3⟩ : ∃ W3, W2.alloc (.cells #[.string { data := #[] }, .slice none 0 0, .slice none 0 0] 25) = W3 := ⟨_, rfl⟩
  have s3 : W3.heap.size = w.heap.size + 1 + 1 + 1 := by subst hW3; simp; omega
  have b3 : Below W2.heap.size W2 W3 := by subst hW3; exact bl_one _ _
  have HBL : Hid (Below w.heap.size w W3) := (b1.trans (b2.mono (by omega))).trans (b3.mono (by omega))
  have HRX : Hid (RX W3 (w.heap.size + 1) s 0 false) := by
    refine ⟨cell_thru b3 ?_, cell_thru b3 ?_, cell_thru b3 ?_, fun o => ?_, Nat.zero_le _, hs⟩
    · subst hW2; exact cell_last s1.symm rfl
    · subst hW2; exact cell_last s1.symm rfl
    · subst hW2; exact cell_last s1.symm rfl
    · rw [b3.frozen (p := ⟨w.heap.size + 1, o, none⟩) (by show w.heap.size + 1 < _; omega)]
      subst hW2; exact World.frozen?_alloc_at _ _ _ _ s1.symm
  have HC0 : Hid (Cells W3 w.heap.size [.string { data := #[] }, .slice none 0 0, .slice none 0 0]) := fun j u hu => cell_thru b3 (cell_thru b2 (by subst hW1; exact cell_last rfl (by simpa using hu)))
  have HCO : Hid (Cells W3 (w.heap.size + 1 + 1) [.string { data := #[] }, .slice none 0 0, .slice none 0 0]) := fun j u hu => by subst hW3; exact cell_last s2.symm (by simpa using hu)
  have HZ0 : Hid (∀ o, W3.frozen? ⟨w.heap.size, o, none⟩ = false) := fun o => by
    rw [b3.frozen (p := ⟨w.heap.size, o, none⟩) (by show w.heap.size < _; omega), b2.frozen (p := ⟨w.heap.size, o, none⟩) (by show w.heap.size < _; omega)]
    subst hW1; exact World.frozen?_alloc_at _ _ _ _ rfl
  have HZO : Hid (∀ o, W3.frozen? ⟨w.heap.size + 1 + 1, o, none⟩ = false) := fun o => by subst hW3; exact World.frozen?_alloc_at _ _ _ _ s2.symm
  have HFS : Hid (∀ {y : World} {j : Nat} {b : Bool} {rs : List Row}, FS W3 W3.heap.size y (w.heap.size + 1) s j b rs [] → FS w W3.heap.size y (w.heap.size + 1) s j b rs [(w.heap.size + 1 + 1, [.string { data := #[] }, .slice none 0 0, .slice none 0 0]), (w.heap.size, [.string { data := #[] }, .slice none 0 0, .slice none 0 0])]) := fun {y j b rs} F => by
    have hg := F.g
    have boxes : ∀ (m : Nat) (p : Nat × List Value), ([(w.heap.size + 1 + 1, [.string { data := #[] }, .slice none 0 0, .slice none 0 0]), (w.heap.size, [.string { data := #[] }, .slice none 0 0, .slice none 0 0])] : List (Nat × List Value))[m]? = some p → (m = 0 ∧ p = (w.heap.size + 1 + 1, [.string { data := #[] }, .slice none 0 0, .slice none 0 0])) ∨ (m = 1 ∧ p = (w.heap.size, [.string { data := #[] }, .slice none 0 0, .slice none 0 0])) := fun m p hp => by
      match m, hp with
      | 0, hp => exact .inl ⟨rfl, by simpa using hp.symm⟩
      | 1, hp => exact .inr ⟨rfl, by simpa using hp.symm⟩
      | m + 2, hp => simp at hp
    refine { rd := F.rd, g := ⟨hg.os.trans HBL.out.os, hg.tape.trans HBL.out.tape, hg.output.trans HBL.out.output, Nat.le_trans HBL.out.size hg.size, fun k hk hne => (hg.block k (by omega) hne).trans (HBL.out.block k hk)⟩, own := fun k r hr => ?_, dis := fun k l r q hr hq hkl b hb => ?_, box := fun m p hp => ?_, far := fun m k p r hp hr => ?_, nd := fun m l p q hp hq hml => ?_, lt := F.lt, Bx := F.Bx, wB := by omega }
    · exact F.own k r hr
    · exact F.dis k l r q hr hq hkl b hb
    · rcases boxes m p hp with ⟨-, rfl⟩ | ⟨-, rfl⟩
      · exact ⟨fun j u hu => grown_cell hg (HCO.out j u hu) (by omega), fun o => grown_froz hg (by omega) (by omega) (HZO.out o), by show w.heap.size + 1 + 1 < _; have := hg.size; omega, by show w.heap.size + 1 + 1 ≠ w.heap.size + 1; omega, by show w.heap.size ≤ w.heap.size + 1 + 1; omega⟩
      · exact ⟨fun j u hu => grown_cell hg (HC0.out j u hu) (by omega), fun o => grown_froz hg (by omega) (by omega) (HZ0.out o), by show w.heap.size < _; have := hg.size; omega, by show w.heap.size ≠ w.heap.size + 1; omega, Nat.le_refl _⟩
    · intro e
      have h2 := ((F.own k r hr).lt _ e).1
      rcases boxes m p hp with ⟨-, rfl⟩ | ⟨-, rfl⟩
      · simp only at h2; omega
      · simp only at h2; omega
    · rcases boxes m p hp with ⟨h1, rfl⟩ | ⟨h1, rfl⟩
      · rcases boxes l q hq with ⟨h2, rfl⟩ | ⟨h2, rfl⟩
        · omega
        · show w.heap.size + 1 + 1 ≠ w.heap.size; omega
      · rcases boxes l q hq with ⟨h2, rfl⟩ | ⟨h2, rfl⟩
        · show w.heap.size ≠ w.heap.size + 1 + 1; omega
        · omega
  have HFB : Hid (∀ {y : World} {j : Nat}, RX y (w.heap.size + 1) s j true → W3.grownBy y (some (w.heap.size + 1)) → FS W3 W3.heap.size y (w.heap.size + 1) s j true [] []) := fun hr hg =>
    { rd := hr, g := hg, own := fun k r hk => (by simp at hk), dis := fun k l r q hk => (by simp at hk), box := fun m p hp => (by simp at hp), far := fun m k p r hp => (by simp at hp), nd := fun m l p q hp => (by simp at hp), lt := by omega, Bx := hg.size, wB := Nat.le_refl _ }
  have HW : Hid (∀ {x : World}, w.grownBy x (some (w.heap.size + 1)) → Below w.heap.size w x) := fun h => grown_below' (B := 0) h (by omega)
  clear b1 b2 b3 HC0 HCO HZ0 HZO HBL
  go_enter Tryd.func18, Tryd.ntmps18
  go_wp2_with fail
  refine (front_any HRX.out).mono ?_
  rintro e y0 (⟨code, data, syms, j6, v1, v2, hFI, rfl, hF⟩ | ⟨hnb, c, a1, l1, c1, a2, l2, c2, rfl, ⟨j, hr⟩, hg⟩)
  rotate_left
  · have HNB : Hid (rdImg s = none) := by show _ = _; rw [← rdDoc_eq]; simp only [rdDoc, hnb]
    have HS : Hid _ := HFS.out (HFB.out hr hg)
    clear hnb hr hg
    have q0 := (HS.out.box 0 _ rfl).1 0 _ rfl
    have f0 := (HS.out.box 0 _ rfl).2.1 0
    have HS : Hid (FS w W3.heap.size (y0.setCell ⟨w.heap.size + 1 + 1, 0, none⟩ (.string c)) (w.heap.size + 1) s _ true [] [(w.heap.size + 1 + 1, [.string c, .slice none 0 0, .slice none 0 0]), (w.heap.size, [.string { data := #[] }, .slice none 0 0, .slice none 0 0])]) := HS.out.put 0 (w.heap.size + 1 + 1) [.string { data := #[] }, .slice none 0 0, .slice none 0 0] rfl 0 (by simp) (.string c)
    obtain ⟨Y0, hY0⟩ : ∃ Y, y0.setCell ⟨w.heap.size + 1 + 1, 0, none⟩ (.string c) = Y := ⟨_, rfl⟩
    rw [hY0] at HS
    have q1 := (HS.out.box 0 _ rfl).1 1 _ rfl
    have f1 := (HS.out.box 0 _ rfl).2.1 1
    have HS : Hid (FS w W3.heap.size (Y0.setCell ⟨w.heap.size + 1 + 1, 1, none⟩ (.slice a1 l1 c1)) (w.heap.size + 1) s _ true [] [(w.heap.size + 1 + 1, [.string c, .slice a1 l1 c1, .slice none 0 0]), (w.heap.size, [.string { data := #[] }, .slice none 0 0, .slice none 0 0])]) := HS.out.put 0 (w.heap.size + 1 + 1) [.string c, .slice none 0 0, .slice none 0 0] rfl 1 (by simp) (.slice a1 l1 c1)
    obtain ⟨Y1, hY1⟩ : ∃ Y, Y0.setCell ⟨w.heap.size + 1 + 1, 1, none⟩ (.slice a1 l1 c1) = Y := ⟨_, rfl⟩
    rw [hY1] at HS
    have q2 := (HS.out.box 0 _ rfl).1 2 _ rfl
    have f2 := (HS.out.box 0 _ rfl).2.1 2
    have HS : Hid (FS w W3.heap.size (Y1.setCell ⟨w.heap.size + 1 + 1, 2, none⟩ (.slice a2 l2 c2)) (w.heap.size + 1) s _ true [] [(w.heap.size + 1 + 1, [.string c, .slice a1 l1 c1, .slice a2 l2 c2]), (w.heap.size, [.string { data := #[] }, .slice none 0 0, .slice none 0 0])]) := HS.out.put 0 (w.heap.size + 1 + 1) [.string c, .slice a1 l1 c1, .slice none 0 0] rfl 2 (by simp) (.slice a2 l2 c2)
    obtain ⟨Y2, hY2⟩ : ∃ Y, Y1.setCell ⟨w.heap.size + 1 + 1, 2, none⟩ (.slice a2 l2 c2) = Y := ⟨_, rfl⟩
    rw [hY2] at HS
    have e2 := HS.out.rd.c2
    have o0 := (HS.out.box 1 _ rfl).1 0 _ rfl
    have g0 := (HS.out.box 1 _ rfl).2.1 0
    have o1 := (HS.out.box 1 _ rfl).1 1 _ rfl
    have g1 := (HS.out.box 1 _ rfl).2.1 1
    have o2 := (HS.out.box 1 _ rfl).1 2 _ rfl
    have g2 := (HS.out.box 1 _ rfl).2.1 2
    have HBE : Hid _ := HW.out HS.out.g
    go_wp2
    refine bodyPost_ret (v := .tuple #[noImgV, .int .i64 9]) (by simp [results, Tryd.results18, go_sem, o0, o1, o2, noImgV]) rfl ?_
    exact ⟨.inr ⟨HNB.out, rfl⟩, ((HBE.out.setCell (Nat.le_refl _) _).setCell (Nat.le_refl _) _).setCell (Nat.le_refl _) _⟩
  obtain ⟨a1, c1, hs1⟩ : ∃ a c, v1 = .slice a data.length c := own_slice (hF.own 0 _ rfl)
  obtain ⟨a2, c2, hs2⟩ : ∃ a c, v2 = .slice a syms.length c := own_slice (hF.own 1 _ rfl)
  subst hs1
  subst hs2
  have HS : Hid (FS w W3.heap.size y0 (w.heap.size + 1) s j6 false [⟨2, 1, .slice a1 data.length c1, data.length, data.flatMap intC⟩, ⟨66, 3, .slice a2 syms.length c2, syms.length, syms.flatMap symC⟩] [(w.heap.size + 1 + 1, [.string { data := #[] }, .slice none 0 0, .slice none 0 0]), (w.heap.size, [.string { data := #[] }, .slice none 0 0, .slice none 0 0])]) := HFS.out hF
  obtain ⟨j0, n1, j1, j2, n3, j3, j4, n5, j5, h0, h1, h2, h3, h4, h5, h6⟩ := hFI
  have HBODY : Hid (rdFrontI s = some (⟨code, data, syms⟩, j6)) := by show _ = _; simp only [rdFrontI, if_true, Int.toNat_natCast, h0, h1, h2, h3, h4, h5, h6]
  have HIN : Hid _ := (front_sound HBODY.out).2.2
  clear hF h0 h1 h2 h3 h4 h5 h6
  have HOX : Hid (∀ {x : World} {i : Nat} {b : Bool} {bs : List (Nat × List Value)}, FS w W3.heap.size x (w.heap.size + 1) s i b [⟨2, 1, .slice a1 data.length c1, data.length, data.flatMap intC⟩, ⟨66, 3, .slice a2 syms.length c2, syms.length, syms.flatMap symC⟩] bs → ObjF W3.heap.size x (.agg #[.string code, .slice a1 data.length c1, .slice a2 syms.length c2, .slice none 0 0]) (ImgD.obj ⟨code, data, syms⟩)) := fun F => ⟨⟨_, _, _, rfl, F.own 0 _ rfl, F.own 1 _ rfl, World.ownsRow_nil _ _ _ _⟩, HIN.out⟩
  have q0 := (HS.out.box 0 _ rfl).1 0 _ rfl
  have f0 := (HS.out.box 0 _ rfl).2.1 0
  have HS : Hid (FS w W3.heap.size (y0.setCell ⟨w.heap.size + 1 + 1, 0, none⟩ (.string code)) (w.heap.size + 1) s _ false [⟨2, 1, .slice a1 data.length c1, data.length, data.flatMap intC⟩, ⟨66, 3, .slice a2 syms.length c2, syms.length, syms.flatMap symC⟩] [(w.heap.size + 1 + 1, [.string code, .slice none 0 0, .slice none 0 0]), (w.heap.size, [.string { data := #[] }, .slice none 0 0, .slice none 0 0])]) := HS.out.put 0 (w.heap.size + 1 + 1) [.string { data := #[] }, .slice none 0 0, .slice none 0 0] rfl 0 (by simp) (.string code)
  obtain ⟨Y0, hY0⟩ : ∃ Y, y0.setCell ⟨w.heap.size + 1 + 1, 0, none⟩ (.string code) = Y := ⟨_, rfl⟩
  rw [hY0] at HS
  have q1 := (HS.out.box 0 _ rfl).1 1 _ rfl
  have f1 := (HS.out.box 0 _ rfl).2.1 1
  have HS : Hid (FS w W3.heap.size (Y0.setCell ⟨w.heap.size + 1 + 1, 1, none⟩ (.slice a1 data.length c1)) (w.heap.size + 1) s _ false [⟨2, 1, .slice a1 data.length c1, data.length, data.flatMap intC⟩, ⟨66, 3, .slice a2 syms.length c2, syms.length, syms.flatMap symC⟩] [(w.heap.size + 1 + 1, [.string code, .slice a1 data.length c1, .slice none 0 0]), (w.heap.size, [.string { data := #[] }, .slice none 0 0, .slice none 0 0])]) := HS.out.put 0 (w.heap.size + 1 + 1) [.string code, .slice none 0 0, .slice none 0 0] rfl 1 (by simp) (.slice a1 data.length c1)
  obtain ⟨Y1, hY1⟩ : ∃ Y, Y0.setCell ⟨w.heap.size + 1 + 1, 1, none⟩ (.slice a1 data.length c1) = Y := ⟨_, rfl⟩
  rw [hY1] at HS
  have q2 := (HS.out.box 0 _ rfl).1 2 _ rfl
  have f2 := (HS.out.box 0 _ rfl).2.1 2
  have HS : Hid (FS w W3.heap.size (Y1.setCell ⟨w.heap.size + 1 + 1, 2, none⟩ (.slice a2 syms.length c2)) (w.heap.size + 1) s _ false [⟨2, 1, .slice a1 data.length c1, data.length, data.flatMap intC⟩, ⟨66, 3, .slice a2 syms.length c2, syms.length, syms.flatMap symC⟩] [(w.heap.size + 1 + 1, [.string code, .slice a1 data.length c1, .slice a2 syms.length c2]), (w.heap.size, [.string { data := #[] }, .slice none 0 0, .slice none 0 0])]) := HS.out.put 0 (w.heap.size + 1 + 1) [.string code, .slice a1 data.length c1, .slice none 0 0] rfl 2 (by simp) (.slice a2 syms.length c2)
  obtain ⟨Y2, hY2⟩ : ∃ Y, Y1.setCell ⟨w.heap.size + 1 + 1, 2, none⟩ (.slice a2 syms.length c2) = Y := ⟨_, rfl⟩
  rw [hY2] at HS
  have p0 := (HS.out.box 0 _ rfl).1 0 _ rfl
  have p1 := (HS.out.box 0 _ rfl).1 1 _ rfl
  have p2 := (HS.out.box 0 _ rfl).1 2 _ rfl
  have e1 := HS.out.rd.c1
  have e2 := HS.out.rd.c2
  have HIV : Hid (ImgV Y2 (.agg #[.string code, .slice a1 data.length c1, .slice a2 syms.length c2]) ⟨code, data, syms⟩) := imgOf (m := ⟨code, data, syms⟩) (HOX.out HS.out)
  by_cases hj : j6 = s.size
  rotate_left
  · have HNB : Hid (rdImg s = none) := by show _ = _; rw [← rdDoc_eq]; simp only [rdDoc, HBODY.out]; rw [if_neg (fun h => hj h.1)]
    have hdj : ((j6 : Int) != (s.size : Int)) = true := by simp; omega
    have o0 := (HS.out.box 1 _ rfl).1 0 _ rfl
    have g0 := (HS.out.box 1 _ rfl).2.1 0
    have o1 := (HS.out.box 1 _ rfl).1 1 _ rfl
    have g1 := (HS.out.box 1 _ rfl).2.1 1
    have o2 := (HS.out.box 1 _ rfl).1 2 _ rfl
    have g2 := (HS.out.box 1 _ rfl).2.1 2
    have HBE : Hid _ := HW.out HS.out.g
    go_wp2
    refine bodyPost_ret (v := .tuple #[noImgV, .int .i64 9]) (by simp [results, Tryd.results18, go_sem, o0, o1, o2, noImgV]) rfl ?_
    exact ⟨.inr ⟨HNB.out, rfl⟩, ((HBE.out.setCell (Nat.le_refl _) _).setCell (Nat.le_refl _) _).setCell (Nat.le_refl _) _⟩
  have hdj : ((j6 : Int) != (s.size : Int)) = false := by simp; omega
  have HJ : Hid _ := hj
  clear hj
  go_wp2_with fail
  refine (rmayI_any HIV.out).mono ?_
  rintro e Y ⟨rfl, hbY⟩
  have HS : Hid _ := HS.out.below hbY
  clear hbY p0 p1 p2 e1 e2 q0 q1 q2 f0 f1 f2 hY0 hY1 hY2
  have p0 := (HS.out.box 0 _ rfl).1 0 _ rfl
  have p1 := (HS.out.box 0 _ rfl).1 1 _ rfl
  have p2 := (HS.out.box 0 _ rfl).1 2 _ rfl
  cases hm : ImgD.may ⟨code, data, syms⟩ with
  | false =>
    have HNB : Hid (rdImg s = none) := by show _ = _; rw [← rdDoc_eq]; simp only [rdDoc, HBODY.out]; rw [if_neg (fun h => by rw [hm] at h; exact absurd h.2 (by decide))]
    clear hm
    have o0 := (HS.out.box 1 _ rfl).1 0 _ rfl
    have g0 := (HS.out.box 1 _ rfl).2.1 0
    have o1 := (HS.out.box 1 _ rfl).1 1 _ rfl
    have g1 := (HS.out.box 1 _ rfl).2.1 1
    have o2 := (HS.out.box 1 _ rfl).1 2 _ rfl
    have g2 := (HS.out.box 1 _ rfl).2.1 2
    have HBE : Hid _ := HW.out HS.out.g
    go_wp2
    refine bodyPost_ret (v := .tuple #[noImgV, .int .i64 9]) (by simp [results, Tryd.results18, go_sem, o0, o1, o2, noImgV]) rfl ?_
    exact ⟨.inr ⟨HNB.out, rfl⟩, ((HBE.out.setCell (Nat.le_refl _) _).setCell (Nat.le_refl _) _).setCell (Nat.le_refl _) _⟩
  | true =>
    have HF : Hid (rdImg s = some ⟨code, data, syms⟩) := by show _ = _; rw [← rdDoc_eq]; simp only [rdDoc, HBODY.out]; rw [if_pos ⟨HJ.out, hm⟩]
    clear hm
    have o0 := (HS.out.box 1 _ rfl).1 0 _ rfl
    have g0 := (HS.out.box 1 _ rfl).2.1 0
    have o1 := (HS.out.box 1 _ rfl).1 1 _ rfl
    have g1 := (HS.out.box 1 _ rfl).2.1 1
    have o2 := (HS.out.box 1 _ rfl).1 2 _ rfl
    have g2 := (HS.out.box 1 _ rfl).2.1 2
    have HBE : Hid _ := HW.out HS.out.g
    have HOE : Hid _ := HOX.out HS.out
    have hl0 : w.heap.size < W3.heap.size := by omega
    go_wp2
    refine bodyPost_ret (v := .tuple #[.agg #[.string code, .slice a1 data.length c1, .slice a2 syms.length c2], .int .i64 0]) (by simp [results, Tryd.results18, go_sem, o0, o1, o2]) rfl ?_
    exact ⟨.inl ⟨_, HF.out, _, _, _, _, _, _, rfl, imgOf (m := ⟨code, data, syms⟩) (((HOE.out.far _ _ hl0).far _ _ hl0).far _ _ hl0)⟩, ((HBE.out.setCell (Nat.le_refl _) _).setCell (Nat.le_refl _) _).setCell (Nat.le_refl _) _⟩
end Go.Proofs.YtmplnkfjaeegdaaDoor

/- What the law ImageReads comes to. -/
namespace Go.Proofs.YtmplnkfjaeegdaaDoor
set_option maxRecDepth 100000
open Go.RowKit Go.Maps Go.Lib
set_option linter.unusedVariables false
set_option linter.unusedSimpArgs false

def NoI : ImgD := ⟨{ data := #[] }, [], []⟩
theorem noI_v (x : World) : ImgV x (.agg #[.string { data := #[] }, .slice none 0 0, .slice none 0 0]) NoI := ⟨⟨none, 0, 0, none, 0, 0, rfl, Nat.zero_le _, ⟨rfl, by simp [NoI], fun _ => ⟨rfl, rfl⟩, .inl rfl⟩, ⟨rfl, by simp [NoI], fun _ => ⟨rfl, rfl⟩, .inl rfl⟩⟩⟩
/-- What a reading hands back, both ways alike. -/
theorem rdIs_one {w w' : World} {e : Ending} {s : ByteArray} (h : RdIs w w' e s) : ∃ (m : ImgD) (n : Int) (a1 : Option Addr) (l1 c1 : Nat) (a2 : Option Addr) (l2 c2 : Nat), (m, n) = (match rdImg s with | some m => (m, 0) | none => (NoI, 9)) ∧ e = .returned (.tuple #[.agg #[.string m.code, .slice a1 l1 c1, .slice a2 l2 c2], .int .i64 n]) ∧ ImgV w' (.agg #[.string m.code, .slice a1 l1 c1, .slice a2 l2 c2]) m ∧ m.data.length ≤ maxLen ∧ m.syms.length ≤ maxLen ∧ Below w.heap.size w w' := by
  obtain ⟨⟨m, hm, a1, l1, c1, a2, l2, c2, he, hV⟩ | ⟨hm, he⟩, hb⟩ := h
  · have := rd_bad hV (wrI_rd hm).2.1
    exact ⟨m, 0, a1, l1, c1, a2, l2, c2, by rw [hm], he, hV, this.1, this.2, hb⟩
  · exact ⟨NoI, 9, none, 0, 0, none, 0, 0, by rw [hm], he, noI_v _, Nat.zero_le _, Nat.zero_le _, hb⟩

set_option maxHeartbeats 8000000 in
theorem ireads_any {w : World} (s : ByteArray) (hs : s.size ≤ maxLen) (ht : Tab w) :
    Calls Tryd.prog 4 #[.string s] w fun e w' => e = .returned (.bool true) ∧ Below w.heap.size w w' := by
  have HT : Hid _ := ht
  have hsz : s.size ≤ 9223372036854775807 := by unfold maxLen at hs; omega
  have HMS : Hid _ := hs
  clear ht hs
  go_enter Tryd.func4, Tryd.ntmps4
  by_cases h4 : s.size ≤ 4000
  rotate_left
  · have hd : decide ((4000 : Int) < s.size) = true := decide_eq_true (by omega)
    go_wp2_with fail
    refine (live_any _ HT.out).mono ?_
    rintro e y7 ⟨rfl, g7⟩
    go_wp2
    go_ret
    exact ⟨rfl, g7⟩
  have hd : decide ((4000 : Int) < s.size) = false := decide_eq_false (by omega)
  go_wp2_with fail
  refine (iread_img s (by omega) _ HT.out).mono ?_
  intro e y1 hr1
  obtain ⟨m, n, a1, l1, c1, a2, l2, c2, hmn, rfl, hV, hl1, hl2, g1⟩ := rdIs_one hr1
  have HMN : Hid _ := hmn
  have HVV : Hid _ := hV
  have HL1 : Hid _ := hl1
  have HL2 : Hid _ := hl2
  have B1 : Hid _ := g1
  obtain ⟨code, hcode⟩ : ∃ code, m.code = code := ⟨_, rfl⟩
  rw [hcode] at HVV ⊢
  clear hr1 hmn hV hl1 hl2 g1 hcode
  obtain ⟨W1, hW1⟩ : ∃ W1, y1.alloc (.cells #[.string code, .slice a1 l1 c1, .slice a2 l2 c2] 25) = W1 := ⟨_, rfl⟩
  have b1 : Below y1.heap.size y1 W1 := by subst hW1; exact bl_one _ _
  have v0 : W1.cell? ⟨y1.heap.size, 0, none⟩ = some (.string code) := by subst hW1; exact cell_last rfl rfl
  have v1 : W1.cell? ⟨y1.heap.size, 1, none⟩ = some (.slice a1 l1 c1) := by subst hW1; exact cell_last rfl rfl
  have v2 : W1.cell? ⟨y1.heap.size, 2, none⟩ = some (.slice a2 l2 c2) := by subst hW1; exact cell_last rfl rfl
  have HV1 : Hid _ := HVV.out.below b1
  have BW : Hid (Below w.heap.size w W1) := B1.out.trans (b1.mono B1.out.size)
  clear b1
  go_wp2_with fail
  refine (rreadI_any s HMS.out _).mono ?_
  intro e y2 hr2
  obtain ⟨m', n', d1, k1, e1, d2, k2, e2, hmn', rfl, hV', -, -, g2⟩ := rdIs_one hr2
  obtain ⟨rfl, rfl⟩ : m' = m ∧ n' = n := by have := hmn'.trans HMN.out.symm; injection this with h1 h2; exact ⟨h1, h2⟩
  have HV2 : Hid _ := HV1.out.below g2
  have HVP : Hid _ := hV'
  have B2 : Hid (Below w.heap.size w y2) := BW.out.trans (g2.mono BW.out.size)
  have p0 := cell_thru g2 v0
  have p1 := cell_thru g2 v1
  have p2 := cell_thru g2 v2
  obtain ⟨code', hcode'⟩ : ∃ code', m'.code = code' := ⟨_, rfl⟩
  rw [hcode'] at HVP ⊢
  clear hr2 hmn' hV' g2 v0 v1 v2 hW1 HMN hcode'
  obtain ⟨W2, hW2⟩ : ∃ W2, y2.alloc (.cells #[.string code', .slice d1 k1 e1, .slice d2 k2 e2] 25) = W2 := ⟨_, rfl⟩
  have b2 : Below y2.heap.size y2 W2 := by subst hW2; exact bl_one _ _
  have u0 : W2.cell? ⟨y2.heap.size, 0, none⟩ = some (.string code') := by subst hW2; exact cell_last rfl rfl
  have u1 : W2.cell? ⟨y2.heap.size, 1, none⟩ = some (.slice d1 k1 e1) := by subst hW2; exact cell_last rfl rfl
  have u2 : W2.cell? ⟨y2.heap.size, 2, none⟩ = some (.slice d2 k2 e2) := by subst hW2; exact cell_last rfl rfl
  have q0 := cell_thru b2 p0
  have q1 := cell_thru b2 p1
  have q2 := cell_thru b2 p2
  have HV3 : Hid _ := HV2.out.below b2
  have HV4 : Hid _ := HVP.out.below b2
  have B3 : Hid (Below w.heap.size w W2) := B2.out.trans (b2.mono B2.out.size)
  clear b2 p0 p1 p2
  go_wp2_with fail
  refine (isame_any HV3.out HV4.out HL1.out HL2.out true (by simp)).mono ?_
  rintro e y4 ⟨rfl, g4⟩
  have B4 : Hid (Below w.heap.size w y4) := B3.out.trans (g4.mono B3.out.size)
  clear g4 u0 u1 u2 q0 q1 q2
  go_wp2_with fail
  refine (live_any _ (Tab.below HT.out B4.out)).mono ?_
  rintro e y7 ⟨rfl, g7⟩
  have B7 : Hid (Below w.heap.size w y7) := B4.out.trans (g7.mono B4.out.size)
  clear g7
  go_wp2
  go_ret
  exact ⟨rfl, B7.out⟩
end Go.Proofs.YtmplnkfjaeegdaaDoor

/- What the document's Read comes to. (Written by gen_rrd.py.) -/
import Derived.Test.YtmpmfjplnajjdaaObjRefFront
namespace Go.Proofs.Ytmpmfjplnajjdaa
open Go.RowKit Go.Maps Go.Lib
set_option linter.unusedVariables false

def ReadIs (w : World) (s : ByteArray) (e : Ending) (w' : World) : Prop := (∃ o, rdObj s = some o ∧ ∃ v, e = .returned (.tuple #[v, .int .i64 0]) ∧ ObjF w.heap.size w' v o) ∨ (rdObj s = none ∧ e = .returned (.tuple #[noObjV, .int .i64 9]))
def LR (w wq : World) (B br : Nat) (s : ByteArray) (zo zr j7 k : Nat) (r1 r2 : Row) (vs : List Value) : Prop := ∃ l j v, rdMany rdRel k s j7 = some (l, j) ∧ FS w B wq br s j false [r1, r2, ⟨43, 4, v, k, l.flatMap relC⟩] [(zo, vs ++ [v]), (zr, [.string { data := #[] }, .slice none 0 0, .slice none 0 0, .slice none 0 0])]
def LRB (w wq : World) (B br : Nat) (s : ByteArray) (zo zr : Nat) : Prop := rdBody s = none ∧ ∃ j rs vs, FS w B wq br s j true rs [(zo, vs), (zr, [.string { data := #[] }, .slice none 0 0, .slice none 0 0, .slice none 0 0])]
theorem rdObj_of_body {s : ByteArray} (h : rdBody s = none) : rdObj s = none := by unfold rdObj; rw [h]
theorem grown_below' {w x : World} {B br : Nat} (h : w.grownBy x (some br)) (hB : w.heap.size ≤ br) : Below w.heap.size w x := grown_toBelow h (Nat.le_refl _) hB

set_option maxRecDepth 100000 in
set_option maxHeartbeats 16000000 in
theorem rread_any (s : ByteArray) (hs : s.size ≤ maxLen) (w : World) :
    Calls Try.prog 17 #[.string s] w fun e w' => ReadIs w s e w' ∧ Below w.heap.size w w' := by
  obtain ⟨i3, hi3, hz30, hz31, hz32⟩ := info_parts infoR
  have hsz : s.size ≤ 9223372036854775807 := by unfold maxLen at hs; omega
  obtain ⟨W1, hW1⟩ : ∃ W1, w.alloc (.cells #[.string { data := #[] }, .slice none 0 0, .slice none 0 0, .slice none 0 0] 26) = W1 := ⟨_, rfl⟩
  have s1 : W1.heap.size = w.heap.size + 1 := by subst hW1; simp
  have b1 : Below w.heap.size w W1 := by subst hW1; exact bl_one _ _
  obtain ⟨W2, hW2⟩ : ∃ W2, W1.alloc (.cells #[.string s, .int .i64 0, .bool false] 59) = W2 := ⟨_, rfl⟩
  have s2 : W2.heap.size = w.heap.size + 1 + 1 := by subst hW2; simp; omega
  have b2 : Below W1.heap.size W1 W2 := by subst hW2; exact bl_one _ _
  obtain ⟨W3, hW3⟩ : ∃ W3, W2.alloc (.cells #[.string { data := #[] }, .slice none 0 0, .slice none 0 0, .slice none 0 0] 26) = W3 := ⟨_, rfl⟩
  have s3 : W3.heap.size = w.heap.size + 1 + 1 + 1 := by subst hW3; simp; omega
  have b3 : Below W2.heap.size W2 W3 := by subst hW3; exact bl_one _ _
  have HBL : Hid (Below w.heap.size w W3) := (b1.trans (b2.mono (by omega))).trans (b3.mono (by omega))
  have HRX : Hid (RX W3 (w.heap.size + 1) s 0 false) := by
    refine ⟨cell_thru b3 ?_, cell_thru b3 ?_, cell_thru b3 ?_, fun o => ?_, Nat.zero_le _, hs⟩
    · subst hW2; exact cell_last s1.symm rfl
    · subst hW2; exact cell_last s1.symm rfl
    · subst hW2; exact cell_last s1.symm rfl
    · rw [b3.frozen (p := ⟨w.heap.size + 1, o, none⟩) (by show w.heap.size + 1 < _; omega)]
      subst hW2; exact World.frozen?_alloc_at _ _ _ _ s1.symm
  have HC0 : Hid (Cells W3 w.heap.size [.string { data := #[] }, .slice none 0 0, .slice none 0 0, .slice none 0 0]) := fun j u hu => cell_thru b3 (cell_thru b2 (by subst hW1; exact cell_last rfl (by simpa using hu)))
  have HCO : Hid (Cells W3 (w.heap.size + 1 + 1) [.string { data := #[] }, .slice none 0 0, .slice none 0 0, .slice none 0 0]) := fun j u hu => by subst hW3; exact cell_last s2.symm (by simpa using hu)
  have HZ0 : Hid (∀ o, W3.frozen? ⟨w.heap.size, o, none⟩ = false) := fun o => by
    rw [b3.frozen (p := ⟨w.heap.size, o, none⟩) (by show w.heap.size < _; omega), b2.frozen (p := ⟨w.heap.size, o, none⟩) (by show w.heap.size < _; omega)]
    subst hW1; exact World.frozen?_alloc_at _ _ _ _ rfl
  have HZO : Hid (∀ o, W3.frozen? ⟨w.heap.size + 1 + 1, o, none⟩ = false) := fun o => by subst hW3; exact World.frozen?_alloc_at _ _ _ _ s2.symm
  have HFS : Hid (∀ {y : World} {j : Nat} {b : Bool} {rs : List Row}, FS W3 W3.heap.size y (w.heap.size + 1) s j b rs [] → FS w W3.heap.size y (w.heap.size + 1) s j b (rs ++ [⟨43, 4, .slice none 0 0, 0, []⟩]) [(w.heap.size + 1 + 1, [.string { data := #[] }, .slice none 0 0, .slice none 0 0, .slice none 0 0]), (w.heap.size, [.string { data := #[] }, .slice none 0 0, .slice none 0 0, .slice none 0 0])]) := fun {y j b rs} F => by
    have hg := F.g
    have boxes : ∀ (m : Nat) (p : Nat × List Value), ([(w.heap.size + 1 + 1, [.string { data := #[] }, .slice none 0 0, .slice none 0 0, .slice none 0 0]), (w.heap.size, [.string { data := #[] }, .slice none 0 0, .slice none 0 0, .slice none 0 0])] : List (Nat × List Value))[m]? = some p → (m = 0 ∧ p = (w.heap.size + 1 + 1, [.string { data := #[] }, .slice none 0 0, .slice none 0 0, .slice none 0 0])) ∨ (m = 1 ∧ p = (w.heap.size, [.string { data := #[] }, .slice none 0 0, .slice none 0 0, .slice none 0 0])) := fun m p hp => by
      match m, hp with
      | 0, hp => exact .inl ⟨rfl, by simpa using hp.symm⟩
      | 1, hp => exact .inr ⟨rfl, by simpa using hp.symm⟩
      | m + 2, hp => simp at hp
    have rowsAt : ∀ (k : Nat) (r : Row), (rs ++ [⟨43, 4, .slice none 0 0, 0, []⟩])[k]? = some r → rs[k]? = some r ∨ r = ⟨43, 4, .slice none 0 0, 0, []⟩ := fun k r hr => by
      by_cases hk : k < rs.length
      · rw [List.getElem?_append_left hk] at hr; exact .inl hr
      · rw [List.getElem?_append_right (by omega)] at hr
        have h0 : k - rs.length < 1 := by have := (List.getElem?_eq_some_iff.1 hr).1; simpa using this
        rw [show k - rs.length = 0 by omega] at hr
        exact .inr (by simpa using hr.symm)
    refine { rd := F.rd, g := ⟨hg.os.trans HBL.out.os, hg.tape.trans HBL.out.tape, hg.output.trans HBL.out.output, Nat.le_trans HBL.out.size hg.size, fun k hk hne => (hg.block k (by omega) hne).trans (HBL.out.block k hk)⟩, own := fun k r hr => ?_, dis := fun k l r q hr hq hkl b hb => ?_, box := fun m p hp => ?_, far := fun m k p r hp hr => ?_, nd := fun m l p q hp hq hml => ?_, lt := F.lt, Bx := F.Bx, wB := by omega }
    · rcases rowsAt k r hr with h1 | rfl
      · exact F.own k r h1
      · exact World.ownsRow_nil _ _ _ _
    · by_cases hk : k < rs.length
      · rw [List.getElem?_append_left hk] at hr
        rcases rowsAt l q hq with h1 | rfl
        · exact F.dis k l r q hr h1 hkl b hb
        · simp [Value.ownBlock]
      · rcases rowsAt k r hr with h1 | rfl
        · exact absurd (List.getElem?_eq_some_iff.1 h1).1 hk
        · simp [Value.ownBlock] at hb
    · rcases boxes m p hp with ⟨-, rfl⟩ | ⟨-, rfl⟩
      · exact ⟨fun j u hu => grown_cell hg (HCO.out j u hu) (by omega), fun o => grown_froz hg (by omega) (by omega) (HZO.out o), by show w.heap.size + 1 + 1 < _; have := hg.size; omega, by show w.heap.size + 1 + 1 ≠ w.heap.size + 1; omega, by show w.heap.size ≤ w.heap.size + 1 + 1; omega⟩
      · exact ⟨fun j u hu => grown_cell hg (HC0.out j u hu) (by omega), fun o => grown_froz hg (by omega) (by omega) (HZ0.out o), by show w.heap.size < _; have := hg.size; omega, by show w.heap.size ≠ w.heap.size + 1; omega, Nat.le_refl _⟩
    · rcases rowsAt k r hr with h1 | rfl
      · intro e
        have h2 := ((F.own k r h1).lt _ e).1
        rcases boxes m p hp with ⟨-, rfl⟩ | ⟨-, rfl⟩
        · simp only at h2; omega
        · simp only at h2; omega
      · simp [Value.ownBlock]
    · rcases boxes m p hp with ⟨h1, rfl⟩ | ⟨h1, rfl⟩
      · rcases boxes l q hq with ⟨h2, rfl⟩ | ⟨h2, rfl⟩
        · omega
        · show w.heap.size + 1 + 1 ≠ w.heap.size; omega
      · rcases boxes l q hq with ⟨h2, rfl⟩ | ⟨h2, rfl⟩
        · show w.heap.size ≠ w.heap.size + 1 + 1; omega
        · omega
  have HFB : Hid (∀ {y : World} {j : Nat}, RX y (w.heap.size + 1) s j true → W3.grownBy y (some (w.heap.size + 1)) → FS W3 W3.heap.size y (w.heap.size + 1) s j true [] []) := fun hr hg =>
    { rd := hr, g := hg, own := fun k r hk => (by simp at hk), dis := fun k l r q hk => (by simp at hk), box := fun m p hp => (by simp at hp), far := fun m k p r hp => (by simp at hp), nd := fun m l p q hp => (by simp at hp), lt := by omega, Bx := hg.size, wB := Nat.le_refl _ }
  have HW : Hid (∀ {x : World}, w.grownBy x (some (w.heap.size + 1)) → Below w.heap.size w x) := fun h => grown_below' (B := 0) h (by omega)
  clear b1 b2 b3 HC0 HCO HZ0 HZO HBL
  go_enter Try.func17, Try.ntmps17
  go_wp2_with fail
  refine (front_any HRX.out).mono ?_
  rintro e y0 (⟨code, data, syms, j6, v1, v2, hFI, rfl, hF⟩ | ⟨hnb, c, a1, l1, c1, a2, l2, c2, rfl, ⟨j, hr⟩, hg⟩)
  rotate_left
  · have HNB : Hid _ := hnb
    have HS : Hid _ := HFS.out (HFB.out hr hg)
    clear hnb hr hg
    have q0 := (HS.out.box 0 _ rfl).1 0 _ rfl
    have f0 := (HS.out.box 0 _ rfl).2.1 0
    have HS : Hid (FS w W3.heap.size (y0.setCell ⟨w.heap.size + 1 + 1, 0, none⟩ (.string c)) (w.heap.size + 1) s _ true [⟨43, 4, .slice none 0 0, 0, []⟩] [(w.heap.size + 1 + 1, [.string c, .slice none 0 0, .slice none 0 0, .slice none 0 0]), (w.heap.size, [.string { data := #[] }, .slice none 0 0, .slice none 0 0, .slice none 0 0])]) := HS.out.put 0 (w.heap.size + 1 + 1) [.string { data := #[] }, .slice none 0 0, .slice none 0 0, .slice none 0 0] rfl 0 (by simp) (.string c)
    obtain ⟨Y0, hY0⟩ : ∃ Y, y0.setCell ⟨w.heap.size + 1 + 1, 0, none⟩ (.string c) = Y := ⟨_, rfl⟩
    rw [hY0] at HS
    have q1 := (HS.out.box 0 _ rfl).1 1 _ rfl
    have f1 := (HS.out.box 0 _ rfl).2.1 1
    have HS : Hid (FS w W3.heap.size (Y0.setCell ⟨w.heap.size + 1 + 1, 1, none⟩ (.slice a1 l1 c1)) (w.heap.size + 1) s _ true [⟨43, 4, .slice none 0 0, 0, []⟩] [(w.heap.size + 1 + 1, [.string c, .slice a1 l1 c1, .slice none 0 0, .slice none 0 0]), (w.heap.size, [.string { data := #[] }, .slice none 0 0, .slice none 0 0, .slice none 0 0])]) := HS.out.put 0 (w.heap.size + 1 + 1) [.string c, .slice none 0 0, .slice none 0 0, .slice none 0 0] rfl 1 (by simp) (.slice a1 l1 c1)
    obtain ⟨Y1, hY1⟩ : ∃ Y, Y0.setCell ⟨w.heap.size + 1 + 1, 1, none⟩ (.slice a1 l1 c1) = Y := ⟨_, rfl⟩
    rw [hY1] at HS
    have q2 := (HS.out.box 0 _ rfl).1 2 _ rfl
    have f2 := (HS.out.box 0 _ rfl).2.1 2
    have HS : Hid (FS w W3.heap.size (Y1.setCell ⟨w.heap.size + 1 + 1, 2, none⟩ (.slice a2 l2 c2)) (w.heap.size + 1) s _ true [⟨43, 4, .slice none 0 0, 0, []⟩] [(w.heap.size + 1 + 1, [.string c, .slice a1 l1 c1, .slice a2 l2 c2, .slice none 0 0]), (w.heap.size, [.string { data := #[] }, .slice none 0 0, .slice none 0 0, .slice none 0 0])]) := HS.out.put 0 (w.heap.size + 1 + 1) [.string c, .slice a1 l1 c1, .slice none 0 0, .slice none 0 0] rfl 2 (by simp) (.slice a2 l2 c2)
    obtain ⟨Y2, hY2⟩ : ∃ Y, Y1.setCell ⟨w.heap.size + 1 + 1, 2, none⟩ (.slice a2 l2 c2) = Y := ⟨_, rfl⟩
    rw [hY2] at HS
    go_wp2_with fail
    clear q0 q1 q2 f0 f1 f2 hY0 hY1 hY2
    refine (xnum_bad HS.out.rd 8000 (by decide)).mono ?_
    rintro e y1 ⟨rfl, hr, hg⟩
    have HS : Hid _ := HS.out.call hr hg
    clear hr hg
    go_wp2_with fail
    refine wp_loop_rounds 1 ?_
    rw [rounds_succ]
    have q2 := HS.out.rd.c2
    have o0 := (HS.out.box 1 _ rfl).1 0 _ rfl
    have g0 := (HS.out.box 1 _ rfl).2.1 0
    have o1 := (HS.out.box 1 _ rfl).1 1 _ rfl
    have g1 := (HS.out.box 1 _ rfl).2.1 1
    have o2 := (HS.out.box 1 _ rfl).1 2 _ rfl
    have g2 := (HS.out.box 1 _ rfl).2.1 2
    have o3 := (HS.out.box 1 _ rfl).1 3 _ rfl
    have g3 := (HS.out.box 1 _ rfl).2.1 3
    have HBE : Hid _ := HW.out HS.out.g
    go_wp2
    refine bodyPost_ret (v := .tuple #[noObjV, .int .i64 9]) (by simp [results, Try.results17, go_sem, o0, o1, o2, o3, noObjV]) rfl ?_
    exact ⟨.inr ⟨rdObj_of_body HNB.out, rfl⟩, (((HBE.out.setCell (Nat.le_refl _) _).setCell (Nat.le_refl _) _).setCell (Nat.le_refl _) _).setCell (Nat.le_refl _) _⟩
  obtain ⟨a1, c1, hs1⟩ : ∃ a c, v1 = .slice a data.length c := own_slice (hF.own 0 _ rfl)
  obtain ⟨a2, c2, hs2⟩ : ∃ a c, v2 = .slice a syms.length c := own_slice (hF.own 1 _ rfl)
  subst hs1
  subst hs2
  have HS : Hid (FS w W3.heap.size y0 (w.heap.size + 1) s j6 false [⟨2, 1, .slice a1 data.length c1, data.length, data.flatMap intC⟩, ⟨41, 3, .slice a2 syms.length c2, syms.length, syms.flatMap symC⟩, ⟨43, 4, .slice none 0 0, 0, []⟩] [(w.heap.size + 1 + 1, [.string { data := #[] }, .slice none 0 0, .slice none 0 0, .slice none 0 0]), (w.heap.size, [.string { data := #[] }, .slice none 0 0, .slice none 0 0, .slice none 0 0])]) := HFS.out hF
  obtain ⟨j0, n1, j1, j2, n3, j3, j4, n5, j5, h0, h1, h2, h3, h4, h5, h6⟩ := hFI
  have F0 : Hid _ := h0
  have F1 : Hid _ := h1
  have F2 : Hid _ := h2
  have F3 : Hid _ := h3
  have F4 : Hid _ := h4
  have F5 : Hid _ := h5
  have F6 : Hid _ := h6
  clear hF h0 h1 h2 h3 h4 h5 h6
  have q0 := (HS.out.box 0 _ rfl).1 0 _ rfl
  have f0 := (HS.out.box 0 _ rfl).2.1 0
  have HS : Hid (FS w W3.heap.size (y0.setCell ⟨w.heap.size + 1 + 1, 0, none⟩ (.string code)) (w.heap.size + 1) s _ false [⟨2, 1, .slice a1 data.length c1, data.length, data.flatMap intC⟩, ⟨41, 3, .slice a2 syms.length c2, syms.length, syms.flatMap symC⟩, ⟨43, 4, .slice none 0 0, 0, []⟩] [(w.heap.size + 1 + 1, [.string code, .slice none 0 0, .slice none 0 0, .slice none 0 0]), (w.heap.size, [.string { data := #[] }, .slice none 0 0, .slice none 0 0, .slice none 0 0])]) := HS.out.put 0 (w.heap.size + 1 + 1) [.string { data := #[] }, .slice none 0 0, .slice none 0 0, .slice none 0 0] rfl 0 (by simp) (.string code)
  obtain ⟨Y0, hY0⟩ : ∃ Y, y0.setCell ⟨w.heap.size + 1 + 1, 0, none⟩ (.string code) = Y := ⟨_, rfl⟩
  rw [hY0] at HS
  have q1 := (HS.out.box 0 _ rfl).1 1 _ rfl
  have f1 := (HS.out.box 0 _ rfl).2.1 1
  have HS : Hid (FS w W3.heap.size (Y0.setCell ⟨w.heap.size + 1 + 1, 1, none⟩ (.slice a1 data.length c1)) (w.heap.size + 1) s _ false [⟨2, 1, .slice a1 data.length c1, data.length, data.flatMap intC⟩, ⟨41, 3, .slice a2 syms.length c2, syms.length, syms.flatMap symC⟩, ⟨43, 4, .slice none 0 0, 0, []⟩] [(w.heap.size + 1 + 1, [.string code, .slice a1 data.length c1, .slice none 0 0, .slice none 0 0]), (w.heap.size, [.string { data := #[] }, .slice none 0 0, .slice none 0 0, .slice none 0 0])]) := HS.out.put 0 (w.heap.size + 1 + 1) [.string code, .slice none 0 0, .slice none 0 0, .slice none 0 0] rfl 1 (by simp) (.slice a1 data.length c1)
  obtain ⟨Y1, hY1⟩ : ∃ Y, Y0.setCell ⟨w.heap.size + 1 + 1, 1, none⟩ (.slice a1 data.length c1) = Y := ⟨_, rfl⟩
  rw [hY1] at HS
  have q2 := (HS.out.box 0 _ rfl).1 2 _ rfl
  have f2 := (HS.out.box 0 _ rfl).2.1 2
  have HS : Hid (FS w W3.heap.size (Y1.setCell ⟨w.heap.size + 1 + 1, 2, none⟩ (.slice a2 syms.length c2)) (w.heap.size + 1) s _ false [⟨2, 1, .slice a1 data.length c1, data.length, data.flatMap intC⟩, ⟨41, 3, .slice a2 syms.length c2, syms.length, syms.flatMap symC⟩, ⟨43, 4, .slice none 0 0, 0, []⟩] [(w.heap.size + 1 + 1, [.string code, .slice a1 data.length c1, .slice a2 syms.length c2, .slice none 0 0]), (w.heap.size, [.string { data := #[] }, .slice none 0 0, .slice none 0 0, .slice none 0 0])]) := HS.out.put 0 (w.heap.size + 1 + 1) [.string code, .slice a1 data.length c1, .slice none 0 0, .slice none 0 0] rfl 2 (by simp) (.slice a2 syms.length c2)
  obtain ⟨Y2, hY2⟩ : ∃ Y, Y1.setCell ⟨w.heap.size + 1 + 1, 2, none⟩ (.slice a2 syms.length c2) = Y := ⟨_, rfl⟩
  rw [hY2] at HS
  go_wp2_with fail
  clear q0 q1 q2 f0 f1 f2 hY0 hY1 hY2
  refine (xnum_any HS.out.rd 8000 (by decide)).mono ?_
  rintro e y1 ⟨⟨x, j7, hf, rfl, hr⟩ | ⟨hf, rfl, j', hr⟩, hg⟩
  rotate_left
  · have HNB : Hid (rdBody s = none) := by show _ = _; simp only [rdBody, if_true, Int.toNat_natCast, F0.out, F1.out, F2.out, F3.out, F4.out, F5.out, F6.out, hf]
    have HS : Hid _ := HS.out.call hr hg
    clear hf hr hg
    go_wp2_with fail
    refine wp_loop_rounds 1 ?_
    rw [rounds_succ]
    have q2 := HS.out.rd.c2
    have o0 := (HS.out.box 1 _ rfl).1 0 _ rfl
    have g0 := (HS.out.box 1 _ rfl).2.1 0
    have o1 := (HS.out.box 1 _ rfl).1 1 _ rfl
    have g1 := (HS.out.box 1 _ rfl).2.1 1
    have o2 := (HS.out.box 1 _ rfl).1 2 _ rfl
    have g2 := (HS.out.box 1 _ rfl).2.1 2
    have o3 := (HS.out.box 1 _ rfl).1 3 _ rfl
    have g3 := (HS.out.box 1 _ rfl).2.1 3
    have HBE : Hid _ := HW.out HS.out.g
    go_wp2
    refine bodyPost_ret (v := .tuple #[noObjV, .int .i64 9]) (by simp [results, Try.results17, go_sem, o0, o1, o2, o3, noObjV]) rfl ?_
    exact ⟨.inr ⟨rdObj_of_body HNB.out, rfl⟩, (((HBE.out.setCell (Nat.le_refl _) _).setCell (Nat.le_refl _) _).setCell (Nat.le_refl _) _).setCell (Nat.le_refl _) _⟩
  obtain ⟨hx0, hx1⟩ := rdUp_nonneg hf
  obtain ⟨n7, rfl⟩ : ∃ n : Nat, x = n := ⟨x.toNat, by omega⟩
  have hn7 : n7 ≤ 8000 := by omega
  have F7 : Hid (rdUp s j6 8000 = some ((n7 : Int), j7)) := hf
  have HS : Hid _ := HS.out.call hr hg
  clear hf hr hg hx0 hx1
  go_wp2_with fail
  go_loopg [7] n7 (fun r iv wq => ∃ (k : Nat), iv = .int .i64 k ∧ k ≤ n7 ∧ n7 - k ≤ r ∧ Hid (LR w wq W3.heap.size (w.heap.size + 1) s (w.heap.size + 1 + 1) w.heap.size j7 k ⟨2, 1, .slice a1 data.length c1, data.length, data.flatMap intC⟩ ⟨41, 3, .slice a2 syms.length c2, syms.length, syms.flatMap symC⟩ [.string code, .slice a1 data.length c1, .slice a2 syms.length c2] ∨ LRB w wq W3.heap.size (w.heap.size + 1) s (w.heap.size + 1 + 1) w.heap.size))
  case atStart => exact ⟨0, rfl, Nat.zero_le _, by omega, Or.inl ⟨[], j7, _, rfl, HS.out⟩⟩
  case round =>
    obtain ⟨k, rfl, hk, hr, HL⟩ := hrel
    rcases HL.out with ⟨l, j, v, hl, hs⟩ | ⟨hnb, j, rs, vs, hs⟩
    rotate_left
    · have HNB : Hid _ := hnb
      have HS : Hid _ := hs
      have q2 := hs.rd.c2
      clear hnb hs HL
      by_cases hlt : k < n7
      · have hd : decide ((k : Int) < n7) = true := decide_eq_true (by omega)
        have o0 := (HS.out.box 1 _ rfl).1 0 _ rfl
        have g0 := (HS.out.box 1 _ rfl).2.1 0
        have o1 := (HS.out.box 1 _ rfl).1 1 _ rfl
        have g1 := (HS.out.box 1 _ rfl).2.1 1
        have o2 := (HS.out.box 1 _ rfl).1 2 _ rfl
        have g2 := (HS.out.box 1 _ rfl).2.1 2
        have o3 := (HS.out.box 1 _ rfl).1 3 _ rfl
        have g3 := (HS.out.box 1 _ rfl).2.1 3
        have HBE : Hid _ := HW.out HS.out.g
        go_wp2
        refine bodyPost_ret (v := .tuple #[noObjV, .int .i64 9]) (by simp [results, Try.results17, go_sem, o0, o1, o2, o3, noObjV]) rfl ?_
        exact ⟨.inr ⟨rdObj_of_body HNB.out, rfl⟩, (((HBE.out.setCell (Nat.le_refl _) _).setCell (Nat.le_refl _) _).setCell (Nat.le_refl _) _).setCell (Nat.le_refl _) _⟩
      · have hd : decide ((k : Int) < n7) = false := decide_eq_false (by omega)
        have o0 := (HS.out.box 1 _ rfl).1 0 _ rfl
        have g0 := (HS.out.box 1 _ rfl).2.1 0
        have o1 := (HS.out.box 1 _ rfl).1 1 _ rfl
        have g1 := (HS.out.box 1 _ rfl).2.1 1
        have o2 := (HS.out.box 1 _ rfl).1 2 _ rfl
        have g2 := (HS.out.box 1 _ rfl).2.1 2
        have o3 := (HS.out.box 1 _ rfl).1 3 _ rfl
        have g3 := (HS.out.box 1 _ rfl).2.1 3
        have HBE : Hid _ := HW.out HS.out.g
        go_wp2
        refine bodyPost_ret (v := .tuple #[noObjV, .int .i64 9]) (by simp [results, Try.results17, go_sem, o0, o1, o2, o3, noObjV]) rfl ?_
        exact ⟨.inr ⟨rdObj_of_body HNB.out, rfl⟩, (((HBE.out.setCell (Nat.le_refl _) _).setCell (Nat.le_refl _) _).setCell (Nat.le_refl _) _).setCell (Nat.le_refl _) _⟩
    have HLR : Hid _ := hl
    have HS : Hid (FS w W3.heap.size wr (w.heap.size + 1) s j false [⟨2, 1, .slice a1 data.length c1, data.length, data.flatMap intC⟩, ⟨41, 3, .slice a2 syms.length c2, syms.length, syms.flatMap symC⟩, ⟨43, 4, v, k, l.flatMap relC⟩] [(w.heap.size + 1 + 1, [.string code, .slice a1 data.length c1, .slice a2 syms.length c2, v]), (w.heap.size, [.string { data := #[] }, .slice none 0 0, .slice none 0 0, .slice none 0 0])]) := hs
    have q2 := hs.rd.c2
    clear hl hs HL
    by_cases hlt : k < n7
    · have hd : decide ((k : Int) < n7) = true := decide_eq_true (by omega)
      go_wp2_with fail
      clear q2
      refine (xnum_any HS.out.rd 65536 (by decide)).mono ?_
      rintro e ya ⟨⟨ps, ja, hf, rfl, hr⟩ | ⟨hf, rfl, jx, hr⟩, hg⟩
      rotate_left
      · have HNB : Hid (rdBody s = none) := by
          show _ = _
          have hsn : rdRel s j = none := by simp only [rdRel, hf]
          have hcut := many_cut HLR.out hlt hsn
          simp only [rdBody, if_true, Int.toNat_natCast, F0.out, F1.out, F2.out, F3.out, F4.out, F5.out, F6.out, F7.out, hcut]
        have HS : Hid _ := HS.out.call hr hg
        clear hf hr hg
        go_wp2_with fail
        have HS : Hid (FS w W3.heap.size (ya.alloc (.cells #[.int .i64 0, .int .i64 0, .string { data := #[] }, .int .i64 0] 43)) (w.heap.size + 1) s _ true [⟨2, 1, .slice a1 data.length c1, data.length, data.flatMap intC⟩, ⟨41, 3, .slice a2 syms.length c2, syms.length, syms.flatMap symC⟩, ⟨43, 4, v, k, l.flatMap relC⟩] [(ya.heap.size, [.int .i64 0, .int .i64 0, .string { data := #[] }, .int .i64 0]), (w.heap.size + 1 + 1, [.string code, .slice a1 data.length c1, .slice a2 syms.length c2, v]), (w.heap.size, [.string { data := #[] }, .slice none 0 0, .slice none 0 0, .slice none 0 0])]) := HS.out.alloc #[.int .i64 0, .int .i64 0, .string { data := #[] }, .int .i64 0] 43
        obtain ⟨Yb, hYb⟩ : ∃ Y, ya.alloc (.cells #[.int .i64 0, .int .i64 0, .string { data := #[] }, .int .i64 0] 43) = Y := ⟨_, rfl⟩
        rw [hYb] at HS ⊢
        clear hYb
        generalize ya.heap.size = zb at *
        refine (xone_bad HS.out.rd).mono ?_
        rintro e yb ⟨rfl, ⟨jx, hr⟩, hg⟩
        have HS : Hid _ := HS.out.call hr hg
        clear hr hg
        have q := (HS.out.box 0 _ rfl).1 1 _ rfl
        have zf := (HS.out.box 0 _ rfl).2.1 1
        have HS : Hid (FS w W3.heap.size (yb.setCell ⟨zb, 1, none⟩ (.int .i64 0)) (w.heap.size + 1) s _ true [⟨2, 1, .slice a1 data.length c1, data.length, data.flatMap intC⟩, ⟨41, 3, .slice a2 syms.length c2, syms.length, syms.flatMap symC⟩, ⟨43, 4, v, k, l.flatMap relC⟩] [(zb, [.int .i64 0, .int .i64 0, .string { data := #[] }, .int .i64 0]), (w.heap.size + 1 + 1, [.string code, .slice a1 data.length c1, .slice a2 syms.length c2, v]), (w.heap.size, [.string { data := #[] }, .slice none 0 0, .slice none 0 0, .slice none 0 0])]) := HS.out.put 0 zb [.int .i64 0, .int .i64 0, .string { data := #[] }, .int .i64 0] rfl 1 (by simp) (.int .i64 0)
        obtain ⟨Yc, hYc⟩ : ∃ Y, yb.setCell ⟨zb, 1, none⟩ (.int .i64 0) = Y := ⟨_, rfl⟩
        rw [hYc] at HS
        go_wp2_with fail
        clear q zf hYc
        refine (xnum_bad HS.out.rd 28 (by decide)).mono ?_
        rintro e yc ⟨rfl, hr, hg⟩
        have HS : Hid _ := HS.out.call hr hg
        clear hr hg
        go_wp2_with fail
        refine (xbytes_bad HS.out.rd 0).mono ?_
        rintro e yd ⟨rfl, hr, hg⟩
        have HS : Hid _ := HS.out.call hr hg
        clear hr hg
        have q := (HS.out.box 0 _ rfl).1 2 _ rfl
        have zf := (HS.out.box 0 _ rfl).2.1 2
        have HS : Hid (FS w W3.heap.size (yd.setCell ⟨zb, 2, none⟩ (.string { data := #[] })) (w.heap.size + 1) s _ true [⟨2, 1, .slice a1 data.length c1, data.length, data.flatMap intC⟩, ⟨41, 3, .slice a2 syms.length c2, syms.length, syms.flatMap symC⟩, ⟨43, 4, v, k, l.flatMap relC⟩] [(zb, [.int .i64 0, .int .i64 0, .string { data := #[] }, .int .i64 0]), (w.heap.size + 1 + 1, [.string code, .slice a1 data.length c1, .slice a2 syms.length c2, v]), (w.heap.size, [.string { data := #[] }, .slice none 0 0, .slice none 0 0, .slice none 0 0])]) := HS.out.put 0 zb [.int .i64 0, .int .i64 0, .string { data := #[] }, .int .i64 0] rfl 2 (by simp) (.string { data := #[] })
        obtain ⟨Yd, hYd⟩ : ∃ Y, yd.setCell ⟨zb, 2, none⟩ (.string { data := #[] }) = Y := ⟨_, rfl⟩
        rw [hYd] at HS
        go_wp2_with fail
        clear q zf hYd
        refine (xwide_bad HS.out.rd).mono ?_
        rintro e ye ⟨rfl, ⟨jx, hr⟩, hg⟩
        have HS : Hid _ := HS.out.call hr hg
        clear hr hg
        have q := (HS.out.box 0 _ rfl).1 3 _ rfl
        have zf := (HS.out.box 0 _ rfl).2.1 3
        have HS : Hid (FS w W3.heap.size (ye.setCell ⟨zb, 3, none⟩ (.int .i64 0)) (w.heap.size + 1) s _ true [⟨2, 1, .slice a1 data.length c1, data.length, data.flatMap intC⟩, ⟨41, 3, .slice a2 syms.length c2, syms.length, syms.flatMap symC⟩, ⟨43, 4, v, k, l.flatMap relC⟩] [(zb, [.int .i64 0, .int .i64 0, .string { data := #[] }, .int .i64 0]), (w.heap.size + 1 + 1, [.string code, .slice a1 data.length c1, .slice a2 syms.length c2, v]), (w.heap.size, [.string { data := #[] }, .slice none 0 0, .slice none 0 0, .slice none 0 0])]) := HS.out.put 0 zb [.int .i64 0, .int .i64 0, .string { data := #[] }, .int .i64 0] rfl 3 (by simp) (.int .i64 0)
        obtain ⟨Ye, hYe⟩ : ∃ Y, ye.setCell ⟨zb, 3, none⟩ (.int .i64 0) = Y := ⟨_, rfl⟩
        rw [hYe] at HS
        have p0 := (HS.out.box 0 _ rfl).1 0 _ rfl
        have p1 := (HS.out.box 0 _ rfl).1 1 _ rfl
        have p2 := (HS.out.box 0 _ rfl).1 2 _ rfl
        have p3 := (HS.out.box 0 _ rfl).1 3 _ rfl
        have pv := (HS.out.box 1 _ rfl).1 3 _ rfl
        have HA : Hid _ := (HS.out.alloc #[.int .i64 0, .int .i64 0, .string { data := #[] }, .int .i64 0] 43).drop
        have HNC : Hid (∀ j u, ([.int .i64 0, .int .i64 0, .string { data := #[] }, .int .i64 0] : List Value)[j]? = some u → (Ye.alloc (.cells #[.int .i64 0, .int .i64 0, .string { data := #[] }, .int .i64 0] 43)).cell? ((⟨Ye.heap.size, 0, none⟩ : Addr).add j) = some u) := fun j u hu => by rw [Addr.add_lit, Nat.zero_add]; exact cell_last rfl (by simpa using hu)
        have hzB : W3.heap.size ≤ Ye.heap.size := HS.out.Bx
        go_wp2_with (first | (at_builtin; refine wpList_append_lies _ rfl _ _ 24 rfl W3.heap.size 43 i3 _ 4 40 Try.underlying24 hi3 hz30 hz31 hz32 rfl (by decide) v k _ rfl (HA.out.own 2 _ rfl) ⟨Ye.heap.size, 0, none⟩ 1 1 [.int .i64 0, .int .i64 0, .string { data := #[] }, .int .i64 0] rfl rfl HNC.out (by intro u hu; simp at hu; rcases hu with rfl | rfl | rfl | rfl <;> rfl) (by decide) (by unfold maxLen; omega) (by omega) (by simp; omega) (Ye.heap.size + 1) (by simp) ?_) | go_in)
        intro g cap Y6 ho6 hg6 hat6 hlt6
        rw [← s3] at ho6
        have HP : Hid _ := HA.out.push (k := 2) rfl ho6 hg6 hat6 (by simp)
        have pw := (HP.out.box 1 _ rfl).1 3 _ rfl
        have fw := (HP.out.box 1 _ rfl).2.1 3
        have HQ : Hid _ := (HP.out.put 1 (w.heap.size + 1 + 1) [.string code, .slice a1 data.length c1, .slice a2 syms.length c2, v] rfl 3 (by simp) (.slice (some ⟨g, 0, none⟩) (k + 1) cap)).drop
        clear ho6 hg6 hat6 hlt6 HNC
        go_wp2_with fail
        go_roundg (n7 - (k + 1))
        case measure => omega
        case rel => exact ⟨k + 1, by first | rfl | (congr 1; omega), by omega, Nat.le_refl _, Or.inr ⟨HNB.out, _, _, _, HQ.out⟩⟩
      have G0 : Hid _ := hf
      have HS : Hid _ := HS.out.call hr hg
      clear hf hr hg
      go_wp2_with fail
      have HS : Hid (FS w W3.heap.size (ya.alloc (.cells #[.int .i64 ps, .int .i64 0, .string { data := #[] }, .int .i64 0] 43)) (w.heap.size + 1) s _ false [⟨2, 1, .slice a1 data.length c1, data.length, data.flatMap intC⟩, ⟨41, 3, .slice a2 syms.length c2, syms.length, syms.flatMap symC⟩, ⟨43, 4, v, k, l.flatMap relC⟩] [(ya.heap.size, [.int .i64 ps, .int .i64 0, .string { data := #[] }, .int .i64 0]), (w.heap.size + 1 + 1, [.string code, .slice a1 data.length c1, .slice a2 syms.length c2, v]), (w.heap.size, [.string { data := #[] }, .slice none 0 0, .slice none 0 0, .slice none 0 0])]) := HS.out.alloc #[.int .i64 ps, .int .i64 0, .string { data := #[] }, .int .i64 0] 43
      obtain ⟨Yb, hYb⟩ : ∃ Y, ya.alloc (.cells #[.int .i64 ps, .int .i64 0, .string { data := #[] }, .int .i64 0] 43) = Y := ⟨_, rfl⟩
      rw [hYb] at HS ⊢
      clear hYb
      generalize ya.heap.size = zb at *
      refine (xone_any HS.out.rd).mono ?_
      rintro e yb ⟨⟨kd, jb, hf, rfl, hr⟩ | ⟨hf, rfl, jx, hr⟩, hg⟩
      rotate_left
      · have HNB : Hid (rdBody s = none) := by
          show _ = _
          have hsn : rdRel s j = none := by simp only [rdRel, G0.out, hf]
          have hcut := many_cut HLR.out hlt hsn
          simp only [rdBody, if_true, Int.toNat_natCast, F0.out, F1.out, F2.out, F3.out, F4.out, F5.out, F6.out, F7.out, hcut]
        have HS : Hid _ := HS.out.call hr hg
        clear hf hr hg
        have q := (HS.out.box 0 _ rfl).1 1 _ rfl
        have zf := (HS.out.box 0 _ rfl).2.1 1
        have HS : Hid (FS w W3.heap.size (yb.setCell ⟨zb, 1, none⟩ (.int .i64 0)) (w.heap.size + 1) s _ true [⟨2, 1, .slice a1 data.length c1, data.length, data.flatMap intC⟩, ⟨41, 3, .slice a2 syms.length c2, syms.length, syms.flatMap symC⟩, ⟨43, 4, v, k, l.flatMap relC⟩] [(zb, [.int .i64 ps, .int .i64 0, .string { data := #[] }, .int .i64 0]), (w.heap.size + 1 + 1, [.string code, .slice a1 data.length c1, .slice a2 syms.length c2, v]), (w.heap.size, [.string { data := #[] }, .slice none 0 0, .slice none 0 0, .slice none 0 0])]) := HS.out.put 0 zb [.int .i64 ps, .int .i64 0, .string { data := #[] }, .int .i64 0] rfl 1 (by simp) (.int .i64 0)
        obtain ⟨Yc, hYc⟩ : ∃ Y, yb.setCell ⟨zb, 1, none⟩ (.int .i64 0) = Y := ⟨_, rfl⟩
        rw [hYc] at HS
        go_wp2_with fail
        clear q zf hYc
        refine (xnum_bad HS.out.rd 28 (by decide)).mono ?_
        rintro e yc ⟨rfl, hr, hg⟩
        have HS : Hid _ := HS.out.call hr hg
        clear hr hg
        go_wp2_with fail
        refine (xbytes_bad HS.out.rd 0).mono ?_
        rintro e yd ⟨rfl, hr, hg⟩
        have HS : Hid _ := HS.out.call hr hg
        clear hr hg
        have q := (HS.out.box 0 _ rfl).1 2 _ rfl
        have zf := (HS.out.box 0 _ rfl).2.1 2
        have HS : Hid (FS w W3.heap.size (yd.setCell ⟨zb, 2, none⟩ (.string { data := #[] })) (w.heap.size + 1) s _ true [⟨2, 1, .slice a1 data.length c1, data.length, data.flatMap intC⟩, ⟨41, 3, .slice a2 syms.length c2, syms.length, syms.flatMap symC⟩, ⟨43, 4, v, k, l.flatMap relC⟩] [(zb, [.int .i64 ps, .int .i64 0, .string { data := #[] }, .int .i64 0]), (w.heap.size + 1 + 1, [.string code, .slice a1 data.length c1, .slice a2 syms.length c2, v]), (w.heap.size, [.string { data := #[] }, .slice none 0 0, .slice none 0 0, .slice none 0 0])]) := HS.out.put 0 zb [.int .i64 ps, .int .i64 0, .string { data := #[] }, .int .i64 0] rfl 2 (by simp) (.string { data := #[] })
        obtain ⟨Yd, hYd⟩ : ∃ Y, yd.setCell ⟨zb, 2, none⟩ (.string { data := #[] }) = Y := ⟨_, rfl⟩
        rw [hYd] at HS
        go_wp2_with fail
        clear q zf hYd
        refine (xwide_bad HS.out.rd).mono ?_
        rintro e ye ⟨rfl, ⟨jx, hr⟩, hg⟩
        have HS : Hid _ := HS.out.call hr hg
        clear hr hg
        have q := (HS.out.box 0 _ rfl).1 3 _ rfl
        have zf := (HS.out.box 0 _ rfl).2.1 3
        have HS : Hid (FS w W3.heap.size (ye.setCell ⟨zb, 3, none⟩ (.int .i64 0)) (w.heap.size + 1) s _ true [⟨2, 1, .slice a1 data.length c1, data.length, data.flatMap intC⟩, ⟨41, 3, .slice a2 syms.length c2, syms.length, syms.flatMap symC⟩, ⟨43, 4, v, k, l.flatMap relC⟩] [(zb, [.int .i64 ps, .int .i64 0, .string { data := #[] }, .int .i64 0]), (w.heap.size + 1 + 1, [.string code, .slice a1 data.length c1, .slice a2 syms.length c2, v]), (w.heap.size, [.string { data := #[] }, .slice none 0 0, .slice none 0 0, .slice none 0 0])]) := HS.out.put 0 zb [.int .i64 ps, .int .i64 0, .string { data := #[] }, .int .i64 0] rfl 3 (by simp) (.int .i64 0)
        obtain ⟨Ye, hYe⟩ : ∃ Y, ye.setCell ⟨zb, 3, none⟩ (.int .i64 0) = Y := ⟨_, rfl⟩
        rw [hYe] at HS
        have p0 := (HS.out.box 0 _ rfl).1 0 _ rfl
        have p1 := (HS.out.box 0 _ rfl).1 1 _ rfl
        have p2 := (HS.out.box 0 _ rfl).1 2 _ rfl
        have p3 := (HS.out.box 0 _ rfl).1 3 _ rfl
        have pv := (HS.out.box 1 _ rfl).1 3 _ rfl
        have HA : Hid _ := (HS.out.alloc #[.int .i64 ps, .int .i64 0, .string { data := #[] }, .int .i64 0] 43).drop
        have HNC : Hid (∀ j u, ([.int .i64 ps, .int .i64 0, .string { data := #[] }, .int .i64 0] : List Value)[j]? = some u → (Ye.alloc (.cells #[.int .i64 ps, .int .i64 0, .string { data := #[] }, .int .i64 0] 43)).cell? ((⟨Ye.heap.size, 0, none⟩ : Addr).add j) = some u) := fun j u hu => by rw [Addr.add_lit, Nat.zero_add]; exact cell_last rfl (by simpa using hu)
        have hzB : W3.heap.size ≤ Ye.heap.size := HS.out.Bx
        go_wp2_with (first | (at_builtin; refine wpList_append_lies _ rfl _ _ 24 rfl W3.heap.size 43 i3 _ 4 40 Try.underlying24 hi3 hz30 hz31 hz32 rfl (by decide) v k _ rfl (HA.out.own 2 _ rfl) ⟨Ye.heap.size, 0, none⟩ 1 1 [.int .i64 ps, .int .i64 0, .string { data := #[] }, .int .i64 0] rfl rfl HNC.out (by intro u hu; simp at hu; rcases hu with rfl | rfl | rfl | rfl <;> rfl) (by decide) (by unfold maxLen; omega) (by omega) (by simp; omega) (Ye.heap.size + 1) (by simp) ?_) | go_in)
        intro g cap Y6 ho6 hg6 hat6 hlt6
        rw [← s3] at ho6
        have HP : Hid _ := HA.out.push (k := 2) rfl ho6 hg6 hat6 (by simp)
        have pw := (HP.out.box 1 _ rfl).1 3 _ rfl
        have fw := (HP.out.box 1 _ rfl).2.1 3
        have HQ : Hid _ := (HP.out.put 1 (w.heap.size + 1 + 1) [.string code, .slice a1 data.length c1, .slice a2 syms.length c2, v] rfl 3 (by simp) (.slice (some ⟨g, 0, none⟩) (k + 1) cap)).drop
        clear ho6 hg6 hat6 hlt6 HNC
        go_wp2_with fail
        go_roundg (n7 - (k + 1))
        case measure => omega
        case rel => exact ⟨k + 1, by first | rfl | (congr 1; omega), by omega, Nat.le_refl _, Or.inr ⟨HNB.out, _, _, _, HQ.out⟩⟩
      have G1 : Hid _ := hf
      have HS : Hid _ := HS.out.call hr hg
      clear hf hr hg
      have q := (HS.out.box 0 _ rfl).1 1 _ rfl
      have zf := (HS.out.box 0 _ rfl).2.1 1
      have HS : Hid (FS w W3.heap.size (yb.setCell ⟨zb, 1, none⟩ (.int .i64 kd)) (w.heap.size + 1) s _ false [⟨2, 1, .slice a1 data.length c1, data.length, data.flatMap intC⟩, ⟨41, 3, .slice a2 syms.length c2, syms.length, syms.flatMap symC⟩, ⟨43, 4, v, k, l.flatMap relC⟩] [(zb, [.int .i64 ps, .int .i64 kd, .string { data := #[] }, .int .i64 0]), (w.heap.size + 1 + 1, [.string code, .slice a1 data.length c1, .slice a2 syms.length c2, v]), (w.heap.size, [.string { data := #[] }, .slice none 0 0, .slice none 0 0, .slice none 0 0])]) := HS.out.put 0 zb [.int .i64 ps, .int .i64 0, .string { data := #[] }, .int .i64 0] rfl 1 (by simp) (.int .i64 kd)
      obtain ⟨Yc, hYc⟩ : ∃ Y, yb.setCell ⟨zb, 1, none⟩ (.int .i64 kd) = Y := ⟨_, rfl⟩
      rw [hYc] at HS
      go_wp2_with fail
      clear q zf hYc
      refine (xnum_any HS.out.rd 28 (by decide)).mono ?_
      rintro e yc ⟨⟨x, jc, hf, rfl, hr⟩ | ⟨hf, rfl, jx, hr⟩, hg⟩
      rotate_left
      · have HNB : Hid (rdBody s = none) := by
          show _ = _
          have hsn : rdRel s j = none := by simp only [rdRel, rdName, G0.out, G1.out, hf]
          have hcut := many_cut HLR.out hlt hsn
          simp only [rdBody, if_true, Int.toNat_natCast, F0.out, F1.out, F2.out, F3.out, F4.out, F5.out, F6.out, F7.out, hcut]
        have HS : Hid _ := HS.out.call hr hg
        clear hf hr hg
        go_wp2_with fail
        refine (xbytes_bad HS.out.rd 0).mono ?_
        rintro e yd ⟨rfl, hr, hg⟩
        have HS : Hid _ := HS.out.call hr hg
        clear hr hg
        have q := (HS.out.box 0 _ rfl).1 2 _ rfl
        have zf := (HS.out.box 0 _ rfl).2.1 2
        have HS : Hid (FS w W3.heap.size (yd.setCell ⟨zb, 2, none⟩ (.string { data := #[] })) (w.heap.size + 1) s _ true [⟨2, 1, .slice a1 data.length c1, data.length, data.flatMap intC⟩, ⟨41, 3, .slice a2 syms.length c2, syms.length, syms.flatMap symC⟩, ⟨43, 4, v, k, l.flatMap relC⟩] [(zb, [.int .i64 ps, .int .i64 kd, .string { data := #[] }, .int .i64 0]), (w.heap.size + 1 + 1, [.string code, .slice a1 data.length c1, .slice a2 syms.length c2, v]), (w.heap.size, [.string { data := #[] }, .slice none 0 0, .slice none 0 0, .slice none 0 0])]) := HS.out.put 0 zb [.int .i64 ps, .int .i64 kd, .string { data := #[] }, .int .i64 0] rfl 2 (by simp) (.string { data := #[] })
        obtain ⟨Yd, hYd⟩ : ∃ Y, yd.setCell ⟨zb, 2, none⟩ (.string { data := #[] }) = Y := ⟨_, rfl⟩
        rw [hYd] at HS
        go_wp2_with fail
        clear q zf hYd
        refine (xwide_bad HS.out.rd).mono ?_
        rintro e ye ⟨rfl, ⟨jx, hr⟩, hg⟩
        have HS : Hid _ := HS.out.call hr hg
        clear hr hg
        have q := (HS.out.box 0 _ rfl).1 3 _ rfl
        have zf := (HS.out.box 0 _ rfl).2.1 3
        have HS : Hid (FS w W3.heap.size (ye.setCell ⟨zb, 3, none⟩ (.int .i64 0)) (w.heap.size + 1) s _ true [⟨2, 1, .slice a1 data.length c1, data.length, data.flatMap intC⟩, ⟨41, 3, .slice a2 syms.length c2, syms.length, syms.flatMap symC⟩, ⟨43, 4, v, k, l.flatMap relC⟩] [(zb, [.int .i64 ps, .int .i64 kd, .string { data := #[] }, .int .i64 0]), (w.heap.size + 1 + 1, [.string code, .slice a1 data.length c1, .slice a2 syms.length c2, v]), (w.heap.size, [.string { data := #[] }, .slice none 0 0, .slice none 0 0, .slice none 0 0])]) := HS.out.put 0 zb [.int .i64 ps, .int .i64 kd, .string { data := #[] }, .int .i64 0] rfl 3 (by simp) (.int .i64 0)
        obtain ⟨Ye, hYe⟩ : ∃ Y, ye.setCell ⟨zb, 3, none⟩ (.int .i64 0) = Y := ⟨_, rfl⟩
        rw [hYe] at HS
        have p0 := (HS.out.box 0 _ rfl).1 0 _ rfl
        have p1 := (HS.out.box 0 _ rfl).1 1 _ rfl
        have p2 := (HS.out.box 0 _ rfl).1 2 _ rfl
        have p3 := (HS.out.box 0 _ rfl).1 3 _ rfl
        have pv := (HS.out.box 1 _ rfl).1 3 _ rfl
        have HA : Hid _ := (HS.out.alloc #[.int .i64 ps, .int .i64 kd, .string { data := #[] }, .int .i64 0] 43).drop
        have HNC : Hid (∀ j u, ([.int .i64 ps, .int .i64 kd, .string { data := #[] }, .int .i64 0] : List Value)[j]? = some u → (Ye.alloc (.cells #[.int .i64 ps, .int .i64 kd, .string { data := #[] }, .int .i64 0] 43)).cell? ((⟨Ye.heap.size, 0, none⟩ : Addr).add j) = some u) := fun j u hu => by rw [Addr.add_lit, Nat.zero_add]; exact cell_last rfl (by simpa using hu)
        have hzB : W3.heap.size ≤ Ye.heap.size := HS.out.Bx
        go_wp2_with (first | (at_builtin; refine wpList_append_lies _ rfl _ _ 24 rfl W3.heap.size 43 i3 _ 4 40 Try.underlying24 hi3 hz30 hz31 hz32 rfl (by decide) v k _ rfl (HA.out.own 2 _ rfl) ⟨Ye.heap.size, 0, none⟩ 1 1 [.int .i64 ps, .int .i64 kd, .string { data := #[] }, .int .i64 0] rfl rfl HNC.out (by intro u hu; simp at hu; rcases hu with rfl | rfl | rfl | rfl <;> rfl) (by decide) (by unfold maxLen; omega) (by omega) (by simp; omega) (Ye.heap.size + 1) (by simp) ?_) | go_in)
        intro g cap Y6 ho6 hg6 hat6 hlt6
        rw [← s3] at ho6
        have HP : Hid _ := HA.out.push (k := 2) rfl ho6 hg6 hat6 (by simp)
        have pw := (HP.out.box 1 _ rfl).1 3 _ rfl
        have fw := (HP.out.box 1 _ rfl).2.1 3
        have HQ : Hid _ := (HP.out.put 1 (w.heap.size + 1 + 1) [.string code, .slice a1 data.length c1, .slice a2 syms.length c2, v] rfl 3 (by simp) (.slice (some ⟨g, 0, none⟩) (k + 1) cap)).drop
        clear ho6 hg6 hat6 hlt6 HNC
        go_wp2_with fail
        go_roundg (n7 - (k + 1))
        case measure => omega
        case rel => exact ⟨k + 1, by first | rfl | (congr 1; omega), by omega, Nat.le_refl _, Or.inr ⟨HNB.out, _, _, _, HQ.out⟩⟩
      obtain ⟨hx0, hx1⟩ := rdUp_nonneg hf
      obtain ⟨m, rfl⟩ : ∃ n : Nat, x = n := ⟨x.toNat, by omega⟩
      have G2 : Hid (rdUp s jb 28 = some ((m : Int), jc)) := hf
      have HS : Hid _ := HS.out.call hr hg
      clear hf hr hg
      go_wp2_with fail
      refine (xbytes_any HS.out.rd m (by omega)).mono ?_
      rintro e yd ⟨⟨nm, jd, hf, rfl, hr⟩ | ⟨hf, rfl, jx, hr⟩, hg⟩
      rotate_left
      · have HNB : Hid (rdBody s = none) := by
          show _ = _
          have hsn : rdRel s j = none := by simp only [rdRel, rdName, G0.out, G1.out, G2.out, Int.toNat_natCast, hf]
          have hcut := many_cut HLR.out hlt hsn
          simp only [rdBody, if_true, Int.toNat_natCast, F0.out, F1.out, F2.out, F3.out, F4.out, F5.out, F6.out, F7.out, hcut]
        have HS : Hid _ := HS.out.call hr hg
        clear hf hr hg
        have q := (HS.out.box 0 _ rfl).1 2 _ rfl
        have zf := (HS.out.box 0 _ rfl).2.1 2
        have HS : Hid (FS w W3.heap.size (yd.setCell ⟨zb, 2, none⟩ (.string { data := #[] })) (w.heap.size + 1) s _ true [⟨2, 1, .slice a1 data.length c1, data.length, data.flatMap intC⟩, ⟨41, 3, .slice a2 syms.length c2, syms.length, syms.flatMap symC⟩, ⟨43, 4, v, k, l.flatMap relC⟩] [(zb, [.int .i64 ps, .int .i64 kd, .string { data := #[] }, .int .i64 0]), (w.heap.size + 1 + 1, [.string code, .slice a1 data.length c1, .slice a2 syms.length c2, v]), (w.heap.size, [.string { data := #[] }, .slice none 0 0, .slice none 0 0, .slice none 0 0])]) := HS.out.put 0 zb [.int .i64 ps, .int .i64 kd, .string { data := #[] }, .int .i64 0] rfl 2 (by simp) (.string { data := #[] })
        obtain ⟨Yd, hYd⟩ : ∃ Y, yd.setCell ⟨zb, 2, none⟩ (.string { data := #[] }) = Y := ⟨_, rfl⟩
        rw [hYd] at HS
        go_wp2_with fail
        clear q zf hYd
        refine (xwide_bad HS.out.rd).mono ?_
        rintro e ye ⟨rfl, ⟨jx, hr⟩, hg⟩
        have HS : Hid _ := HS.out.call hr hg
        clear hr hg
        have q := (HS.out.box 0 _ rfl).1 3 _ rfl
        have zf := (HS.out.box 0 _ rfl).2.1 3
        have HS : Hid (FS w W3.heap.size (ye.setCell ⟨zb, 3, none⟩ (.int .i64 0)) (w.heap.size + 1) s _ true [⟨2, 1, .slice a1 data.length c1, data.length, data.flatMap intC⟩, ⟨41, 3, .slice a2 syms.length c2, syms.length, syms.flatMap symC⟩, ⟨43, 4, v, k, l.flatMap relC⟩] [(zb, [.int .i64 ps, .int .i64 kd, .string { data := #[] }, .int .i64 0]), (w.heap.size + 1 + 1, [.string code, .slice a1 data.length c1, .slice a2 syms.length c2, v]), (w.heap.size, [.string { data := #[] }, .slice none 0 0, .slice none 0 0, .slice none 0 0])]) := HS.out.put 0 zb [.int .i64 ps, .int .i64 kd, .string { data := #[] }, .int .i64 0] rfl 3 (by simp) (.int .i64 0)
        obtain ⟨Ye, hYe⟩ : ∃ Y, ye.setCell ⟨zb, 3, none⟩ (.int .i64 0) = Y := ⟨_, rfl⟩
        rw [hYe] at HS
        have p0 := (HS.out.box 0 _ rfl).1 0 _ rfl
        have p1 := (HS.out.box 0 _ rfl).1 1 _ rfl
        have p2 := (HS.out.box 0 _ rfl).1 2 _ rfl
        have p3 := (HS.out.box 0 _ rfl).1 3 _ rfl
        have pv := (HS.out.box 1 _ rfl).1 3 _ rfl
        have HA : Hid _ := (HS.out.alloc #[.int .i64 ps, .int .i64 kd, .string { data := #[] }, .int .i64 0] 43).drop
        have HNC : Hid (∀ j u, ([.int .i64 ps, .int .i64 kd, .string { data := #[] }, .int .i64 0] : List Value)[j]? = some u → (Ye.alloc (.cells #[.int .i64 ps, .int .i64 kd, .string { data := #[] }, .int .i64 0] 43)).cell? ((⟨Ye.heap.size, 0, none⟩ : Addr).add j) = some u) := fun j u hu => by rw [Addr.add_lit, Nat.zero_add]; exact cell_last rfl (by simpa using hu)
        have hzB : W3.heap.size ≤ Ye.heap.size := HS.out.Bx
        go_wp2_with (first | (at_builtin; refine wpList_append_lies _ rfl _ _ 24 rfl W3.heap.size 43 i3 _ 4 40 Try.underlying24 hi3 hz30 hz31 hz32 rfl (by decide) v k _ rfl (HA.out.own 2 _ rfl) ⟨Ye.heap.size, 0, none⟩ 1 1 [.int .i64 ps, .int .i64 kd, .string { data := #[] }, .int .i64 0] rfl rfl HNC.out (by intro u hu; simp at hu; rcases hu with rfl | rfl | rfl | rfl <;> rfl) (by decide) (by unfold maxLen; omega) (by omega) (by simp; omega) (Ye.heap.size + 1) (by simp) ?_) | go_in)
        intro g cap Y6 ho6 hg6 hat6 hlt6
        rw [← s3] at ho6
        have HP : Hid _ := HA.out.push (k := 2) rfl ho6 hg6 hat6 (by simp)
        have pw := (HP.out.box 1 _ rfl).1 3 _ rfl
        have fw := (HP.out.box 1 _ rfl).2.1 3
        have HQ : Hid _ := (HP.out.put 1 (w.heap.size + 1 + 1) [.string code, .slice a1 data.length c1, .slice a2 syms.length c2, v] rfl 3 (by simp) (.slice (some ⟨g, 0, none⟩) (k + 1) cap)).drop
        clear ho6 hg6 hat6 hlt6 HNC
        go_wp2_with fail
        go_roundg (n7 - (k + 1))
        case measure => omega
        case rel => exact ⟨k + 1, by first | rfl | (congr 1; omega), by omega, Nat.le_refl _, Or.inr ⟨HNB.out, _, _, _, HQ.out⟩⟩
      have G3 : Hid _ := hf
      have HS : Hid _ := HS.out.call hr hg
      clear hf hr hg
      have q := (HS.out.box 0 _ rfl).1 2 _ rfl
      have zf := (HS.out.box 0 _ rfl).2.1 2
      have HS : Hid (FS w W3.heap.size (yd.setCell ⟨zb, 2, none⟩ (.string nm)) (w.heap.size + 1) s _ false [⟨2, 1, .slice a1 data.length c1, data.length, data.flatMap intC⟩, ⟨41, 3, .slice a2 syms.length c2, syms.length, syms.flatMap symC⟩, ⟨43, 4, v, k, l.flatMap relC⟩] [(zb, [.int .i64 ps, .int .i64 kd, .string nm, .int .i64 0]), (w.heap.size + 1 + 1, [.string code, .slice a1 data.length c1, .slice a2 syms.length c2, v]), (w.heap.size, [.string { data := #[] }, .slice none 0 0, .slice none 0 0, .slice none 0 0])]) := HS.out.put 0 zb [.int .i64 ps, .int .i64 kd, .string { data := #[] }, .int .i64 0] rfl 2 (by simp) (.string nm)
      obtain ⟨Yd, hYd⟩ : ∃ Y, yd.setCell ⟨zb, 2, none⟩ (.string nm) = Y := ⟨_, rfl⟩
      rw [hYd] at HS
      go_wp2_with fail
      clear q zf hYd
      refine (xwide_any HS.out.rd).mono ?_
      rintro e ye ⟨⟨ad, je, hf, rfl, hr⟩ | ⟨hf, rfl, jx, hr⟩, hg⟩
      rotate_left
      · have HNB : Hid (rdBody s = none) := by
          show _ = _
          have hsn : rdRel s j = none := by simp only [rdRel, rdName, G0.out, G1.out, G2.out, Int.toNat_natCast, G3.out, hf]
          have hcut := many_cut HLR.out hlt hsn
          simp only [rdBody, if_true, Int.toNat_natCast, F0.out, F1.out, F2.out, F3.out, F4.out, F5.out, F6.out, F7.out, hcut]
        have HS : Hid _ := HS.out.call hr hg
        clear hf hr hg
        have q := (HS.out.box 0 _ rfl).1 3 _ rfl
        have zf := (HS.out.box 0 _ rfl).2.1 3
        have HS : Hid (FS w W3.heap.size (ye.setCell ⟨zb, 3, none⟩ (.int .i64 0)) (w.heap.size + 1) s _ true [⟨2, 1, .slice a1 data.length c1, data.length, data.flatMap intC⟩, ⟨41, 3, .slice a2 syms.length c2, syms.length, syms.flatMap symC⟩, ⟨43, 4, v, k, l.flatMap relC⟩] [(zb, [.int .i64 ps, .int .i64 kd, .string nm, .int .i64 0]), (w.heap.size + 1 + 1, [.string code, .slice a1 data.length c1, .slice a2 syms.length c2, v]), (w.heap.size, [.string { data := #[] }, .slice none 0 0, .slice none 0 0, .slice none 0 0])]) := HS.out.put 0 zb [.int .i64 ps, .int .i64 kd, .string nm, .int .i64 0] rfl 3 (by simp) (.int .i64 0)
        obtain ⟨Ye, hYe⟩ : ∃ Y, ye.setCell ⟨zb, 3, none⟩ (.int .i64 0) = Y := ⟨_, rfl⟩
        rw [hYe] at HS
        have p0 := (HS.out.box 0 _ rfl).1 0 _ rfl
        have p1 := (HS.out.box 0 _ rfl).1 1 _ rfl
        have p2 := (HS.out.box 0 _ rfl).1 2 _ rfl
        have p3 := (HS.out.box 0 _ rfl).1 3 _ rfl
        have pv := (HS.out.box 1 _ rfl).1 3 _ rfl
        have HA : Hid _ := (HS.out.alloc #[.int .i64 ps, .int .i64 kd, .string nm, .int .i64 0] 43).drop
        have HNC : Hid (∀ j u, ([.int .i64 ps, .int .i64 kd, .string nm, .int .i64 0] : List Value)[j]? = some u → (Ye.alloc (.cells #[.int .i64 ps, .int .i64 kd, .string nm, .int .i64 0] 43)).cell? ((⟨Ye.heap.size, 0, none⟩ : Addr).add j) = some u) := fun j u hu => by rw [Addr.add_lit, Nat.zero_add]; exact cell_last rfl (by simpa using hu)
        have hzB : W3.heap.size ≤ Ye.heap.size := HS.out.Bx
        go_wp2_with (first | (at_builtin; refine wpList_append_lies _ rfl _ _ 24 rfl W3.heap.size 43 i3 _ 4 40 Try.underlying24 hi3 hz30 hz31 hz32 rfl (by decide) v k _ rfl (HA.out.own 2 _ rfl) ⟨Ye.heap.size, 0, none⟩ 1 1 [.int .i64 ps, .int .i64 kd, .string nm, .int .i64 0] rfl rfl HNC.out (by intro u hu; simp at hu; rcases hu with rfl | rfl | rfl | rfl <;> rfl) (by decide) (by unfold maxLen; omega) (by omega) (by simp; omega) (Ye.heap.size + 1) (by simp) ?_) | go_in)
        intro g cap Y6 ho6 hg6 hat6 hlt6
        rw [← s3] at ho6
        have HP : Hid _ := HA.out.push (k := 2) rfl ho6 hg6 hat6 (by simp)
        have pw := (HP.out.box 1 _ rfl).1 3 _ rfl
        have fw := (HP.out.box 1 _ rfl).2.1 3
        have HQ : Hid _ := (HP.out.put 1 (w.heap.size + 1 + 1) [.string code, .slice a1 data.length c1, .slice a2 syms.length c2, v] rfl 3 (by simp) (.slice (some ⟨g, 0, none⟩) (k + 1) cap)).drop
        clear ho6 hg6 hat6 hlt6 HNC
        go_wp2_with fail
        go_roundg (n7 - (k + 1))
        case measure => omega
        case rel => exact ⟨k + 1, by first | rfl | (congr 1; omega), by omega, Nat.le_refl _, Or.inr ⟨HNB.out, _, _, _, HQ.out⟩⟩
      have G4 : Hid _ := hf
      have HS : Hid _ := HS.out.call hr hg
      clear hf hr hg
      have q := (HS.out.box 0 _ rfl).1 3 _ rfl
      have zf := (HS.out.box 0 _ rfl).2.1 3
      have HS : Hid (FS w W3.heap.size (ye.setCell ⟨zb, 3, none⟩ (.int .i64 ad)) (w.heap.size + 1) s _ false [⟨2, 1, .slice a1 data.length c1, data.length, data.flatMap intC⟩, ⟨41, 3, .slice a2 syms.length c2, syms.length, syms.flatMap symC⟩, ⟨43, 4, v, k, l.flatMap relC⟩] [(zb, [.int .i64 ps, .int .i64 kd, .string nm, .int .i64 ad]), (w.heap.size + 1 + 1, [.string code, .slice a1 data.length c1, .slice a2 syms.length c2, v]), (w.heap.size, [.string { data := #[] }, .slice none 0 0, .slice none 0 0, .slice none 0 0])]) := HS.out.put 0 zb [.int .i64 ps, .int .i64 kd, .string nm, .int .i64 0] rfl 3 (by simp) (.int .i64 ad)
      obtain ⟨Ye, hYe⟩ : ∃ Y, ye.setCell ⟨zb, 3, none⟩ (.int .i64 ad) = Y := ⟨_, rfl⟩
      rw [hYe] at HS
      have p0 := (HS.out.box 0 _ rfl).1 0 _ rfl
      have p1 := (HS.out.box 0 _ rfl).1 1 _ rfl
      have p2 := (HS.out.box 0 _ rfl).1 2 _ rfl
      have p3 := (HS.out.box 0 _ rfl).1 3 _ rfl
      have pv := (HS.out.box 1 _ rfl).1 3 _ rfl
      have HLN : Hid (rdMany rdRel (k + 1) s j7 = some (l ++ [(⟨ps, kd, nm, ad⟩ : Rel)], je)) := by show _ = _; rw [rdMany, HLR.out]; simp only [rdRel, rdName, G0.out, G1.out, G2.out, Int.toNat_natCast, G3.out, G4.out]
      have HA : Hid _ := (HS.out.alloc #[.int .i64 ps, .int .i64 kd, .string nm, .int .i64 ad] 43).drop
      have HNC : Hid (∀ j u, ([.int .i64 ps, .int .i64 kd, .string nm, .int .i64 ad] : List Value)[j]? = some u → (Ye.alloc (.cells #[.int .i64 ps, .int .i64 kd, .string nm, .int .i64 ad] 43)).cell? ((⟨Ye.heap.size, 0, none⟩ : Addr).add j) = some u) := fun j u hu => by rw [Addr.add_lit, Nat.zero_add]; exact cell_last rfl (by simpa using hu)
      have hzB : W3.heap.size ≤ Ye.heap.size := HS.out.Bx
      go_wp2_with (first | (at_builtin; refine wpList_append_lies _ rfl _ _ 24 rfl W3.heap.size 43 i3 _ 4 40 Try.underlying24 hi3 hz30 hz31 hz32 rfl (by decide) v k _ rfl (HA.out.own 2 _ rfl) ⟨Ye.heap.size, 0, none⟩ 1 1 [.int .i64 ps, .int .i64 kd, .string nm, .int .i64 ad] rfl rfl HNC.out (by intro u hu; simp at hu; rcases hu with rfl | rfl | rfl | rfl <;> rfl) (by decide) (by unfold maxLen; omega) (by omega) (by simp; omega) (Ye.heap.size + 1) (by simp) ?_) | go_in)
      intro g cap Y6 ho6 hg6 hat6 hlt6
      rw [← s3] at ho6
      have HP : Hid _ := HA.out.push (k := 2) rfl ho6 hg6 hat6 (by simp)
      have pw := (HP.out.box 1 _ rfl).1 3 _ rfl
      have fw := (HP.out.box 1 _ rfl).2.1 3
      have HQ : Hid _ := (HP.out.put 1 (w.heap.size + 1 + 1) [.string code, .slice a1 data.length c1, .slice a2 syms.length c2, v] rfl 3 (by simp) (.slice (some ⟨g, 0, none⟩) (k + 1) cap)).drop
      clear ho6 hg6 hat6 hlt6 HNC
      go_wp2_with fail
      have HPX : Hid (LR w (Y6.setCell ⟨w.heap.size + 1 + 1, 3, none⟩ (.slice (some ⟨g, 0, none⟩) (k + 1) cap)) W3.heap.size (w.heap.size + 1) s (w.heap.size + 1 + 1) w.heap.size j7 (k + 1) ⟨2, 1, .slice a1 data.length c1, data.length, data.flatMap intC⟩ ⟨41, 3, .slice a2 syms.length c2, syms.length, syms.flatMap symC⟩ [.string code, .slice a1 data.length c1, .slice a2 syms.length c2]) := ⟨l ++ [(⟨ps, kd, nm, ad⟩ : Rel)], _, _, HLN.out, by have hp := HQ.out; rw [show (l ++ [(⟨ps, kd, nm, ad⟩ : Rel)]).flatMap relC = l.flatMap relC ++ [.int .i64 ps, .int .i64 kd, .string nm, .int .i64 ad] by simp [relC]]; exact hp⟩
      go_roundg (n7 - (k + 1))
      case measure => omega
      case rel => exact ⟨k + 1, by first | rfl | (congr 1; omega), by omega, Nat.le_refl _, Or.inl HPX.out⟩
    · obtain rfl : n7 = k := by omega
      have hd : decide ((n7 : Int) < n7) = false := decide_eq_false (by omega)
      obtain ⟨rels, rfl⟩ : ∃ xs, xs = l := ⟨_, rfl⟩
      obtain ⟨j8, rfl⟩ : ∃ x, x = j := ⟨_, rfl⟩
      have F8 : Hid _ := HLR.out
      have hrl := many_len HLR.out
      obtain ⟨a3, c3, hs3⟩ : ∃ a c, v = .slice a n7 c := own_slice (HS.out.own 2 _ rfl)
      subst hs3
      have HBODY : Hid (rdBody s = some (⟨code, data, syms, rels⟩, j8)) := by show _ = _; simp only [rdBody, if_true, Int.toNat_natCast, F0.out, F1.out, F2.out, F3.out, F4.out, F5.out, F6.out, F7.out, F8.out]
      have HIN : Hid _ := (body_sound HBODY.out).2.2
      have HOX : Hid (∀ {x : World} {i : Nat} {b : Bool} {bs : List (Nat × List Value)}, FS w W3.heap.size x (w.heap.size + 1) s i b [⟨2, 1, .slice a1 data.length c1, data.length, data.flatMap intC⟩, ⟨41, 3, .slice a2 syms.length c2, syms.length, syms.flatMap symC⟩, ⟨43, 4, .slice a3 n7 c3, n7, rels.flatMap relC⟩] bs → ObjF W3.heap.size x (.agg #[.string code, .slice a1 data.length c1, .slice a2 syms.length c2, .slice a3 n7 c3]) ⟨code, data, syms, rels⟩) := fun F => by
        refine ⟨⟨_, _, _, rfl, F.own 0 _ rfl, F.own 1 _ rfl, ?_⟩, HIN.out⟩
        show World.ownsRow _ _ _ _ _ rels.length _
        rw [hrl]
        exact F.own 2 _ rfl
      have p0 := (HS.out.box 0 _ rfl).1 0 _ rfl
      have p1 := (HS.out.box 0 _ rfl).1 1 _ rfl
      have p2 := (HS.out.box 0 _ rfl).1 2 _ rfl
      have p3 := (HS.out.box 0 _ rfl).1 3 _ rfl
      have t1 := HS.out.rd.c1
      clear HLR
      by_cases hj : j8 = s.size
      rotate_left
      · have HNB : Hid (rdObj s = none) := by show _ = _; simp only [rdObj, HBODY.out]; rw [if_neg (fun h => hj h.1)]
        have hdj : ((j8 : Int) != (s.size : Int)) = true := by simp; omega
        have o0 := (HS.out.box 1 _ rfl).1 0 _ rfl
        have g0 := (HS.out.box 1 _ rfl).2.1 0
        have o1 := (HS.out.box 1 _ rfl).1 1 _ rfl
        have g1 := (HS.out.box 1 _ rfl).2.1 1
        have o2 := (HS.out.box 1 _ rfl).1 2 _ rfl
        have g2 := (HS.out.box 1 _ rfl).2.1 2
        have o3 := (HS.out.box 1 _ rfl).1 3 _ rfl
        have g3 := (HS.out.box 1 _ rfl).2.1 3
        have HBE : Hid _ := HW.out HS.out.g
        go_wp2
        refine bodyPost_ret (v := .tuple #[noObjV, .int .i64 9]) (by simp [results, Try.results17, go_sem, o0, o1, o2, o3, noObjV]) rfl ?_
        exact ⟨.inr ⟨HNB.out, rfl⟩, (((HBE.out.setCell (Nat.le_refl _) _).setCell (Nat.le_refl _) _).setCell (Nat.le_refl _) _).setCell (Nat.le_refl _) _⟩
      have hdj : ((j8 : Int) != (s.size : Int)) = false := by simp; omega
      have HJ : Hid _ := hj
      clear hj
      go_wp2_with fail
      refine (rmay_any (HOX.out HS.out).toV).mono ?_
      rintro e Y ⟨rfl, hbY⟩
      have HS : Hid _ := HS.out.below hbY
      clear hbY p0 p1 p2 p3 t1 q2
      have p0 := (HS.out.box 0 _ rfl).1 0 _ rfl
      have p1 := (HS.out.box 0 _ rfl).1 1 _ rfl
      have p2 := (HS.out.box 0 _ rfl).1 2 _ rfl
      have p3 := (HS.out.box 0 _ rfl).1 3 _ rfl
      cases hm : ObjD.may ⟨code, data, syms, rels⟩ with
      | false =>
        have HNB : Hid (rdObj s = none) := by show _ = _; simp only [rdObj, HBODY.out]; rw [if_neg (fun h => by rw [hm] at h; exact absurd h.2 (by decide))]
        clear hm
        have o0 := (HS.out.box 1 _ rfl).1 0 _ rfl
        have g0 := (HS.out.box 1 _ rfl).2.1 0
        have o1 := (HS.out.box 1 _ rfl).1 1 _ rfl
        have g1 := (HS.out.box 1 _ rfl).2.1 1
        have o2 := (HS.out.box 1 _ rfl).1 2 _ rfl
        have g2 := (HS.out.box 1 _ rfl).2.1 2
        have o3 := (HS.out.box 1 _ rfl).1 3 _ rfl
        have g3 := (HS.out.box 1 _ rfl).2.1 3
        have HBE : Hid _ := HW.out HS.out.g
        go_wp2
        refine bodyPost_ret (v := .tuple #[noObjV, .int .i64 9]) (by simp [results, Try.results17, go_sem, o0, o1, o2, o3, noObjV]) rfl ?_
        exact ⟨.inr ⟨HNB.out, rfl⟩, (((HBE.out.setCell (Nat.le_refl _) _).setCell (Nat.le_refl _) _).setCell (Nat.le_refl _) _).setCell (Nat.le_refl _) _⟩
      | true =>
        have HF : Hid (rdObj s = some ⟨code, data, syms, rels⟩) := by show _ = _; simp only [rdObj, HBODY.out]; rw [if_pos ⟨HJ.out, hm⟩]
        clear hm
        have o0 := (HS.out.box 1 _ rfl).1 0 _ rfl
        have g0 := (HS.out.box 1 _ rfl).2.1 0
        have o1 := (HS.out.box 1 _ rfl).1 1 _ rfl
        have g1 := (HS.out.box 1 _ rfl).2.1 1
        have o2 := (HS.out.box 1 _ rfl).1 2 _ rfl
        have g2 := (HS.out.box 1 _ rfl).2.1 2
        have o3 := (HS.out.box 1 _ rfl).1 3 _ rfl
        have g3 := (HS.out.box 1 _ rfl).2.1 3
        have HBE : Hid _ := HW.out HS.out.g
        have HOE : Hid _ := HOX.out HS.out
        have hl0 : w.heap.size < W3.heap.size := by omega
        go_wp2
        refine bodyPost_ret (v := .tuple #[.agg #[.string code, .slice a1 data.length c1, .slice a2 syms.length c2, .slice a3 n7 c3], .int .i64 0]) (by simp [results, Try.results17, go_sem, o0, o1, o2, o3]) rfl ?_
        exact ⟨.inl ⟨_, HF.out, _, rfl, ((((HOE.out.far _ _ hl0).far _ _ hl0).far _ _ hl0).far _ _ hl0).mono (Nat.le_of_lt hl0)⟩, (((HBE.out.setCell (Nat.le_refl _) _).setCell (Nat.le_refl _) _).setCell (Nat.le_refl _) _).setCell (Nat.le_refl _) _⟩

end Go.Proofs.Ytmpmfjplnajjdaa

/- The text of items, by the document. -/
import Derived.Test.YteakimepdnojdaaGreatDoorAsRefF
import Derived.Test.YteakimepdnojdaaGreatDoorAsPrintB
namespace Go.Proofs.YteakimepdnojdaaGreatDoor
open Go.RowKit Go.Lib
set_option linter.unusedVariables false
set_option linter.unusedSimpArgs false

set_option maxRecDepth 100000 in
set_option maxHeartbeats 8000000 in
theorem rprint_any {w : World} {al : Option Addr} {l c : Nat} {ts : List X.It} (h : ItsV w al l c ts) :
    Calls Tryz.prog 11 #[.slice al l c] w (PrintOut w (X.print ts)) := by
  have hck := rMay_any h
  have H : Hid _ := h
  have hm : l ≤ 9223372036854775807 := by have := h.room; unfold maxLen at this; omega
  have HCT : Hid (ts.length = l) := h.count
  clear h
  cases hok : X.itsOk ts
  · have HR : Hid (X.print ts = ([], 1)) := by show _ = _; unfold X.print; rw [if_neg (by rw [hok]; simp)]
    rw [hok] at hck
    go_enter Tryz.func11, Tryz.ntmps11
    go_wp2_with fail
    refine hck.mono ?_
    rintro e y ⟨rfl, hb⟩
    have HB : Hid _ := hb
    clear hb hck
    go_wp2_with fail
    go_ret2
    unfold PrintOut
    rw [HR.out]
    exact ⟨rfl, HB.out⟩
  rw [hok] at hck
  have HOK : Hid _ := X.itsOk_iff.1 hok
  have hl20 : l ≤ 20000 := by have := (X.itsOk_iff.1 hok).1; rw [HCT.out] at this; exact this
  have HP : Hid (X.print ts = if 200000 < (X.text ts).length then ([], 8) else (X.text ts, 0)) := by show _ = _; unfold X.print; rw [if_pos hok]
  clear hok
  go_enter Tryz.func11, Tryz.ntmps11
  go_wp2_with fail
  refine hck.mono ?_
  rintro e w1 ⟨rfl, hb⟩
  have HB1 : Hid (Below w.heap.size w w1) := hb
  clear hb hck
  go_wp2_with fail
  go_loopg [4, 5] l (fun rr bv iv wq => ∃ (k : Nat), iv = .int .i64 k ∧ k ≤ l ∧ l - k ≤ rr ∧ (X.text (ts.take k)).length ≤ 130001 * k ∧ Hid (RB wq w1.heap.size bv (X.text (ts.take k))) ∧ Hid (Below w1.heap.size w1 wq))
  case atStart => exact ⟨0, rfl, Nat.zero_le _, by omega, by simp [X.text], (by have := RB.nil w1 w1.heap.size; simpa [X.text] using this : RB w1 w1.heap.size (.slice none 0 0) (X.text (ts.take 0))), Below.refl _ _⟩
  case round =>
    obtain ⟨k, rfl, hk, hr, hlen, HO, HB⟩ := hrel
    have HW : Hid (Below w.heap.size w wr) := HB1.out.trans (HB.out.mono HB1.out.size)
    obtain ⟨zs, HZS⟩ : ∃ zs : X.By, Hid (zs = X.text (ts.take k)) := ⟨_, rfl⟩
    rw [← HZS.out] at HO hlen
    obtain ⟨ab, cb, rfl⟩ := HO.out.slice
    by_cases hlt : k < l
    · have hii : (k : Int) < l := by omega
      have hin : 0 ≤ (k : Int) := by omega
      obtain ⟨b, off, t, aw, lw, cw, rfl, hg, hmem, c0, c1, c2, c3, c4, c5, c6, hi⟩ := (H.out.below HW.out).at hlt
      have hokt := HOK.out.2 t hmem
      have hft := (H.out.fit t hmem).2
      obtain ⟨kd, nm, op, a, bb, n, ws⟩ := t
      simp only at c0 c1 c2 c3 c4 c5 hi
      have hline := fun w hi => rline_any kd (X.str nm) op a bb n aw lw cw ws (by rw [str_list]; exact hokt) (by rw [str_list]; exact hft) w hi
      simp only [str_list] at hline
      have hll := line_small hokt hft
      have HTK : Hid (X.text (ts.take (k + 1)) = X.text (ts.take k) ++ (Go.Lib.join (X.said ⟨kd, nm, op, a, bb, n, ws⟩) [32] ++ [10])) := by show _ = _; rw [text_take (by rw [HCT.out]; exact hlt), hg]; rfl
      have HI : Hid _ := hi
      clear hokt hft hg hmem hi
      obtain ⟨L, hL⟩ : ∃ L, X.str (Go.Lib.join (X.said ⟨kd, nm, op, a, bb, n, ws⟩) [32]) = L := ⟨_, rfl⟩
      have HLL : Hid (Go.Lib.join (X.said ⟨kd, nm, op, a, bb, n, ws⟩) [32] = L.data.toList) := by show _ = _; rw [← hL]; rfl
      have hls : L.size ≤ 130000 := by rw [← hL, str_size]; exact hll
      have z1 : ¬ 9223372036854775807 < L.size + 1 := by omega
      go_wp2_with fail
      refine (hline _ HI.out).mono ?_
      rintro e y1 ⟨rfl, hb1⟩
      have HB2 : Hid (Below wr.heap.size wr y1) := hb1
      have HO1 : Hid _ := HO.out.below HB2.out
      have hwb : w1.heap.size ≤ y1.heap.size := Nat.le_trans HB.out.size HB2.out.size
      rw [hL]
      clear hb1 hline c0 c1 c2 c3 c4 c5 c6 hL hll
      have HSS : Hid ((L ++ ({ data := #[10] } : ByteArray)).size = L.size + 1) := by show _ = _; rw [ByteArray.size_append]; rfl
      go_wp2_with (first | (at_builtin; refine wpList_append_rb (B := w1.heap.size) rfl _ _ rfl rfl HO1.out hwb (L ++ ({ data := #[10] } : ByteArray)) (by rw [HSS.out]; omega) rfl (by rw [HSS.out]; omega) ?_) | go_in)
      intro v2 y2 hrb2 hgr2
      have HRB2 : Hid (RB y2 w1.heap.size v2 (X.text (ts.take (k + 1)))) := by
        show RB _ _ _ _
        rw [HTK.out, HLL.out, ← HZS.out]
        simpa using hrb2
      have hlen2 : (X.text (ts.take (k + 1))).length ≤ 130001 * (k + 1) := by
        rw [HTK.out, HLL.out, ← HZS.out]
        simp only [List.length_append, len_list]
        simp only [List.length_cons, List.length_nil]
        omega
      have HB3 : Hid (Below w1.heap.size w1 y2) := (HB.out.trans (HB2.out.mono HB.out.size)).trans (hgr2.toBelow hwb (fun g hg => (HO1.out.lt g hg).1))
      have HL2 : Hid _ := hlen2
      clear hrb2 hgr2 hlen2
      obtain ⟨z2, HZ2⟩ : ∃ zs : X.By, Hid (zs = X.text (ts.take (k + 1))) := ⟨_, rfl⟩
      rw [← HZ2.out] at HRB2
      obtain ⟨a2, c2, rfl⟩ := HRB2.out.slice
      go_wp2_with fail
      go_roundg (l - (k + 1))
      case measure => omega
      case rel => exact ⟨k + 1, by go_num, by omega, Nat.le_refl _, HL2.out, (by rw [← HZ2.out]; exact HRB2.out : RB y2 w1.heap.size _ (X.text (ts.take (k + 1)))), HB3.out⟩
    · obtain rfl : k = l := by omega
      have hii : ¬ (k : Int) < k := by omega
      have hfull : ts.take k = ts := List.take_of_length_le (by rw [HCT.out]; exact Nat.le_refl _)
      have hZ : zs = X.text ts := by rw [HZS.out, hfull]
      have hback := rb_back HO.out
      have HZ : Hid _ := hZ
      clear hfull hZ
      by_cases hbig : 200000 < zs.length
      · have HR : Hid (X.print ts = ([], 8)) := by show _ = _; rw [HP.out, if_pos (by rw [← HZ.out]; exact hbig)]
        have hbig' : (200000 : Int) < zs.length := by omega
        go_wp2_with fail
        go_ret2
        unfold PrintOut
        rw [HR.out]
        exact ⟨rfl, HW.out⟩
      · have HR : Hid (X.print ts = (zs, 0)) := by show _ = _; rw [HP.out, if_neg (by rw [← HZ.out]; exact hbig), HZ.out]
        have hbig' : ¬ (200000 : Int) < zs.length := by omega
        go_wp2_with fail
        go_ret2
        unfold PrintOut
        rw [HR.out]
        exact ⟨rfl, HW.out⟩

end Go.Proofs.YteakimepdnojdaaGreatDoor

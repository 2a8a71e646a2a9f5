/- Print. -/
import Derived.Test.YtbkjiipelmfbjaaGreatDoorAsPrint
namespace Go.Proofs.YtbkjiipelmfbjaaGreatDoor
open Go.RowKit
set_option linter.unusedVariables false
set_option linter.unusedSimpArgs false

theorem builder_write (B b : Nat) (bs : List Value) (s : ByteArray) (w : World) (h : Lib.IsBuilder 47 5 B b bs w) (hlen : bs.length + s.size ≤ 140737488355328) (hBw : B ≤ w.heap.size) :
    Calls Tryz.prog 14 #[.pointer (some ⟨b, 0, none⟩), .string s] w fun e w' => e = .returned (.tuple #[.int .i64 s.size, .nilIface]) ∧ (Lib.BuilderAt 47 5 B b (.pointer (some ⟨b, 0, none⟩)) (bs ++ Lib.strCells s) w' ∧ Below B w w') :=
  Any.Builder_WriteString { Tryz.lays156 with } Tryz.Builder_Extra_156 B b bs s w h hlen hBw
theorem builder_at_below {T e : TypeId} {B b : Nat} {p : Value} {bs : List Value} {w w' : World} (h : Lib.BuilderAt T e B b p bs w) (hb : Below w.heap.size w w') : Lib.BuilderAt T e B b p bs w' := by
  obtain ⟨h1, v, h2, h3, h4⟩ := h
  exact ⟨h1, v, (hb.block b (Array.getElem?_eq_some_iff.1 h2).1).trans h2, own_thru h3 hb, h4⟩
theorem builder_below {T e : TypeId} {B b : Nat} {bs : List Value} {w w' : World} (h : Lib.IsBuilder T e B b bs w) (hb : Below w.heap.size w w') : Lib.IsBuilder T e B b bs w' :=
  h.imp (fun h => builder_at_below h hb) (fun h => builder_at_below h hb)
theorem text_take {ts : List X.It} {k : Nat} (hk : k < ts.length) : X.text (ts.take (k + 1)) = X.text (ts.take k) ++ X.lineOf (ts.getD k X.noIt) := by
  unfold X.text
  rw [List.take_add_one, List.getElem?_eq_getElem hk, List.flatMap_append]
  simp [List.getD, hk]
theorem text_mono (ts : List X.It) (k : Nat) : (X.text (ts.take k)).length ≤ (X.text ts).length := by
  conv => rhs; rw [← List.take_append_drop k ts]
  unfold X.text
  rw [List.flatMap_append, List.length_append]
  omega
theorem cells_app (l m : X.By) : Lib.byteCells l ++ Lib.strCells (X.str m) = Lib.byteCells (l ++ m) := by
  unfold Lib.byteCells Lib.strCells
  rw [str_list, List.map_append]
/-- What Print leaves. -/
def PrintOut (w : World) (r : X.By × Nat) (e : Ending) (w' : World) : Prop := e = .returned (.tuple #[.string (X.str r.1), .int .i64 r.2]) ∧ Below w.heap.size w w'

set_option maxRecDepth 100000 in
set_option maxHeartbeats 8000000 in
theorem print_any {w : World} {al : Option Addr} {l c : Nat} {ts : List X.It} (h : ItsV w al l c ts) (ht : Tab w) :
    Calls Tryz.prog 8 #[.slice al l c] w (PrintOut w (X.print ts)) := by
  have hck := check_any h ht
  have H : Hid _ := h
  have HT : Hid _ := ht
  have hm : l ≤ 9223372036854775807 := by have := h.room; unfold maxLen at this; omega
  have HCT : Hid (ts.length = l) := h.count
  clear h ht
  by_cases hok : X.itsOk ts = true
  rotate_left
  · have HR : Hid (X.print ts = ([], 1)) := by show _ = _; unfold X.print; rw [if_neg hok]
    rw [if_neg hok] at hck
    clear hok
    go_enter Tryz.func8, Tryz.ntmps8
    go_wp2_with fail
    refine hck.mono ?_
    rintro e y ⟨rfl, hb⟩
    have HB : Hid _ := hb
    clear hb hck
    go_wp2_with fail
    go_ret2
    unfold PrintOut
    rw [HR.out]
    exact ⟨rfl, HB.out⟩
  rw [if_pos hok] at hck
  have HOK : Hid _ := X.itsOk_iff.1 hok
  have HP : Hid (X.print ts = if 200000 < (X.text ts).length then ([], 8) else (X.text ts, 0)) := by show _ = _; unfold X.print; rw [if_pos hok]
  clear hok
  go_enter Tryz.func8, Tryz.ntmps8
  go_wp2_with fail
  refine hck.mono ?_
  rintro e w1 ⟨rfl, hb⟩
  have HB1 : Hid (Below w.heap.size w w1) := hb
  clear hb hck
  go_wp2_with fail
  go_loopg [15] l (fun rr iv wq => ∃ (k : Nat), iv = .int .i64 k ∧ k ≤ l ∧ l - k ≤ rr ∧ Hid ((X.text (ts.take k)).length ≤ 200000) ∧ Hid (Lib.IsBuilder 47 5 w1.heap.size w1.heap.size (Lib.byteCells (X.text (ts.take k))) wq) ∧ Hid (Below w1.heap.size w1 wq))
  case atStart => exact ⟨0, rfl, Nat.zero_le _, by omega, (by simp [X.text] : (X.text (ts.take 0)).length ≤ 200000), Lib.fresh_isBuilder _ _ _, bl1 _ _⟩
  case round =>
    obtain ⟨k, rfl, hk, hr, HL, HBU, HB⟩ := hrel
    have HW : Hid (Below w.heap.size w wr) := HB1.out.trans (HB.out.mono HB1.out.size)
    by_cases hlt : k < l
    · have hii : (k : Int) < l := by omega
      have hin : 0 ≤ (k : Int) := by omega
      obtain ⟨b, off, t, aw, lw, cw, rfl, hg, hmem, c0, c1, c2, c3, c4, c5, c6, hi⟩ := (H.out.below HW.out).at hlt
      have hokt := HOK.out.2 t hmem
      have hft := (H.out.fit t hmem).2
      obtain ⟨kd, nm, op, a, bb, n, ws⟩ := t
      simp only at c0 c1 c2 c3 c4 c5 hi
      have hline := fun w h hi => lineOf_any kd (X.str nm) op a bb n aw lw cw ws (by rw [str_list]; exact hokt) (by rw [str_list]; exact hft) w h hi
      simp only [str_list] at hline
      have hll := line_small hokt hft
      have HTK : Hid (X.text (ts.take (k + 1)) = X.text (ts.take k) ++ X.lineOf ⟨kd, nm, op, a, bb, n, ws⟩) := by show _ = _; rw [text_take (by rw [HCT.out]; exact hlt), hg]
      have hls : (X.str (X.lineOf ⟨kd, nm, op, a, bb, n, ws⟩)).size ≤ 130001 := by
        rw [str_size, X.lineOf, List.length_append]
        simp
        exact hll
      have HI : Hid _ := hi
      clear hokt hft hg hmem hll hi
      generalize X.lineOf ⟨kd, nm, op, a, bb, n, ws⟩ = L at *
      go_wp2_with fail
      refine (hline _ ((HT.out.below HW.out).alloc _) (HI.out.below (bl1 _ _))).mono ?_
      rintro e y1 ⟨rfl, hb1⟩
      have HB2 : Hid (Below wr.heap.size wr y1) := (bl1 _ _).trans (hb1.mono (bl1 _ _).size)
      clear hb1 hline c0 c1 c2 c3 c4 c5 c6
      have HBU2 : Hid (Lib.IsBuilder 47 5 w1.heap.size w1.heap.size (Lib.byteCells (X.text (ts.take k))) y1) := builder_below HBU.out HB2.out
      have hcl : (Lib.byteCells (X.text (ts.take k))).length ≤ 200000 := by unfold Lib.byteCells; rw [List.length_map]; exact HL.out
      have hwr := builder_write w1.heap.size w1.heap.size (Lib.byteCells (X.text (ts.take k))) (X.str L) y1 HBU2.out (by omega) (Nat.le_trans HB.out.size HB2.out.size)
      rw [cells_app, ← HTK.out] at hwr
      go_wp2_with fail
      refine hwr.mono ?_
      rintro e y2 ⟨rfl, hbu, hb2⟩
      have HBU3 : Hid (Lib.IsBuilder 47 5 w1.heap.size w1.heap.size (Lib.byteCells (X.text (ts.take (k + 1)))) y2) := .inr hbu
      have HB3 : Hid (Below w1.heap.size w1 y2) := (HB.out.trans (HB2.out.mono HB.out.size)).trans hb2
      have hlen := Tryz.Builder_Len w1.heap.size w1.heap.size (Lib.byteCells (X.text (ts.take (k + 1)))) y2 HBU3.out
      have hlb : (Lib.byteCells (X.text (ts.take (k + 1)))).length = (X.text (ts.take (k + 1))).length := by unfold Lib.byteCells; rw [List.length_map]
      rw [hlb] at hlen
      have hn : (X.text (ts.take (k + 1))).length ≤ 400000 := by
        rw [HTK.out, List.length_append]
        have := HL.out
        rw [str_size] at hls
        omega
      obtain ⟨N, hN⟩ : ∃ N, (X.text (ts.take (k + 1))).length = N := ⟨_, rfl⟩
      rw [hN] at hlen hn
      have HN : Hid _ := hN
      clear hbu hb2 hwr hlb hN hcl hls
      go_wp2_with fail
      refine hlen.mono ?_
      rintro e y3 ⟨rfl, rfl⟩
      clear hlen
      by_cases hbig : 200000 < N
      · have HR : Hid (X.print ts = ([], 8)) := by
          show _ = _
          have := text_mono ts (k + 1)
          rw [HN.out] at this
          rw [HP.out, if_pos (by omega)]
        go_wp2_with fail
        go_ret2
        unfold PrintOut
        rw [HR.out]
        exact ⟨rfl, HB1.out.trans (HB3.out.mono HB1.out.size)⟩
      · have hb' : ¬ (200000 : Int) < N := by omega
        go_wp2_with fail
        go_roundg (l - (k + 1))
        case measure => omega
        case rel => exact ⟨k + 1, by go_num, by omega, Nat.le_refl _, (by rw [HN.out]; omega : (X.text (ts.take (k + 1))).length ≤ 200000), HBU3.out, HB3.out⟩
    · obtain rfl : k = l := by omega
      have hii : ¬ (k : Int) < k := by omega
      have hfull : ts.take k = ts := List.take_of_length_le (by rw [HCT.out]; exact Nat.le_refl _)
      have HR : Hid (X.print ts = (X.text ts, 0)) := by
        show _ = _
        have := HL.out
        rw [hfull] at this
        rw [HP.out, if_neg (by omega)]
      have hst := Tryz.Builder_String_any w1.heap.size w1.heap.size (X.text ts) wr (by have := HBU.out; rw [hfull] at this; exact this) HB.out.size
      clear hfull
      go_wp2_with fail
      refine hst.mono ?_
      rintro e y ⟨rfl, hb⟩
      have HB4 : Hid _ := hb
      clear hb hst
      go_wp2_with fail
      go_ret2
      unfold PrintOut
      rw [HR.out]
      exact ⟨rfl, HB1.out.trans ((HB.out.trans HB4.out).mono HB1.out.size)⟩

end Go.Proofs.YtbkjiipelmfbjaaGreatDoor

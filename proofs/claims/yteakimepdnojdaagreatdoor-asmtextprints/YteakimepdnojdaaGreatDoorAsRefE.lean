/- An item's line, by the document. -/
import Derived.Test.YteakimepdnojdaaGreatDoorAsRefD
import Derived.Test.YteakimepdnojdaaGreatDoorAsRow
import Derived.Test.YteakimepdnojdaaGreatDoorAsPrint
namespace Go.Proofs.YteakimepdnojdaaGreatDoor
open Go.RowKit Go.Lib
set_option linter.unusedVariables false
set_option linter.unusedSimpArgs false

def LineOut (w : World) (L : X.By) (e : Ending) (w' : World) : Prop := e = .returned (.string (X.str L)) ∧ Below w.heap.size w w'
theorem line_name {kd : Int} {nm : ByteArray} {op a b n : Int} {ws : List Int} (hk : kd = 1) : Go.Lib.join (X.said ⟨kd, nm.data.toList, op, a, b, n, ws⟩) [32] = nm.data.toList ++ [58] := by
  subst hk; unfold X.said; simp [Go.Lib.join_one]
theorem line_glob {kd : Int} {nm : ByteArray} {op a b n : Int} {ws : List Int} (hk : kd = 4) : Go.Lib.join (X.said ⟨kd, nm.data.toList, op, a, b, n, ws⟩) [32] = X.wGlobal ++ 32 :: nm.data.toList := by
  subst hk; unfold X.said; simp [Go.Lib.join_cons, Go.Lib.joinTail]
theorem line_thread {kd : Int} {nm : ByteArray} {op a b n : Int} {ws : List Int} (hk : kd = 5) : Go.Lib.join (X.said ⟨kd, nm.data.toList, op, a, b, n, ws⟩) [32] = X.wThread ++ 32 :: nm.data.toList := by
  subst hk; unfold X.said; simp [Go.Lib.join_cons, Go.Lib.joinTail]
theorem line_words {kd : Int} {nm : ByteArray} {op a b n : Int} {ws : List Int} (hk : kd = 3) : Go.Lib.join (X.said ⟨kd, nm.data.toList, op, a, b, n, ws⟩) [32] = (X.wWords ++ 32 :: nm.data.toList) ++ Go.Lib.joinTail [32] (ws.map Go.Lib.itoa) := by
  subst hk; unfold X.said; simp [Go.Lib.join_cons, Go.Lib.joinTail]
theorem line_ins {kd : Int} {nm : ByteArray} {op a b n : Int} {ws : List Int} (hk : kd = 2) : Go.Lib.join (X.said ⟨kd, nm.data.toList, op, a, b, n, ws⟩) [32] = (X.row op.toNat).1 ++ Go.Lib.joinTail [32] ((X.row op.toNat).2.map (X.operand ⟨kd, nm.data.toList, op, a, b, n, ws⟩)) := by
  subst hk; unfold X.said X.saidIns; simp [Go.Lib.join_cons]
theorem tail_snoc {α : Type} (f : α → X.By) {l : List α} {k : Nat} {x : α} (h : l[k]? = some x) : Go.Lib.joinTail [32] ((l.map f).take (k + 1)) = Go.Lib.joinTail [32] ((l.map f).take k) ++ 32 :: f x := by
  rw [Go.Lib.joinTail_take_succ [32] (l.map f) k (f x) (by simp [h])]
  simp

set_option maxRecDepth 100000 in
set_option maxHeartbeats 8000000 in
theorem rline_plain (kd : Int) (nm : ByteArray) (op a b n : Int) (aw : Option Addr) (lw cw : Nat) (ws : List Int) (hk : kd = 1 ∨ kd = 4 ∨ kd = 5) (hs : nm.size ≤ 28) (w : World) :
    Calls Tryz.prog 23 #[.agg #[.int .i64 kd, .string nm, .int .i64 op, .int .i64 a, .int .i64 b, .int .i64 n, .slice aw lw cw]] w (LineOut w (Go.Lib.join (X.said ⟨kd, nm.data.toList, op, a, b, n, ws⟩) [32])) := by
  have z1 : ¬ 9223372036854775807 < nm.size + 1 := by omega
  have z2 : ¬ 9223372036854775807 < 8 + nm.size := by omega
  rcases hk with rfl | rfl | rfl
  · have HR : Hid _ := line_name (nm := nm) (op := op) (a := a) (b := b) (n := n) (ws := ws) (rfl : (1 : Int) = 1)
    go_enter Tryz.func23, Tryz.ntmps23
    go_wp2_with fail
    go_ret
    exact ⟨ret_s (by rw [str_list, HR.out]; simp), bl1 _ _⟩
  · have HR : Hid _ := line_glob (nm := nm) (op := op) (a := a) (b := b) (n := n) (ws := ws) (rfl : (4 : Int) = 4)
    go_enter Tryz.func23, Tryz.ntmps23
    go_wp2_with fail
    go_ret
    exact ⟨ret_s (by rw [str_list, HR.out]; simp [X.wGlobal]), bl1 _ _⟩
  · have HR : Hid _ := line_thread (nm := nm) (op := op) (a := a) (b := b) (n := n) (ws := ws) (rfl : (5 : Int) = 5)
    go_enter Tryz.func23, Tryz.ntmps23
    go_wp2_with fail
    go_ret
    exact ⟨ret_s (by rw [str_list, HR.out]; simp [X.wThread]), bl1 _ _⟩

set_option maxRecDepth 100000 in
set_option maxHeartbeats 8000000 in
theorem rline_words (nm : ByteArray) (op a b n : Int) (aw : Option Addr) (lw cw : Nat) (ws : List Int) (hs : nm.size ≤ 28) (hn : lw ≤ 4096) (hf : ∀ z ∈ ws, X.fits z) (w : World) (hi : IntsV w aw lw cw ws) :
    Calls Tryz.prog 23 #[.agg #[.int .i64 3, .string nm, .int .i64 op, .int .i64 a, .int .i64 b, .int .i64 n, .slice aw lw cw]] w (LineOut w (Go.Lib.join (X.said ⟨3, nm.data.toList, op, a, b, n, ws⟩) [32])) := by
  have HR : Hid _ := line_words (nm := nm) (op := op) (a := a) (b := b) (n := n) (ws := ws) (rfl : (3 : Int) = 3)
  have z2 : ¬ 9223372036854775807 < 7 + nm.size := by omega
  have HI : Hid _ := hi
  have HF : Hid _ := hf
  have HCT : Hid _ := hi.count
  clear hi hf
  obtain ⟨hd, HHD⟩ : ∃ hd : ByteArray, Hid (hd = { data := #[46, 119, 111, 114, 100, 115, 32] } ++ nm) := ⟨_, rfl⟩
  have hdl : hd.data.toList = X.wWords ++ 32 :: nm.data.toList := by rw [HHD.out]; simp [X.wWords]
  have hsz : hd.size = 7 + nm.size := by rw [← len_list, hdl]; simp [X.wWords]; omega
  obtain ⟨v0, w0, hc0, hrb0, hb0⟩ := rb_conv (w.alloc (.cells #[.int .i64 3, .string nm, .int .i64 op, .int .i64 a, .int .i64 b, .int .i64 n, .slice aw lw cw] 32)) hd (by omega)
  rw [HHD.out] at hc0
  have HRB0 : Hid _ := hrb0
  have HB0 : Hid _ := hb0
  have HDL : Hid _ := hdl
  have HCX : Hid (∀ y, Below (w.alloc (.cells #[.int .i64 3, .string nm, .int .i64 op, .int .i64 a, .int .i64 b, .int .i64 n, .slice aw lw cw] 32)).heap.size (w.alloc (.cells #[.int .i64 3, .string nm, .int .i64 op, .int .i64 a, .int .i64 b, .int .i64 n, .slice aw lw cw] 32)) y → y.cell? ⟨w.heap.size, 6, none⟩ = some (.slice aw lw cw)) := fun y hy => (hy.cell (p := ⟨w.heap.size, 6, none⟩) (by simp)).trans (by simp)
  clear hrb0 hb0 hdl
  obtain ⟨aa, cc, rfl⟩ := HRB0.out.slice
  go_enter Tryz.func23, Tryz.ntmps23
  go_wp2_with fail
  go_loopg [3, 4] lw (fun rr bv iv wq => ∃ (k : Nat), iv = .int .i64 k ∧ k ≤ lw ∧ lw - k ≤ rr ∧ Hid (RB wq (w.heap.size + 1) bv (hd.data.toList ++ Go.Lib.joinTail [32] ((ws.map Go.Lib.itoa).take k))) ∧ Hid (Below (w.alloc (.cells #[.int .i64 3, .string nm, .int .i64 op, .int .i64 a, .int .i64 b, .int .i64 n, .slice aw lw cw] 32)).heap.size (w.alloc (.cells #[.int .i64 3, .string nm, .int .i64 op, .int .i64 a, .int .i64 b, .int .i64 n, .slice aw lw cw] 32)) wq))
  case atStart =>
    refine ⟨0, rfl, Nat.zero_le _, by omega, ?_, HB0.out⟩
    have := HRB0.out
    simp only [World.size_alloc] at this
    show RB _ _ _ _
    simpa [Go.Lib.joinTail, hsz] using this
  case round =>
    obtain ⟨k, rfl, hk, hr, HO, HB⟩ := hrel
    have HW : Hid (Below w.heap.size w wr) := (bl1 _ _).trans (HB.out.mono (bl1 _ _).size)
    have hx6 := HCX.out _ HB.out
    obtain ⟨zs, HZS⟩ : ∃ zs : X.By, Hid (zs = hd.data.toList ++ Go.Lib.joinTail [32] ((ws.map Go.Lib.itoa).take k)) := ⟨_, rfl⟩
    rw [← HZS.out] at HO
    obtain ⟨ab, cb, rfl⟩ := HO.out.slice
    by_cases hlt : k < lw
    · have hii : (k : Int) < lw := by omega
      have hin : 0 ≤ (k : Int) := by omega
      obtain ⟨bb, off, rfl, hcell⟩ : ∃ bb off, aw = some ⟨bb, off, none⟩ ∧ wr.cell? ⟨bb, off + k, none⟩ = some (.int .i64 (ws.getD k 0)) := by
        rcases (HI.out.below HW.out).cells with h0 | ⟨bb, off, e, hc⟩
        · omega
        · exact ⟨bb, off, e, hc k hlt⟩
      have hkl : k < ws.length := by rw [HCT.out]; exact hlt
      have hfk : X.fits (ws.getD k 0) := HF.out _ (by simp [List.getD, hkl])
      have HSN : Hid (Go.Lib.joinTail [32] ((ws.map Go.Lib.itoa).take (k + 1)) = Go.Lib.joinTail [32] ((ws.map Go.Lib.itoa).take k) ++ 32 :: Go.Lib.itoa (ws.getD k 0)) := tail_snoc Go.Lib.itoa (by simp [List.getD, hkl])
      have hd2 := fun w => rtext_any (ws.getD k 0) hfk.1 hfk.2 w
      have hl2 := itoa_length_le (ws.getD k 0) hfk.1 hfk.2
      have hlen : (hd.data.toList ++ Go.Lib.joinTail [32] ((ws.map Go.Lib.itoa).take k)).length ≤ 100000 := by
        rw [List.length_append, len_list, hsz]
        have h1 := Go.Lib.joinTail_length [32] ((ws.map Go.Lib.itoa).take k)
        have h2 : Go.Lib.lens ((ws.map Go.Lib.itoa).take k) ≤ 21 * k := by
          have : ∀ (l : List X.By), (∀ x ∈ l, x.length ≤ 21) → Go.Lib.lens l ≤ 21 * l.length := by
            intro l
            induction l with
            | nil => intro _; simp [Go.Lib.lens]
            | cons x l ih =>
              intro h
              have := ih (fun y hy => h y (List.mem_cons_of_mem _ hy))
              have h0 := h x List.mem_cons_self
              simp only [Go.Lib.lens, List.map_cons, List.sum_cons, List.length_cons] at this ⊢
              omega
          have h3 := this ((ws.map Go.Lib.itoa).take k) (fun x hx => by
            obtain ⟨z, hz, rfl⟩ := List.mem_map.1 (List.mem_of_mem_take hx)
            exact itoa_length_le z (HF.out z hz).1 (HF.out z hz).2)
          rw [List.length_take, List.length_map] at h3
          omega
        rw [List.length_take, List.length_map] at h1
        have : ([32] : X.By).length = 1 := rfl
        rw [this] at h1
        omega
      rw [← HZS.out] at hlen
      generalize ws.getD k 0 = z at hcell hd2 HSN hl2
      have hts : (X.str (itoa z)).size ≤ 21 := by rw [str_size]; exact hl2
      obtain ⟨tz, hT⟩ : ∃ t, X.str (itoa z) = t := ⟨_, rfl⟩
      have HT : Hid (tz.data.toList = itoa z) := by show _ = _; rw [← hT]; rfl
      rw [hT] at hd2 hts
      clear hfk hl2 hkl hT
      have z3 : ¬ 9223372036854775807 < 1 + tz.size := by omega
      go_wp2_with fail
      refine (hd2 _).mono ?_
      rintro e y1 ⟨rfl, hb1⟩
      have HB1 : Hid _ := hb1
      have HO1 : Hid _ := HO.out.below HB1.out
      clear hb1 hd2 hcell hx6
      have hss : (({ data := #[32] } : ByteArray) ++ tz).size = 1 + tz.size := by rw [ByteArray.size_append]; rfl
      have HSS : Hid _ := hss
      have hwb : w.heap.size + 1 ≤ y1.heap.size := by have := HB.out.size; have := HB1.out.size; simp only [World.size_alloc] at *; omega
      clear hss
      go_wp2_with (first | (at_builtin; refine wpList_append_rb (B := w.heap.size + 1) rfl _ _ rfl rfl HO1.out hwb (({ data := #[32] } : ByteArray) ++ tz) (by rw [HSS.out]; omega) rfl (by rw [HSS.out]; omega) ?_) | go_in)
      intro v2 y2 hrb2 hgr2
      have HRB2 : Hid (RB y2 (w.heap.size + 1) v2 (hd.data.toList ++ Go.Lib.joinTail [32] ((ws.map Go.Lib.itoa).take (k + 1)))) := by
        show RB _ _ _ _
        rw [HSN.out, ← HT.out]
        rw [HZS.out] at hrb2
        simpa using hrb2
      have HB2 : Hid (Below (w.alloc (.cells #[.int .i64 3, .string nm, .int .i64 op, .int .i64 a, .int .i64 b, .int .i64 n, .slice (some ⟨bb, off, none⟩) lw cw] 32)).heap.size (w.alloc (.cells #[.int .i64 3, .string nm, .int .i64 op, .int .i64 a, .int .i64 b, .int .i64 n, .slice (some ⟨bb, off, none⟩) lw cw] 32)) y2) := by
        have e : (w.alloc (.cells #[.int .i64 3, .string nm, .int .i64 op, .int .i64 a, .int .i64 b, .int .i64 n, .slice (some ⟨bb, off, none⟩) lw cw] 32)).heap.size = w.heap.size + 1 := by simp
        refine (HB.out.trans (HB1.out.mono HB.out.size)).trans ?_
        rw [e]
        exact hgr2.toBelow (by have := HB.out.size; have := HB1.out.size; rw [e] at *; omega) (fun g hg => (HO1.out.lt g hg).1)
      clear hrb2 hgr2
      obtain ⟨a2, c2, rfl⟩ := HRB2.out.slice
      go_wp2_with fail
      go_roundg (lw - (k + 1))
      case measure => omega
      case rel => exact ⟨k + 1, by go_num, by omega, Nat.le_refl _, HRB2.out, HB2.out⟩
    · obtain rfl : k = lw := by omega
      have hii : ¬ (k : Int) < k := by omega
      have hback := rb_back HO.out
      have hres : X.str zs = X.str (Go.Lib.join (X.said ⟨3, nm.data.toList, op, a, b, n, ws⟩) [32]) := by
        rw [HZS.out, List.take_of_length_le (by rw [List.length_map, HCT.out]; exact Nat.le_refl _), HDL.out, ← HR.out]
      rw [hres] at hback
      clear hres
      go_wp2_with fail
      go_ret
      exact ⟨rfl, HW.out⟩

end Go.Proofs.YteakimepdnojdaaGreatDoor

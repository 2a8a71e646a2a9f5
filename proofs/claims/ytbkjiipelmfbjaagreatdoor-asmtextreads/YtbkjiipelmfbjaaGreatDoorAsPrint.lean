/- An item's words and line; Print. -/
import Derived.Test.YtbkjiipelmfbjaaGreatDoorAsSaid
namespace Go.Proofs.YtbkjiipelmfbjaaGreatDoor
open Go.RowKit
set_option linter.unusedVariables false
set_option linter.unusedSimpArgs false

theorem said4_any (nm : ByteArray) (op a b n : Int) (aw : Option Addr) (lw cw : Nat) (ws : List Int) (w : World) :
    Calls Tryz.prog 28 #[.agg #[.int .i64 4, .string nm, .int .i64 op, .int .i64 a, .int .i64 b, .int .i64 n, .slice aw lw cw]] w (SaidOut w (X.said (⟨4, nm.data.toList, op, a, b, n, ws⟩ : X.It))) := by
  have HR : Hid (X.said (⟨4, nm.data.toList, op, a, b, n, ws⟩ : X.It) = [X.wGlobal, nm.data.toList]) := rfl
  go_enter Tryz.func28, Tryz.ntmps28
  go_wp2_with fail
  go_ret
  unfold SaidOut
  rw [HR.out]
  refine ⟨_, _, rfl, ?_, bl2 _ _ _⟩
  have := World.ownsRow_lit (base := w.heap.size) (e := 9) (size := 1) (w.alloc (.cells #[.int .i64 4, .string nm, .int .i64 op, .int .i64 a, .int .i64 b, .int .i64 n, .slice aw lw cw] 32)) #[.string { data := #[46, 103, 108, 111, 98, 97, 108] }, .string nm] 2 (by simp) (by decide) rfl
  have e : sC [X.wGlobal, nm.data.toList] = [.string { data := #[46, 103, 108, 111, 98, 97, 108] }, .string nm] := by simp [sC, str_eq]; rfl
  rw [e]
  simpa using this

theorem said5_any (nm : ByteArray) (op a b n : Int) (aw : Option Addr) (lw cw : Nat) (ws : List Int) (w : World) :
    Calls Tryz.prog 28 #[.agg #[.int .i64 5, .string nm, .int .i64 op, .int .i64 a, .int .i64 b, .int .i64 n, .slice aw lw cw]] w (SaidOut w (X.said (⟨5, nm.data.toList, op, a, b, n, ws⟩ : X.It))) := by
  have HR : Hid (X.said (⟨5, nm.data.toList, op, a, b, n, ws⟩ : X.It) = [X.wThread, nm.data.toList]) := rfl
  go_enter Tryz.func28, Tryz.ntmps28
  go_wp2_with fail
  go_ret
  unfold SaidOut
  rw [HR.out]
  refine ⟨_, _, rfl, ?_, bl2 _ _ _⟩
  have := World.ownsRow_lit (base := w.heap.size) (e := 9) (size := 1) (w.alloc (.cells #[.int .i64 5, .string nm, .int .i64 op, .int .i64 a, .int .i64 b, .int .i64 n, .slice aw lw cw] 32)) #[.string { data := #[46, 116, 104, 114, 101, 97, 100] }, .string nm] 2 (by simp) (by decide) rfl
  have e : sC [X.wThread, nm.data.toList] = [.string { data := #[46, 116, 104, 114, 101, 97, 100] }, .string nm] := by simp [sC, str_eq]; rfl
  rw [e]
  simpa using this

theorem said1_any (nm : ByteArray) (op a b n : Int) (aw : Option Addr) (lw cw : Nat) (ws : List Int) (hs : nm.size ≤ 28) (w : World) :
    Calls Tryz.prog 28 #[.agg #[.int .i64 1, .string nm, .int .i64 op, .int .i64 a, .int .i64 b, .int .i64 n, .slice aw lw cw]] w (SaidOut w (X.said (⟨1, nm.data.toList, op, a, b, n, ws⟩ : X.It))) := by
  have HR : Hid (X.said (⟨1, nm.data.toList, op, a, b, n, ws⟩ : X.It) = [nm.data.toList ++ [58]]) := rfl
  have hno : ¬ (9223372036854775807 < nm.size + 1) := by omega
  have HX : Hid (nm ++ { data := #[58] } = X.str (nm.data.toList ++ [58])) := by
    show _ = _
    refine bytes_ext' ?_
    simp [str_list]
  go_enter Tryz.func28, Tryz.ntmps28
  go_wp2_with fail
  go_ret
  unfold SaidOut
  rw [HR.out]
  refine ⟨_, _, rfl, ?_, bl2 _ _ _⟩
  have := World.ownsRow_lit (base := w.heap.size) (e := 9) (size := 1) (w.alloc (.cells #[.int .i64 1, .string nm, .int .i64 op, .int .i64 a, .int .i64 b, .int .i64 n, .slice aw lw cw] 32)) #[.string (nm ++ { data := #[58] })] 1 (by simp) (by decide) rfl
  have e : sC [nm.data.toList ++ [58]] = [.string (nm ++ { data := #[58] })] := by simp [sC]; exact HX.out.symm
  rw [e]
  simpa using this

theorem words_snoc {nm : ByteArray} {ws : List Int} {k : Nat} (hk : k < ws.length) : sC ((X.wWords :: nm.data.toList :: ws.map Go.Lib.itoa).take (k + 2 + 1)) = sC ((X.wWords :: nm.data.toList :: ws.map Go.Lib.itoa).take (k + 2)) ++ [.string (X.str (Go.Lib.itoa (ws.getD k 0)))] := by
  unfold sC
  rw [List.take_succ_cons, List.take_succ_cons, List.take_succ_cons, List.take_succ_cons, List.map_cons, List.map_cons, List.map_cons, List.map_cons, List.cons_append, List.cons_append]
  congr 2
  rw [List.take_add_one, List.getElem?_map, List.getElem?_eq_getElem hk, List.map_append]
  simp [List.getD, hk]

set_option maxRecDepth 100000 in
set_option maxHeartbeats 8000000 in
theorem said3_any (nm : ByteArray) (op a b n : Int) (aw : Option Addr) (lw cw : Nat) (ws : List Int) (hl : lw ≤ 4096) (hf : ∀ m ∈ ws, X.fits m) (w : World) (ht : Tab w) (hi : IntsV w aw lw cw ws) :
    Calls Tryz.prog 28 #[.agg #[.int .i64 3, .string nm, .int .i64 op, .int .i64 a, .int .i64 b, .int .i64 n, .slice aw lw cw]] w (SaidOut w (X.said (⟨3, nm.data.toList, op, a, b, n, ws⟩ : X.It))) := by
  have HR : Hid (X.said (⟨3, nm.data.toList, op, a, b, n, ws⟩ : X.It) = (X.wWords :: nm.data.toList :: ws.map Go.Lib.itoa)) := rfl
  have HI : Hid _ := hi
  have HF : Hid _ := hf
  have HT : Hid _ := ht
  have HCT : Hid (ws.length = lw) := hi.count
  have hm := hi.room
  obtain ⟨hm1, hm2⟩ := hm
  unfold maxLen at hm2
  clear hi hf ht
  obtain ⟨is, his, hs0, hs1, hs2⟩ := info_parts infoS
  go_enter Tryz.func28, Tryz.ntmps28
  go_wp2_with fail
  go_loopg [3, 32] lw (fun rr lv iv wq => ∃ (k : Nat), iv = .int .i64 k ∧ k ≤ lw ∧ lw - k ≤ rr ∧ Hid (wq.ownsRow (w.heap.size + 1) 9 1 lv (k + 2) (sC ((X.wWords :: nm.data.toList :: ws.map Go.Lib.itoa).take (k + 2)))) ∧ Hid (Below (w.alloc (.cells #[.int .i64 3, .string nm, .int .i64 op, .int .i64 a, .int .i64 b, .int .i64 n, .slice aw lw cw] 32)).heap.size (w.alloc (.cells #[.int .i64 3, .string nm, .int .i64 op, .int .i64 a, .int .i64 b, .int .i64 n, .slice aw lw cw] 32)) wq))
  case atStart =>
    refine ⟨0, rfl, Nat.zero_le _, by omega, ?_, bl1 _ _⟩
    have := World.ownsRow_lit (base := w.heap.size + 1) (e := 9) (size := 1) (w.alloc (.cells #[.int .i64 3, .string nm, .int .i64 op, .int .i64 a, .int .i64 b, .int .i64 n, .slice aw lw cw] 32)) #[.string { data := #[46, 119, 111, 114, 100, 115] }, .string nm] 2 (by simp) (by decide) rfl
    have e : sC ((X.wWords :: nm.data.toList :: ws.map Go.Lib.itoa).take (0 + 2)) = [.string { data := #[46, 119, 111, 114, 100, 115] }, .string nm] := by simp [sC, str_eq]; rfl
    show World.ownsRow _ _ _ _ _ _ _
    rw [e]
    simpa using this
  case round =>
    obtain ⟨k, rfl, hk, hr, HO, HB⟩ := hrel
    have HW : Hid (Below w.heap.size w wr) := (bl1 _ _).trans (HB.out.mono (bl1 _ _).size)
    by_cases hlt : k < lw
    · have hii : (k : Int) < lw := by omega
      have hin : 0 ≤ (k : Int) := by omega
      obtain ⟨bb, off, rfl, hcell⟩ : ∃ bb off, aw = some ⟨bb, off, none⟩ ∧ wr.cell? ⟨bb, off + k, none⟩ = some (.int .i64 (ws.getD k 0)) := by
        rcases (HI.out.below HW.out).cells with h0 | ⟨bb, off, e, hc⟩
        · omega
        · exact ⟨bb, off, e, hc k hlt⟩
      have hfk : X.fits (ws.getD k 0) := HF.out _ (by have : k < ws.length := by rw [HCT.out]; exact hlt
                                                      simp [List.getD, this])
      have HSN : Hid _ := words_snoc (nm := nm) (ws := ws) (k := k) (by rw [HCT.out]; exact hlt)
      have hd := fun w h => digits_any (ws.getD k 0) hfk w h
      generalize ws.getD k 0 = z at hcell hd HSN
      clear hfk
      go_wp2_with fail
      refine (hd _ (HT.out.below HW.out)).mono ?_
      rintro e y1 ⟨rfl, hb1⟩
      have HB1 : Hid _ := hb1
      clear hb1 hd hcell
      obtain ⟨D, hD⟩ : ∃ D, X.str (Go.Lib.itoa z) = D := ⟨_, rfl⟩
      rw [hD] at HSN ⊢
      clear hD
      have HB2 : Hid (Below wr.heap.size wr (y1.alloc (.cells #[.string D] 9))) := HB1.out.alloc HB1.out.size _
      have HO2 : Hid ((y1.alloc (.cells #[.string D] 9)).ownsRow (w.heap.size + 1) 9 1 u3 (k + 2) (sC ((X.wWords :: nm.data.toList :: ws.map Go.Lib.itoa).take (k + 2)))) := own_thru HO.out HB2.out
      have HNC : Hid (∀ j u, ([.string D] : List Value)[j]? = some u → (y1.alloc (.cells #[.string D] 9)).cell? ((⟨y1.heap.size, 0, none⟩ : Addr).add j) = some u) := fun j u hu => by rw [Addr.add_lit, Nat.zero_add]; exact row_cell (by simpa using hu)
      have HSZ : Hid (w.heap.size + 1 ≤ (y1.alloc (.cells #[.string D] 9)).heap.size) := by show _ ≤ _; have := HB.out.size; have := HB1.out.size; simp at *; omega
      go_wp2_with (first | (at_builtin; refine wpList_append_lies _ rfl _ _ 39 rfl (w.heap.size + 1) 9 is _ 1 16 Tryz.underlying39 his hs0 hs1 hs2 rfl (by decide) u3 (k + 2) _ rfl HO2.out ⟨y1.heap.size, 0, none⟩ 1 1 [.string D] rfl rfl HNC.out (by intro u hu; simp at hu; subst hu; rfl) (by decide) (by unfold maxLen; omega) (by omega) HSZ.out (y1.heap.size + 1) (by simp) ?_; intro x1 cp Y6 ho6 hg6 hat6 hlt6; have HO6 : Hid (Y6.ownsRow (w.heap.size + 1) 9 1 (.slice (some ⟨x1, 0, none⟩) (k + 2 + 1) cp) (k + 2 + 1) (sC ((X.wWords :: nm.data.toList :: ws.map Go.Lib.itoa).take (k + 2)) ++ [.string D])) := ho6; have HG6 : Hid _ := hg6; clear ho6 hg6 hat6 hlt6) | fail)
      go_roundg (lw - (k + 1))
      case measure => omega
      case rel =>
        refine ⟨k + 1, by go_num, by omega, Nat.le_refl _, ?_, below_grownB (HB.out.trans (HB2.out.mono HB.out.size)) HO2.out HG6.out HSZ.out (by simp)⟩
        show World.ownsRow _ _ _ _ _ _ _
        rw [show k + 1 + 2 = k + 2 + 1 by omega, HSN.out]
        exact HO6.out
    · obtain rfl : k = lw := by omega
      have hii : ¬ (k : Int) < k := by omega
      obtain ⟨au, cu, rfl⟩ := own_slice HO.out
      go_wp2_with fail
      go_ret
      unfold SaidOut
      rw [HR.out]
      have hfull : (X.wWords :: nm.data.toList :: ws.map Go.Lib.itoa).take (k + 2) = (X.wWords :: nm.data.toList :: ws.map Go.Lib.itoa) := List.take_of_length_le (by simp [HCT.out])
      have hlen : (X.wWords :: nm.data.toList :: ws.map Go.Lib.itoa).length = k + 2 := by simp [HCT.out]
      have ho := HO.out
      rw [hfull] at ho
      rcases ho.2 with ⟨e1, e2⟩ | ⟨g, cap, cur, e1, -⟩
      · omega
      · cases e1
        refine ⟨_, _, ?_, by rw [hlen]; exact own_baseB ho (Nat.le_add_right _ 1), HW.out⟩
        rw [hlen]
        rfl

set_option maxHeartbeats 4000000 in
theorem said_any (kd : Int) (nm : ByteArray) (op a b n : Int) (aw : Option Addr) (lw cw : Nat) (ws : List Int) (hok : X.itOk (⟨kd, nm.data.toList, op, a, b, n, ws⟩ : X.It) = true) (hfit : X.fitsIt (⟨kd, nm.data.toList, op, a, b, n, ws⟩ : X.It)) (w : World) (ht : Tab w) (hi : IntsV w aw lw cw ws) :
    Calls Tryz.prog 28 #[.agg #[.int .i64 kd, .string nm, .int .i64 op, .int .i64 a, .int .i64 b, .int .i64 n, .slice aw lw cw]] w (SaidOut w (X.said (⟨kd, nm.data.toList, op, a, b, n, ws⟩ : X.It))) := by
  have hn28 : X.name nm.data.toList = true → nm.size ≤ 28 := fun h => by
    simp only [X.name, Bool.and_eq_true, decide_eq_true_eq, len_list] at h
    exact h.2.1
  rcases X.itOk_cases hok with ⟨hk, h1, h2⟩ | ⟨hk, h1, h2, h3, h4⟩ | ⟨hk, h1, h2, h3⟩
  · simp only at hk
    subst hk
    obtain ⟨q1, q2, -, -, -, -, -, -, q3, q4, -⟩ := X.insOk_split h1
    simp only at q1 q2 q3 q4
    have hc := fun w h => saidIns_any 2 nm op a b n aw lw cw ws ⟨q1, q2⟩ q3 q4 hfit.1 w h
    have HR : Hid (X.said (⟨2, nm.data.toList, op, a, b, n, ws⟩ : X.It) = X.saidIns (⟨2, nm.data.toList, op, a, b, n, ws⟩ : X.It)) := rfl
    have HT : Hid _ := ht
    clear q1 q2 q3 q4 ht hok h1
    go_enter Tryz.func28, Tryz.ntmps28
    go_wp2_with fail
    refine (hc _ (HT.out.alloc _)).mono ?_
    rintro e y ⟨g, cc, rfl, ho, hb⟩
    have HO : Hid _ := ho
    have HB : Hid _ := hb
    clear hc ho hb
    go_wp2_with fail
    go_ret
    unfold SaidOut
    rw [HR.out]
    exact ⟨_, _, rfl, own_baseB HO.out (by simp), (bl1 _ _).trans (HB.out.mono (bl1 _ _).size)⟩
  · simp only at hk
    subst hk
    exact said3_any nm op a b n aw lw cw ws (by rw [← hi.count]; exact h3) hfit.2 w ht hi
  · simp only at hk
    rcases hk with hk | hk | hk
    · subst hk; exact said1_any nm op a b n aw lw cw ws (hn28 h1) w
    · subst hk; exact said4_any nm op a b n aw lw cw ws w
    · subst hk; exact said5_any nm op a b n aw lw cw ws w

/-! ### A line -/
theorem sum_le {ws : List X.By} {m : Nat} (h : ∀ w ∈ ws, w.length ≤ m) : (ws.map fun w => w.length + 1).sum ≤ ws.length * (m + 1) := by
  induction ws with
  | nil => simp
  | cons w ws ih =>
    have h1 := h w (by simp)
    have h2 := ih (fun x hx => h x (by simp [hx]))
    simp only [List.map_cons, List.sum_cons, List.length_cons, Nat.succ_mul]
    omega
theorem said_small {t : X.It} (hok : X.itOk t = true) (hf : X.fitsIt t) : (X.said t).length ≤ 4098 ∧ (∀ w ∈ X.said t, w.length ≤ 29) ∧ X.said t ≠ [] := by
  have hn28 : ∀ {l : X.By}, X.name l = true → l.length ≤ 28 := fun h => by
    simp only [X.name, Bool.and_eq_true, decide_eq_true_eq] at h
    exact h.2.1
  have hit : ∀ {m : Int}, X.fits m → (Go.Lib.itoa m).length ≤ 21 := fun h => Go.Lib.itoa_length_le _ h.1 h.2
  refine ⟨?_, ?_, (X.said_clean hok).1⟩
  · rcases X.itOk_cases hok with ⟨hk, h1, h2⟩ | ⟨hk, h1, h2, h3, h4⟩ | ⟨hk, h1, h2, h3⟩
    · have e : X.said t = X.saidIns t := by unfold X.said; rw [hk]; rfl
      rw [e]
      obtain ⟨q1, q2, -⟩ := X.insOk_split h1
      have := shape_len ⟨q1, q2⟩
      simp [X.saidIns]; omega
    · have e : X.said t = X.wWords :: t.name :: t.words.map Go.Lib.itoa := by unfold X.said; rw [hk]; rfl
      rw [e]; simp; exact h3
    · unfold X.said
      rcases hk with hk | hk | hk <;> simp [hk]
  · intro w hw
    rcases X.itOk_cases hok with ⟨hk, h1, h2⟩ | ⟨hk, h1, h2, h3, h4⟩ | ⟨hk, h1, h2, h3⟩
    · have e : X.said t = X.saidIns t := by unfold X.said; rw [hk]; rfl
      rw [e] at hw
      obtain ⟨q1, q2, -, q4, q5, -, -, -, q8, q9, -⟩ := X.insOk_split h1
      obtain ⟨a0, a1⟩ := X.isReg_iff.1 q8
      obtain ⟨b0, b1⟩ := X.isReg_iff.1 q9
      have hm : ∀ o : Fin 34, (X.row o.val).1.length ≤ 5 := by decide
      rcases List.mem_cons.1 hw with rfl | hw
      · have := hm ⟨t.op.toNat, by omega⟩
        simp only at this
        omega
      · obtain ⟨c, -, rfl⟩ := List.mem_map.1 hw
        unfold X.operand
        have f1 := hit (m := t.a) ⟨by omega, by omega⟩
        have f2 := hit (m := t.b) ⟨by omega, by omega⟩
        have f3 := hit hf.1
        split
        · simp; omega
        · split
          · simp; omega
          · split
            · omega
            · rcases q5 with e | h
              · rw [e]; simp
              · have := hn28 h; omega
    · have e : X.said t = X.wWords :: t.name :: t.words.map Go.Lib.itoa := by unfold X.said; rw [hk]; rfl
      rw [e] at hw
      have := hn28 h1
      rcases List.mem_cons.1 hw with rfl | hw
      · decide
      · rcases List.mem_cons.1 hw with rfl | hw
        · omega
        · obtain ⟨m, hm, rfl⟩ := List.mem_map.1 hw
          have := hit (hf.2 m hm)
          omega
    · have := hn28 h1
      unfold X.said at hw
      rcases hk with hk | hk | hk <;> simp [hk] at hw
      · subst hw; simp; omega
      · rcases hw with rfl | rfl
        · decide
        · omega
      · rcases hw with rfl | rfl
        · decide
        · omega
theorem line_small {t : X.It} (hok : X.itOk t = true) (hf : X.fitsIt t) : (Go.Lib.join (X.said t) [32]).length ≤ 130000 := by
  obtain ⟨h1, h2, h3⟩ := said_small hok hf
  cases hs : X.said t with
  | nil => exact absurd hs h3
  | cons x xs =>
    have h4 := X.weight_cons x xs
    rw [← hs] at h4
    have h5 := sum_le h2
    unfold X.weight at h4
    rw [hs] at h4
    rw [hs] at h5 h1
    have : (x :: xs).length * (29 + 1) ≤ 4098 * 30 := Nat.mul_le_mul_right 30 h1
    omega

set_option maxRecDepth 100000 in
set_option maxHeartbeats 8000000 in
theorem lineOf_any (kd : Int) (nm : ByteArray) (op a b n : Int) (aw : Option Addr) (lw cw : Nat) (ws : List Int) (hok : X.itOk (⟨kd, nm.data.toList, op, a, b, n, ws⟩ : X.It) = true) (hfit : X.fitsIt (⟨kd, nm.data.toList, op, a, b, n, ws⟩ : X.It)) (w : World) (ht : Tab w) (hi : IntsV w aw lw cw ws) :
    Calls Tryz.prog 15 #[.agg #[.int .i64 kd, .string nm, .int .i64 op, .int .i64 a, .int .i64 b, .int .i64 n, .slice aw lw cw]] w fun e w' => e = .returned (.string (X.str (X.lineOf (⟨kd, nm.data.toList, op, a, b, n, ws⟩ : X.It)))) ∧ Below w.heap.size w w' := by
  have hc := fun w h hi => said_any kd nm op a b n aw lw cw ws hok hfit w h hi
  have hj := line_small hok hfit
  have hss := said_small hok hfit
  obtain ⟨hn, -, hne⟩ := hss
  have HR : Hid (X.lineOf (⟨kd, nm.data.toList, op, a, b, n, ws⟩ : X.It) = Go.Lib.join (X.said (⟨kd, nm.data.toList, op, a, b, n, ws⟩ : X.It)) [32] ++ [10]) := rfl
  generalize X.said (⟨kd, nm.data.toList, op, a, b, n, ws⟩ : X.It) = sd at *
  have HT : Hid _ := ht
  have HI : Hid _ := hi
  clear ht hi hok hfit
  go_enter Tryz.func15, Tryz.ntmps15
  go_wp2_with fail
  refine (hc _ (HT.out.alloc _) (HI.out.below (bl1 _ _))).mono ?_
  rintro e y ⟨g, cc, rfl, ho, hb⟩
  have HB : Hid _ := hb
  have HO : Hid _ := ho
  have hcap : sd.length ≤ cc := by
    rcases ho.2 with ⟨e1, -⟩ | ⟨g', cap, cur, e1, -, -, e2, -⟩
    · cases e1
    · cases e1; exact e2
  have hcells : ∀ (j : Nat) x, (sd.map X.str)[j]? = some x → y.cell? ⟨g, 0 + j, none⟩ = some (.string x) := fun j x hx => by
    have hj : j < sd.length := by have := (List.getElem?_eq_some_iff.1 hx).1; simpa using this
    have := ho.cellAt j (by omega)
    rw [Nat.zero_add, this]
    unfold sC
    rw [List.getElem?_map] at hx ⊢
    cases hs : sd[j]? with
    | none => rw [hs] at hx; cases hx
    | some v => rw [hs] at hx; cases hx; rfl
  have hgl : g < y.heap.size := by
    have := ho.lt g rfl
    exact this.2
  have e1 : ((sd.map X.str).map (·.data.toList)) = sd := by rw [List.map_map]; simp [Function.comp_def, str_list]
  have hJ' : Calls Tryz.prog 27 #[.slice (some ⟨g, 0, none⟩) sd.length cc, .string { data := #[32] }] y fun e w' => e = .returned (.string (X.str (Go.Lib.join sd [32]))) ∧ Below y.heap.size y w' := by
    have := Tryz.strings_Join g 0 cc (sd.map X.str) { data := #[32] } y hcells hgl (by simp; omega) (by simp; exact hcap) (by rw [e1]; show (Go.Lib.join sd [32]).length ≤ _; omega)
    rw [e1, List.length_map] at this
    exact this
  clear hcells hc e1 ho hb
  obtain ⟨J, hJJ⟩ : ∃ J, X.str (Go.Lib.join sd [32]) = J := ⟨_, rfl⟩
  have hJs : J.size ≤ 130000 := by rw [← hJJ, str_size]; exact hj
  have HX : Hid (J ++ { data := #[10] } = X.str (Go.Lib.join sd [32] ++ [10])) := by
    show _ = _
    refine bytes_ext' ?_
    rw [← hJJ]
    simp [str_list]
  rw [hJJ] at hJ'
  clear hJJ hj
  have hno : ¬ (9223372036854775807 < J.size + 1) := by omega
  go_wp2_with fail
  refine hJ'.mono ?_
  rintro e y2 ⟨rfl, hb2⟩
  have HB2 : Hid _ := hb2
  clear hb2 hJ'
  go_wp2_with fail
  go_ret
  refine ⟨by rw [HR.out, ← HX.out]; rfl, ?_⟩
  have h2 := (bl1 w (.cells #[.int .i64 kd, .string nm, .int .i64 op, .int .i64 a, .int .i64 b, .int .i64 n, .slice aw lw cw] 32)).trans (HB.out.mono (bl1 _ _).size)
  exact h2.trans (HB2.out.mono h2.size)

end Go.Proofs.YtbkjiipelmfbjaaGreatDoor

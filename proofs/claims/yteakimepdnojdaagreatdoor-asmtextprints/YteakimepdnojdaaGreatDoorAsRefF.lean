/- An instruction's line, and any item's, by the document. -/
import Derived.Test.YteakimepdnojdaaGreatDoorAsRefE
namespace Go.Proofs.YteakimepdnojdaaGreatDoor
open Go.RowKit Go.Lib
set_option linter.unusedVariables false
set_option linter.unusedSimpArgs false

theorem opsR_get {op : Int} (h0 : 0 ≤ op) (h1 : op < 34) {k : Nat} (hk : k < (X.str (X.opsR op)).size) : ∃ c, (X.row op.toNat).2[k]? = some c ∧ (X.str (X.opsR op))[k] = (if c = 64 then 83 else c) := by
  have hl := get_list (X.str (X.opsR op)) k hk
  rw [str_list] at hl
  generalize (X.str (X.opsR op))[k] = g at hl ⊢
  unfold X.opsR at hl
  rw [if_pos ⟨h0, h1⟩, List.getElem?_map] at hl
  cases hc : (X.row op.toNat).2[k]? with
  | none => rw [hc] at hl; cases hl
  | some c => rw [hc] at hl; exact ⟨c, rfl, (Option.some.inj hl).symm⟩
theorem opsR_size {op : Int} (h0 : 0 ≤ op) (h1 : op < 34) : (X.str (X.opsR op)).size = (X.row op.toNat).2.length := by
  rw [str_size]; unfold X.opsR; rw [if_pos ⟨h0, h1⟩, List.length_map]
theorem row_sign : ∀ op : Fin 34, ∀ c ∈ (X.row op.val).2, c = 65 ∨ c = 66 ∨ c = 78 ∨ c = 64 := by decide
theorem mnem_len : ∀ op : Fin 34, (X.row op.val).1.length ≤ 5 := by decide

set_option maxRecDepth 100000 in
set_option maxHeartbeats 8000000 in
theorem rline_ins (nm : ByteArray) (op a b n : Int) (aw : Option Addr) (lw cw : Nat) (ws : List Int) (h0 : 0 ≤ op) (h1 : op < 34) (hs : nm.size ≤ 28) (ha : X.fits a) (hb : X.fits b) (hf : X.fits n) (w : World) :
    Calls Tryz.prog 23 #[.agg #[.int .i64 2, .string nm, .int .i64 op, .int .i64 a, .int .i64 b, .int .i64 n, .slice aw lw cw]] w (LineOut w (Go.Lib.join (X.said ⟨2, nm.data.toList, op, a, b, n, ws⟩) [32])) := by
  have HR : Hid _ := line_ins (nm := nm) (op := op) (a := a) (b := b) (n := n) (ws := ws) (rfl : (2 : Int) = 2)
  have hop := fun w => roperands_any op w
  have hmn := fun w => rmnemonic_any op w
  have HOG : Hid (∀ k (hk : k < (X.str (X.opsR op)).size), ∃ c, (X.row op.toNat).2[k]? = some c ∧ (X.str (X.opsR op))[k] = (if c = 64 then 83 else c)) := fun k hk => opsR_get h0 h1 hk
  have HOS : Hid ((X.str (X.opsR op)).size = (X.row op.toNat).2.length) := opsR_size h0 h1
  have hol : (X.str (X.opsR op)).size ≤ 3 := by rw [str_size]; exact opsR_len op
  have HML : Hid ((X.str (X.mnem op)).data.toList = (X.row op.toNat).1) := by show _ = _; rw [str_list]; unfold X.mnem; rw [if_pos ⟨h0, h1⟩]
  have hml : (X.str (X.mnem op)).size ≤ 5 := by
    rw [← len_list, HML.out]
    exact mnem_len ⟨op.toNat, by omega⟩
  have HSG : Hid (∀ c ∈ (X.row op.toNat).2, c = 65 ∨ c = 66 ∨ c = 78 ∨ c = 64) := row_sign ⟨op.toNat, by omega⟩
  have hra := fun w => rreg_any a ha.1 ha.2 w
  have hrb := fun w => rreg_any b hb.1 hb.2 w
  have hrn := fun w => rtext_any n hf.1 hf.2 w
  have hla := itoa_length_le a ha.1 ha.2
  have hlb := itoa_length_le b hb.1 hb.2
  have hln := itoa_length_le n hf.1 hf.2
  obtain ⟨ta, hta⟩ : ∃ t, X.str (114 :: itoa a) = t := ⟨_, rfl⟩
  obtain ⟨tb, htb⟩ : ∃ t, X.str (114 :: itoa b) = t := ⟨_, rfl⟩
  obtain ⟨tn, htn⟩ : ∃ t, X.str (itoa n) = t := ⟨_, rfl⟩
  have sa : ta.size ≤ 28 := by rw [← hta, str_size]; simp; omega
  have sb : tb.size ≤ 28 := by rw [← htb, str_size]; simp; omega
  have sn : tn.size ≤ 28 := by rw [← htn, str_size]; omega
  have HTA : Hid (ta.data.toList = 114 :: itoa a) := by show _ = _; rw [← hta]; rfl
  have HTB : Hid (tb.data.toList = 114 :: itoa b) := by show _ = _; rw [← htb]; rfl
  have HTN : Hid (tn.data.toList = itoa n) := by show _ = _; rw [← htn]; rfl
  rw [hta] at hra
  rw [htb] at hrb
  rw [htn] at hrn
  clear hta htb htn hla hlb hln ha hb hf
  generalize X.str (X.mnem op) = M at *
  generalize X.str (X.opsR op) = O at *
  have HCX : Hid (∀ y, Below (w.alloc (.cells #[.int .i64 2, .string nm, .int .i64 op, .int .i64 a, .int .i64 b, .int .i64 n, .slice aw lw cw] 32)).heap.size (w.alloc (.cells #[.int .i64 2, .string nm, .int .i64 op, .int .i64 a, .int .i64 b, .int .i64 n, .slice aw lw cw] 32)) y → y.cell? ⟨w.heap.size, 1, none⟩ = some (.string nm) ∧ y.cell? ⟨w.heap.size, 3, none⟩ = some (.int .i64 a) ∧ y.cell? ⟨w.heap.size, 4, none⟩ = some (.int .i64 b) ∧ y.cell? ⟨w.heap.size, 5, none⟩ = some (.int .i64 n)) := fun y hy =>
    ⟨(hy.cell (p := ⟨w.heap.size, 1, none⟩) (by simp)).trans (by simp), (hy.cell (p := ⟨w.heap.size, 3, none⟩) (by simp)).trans (by simp), (hy.cell (p := ⟨w.heap.size, 4, none⟩) (by simp)).trans (by simp), (hy.cell (p := ⟨w.heap.size, 5, none⟩) (by simp)).trans (by simp)⟩
  obtain ⟨F, HF⟩ : ∃ F : UInt8 → X.By, Hid (F = X.operand ⟨2, nm.data.toList, op, a, b, n, ws⟩) := ⟨_, rfl⟩
  rw [← HF.out] at HR
  have HFA : Hid (F 65 = ta.data.toList) := by show _ = _; rw [HF.out, HTA.out]; rfl
  have HFB : Hid (F 66 = tb.data.toList) := by show _ = _; rw [HF.out, HTB.out]; rfl
  have HFN : Hid (F 78 = tn.data.toList) := by show _ = _; rw [HF.out, HTN.out]; rfl
  have HFS : Hid (F 64 = nm.data.toList) := by show _ = _; rw [HF.out]; rfl
  go_enter Tryz.func23, Tryz.ntmps23
  go_wp2_with fail
  refine (hmn _).mono ?_
  rintro e y ⟨rfl, o, rfl⟩
  clear hmn
  go_wp2_with fail
  refine (hop _).mono ?_
  rintro e y ⟨rfl, rfl⟩
  clear hop
  go_wp2_with fail
  go_loopg [5, 7] O.size (fun rr sv iv wq => ∃ (k : Nat) (ss : ByteArray), sv = .string ss ∧ iv = .int .i64 k ∧ k ≤ O.size ∧ O.size - k ≤ rr ∧ ss.size ≤ 5 + 29 * k ∧ Hid (ss.data.toList = (X.row op.toNat).1 ++ Go.Lib.joinTail [32] (((X.row op.toNat).2.map F).take k)) ∧ Hid (Below (w.alloc (.cells #[.int .i64 2, .string nm, .int .i64 op, .int .i64 a, .int .i64 b, .int .i64 n, .slice aw lw cw] 32)).heap.size (w.alloc (.cells #[.int .i64 2, .string nm, .int .i64 op, .int .i64 a, .int .i64 b, .int .i64 n, .slice aw lw cw] 32)) wq))
  case atStart => exact ⟨0, M, rfl, rfl, Nat.zero_le _, by omega, by omega, (by show _ = _; rw [HML.out]; simp [Go.Lib.joinTail]), bl1 _ _⟩
  case round =>
    obtain ⟨k, ss, rfl, rfl, hk, hr, hss, HS, HB⟩ := hrel
    have HW : Hid (Below w.heap.size w wr) := (bl1 _ _).trans (HB.out.mono (bl1 _ _).size)
    obtain ⟨x1, x3, x4, x5⟩ := HCX.out _ HB.out
    by_cases hlt : k < O.size
    · have hii : (k : Int) < O.size := by omega
      have hin : 0 ≤ (k : Int) := by omega
      obtain ⟨c, hc, hOc⟩ := HOG.out k hlt
      have HSN : Hid (Go.Lib.joinTail [32] (((X.row op.toNat).2.map F).take (k + 1)) = Go.Lib.joinTail [32] (((X.row op.toNat).2.map F).take k) ++ 32 :: F c) := tail_snoc F hc
      have hsg := HSG.out c (List.mem_of_getElem? hc)
      have z1 : ¬ 9223372036854775807 < ss.size + 1 := by omega
      have HNX : Hid (∀ (u : ByteArray), F c = u.data.toList → (ss ++ { data := #[32] } ++ u).data.toList = (X.row op.toNat).1 ++ Go.Lib.joinTail [32] (((X.row op.toNat).2.map F).take (k + 1))) := fun u hu => by
        rw [HSN.out, hu, ← List.append_assoc, ← HS.out]
        simp
      have HSZ : Hid (∀ (u : ByteArray), u.size ≤ 28 → (ss ++ { data := #[32] } ++ u).size ≤ 5 + 29 * (k + 1)) := fun u hu => by
        rw [ByteArray.size_append, ByteArray.size_append]
        have : ({ data := #[32] } : ByteArray).size = 1 := rfl
        omega
      clear hc HSN
      rcases hsg with rfl | rfl | rfl | rfl
      · have hq : O[k].toNat = 65 := by rw [hOc]; rfl
        have hq' : ((O[k].toNat : Int) == 65) = true := by simp [hq]
        have z2 : ¬ 9223372036854775807 < ss.size + 1 + ta.size := by omega
        clear hOc hq
        go_wp2_with fail
        refine (hra _).mono ?_
        rintro e y ⟨rfl, hb⟩
        have HB2 : Hid _ := hb
        clear hb hra x1 x3 x4 x5
        go_wp2_with fail
        go_roundg (O.size - (k + 1))
        case measure => omega
        case rel => exact ⟨k + 1, _, rfl, by go_num, by omega, Nat.le_refl _, HSZ.out _ sa, HNX.out _ HFA.out, HB.out.trans (HB2.out.mono HB.out.size)⟩
      · have hq : O[k].toNat = 66 := by rw [hOc]; rfl
        have hq' : ((O[k].toNat : Int) == 65) = false := by simp [hq]
        have hq2 : ((O[k].toNat : Int) == 66) = true := by simp [hq]
        have z2 : ¬ 9223372036854775807 < ss.size + 1 + tb.size := by omega
        clear hOc hq
        go_wp2_with fail
        refine (hrb _).mono ?_
        rintro e y ⟨rfl, hb⟩
        have HB2 : Hid _ := hb
        clear hb hrb x1 x3 x4 x5
        go_wp2_with fail
        go_roundg (O.size - (k + 1))
        case measure => omega
        case rel => exact ⟨k + 1, _, rfl, by go_num, by omega, Nat.le_refl _, HSZ.out _ sb, HNX.out _ HFB.out, HB.out.trans (HB2.out.mono HB.out.size)⟩
      · have hq : O[k].toNat = 78 := by rw [hOc]; rfl
        have hq' : ((O[k].toNat : Int) == 65) = false := by simp [hq]
        have hq2 : ((O[k].toNat : Int) == 66) = false := by simp [hq]
        have hq3 : ((O[k].toNat : Int) == 78) = true := by simp [hq]
        have z2 : ¬ 9223372036854775807 < ss.size + 1 + tn.size := by omega
        clear hOc hq
        go_wp2_with fail
        refine (hrn _).mono ?_
        rintro e y ⟨rfl, hb⟩
        have HB2 : Hid _ := hb
        clear hb hrn x1 x3 x4 x5
        go_wp2_with fail
        go_roundg (O.size - (k + 1))
        case measure => omega
        case rel => exact ⟨k + 1, _, rfl, by go_num, by omega, Nat.le_refl _, HSZ.out _ sn, HNX.out _ HFN.out, HB.out.trans (HB2.out.mono HB.out.size)⟩
      · have hq : O[k].toNat = 83 := by rw [hOc]; rfl
        have hq' : ((O[k].toNat : Int) == 65) = false := by simp [hq]
        have hq2 : ((O[k].toNat : Int) == 66) = false := by simp [hq]
        have hq3 : ((O[k].toNat : Int) == 78) = false := by simp [hq]
        have z2 : ¬ 9223372036854775807 < ss.size + 1 + nm.size := by omega
        clear hOc hq
        go_wp2_with fail
        go_roundg (O.size - (k + 1))
        case measure => omega
        case rel => exact ⟨k + 1, _, rfl, by go_num, by omega, Nat.le_refl _, HSZ.out _ hs, HNX.out _ HFS.out, HB.out⟩
    · obtain rfl : k = O.size := by omega
      have hii : ¬ (O.size : Int) < O.size := by omega
      clear x1 x3 x4 x5
      go_wp2_with fail
      go_ret
      exact ⟨ret_s (by rw [str_list, HR.out, HS.out, List.take_of_length_le (by rw [List.length_map, ← HOS.out]; exact Nat.le_refl _)]), HW.out⟩

theorem rline_any (kd : Int) (nm : ByteArray) (op a b n : Int) (aw : Option Addr) (lw cw : Nat) (ws : List Int) (hok : X.itOk ⟨kd, nm.data.toList, op, a, b, n, ws⟩ = true) (hf : X.fitsIt ⟨kd, nm.data.toList, op, a, b, n, ws⟩) (w : World) (hi : IntsV w aw lw cw ws) :
    Calls Tryz.prog 23 #[.agg #[.int .i64 kd, .string nm, .int .i64 op, .int .i64 a, .int .i64 b, .int .i64 n, .slice aw lw cw]] w (LineOut w (Go.Lib.join (X.said ⟨kd, nm.data.toList, op, a, b, n, ws⟩) [32])) := by
  have hn28 : X.name nm.data.toList = true → nm.size ≤ 28 := fun h => by
    simp only [X.name, Bool.and_eq_true, decide_eq_true_eq, len_list] at h
    exact h.2.1
  rcases X.itOk_cases hok with ⟨hk, h1, h2⟩ | ⟨hk, h1, h2, h3, h4⟩ | ⟨hk, h1, h2, h3⟩
  · simp only at hk
    subst hk
    obtain ⟨o0, o1, -, -, hnm, -, -, -, ra, rb, -⟩ := X.insOk_split h1
    simp only at o0 o1 hnm ra rb
    refine rline_ins nm op a b n aw lw cw ws o0 o1 ?_ ?_ ?_ hf.1 w
    · rcases hnm with e | e
      · have : nm.size = 0 := by rw [← len_list, e]; rfl
        omega
      · exact hn28 e
    · have := X.isReg_iff.1 ra
      constructor <;> omega
    · have := X.isReg_iff.1 rb
      constructor <;> omega
  · simp only at hk
    subst hk
    exact rline_words nm op a b n aw lw cw ws (hn28 h1) (by rw [← hi.count]; exact h3) hf.2 w hi
  · exact rline_plain kd nm op a b n aw lw cw ws hk (hn28 h1) w

end Go.Proofs.YteakimepdnojdaaGreatDoor

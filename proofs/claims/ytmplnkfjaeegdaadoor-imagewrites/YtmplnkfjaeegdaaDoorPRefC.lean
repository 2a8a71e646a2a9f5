/- The document's Encode, where the form bears all. (Written by gen_rok.py.) -/
import Derived.Test.YtmplnkfjaeegdaaDoorPRefB
import Derived.Test.YtmplnkfjaeegdaaDoorPRefA
namespace Go.Proofs.YtmplnkfjaeegdaaDoor
set_option maxRecDepth 100000
open Go.RowKit
set_option linter.unusedVariables false

set_option maxRecDepth 100000 in
set_option maxHeartbeats 16000000 in
theorem rok_1 (op a b n : Int) (hn : (Lit.int .i64 n).wf = true) (o1 : 1 ≤ op) (o2 : op ≤ 33) (HF : Hid (I.form op = 1)) (h1 : 0 ≤ a) (h2 : a ≤ 7) (h3 : 0 ≤ b) (h4 : b ≤ 7) (h6 : (b != 0) = false) (w : World) :
    Calls Tryd.prog 85 #[insV op a b n] w fun e w' => e = .returned (.tuple #[.string (strOfNums (if W.bytesE n 8 = 0 then [op] ++ [a] ++ W.bytesV n 8 else [])), .int .i64 (W.bytesE n 8)]) ∧ Below w.heap.size w w' := by
  have pA : I.hasA 1 = true := by decide
  have pB : I.hasB 1 = false := by decide
  have pN : I.numB 1 = 8 := by decide
  have hw : IntKind.u8.wrap op = op := by rw [IntKind.wrap_u8]; omega
  have hwa : IntKind.u8.wrap a = a := by rw [IntKind.wrap_u8]; omega
  have hwb : IntKind.u8.wrap (16 * a + b) = 16 * a + b := by rw [IntKind.wrap_u8]; omega
  have hcv := conv1
  have z1 : (strOfNums [op]).size = 1 := by rw [strOfNums_size]; rfl
  have z2 : (strOfNums [a]).size = 1 := by rw [strOfNums_size]; rfl
  have z3 : (strOfNums [16 * a + b]).size = 1 := by rw [strOfNums_size]; rfl
  have lb : (W.bytesV n 8).length ≤ 8 := by
    have := I.numW_len 8 n
    unfold I.numW at this
    rw [if_neg (by decide)] at this
    exact this
  have zb : (strOfNums (W.bytesV n 8)).size ≤ 8 := by rw [strOfNums_size]; exact lb
  clear lb
  obtain ⟨vb, hvb⟩ : ∃ vb, W.bytesV n 8 = vb := ⟨_, rfl⟩
  have HVB : Hid (W.bytesV n 8 = vb) := hvb
  rw [hvb] at zb
  rw [hvb]
  obtain ⟨ee, he⟩ : ∃ ee, W.bytesE n 8 = ee := ⟨_, rfl⟩
  have HE : Hid (W.bytesE n 8 = ee) := he
  rw [he]
  clear he hvb
  by_cases h0 : ee = 0
  · subst h0
    rw [if_pos rfl]
    go_enter Tryd.func85, Tryd.ntmps85
    go_wp2_with (first | (go_at_call 63; refine (form_any _ _).mono ?_; rintro e w' ⟨rfl, rfl⟩; rw [HF.out]) | (go_at_call 64; refine (parts_any _ ?_ ?_ _).mono ?_; omega; omega; rintro e w' ⟨rfl, rfl⟩; rw [pA, pB, pN]) | (go_at_call 78; refine (rbytes_any n 8 hn _).mono ?_; rintro e w1 ⟨rfl, hb1⟩; rw [HE.out, HVB.out]))
    go_ret2
    exact ⟨retSE (by first | (rw [strOfNums_app, strOfNums_app]; done) | (rw [strOfNums_app, strOfNums_app]; rfl) | (rw [strOfNums_app]; done) | (rw [strOfNums_app]; rfl)) rfl, (bl3 _ _ _ _).trans (hb1.mono (by simp; omega))⟩
  · rw [if_neg h0]
    go_enter Tryd.func85, Tryd.ntmps85
    go_wp2_with (first | (go_at_call 63; refine (form_any _ _).mono ?_; rintro e w' ⟨rfl, rfl⟩; rw [HF.out]) | (go_at_call 64; refine (parts_any _ ?_ ?_ _).mono ?_; omega; omega; rintro e w' ⟨rfl, rfl⟩; rw [pA, pB, pN]) | (go_at_call 78; refine (rbytes_any n 8 hn _).mono ?_; rintro e w1 ⟨rfl, hb1⟩; rw [HE.out, HVB.out]))
    go_ret2
    exact ⟨rfl, (bl3 _ _ _ _).trans (hb1.mono (by simp; omega))⟩

set_option maxRecDepth 100000 in
set_option maxHeartbeats 16000000 in
theorem rok_2 (op a b n : Int) (o1 : 1 ≤ op) (o2 : op ≤ 33) (HF : Hid (I.form op = 2)) (h1 : 0 ≤ a) (h2 : a ≤ 7) (h3 : 0 ≤ b) (h4 : b ≤ 7) (h7 : (n != 0) = false) (w : World) :
    Calls Tryd.prog 85 #[insV op a b n] w fun e w' => e = .returned (.tuple #[.string (strOfNums ([op] ++ [16 * a + b])), .int .i64 0]) ∧ Below w.heap.size w w' := by
  have pA : I.hasA 2 = true := by decide
  have pB : I.hasB 2 = true := by decide
  have pN : I.numB 2 = 0 := by decide
  have hw : IntKind.u8.wrap op = op := by rw [IntKind.wrap_u8]; omega
  have hwa : IntKind.u8.wrap a = a := by rw [IntKind.wrap_u8]; omega
  have hwb : IntKind.u8.wrap (16 * a + b) = 16 * a + b := by rw [IntKind.wrap_u8]; omega
  have hcv := conv1
  have z1 : (strOfNums [op]).size = 1 := by rw [strOfNums_size]; rfl
  have z2 : (strOfNums [a]).size = 1 := by rw [strOfNums_size]; rfl
  have z3 : (strOfNums [16 * a + b]).size = 1 := by rw [strOfNums_size]; rfl
  go_enter Tryd.func85, Tryd.ntmps85
  go_wp2_with (first | (go_at_call 63; refine (form_any _ _).mono ?_; rintro e w' ⟨rfl, rfl⟩; rw [HF.out]) | (go_at_call 64; refine (parts_any _ ?_ ?_ _).mono ?_; omega; omega; rintro e w' ⟨rfl, rfl⟩; rw [pA, pB, pN]))
  go_ret2
  exact ⟨retSE (by first | rfl | rw [strOfNums_app]) rfl, bl3 _ _ _ _⟩

set_option maxRecDepth 100000 in
set_option maxHeartbeats 16000000 in
theorem rok_3 (op a b n : Int) (hn : (Lit.int .i64 n).wf = true) (o1 : 1 ≤ op) (o2 : op ≤ 33) (HF : Hid (I.form op = 3)) (h1 : 0 ≤ a) (h2 : a ≤ 7) (h3 : 0 ≤ b) (h4 : b ≤ 7) (w : World) :
    Calls Tryd.prog 85 #[insV op a b n] w fun e w' => e = .returned (.tuple #[.string (strOfNums (if W.bytesE n 4 = 0 then [op] ++ [16 * a + b] ++ W.bytesV n 4 else [])), .int .i64 (W.bytesE n 4)]) ∧ Below w.heap.size w w' := by
  have pA : I.hasA 3 = true := by decide
  have pB : I.hasB 3 = true := by decide
  have pN : I.numB 3 = 4 := by decide
  have hw : IntKind.u8.wrap op = op := by rw [IntKind.wrap_u8]; omega
  have hwa : IntKind.u8.wrap a = a := by rw [IntKind.wrap_u8]; omega
  have hwb : IntKind.u8.wrap (16 * a + b) = 16 * a + b := by rw [IntKind.wrap_u8]; omega
  have hcv := conv1
  have z1 : (strOfNums [op]).size = 1 := by rw [strOfNums_size]; rfl
  have z2 : (strOfNums [a]).size = 1 := by rw [strOfNums_size]; rfl
  have z3 : (strOfNums [16 * a + b]).size = 1 := by rw [strOfNums_size]; rfl
  have lb : (W.bytesV n 4).length ≤ 8 := by
    have := I.numW_len 4 n
    unfold I.numW at this
    rw [if_neg (by decide)] at this
    exact this
  have zb : (strOfNums (W.bytesV n 4)).size ≤ 8 := by rw [strOfNums_size]; exact lb
  clear lb
  obtain ⟨vb, hvb⟩ : ∃ vb, W.bytesV n 4 = vb := ⟨_, rfl⟩
  have HVB : Hid (W.bytesV n 4 = vb) := hvb
  rw [hvb] at zb
  rw [hvb]
  obtain ⟨ee, he⟩ : ∃ ee, W.bytesE n 4 = ee := ⟨_, rfl⟩
  have HE : Hid (W.bytesE n 4 = ee) := he
  rw [he]
  clear he hvb
  by_cases h0 : ee = 0
  · subst h0
    rw [if_pos rfl]
    go_enter Tryd.func85, Tryd.ntmps85
    go_wp2_with (first | (go_at_call 63; refine (form_any _ _).mono ?_; rintro e w' ⟨rfl, rfl⟩; rw [HF.out]) | (go_at_call 64; refine (parts_any _ ?_ ?_ _).mono ?_; omega; omega; rintro e w' ⟨rfl, rfl⟩; rw [pA, pB, pN]) | (go_at_call 78; refine (rbytes_any n 4 hn _).mono ?_; rintro e w1 ⟨rfl, hb1⟩; rw [HE.out, HVB.out]))
    go_ret2
    exact ⟨retSE (by first | (rw [strOfNums_app, strOfNums_app]; done) | (rw [strOfNums_app, strOfNums_app]; rfl) | (rw [strOfNums_app]; done) | (rw [strOfNums_app]; rfl)) rfl, (bl3 _ _ _ _).trans (hb1.mono (by simp; omega))⟩
  · rw [if_neg h0]
    go_enter Tryd.func85, Tryd.ntmps85
    go_wp2_with (first | (go_at_call 63; refine (form_any _ _).mono ?_; rintro e w' ⟨rfl, rfl⟩; rw [HF.out]) | (go_at_call 64; refine (parts_any _ ?_ ?_ _).mono ?_; omega; omega; rintro e w' ⟨rfl, rfl⟩; rw [pA, pB, pN]) | (go_at_call 78; refine (rbytes_any n 4 hn _).mono ?_; rintro e w1 ⟨rfl, hb1⟩; rw [HE.out, HVB.out]))
    go_ret2
    exact ⟨rfl, (bl3 _ _ _ _).trans (hb1.mono (by simp; omega))⟩

set_option maxRecDepth 100000 in
set_option maxHeartbeats 16000000 in
theorem rok_4 (op a b n : Int) (hn : (Lit.int .i64 n).wf = true) (o1 : 1 ≤ op) (o2 : op ≤ 33) (HF : Hid (I.form op = 4)) (h1 : 0 ≤ a) (h2 : a ≤ 7) (h3 : 0 ≤ b) (h4 : b ≤ 7) (h6 : (b != 0) = false) (w : World) :
    Calls Tryd.prog 85 #[insV op a b n] w fun e w' => e = .returned (.tuple #[.string (strOfNums (if W.bytesE n 4 = 0 then [op] ++ [a] ++ W.bytesV n 4 else [])), .int .i64 (W.bytesE n 4)]) ∧ Below w.heap.size w w' := by
  have pA : I.hasA 4 = true := by decide
  have pB : I.hasB 4 = false := by decide
  have pN : I.numB 4 = 4 := by decide
  have hw : IntKind.u8.wrap op = op := by rw [IntKind.wrap_u8]; omega
  have hwa : IntKind.u8.wrap a = a := by rw [IntKind.wrap_u8]; omega
  have hwb : IntKind.u8.wrap (16 * a + b) = 16 * a + b := by rw [IntKind.wrap_u8]; omega
  have hcv := conv1
  have z1 : (strOfNums [op]).size = 1 := by rw [strOfNums_size]; rfl
  have z2 : (strOfNums [a]).size = 1 := by rw [strOfNums_size]; rfl
  have z3 : (strOfNums [16 * a + b]).size = 1 := by rw [strOfNums_size]; rfl
  have lb : (W.bytesV n 4).length ≤ 8 := by
    have := I.numW_len 4 n
    unfold I.numW at this
    rw [if_neg (by decide)] at this
    exact this
  have zb : (strOfNums (W.bytesV n 4)).size ≤ 8 := by rw [strOfNums_size]; exact lb
  clear lb
  obtain ⟨vb, hvb⟩ : ∃ vb, W.bytesV n 4 = vb := ⟨_, rfl⟩
  have HVB : Hid (W.bytesV n 4 = vb) := hvb
  rw [hvb] at zb
  rw [hvb]
  obtain ⟨ee, he⟩ : ∃ ee, W.bytesE n 4 = ee := ⟨_, rfl⟩
  have HE : Hid (W.bytesE n 4 = ee) := he
  rw [he]
  clear he hvb
  by_cases h0 : ee = 0
  · subst h0
    rw [if_pos rfl]
    go_enter Tryd.func85, Tryd.ntmps85
    go_wp2_with (first | (go_at_call 63; refine (form_any _ _).mono ?_; rintro e w' ⟨rfl, rfl⟩; rw [HF.out]) | (go_at_call 64; refine (parts_any _ ?_ ?_ _).mono ?_; omega; omega; rintro e w' ⟨rfl, rfl⟩; rw [pA, pB, pN]) | (go_at_call 78; refine (rbytes_any n 4 hn _).mono ?_; rintro e w1 ⟨rfl, hb1⟩; rw [HE.out, HVB.out]))
    go_ret2
    exact ⟨retSE (by first | (rw [strOfNums_app, strOfNums_app]; done) | (rw [strOfNums_app, strOfNums_app]; rfl) | (rw [strOfNums_app]; done) | (rw [strOfNums_app]; rfl)) rfl, (bl3 _ _ _ _).trans (hb1.mono (by simp; omega))⟩
  · rw [if_neg h0]
    go_enter Tryd.func85, Tryd.ntmps85
    go_wp2_with (first | (go_at_call 63; refine (form_any _ _).mono ?_; rintro e w' ⟨rfl, rfl⟩; rw [HF.out]) | (go_at_call 64; refine (parts_any _ ?_ ?_ _).mono ?_; omega; omega; rintro e w' ⟨rfl, rfl⟩; rw [pA, pB, pN]) | (go_at_call 78; refine (rbytes_any n 4 hn _).mono ?_; rintro e w1 ⟨rfl, hb1⟩; rw [HE.out, HVB.out]))
    go_ret2
    exact ⟨rfl, (bl3 _ _ _ _).trans (hb1.mono (by simp; omega))⟩

set_option maxRecDepth 100000 in
set_option maxHeartbeats 16000000 in
theorem rok_5 (op a b n : Int) (hn : (Lit.int .i64 n).wf = true) (o1 : 1 ≤ op) (o2 : op ≤ 33) (HF : Hid (I.form op = 5)) (h1 : 0 ≤ a) (h2 : a ≤ 7) (h3 : 0 ≤ b) (h4 : b ≤ 7) (h5 : (a != 0) = false) (h6 : (b != 0) = false) (w : World) :
    Calls Tryd.prog 85 #[insV op a b n] w fun e w' => e = .returned (.tuple #[.string (strOfNums (if W.bytesE n 4 = 0 then [op] ++ W.bytesV n 4 else [])), .int .i64 (W.bytesE n 4)]) ∧ Below w.heap.size w w' := by
  have pA : I.hasA 5 = false := by decide
  have pB : I.hasB 5 = false := by decide
  have pN : I.numB 5 = 4 := by decide
  have hw : IntKind.u8.wrap op = op := by rw [IntKind.wrap_u8]; omega
  have hwa : IntKind.u8.wrap a = a := by rw [IntKind.wrap_u8]; omega
  have hwb : IntKind.u8.wrap (16 * a + b) = 16 * a + b := by rw [IntKind.wrap_u8]; omega
  have hcv := conv1
  have z1 : (strOfNums [op]).size = 1 := by rw [strOfNums_size]; rfl
  have z2 : (strOfNums [a]).size = 1 := by rw [strOfNums_size]; rfl
  have z3 : (strOfNums [16 * a + b]).size = 1 := by rw [strOfNums_size]; rfl
  have lb : (W.bytesV n 4).length ≤ 8 := by
    have := I.numW_len 4 n
    unfold I.numW at this
    rw [if_neg (by decide)] at this
    exact this
  have zb : (strOfNums (W.bytesV n 4)).size ≤ 8 := by rw [strOfNums_size]; exact lb
  clear lb
  obtain ⟨vb, hvb⟩ : ∃ vb, W.bytesV n 4 = vb := ⟨_, rfl⟩
  have HVB : Hid (W.bytesV n 4 = vb) := hvb
  rw [hvb] at zb
  rw [hvb]
  obtain ⟨ee, he⟩ : ∃ ee, W.bytesE n 4 = ee := ⟨_, rfl⟩
  have HE : Hid (W.bytesE n 4 = ee) := he
  rw [he]
  clear he hvb
  by_cases h0 : ee = 0
  · subst h0
    rw [if_pos rfl]
    go_enter Tryd.func85, Tryd.ntmps85
    go_wp2_with (first | (go_at_call 63; refine (form_any _ _).mono ?_; rintro e w' ⟨rfl, rfl⟩; rw [HF.out]) | (go_at_call 64; refine (parts_any _ ?_ ?_ _).mono ?_; omega; omega; rintro e w' ⟨rfl, rfl⟩; rw [pA, pB, pN]) | (go_at_call 78; refine (rbytes_any n 4 hn _).mono ?_; rintro e w1 ⟨rfl, hb1⟩; rw [HE.out, HVB.out]))
    go_ret2
    exact ⟨retSE (by first | (rw [strOfNums_app, strOfNums_app]; done) | (rw [strOfNums_app, strOfNums_app]; rfl) | (rw [strOfNums_app]; done) | (rw [strOfNums_app]; rfl)) rfl, (bl2 _ _ _).trans (hb1.mono (by simp; omega))⟩
  · rw [if_neg h0]
    go_enter Tryd.func85, Tryd.ntmps85
    go_wp2_with (first | (go_at_call 63; refine (form_any _ _).mono ?_; rintro e w' ⟨rfl, rfl⟩; rw [HF.out]) | (go_at_call 64; refine (parts_any _ ?_ ?_ _).mono ?_; omega; omega; rintro e w' ⟨rfl, rfl⟩; rw [pA, pB, pN]) | (go_at_call 78; refine (rbytes_any n 4 hn _).mono ?_; rintro e w1 ⟨rfl, hb1⟩; rw [HE.out, HVB.out]))
    go_ret2
    exact ⟨rfl, (bl2 _ _ _).trans (hb1.mono (by simp; omega))⟩

set_option maxRecDepth 100000 in
set_option maxHeartbeats 16000000 in
theorem rok_6 (op a b n : Int) (o1 : 1 ≤ op) (o2 : op ≤ 33) (HF : Hid (I.form op = 6)) (h1 : 0 ≤ a) (h2 : a ≤ 7) (h3 : 0 ≤ b) (h4 : b ≤ 7) (h5 : (a != 0) = false) (h6 : (b != 0) = false) (h7 : (n != 0) = false) (w : World) :
    Calls Tryd.prog 85 #[insV op a b n] w fun e w' => e = .returned (.tuple #[.string (strOfNums ([op])), .int .i64 0]) ∧ Below w.heap.size w w' := by
  have pA : I.hasA 6 = false := by decide
  have pB : I.hasB 6 = false := by decide
  have pN : I.numB 6 = 0 := by decide
  have hw : IntKind.u8.wrap op = op := by rw [IntKind.wrap_u8]; omega
  have hwa : IntKind.u8.wrap a = a := by rw [IntKind.wrap_u8]; omega
  have hwb : IntKind.u8.wrap (16 * a + b) = 16 * a + b := by rw [IntKind.wrap_u8]; omega
  have hcv := conv1
  have z1 : (strOfNums [op]).size = 1 := by rw [strOfNums_size]; rfl
  have z2 : (strOfNums [a]).size = 1 := by rw [strOfNums_size]; rfl
  have z3 : (strOfNums [16 * a + b]).size = 1 := by rw [strOfNums_size]; rfl
  go_enter Tryd.func85, Tryd.ntmps85
  go_wp2_with (first | (go_at_call 63; refine (form_any _ _).mono ?_; rintro e w' ⟨rfl, rfl⟩; rw [HF.out]) | (go_at_call 64; refine (parts_any _ ?_ ?_ _).mono ?_; omega; omega; rintro e w' ⟨rfl, rfl⟩; rw [pA, pB, pN]))
  go_ret2
  exact ⟨retSE (by first | rfl | rw [strOfNums_app]) rfl, bl2 _ _ _⟩

set_option maxRecDepth 100000 in
set_option maxHeartbeats 16000000 in
theorem rok_7 (op a b n : Int) (hn : (Lit.int .i64 n).wf = true) (o1 : 1 ≤ op) (o2 : op ≤ 33) (HF : Hid (I.form op = 7)) (h1 : 0 ≤ a) (h2 : a ≤ 7) (h3 : 0 ≤ b) (h4 : b ≤ 7) (h5 : (a != 0) = false) (h6 : (b != 0) = false) (w : World) :
    Calls Tryd.prog 85 #[insV op a b n] w fun e w' => e = .returned (.tuple #[.string (strOfNums (if W.bytesE n 1 = 0 then [op] ++ W.bytesV n 1 else [])), .int .i64 (W.bytesE n 1)]) ∧ Below w.heap.size w w' := by
  have pA : I.hasA 7 = false := by decide
  have pB : I.hasB 7 = false := by decide
  have pN : I.numB 7 = 1 := by decide
  have hw : IntKind.u8.wrap op = op := by rw [IntKind.wrap_u8]; omega
  have hwa : IntKind.u8.wrap a = a := by rw [IntKind.wrap_u8]; omega
  have hwb : IntKind.u8.wrap (16 * a + b) = 16 * a + b := by rw [IntKind.wrap_u8]; omega
  have hcv := conv1
  have z1 : (strOfNums [op]).size = 1 := by rw [strOfNums_size]; rfl
  have z2 : (strOfNums [a]).size = 1 := by rw [strOfNums_size]; rfl
  have z3 : (strOfNums [16 * a + b]).size = 1 := by rw [strOfNums_size]; rfl
  have lb : (W.bytesV n 1).length ≤ 8 := by
    have := I.numW_len 1 n
    unfold I.numW at this
    rw [if_neg (by decide)] at this
    exact this
  have zb : (strOfNums (W.bytesV n 1)).size ≤ 8 := by rw [strOfNums_size]; exact lb
  clear lb
  obtain ⟨vb, hvb⟩ : ∃ vb, W.bytesV n 1 = vb := ⟨_, rfl⟩
  have HVB : Hid (W.bytesV n 1 = vb) := hvb
  rw [hvb] at zb
  rw [hvb]
  obtain ⟨ee, he⟩ : ∃ ee, W.bytesE n 1 = ee := ⟨_, rfl⟩
  have HE : Hid (W.bytesE n 1 = ee) := he
  rw [he]
  clear he hvb
  by_cases h0 : ee = 0
  · subst h0
    rw [if_pos rfl]
    go_enter Tryd.func85, Tryd.ntmps85
    go_wp2_with (first | (go_at_call 63; refine (form_any _ _).mono ?_; rintro e w' ⟨rfl, rfl⟩; rw [HF.out]) | (go_at_call 64; refine (parts_any _ ?_ ?_ _).mono ?_; omega; omega; rintro e w' ⟨rfl, rfl⟩; rw [pA, pB, pN]) | (go_at_call 78; refine (rbytes_any n 1 hn _).mono ?_; rintro e w1 ⟨rfl, hb1⟩; rw [HE.out, HVB.out]))
    go_ret2
    exact ⟨retSE (by first | (rw [strOfNums_app, strOfNums_app]; done) | (rw [strOfNums_app, strOfNums_app]; rfl) | (rw [strOfNums_app]; done) | (rw [strOfNums_app]; rfl)) rfl, (bl2 _ _ _).trans (hb1.mono (by simp; omega))⟩
  · rw [if_neg h0]
    go_enter Tryd.func85, Tryd.ntmps85
    go_wp2_with (first | (go_at_call 63; refine (form_any _ _).mono ?_; rintro e w' ⟨rfl, rfl⟩; rw [HF.out]) | (go_at_call 64; refine (parts_any _ ?_ ?_ _).mono ?_; omega; omega; rintro e w' ⟨rfl, rfl⟩; rw [pA, pB, pN]) | (go_at_call 78; refine (rbytes_any n 1 hn _).mono ?_; rintro e w1 ⟨rfl, hb1⟩; rw [HE.out, HVB.out]))
    go_ret2
    exact ⟨rfl, (bl2 _ _ _).trans (hb1.mono (by simp; omega))⟩

set_option maxRecDepth 100000 in
set_option maxHeartbeats 16000000 in
theorem rok_8 (op a b n : Int) (hn : (Lit.int .i64 n).wf = true) (o1 : 1 ≤ op) (o2 : op ≤ 33) (HF : Hid (I.form op = 8)) (h1 : 0 ≤ a) (h2 : a ≤ 7) (h3 : 0 ≤ b) (h4 : b ≤ 7) (h6 : (b != 0) = false) (w : World) :
    Calls Tryd.prog 85 #[insV op a b n] w fun e w' => e = .returned (.tuple #[.string (strOfNums (if W.bytesE n 1 = 0 then [op] ++ [a] ++ W.bytesV n 1 else [])), .int .i64 (W.bytesE n 1)]) ∧ Below w.heap.size w w' := by
  have pA : I.hasA 8 = true := by decide
  have pB : I.hasB 8 = false := by decide
  have pN : I.numB 8 = 1 := by decide
  have hw : IntKind.u8.wrap op = op := by rw [IntKind.wrap_u8]; omega
  have hwa : IntKind.u8.wrap a = a := by rw [IntKind.wrap_u8]; omega
  have hwb : IntKind.u8.wrap (16 * a + b) = 16 * a + b := by rw [IntKind.wrap_u8]; omega
  have hcv := conv1
  have z1 : (strOfNums [op]).size = 1 := by rw [strOfNums_size]; rfl
  have z2 : (strOfNums [a]).size = 1 := by rw [strOfNums_size]; rfl
  have z3 : (strOfNums [16 * a + b]).size = 1 := by rw [strOfNums_size]; rfl
  have lb : (W.bytesV n 1).length ≤ 8 := by
    have := I.numW_len 1 n
    unfold I.numW at this
    rw [if_neg (by decide)] at this
    exact this
  have zb : (strOfNums (W.bytesV n 1)).size ≤ 8 := by rw [strOfNums_size]; exact lb
  clear lb
  obtain ⟨vb, hvb⟩ : ∃ vb, W.bytesV n 1 = vb := ⟨_, rfl⟩
  have HVB : Hid (W.bytesV n 1 = vb) := hvb
  rw [hvb] at zb
  rw [hvb]
  obtain ⟨ee, he⟩ : ∃ ee, W.bytesE n 1 = ee := ⟨_, rfl⟩
  have HE : Hid (W.bytesE n 1 = ee) := he
  rw [he]
  clear he hvb
  by_cases h0 : ee = 0
  · subst h0
    rw [if_pos rfl]
    go_enter Tryd.func85, Tryd.ntmps85
    go_wp2_with (first | (go_at_call 63; refine (form_any _ _).mono ?_; rintro e w' ⟨rfl, rfl⟩; rw [HF.out]) | (go_at_call 64; refine (parts_any _ ?_ ?_ _).mono ?_; omega; omega; rintro e w' ⟨rfl, rfl⟩; rw [pA, pB, pN]) | (go_at_call 78; refine (rbytes_any n 1 hn _).mono ?_; rintro e w1 ⟨rfl, hb1⟩; rw [HE.out, HVB.out]))
    go_ret2
    exact ⟨retSE (by first | (rw [strOfNums_app, strOfNums_app]; done) | (rw [strOfNums_app, strOfNums_app]; rfl) | (rw [strOfNums_app]; done) | (rw [strOfNums_app]; rfl)) rfl, (bl3 _ _ _ _).trans (hb1.mono (by simp; omega))⟩
  · rw [if_neg h0]
    go_enter Tryd.func85, Tryd.ntmps85
    go_wp2_with (first | (go_at_call 63; refine (form_any _ _).mono ?_; rintro e w' ⟨rfl, rfl⟩; rw [HF.out]) | (go_at_call 64; refine (parts_any _ ?_ ?_ _).mono ?_; omega; omega; rintro e w' ⟨rfl, rfl⟩; rw [pA, pB, pN]) | (go_at_call 78; refine (rbytes_any n 1 hn _).mono ?_; rintro e w1 ⟨rfl, hb1⟩; rw [HE.out, HVB.out]))
    go_ret2
    exact ⟨rfl, (bl3 _ _ _ _).trans (hb1.mono (by simp; omega))⟩

set_option maxRecDepth 100000 in
set_option maxHeartbeats 16000000 in
theorem rok_9 (op a b n : Int) (o1 : 1 ≤ op) (o2 : op ≤ 33) (HF : Hid (I.form op = 9)) (h1 : 0 ≤ a) (h2 : a ≤ 7) (h3 : 0 ≤ b) (h4 : b ≤ 7) (h6 : (b != 0) = false) (h7 : (n != 0) = false) (w : World) :
    Calls Tryd.prog 85 #[insV op a b n] w fun e w' => e = .returned (.tuple #[.string (strOfNums ([op] ++ [a])), .int .i64 0]) ∧ Below w.heap.size w w' := by
  have pA : I.hasA 9 = true := by decide
  have pB : I.hasB 9 = false := by decide
  have pN : I.numB 9 = 0 := by decide
  have hw : IntKind.u8.wrap op = op := by rw [IntKind.wrap_u8]; omega
  have hwa : IntKind.u8.wrap a = a := by rw [IntKind.wrap_u8]; omega
  have hwb : IntKind.u8.wrap (16 * a + b) = 16 * a + b := by rw [IntKind.wrap_u8]; omega
  have hcv := conv1
  have z1 : (strOfNums [op]).size = 1 := by rw [strOfNums_size]; rfl
  have z2 : (strOfNums [a]).size = 1 := by rw [strOfNums_size]; rfl
  have z3 : (strOfNums [16 * a + b]).size = 1 := by rw [strOfNums_size]; rfl
  go_enter Tryd.func85, Tryd.ntmps85
  go_wp2_with (first | (go_at_call 63; refine (form_any _ _).mono ?_; rintro e w' ⟨rfl, rfl⟩; rw [HF.out]) | (go_at_call 64; refine (parts_any _ ?_ ?_ _).mono ?_; omega; omega; rintro e w' ⟨rfl, rfl⟩; rw [pA, pB, pN]))
  go_ret2
  exact ⟨retSE (by first | rfl | rw [strOfNums_app]) rfl, bl3 _ _ _ _⟩

set_option maxRecDepth 100000 in
set_option maxHeartbeats 16000000 in
theorem rok_10 (op a b n : Int) (hn : (Lit.int .i64 n).wf = true) (o1 : 1 ≤ op) (o2 : op ≤ 33) (HF : Hid (I.form op = 10)) (h1 : 0 ≤ a) (h2 : a ≤ 7) (h3 : 0 ≤ b) (h4 : b ≤ 7) (h5 : (a != 0) = false) (h6 : (b != 0) = false) (n0 : 0 ≤ n) (n7 : n ≤ 127) (w : World) :
    Calls Tryd.prog 85 #[insV op a b n] w fun e w' => e = .returned (.tuple #[.string (strOfNums (if W.bytesE n 1 = 0 then [op] ++ W.bytesV n 1 else [])), .int .i64 (W.bytesE n 1)]) ∧ Below w.heap.size w w' := by
  have pA : I.hasA 10 = false := by decide
  have pB : I.hasB 10 = false := by decide
  have pN : I.numB 10 = 1 := by decide
  have hw : IntKind.u8.wrap op = op := by rw [IntKind.wrap_u8]; omega
  have hwa : IntKind.u8.wrap a = a := by rw [IntKind.wrap_u8]; omega
  have hwb : IntKind.u8.wrap (16 * a + b) = 16 * a + b := by rw [IntKind.wrap_u8]; omega
  have hcv := conv1
  have z1 : (strOfNums [op]).size = 1 := by rw [strOfNums_size]; rfl
  have z2 : (strOfNums [a]).size = 1 := by rw [strOfNums_size]; rfl
  have z3 : (strOfNums [16 * a + b]).size = 1 := by rw [strOfNums_size]; rfl
  have lb : (W.bytesV n 1).length ≤ 8 := by
    have := I.numW_len 1 n
    unfold I.numW at this
    rw [if_neg (by decide)] at this
    exact this
  have zb : (strOfNums (W.bytesV n 1)).size ≤ 8 := by rw [strOfNums_size]; exact lb
  clear lb
  obtain ⟨vb, hvb⟩ : ∃ vb, W.bytesV n 1 = vb := ⟨_, rfl⟩
  have HVB : Hid (W.bytesV n 1 = vb) := hvb
  rw [hvb] at zb
  rw [hvb]
  obtain ⟨ee, he⟩ : ∃ ee, W.bytesE n 1 = ee := ⟨_, rfl⟩
  have HE : Hid (W.bytesE n 1 = ee) := he
  rw [he]
  clear he hvb
  by_cases h0 : ee = 0
  · subst h0
    rw [if_pos rfl]
    go_enter Tryd.func85, Tryd.ntmps85
    go_wp2_with (first | (go_at_call 63; refine (form_any _ _).mono ?_; rintro e w' ⟨rfl, rfl⟩; rw [HF.out]) | (go_at_call 64; refine (parts_any _ ?_ ?_ _).mono ?_; omega; omega; rintro e w' ⟨rfl, rfl⟩; rw [pA, pB, pN]) | (go_at_call 78; refine (rbytes_any n 1 hn _).mono ?_; rintro e w1 ⟨rfl, hb1⟩; rw [HE.out, HVB.out]))
    go_ret2
    exact ⟨retSE (by first | (rw [strOfNums_app, strOfNums_app]; done) | (rw [strOfNums_app, strOfNums_app]; rfl) | (rw [strOfNums_app]; done) | (rw [strOfNums_app]; rfl)) rfl, (bl2 _ _ _).trans (hb1.mono (by simp; omega))⟩
  · rw [if_neg h0]
    go_enter Tryd.func85, Tryd.ntmps85
    go_wp2_with (first | (go_at_call 63; refine (form_any _ _).mono ?_; rintro e w' ⟨rfl, rfl⟩; rw [HF.out]) | (go_at_call 64; refine (parts_any _ ?_ ?_ _).mono ?_; omega; omega; rintro e w' ⟨rfl, rfl⟩; rw [pA, pB, pN]) | (go_at_call 78; refine (rbytes_any n 1 hn _).mono ?_; rintro e w1 ⟨rfl, hb1⟩; rw [HE.out, HVB.out]))
    go_ret2
    exact ⟨rfl, (bl2 _ _ _).trans (hb1.mono (by simp; omega))⟩

end Go.Proofs.YtmplnkfjaeegdaaDoor

/- The document's Encode, whatever the instruction. (Written by gen_rall.py.) -/
namespace Go.Proofs.YtmplnkfjaeegdaaDoor
set_option maxRecDepth 100000
open Go.RowKit
set_option linter.unusedVariables false

theorem I.nat_no {op f : Int} (h : I.form op = f) (hf : ¬ f = 10) : I.nat op = false := by
  unfold I.nat
  rw [beq_eq_false_iff_ne]
  rintro rfl
  exact hf (h.symm.trans (by decide))
theorem I.nat_yes {op : Int} (h : I.form op = 10) : I.nat op = true := by
  by_cases e : op = 33
  · subst e; rfl
  · exfalso
    unfold I.form at h
    repeat (split at h; omega)
    omega
theorem W.bytesE_sz {n m : Int} (h : W.isSz m = true) : W.bytesE n m = 0 ∨ W.bytesE n m = 7 := by
  unfold W.bytesE; rw [if_pos h]; split <;> omega

theorem renc_1 (op a b n : Int) (hn : (Lit.int .i64 n).wf = true) (o1 : 1 ≤ op) (o2 : op ≤ 33) (hf : I.form op = 1) (w : World) :
    Calls Tryd.prog 85 #[insV op a b n] w fun e w' => e = .returned (.tuple #[.string (strOfNums (I.encV op a b n)), .int .i64 (I.encE op a b n)]) ∧ Below w.heap.size w w' := by
  have hr : I.regs op = 1 := by unfold I.regs; rw [hf]; rfl
  have hm : I.num op = 8 := by unfold I.num; rw [hf]; rfl
  have ht : I.nat op = false := I.nat_no hf (by decide)
  have hfit : I.fits op a b n = decide (0 ≤ a ∧ a ≤ 7 ∧ 0 ≤ b ∧ b ≤ 7 ∧ b = 0) := by
    unfold I.fits
    rw [decide_eq_true (show 1 ≤ op ∧ op ≤ 33 from ⟨o1, o2⟩), hr, hm, Bool.true_and, Bool.eq_iff_iff, decide_eq_true_iff]
    unfold I.bears I.bad I.isr
    simp
    omega
  by_cases H : 0 ≤ a ∧ a ≤ 7 ∧ 0 ≤ b ∧ b ≤ 7 ∧ b = 0
  · obtain ⟨c1, c2, c3, c4, c6⟩ := H
    have e1 : I.fits op a b n = true := by rw [hfit]; exact decide_eq_true ⟨c1, c2, c3, c4, c6⟩
    unfold I.encV I.encE
    rw [if_pos e1, if_pos e1, hr, hm, ht]
    have e2 : I.numOk 8 false n = (W.bytesE n 8 == 0) := by unfold I.numOk; rw [if_neg (by decide)]; simp
    rw [e2]
    refine (rok_1 op a b n hn o1 o2 hf (by omega) (by omega) (by omega) (by omega) (by simpa using c6) w).mono ?_
    rintro e w' ⟨rfl, hb⟩
    rcases W.bytesE_sz (n := n) (m := 8) (by decide) with h0 | h0
    · exact ⟨retSE (by rw [if_pos h0, if_pos (by rw [h0]; rfl)]; congr 1) (by rw [if_pos (by rw [h0]; rfl), h0]), hb⟩
    · exact ⟨retSE (by rw [if_neg (by rw [h0]; decide), if_neg (by rw [h0]; decide)]) (by rw [if_neg (by rw [h0]; decide), h0]), hb⟩
  · have e1 : I.fits op a b n = false := by rw [hfit]; exact decide_eq_false H
    unfold I.encV I.encE
    rw [if_neg (by rw [e1]; decide), if_neg (by rw [e1]; decide)]
    exact rbad_1 op a b n hf (by first | omega | (simp only [bne_iff_ne, ne_eq]; omega) | (simp only [bne_iff_ne, ne_eq, bne_eq_false_iff_eq]; omega)) w

theorem renc_2 (op a b n : Int) (hn : (Lit.int .i64 n).wf = true) (o1 : 1 ≤ op) (o2 : op ≤ 33) (hf : I.form op = 2) (w : World) :
    Calls Tryd.prog 85 #[insV op a b n] w fun e w' => e = .returned (.tuple #[.string (strOfNums (I.encV op a b n)), .int .i64 (I.encE op a b n)]) ∧ Below w.heap.size w w' := by
  have hr : I.regs op = 2 := by unfold I.regs; rw [hf]; rfl
  have hm : I.num op = 0 := by unfold I.num; rw [hf]; rfl
  have ht : I.nat op = false := I.nat_no hf (by decide)
  have hfit : I.fits op a b n = decide (0 ≤ a ∧ a ≤ 7 ∧ 0 ≤ b ∧ b ≤ 7 ∧ n = 0) := by
    unfold I.fits
    rw [decide_eq_true (show 1 ≤ op ∧ op ≤ 33 from ⟨o1, o2⟩), hr, hm, Bool.true_and, Bool.eq_iff_iff, decide_eq_true_iff]
    unfold I.bears I.bad I.isr
    simp
    omega
  by_cases H : 0 ≤ a ∧ a ≤ 7 ∧ 0 ≤ b ∧ b ≤ 7 ∧ n = 0
  · obtain ⟨c1, c2, c3, c4, c7⟩ := H
    have e1 : I.fits op a b n = true := by rw [hfit]; exact decide_eq_true ⟨c1, c2, c3, c4, c7⟩
    unfold I.encV I.encE
    rw [if_pos e1, if_pos e1, hr, hm, ht]
    have e2 : I.numOk 0 false n = true := rfl
    rw [if_pos e2, if_pos e2]
    refine (rok_2 op a b n o1 o2 hf (by omega) (by omega) (by omega) (by omega) (by simpa using c7) w).mono ?_
    rintro e w' ⟨rfl, hb⟩
    exact ⟨retSE (by first | rfl | (congr 1; done) | (congr 1; simp [I.regB, I.numW])) rfl, hb⟩
  · have e1 : I.fits op a b n = false := by rw [hfit]; exact decide_eq_false H
    unfold I.encV I.encE
    rw [if_neg (by rw [e1]; decide), if_neg (by rw [e1]; decide)]
    exact rbad_2 op a b n hf (by first | omega | (simp only [bne_iff_ne, ne_eq]; omega) | (simp only [bne_iff_ne, ne_eq, bne_eq_false_iff_eq]; omega)) w

theorem renc_3 (op a b n : Int) (hn : (Lit.int .i64 n).wf = true) (o1 : 1 ≤ op) (o2 : op ≤ 33) (hf : I.form op = 3) (w : World) :
    Calls Tryd.prog 85 #[insV op a b n] w fun e w' => e = .returned (.tuple #[.string (strOfNums (I.encV op a b n)), .int .i64 (I.encE op a b n)]) ∧ Below w.heap.size w w' := by
  have hr : I.regs op = 2 := by unfold I.regs; rw [hf]; rfl
  have hm : I.num op = 4 := by unfold I.num; rw [hf]; rfl
  have ht : I.nat op = false := I.nat_no hf (by decide)
  have hfit : I.fits op a b n = decide (0 ≤ a ∧ a ≤ 7 ∧ 0 ≤ b ∧ b ≤ 7) := by
    unfold I.fits
    rw [decide_eq_true (show 1 ≤ op ∧ op ≤ 33 from ⟨o1, o2⟩), hr, hm, Bool.true_and, Bool.eq_iff_iff, decide_eq_true_iff]
    unfold I.bears I.bad I.isr
    simp
    omega
  by_cases H : 0 ≤ a ∧ a ≤ 7 ∧ 0 ≤ b ∧ b ≤ 7
  · obtain ⟨c1, c2, c3, c4⟩ := H
    have e1 : I.fits op a b n = true := by rw [hfit]; exact decide_eq_true ⟨c1, c2, c3, c4⟩
    unfold I.encV I.encE
    rw [if_pos e1, if_pos e1, hr, hm, ht]
    have e2 : I.numOk 4 false n = (W.bytesE n 4 == 0) := by unfold I.numOk; rw [if_neg (by decide)]; simp
    rw [e2]
    refine (rok_3 op a b n hn o1 o2 hf (by omega) (by omega) (by omega) (by omega) w).mono ?_
    rintro e w' ⟨rfl, hb⟩
    rcases W.bytesE_sz (n := n) (m := 4) (by decide) with h0 | h0
    · exact ⟨retSE (by rw [if_pos h0, if_pos (by rw [h0]; rfl)]; congr 1) (by rw [if_pos (by rw [h0]; rfl), h0]), hb⟩
    · exact ⟨retSE (by rw [if_neg (by rw [h0]; decide), if_neg (by rw [h0]; decide)]) (by rw [if_neg (by rw [h0]; decide), h0]), hb⟩
  · have e1 : I.fits op a b n = false := by rw [hfit]; exact decide_eq_false H
    unfold I.encV I.encE
    rw [if_neg (by rw [e1]; decide), if_neg (by rw [e1]; decide)]
    exact rbad_3 op a b n hf (by first | omega | (simp only [bne_iff_ne, ne_eq]; omega) | (simp only [bne_iff_ne, ne_eq, bne_eq_false_iff_eq]; omega)) w

theorem renc_4 (op a b n : Int) (hn : (Lit.int .i64 n).wf = true) (o1 : 1 ≤ op) (o2 : op ≤ 33) (hf : I.form op = 4) (w : World) :
    Calls Tryd.prog 85 #[insV op a b n] w fun e w' => e = .returned (.tuple #[.string (strOfNums (I.encV op a b n)), .int .i64 (I.encE op a b n)]) ∧ Below w.heap.size w w' := by
  have hr : I.regs op = 1 := by unfold I.regs; rw [hf]; rfl
  have hm : I.num op = 4 := by unfold I.num; rw [hf]; rfl
  have ht : I.nat op = false := I.nat_no hf (by decide)
  have hfit : I.fits op a b n = decide (0 ≤ a ∧ a ≤ 7 ∧ 0 ≤ b ∧ b ≤ 7 ∧ b = 0) := by
    unfold I.fits
    rw [decide_eq_true (show 1 ≤ op ∧ op ≤ 33 from ⟨o1, o2⟩), hr, hm, Bool.true_and, Bool.eq_iff_iff, decide_eq_true_iff]
    unfold I.bears I.bad I.isr
    simp
    omega
  by_cases H : 0 ≤ a ∧ a ≤ 7 ∧ 0 ≤ b ∧ b ≤ 7 ∧ b = 0
  · obtain ⟨c1, c2, c3, c4, c6⟩ := H
    have e1 : I.fits op a b n = true := by rw [hfit]; exact decide_eq_true ⟨c1, c2, c3, c4, c6⟩
    unfold I.encV I.encE
    rw [if_pos e1, if_pos e1, hr, hm, ht]
    have e2 : I.numOk 4 false n = (W.bytesE n 4 == 0) := by unfold I.numOk; rw [if_neg (by decide)]; simp
    rw [e2]
    refine (rok_4 op a b n hn o1 o2 hf (by omega) (by omega) (by omega) (by omega) (by simpa using c6) w).mono ?_
    rintro e w' ⟨rfl, hb⟩
    rcases W.bytesE_sz (n := n) (m := 4) (by decide) with h0 | h0
    · exact ⟨retSE (by rw [if_pos h0, if_pos (by rw [h0]; rfl)]; congr 1) (by rw [if_pos (by rw [h0]; rfl), h0]), hb⟩
    · exact ⟨retSE (by rw [if_neg (by rw [h0]; decide), if_neg (by rw [h0]; decide)]) (by rw [if_neg (by rw [h0]; decide), h0]), hb⟩
  · have e1 : I.fits op a b n = false := by rw [hfit]; exact decide_eq_false H
    unfold I.encV I.encE
    rw [if_neg (by rw [e1]; decide), if_neg (by rw [e1]; decide)]
    exact rbad_4 op a b n hf (by first | omega | (simp only [bne_iff_ne, ne_eq]; omega) | (simp only [bne_iff_ne, ne_eq, bne_eq_false_iff_eq]; omega)) w

theorem renc_5 (op a b n : Int) (hn : (Lit.int .i64 n).wf = true) (o1 : 1 ≤ op) (o2 : op ≤ 33) (hf : I.form op = 5) (w : World) :
    Calls Tryd.prog 85 #[insV op a b n] w fun e w' => e = .returned (.tuple #[.string (strOfNums (I.encV op a b n)), .int .i64 (I.encE op a b n)]) ∧ Below w.heap.size w w' := by
  have hr : I.regs op = 0 := by unfold I.regs; rw [hf]; rfl
  have hm : I.num op = 4 := by unfold I.num; rw [hf]; rfl
  have ht : I.nat op = false := I.nat_no hf (by decide)
  have hfit : I.fits op a b n = decide (0 ≤ a ∧ a ≤ 7 ∧ 0 ≤ b ∧ b ≤ 7 ∧ a = 0 ∧ b = 0) := by
    unfold I.fits
    rw [decide_eq_true (show 1 ≤ op ∧ op ≤ 33 from ⟨o1, o2⟩), hr, hm, Bool.true_and, Bool.eq_iff_iff, decide_eq_true_iff]
    unfold I.bears I.bad I.isr
    simp
    omega
  by_cases H : 0 ≤ a ∧ a ≤ 7 ∧ 0 ≤ b ∧ b ≤ 7 ∧ a = 0 ∧ b = 0
  · obtain ⟨c1, c2, c3, c4, c5, c6⟩ := H
    have e1 : I.fits op a b n = true := by rw [hfit]; exact decide_eq_true ⟨c1, c2, c3, c4, c5, c6⟩
    unfold I.encV I.encE
    rw [if_pos e1, if_pos e1, hr, hm, ht]
    have e2 : I.numOk 4 false n = (W.bytesE n 4 == 0) := by unfold I.numOk; rw [if_neg (by decide)]; simp
    rw [e2]
    refine (rok_5 op a b n hn o1 o2 hf (by omega) (by omega) (by omega) (by omega) (by simpa using c5) (by simpa using c6) w).mono ?_
    rintro e w' ⟨rfl, hb⟩
    rcases W.bytesE_sz (n := n) (m := 4) (by decide) with h0 | h0
    · exact ⟨retSE (by rw [if_pos h0, if_pos (by rw [h0]; rfl)]; congr 1) (by rw [if_pos (by rw [h0]; rfl), h0]), hb⟩
    · exact ⟨retSE (by rw [if_neg (by rw [h0]; decide), if_neg (by rw [h0]; decide)]) (by rw [if_neg (by rw [h0]; decide), h0]), hb⟩
  · have e1 : I.fits op a b n = false := by rw [hfit]; exact decide_eq_false H
    unfold I.encV I.encE
    rw [if_neg (by rw [e1]; decide), if_neg (by rw [e1]; decide)]
    exact rbad_5 op a b n hf (by first | omega | (simp only [bne_iff_ne, ne_eq]; omega) | (simp only [bne_iff_ne, ne_eq, bne_eq_false_iff_eq]; omega)) w

theorem renc_6 (op a b n : Int) (hn : (Lit.int .i64 n).wf = true) (o1 : 1 ≤ op) (o2 : op ≤ 33) (hf : I.form op = 6) (w : World) :
    Calls Tryd.prog 85 #[insV op a b n] w fun e w' => e = .returned (.tuple #[.string (strOfNums (I.encV op a b n)), .int .i64 (I.encE op a b n)]) ∧ Below w.heap.size w w' := by
  have hr : I.regs op = 0 := by unfold I.regs; rw [hf]; rfl
  have hm : I.num op = 0 := by unfold I.num; rw [hf]; rfl
  have ht : I.nat op = false := I.nat_no hf (by decide)
  have hfit : I.fits op a b n = decide (0 ≤ a ∧ a ≤ 7 ∧ 0 ≤ b ∧ b ≤ 7 ∧ a = 0 ∧ b = 0 ∧ n = 0) := by
    unfold I.fits
    rw [decide_eq_true (show 1 ≤ op ∧ op ≤ 33 from ⟨o1, o2⟩), hr, hm, Bool.true_and, Bool.eq_iff_iff, decide_eq_true_iff]
    unfold I.bears I.bad I.isr
    simp
    omega
  by_cases H : 0 ≤ a ∧ a ≤ 7 ∧ 0 ≤ b ∧ b ≤ 7 ∧ a = 0 ∧ b = 0 ∧ n = 0
  · obtain ⟨c1, c2, c3, c4, c5, c6, c7⟩ := H
    have e1 : I.fits op a b n = true := by rw [hfit]; exact decide_eq_true ⟨c1, c2, c3, c4, c5, c6, c7⟩
    unfold I.encV I.encE
    rw [if_pos e1, if_pos e1, hr, hm, ht]
    have e2 : I.numOk 0 false n = true := rfl
    rw [if_pos e2, if_pos e2]
    refine (rok_6 op a b n o1 o2 hf (by omega) (by omega) (by omega) (by omega) (by simpa using c5) (by simpa using c6) (by simpa using c7) w).mono ?_
    rintro e w' ⟨rfl, hb⟩
    exact ⟨retSE (by first | rfl | (congr 1; done) | (congr 1; simp [I.regB, I.numW])) rfl, hb⟩
  · have e1 : I.fits op a b n = false := by rw [hfit]; exact decide_eq_false H
    unfold I.encV I.encE
    rw [if_neg (by rw [e1]; decide), if_neg (by rw [e1]; decide)]
    exact rbad_6 op a b n hf (by first | omega | (simp only [bne_iff_ne, ne_eq]; omega) | (simp only [bne_iff_ne, ne_eq, bne_eq_false_iff_eq]; omega)) w

theorem renc_7 (op a b n : Int) (hn : (Lit.int .i64 n).wf = true) (o1 : 1 ≤ op) (o2 : op ≤ 33) (hf : I.form op = 7) (w : World) :
    Calls Tryd.prog 85 #[insV op a b n] w fun e w' => e = .returned (.tuple #[.string (strOfNums (I.encV op a b n)), .int .i64 (I.encE op a b n)]) ∧ Below w.heap.size w w' := by
  have hr : I.regs op = 0 := by unfold I.regs; rw [hf]; rfl
  have hm : I.num op = 1 := by unfold I.num; rw [hf]; rfl
  have ht : I.nat op = false := I.nat_no hf (by decide)
  have hfit : I.fits op a b n = decide (0 ≤ a ∧ a ≤ 7 ∧ 0 ≤ b ∧ b ≤ 7 ∧ a = 0 ∧ b = 0) := by
    unfold I.fits
    rw [decide_eq_true (show 1 ≤ op ∧ op ≤ 33 from ⟨o1, o2⟩), hr, hm, Bool.true_and, Bool.eq_iff_iff, decide_eq_true_iff]
    unfold I.bears I.bad I.isr
    simp
    omega
  by_cases H : 0 ≤ a ∧ a ≤ 7 ∧ 0 ≤ b ∧ b ≤ 7 ∧ a = 0 ∧ b = 0
  · obtain ⟨c1, c2, c3, c4, c5, c6⟩ := H
    have e1 : I.fits op a b n = true := by rw [hfit]; exact decide_eq_true ⟨c1, c2, c3, c4, c5, c6⟩
    unfold I.encV I.encE
    rw [if_pos e1, if_pos e1, hr, hm, ht]
    have e2 : I.numOk 1 false n = (W.bytesE n 1 == 0) := by unfold I.numOk; rw [if_neg (by decide)]; simp
    rw [e2]
    refine (rok_7 op a b n hn o1 o2 hf (by omega) (by omega) (by omega) (by omega) (by simpa using c5) (by simpa using c6) w).mono ?_
    rintro e w' ⟨rfl, hb⟩
    rcases W.bytesE_sz (n := n) (m := 1) (by decide) with h0 | h0
    · exact ⟨retSE (by rw [if_pos h0, if_pos (by rw [h0]; rfl)]; congr 1) (by rw [if_pos (by rw [h0]; rfl), h0]), hb⟩
    · exact ⟨retSE (by rw [if_neg (by rw [h0]; decide), if_neg (by rw [h0]; decide)]) (by rw [if_neg (by rw [h0]; decide), h0]), hb⟩
  · have e1 : I.fits op a b n = false := by rw [hfit]; exact decide_eq_false H
    unfold I.encV I.encE
    rw [if_neg (by rw [e1]; decide), if_neg (by rw [e1]; decide)]
    exact rbad_7 op a b n hf (by first | omega | (simp only [bne_iff_ne, ne_eq]; omega) | (simp only [bne_iff_ne, ne_eq, bne_eq_false_iff_eq]; omega)) w

theorem renc_8 (op a b n : Int) (hn : (Lit.int .i64 n).wf = true) (o1 : 1 ≤ op) (o2 : op ≤ 33) (hf : I.form op = 8) (w : World) :
    Calls Tryd.prog 85 #[insV op a b n] w fun e w' => e = .returned (.tuple #[.string (strOfNums (I.encV op a b n)), .int .i64 (I.encE op a b n)]) ∧ Below w.heap.size w w' := by
  have hr : I.regs op = 1 := by unfold I.regs; rw [hf]; rfl
  have hm : I.num op = 1 := by unfold I.num; rw [hf]; rfl
  have ht : I.nat op = false := I.nat_no hf (by decide)
  have hfit : I.fits op a b n = decide (0 ≤ a ∧ a ≤ 7 ∧ 0 ≤ b ∧ b ≤ 7 ∧ b = 0) := by
    unfold I.fits
    rw [decide_eq_true (show 1 ≤ op ∧ op ≤ 33 from ⟨o1, o2⟩), hr, hm, Bool.true_and, Bool.eq_iff_iff, decide_eq_true_iff]
    unfold I.bears I.bad I.isr
    simp
    omega
  by_cases H : 0 ≤ a ∧ a ≤ 7 ∧ 0 ≤ b ∧ b ≤ 7 ∧ b = 0
  · obtain ⟨c1, c2, c3, c4, c6⟩ := H
    have e1 : I.fits op a b n = true := by rw [hfit]; exact decide_eq_true ⟨c1, c2, c3, c4, c6⟩
    unfold I.encV I.encE
    rw [if_pos e1, if_pos e1, hr, hm, ht]
    have e2 : I.numOk 1 false n = (W.bytesE n 1 == 0) := by unfold I.numOk; rw [if_neg (by decide)]; simp
    rw [e2]
    refine (rok_8 op a b n hn o1 o2 hf (by omega) (by omega) (by omega) (by omega) (by simpa using c6) w).mono ?_
    rintro e w' ⟨rfl, hb⟩
    rcases W.bytesE_sz (n := n) (m := 1) (by decide) with h0 | h0
    · exact ⟨retSE (by rw [if_pos h0, if_pos (by rw [h0]; rfl)]; congr 1) (by rw [if_pos (by rw [h0]; rfl), h0]), hb⟩
    · exact ⟨retSE (by rw [if_neg (by rw [h0]; decide), if_neg (by rw [h0]; decide)]) (by rw [if_neg (by rw [h0]; decide), h0]), hb⟩
  · have e1 : I.fits op a b n = false := by rw [hfit]; exact decide_eq_false H
    unfold I.encV I.encE
    rw [if_neg (by rw [e1]; decide), if_neg (by rw [e1]; decide)]
    exact rbad_8 op a b n hf (by first | omega | (simp only [bne_iff_ne, ne_eq]; omega) | (simp only [bne_iff_ne, ne_eq, bne_eq_false_iff_eq]; omega)) w

theorem renc_9 (op a b n : Int) (hn : (Lit.int .i64 n).wf = true) (o1 : 1 ≤ op) (o2 : op ≤ 33) (hf : I.form op = 9) (w : World) :
    Calls Tryd.prog 85 #[insV op a b n] w fun e w' => e = .returned (.tuple #[.string (strOfNums (I.encV op a b n)), .int .i64 (I.encE op a b n)]) ∧ Below w.heap.size w w' := by
  have hr : I.regs op = 1 := by unfold I.regs; rw [hf]; rfl
  have hm : I.num op = 0 := by unfold I.num; rw [hf]; rfl
  have ht : I.nat op = false := I.nat_no hf (by decide)
  have hfit : I.fits op a b n = decide (0 ≤ a ∧ a ≤ 7 ∧ 0 ≤ b ∧ b ≤ 7 ∧ b = 0 ∧ n = 0) := by
    unfold I.fits
    rw [decide_eq_true (show 1 ≤ op ∧ op ≤ 33 from ⟨o1, o2⟩), hr, hm, Bool.true_and, Bool.eq_iff_iff, decide_eq_true_iff]
    unfold I.bears I.bad I.isr
    simp
    omega
  by_cases H : 0 ≤ a ∧ a ≤ 7 ∧ 0 ≤ b ∧ b ≤ 7 ∧ b = 0 ∧ n = 0
  · obtain ⟨c1, c2, c3, c4, c6, c7⟩ := H
    have e1 : I.fits op a b n = true := by rw [hfit]; exact decide_eq_true ⟨c1, c2, c3, c4, c6, c7⟩
    unfold I.encV I.encE
    rw [if_pos e1, if_pos e1, hr, hm, ht]
    have e2 : I.numOk 0 false n = true := rfl
    rw [if_pos e2, if_pos e2]
    refine (rok_9 op a b n o1 o2 hf (by omega) (by omega) (by omega) (by omega) (by simpa using c6) (by simpa using c7) w).mono ?_
    rintro e w' ⟨rfl, hb⟩
    exact ⟨retSE (by first | rfl | (congr 1; done) | (congr 1; simp [I.regB, I.numW])) rfl, hb⟩
  · have e1 : I.fits op a b n = false := by rw [hfit]; exact decide_eq_false H
    unfold I.encV I.encE
    rw [if_neg (by rw [e1]; decide), if_neg (by rw [e1]; decide)]
    exact rbad_9 op a b n hf (by first | omega | (simp only [bne_iff_ne, ne_eq]; omega) | (simp only [bne_iff_ne, ne_eq, bne_eq_false_iff_eq]; omega)) w

theorem renc_10 (op a b n : Int) (hn : (Lit.int .i64 n).wf = true) (o1 : 1 ≤ op) (o2 : op ≤ 33) (hf : I.form op = 10) (w : World) :
    Calls Tryd.prog 85 #[insV op a b n] w fun e w' => e = .returned (.tuple #[.string (strOfNums (I.encV op a b n)), .int .i64 (I.encE op a b n)]) ∧ Below w.heap.size w w' := by
  have hr : I.regs op = 0 := by unfold I.regs; rw [hf]; rfl
  have hm : I.num op = 1 := by unfold I.num; rw [hf]; rfl
  have ht : I.nat op = true := I.nat_yes hf
  have hfit : I.fits op a b n = decide (0 ≤ a ∧ a ≤ 7 ∧ 0 ≤ b ∧ b ≤ 7 ∧ a = 0 ∧ b = 0) := by
    unfold I.fits
    rw [decide_eq_true (show 1 ≤ op ∧ op ≤ 33 from ⟨o1, o2⟩), hr, hm, Bool.true_and, Bool.eq_iff_iff, decide_eq_true_iff]
    unfold I.bears I.bad I.isr
    simp
    omega
  by_cases H : 0 ≤ a ∧ a ≤ 7 ∧ 0 ≤ b ∧ b ≤ 7 ∧ a = 0 ∧ b = 0
  · obtain ⟨c1, c2, c3, c4, c5, c6⟩ := H
    have e1 : I.fits op a b n = true := by rw [hfit]; exact decide_eq_true ⟨c1, c2, c3, c4, c5, c6⟩
    unfold I.encV I.encE
    rw [if_pos e1, if_pos e1, hr, hm, ht]
    by_cases hr0 : 0 ≤ n ∧ n ≤ 127
    · have h0 : W.bytesE n 1 = 0 := by
        unfold W.bytesE
        rw [if_pos (by decide), if_pos]
        unfold W.sx
        rw [if_pos rfl]
        omega
      have e2 : I.numOk 1 true n = true := by unfold I.numOk; rw [if_neg (by decide), h0, decide_eq_true hr0.1]; rfl
      rw [if_pos e2, if_pos e2]
      refine (rok_10 op a b n hn o1 o2 hf (by omega) (by omega) (by omega) (by omega) (by simpa using c5) (by simpa using c6) hr0.1 hr0.2 w).mono ?_
      rintro e w' ⟨rfl, hb⟩
      exact ⟨retSE (by rw [if_pos h0]; congr 1) (by rw [h0]), hb⟩
    · have e2 : I.numOk 1 true n = false := by
        unfold I.numOk
        rw [if_neg (by decide)]
        by_cases h : 0 ≤ n
        · have h0 : W.bytesE n 1 = 7 := by
            unfold W.bytesE
            rw [if_pos (by decide), if_neg]
            unfold W.sx
            rw [if_pos rfl]
            omega
          rw [h0]; rfl
        · rw [decide_eq_false h]; simp
      rw [if_neg (by rw [e2]; decide), if_neg (by rw [e2]; decide)]
      exact rtrap op a b n hf (by omega) (by omega) (by omega) (by omega) (by simpa using c5) (by simpa using c6) (by omega) w
  · have e1 : I.fits op a b n = false := by rw [hfit]; exact decide_eq_false H
    unfold I.encV I.encE
    rw [if_neg (by rw [e1]; decide), if_neg (by rw [e1]; decide)]
    exact rbad_10 op a b n hf (by first | omega | (simp only [bne_iff_ne, ne_eq]; omega) | (simp only [bne_iff_ne, ne_eq, bne_eq_false_iff_eq]; omega)) w

theorem rencode_any (op a b n : Int) (hn : (Lit.int .i64 n).wf = true) (w : World) :
    Calls Tryd.prog 85 #[insV op a b n] w fun e w' => e = .returned (.tuple #[.string (strOfNums (I.encV op a b n)), .int .i64 (I.encE op a b n)]) ∧ Below w.heap.size w w' := by
  by_cases h : 1 ≤ op ∧ op ≤ 33
  · have h0 := I.form_some h.1 h.2
    have h1 := I.form_range op
    rcases (show I.form op = 1 ∨ I.form op = 2 ∨ I.form op = 3 ∨ I.form op = 4 ∨ I.form op = 5 ∨ I.form op = 6 ∨ I.form op = 7 ∨ I.form op = 8 ∨ I.form op = 9 ∨ I.form op = 10 by omega) with e | e | e | e | e | e | e | e | e | e
    · exact renc_1 op a b n hn h.1 h.2 e w
    · exact renc_2 op a b n hn h.1 h.2 e w
    · exact renc_3 op a b n hn h.1 h.2 e w
    · exact renc_4 op a b n hn h.1 h.2 e w
    · exact renc_5 op a b n hn h.1 h.2 e w
    · exact renc_6 op a b n hn h.1 h.2 e w
    · exact renc_7 op a b n hn h.1 h.2 e w
    · exact renc_8 op a b n hn h.1 h.2 e w
    · exact renc_9 op a b n hn h.1 h.2 e w
    · exact renc_10 op a b n hn h.1 h.2 e w
  · have e1 : I.fits op a b n = false := by unfold I.fits; rw [decide_eq_false h]; rfl
    unfold I.encV I.encE
    rw [if_neg (by rw [e1]; decide), if_neg (by rw [e1]; decide)]
    exact rbad_0 op a b n (I.form_none (by omega)) w

end Go.Proofs.YtmplnkfjaeegdaaDoor

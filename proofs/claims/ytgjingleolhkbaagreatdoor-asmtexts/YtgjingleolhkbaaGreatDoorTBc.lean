/- The document's Encode, where the form bears all. (Written by gen_rok.py.) -/
import Derived.Test.YtgjingleolhkbaaGreatDoorTBa
import Derived.Test.YtgjingleolhkbaaGreatDoorTBb
namespace Go.Proofs.YtgjingleolhkbaaGreatDoor.J
set_option maxRecDepth 100000
open Go.RowKit
set_option linter.unusedVariables false

set_option maxRecDepth 100000 in
set_option maxHeartbeats 16000000 in
theorem rok_1 (op a b n : Int) (hn : (Lit.int .i64 n).wf = true) (o1 : 1 ≤ op) (o2 : op ≤ 33) (HF : Hid (I.form op = 1)) (h1 : 0 ≤ a) (h2 : a ≤ 7) (h3 : 0 ≤ b) (h4 : b ≤ 7) (h6 : (b != 0) = false) (w : World) :
  Calls Tryz.prog 59 #[insV op a b n] w fun e w' => e = .returned (.tuple #[.string (strOfNums (if W.bytesE n 8 = 0 then [op] ++ [a] ++ W.bytesV n 8 else [])), .int .i64 (W.bytesE n 8)]) ∧ Below w.heap.size w w' := by
 have pA : I.hasA 1 = true := by decide
 have pB : I.hasB 1 = false := by decide
 have pN : I.numB 1 = 8 := by decide
 have hw : IntKind.u8.wrap op = op := by rw [IntKind.wrap_u8]; omega
 have hwa : IntKind.u8.wrap a = a := by rw [IntKind.wrap_u8]; omega
 have hwb : IntKind.u8.wrap (16 * a + b) = 16 * a + b := by rw [IntKind.wrap_u8]; omega
 have hcv := conv1
 have z1 : (strOfNums [op]).size = 1 := by rw [strOfNums_size]; rfl
 have z2 : (strOfNums [a]).size = 1 := by rw [strOfNums_size]; rfl
 have z3 : (strOfNums [16 * a + b]).size = 1 := by rw [strOfNums_size]; rfl
 have lb : (W.bytesV n 8).length ≤ 8 := by
  have := I.numW_len 8 n
  unfold I.numW at this
  rw [if_neg (by decide)] at this
  exact this
 have zb : (strOfNums (W.bytesV n 8)).size ≤ 8 := by rw [strOfNums_size]; exact lb
 clear lb
 obtain ⟨vb, hvb⟩ : ∃ vb, W.bytesV n 8 = vb := ⟨_, rfl⟩
 have HVB : Hid (W.bytesV n 8 = vb) := hvb
 rw [hvb] at zb
 rw [hvb]
 obtain ⟨ee, he⟩ : ∃ ee, W.bytesE n 8 = ee := ⟨_, rfl⟩
 have HE : Hid (W.bytesE n 8 = ee) := he
 rw [he]
 clear he hvb
 by_cases h0 : ee = 0
 ·subst h0
  rw [if_pos rfl]
  go_enter Tryz.func59, Tryz.ntmps59
  go_wp2_with (first | (go_at_call 66; refine (form_any _ _).mono ?_; rintro e w' ⟨rfl, rfl⟩; rw [HF.out]) | (go_at_call 65; refine (parts_any _ ?_ ?_ _).mono ?_; omega; omega; rintro e w' ⟨rfl, rfl⟩; rw [pA, pB, pN]) | (go_at_call 78; refine (rbytes_any n 8 hn _).mono ?_; rintro e w1 ⟨rfl, hb1⟩; rw [HE.out, HVB.out]))
  go_ret2
  exact ⟨retSE (by first | (rw [strOfNums_app, strOfNums_app]; done) | (rw [strOfNums_app, strOfNums_app]; rfl) | (rw [strOfNums_app]; done) | (rw [strOfNums_app]; rfl)) rfl, (bl3 _ _ _ _).trans (hb1.mono (by simp; omega))⟩
 ·rw [if_neg h0]
  go_enter Tryz.func59, Tryz.ntmps59
  go_wp2_with (first | (go_at_call 66; refine (form_any _ _).mono ?_; rintro e w' ⟨rfl, rfl⟩; rw [HF.out]) | (go_at_call 65; refine (parts_any _ ?_ ?_ _).mono ?_; omega; omega; rintro e w' ⟨rfl, rfl⟩; rw [pA, pB, pN]) | (go_at_call 78; refine (rbytes_any n 8 hn _).mono ?_; rintro e w1 ⟨rfl, hb1⟩; rw [HE.out, HVB.out]))
  go_ret2
  exact ⟨rfl, (bl3 _ _ _ _).trans (hb1.mono (by simp; omega))⟩

set_option maxRecDepth 100000 in
set_option maxHeartbeats 16000000 in
theorem rok_2 (op a b n : Int) (o1 : 1 ≤ op) (o2 : op ≤ 33) (HF : Hid (I.form op = 2)) (h1 : 0 ≤ a) (h2 : a ≤ 7) (h3 : 0 ≤ b) (h4 : b ≤ 7) (h7 : (n != 0) = false) (w : World) :
  Calls Tryz.prog 59 #[insV op a b n] w fun e w' => e = .returned (.tuple #[.string (strOfNums ([op] ++ [16 * a + b])), .int .i64 0]) ∧ Below w.heap.size w w' := by
 have pA : I.hasA 2 = true := by decide
 have pB : I.hasB 2 = true := by decide
 have pN : I.numB 2 = 0 := by decide
 have hw : IntKind.u8.wrap op = op := by rw [IntKind.wrap_u8]; omega
 have hwa : IntKind.u8.wrap a = a := by rw [IntKind.wrap_u8]; omega
 have hwb : IntKind.u8.wrap (16 * a + b) = 16 * a + b := by rw [IntKind.wrap_u8]; omega
 have hcv := conv1
 have z1 : (strOfNums [op]).size = 1 := by rw [strOfNums_size]; rfl
 have z2 : (strOfNums [a]).size = 1 := by rw [strOfNums_size]; rfl
 have z3 : (strOfNums [16 * a + b]).size = 1 := by rw [strOfNums_size]; rfl
 go_enter Tryz.func59, Tryz.ntmps59
 go_wp2_with (first | (go_at_call 66; refine (form_any _ _).mono ?_; rintro e w' ⟨rfl, rfl⟩; rw [HF.out]) | (go_at_call 65; refine (parts_any _ ?_ ?_ _).mono ?_; omega; omega; rintro e w' ⟨rfl, rfl⟩; rw [pA, pB, pN]))
 go_ret2
 exact ⟨retSE (by first | rfl | rw [strOfNums_app]) rfl, bl3 _ _ _ _⟩

set_option maxRecDepth 100000 in
set_option maxHeartbeats 16000000 in
theorem rok_3 (op a b n : Int) (hn : (Lit.int .i64 n).wf = true) (o1 : 1 ≤ op) (o2 : op ≤ 33) (HF : Hid (I.form op = 3)) (h1 : 0 ≤ a) (h2 : a ≤ 7) (h3 : 0 ≤ b) (h4 : b ≤ 7) (w : World) :
  Calls Tryz.prog 59 #[insV op a b n] w fun e w' => e = .returned (.tuple #[.string (strOfNums (if W.bytesE n 4 = 0 then [op] ++ [16 * a + b] ++ W.bytesV n 4 else [])), .int .i64 (W.bytesE n 4)]) ∧ Below w.heap.size w w' := by
 have pA : I.hasA 3 = true := by decide
 have pB : I.hasB 3 = true := by decide
 have pN : I.numB 3 = 4 := by decide
 have hw : IntKind.u8.wrap op = op := by rw [IntKind.wrap_u8]; omega
 have hwa : IntKind.u8.wrap a = a := by rw [IntKind.wrap_u8]; omega
 have hwb : IntKind.u8.wrap (16 * a + b) = 16 * a + b := by rw [IntKind.wrap_u8]; omega
 have hcv := conv1
 have z1 : (strOfNums [op]).size = 1 := by rw [strOfNums_size]; rfl
 have z2 : (strOfNums [a]).size = 1 := by rw [strOfNums_size]; rfl
 have z3 : (strOfNums [16 * a + b]).size = 1 := by rw [strOfNums_size]; rfl
 have lb : (W.bytesV n 4).length ≤ 8 := by
  have := I.numW_len 4 n
  unfold I.numW at this
  rw [if_neg (by decide)] at this
  exact this
 have zb : (strOfNums (W.bytesV n 4)).size ≤ 8 := by rw [strOfNums_size]; exact lb
 clear lb
 obtain ⟨vb, hvb⟩ : ∃ vb, W.bytesV n 4 = vb := ⟨_, rfl⟩
 have HVB : Hid (W.bytesV n 4 = vb) := hvb
 rw [hvb] at zb
 rw [hvb]
 obtain ⟨ee, he⟩ : ∃ ee, W.bytesE n 4 = ee := ⟨_, rfl⟩
 have HE : Hid (W.bytesE n 4 = ee) := he
 rw [he]
 clear he hvb
 by_cases h0 : ee = 0
 ·subst h0
  rw [if_pos rfl]
  go_enter Tryz.func59, Tryz.ntmps59
  go_wp2_with (first | (go_at_call 66; refine (form_any _ _).mono ?_; rintro e w' ⟨rfl, rfl⟩; rw [HF.out]) | (go_at_call 65; refine (parts_any _ ?_ ?_ _).mono ?_; omega; omega; rintro e w' ⟨rfl, rfl⟩; rw [pA, pB, pN]) | (go_at_call 78; refine (rbytes_any n 4 hn _).mono ?_; rintro e w1 ⟨rfl, hb1⟩; rw [HE.out, HVB.out]))
  go_ret2
  exact ⟨retSE (by first | (rw [strOfNums_app, strOfNums_app]; done) | (rw [strOfNums_app, strOfNums_app]; rfl) | (rw [strOfNums_app]; done) | (rw [strOfNums_app]; rfl)) rfl, (bl3 _ _ _ _).trans (hb1.mono (by simp; omega))⟩
 ·rw [if_neg h0]
  go_enter Tryz.func59, Tryz.ntmps59
  go_wp2_with (first | (go_at_call 66; refine (form_any _ _).mono ?_; rintro e w' ⟨rfl, rfl⟩; rw [HF.out]) | (go_at_call 65; refine (parts_any _ ?_ ?_ _).mono ?_; omega; omega; rintro e w' ⟨rfl, rfl⟩; rw [pA, pB, pN]) | (go_at_call 78; refine (rbytes_any n 4 hn _).mono ?_; rintro e w1 ⟨rfl, hb1⟩; rw [HE.out, HVB.out]))
  go_ret2
  exact ⟨rfl, (bl3 _ _ _ _).trans (hb1.mono (by simp; omega))⟩

set_option maxRecDepth 100000 in
set_option maxHeartbeats 16000000 in
theorem rok_4 (op a b n : Int) (hn : (Lit.int .i64 n).wf = true) (o1 : 1 ≤ op) (o2 : op ≤ 33) (HF : Hid (I.form op = 4)) (h1 : 0 ≤ a) (h2 : a ≤ 7) (h3 : 0 ≤ b) (h4 : b ≤ 7) (h6 : (b != 0) = false) (w : World) :
  Calls Tryz.prog 59 #[insV op a b n] w fun e w' => e = .returned (.tuple #[.string (strOfNums (if W.bytesE n 4 = 0 then [op] ++ [a] ++ W.bytesV n 4 else [])), .int .i64 (W.bytesE n 4)]) ∧ Below w.heap.size w w' := by
 have pA : I.hasA 4 = true := by decide
 have pB : I.hasB 4 = false := by decide
 have pN : I.numB 4 = 4 := by decide
 have hw : IntKind.u8.wrap op = op := by rw [IntKind.wrap_u8]; omega
 have hwa : IntKind.u8.wrap a = a := by rw [IntKind.wrap_u8]; omega
 have hwb : IntKind.u8.wrap (16 * a + b) = 16 * a + b := by rw [IntKind.wrap_u8]; omega
 have hcv := conv1
 have z1 : (strOfNums [op]).size = 1 := by rw [strOfNums_size]; rfl
 have z2 : (strOfNums [a]).size = 1 := by rw [strOfNums_size]; rfl
 have z3 : (strOfNums [16 * a + b]).size = 1 := by rw [strOfNums_size]; rfl
 have lb : (W.bytesV n 4).length ≤ 8 := by
  have := I.numW_len 4 n
  unfold I.numW at this
  rw [if_neg (by decide)] at this
  exact this
 have zb : (strOfNums (W.bytesV n 4)).size ≤ 8 := by rw [strOfNums_size]; exact lb
 clear lb
 obtain ⟨vb, hvb⟩ : ∃ vb, W.bytesV n 4 = vb := ⟨_, rfl⟩
 have HVB : Hid (W.bytesV n 4 = vb) := hvb
 rw [hvb] at zb
 rw [hvb]
 obtain ⟨ee, he⟩ : ∃ ee, W.bytesE n 4 = ee := ⟨_, rfl⟩
 have HE : Hid (W.bytesE n 4 = ee) := he
 rw [he]
 clear he hvb
 by_cases h0 : ee = 0
 ·subst h0
  rw [if_pos rfl]
  go_enter Tryz.func59, Tryz.ntmps59
  go_wp2_with (first | (go_at_call 66; refine (form_any _ _).mono ?_; rintro e w' ⟨rfl, rfl⟩; rw [HF.out]) | (go_at_call 65; refine (parts_any _ ?_ ?_ _).mono ?_; omega; omega; rintro e w' ⟨rfl, rfl⟩; rw [pA, pB, pN]) | (go_at_call 78; refine (rbytes_any n 4 hn _).mono ?_; rintro e w1 ⟨rfl, hb1⟩; rw [HE.out, HVB.out]))
  go_ret2
  exact ⟨retSE (by first | (rw [strOfNums_app, strOfNums_app]; done) | (rw [strOfNums_app, strOfNums_app]; rfl) | (rw [strOfNums_app]; done) | (rw [strOfNums_app]; rfl)) rfl, (bl3 _ _ _ _).trans (hb1.mono (by simp; omega))⟩
 ·rw [if_neg h0]
  go_enter Tryz.func59, Tryz.ntmps59
  go_wp2_with (first | (go_at_call 66; refine (form_any _ _).mono ?_; rintro e w' ⟨rfl, rfl⟩; rw [HF.out]) | (go_at_call 65; refine (parts_any _ ?_ ?_ _).mono ?_; omega; omega; rintro e w' ⟨rfl, rfl⟩; rw [pA, pB, pN]) | (go_at_call 78; refine (rbytes_any n 4 hn _).mono ?_; rintro e w1 ⟨rfl, hb1⟩; rw [HE.out, HVB.out]))
  go_ret2
  exact ⟨rfl, (bl3 _ _ _ _).trans (hb1.mono (by simp; omega))⟩

set_option maxRecDepth 100000 in
set_option maxHeartbeats 16000000 in
theorem rok_5 (op a b n : Int) (hn : (Lit.int .i64 n).wf = true) (o1 : 1 ≤ op) (o2 : op ≤ 33) (HF : Hid (I.form op = 5)) (h1 : 0 ≤ a) (h2 : a ≤ 7) (h3 : 0 ≤ b) (h4 : b ≤ 7) (h5 : (a != 0) = false) (h6 : (b != 0) = false) (w : World) :
  Calls Tryz.prog 59 #[insV op a b n] w fun e w' => e = .returned (.tuple #[.string (strOfNums (if W.bytesE n 4 = 0 then [op] ++ W.bytesV n 4 else [])), .int .i64 (W.bytesE n 4)]) ∧ Below w.heap.size w w' := by
 have pA : I.hasA 5 = false := by decide
 have pB : I.hasB 5 = false := by decide
 have pN : I.numB 5 = 4 := by decide
 have hw : IntKind.u8.wrap op = op := by rw [IntKind.wrap_u8]; omega
 have hwa : IntKind.u8.wrap a = a := by rw [IntKind.wrap_u8]; omega
 have hwb : IntKind.u8.wrap (16 * a + b) = 16 * a + b := by rw [IntKind.wrap_u8]; omega
 have hcv := conv1
 have z1 : (strOfNums [op]).size = 1 := by rw [strOfNums_size]; rfl
 have z2 : (strOfNums [a]).size = 1 := by rw [strOfNums_size]; rfl
 have z3 : (strOfNums [16 * a + b]).size = 1 := by rw [strOfNums_size]; rfl
 have lb : (W.bytesV n 4).length ≤ 8 := by
  have := I.numW_len 4 n
  unfold I.numW at this
  rw [if_neg (by decide)] at this
  exact this
 have zb : (strOfNums (W.bytesV n 4)).size ≤ 8 := by rw [strOfNums_size]; exact lb
 clear lb
 obtain ⟨vb, hvb⟩ : ∃ vb, W.bytesV n 4 = vb := ⟨_, rfl⟩
 have HVB : Hid (W.bytesV n 4 = vb) := hvb
 rw [hvb] at zb
 rw [hvb]
 obtain ⟨ee, he⟩ : ∃ ee, W.bytesE n 4 = ee := ⟨_, rfl⟩
 have HE : Hid (W.bytesE n 4 = ee) := he
 rw [he]
 clear he hvb
 by_cases h0 : ee = 0
 ·subst h0
  rw [if_pos rfl]
  go_enter Tryz.func59, Tryz.ntmps59
  go_wp2_with (first | (go_at_call 66; refine (form_any _ _).mono ?_; rintro e w' ⟨rfl, rfl⟩; rw [HF.out]) | (go_at_call 65; refine (parts_any _ ?_ ?_ _).mono ?_; omega; omega; rintro e w' ⟨rfl, rfl⟩; rw [pA, pB, pN]) | (go_at_call 78; refine (rbytes_any n 4 hn _).mono ?_; rintro e w1 ⟨rfl, hb1⟩; rw [HE.out, HVB.out]))
  go_ret2
  exact ⟨retSE (by first | (rw [strOfNums_app, strOfNums_app]; done) | (rw [strOfNums_app, strOfNums_app]; rfl) | (rw [strOfNums_app]; done) | (rw [strOfNums_app]; rfl)) rfl, (bl2 _ _ _).trans (hb1.mono (by simp; omega))⟩
 ·rw [if_neg h0]
  go_enter Tryz.func59, Tryz.ntmps59
  go_wp2_with (first | (go_at_call 66; refine (form_any _ _).mono ?_; rintro e w' ⟨rfl, rfl⟩; rw [HF.out]) | (go_at_call 65; refine (parts_any _ ?_ ?_ _).mono ?_; omega; omega; rintro e w' ⟨rfl, rfl⟩; rw [pA, pB, pN]) | (go_at_call 78; refine (rbytes_any n 4 hn _).mono ?_; rintro e w1 ⟨rfl, hb1⟩; rw [HE.out, HVB.out]))
  go_ret2
  exact ⟨rfl, (bl2 _ _ _).trans (hb1.mono (by simp; omega))⟩

set_option maxRecDepth 100000 in
set_option maxHeartbeats 16000000 in
theorem rok_6 (op a b n : Int) (o1 : 1 ≤ op) (o2 : op ≤ 33) (HF : Hid (I.form op = 6)) (h1 : 0 ≤ a) (h2 : a ≤ 7) (h3 : 0 ≤ b) (h4 : b ≤ 7) (h5 : (a != 0) = false) (h6 : (b != 0) = false) (h7 : (n != 0) = false) (w : World) :
  Calls Tryz.prog 59 #[insV op a b n] w fun e w' => e = .returned (.tuple #[.string (strOfNums ([op])), .int .i64 0]) ∧ Below w.heap.size w w' := by
 have pA : I.hasA 6 = false := by decide
 have pB : I.hasB 6 = false := by decide
 have pN : I.numB 6 = 0 := by decide
 have hw : IntKind.u8.wrap op = op := by rw [IntKind.wrap_u8]; omega
 have hwa : IntKind.u8.wrap a = a := by rw [IntKind.wrap_u8]; omega
 have hwb : IntKind.u8.wrap (16 * a + b) = 16 * a + b := by rw [IntKind.wrap_u8]; omega
 have hcv := conv1
 have z1 : (strOfNums [op]).size = 1 := by rw [strOfNums_size]; rfl
 have z2 : (strOfNums [a]).size = 1 := by rw [strOfNums_size]; rfl
 have z3 : (strOfNums [16 * a + b]).size = 1 := by rw [strOfNums_size]; rfl
 go_enter Tryz.func59, Tryz.ntmps59
 go_wp2_with (first | (go_at_call 66; refine (form_any _ _).mono ?_; rintro e w' ⟨rfl, rfl⟩; rw [HF.out]) | (go_at_call 65; refine (parts_any _ ?_ ?_ _).mono ?_; omega; omega; rintro e w' ⟨rfl, rfl⟩; rw [pA, pB, pN]))
 go_ret2
 exact ⟨retSE (by first | rfl | rw [strOfNums_app]) rfl, bl2 _ _ _⟩

set_option maxRecDepth 100000 in
set_option maxHeartbeats 16000000 in
theorem rok_7 (op a b n : Int) (hn : (Lit.int .i64 n).wf = true) (o1 : 1 ≤ op) (o2 : op ≤ 33) (HF : Hid (I.form op = 7)) (h1 : 0 ≤ a) (h2 : a ≤ 7) (h3 : 0 ≤ b) (h4 : b ≤ 7) (h5 : (a != 0) = false) (h6 : (b != 0) = false) (w : World) :
  Calls Tryz.prog 59 #[insV op a b n] w fun e w' => e = .returned (.tuple #[.string (strOfNums (if W.bytesE n 1 = 0 then [op] ++ W.bytesV n 1 else [])), .int .i64 (W.bytesE n 1)]) ∧ Below w.heap.size w w' := by
 have pA : I.hasA 7 = false := by decide
 have pB : I.hasB 7 = false := by decide
 have pN : I.numB 7 = 1 := by decide
 have hw : IntKind.u8.wrap op = op := by rw [IntKind.wrap_u8]; omega
 have hwa : IntKind.u8.wrap a = a := by rw [IntKind.wrap_u8]; omega
 have hwb : IntKind.u8.wrap (16 * a + b) = 16 * a + b := by rw [IntKind.wrap_u8]; omega
 have hcv := conv1
 have z1 : (strOfNums [op]).size = 1 := by rw [strOfNums_size]; rfl
 have z2 : (strOfNums [a]).size = 1 := by rw [strOfNums_size]; rfl
 have z3 : (strOfNums [16 * a + b]).size = 1 := by rw [strOfNums_size]; rfl
 have lb : (W.bytesV n 1).length ≤ 8 := by
  have := I.numW_len 1 n
  unfold I.numW at this
  rw [if_neg (by decide)] at this
  exact this
 have zb : (strOfNums (W.bytesV n 1)).size ≤ 8 := by rw [strOfNums_size]; exact lb
 clear lb
 obtain ⟨vb, hvb⟩ : ∃ vb, W.bytesV n 1 = vb := ⟨_, rfl⟩
 have HVB : Hid (W.bytesV n 1 = vb) := hvb
 rw [hvb] at zb
 rw [hvb]
 obtain ⟨ee, he⟩ : ∃ ee, W.bytesE n 1 = ee := ⟨_, rfl⟩
 have HE : Hid (W.bytesE n 1 = ee) := he
 rw [he]
 clear he hvb
 by_cases h0 : ee = 0
 ·subst h0
  rw [if_pos rfl]
  go_enter Tryz.func59, Tryz.ntmps59
  go_wp2_with (first | (go_at_call 66; refine (form_any _ _).mono ?_; rintro e w' ⟨rfl, rfl⟩; rw [HF.out]) | (go_at_call 65; refine (parts_any _ ?_ ?_ _).mono ?_; omega; omega; rintro e w' ⟨rfl, rfl⟩; rw [pA, pB, pN]) | (go_at_call 78; refine (rbytes_any n 1 hn _).mono ?_; rintro e w1 ⟨rfl, hb1⟩; rw [HE.out, HVB.out]))
  go_ret2
  exact ⟨retSE (by first | (rw [strOfNums_app, strOfNums_app]; done) | (rw [strOfNums_app, strOfNums_app]; rfl) | (rw [strOfNums_app]; done) | (rw [strOfNums_app]; rfl)) rfl, (bl2 _ _ _).trans (hb1.mono (by simp; omega))⟩
 ·rw [if_neg h0]
  go_enter Tryz.func59, Tryz.ntmps59
  go_wp2_with (first | (go_at_call 66; refine (form_any _ _).mono ?_; rintro e w' ⟨rfl, rfl⟩; rw [HF.out]) | (go_at_call 65; refine (parts_any _ ?_ ?_ _).mono ?_; omega; omega; rintro e w' ⟨rfl, rfl⟩; rw [pA, pB, pN]) | (go_at_call 78; refine (rbytes_any n 1 hn _).mono ?_; rintro e w1 ⟨rfl, hb1⟩; rw [HE.out, HVB.out]))
  go_ret2
  exact ⟨rfl, (bl2 _ _ _).trans (hb1.mono (by simp; omega))⟩

set_option maxRecDepth 100000 in
set_option maxHeartbeats 16000000 in
theorem rok_8 (op a b n : Int) (hn : (Lit.int .i64 n).wf = true) (o1 : 1 ≤ op) (o2 : op ≤ 33) (HF : Hid (I.form op = 8)) (h1 : 0 ≤ a) (h2 : a ≤ 7) (h3 : 0 ≤ b) (h4 : b ≤ 7) (h6 : (b != 0) = false) (w : World) :
  Calls Tryz.prog 59 #[insV op a b n] w fun e w' => e = .returned (.tuple #[.string (strOfNums (if W.bytesE n 1 = 0 then [op] ++ [a] ++ W.bytesV n 1 else [])), .int .i64 (W.bytesE n 1)]) ∧ Below w.heap.size w w' := by
 have pA : I.hasA 8 = true := by decide
 have pB : I.hasB 8 = false := by decide
 have pN : I.numB 8 = 1 := by decide
 have hw : IntKind.u8.wrap op = op := by rw [IntKind.wrap_u8]; omega
 have hwa : IntKind.u8.wrap a = a := by rw [IntKind.wrap_u8]; omega
 have hwb : IntKind.u8.wrap (16 * a + b) = 16 * a + b := by rw [IntKind.wrap_u8]; omega
 have hcv := conv1
 have z1 : (strOfNums [op]).size = 1 := by rw [strOfNums_size]; rfl
 have z2 : (strOfNums [a]).size = 1 := by rw [strOfNums_size]; rfl
 have z3 : (strOfNums [16 * a + b]).size = 1 := by rw [strOfNums_size]; rfl
 have lb : (W.bytesV n 1).length ≤ 8 := by
  have := I.numW_len 1 n
  unfold I.numW at this
  rw [if_neg (by decide)] at this
  exact this
 have zb : (strOfNums (W.bytesV n 1)).size ≤ 8 := by rw [strOfNums_size]; exact lb
 clear lb
 obtain ⟨vb, hvb⟩ : ∃ vb, W.bytesV n 1 = vb := ⟨_, rfl⟩
 have HVB : Hid (W.bytesV n 1 = vb) := hvb
 rw [hvb] at zb
 rw [hvb]
 obtain ⟨ee, he⟩ : ∃ ee, W.bytesE n 1 = ee := ⟨_, rfl⟩
 have HE : Hid (W.bytesE n 1 = ee) := he
 rw [he]
 clear he hvb
 by_cases h0 : ee = 0
 ·subst h0
  rw [if_pos rfl]
  go_enter Tryz.func59, Tryz.ntmps59
  go_wp2_with (first | (go_at_call 66; refine (form_any _ _).mono ?_; rintro e w' ⟨rfl, rfl⟩; rw [HF.out]) | (go_at_call 65; refine (parts_any _ ?_ ?_ _).mono ?_; omega; omega; rintro e w' ⟨rfl, rfl⟩; rw [pA, pB, pN]) | (go_at_call 78; refine (rbytes_any n 1 hn _).mono ?_; rintro e w1 ⟨rfl, hb1⟩; rw [HE.out, HVB.out]))
  go_ret2
  exact ⟨retSE (by first | (rw [strOfNums_app, strOfNums_app]; done) | (rw [strOfNums_app, strOfNums_app]; rfl) | (rw [strOfNums_app]; done) | (rw [strOfNums_app]; rfl)) rfl, (bl3 _ _ _ _).trans (hb1.mono (by simp; omega))⟩
 ·rw [if_neg h0]
  go_enter Tryz.func59, Tryz.ntmps59
  go_wp2_with (first | (go_at_call 66; refine (form_any _ _).mono ?_; rintro e w' ⟨rfl, rfl⟩; rw [HF.out]) | (go_at_call 65; refine (parts_any _ ?_ ?_ _).mono ?_; omega; omega; rintro e w' ⟨rfl, rfl⟩; rw [pA, pB, pN]) | (go_at_call 78; refine (rbytes_any n 1 hn _).mono ?_; rintro e w1 ⟨rfl, hb1⟩; rw [HE.out, HVB.out]))
  go_ret2
  exact ⟨rfl, (bl3 _ _ _ _).trans (hb1.mono (by simp; omega))⟩

set_option maxRecDepth 100000 in
set_option maxHeartbeats 16000000 in
theorem rok_9 (op a b n : Int) (o1 : 1 ≤ op) (o2 : op ≤ 33) (HF : Hid (I.form op = 9)) (h1 : 0 ≤ a) (h2 : a ≤ 7) (h3 : 0 ≤ b) (h4 : b ≤ 7) (h6 : (b != 0) = false) (h7 : (n != 0) = false) (w : World) :
  Calls Tryz.prog 59 #[insV op a b n] w fun e w' => e = .returned (.tuple #[.string (strOfNums ([op] ++ [a])), .int .i64 0]) ∧ Below w.heap.size w w' := by
 have pA : I.hasA 9 = true := by decide
 have pB : I.hasB 9 = false := by decide
 have pN : I.numB 9 = 0 := by decide
 have hw : IntKind.u8.wrap op = op := by rw [IntKind.wrap_u8]; omega
 have hwa : IntKind.u8.wrap a = a := by rw [IntKind.wrap_u8]; omega
 have hwb : IntKind.u8.wrap (16 * a + b) = 16 * a + b := by rw [IntKind.wrap_u8]; omega
 have hcv := conv1
 have z1 : (strOfNums [op]).size = 1 := by rw [strOfNums_size]; rfl
 have z2 : (strOfNums [a]).size = 1 := by rw [strOfNums_size]; rfl
 have z3 : (strOfNums [16 * a + b]).size = 1 := by rw [strOfNums_size]; rfl
 go_enter Tryz.func59, Tryz.ntmps59
 go_wp2_with (first | (go_at_call 66; refine (form_any _ _).mono ?_; rintro e w' ⟨rfl, rfl⟩; rw [HF.out]) | (go_at_call 65; refine (parts_any _ ?_ ?_ _).mono ?_; omega; omega; rintro e w' ⟨rfl, rfl⟩; rw [pA, pB, pN]))
 go_ret2
 exact ⟨retSE (by first | rfl | rw [strOfNums_app]) rfl, bl3 _ _ _ _⟩

set_option maxRecDepth 100000 in
set_option maxHeartbeats 16000000 in
theorem rok_10 (op a b n : Int) (hn : (Lit.int .i64 n).wf = true) (o1 : 1 ≤ op) (o2 : op ≤ 33) (HF : Hid (I.form op = 10)) (h1 : 0 ≤ a) (h2 : a ≤ 7) (h3 : 0 ≤ b) (h4 : b ≤ 7) (h5 : (a != 0) = false) (h6 : (b != 0) = false) (n0 : 0 ≤ n) (n7 : n ≤ 127) (w : World) :
  Calls Tryz.prog 59 #[insV op a b n] w fun e w' => e = .returned (.tuple #[.string (strOfNums (if W.bytesE n 1 = 0 then [op] ++ W.bytesV n 1 else [])), .int .i64 (W.bytesE n 1)]) ∧ Below w.heap.size w w' := by
 have pA : I.hasA 10 = false := by decide
 have pB : I.hasB 10 = false := by decide
 have pN : I.numB 10 = 1 := by decide
 have hw : IntKind.u8.wrap op = op := by rw [IntKind.wrap_u8]; omega
 have hwa : IntKind.u8.wrap a = a := by rw [IntKind.wrap_u8]; omega
 have hwb : IntKind.u8.wrap (16 * a + b) = 16 * a + b := by rw [IntKind.wrap_u8]; omega
 have hcv := conv1
 have z1 : (strOfNums [op]).size = 1 := by rw [strOfNums_size]; rfl
 have z2 : (strOfNums [a]).size = 1 := by rw [strOfNums_size]; rfl
 have z3 : (strOfNums [16 * a + b]).size = 1 := by rw [strOfNums_size]; rfl
 have lb : (W.bytesV n 1).length ≤ 8 := by
  have := I.numW_len 1 n
  unfold I.numW at this
  rw [if_neg (by decide)] at this
  exact this
 have zb : (strOfNums (W.bytesV n 1)).size ≤ 8 := by rw [strOfNums_size]; exact lb
 clear lb
 obtain ⟨vb, hvb⟩ : ∃ vb, W.bytesV n 1 = vb := ⟨_, rfl⟩
 have HVB : Hid (W.bytesV n 1 = vb) := hvb
 rw [hvb] at zb
 rw [hvb]
 obtain ⟨ee, he⟩ : ∃ ee, W.bytesE n 1 = ee := ⟨_, rfl⟩
 have HE : Hid (W.bytesE n 1 = ee) := he
 rw [he]
 clear he hvb
 by_cases h0 : ee = 0
 ·subst h0
  rw [if_pos rfl]
  go_enter Tryz.func59, Tryz.ntmps59
  go_wp2_with (first | (go_at_call 66; refine (form_any _ _).mono ?_; rintro e w' ⟨rfl, rfl⟩; rw [HF.out]) | (go_at_call 65; refine (parts_any _ ?_ ?_ _).mono ?_; omega; omega; rintro e w' ⟨rfl, rfl⟩; rw [pA, pB, pN]) | (go_at_call 78; refine (rbytes_any n 1 hn _).mono ?_; rintro e w1 ⟨rfl, hb1⟩; rw [HE.out, HVB.out]))
  go_ret2
  exact ⟨retSE (by first | (rw [strOfNums_app, strOfNums_app]; done) | (rw [strOfNums_app, strOfNums_app]; rfl) | (rw [strOfNums_app]; done) | (rw [strOfNums_app]; rfl)) rfl, (bl2 _ _ _).trans (hb1.mono (by simp; omega))⟩
 ·rw [if_neg h0]
  go_enter Tryz.func59, Tryz.ntmps59
  go_wp2_with (first | (go_at_call 66; refine (form_any _ _).mono ?_; rintro e w' ⟨rfl, rfl⟩; rw [HF.out]) | (go_at_call 65; refine (parts_any _ ?_ ?_ _).mono ?_; omega; omega; rintro e w' ⟨rfl, rfl⟩; rw [pA, pB, pN]) | (go_at_call 78; refine (rbytes_any n 1 hn _).mono ?_; rintro e w1 ⟨rfl, hb1⟩; rw [HE.out, HVB.out]))
  go_ret2
  exact ⟨rfl, (bl2 _ _ _).trans (hb1.mono (by simp; omega))⟩

end Go.Proofs.YtgjingleolhkbaaGreatDoor.J

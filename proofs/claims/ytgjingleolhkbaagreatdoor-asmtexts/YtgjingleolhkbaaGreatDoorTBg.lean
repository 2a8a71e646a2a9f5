/- Whether an item, or items, may be, by the document. -/
import Derived.Test.YtgjingleolhkbaaGreatDoorTBf
namespace Go.Proofs.YtgjingleolhkbaaGreatDoor
open Go.RowKit Go.Lib
set_option linter.unusedVariables false
set_option linter.unusedSimpArgs false

theorem rhas_int (s : ByteArray) (c : Int) (h0 : 0 ≤ c) (h1 : c < 256) (hs : s.size ≤ maxLen) (w : World) :
  Calls Tryz.prog 100 #[.string s, .int .u8 c] w fun e w' => e = .returned (.bool (X.has s.data.toList (UInt8.ofNat c.toNat))) ∧ w' = w := by
 obtain ⟨k, rfl⟩ : ∃ k : Nat, c = k := ⟨c.toNat, by omega⟩
 refine (rhas_any s k (by omega) hs w).mono ?_
 rintro e w' ⟨rfl, rfl⟩
 exact ⟨by simp, rfl⟩
theorem opsR_has : ∀ op : Fin 34, X.has (X.opsR (op.val : Int)) 83 = X.has (X.row op.val).2 64 ∧ X.has (X.opsR (op.val : Int)) 65 = X.has (X.row op.val).2 65 ∧ X.has (X.opsR (op.val : Int)) 66 = X.has (X.row op.val).2 66 ∧ X.has (X.opsR (op.val : Int)) 78 = X.has (X.row op.val).2 78 := by decide
theorem opsR_len (op : Int) : (X.opsR op).length ≤ 3 := by
 unfold X.opsR
 split
 ·rename_i h
  rw [List.length_map]
  exact shape_len h
 ·simp
theorem mnem_none {op : Int} (h : X.mnem op = []) : X.rowOf op = none := by
 unfold X.rowOf X.mnem at *
 split at h
 ·rw [if_neg (by simp [h])]
 ·rename_i h2
  rw [if_neg (fun e => h2 ⟨e.1, e.2.1⟩)]
theorem mnem_some {op : Int} (h : X.mnem op ≠ []) : 0 ≤ op ∧ op < 34 ∧ X.rowOf op = some (X.row op.toNat) := by
 unfold X.rowOf X.mnem at *
 split at h
 ·rename_i h2
  exact ⟨h2.1, h2.2, if_pos ⟨h2.1, h2.2, h⟩⟩
 ·exact absurd rfl h
def insD (nm : X.By) (op a b n : Int) (ws : List Int) (sA sB sN sS : Bool) : Bool := decide (ws = []) && (X.isReg a && (X.isReg b && (X.numOk op n && ((decide (a = 0) || sA) && ((decide (b = 0) || sB) && ((decide (n = 0) || sN) && (if sS = true then X.name nm else decide (nm = []))))))))
theorem name_nil : X.name [] = false := rfl
theorem insD_eq {t : X.It} {r : X.By × X.By} (h : X.rowOf t.op = some r) : (X.insOk t && decide (t.words = [])) = insD t.name t.op t.a t.b t.n t.words (X.has r.2 65) (X.has r.2 66) (X.has r.2 78) (X.has r.2 64) := by
 rw [insOk_eq h]
 unfold insQ insD
 cases X.has r.2 64
 ·by_cases e : t.name = []
  ·simp [e, Bool.and_comm, Bool.and_assoc, Bool.and_left_comm]
  ·simp [e, Bool.and_comm, Bool.and_assoc, Bool.and_left_comm]
 ·by_cases e : t.name = []
  ·simp [e, name_nil]
  ·simp [e, Bool.and_comm, Bool.and_assoc, Bool.and_left_comm]

theorem bl3 (w : World) (x y z : Obj) : Below w.heap.size w (((w.alloc x).alloc y).alloc z) := (bl2 w x y).alloc (by simp; omega) _
set_option maxRecDepth 100000 in
set_option maxHeartbeats 40000000 in
theorem rins_any (k : Int) (nm : ByteArray) (op a b n : Int) (aw : Option Addr) (lw cw : Nat) (ws : List Int) (hlen : ws.length = lw) (hs : nm.size ≤ maxLen) (w : World) :
  Calls Tryz.prog 77 #[.agg #[.int .i64 k, .string nm, .int .i64 op, .int .i64 a, .int .i64 b, .int .i64 n, .slice aw lw cw]] w fun e w' => e = .returned (.bool (X.insOk ⟨k, nm.data.toList, op, a, b, n, ws⟩ && decide (ws = []))) ∧ Below w.heap.size w w' := by
 have hop := fun w => roperands_any op w
 have hmn := fun w => rmnemonic_any op w
 have hO : (X.str (X.opsR op)).size ≤ maxLen := by rw [str_size]; have := opsR_len op; unfold maxLen; omega
 by_cases hm : X.mnem op = []
 ·have HR : Hid ((X.insOk ⟨k, nm.data.toList, op, a, b, n, ws⟩ && decide (ws = [])) = false) := by show _ = _; rw [insOk_none (mnem_none hm)]; rfl
  have hE := isEmpty_nil hm
  generalize X.str (X.mnem op) = M at *
  generalize X.str (X.opsR op) = O at *
  clear hm
  go_enter Tryz.func77, Tryz.ntmps77
  go_wp2_with (first | (go_at_call 79; refine (hop _).mono ?_; rintro e y ⟨rfl, rfl⟩) | (go_at_call 80; refine (hmn _).mono ?_; rintro e y ⟨rfl, o, rfl⟩) | (go_at_call 99; refine (rfits_any op n _).mono ?_; rintro e y ⟨rfl, rfl⟩) | (go_at_call 100; refine (rhas_int O _ (by decide) (by decide) hO _).mono ?_; rintro e y ⟨rfl, rfl⟩) | (go_at_call 20; refine (rname_any nm hs _).mono ?_; rintro e y ⟨rfl, rfl⟩))
  go_ret
  exact ⟨ret_b HR.out.symm, bl3 _ _ _ _⟩
 obtain ⟨o0, o1, hrow⟩ := mnem_some hm
 have hE := isEmpty_str hm
 obtain ⟨f1, f2, f3, f4⟩ := opsR_has ⟨op.toNat, by omega⟩
 simp only [show ((op.toNat : Nat) : Int) = op from by omega] at f1 f2 f3 f4
 have hins := insD_eq (t := ⟨k, nm.data.toList, op, a, b, n, ws⟩) hrow
 simp only at hins
 obtain ⟨sA, h65⟩ : ∃ z, X.has (X.opsR op) 65 = z := ⟨_, rfl⟩
 obtain ⟨sB, h66⟩ : ∃ z, X.has (X.opsR op) 66 = z := ⟨_, rfl⟩
 obtain ⟨sN, h78⟩ : ∃ z, X.has (X.opsR op) 78 = z := ⟨_, rfl⟩
 obtain ⟨sS, h83⟩ : ∃ z, X.has (X.opsR op) 83 = z := ⟨_, rfl⟩
 rw [← f1, ← f2, ← f3, ← f4, h65, h66, h78, h83] at hins
 have HR : Hid _ := hins
 have g65 : X.has (X.str (X.opsR op)).data.toList (UInt8.ofNat (Int.toNat 65)) = sA := h65
 have g66 : X.has (X.str (X.opsR op)).data.toList (UInt8.ofNat (Int.toNat 66)) = sB := h66
 have g78 : X.has (X.str (X.opsR op)).data.toList (UInt8.ofNat (Int.toNat 78)) = sN := h78
 have g83 : X.has (X.str (X.opsR op)).data.toList (UInt8.ofNat (Int.toNat 83)) = sS := h83
 clear h65 h66 h78 h83 f1 f2 f3 f4 hins hrow hm o0 o1
 have h65 := g65
 have h66 := g66
 have h78 := g78
 have h83 := g83
 clear g65 g66 g78 g83
 generalize X.str (X.mnem op) = M at *
 generalize X.str (X.opsR op) = O at *
 by_cases hl0 : lw = 0
 rotate_left
 ·have hl1 : (0 : Int) < lw := by omega
  have HL : Hid (¬ ws = []) := fun e => hl0 (by rw [← hlen, e]; rfl)
  clear hl0 hlen
  go_enter Tryz.func77, Tryz.ntmps77
  go_wp2_with (first | (go_at_call 79; refine (hop _).mono ?_; rintro e y ⟨rfl, rfl⟩) | (go_at_call 80; refine (hmn _).mono ?_; rintro e y ⟨rfl, o, rfl⟩) | (go_at_call 99; refine (rfits_any op n _).mono ?_; rw [hft]; rintro e y ⟨rfl, rfl⟩) | (go_at_call 100; refine (rhas_int O _ (by decide) (by decide) hO _).mono ?_; (first | rw [h65] | rw [h66] | rw [h78] | rw [h83]); rintro e y ⟨rfl, rfl⟩) | (go_at_call 20; refine (rname_any nm hs _).mono ?_; rw [hnm]; rintro e y ⟨rfl, rfl⟩))
  go_ret
  exact ⟨ret_b (by rw [HR.out]; simp [insD, HL.out]), by first | exact bl3 _ _ _ _ | exact bl2 _ _ _⟩
 have hl1 : ¬ (0 : Int) < lw := by omega
 have HL : Hid (ws = []) := List.eq_nil_of_length_eq_zero (by omega)
 clear hl0 hlen
 by_cases a0 : a < 0
 ·have Ra : Hid (X.isReg a = false) := by show _ = _; simp [X.isReg]; omega
  go_enter Tryz.func77, Tryz.ntmps77
  go_wp2_with (first | (go_at_call 79; refine (hop _).mono ?_; rintro e y ⟨rfl, rfl⟩) | (go_at_call 80; refine (hmn _).mono ?_; rintro e y ⟨rfl, o, rfl⟩) | (go_at_call 99; refine (rfits_any op n _).mono ?_; rw [hft]; rintro e y ⟨rfl, rfl⟩) | (go_at_call 100; refine (rhas_int O _ (by decide) (by decide) hO _).mono ?_; (first | rw [h65] | rw [h66] | rw [h78] | rw [h83]); rintro e y ⟨rfl, rfl⟩) | (go_at_call 20; refine (rname_any nm hs _).mono ?_; rw [hnm]; rintro e y ⟨rfl, rfl⟩))
  go_ret
  exact ⟨ret_b (by rw [HR.out]; simp [insD, decide_eq_true HL.out, Ra.out]), by first | exact bl3 _ _ _ _ | exact bl2 _ _ _⟩
 by_cases a7 : 7 < a
 ·have Ra : Hid (X.isReg a = false) := by show _ = _; simp [X.isReg]; omega
  go_enter Tryz.func77, Tryz.ntmps77
  go_wp2_with (first | (go_at_call 79; refine (hop _).mono ?_; rintro e y ⟨rfl, rfl⟩) | (go_at_call 80; refine (hmn _).mono ?_; rintro e y ⟨rfl, o, rfl⟩) | (go_at_call 99; refine (rfits_any op n _).mono ?_; rw [hft]; rintro e y ⟨rfl, rfl⟩) | (go_at_call 100; refine (rhas_int O _ (by decide) (by decide) hO _).mono ?_; (first | rw [h65] | rw [h66] | rw [h78] | rw [h83]); rintro e y ⟨rfl, rfl⟩) | (go_at_call 20; refine (rname_any nm hs _).mono ?_; rw [hnm]; rintro e y ⟨rfl, rfl⟩))
  go_ret
  exact ⟨ret_b (by rw [HR.out]; simp [insD, decide_eq_true HL.out, Ra.out]), by first | exact bl3 _ _ _ _ | exact bl2 _ _ _⟩
 have Ra : Hid (X.isReg a = true) := by show _ = _; simp [X.isReg]; omega
 by_cases b0 : b < 0
 ·have Rb : Hid (X.isReg b = false) := by show _ = _; simp [X.isReg]; omega
  go_enter Tryz.func77, Tryz.ntmps77
  go_wp2_with (first | (go_at_call 79; refine (hop _).mono ?_; rintro e y ⟨rfl, rfl⟩) | (go_at_call 80; refine (hmn _).mono ?_; rintro e y ⟨rfl, o, rfl⟩) | (go_at_call 99; refine (rfits_any op n _).mono ?_; rw [hft]; rintro e y ⟨rfl, rfl⟩) | (go_at_call 100; refine (rhas_int O _ (by decide) (by decide) hO _).mono ?_; (first | rw [h65] | rw [h66] | rw [h78] | rw [h83]); rintro e y ⟨rfl, rfl⟩) | (go_at_call 20; refine (rname_any nm hs _).mono ?_; rw [hnm]; rintro e y ⟨rfl, rfl⟩))
  go_ret
  exact ⟨ret_b (by rw [HR.out]; simp [insD, decide_eq_true HL.out, Ra.out, Rb.out]), by first | exact bl3 _ _ _ _ | exact bl2 _ _ _⟩
 by_cases b7 : 7 < b
 ·have Rb : Hid (X.isReg b = false) := by show _ = _; simp [X.isReg]; omega
  go_enter Tryz.func77, Tryz.ntmps77
  go_wp2_with (first | (go_at_call 79; refine (hop _).mono ?_; rintro e y ⟨rfl, rfl⟩) | (go_at_call 80; refine (hmn _).mono ?_; rintro e y ⟨rfl, o, rfl⟩) | (go_at_call 99; refine (rfits_any op n _).mono ?_; rw [hft]; rintro e y ⟨rfl, rfl⟩) | (go_at_call 100; refine (rhas_int O _ (by decide) (by decide) hO _).mono ?_; (first | rw [h65] | rw [h66] | rw [h78] | rw [h83]); rintro e y ⟨rfl, rfl⟩) | (go_at_call 20; refine (rname_any nm hs _).mono ?_; rw [hnm]; rintro e y ⟨rfl, rfl⟩))
  go_ret
  exact ⟨ret_b (by rw [HR.out]; simp [insD, decide_eq_true HL.out, Ra.out, Rb.out]), by first | exact bl3 _ _ _ _ | exact bl2 _ _ _⟩
 have Rb : Hid (X.isReg b = true) := by show _ = _; simp [X.isReg]; omega
 cases hft : X.numOk op n
 ·skip
  go_enter Tryz.func77, Tryz.ntmps77
  go_wp2_with (first | (go_at_call 79; refine (hop _).mono ?_; rintro e y ⟨rfl, rfl⟩) | (go_at_call 80; refine (hmn _).mono ?_; rintro e y ⟨rfl, o, rfl⟩) | (go_at_call 99; refine (rfits_any op n _).mono ?_; rw [hft]; rintro e y ⟨rfl, rfl⟩) | (go_at_call 100; refine (rhas_int O _ (by decide) (by decide) hO _).mono ?_; (first | rw [h65] | rw [h66] | rw [h78] | rw [h83]); rintro e y ⟨rfl, rfl⟩) | (go_at_call 20; refine (rname_any nm hs _).mono ?_; rw [hnm]; rintro e y ⟨rfl, rfl⟩))
  go_ret
  exact ⟨ret_b (by rw [HR.out]; simp [insD, decide_eq_true HL.out, Ra.out, Rb.out, hft]), by first | exact bl3 _ _ _ _ | exact bl2 _ _ _⟩
 go_enter Tryz.func77, Tryz.ntmps77
 go_wp2_with (first | (go_at_call 79; refine (hop _).mono ?_; rintro e y ⟨rfl, rfl⟩) | (go_at_call 80; refine (hmn _).mono ?_; rintro e y ⟨rfl, o, rfl⟩) | (go_at_call 99; refine (rfits_any op n _).mono ?_; rw [hft]; rintro e y ⟨rfl, rfl⟩))
 clear hop hmn
 refine (rhas_int O 65 (by decide) (by decide) hO _).mono ?_
 rw [h65]
 rintro e y ⟨rfl, rfl⟩
 cases sA
 ·by_cases za : a = 0
  ·have Za : Hid _ := za
   replace za : (a != 0) = false := eq_i za
   go_wp2_with fail
   refine (rhas_int O 66 (by decide) (by decide) hO _).mono ?_
   rw [h66]
   rintro e y ⟨rfl, rfl⟩
   cases sB
   ·by_cases zb : b = 0
    ·have Zb : Hid _ := zb
     replace zb : (b != 0) = false := eq_i zb
     go_wp2_with fail
     refine (rhas_int O 78 (by decide) (by decide) hO _).mono ?_
     rw [h78]
     rintro e y ⟨rfl, rfl⟩
     cases sN
     ·by_cases zn : n = 0
      ·have Zn : Hid _ := zn
       replace zn : (n != 0) = false := eq_i zn
       go_wp2_with fail
       refine (rhas_int O 83 (by decide) (by decide) hO _).mono ?_
       rw [h83]
       rintro e y ⟨rfl, rfl⟩
       cases sS
       ·go_wp2_with fail
        go_ret
        exact ⟨ret_b (by rw [HR.out]; simp only [insD, Bool.true_or, Bool.or_true, Bool.false_or, Bool.or_self, Bool.and_true, Bool.true_and, Bool.false_and, Bool.and_false, Bool.and_self, if_true, if_false, Bool.false_eq_true, decide_eq_true HL.out, Ra.out, Rb.out, hft, decide_eq_true Za.out, decide_eq_true Zb.out, decide_eq_true Zn.out, neq_empty]), bl3 _ _ _ _⟩
       ·go_wp2_with fail
        refine (rname_any nm hs _).mono ?_
        rintro e y ⟨rfl, rfl⟩
        go_wp2_with fail
        go_ret
        exact ⟨ret_b (by rw [HR.out]; simp only [insD, Bool.true_or, Bool.or_true, Bool.false_or, Bool.or_self, Bool.and_true, Bool.true_and, Bool.false_and, Bool.and_false, Bool.and_self, if_true, if_false, Bool.false_eq_true, decide_eq_true HL.out, Ra.out, Rb.out, hft, decide_eq_true Za.out, decide_eq_true Zb.out, decide_eq_true Zn.out]), bl3 _ _ _ _⟩
      ·have Zn : Hid _ := zn
       replace zn : (n != 0) = true := ne_i zn
       go_wp2_with fail
       go_ret
       exact ⟨ret_b (by rw [HR.out]; simp only [insD, Bool.true_or, Bool.or_true, Bool.false_or, Bool.or_self, Bool.and_true, Bool.true_and, Bool.false_and, Bool.and_false, Bool.and_self, if_true, if_false, Bool.false_eq_true, decide_eq_true HL.out, Ra.out, Rb.out, hft, decide_eq_true Za.out, decide_eq_true Zb.out, decide_eq_false Zn.out]), bl3 _ _ _ _⟩
     ·go_wp2_with fail
      refine (rhas_int O 83 (by decide) (by decide) hO _).mono ?_
      rw [h83]
      rintro e y ⟨rfl, rfl⟩
      cases sS
      ·go_wp2_with fail
       go_ret
       exact ⟨ret_b (by rw [HR.out]; simp only [insD, Bool.true_or, Bool.or_true, Bool.false_or, Bool.or_self, Bool.and_true, Bool.true_and, Bool.false_and, Bool.and_false, Bool.and_self, if_true, if_false, Bool.false_eq_true, decide_eq_true HL.out, Ra.out, Rb.out, hft, decide_eq_true Za.out, decide_eq_true Zb.out, neq_empty]), bl3 _ _ _ _⟩
      ·go_wp2_with fail
       refine (rname_any nm hs _).mono ?_
       rintro e y ⟨rfl, rfl⟩
       go_wp2_with fail
       go_ret
       exact ⟨ret_b (by rw [HR.out]; simp only [insD, Bool.true_or, Bool.or_true, Bool.false_or, Bool.or_self, Bool.and_true, Bool.true_and, Bool.false_and, Bool.and_false, Bool.and_self, if_true, if_false, Bool.false_eq_true, decide_eq_true HL.out, Ra.out, Rb.out, hft, decide_eq_true Za.out, decide_eq_true Zb.out]), bl3 _ _ _ _⟩
    ·have Zb : Hid _ := zb
     replace zb : (b != 0) = true := ne_i zb
     go_wp2_with fail
     go_ret
     exact ⟨ret_b (by rw [HR.out]; simp only [insD, Bool.true_or, Bool.or_true, Bool.false_or, Bool.or_self, Bool.and_true, Bool.true_and, Bool.false_and, Bool.and_false, Bool.and_self, if_true, if_false, Bool.false_eq_true, decide_eq_true HL.out, Ra.out, Rb.out, hft, decide_eq_true Za.out, decide_eq_false Zb.out]), bl3 _ _ _ _⟩
   ·go_wp2_with fail
    refine (rhas_int O 78 (by decide) (by decide) hO _).mono ?_
    rw [h78]
    rintro e y ⟨rfl, rfl⟩
    cases sN
    ·by_cases zn : n = 0
     ·have Zn : Hid _ := zn
      replace zn : (n != 0) = false := eq_i zn
      go_wp2_with fail
      refine (rhas_int O 83 (by decide) (by decide) hO _).mono ?_
      rw [h83]
      rintro e y ⟨rfl, rfl⟩
      cases sS
      ·go_wp2_with fail
       go_ret
       exact ⟨ret_b (by rw [HR.out]; simp only [insD, Bool.true_or, Bool.or_true, Bool.false_or, Bool.or_self, Bool.and_true, Bool.true_and, Bool.false_and, Bool.and_false, Bool.and_self, if_true, if_false, Bool.false_eq_true, decide_eq_true HL.out, Ra.out, Rb.out, hft, decide_eq_true Za.out, decide_eq_true Zn.out, neq_empty]), bl3 _ _ _ _⟩
      ·go_wp2_with fail
       refine (rname_any nm hs _).mono ?_
       rintro e y ⟨rfl, rfl⟩
       go_wp2_with fail
       go_ret
       exact ⟨ret_b (by rw [HR.out]; simp only [insD, Bool.true_or, Bool.or_true, Bool.false_or, Bool.or_self, Bool.and_true, Bool.true_and, Bool.false_and, Bool.and_false, Bool.and_self, if_true, if_false, Bool.false_eq_true, decide_eq_true HL.out, Ra.out, Rb.out, hft, decide_eq_true Za.out, decide_eq_true Zn.out]), bl3 _ _ _ _⟩
     ·have Zn : Hid _ := zn
      replace zn : (n != 0) = true := ne_i zn
      go_wp2_with fail
      go_ret
      exact ⟨ret_b (by rw [HR.out]; simp only [insD, Bool.true_or, Bool.or_true, Bool.false_or, Bool.or_self, Bool.and_true, Bool.true_and, Bool.false_and, Bool.and_false, Bool.and_self, if_true, if_false, Bool.false_eq_true, decide_eq_true HL.out, Ra.out, Rb.out, hft, decide_eq_true Za.out, decide_eq_false Zn.out]), bl3 _ _ _ _⟩
    ·go_wp2_with fail
     refine (rhas_int O 83 (by decide) (by decide) hO _).mono ?_
     rw [h83]
     rintro e y ⟨rfl, rfl⟩
     cases sS
     ·go_wp2_with fail
      go_ret
      exact ⟨ret_b (by rw [HR.out]; simp only [insD, Bool.true_or, Bool.or_true, Bool.false_or, Bool.or_self, Bool.and_true, Bool.true_and, Bool.false_and, Bool.and_false, Bool.and_self, if_true, if_false, Bool.false_eq_true, decide_eq_true HL.out, Ra.out, Rb.out, hft, decide_eq_true Za.out, neq_empty]), bl3 _ _ _ _⟩
     ·go_wp2_with fail
      refine (rname_any nm hs _).mono ?_
      rintro e y ⟨rfl, rfl⟩
      go_wp2_with fail
      go_ret
      exact ⟨ret_b (by rw [HR.out]; simp only [insD, Bool.true_or, Bool.or_true, Bool.false_or, Bool.or_self, Bool.and_true, Bool.true_and, Bool.false_and, Bool.and_false, Bool.and_self, if_true, if_false, Bool.false_eq_true, decide_eq_true HL.out, Ra.out, Rb.out, hft, decide_eq_true Za.out]), bl3 _ _ _ _⟩
  ·have Za : Hid _ := za
   replace za : (a != 0) = true := ne_i za
   go_wp2_with fail
   go_ret
   exact ⟨ret_b (by rw [HR.out]; simp only [insD, Bool.true_or, Bool.or_true, Bool.false_or, Bool.or_self, Bool.and_true, Bool.true_and, Bool.false_and, Bool.and_false, Bool.and_self, if_true, if_false, Bool.false_eq_true, decide_eq_true HL.out, Ra.out, Rb.out, hft, decide_eq_false Za.out]), bl3 _ _ _ _⟩
 ·go_wp2_with fail
  refine (rhas_int O 66 (by decide) (by decide) hO _).mono ?_
  rw [h66]
  rintro e y ⟨rfl, rfl⟩
  cases sB
  ·by_cases zb : b = 0
   ·have Zb : Hid _ := zb
    replace zb : (b != 0) = false := eq_i zb
    go_wp2_with fail
    refine (rhas_int O 78 (by decide) (by decide) hO _).mono ?_
    rw [h78]
    rintro e y ⟨rfl, rfl⟩
    cases sN
    ·by_cases zn : n = 0
     ·have Zn : Hid _ := zn
      replace zn : (n != 0) = false := eq_i zn
      go_wp2_with fail
      refine (rhas_int O 83 (by decide) (by decide) hO _).mono ?_
      rw [h83]
      rintro e y ⟨rfl, rfl⟩
      cases sS
      ·go_wp2_with fail
       go_ret
       exact ⟨ret_b (by rw [HR.out]; simp only [insD, Bool.true_or, Bool.or_true, Bool.false_or, Bool.or_self, Bool.and_true, Bool.true_and, Bool.false_and, Bool.and_false, Bool.and_self, if_true, if_false, Bool.false_eq_true, decide_eq_true HL.out, Ra.out, Rb.out, hft, decide_eq_true Zb.out, decide_eq_true Zn.out, neq_empty]), bl3 _ _ _ _⟩
      ·go_wp2_with fail
       refine (rname_any nm hs _).mono ?_
       rintro e y ⟨rfl, rfl⟩
       go_wp2_with fail
       go_ret
       exact ⟨ret_b (by rw [HR.out]; simp only [insD, Bool.true_or, Bool.or_true, Bool.false_or, Bool.or_self, Bool.and_true, Bool.true_and, Bool.false_and, Bool.and_false, Bool.and_self, if_true, if_false, Bool.false_eq_true, decide_eq_true HL.out, Ra.out, Rb.out, hft, decide_eq_true Zb.out, decide_eq_true Zn.out]), bl3 _ _ _ _⟩
     ·have Zn : Hid _ := zn
      replace zn : (n != 0) = true := ne_i zn
      go_wp2_with fail
      go_ret
      exact ⟨ret_b (by rw [HR.out]; simp only [insD, Bool.true_or, Bool.or_true, Bool.false_or, Bool.or_self, Bool.and_true, Bool.true_and, Bool.false_and, Bool.and_false, Bool.and_self, if_true, if_false, Bool.false_eq_true, decide_eq_true HL.out, Ra.out, Rb.out, hft, decide_eq_true Zb.out, decide_eq_false Zn.out]), bl3 _ _ _ _⟩
    ·go_wp2_with fail
     refine (rhas_int O 83 (by decide) (by decide) hO _).mono ?_
     rw [h83]
     rintro e y ⟨rfl, rfl⟩
     cases sS
     ·go_wp2_with fail
      go_ret
      exact ⟨ret_b (by rw [HR.out]; simp only [insD, Bool.true_or, Bool.or_true, Bool.false_or, Bool.or_self, Bool.and_true, Bool.true_and, Bool.false_and, Bool.and_false, Bool.and_self, if_true, if_false, Bool.false_eq_true, decide_eq_true HL.out, Ra.out, Rb.out, hft, decide_eq_true Zb.out, neq_empty]), bl3 _ _ _ _⟩
     ·go_wp2_with fail
      refine (rname_any nm hs _).mono ?_
      rintro e y ⟨rfl, rfl⟩
      go_wp2_with fail
      go_ret
      exact ⟨ret_b (by rw [HR.out]; simp only [insD, Bool.true_or, Bool.or_true, Bool.false_or, Bool.or_self, Bool.and_true, Bool.true_and, Bool.false_and, Bool.and_false, Bool.and_self, if_true, if_false, Bool.false_eq_true, decide_eq_true HL.out, Ra.out, Rb.out, hft, decide_eq_true Zb.out]), bl3 _ _ _ _⟩
   ·have Zb : Hid _ := zb
    replace zb : (b != 0) = true := ne_i zb
    go_wp2_with fail
    go_ret
    exact ⟨ret_b (by rw [HR.out]; simp only [insD, Bool.true_or, Bool.or_true, Bool.false_or, Bool.or_self, Bool.and_true, Bool.true_and, Bool.false_and, Bool.and_false, Bool.and_self, if_true, if_false, Bool.false_eq_true, decide_eq_true HL.out, Ra.out, Rb.out, hft, decide_eq_false Zb.out]), bl3 _ _ _ _⟩
  ·go_wp2_with fail
   refine (rhas_int O 78 (by decide) (by decide) hO _).mono ?_
   rw [h78]
   rintro e y ⟨rfl, rfl⟩
   cases sN
   ·by_cases zn : n = 0
    ·have Zn : Hid _ := zn
     replace zn : (n != 0) = false := eq_i zn
     go_wp2_with fail
     refine (rhas_int O 83 (by decide) (by decide) hO _).mono ?_
     rw [h83]
     rintro e y ⟨rfl, rfl⟩
     cases sS
     ·go_wp2_with fail
      go_ret
      exact ⟨ret_b (by rw [HR.out]; simp only [insD, Bool.true_or, Bool.or_true, Bool.false_or, Bool.or_self, Bool.and_true, Bool.true_and, Bool.false_and, Bool.and_false, Bool.and_self, if_true, if_false, Bool.false_eq_true, decide_eq_true HL.out, Ra.out, Rb.out, hft, decide_eq_true Zn.out, neq_empty]), bl3 _ _ _ _⟩
     ·go_wp2_with fail
      refine (rname_any nm hs _).mono ?_
      rintro e y ⟨rfl, rfl⟩
      go_wp2_with fail
      go_ret
      exact ⟨ret_b (by rw [HR.out]; simp only [insD, Bool.true_or, Bool.or_true, Bool.false_or, Bool.or_self, Bool.and_true, Bool.true_and, Bool.false_and, Bool.and_false, Bool.and_self, if_true, if_false, Bool.false_eq_true, decide_eq_true HL.out, Ra.out, Rb.out, hft, decide_eq_true Zn.out]), bl3 _ _ _ _⟩
    ·have Zn : Hid _ := zn
     replace zn : (n != 0) = true := ne_i zn
     go_wp2_with fail
     go_ret
     exact ⟨ret_b (by rw [HR.out]; simp only [insD, Bool.true_or, Bool.or_true, Bool.false_or, Bool.or_self, Bool.and_true, Bool.true_and, Bool.false_and, Bool.and_false, Bool.and_self, if_true, if_false, Bool.false_eq_true, decide_eq_true HL.out, Ra.out, Rb.out, hft, decide_eq_false Zn.out]), bl3 _ _ _ _⟩
   ·go_wp2_with fail
    refine (rhas_int O 83 (by decide) (by decide) hO _).mono ?_
    rw [h83]
    rintro e y ⟨rfl, rfl⟩
    cases sS
    ·go_wp2_with fail
     go_ret
     exact ⟨ret_b (by rw [HR.out]; simp only [insD, Bool.true_or, Bool.or_true, Bool.false_or, Bool.or_self, Bool.and_true, Bool.true_and, Bool.false_and, Bool.and_false, Bool.and_self, if_true, if_false, Bool.false_eq_true, decide_eq_true HL.out, Ra.out, Rb.out, hft, neq_empty]), bl3 _ _ _ _⟩
    ·go_wp2_with fail
     refine (rname_any nm hs _).mono ?_
     rintro e y ⟨rfl, rfl⟩
     go_wp2_with fail
     go_ret
     exact ⟨ret_b (by rw [HR.out]; simp only [insD, Bool.true_or, Bool.or_true, Bool.false_or, Bool.or_self, Bool.and_true, Bool.true_and, Bool.false_and, Bool.and_false, Bool.and_self, if_true, if_false, Bool.false_eq_true, decide_eq_true HL.out, Ra.out, Rb.out, hft]), bl3 _ _ _ _⟩

end Go.Proofs.YtgjingleolhkbaaGreatDoor

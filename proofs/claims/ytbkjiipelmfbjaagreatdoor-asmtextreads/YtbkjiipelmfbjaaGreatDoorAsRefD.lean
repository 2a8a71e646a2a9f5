/- Whether an item, or items, may be, by the document. -/
import Derived.Test.YtbkjiipelmfbjaaGreatDoorAsRefC
namespace Go.Proofs.YtbkjiipelmfbjaaGreatDoor
open Go.RowKit Go.Lib
set_option linter.unusedVariables false
set_option linter.unusedSimpArgs false

set_option maxRecDepth 100000 in
set_option maxHeartbeats 40000000 in
theorem rmay_any (k : Int) (nm : ByteArray) (op a b n : Int) (aw : Option Addr) (lw cw : Nat) (ws : List Int) (hlen : ws.length = lw) (hs : nm.size ≤ maxLen) (w : World) :
    Calls Tryz.prog 25 #[.agg #[.int .i64 k, .string nm, .int .i64 op, .int .i64 a, .int .i64 b, .int .i64 n, .slice aw lw cw]] w fun e w' => e = .returned (.bool (X.itOk ⟨k, nm.data.toList, op, a, b, n, ws⟩)) ∧ Below w.heap.size w w' := by
  have hEq := eqIns op a b n
  have hins := fun w => rins_any k nm op a b n aw lw cw ws hlen hs w
  obtain ⟨zI, hzI⟩ : ∃ zI, X.zeroIns ⟨k, nm.data.toList, op, a, b, n, ws⟩ = zI := ⟨_, rfl⟩
  have hEq' : ∀ w, (Op.equalIn 10000 29 (.agg #[.int .i64 op, .int .i64 a, .int .i64 b, .int .i64 n]) (.agg #[.int .i64 0, .int .i64 0, .int .i64 0, .int .i64 0])).run Tryz.prog w = .ok zI w := by rw [← hzI]; exact hEq
  clear hEq
  by_cases hk2 : k = 2
  · subst hk2
    have HR : Hid (X.itOk ⟨2, nm.data.toList, op, a, b, n, ws⟩ = (X.insOk ⟨2, nm.data.toList, op, a, b, n, ws⟩ && decide (ws = []))) := by show _ = _; simp [X.itOk]
    clear hEq' hzI hlen
    go_enter Tryz.func25, Tryz.ntmps25
    go_wp2_with fail
    refine (hins _).mono ?_
    rintro e y ⟨rfl, hb⟩
    have HB : Hid _ := hb
    clear hb hins
    go_wp2_with fail
    go_ret
    exact ⟨ret_b HR.out.symm, (bl1 _ _).trans (HB.out.mono (bl1 _ _).size)⟩
  have k2 : (k == 2) = false := by simp [hk2]
  clear hins
  by_cases hk3 : k = 3
  · subst hk3
    have HR : Hid (X.itOk ⟨3, nm.data.toList, op, a, b, n, ws⟩ = (X.name nm.data.toList && (zI && (decide (1 ≤ lw) && decide (lw ≤ 4096))))) := by show _ = _; rw [← hzI, ← hlen]; simp [X.itOk, Bool.and_comm, Bool.and_assoc, Bool.and_left_comm]
    clear hzI
    cases hnm : X.name nm.data.toList
    · skip
      go_enter Tryz.func25, Tryz.ntmps25
      go_wp2_with (first | (go_at_call 43; refine (rname_any nm hs _).mono ?_; rw [hnm]; rintro e y ⟨rfl, rfl⟩))
      go_ret
      exact ⟨ret_b (by rw [HR.out]; simp only [Bool.true_or, Bool.or_true, Bool.false_or, Bool.or_self, Bool.and_true, Bool.true_and, Bool.false_and, Bool.and_false, Bool.and_self, if_true, if_false, hnm] <;> (simp; omega)), bl1 _ _⟩
    cases zI
    · skip
      go_enter Tryz.func25, Tryz.ntmps25
      go_wp2_with (first | (go_at_call 43; refine (rname_any nm hs _).mono ?_; rw [hnm]; rintro e y ⟨rfl, rfl⟩))
      go_ret
      exact ⟨ret_b (by rw [HR.out]; simp only [Bool.true_or, Bool.or_true, Bool.false_or, Bool.or_self, Bool.and_true, Bool.true_and, Bool.false_and, Bool.and_false, Bool.and_self, if_true, if_false, hnm] <;> (simp; omega)), bl1 _ _⟩
    by_cases l1 : 1 ≤ lw
    rotate_left
    · have D : Hid (decide (1 ≤ lw) = false) := decide_eq_false l1
      have l2 : ¬ (1 : Int) ≤ lw := by omega
      go_enter Tryz.func25, Tryz.ntmps25
      go_wp2_with (first | (go_at_call 43; refine (rname_any nm hs _).mono ?_; rw [hnm]; rintro e y ⟨rfl, rfl⟩))
      go_ret
      exact ⟨ret_b (by rw [HR.out]; simp only [Bool.true_or, Bool.or_true, Bool.false_or, Bool.or_self, Bool.and_true, Bool.true_and, Bool.false_and, Bool.and_false, Bool.and_self, if_true, if_false, hnm, D.out] <;> (simp; omega)), bl1 _ _⟩
    have D : Hid (decide (1 ≤ lw) = true) := decide_eq_true l1
    have l1' : (1 : Int) ≤ lw := by omega
    by_cases l3 : lw ≤ 4096
    rotate_left
    · have D2 : Hid (decide (lw ≤ 4096) = false) := decide_eq_false l3
      have l2 : ¬ (lw : Int) ≤ 4096 := by omega
      go_enter Tryz.func25, Tryz.ntmps25
      go_wp2_with (first | (go_at_call 43; refine (rname_any nm hs _).mono ?_; rw [hnm]; rintro e y ⟨rfl, rfl⟩))
      go_ret
      exact ⟨ret_b (by rw [HR.out]; simp only [Bool.true_or, Bool.or_true, Bool.false_or, Bool.or_self, Bool.and_true, Bool.true_and, Bool.false_and, Bool.and_false, Bool.and_self, if_true, if_false, hnm, D.out, D2.out] <;> (simp; omega)), bl1 _ _⟩
    have D2 : Hid (decide (lw ≤ 4096) = true) := decide_eq_true l3
    have l3' : (lw : Int) ≤ 4096 := by omega
    go_enter Tryz.func25, Tryz.ntmps25
    go_wp2_with (first | (go_at_call 43; refine (rname_any nm hs _).mono ?_; rw [hnm]; rintro e y ⟨rfl, rfl⟩))
    go_ret
    exact ⟨ret_b (by rw [HR.out]; simp only [Bool.true_or, Bool.or_true, Bool.false_or, Bool.or_self, Bool.and_true, Bool.true_and, Bool.false_and, Bool.and_false, Bool.and_self, if_true, if_false, hnm, D.out, D2.out] <;> (simp; omega)), bl1 _ _⟩
  have k3 : (k == 3) = false := by simp [hk3]
  by_cases hk1 : k = 1
  · subst hk1
    have HR : Hid (X.itOk ⟨1, nm.data.toList, op, a, b, n, ws⟩ = (X.name nm.data.toList && (zI && decide (ws = [])))) := by show _ = _; rw [← hzI]; simp [X.itOk, Bool.and_comm, Bool.and_assoc, Bool.and_left_comm]
    clear hzI
    cases hnm : X.name nm.data.toList
    · skip
      go_enter Tryz.func25, Tryz.ntmps25
      go_wp2_with (first | (go_at_call 43; refine (rname_any nm hs _).mono ?_; rw [hnm]; rintro e y ⟨rfl, rfl⟩))
      go_ret
      exact ⟨ret_b (by rw [HR.out]; simp only [Bool.true_or, Bool.or_true, Bool.false_or, Bool.or_self, Bool.and_true, Bool.true_and, Bool.false_and, Bool.and_false, Bool.and_self, if_true, if_false, hnm] <;> (simp; omega)), bl1 _ _⟩
    cases zI
    · skip
      go_enter Tryz.func25, Tryz.ntmps25
      go_wp2_with (first | (go_at_call 43; refine (rname_any nm hs _).mono ?_; rw [hnm]; rintro e y ⟨rfl, rfl⟩))
      go_ret
      exact ⟨ret_b (by rw [HR.out]; simp only [Bool.true_or, Bool.or_true, Bool.false_or, Bool.or_self, Bool.and_true, Bool.true_and, Bool.false_and, Bool.and_false, Bool.and_self, if_true, if_false, hnm] <;> (simp; omega)), bl1 _ _⟩
    by_cases hl0 : lw = 0
    · have hl0' : Hid (decide (ws = []) = true) := decide_eq_true (List.eq_nil_of_length_eq_zero (by omega))
      have hl1 : ((lw : Int) == 0) = true := by simp [hl0]
      clear hl0 hlen
      go_enter Tryz.func25, Tryz.ntmps25
      go_wp2_with (first | (go_at_call 43; refine (rname_any nm hs _).mono ?_; rw [hnm]; rintro e y ⟨rfl, rfl⟩))
      go_ret
      exact ⟨ret_b (by rw [HR.out]; simp only [Bool.true_or, Bool.or_true, Bool.false_or, Bool.or_self, Bool.and_true, Bool.true_and, Bool.false_and, Bool.and_false, Bool.and_self, if_true, if_false, hnm, hl0'.out] <;> (simp; omega)), bl1 _ _⟩
    · have hl0' : Hid (decide (ws = []) = false) := decide_eq_false (fun e => hl0 (by rw [← hlen, e]; rfl))
      have hl1 : ((lw : Int) == 0) = false := by simp [hl0]
      clear hl0 hlen
      go_enter Tryz.func25, Tryz.ntmps25
      go_wp2_with (first | (go_at_call 43; refine (rname_any nm hs _).mono ?_; rw [hnm]; rintro e y ⟨rfl, rfl⟩))
      go_ret
      exact ⟨ret_b (by rw [HR.out]; simp only [Bool.true_or, Bool.or_true, Bool.false_or, Bool.or_self, Bool.and_true, Bool.true_and, Bool.false_and, Bool.and_false, Bool.and_self, if_true, if_false, hnm, hl0'.out] <;> (simp; omega)), bl1 _ _⟩
  have k1 : (k == 1) = false := by simp [hk1]
  by_cases hk4 : k = 4
  · subst hk4
    have HR : Hid (X.itOk ⟨4, nm.data.toList, op, a, b, n, ws⟩ = (X.name nm.data.toList && (zI && decide (ws = [])))) := by show _ = _; rw [← hzI]; simp [X.itOk, Bool.and_comm, Bool.and_assoc, Bool.and_left_comm]
    clear hzI
    cases hnm : X.name nm.data.toList
    · skip
      go_enter Tryz.func25, Tryz.ntmps25
      go_wp2_with (first | (go_at_call 43; refine (rname_any nm hs _).mono ?_; rw [hnm]; rintro e y ⟨rfl, rfl⟩))
      go_ret
      exact ⟨ret_b (by rw [HR.out]; simp only [Bool.true_or, Bool.or_true, Bool.false_or, Bool.or_self, Bool.and_true, Bool.true_and, Bool.false_and, Bool.and_false, Bool.and_self, if_true, if_false, hnm] <;> (simp; omega)), bl1 _ _⟩
    cases zI
    · skip
      go_enter Tryz.func25, Tryz.ntmps25
      go_wp2_with (first | (go_at_call 43; refine (rname_any nm hs _).mono ?_; rw [hnm]; rintro e y ⟨rfl, rfl⟩))
      go_ret
      exact ⟨ret_b (by rw [HR.out]; simp only [Bool.true_or, Bool.or_true, Bool.false_or, Bool.or_self, Bool.and_true, Bool.true_and, Bool.false_and, Bool.and_false, Bool.and_self, if_true, if_false, hnm] <;> (simp; omega)), bl1 _ _⟩
    by_cases hl0 : lw = 0
    · have hl0' : Hid (decide (ws = []) = true) := decide_eq_true (List.eq_nil_of_length_eq_zero (by omega))
      have hl1 : ((lw : Int) == 0) = true := by simp [hl0]
      clear hl0 hlen
      go_enter Tryz.func25, Tryz.ntmps25
      go_wp2_with (first | (go_at_call 43; refine (rname_any nm hs _).mono ?_; rw [hnm]; rintro e y ⟨rfl, rfl⟩))
      go_ret
      exact ⟨ret_b (by rw [HR.out]; simp only [Bool.true_or, Bool.or_true, Bool.false_or, Bool.or_self, Bool.and_true, Bool.true_and, Bool.false_and, Bool.and_false, Bool.and_self, if_true, if_false, hnm, hl0'.out] <;> (simp; omega)), bl1 _ _⟩
    · have hl0' : Hid (decide (ws = []) = false) := decide_eq_false (fun e => hl0 (by rw [← hlen, e]; rfl))
      have hl1 : ((lw : Int) == 0) = false := by simp [hl0]
      clear hl0 hlen
      go_enter Tryz.func25, Tryz.ntmps25
      go_wp2_with (first | (go_at_call 43; refine (rname_any nm hs _).mono ?_; rw [hnm]; rintro e y ⟨rfl, rfl⟩))
      go_ret
      exact ⟨ret_b (by rw [HR.out]; simp only [Bool.true_or, Bool.or_true, Bool.false_or, Bool.or_self, Bool.and_true, Bool.true_and, Bool.false_and, Bool.and_false, Bool.and_self, if_true, if_false, hnm, hl0'.out] <;> (simp; omega)), bl1 _ _⟩
  have k4 : (k == 4) = false := by simp [hk4]
  by_cases hk5 : k = 5
  · subst hk5
    have HR : Hid (X.itOk ⟨5, nm.data.toList, op, a, b, n, ws⟩ = (X.name nm.data.toList && (zI && decide (ws = [])))) := by show _ = _; rw [← hzI]; simp [X.itOk, Bool.and_comm, Bool.and_assoc, Bool.and_left_comm]
    clear hzI
    cases hnm : X.name nm.data.toList
    · skip
      go_enter Tryz.func25, Tryz.ntmps25
      go_wp2_with (first | (go_at_call 43; refine (rname_any nm hs _).mono ?_; rw [hnm]; rintro e y ⟨rfl, rfl⟩))
      go_ret
      exact ⟨ret_b (by rw [HR.out]; simp only [Bool.true_or, Bool.or_true, Bool.false_or, Bool.or_self, Bool.and_true, Bool.true_and, Bool.false_and, Bool.and_false, Bool.and_self, if_true, if_false, hnm] <;> (simp; omega)), bl1 _ _⟩
    cases zI
    · skip
      go_enter Tryz.func25, Tryz.ntmps25
      go_wp2_with (first | (go_at_call 43; refine (rname_any nm hs _).mono ?_; rw [hnm]; rintro e y ⟨rfl, rfl⟩))
      go_ret
      exact ⟨ret_b (by rw [HR.out]; simp only [Bool.true_or, Bool.or_true, Bool.false_or, Bool.or_self, Bool.and_true, Bool.true_and, Bool.false_and, Bool.and_false, Bool.and_self, if_true, if_false, hnm] <;> (simp; omega)), bl1 _ _⟩
    by_cases hl0 : lw = 0
    · have hl0' : Hid (decide (ws = []) = true) := decide_eq_true (List.eq_nil_of_length_eq_zero (by omega))
      have hl1 : ((lw : Int) == 0) = true := by simp [hl0]
      clear hl0 hlen
      go_enter Tryz.func25, Tryz.ntmps25
      go_wp2_with (first | (go_at_call 43; refine (rname_any nm hs _).mono ?_; rw [hnm]; rintro e y ⟨rfl, rfl⟩))
      go_ret
      exact ⟨ret_b (by rw [HR.out]; simp only [Bool.true_or, Bool.or_true, Bool.false_or, Bool.or_self, Bool.and_true, Bool.true_and, Bool.false_and, Bool.and_false, Bool.and_self, if_true, if_false, hnm, hl0'.out] <;> (simp; omega)), bl1 _ _⟩
    · have hl0' : Hid (decide (ws = []) = false) := decide_eq_false (fun e => hl0 (by rw [← hlen, e]; rfl))
      have hl1 : ((lw : Int) == 0) = false := by simp [hl0]
      clear hl0 hlen
      go_enter Tryz.func25, Tryz.ntmps25
      go_wp2_with (first | (go_at_call 43; refine (rname_any nm hs _).mono ?_; rw [hnm]; rintro e y ⟨rfl, rfl⟩))
      go_ret
      exact ⟨ret_b (by rw [HR.out]; simp only [Bool.true_or, Bool.or_true, Bool.false_or, Bool.or_self, Bool.and_true, Bool.true_and, Bool.false_and, Bool.and_false, Bool.and_self, if_true, if_false, hnm, hl0'.out] <;> (simp; omega)), bl1 _ _⟩
  have k5 : (k == 5) = false := by simp [hk5]
  have HR : Hid (X.itOk ⟨k, nm.data.toList, op, a, b, n, ws⟩ = false) := by show _ = _; simp [X.itOk, hk1, hk2, hk3, hk4, hk5]
  clear hk1 hk2 hk3 hk4 hk5 hzI hlen
  go_enter Tryz.func25, Tryz.ntmps25
  go_wp2_with fail
  go_ret
  exact ⟨ret_b HR.out.symm, bl1 _ _⟩

end Go.Proofs.YtbkjiipelmfbjaaGreatDoor

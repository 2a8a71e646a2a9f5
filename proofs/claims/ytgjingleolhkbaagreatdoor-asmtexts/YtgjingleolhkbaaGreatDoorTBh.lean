import Derived.Test.YtgjingleolhkbaaGreatDoorTBg
import Derived.Test.YtgjingleolhkbaaGreatDoorTAu
import Derived.Deep.AppendSrc
namespace Go.Proofs.YtgjingleolhkbaaGreatDoor
open Go.RowKit Go.Lib
set_option linter.unusedVariables false
set_option linter.unusedSimpArgs false

set_option maxRecDepth 100000 in
set_option maxHeartbeats 40000000 in
theorem rmay_any (k : Int) (nm : ByteArray) (op a b n : Int) (aw : Option Addr) (lw cw : Nat) (ws : List Int) (hlen : ws.length = lw) (hs : nm.size ≤ maxLen) (w : World) :
  Calls Tryz.prog 56 #[.agg #[.int .i64 k, .string nm, .int .i64 op, .int .i64 a, .int .i64 b, .int .i64 n, .slice aw lw cw]] w fun e w' => e = .returned (.bool (X.itOk ⟨k, nm.data.toList, op, a, b, n, ws⟩)) ∧ Below w.heap.size w w' := by
 have hEq := eqIns op a b n
 have hins := fun w => rins_any k nm op a b n aw lw cw ws hlen hs w
 obtain ⟨zI, hzI⟩ : ∃ zI, X.zeroIns ⟨k, nm.data.toList, op, a, b, n, ws⟩ = zI := ⟨_, rfl⟩
 have hEq' : ∀ w, (Op.equalIn 10000 42 (.agg #[.int .i64 op, .int .i64 a, .int .i64 b, .int .i64 n]) (.agg #[.int .i64 0, .int .i64 0, .int .i64 0, .int .i64 0])).run Tryz.prog w = .ok zI w := by rw [← hzI]; exact hEq
 clear hEq
 by_cases hk2 : k = 2
 ·subst hk2
  have HR : Hid (X.itOk ⟨2, nm.data.toList, op, a, b, n, ws⟩ = (X.insOk ⟨2, nm.data.toList, op, a, b, n, ws⟩ && decide (ws = []))) := by show _ = _; simp [X.itOk]
  clear hEq' hzI hlen
  go_enter Tryz.func56, Tryz.ntmps56
  go_wp2_with fail
  refine (hins _).mono ?_
  rintro e y ⟨rfl, hb⟩
  have HB : Hid _ := hb
  clear hb hins
  go_wp2_with fail
  go_ret
  exact ⟨ret_b HR.out.symm, (bl1 _ _).trans (HB.out.mono (bl1 _ _).size)⟩
 have k2 : (k == 2) = false := by simp [hk2]
 clear hins
 by_cases hk3 : k = 3
 ·subst hk3
  have HR : Hid (X.itOk ⟨3, nm.data.toList, op, a, b, n, ws⟩ = (X.name nm.data.toList && (zI && (decide (1 ≤ lw) && decide (lw ≤ 4096))))) := by show _ = _; rw [← hzI, ← hlen]; simp [X.itOk, Bool.and_comm, Bool.and_assoc, Bool.and_left_comm]
  clear hzI
  cases hnm : X.name nm.data.toList
  ·skip
   go_enter Tryz.func56, Tryz.ntmps56
   go_wp2_with (first | (go_at_call 20; refine (rname_any nm hs _).mono ?_; rw [hnm]; rintro e y ⟨rfl, rfl⟩))
   go_ret
   exact ⟨ret_b (by rw [HR.out]; simp only [Bool.true_or, Bool.or_true, Bool.false_or, Bool.or_self, Bool.and_true, Bool.true_and, Bool.false_and, Bool.and_false, Bool.and_self, if_true, if_false, hnm] <;> (simp; omega)), bl1 _ _⟩
  cases zI
  ·skip
   go_enter Tryz.func56, Tryz.ntmps56
   go_wp2_with (first | (go_at_call 20; refine (rname_any nm hs _).mono ?_; rw [hnm]; rintro e y ⟨rfl, rfl⟩))
   go_ret
   exact ⟨ret_b (by rw [HR.out]; simp only [Bool.true_or, Bool.or_true, Bool.false_or, Bool.or_self, Bool.and_true, Bool.true_and, Bool.false_and, Bool.and_false, Bool.and_self, if_true, if_false, hnm] <;> (simp; omega)), bl1 _ _⟩
  by_cases l1 : 1 ≤ lw
  rotate_left
  ·have D : Hid (decide (1 ≤ lw) = false) := decide_eq_false l1
   have l2 : ¬ (1 : Int) ≤ lw := by omega
   go_enter Tryz.func56, Tryz.ntmps56
   go_wp2_with (first | (go_at_call 20; refine (rname_any nm hs _).mono ?_; rw [hnm]; rintro e y ⟨rfl, rfl⟩))
   go_ret
   exact ⟨ret_b (by rw [HR.out]; simp only [Bool.true_or, Bool.or_true, Bool.false_or, Bool.or_self, Bool.and_true, Bool.true_and, Bool.false_and, Bool.and_false, Bool.and_self, if_true, if_false, hnm, D.out] <;> (simp; omega)), bl1 _ _⟩
  have D : Hid (decide (1 ≤ lw) = true) := decide_eq_true l1
  have l1' : (1 : Int) ≤ lw := by omega
  by_cases l3 : lw ≤ 4096
  rotate_left
  ·have D2 : Hid (decide (lw ≤ 4096) = false) := decide_eq_false l3
   have l2 : ¬ (lw : Int) ≤ 4096 := by omega
   go_enter Tryz.func56, Tryz.ntmps56
   go_wp2_with (first | (go_at_call 20; refine (rname_any nm hs _).mono ?_; rw [hnm]; rintro e y ⟨rfl, rfl⟩))
   go_ret
   exact ⟨ret_b (by rw [HR.out]; simp only [Bool.true_or, Bool.or_true, Bool.false_or, Bool.or_self, Bool.and_true, Bool.true_and, Bool.false_and, Bool.and_false, Bool.and_self, if_true, if_false, hnm, D.out, D2.out] <;> (simp; omega)), bl1 _ _⟩
  have D2 : Hid (decide (lw ≤ 4096) = true) := decide_eq_true l3
  have l3' : (lw : Int) ≤ 4096 := by omega
  go_enter Tryz.func56, Tryz.ntmps56
  go_wp2_with (first | (go_at_call 20; refine (rname_any nm hs _).mono ?_; rw [hnm]; rintro e y ⟨rfl, rfl⟩))
  go_ret
  exact ⟨ret_b (by rw [HR.out]; simp only [Bool.true_or, Bool.or_true, Bool.false_or, Bool.or_self, Bool.and_true, Bool.true_and, Bool.false_and, Bool.and_false, Bool.and_self, if_true, if_false, hnm, D.out, D2.out] <;> (simp; omega)), bl1 _ _⟩
 have k3 : (k == 3) = false := by simp [hk3]
 by_cases hk1 : k = 1
 ·subst hk1
  have HR : Hid (X.itOk ⟨1, nm.data.toList, op, a, b, n, ws⟩ = (X.name nm.data.toList && (zI && decide (ws = [])))) := by show _ = _; rw [← hzI]; simp [X.itOk, Bool.and_comm, Bool.and_assoc, Bool.and_left_comm]
  clear hzI
  cases hnm : X.name nm.data.toList
  ·skip
   go_enter Tryz.func56, Tryz.ntmps56
   go_wp2_with (first | (go_at_call 20; refine (rname_any nm hs _).mono ?_; rw [hnm]; rintro e y ⟨rfl, rfl⟩))
   go_ret
   exact ⟨ret_b (by rw [HR.out]; simp only [Bool.true_or, Bool.or_true, Bool.false_or, Bool.or_self, Bool.and_true, Bool.true_and, Bool.false_and, Bool.and_false, Bool.and_self, if_true, if_false, hnm] <;> (simp; omega)), bl1 _ _⟩
  cases zI
  ·skip
   go_enter Tryz.func56, Tryz.ntmps56
   go_wp2_with (first | (go_at_call 20; refine (rname_any nm hs _).mono ?_; rw [hnm]; rintro e y ⟨rfl, rfl⟩))
   go_ret
   exact ⟨ret_b (by rw [HR.out]; simp only [Bool.true_or, Bool.or_true, Bool.false_or, Bool.or_self, Bool.and_true, Bool.true_and, Bool.false_and, Bool.and_false, Bool.and_self, if_true, if_false, hnm] <;> (simp; omega)), bl1 _ _⟩
  by_cases hl0 : lw = 0
  ·have hl0' : Hid (decide (ws = []) = true) := decide_eq_true (List.eq_nil_of_length_eq_zero (by omega))
   have hl1 : ((lw : Int) == 0) = true := by simp [hl0]
   clear hl0 hlen
   go_enter Tryz.func56, Tryz.ntmps56
   go_wp2_with (first | (go_at_call 20; refine (rname_any nm hs _).mono ?_; rw [hnm]; rintro e y ⟨rfl, rfl⟩))
   go_ret
   exact ⟨ret_b (by rw [HR.out]; simp only [Bool.true_or, Bool.or_true, Bool.false_or, Bool.or_self, Bool.and_true, Bool.true_and, Bool.false_and, Bool.and_false, Bool.and_self, if_true, if_false, hnm, hl0'.out] <;> (simp; omega)), bl1 _ _⟩
  ·have hl0' : Hid (decide (ws = []) = false) := decide_eq_false (fun e => hl0 (by rw [← hlen, e]; rfl))
   have hl1 : ((lw : Int) == 0) = false := by simp [hl0]
   clear hl0 hlen
   go_enter Tryz.func56, Tryz.ntmps56
   go_wp2_with (first | (go_at_call 20; refine (rname_any nm hs _).mono ?_; rw [hnm]; rintro e y ⟨rfl, rfl⟩))
   go_ret
   exact ⟨ret_b (by rw [HR.out]; simp only [Bool.true_or, Bool.or_true, Bool.false_or, Bool.or_self, Bool.and_true, Bool.true_and, Bool.false_and, Bool.and_false, Bool.and_self, if_true, if_false, hnm, hl0'.out] <;> (simp; omega)), bl1 _ _⟩
 have k1 : (k == 1) = false := by simp [hk1]
 by_cases hk4 : k = 4
 ·subst hk4
  have HR : Hid (X.itOk ⟨4, nm.data.toList, op, a, b, n, ws⟩ = (X.name nm.data.toList && (zI && decide (ws = [])))) := by show _ = _; rw [← hzI]; simp [X.itOk, Bool.and_comm, Bool.and_assoc, Bool.and_left_comm]
  clear hzI
  cases hnm : X.name nm.data.toList
  ·skip
   go_enter Tryz.func56, Tryz.ntmps56
   go_wp2_with (first | (go_at_call 20; refine (rname_any nm hs _).mono ?_; rw [hnm]; rintro e y ⟨rfl, rfl⟩))
   go_ret
   exact ⟨ret_b (by rw [HR.out]; simp only [Bool.true_or, Bool.or_true, Bool.false_or, Bool.or_self, Bool.and_true, Bool.true_and, Bool.false_and, Bool.and_false, Bool.and_self, if_true, if_false, hnm] <;> (simp; omega)), bl1 _ _⟩
  cases zI
  ·skip
   go_enter Tryz.func56, Tryz.ntmps56
   go_wp2_with (first | (go_at_call 20; refine (rname_any nm hs _).mono ?_; rw [hnm]; rintro e y ⟨rfl, rfl⟩))
   go_ret
   exact ⟨ret_b (by rw [HR.out]; simp only [Bool.true_or, Bool.or_true, Bool.false_or, Bool.or_self, Bool.and_true, Bool.true_and, Bool.false_and, Bool.and_false, Bool.and_self, if_true, if_false, hnm] <;> (simp; omega)), bl1 _ _⟩
  by_cases hl0 : lw = 0
  ·have hl0' : Hid (decide (ws = []) = true) := decide_eq_true (List.eq_nil_of_length_eq_zero (by omega))
   have hl1 : ((lw : Int) == 0) = true := by simp [hl0]
   clear hl0 hlen
   go_enter Tryz.func56, Tryz.ntmps56
   go_wp2_with (first | (go_at_call 20; refine (rname_any nm hs _).mono ?_; rw [hnm]; rintro e y ⟨rfl, rfl⟩))
   go_ret
   exact ⟨ret_b (by rw [HR.out]; simp only [Bool.true_or, Bool.or_true, Bool.false_or, Bool.or_self, Bool.and_true, Bool.true_and, Bool.false_and, Bool.and_false, Bool.and_self, if_true, if_false, hnm, hl0'.out] <;> (simp; omega)), bl1 _ _⟩
  ·have hl0' : Hid (decide (ws = []) = false) := decide_eq_false (fun e => hl0 (by rw [← hlen, e]; rfl))
   have hl1 : ((lw : Int) == 0) = false := by simp [hl0]
   clear hl0 hlen
   go_enter Tryz.func56, Tryz.ntmps56
   go_wp2_with (first | (go_at_call 20; refine (rname_any nm hs _).mono ?_; rw [hnm]; rintro e y ⟨rfl, rfl⟩))
   go_ret
   exact ⟨ret_b (by rw [HR.out]; simp only [Bool.true_or, Bool.or_true, Bool.false_or, Bool.or_self, Bool.and_true, Bool.true_and, Bool.false_and, Bool.and_false, Bool.and_self, if_true, if_false, hnm, hl0'.out] <;> (simp; omega)), bl1 _ _⟩
 have k4 : (k == 4) = false := by simp [hk4]
 by_cases hk5 : k = 5
 ·subst hk5
  have HR : Hid (X.itOk ⟨5, nm.data.toList, op, a, b, n, ws⟩ = (X.name nm.data.toList && (zI && decide (ws = [])))) := by show _ = _; rw [← hzI]; simp [X.itOk, Bool.and_comm, Bool.and_assoc, Bool.and_left_comm]
  clear hzI
  cases hnm : X.name nm.data.toList
  ·skip
   go_enter Tryz.func56, Tryz.ntmps56
   go_wp2_with (first | (go_at_call 20; refine (rname_any nm hs _).mono ?_; rw [hnm]; rintro e y ⟨rfl, rfl⟩))
   go_ret
   exact ⟨ret_b (by rw [HR.out]; simp only [Bool.true_or, Bool.or_true, Bool.false_or, Bool.or_self, Bool.and_true, Bool.true_and, Bool.false_and, Bool.and_false, Bool.and_self, if_true, if_false, hnm] <;> (simp; omega)), bl1 _ _⟩
  cases zI
  ·skip
   go_enter Tryz.func56, Tryz.ntmps56
   go_wp2_with (first | (go_at_call 20; refine (rname_any nm hs _).mono ?_; rw [hnm]; rintro e y ⟨rfl, rfl⟩))
   go_ret
   exact ⟨ret_b (by rw [HR.out]; simp only [Bool.true_or, Bool.or_true, Bool.false_or, Bool.or_self, Bool.and_true, Bool.true_and, Bool.false_and, Bool.and_false, Bool.and_self, if_true, if_false, hnm] <;> (simp; omega)), bl1 _ _⟩
  by_cases hl0 : lw = 0
  ·have hl0' : Hid (decide (ws = []) = true) := decide_eq_true (List.eq_nil_of_length_eq_zero (by omega))
   have hl1 : ((lw : Int) == 0) = true := by simp [hl0]
   clear hl0 hlen
   go_enter Tryz.func56, Tryz.ntmps56
   go_wp2_with (first | (go_at_call 20; refine (rname_any nm hs _).mono ?_; rw [hnm]; rintro e y ⟨rfl, rfl⟩))
   go_ret
   exact ⟨ret_b (by rw [HR.out]; simp only [Bool.true_or, Bool.or_true, Bool.false_or, Bool.or_self, Bool.and_true, Bool.true_and, Bool.false_and, Bool.and_false, Bool.and_self, if_true, if_false, hnm, hl0'.out] <;> (simp; omega)), bl1 _ _⟩
  ·have hl0' : Hid (decide (ws = []) = false) := decide_eq_false (fun e => hl0 (by rw [← hlen, e]; rfl))
   have hl1 : ((lw : Int) == 0) = false := by simp [hl0]
   clear hl0 hlen
   go_enter Tryz.func56, Tryz.ntmps56
   go_wp2_with (first | (go_at_call 20; refine (rname_any nm hs _).mono ?_; rw [hnm]; rintro e y ⟨rfl, rfl⟩))
   go_ret
   exact ⟨ret_b (by rw [HR.out]; simp only [Bool.true_or, Bool.or_true, Bool.false_or, Bool.or_self, Bool.and_true, Bool.true_and, Bool.false_and, Bool.and_false, Bool.and_self, if_true, if_false, hnm, hl0'.out] <;> (simp; omega)), bl1 _ _⟩
 have k5 : (k == 5) = false := by simp [hk5]
 have HR : Hid (X.itOk ⟨k, nm.data.toList, op, a, b, n, ws⟩ = false) := by show _ = _; simp [X.itOk, hk1, hk2, hk3, hk4, hk5]
 clear hk1 hk2 hk3 hk4 hk5 hzI hlen
 go_enter Tryz.func56, Tryz.ntmps56
 go_wp2_with fail
 go_ret
 exact ⟨ret_b HR.out.symm, bl1 _ _⟩

set_option maxRecDepth 100000 in
set_option maxHeartbeats 8000000 in
theorem rMay_any {w : World} {al : Option Addr} {l c : Nat} {ts : List X.It} (h : ItsV w al l c ts) :
  Calls Tryz.prog 28 #[.slice al l c] w fun e w' => e = .returned (.bool (X.itsOk ts)) ∧ Below w.heap.size w w' := by
 have H : Hid _ := h
 have hm : l ≤ 9223372036854775807 := by have := h.room; unfold maxLen at this; omega
 have HCT : Hid (ts.length = l) := h.count
 clear h
 go_enter Tryz.func28, Tryz.ntmps28
 go_wp2_with fail
 go_loopg [3] l (fun r iv wq => ∃ (k : Nat), iv = .int .i64 k ∧ k ≤ l ∧ l - k ≤ r ∧ Hid (∀ t ∈ ts.take k, X.itOk t = true) ∧ Hid (Below w.heap.size w wq))
 case atStart => exact ⟨0, rfl, Nat.zero_le _, by omega, (fun t ht => by simp at ht : ∀ t ∈ ts.take 0, X.itOk t = true), Below.refl _ _⟩
 case round =>
  obtain ⟨k, rfl, hk, hr, HAL, HB⟩ := hrel
  by_cases hlt : k < l
  ·obtain ⟨b, off, t, aw, lw, cw, rfl, hg, hmem, c0, c1, c2, c3, c4, c5, c6, hi⟩ := (H.out.below HB.out).at hlt
   have hfit := H.out.fit t hmem
   have hcall := fun w => rmay_any t.kind (X.str t.name) t.op t.a t.b t.n aw lw cw t.words hi.count (by rw [str_size]; exact hfit.1) w
   simp only [str_list] at hcall
   have HG : Hid _ := hg
   have HM : Hid _ := hmem
   have hii : (k : Int) < l := by omega
   have hin : 0 ≤ (k : Int) := by omega
   clear hfit hi hg hmem
   obtain ⟨kd, nm, op, a, bb, n, ws⟩ := t
   simp only at c0 c1 c2 c3 c4 c5 hcall
   cases hok : X.itOk ⟨kd, nm, op, a, bb, n, ws⟩
   ·rw [hok] at hcall
    have HR : Hid (X.itsOk ts = false) := by show _ = _; rw [Bool.eq_false_iff]; intro e; have := (X.itsOk_iff.1 e).2 _ HM.out; rw [hok] at this; cases this
    go_wp2_with fail
    refine (hcall _).mono ?_
    rintro e y ⟨rfl, hb⟩
    have HB2 : Hid _ := hb
    clear hb hcall c0 c1 c2 c3 c4 c5 c6
    go_wp2_with fail
    go_ret
    exact ⟨ret_b HR.out.symm, HB.out.trans (HB2.out.mono HB.out.size)⟩
   ·rw [hok] at hcall
    have HN : Hid (∀ t ∈ ts.take (k + 1), X.itOk t = true) := mem_take HAL.out (by rw [HCT.out]; exact hlt) (by rw [HG.out]; exact hok)
    go_wp2_with fail
    refine (hcall _).mono ?_
    rintro e y ⟨rfl, hb⟩
    have HB2 : Hid _ := hb
    clear hb hcall c0 c1 c2 c3 c4 c5 c6
    go_wp2_with fail
    go_roundg (l - (k + 1))
    case measure => omega
    case rel => exact ⟨k + 1, by go_num, by omega, Nat.le_refl _, HN.out, HB.out.trans (HB2.out.mono HB.out.size)⟩
  ·obtain rfl : k = l := by omega
   have hii : ¬ (k : Int) < k := by omega
   by_cases h2 : k ≤ 20000
   ·have HR : Hid (X.itsOk ts = true) := X.itsOk_iff.2 ⟨by rw [HCT.out]; omega, fun t ht => HAL.out t (by rw [← HCT.out, List.take_length]; exact ht)⟩
    have h2' : (k : Int) ≤ 20000 := by omega
    go_wp2_with fail
    go_ret
    exact ⟨ret_b HR.out.symm, HB.out⟩
   ·have HR : Hid (X.itsOk ts = false) := by show _ = _; rw [Bool.eq_false_iff]; intro e; have := (X.itsOk_iff.1 e).1; rw [HCT.out] at this; omega
    have h2' : ¬ (k : Int) ≤ 20000 := by omega
    go_wp2_with fail
    go_ret
    exact ⟨ret_b HR.out.symm, HB.out⟩

end Go.Proofs.YtgjingleolhkbaaGreatDoor

namespace Go.Proofs.YtgjingleolhkbaaGreatDoor
open Go.RowKit Go.Maps Go.Lib
set_option linter.unusedVariables false
set_option linter.unusedSimpArgs false

theorem own_src {w : World} {B : Nat} {ty : TypeId} {k n c : Nat} {a : Option Addr} {cs : List Value} (h : w.ownsRow B ty k (.slice a n c) n cs) : (a = none → n = 0 ∧ c = 0) ∧ cs.length = n * k ∧ ∀ ad, a = some ad → ∀ j u, cs[j]? = some u → w.cell? (ad.add j) = some u := by
 refine ⟨?_, h.1, ?_⟩
 ·rintro rfl
  rcases h.2 with ⟨e1, e2⟩ | ⟨g, cap, cur, e1, -⟩
  ·cases e1; exact ⟨rfl, rfl⟩
  ·cases e1
 ·rintro ad rfl j u hu
  rcases h.2 with ⟨e1, -⟩ | ⟨g, cap, cur, e1, -⟩
  ·cases e1
  ·cases e1
   have := h.cellAt j (by rw [← h.1]; exact (List.getElem?_eq_some_iff.1 hu).1)
   rw [hu] at this
   unfold Addr.add
   split <;> simp_all
theorem own_mono {w : World} {B B' : Nat} {ty : TypeId} {k n : Nat} {v : Value} {cs : List Value} (h : w.ownsRow B ty k v n cs) (hB : B' ≤ B) : w.ownsRow B' ty k v n cs :=
 ⟨h.1, h.2.imp id (fun ⟨g, cap, cur, e, hb, r⟩ => ⟨g, cap, cur, e, Nat.le_trans hB hb, r⟩)⟩
theorem ItO.mono {B B' : Nat} {W : World} {tv : List (X.It × Value)} (h : ItO B W tv) (hB : B' ≤ B) : ItO B' W tv := fun p hp => by
 obtain ⟨hn, aw, lw, cw, e, ho⟩ := h p hp
 exact ⟨hn, aw, lw, cw, e, own_mono ho hB⟩
theorem ItO.below {B : Nat} {W W' : World} {tv : List (X.It × Value)} (h : ItO B W tv) (hb : Below W.heap.size W W') : ItO B W' tv := h.kept (gb_of_below hb none) (fun b o e => by cases e)
theorem below_own {w x y : World} {B : Nat} {ty : TypeId} {k n : Nat} {v : Value} {cs : List Value} (h : Below B w x) (ho : x.ownsRow B ty k v n cs) (hg : x.grownBy y v.ownBlock) (hw : B ≤ x.heap.size) : Below B w y := by
 rcases ho.2 with ⟨e1, -⟩ | ⟨g, cap, cur, e1, hb, -⟩
 ·rw [e1] at hg
  exact ⟨hg.os.trans h.os, hg.tape.trans h.tape, hg.output.trans h.output, Nat.le_trans h.size hg.size, fun i hi => (hg.block i (by omega) (fun e => by cases e)).trans (h.block i hi)⟩
 ·rw [e1] at hg
  exact below_gb h hg hb hw
theorem oneIt {t : X.It} {aw : Option Addr} {lw cw : Nat} : ∀ u ∈ itC t (.slice aw lw cw), u.oneCell' = true := by
 intro u hu
 simp [itC] at hu
 rcases hu with rfl | rfl | rfl | rfl | rfl | rfl | rfl <;> rfl
theorem run_append_more (w : World) (B : Nat) (t e : TypeId) (i0 : TypeInfo) (z : Value) (size bytes : Nat) (ht : Tryz.prog.underlying t = some (.slice e)) (hi : Tryz.prog.info? e = some i0) (hz : i0.zero = some z) (hsize : i0.size = size) (hby : i0.bytes = bytes) (hzs : z.cells.size = size) (hsz : 0 < size)
  {v : Value} {n : Nat} {xs : List Value} (hown : w.ownsRow B e size v n xs) (hB : B ≤ w.heap.size)
  {a : Option Addr} {l c : Nat} {cs : List Value} (hnil : a = none → l = 0 ∧ c = 0) (hlen : cs.length = l * size) (hcells : ∀ ad, a = some ad → ∀ j u, cs[j]? = some u → w.cell? (ad.add j) = some u) (h1 : ∀ u ∈ cs, u.oneCell' = true) (hb : (n + l) * bytes ≤ 140737488355328) (hm : n + l ≤ 140737488355328) (ty : TypeId) :
  ∃ v' w', (Builtin.append_ #[t, t] ty #[v, .slice a l c]).run Tryz.prog w = .ok v' w' ∧ w'.ownsRow B e size v' (n + l) (xs ++ cs) ∧ w.grownBy w' v.ownBlock ∧ ∀ g, v'.ownBlock = some g → v.ownBlock = some g ∨ w.heap.size ≤ g := by
 cases a with
 | none =>
  obtain ⟨rfl, rfl⟩ := hnil rfl
  obtain rfl : cs = [] := List.eq_nil_of_length_eq_zero (by simpa using hlen)
  exact ⟨_, _, run_append_owned_none (P := Tryz.prog) w B t ty e i0 size ht hi v n xs hown, by simpa using hown, gb_of_below (Below.refl _ _) _, fun g hg => .inl hg⟩
 | some ad =>
  obtain ⟨v', w', hr, ho, hg, -, h5⟩ := run_append_own_at (P := Tryz.prog) w B t ty e i0 z size bytes ht hi hz hsize hby hzs hsz v n xs hown ad l c cs hlen (hcells ad rfl) h1 (by unfold maxLen; omega) hb hB
  refine ⟨v', w', hr, ho, hg, fun g hg' => ?_⟩
  rcases h5 with h5 | h5
  ·exact .inl (h5 ▸ hg')
  ·rw [h5] at hg'
   cases hg'
   exact .inr (Nat.le_refl _)
theorem wpList_append_more {ops : Array Oper} {rest : List Oper} {o : Oper} {ac : Act} {w : World} {Q : Exit → Act → World → Prop} (hgd : o.guard = none) (s x : Operand) (t : TypeId)
  (ho : o.op = .call { callee := .builtin .append, args := #[s, x], argTypes := #[t, t] }) (B : Nat) (e : TypeId) (i0 : TypeInfo) (z : Value) (size bytes : Nat) (ht : Tryz.prog.underlying t = some (.slice e)) (hi : Tryz.prog.info? e = some i0) (hz : i0.zero = some z) (hsize : i0.size = size) (hby : i0.bytes = bytes) (hzs : z.cells.size = size) (hsz : 0 < size)
  {v : Value} {n : Nat} {xs : List Value} (hs : ac.eval s = v) (hown : w.ownsRow B e size v n xs) (hB : B ≤ w.heap.size)
  {a : Option Addr} {l c : Nat} {cs : List Value} (hx : ac.eval x = .slice a l c) (hnil : a = none → l = 0 ∧ c = 0) (hlen : cs.length = l * size) (hcells : ∀ ad, a = some ad → ∀ j u, cs[j]? = some u → w.cell? (ad.add j) = some u) (h1 : ∀ u ∈ cs, u.oneCell' = true) (hb : (n + l) * bytes ≤ 140737488355328) (hm : n + l ≤ 140737488355328)
  (hk : ∀ v' w', w'.ownsRow B e size v' (n + l) (xs ++ cs) → w.grownBy w' v.ownBlock → (∀ g, v'.ownBlock = some g → v.ownBlock = some g ∨ w.heap.size ≤ g) → wpList Tryz.prog ops Q rest (ac.put o.dst v') w') : wpList Tryz.prog ops Q (o :: rest) ac w := by
 refine wpList_plain hgd fun K hK => ?_
 obtain ⟨v', w', hr, h2, h3, h4⟩ := run_append_more w B t e i0 z size bytes ht hi hz hsize hby hzs hsz hown hB hnil hlen hcells h1 hb hm o.type
 unfold Oper.wp execOp
 simp only [ho, resolve, invoke, builtin, Sem.run_bind, Sem.run_pure, Result.andThen_ok, List.map_toArray, List.map_cons, List.map_nil, hs, hx, hr]
 exact hK _ _ (hk v' w' h2 h3 h4)

end Go.Proofs.YtgjingleolhkbaaGreatDoor

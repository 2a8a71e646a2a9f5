/- Acts, and sets of them: the small calls. -/
import Derived.Test.YtafdjmccgijmnaaProg
import Derived.Test.YtafdjmccgijmnaaHiFind
import Derived.Laws.BitsAllLaws
import Derived.WalkKit
import Derived.WalkSpells
import Derived.WalkLawsBesides
import Derived.Maps.OwnSet
import Derived.Maps.OwnOps
import Derived.Maps.Keyed
import Derived.OpenShut
import Derived.StringKeys
import Derived.Deep.LoopGhost
import Derived.Deep.RegionHeld3
namespace Go.Proofs.Ytafdjmccgijmnaa
open Go.RowKit
set_option linter.unusedVariables false
set_option linter.unusedSimpArgs false
namespace H
/-- An act. -/
structure Ac where
  th : Int
  dd : Int
  nm : ByteArray
  arg : Int
  call : Int
  back : Int
  ans : Int
def Ac.v (a : Ac) : Value := .agg #[.int .i64 a.th, .int .i64 a.dd, .string a.nm, .int .i64 a.arg, .int .i64 a.call, .int .i64 a.back, .int .i64 a.ans]
def Ac.isBack (a : Ac) : Bool := decide (0 ≤ a.back)
def Ac.ahead (a b : Ac) : Bool := decide (0 ≤ a.back) && decide (a.back < b.call)
def Ac.may (a : Ac) : Bool := decide (0 ≤ a.th) && (decide (a.th < 4) && (decide (0 ≤ a.call) && (decide (a.back = -1) || decide (a.call < a.back))))
end H
theorem hbl1 (w : World) (o : Obj) : Below w.heap.size w (w.alloc o) := (Below.refl _ _).alloc (Nat.le_refl _) _
set_option maxRecDepth 100000 in
theorem isBack_any (a : H.Ac) (w : World) : Calls Try.prog 48 #[a.v] w fun e w' => e = .returned (.bool a.isBack) ∧ Below w.heap.size w w' := by
  obtain ⟨th, dd, nm, arg, call, back, ans⟩ := a
  have HR : Hid (H.Ac.isBack ⟨th, dd, nm, arg, call, back, ans⟩ = decide (0 ≤ back)) := rfl
  unfold H.Ac.v
  simp only
  go_enter Try.func48, Try.ntmps48
  go_wp2
  go_ret
  exact ⟨by rw [HR.out]; rfl, hbl1 _ _⟩
set_option maxRecDepth 100000 in
theorem isAhead_any (a b : H.Ac) (w : World) : Calls Try.prog 28 #[a.v, b.v] w fun e w' => e = .returned (.bool (a.ahead b)) ∧ Below w.heap.size w w' := by
  have HB : Hid (∀ W, Calls Try.prog 48 #[a.v] W fun e w' => e = .returned (.bool a.isBack) ∧ Below W.heap.size W w') := fun W => isBack_any a W
  have HR : Hid (a.ahead b = (a.isBack && decide (a.back < b.call))) := rfl
  obtain ⟨th, dd, nm, arg, call, back, ans⟩ := a
  obtain ⟨th2, dd2, nm2, arg2, call2, back2, ans2⟩ := b
  obtain ⟨ib, hib⟩ : ∃ x, H.Ac.isBack ⟨th, dd, nm, arg, call, back, ans⟩ = x := ⟨_, rfl⟩
  rw [hib] at HB HR
  simp only at HR
  unfold H.Ac.v at HB ⊢
  simp only at HB ⊢
  obtain ⟨Y1, hY1⟩ : ∃ Y, w.alloc (.cells #[.int .i64 th, .int .i64 dd, .string nm, .int .i64 arg, .int .i64 call, .int .i64 back, .int .i64 ans] 42) = Y := ⟨_, rfl⟩
  obtain ⟨Y2, hY2⟩ : ∃ Y, Y1.alloc (.cells #[.int .i64 th2, .int .i64 dd2, .string nm2, .int .i64 arg2, .int .i64 call2, .int .i64 back2, .int .i64 ans2] 42) = Y := ⟨_, rfl⟩
  have HB2 : Hid (Below w.heap.size w Y2) := by
    show Below _ _ _
    rw [← hY2, ← hY1]
    exact (hbl1 _ _).alloc (by simp) _
  have HC : Hid (∀ y, Below Y2.heap.size Y2 y → (y.cell? ⟨w.heap.size, 0, none⟩ = some (.int .i64 th) ∧ y.cell? ⟨w.heap.size, 1, none⟩ = some (.int .i64 dd) ∧ y.cell? ⟨w.heap.size, 2, none⟩ = some (.string nm) ∧ y.cell? ⟨w.heap.size, 3, none⟩ = some (.int .i64 arg) ∧ y.cell? ⟨w.heap.size, 4, none⟩ = some (.int .i64 call) ∧ y.cell? ⟨w.heap.size, 5, none⟩ = some (.int .i64 back) ∧ y.cell? ⟨w.heap.size, 6, none⟩ = some (.int .i64 ans)) ∧ y.cell? ⟨Y1.heap.size, 4, none⟩ = some (.int .i64 call2)) := fun y hy => by
    have ha : ∀ k, y.cell? ⟨w.heap.size, k, none⟩ = (#[.int .i64 th, .int .i64 dd, .string nm, .int .i64 arg, .int .i64 call, .int .i64 back, .int .i64 ans] : Array Value)[k]? := fun k => by
      rw [hy.cell (p := ⟨w.heap.size, k, none⟩) (by rw [← hY2, ← hY1]; simp; omega), ← hY2, ← hY1]
      simp
    refine ⟨⟨ha 0, ha 1, ha 2, ha 3, ha 4, ha 5, ha 6⟩, ?_⟩
    rw [hy.cell (p := ⟨Y1.heap.size, 4, none⟩) (by rw [← hY2]; simp), ← hY2]
    simp
  obtain ⟨⟨d0, d1, d2, d3, d4, d5, d6⟩, -⟩ := HC.out Y2 (Below.refl _ _)
  cases ib
  · go_enter Try.func28, Try.ntmps28
    go_wp2_with fail
    refine (HB.out _).mono ?_
    rintro e y ⟨rfl, hy⟩
    have HY : Hid (Below Y2.heap.size Y2 y) := hy
    clear hy
    go_wp2_with fail
    go_ret
    exact ⟨by rw [HR.out]; rfl, HB2.out.trans (HY.out.mono HB2.out.size)⟩
  · go_enter Try.func28, Try.ntmps28
    go_wp2_with fail
    refine (HB.out _).mono ?_
    rintro e y ⟨rfl, hy⟩
    have HY : Hid (Below Y2.heap.size Y2 y) := hy
    obtain ⟨⟨-, -, -, -, -, c5, -⟩, c4⟩ := HC.out y hy
    clear hy d0 d1 d2 d3 d4 d5 d6
    go_wp2_with fail
    go_ret
    exact ⟨by rw [HR.out]; rfl, HB2.out.trans (HY.out.mono HB2.out.size)⟩
theorem pow_wrap {k : Nat} (hk : k < 60) : IntKind.u64.wrap (2 ^ k) = ((2 ^ k : Nat) : Int) := by
  have h : (2 : Nat) ^ k < 1152921504606846976 := Nat.lt_of_lt_of_eq (Nat.pow_lt_pow_right (by decide) hk) (by decide)
  have e : (2 : Int) ^ k = ((2 ^ k : Nat) : Int) := by rw [Int.natCast_pow]; rfl
  rw [IntKind.wrap_u64, e]
  generalize 2 ^ k = q at *
  omega
theorem and_pow (d k : Nat) : (((d &&& 2 ^ k : Nat) : Int) != 0) = d.testBit k := by
  cases hd : d.testBit k with
  | false =>
    have : d &&& 2 ^ k = 0 := by
      apply Nat.eq_of_testBit_eq
      intro j
      rw [Nat.testBit_and, Nat.testBit_two_pow, Nat.zero_testBit]
      by_cases e : k = j
      · subst e; rw [hd]; rfl
      · rw [decide_eq_false e, Bool.and_false]
    rw [this]
    rfl
  | true =>
    have : d &&& 2 ^ k ≠ 0 := fun e => by
      have h2 := congrArg (fun n => n.testBit k) e
      simp only [Nat.testBit_and, Nat.testBit_two_pow, Nat.zero_testBit, hd] at h2
      simp at h2
    rw [bne_iff_ne]
    omega
set_option maxRecDepth 100000 in
theorem with_any (d k : Nat) (hk : k < 60) (hd : d < 1152921504606846976) (w : World) : Calls Try.prog 54 #[.int .u64 d, .int .i64 k] w fun e w' => e = .returned (.int .u64 (H.wth d k)) ∧ w' = w := by
  have hk0 : (0 : Int) ≤ k := by omega
  have hk64 : (k : Int) < 64 := by omega
  have h : (2 : Nat) ^ k < 2 ^ 60 := Nat.pow_lt_pow_right (by decide) hk
  have HR : Hid (bits .or .u64 (d : Int) (IntKind.u64.wrap (2 ^ k)) = (H.wth d k : Nat)) := by
    show _ = _
    rw [pow_wrap hk, u64_or_nat d (2 ^ k) (by omega) (by omega)]
    rfl
  clear h
  go_enter Try.func54, Try.ntmps54
  go_wp2
  go_ret
  exact ⟨by rw [← HR.out]; rfl, rfl⟩
set_option maxRecDepth 100000 in
theorem has_any (d k : Nat) (hk : k < 60) (hd : d < 1152921504606846976) (w : World) : Calls Try.prog 53 #[.int .u64 d, .int .i64 k] w fun e w' => e = .returned (.bool (d.testBit k)) ∧ w' = w := by
  have hk0 : (0 : Int) ≤ k := by omega
  have hk64 : (k : Int) < 64 := by omega
  have h : (2 : Nat) ^ k < 2 ^ 60 := Nat.pow_lt_pow_right (by decide) hk
  have HR : Hid ((bits .and .u64 (d : Int) (IntKind.u64.wrap (2 ^ k)) != 0) = d.testBit k) := by
    show _ = _
    rw [pow_wrap hk, u64_and_nat d (2 ^ k) (by omega) (by omega), and_pow]
  clear h
  go_enter Try.func53, Try.ntmps53
  go_wp2
  go_ret
  exact ⟨by rw [← HR.out]; rfl, rfl⟩
namespace H
/-- Whether a set has all of another one's. -/
def sub (k d : Nat) : Bool := (k &&& (18446744073709551615 - d)) == 0
theorem sub_iff {k d : Nat} (hd : d < 18446744073709551616) (hk : k < 18446744073709551616) : sub k d = true ↔ ∀ j, k.testBit j = true → d.testBit j = true := by
  have e : 18446744073709551615 - d = 2 ^ 64 - (d + 1) := by omega
  unfold sub
  rw [beq_iff_eq]
  constructor
  · intro h j hj
    have h2 := congrArg (fun n => n.testBit j) h
    simp only [Nat.testBit_and, Nat.zero_testBit] at h2
    rw [e, Nat.testBit_two_pow_sub_succ (by omega), hj] at h2
    have hj64 : j < 64 := by
      by_cases hh : j < 64
      · exact hh
      · exfalso
        have : k < 2 ^ j := Nat.lt_of_lt_of_le hk (by show 2 ^ 64 ≤ 2 ^ j; exact Nat.pow_le_pow_right (by decide) (by omega))
        rw [Nat.testBit_lt_two_pow this] at hj
        cases hj
    simpa [hj64] using h2
  · intro h
    apply Nat.eq_of_testBit_eq
    intro j
    rw [Nat.testBit_and, e, Nat.testBit_two_pow_sub_succ (by omega), Nat.zero_testBit]
    cases hj : k.testBit j with
    | false => rfl
    | true => simp [h j hj]
end H
set_option maxRecDepth 100000 in
theorem hasAll_any (d k : Nat) (hd : d < 18446744073709551616) (hk : k < 18446744073709551616) (w : World) : Calls Try.prog 55 #[.int .u64 d, .int .u64 k] w fun e w' => e = .returned (.bool (H.sub k d)) ∧ w' = w := by
  have HR : Hid ((bits .andNot .u64 (k : Int) (d : Int) == 0) = H.sub k d) := by
    show _ = _
    rw [u64_andNot_nat k d (by omega) (by omega)]
    unfold H.sub
    rw [Bool.eq_iff_iff, beq_iff_eq, beq_iff_eq]
    omega
  go_enter Try.func55, Try.ntmps55
  go_wp2
  go_ret
  exact ⟨by rw [← HR.out]; rfl, rfl⟩
set_option maxRecDepth 100000 in
theorem amay_any (a : H.Ac) (w : World) : Calls Try.prog 29 #[a.v] w fun e w' => e = .returned (.bool a.may) ∧ Below w.heap.size w w' := by
  have HR : Hid (a.may = (decide (0 ≤ a.th) && (decide (a.th < 4) && (decide (0 ≤ a.call) && (decide (a.back = -1) || decide (a.call < a.back)))))) := rfl
  obtain ⟨th, dd, nm, arg, call, back, ans⟩ := a
  unfold H.Ac.v
  simp only at HR ⊢
  by_cases h1 : 0 ≤ th
  rotate_left
  · rw [decide_eq_false h1] at HR
    go_enter Try.func29, Try.ntmps29
    go_wp2
    go_ret
    exact ⟨by rw [HR.out]; rfl, hbl1 _ _⟩
  rw [decide_eq_true h1] at HR
  by_cases h2 : th < 4
  rotate_left
  · rw [decide_eq_false h2] at HR
    go_enter Try.func29, Try.ntmps29
    go_wp2
    go_ret
    exact ⟨by rw [HR.out]; rfl, hbl1 _ _⟩
  rw [decide_eq_true h2] at HR
  by_cases h3 : 0 ≤ call
  rotate_left
  · rw [decide_eq_false h3] at HR
    go_enter Try.func29, Try.ntmps29
    go_wp2
    go_ret
    exact ⟨by rw [HR.out]; rfl, hbl1 _ _⟩
  rw [decide_eq_true h3] at HR
  by_cases h4 : back = -1
  · have e4 : (back == -1) = true := by simpa using h4
    rw [decide_eq_true h4] at HR
    clear h4
    go_enter Try.func29, Try.ntmps29
    go_wp2
    go_ret
    exact ⟨by rw [HR.out]; rfl, hbl1 _ _⟩
  have e4 : (back == -1) = false := by simpa using h4
  rw [decide_eq_false h4] at HR
  by_cases h5 : call < back
  · rw [decide_eq_true h5] at HR
    go_enter Try.func29, Try.ntmps29
    go_wp2
    go_ret
    exact ⟨by rw [HR.out]; rfl, hbl1 _ _⟩
  · rw [decide_eq_false h5] at HR
    go_enter Try.func29, Try.ntmps29
    go_wp2
    go_ret
    exact ⟨by rw [HR.out]; rfl, hbl1 _ _⟩
end Go.Proofs.Ytafdjmccgijmnaa

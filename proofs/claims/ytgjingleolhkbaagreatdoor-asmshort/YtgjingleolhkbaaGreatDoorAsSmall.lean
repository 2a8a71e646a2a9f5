/- The small functions of asmtext. -/
import Derived.Test.YtgjingleolhkbaaGreatDoorProg
import Derived.Test.YtgjingleolhkbaaGreatDoorAsMath
import Derived.WalkKit
import Derived.WalkSpells
import Derived.WalkLawsBesides
import Derived.OwnWalk
import Derived.Deep.LoopGhost
import Derived.Shelf.Abstract
import Derived.Deep.QuietTactic
import Derived.BigQuiet
namespace Go.Proofs.YtgjingleolhkbaaGreatDoor
open Go.RowKit
set_option linter.unusedVariables false
set_option linter.unusedSimpArgs false

theorem ret_b {a b : Bool} (h : a = b) : Ending.returned (.bool a) = .returned (.bool b) := by rw [h]
theorem ret_i {k : IntKind} {a b : Int} (h : a = b) : Ending.returned (.int k a) = .returned (.int k b) := by rw [h]
theorem below_drew' {B : Nat} {x y : World} (h : Below B x y) (m : Nat) : Below B x (y.drewN m) := ⟨h.os, h.tape, h.output, h.size, h.block⟩
theorem bl1 (w : World) (x : Obj) : Below w.heap.size w (w.alloc x) := (Below.refl _ _).alloc (Nat.le_refl _) _
theorem bl2 (w : World) (x y : Obj) : Below w.heap.size w ((w.alloc x).alloc y) := (bl1 w x).alloc (by simp) _

/-! ### Bytes of a string -/
def X.str (l : X.By) : ByteArray := ⟨l.toArray⟩
theorem str_list (l : X.By) : (X.str l).data.toList = l := rfl
theorem str_size (l : X.By) : (X.str l).size = l.length := by simp [X.str, ByteArray.size]
theorem str_eq (s : ByteArray) : X.str s.data.toList = s := by cases s; simp [X.str]
theorem len_list (s : ByteArray) : s.data.toList.length = s.size := by simp
theorem bytes_ext' {a b : ByteArray} (h : a.data.toList = b.data.toList) : a = b := by
  cases a; cases b; simp at h; simp [h]
theorem extract_eq (s : ByteArray) (a b : Nat) : s.extract a b = X.str ((s.data.toList.take b).drop a) := by
  refine bytes_ext' ?_
  rw [str_list]
  rw [ByteArray.data_extract, Array.toList_extract, List.extract_eq_take_drop]
  rw [List.drop_take]
theorem get_list (s : ByteArray) (k : Nat) (h : k < s.size) : s.data.toList[k]? = some s[k] := by
  have h' : k < s.data.toList.length := by simpa using h
  rw [List.getElem?_eq_getElem h']
  rfl
theorem drop_cons (s : ByteArray) (k : Nat) (h : k < s.size) : s.data.toList.drop k = s[k] :: s.data.toList.drop (k + 1) := by
  have h' : k < s.data.toList.length := by simpa using h
  rw [List.drop_eq_getElem_cons h']
  rfl
theorem toList_ne' {a b : ByteArray} (h : ¬ a.data.toList = b.data.toList) : (a.toList == b.toList) = false := by
  rw [ByteArray.toList_eq, ByteArray.toList_eq]
  exact beq_eq_false_iff_ne.2 h
theorem toList_eq' {a b : ByteArray} (h : a.data.toList = b.data.toList) : (a.toList == b.toList) = true := by
  rw [ByteArray.toList_eq, ByteArray.toList_eq]
  exact beq_iff_eq.2 h

set_option maxHeartbeats 4000000 in
theorem isDigit_any (n : Nat) (w : World) :
    Calls Tryz.prog 88 #[.int .u8 n] w fun e w' => e = .returned (.bool (X.dg n)) ∧ w' = w := by
  go_enter Tryz.func88, Tryz.ntmps88
  go_wp2
  all_goals
    go_ret
    exact ⟨ret_b (by rw [Bool.eq_iff_iff]; simp [X.dg]; try omega), rfl⟩

set_option maxHeartbeats 4000000 in
theorem beginsName_any (n : Nat) (w : World) :
    Calls Tryz.prog 87 #[.int .u8 n] w fun e w' => e = .returned (.bool (X.lt n)) ∧ w' = w := by
  go_enter Tryz.func87, Tryz.ntmps87
  go_wp2
  all_goals
    go_ret
    exact ⟨ret_b (by rw [Bool.eq_iff_iff]; simp [X.lt]; try omega), rfl⟩

set_option maxHeartbeats 4000000 in
theorem isRegister_any (n : Int) (w : World) :
    Calls Tryz.prog 91 #[.int .i64 n] w fun e w' => e = .returned (.bool (X.isReg n)) ∧ w' = w := by
  go_enter Tryz.func91, Tryz.ntmps91
  go_wp2
  all_goals
    go_ret
    exact ⟨ret_b (by rw [Bool.eq_iff_iff]; simp [X.isReg]; try omega), rfl⟩

set_option maxHeartbeats 4000000 in
theorem numberMayBe_any (op n : Int) (w : World) :
    Calls Tryz.prog 92 #[.int .i64 op, .int .i64 n] w fun e w' => e = .returned (.bool (X.numOk op n)) ∧ w' = w := by
  by_cases h1 : op = 1
  · subst h1
    go_enter Tryz.func92, Tryz.ntmps92
    go_wp2
    all_goals
      go_ret
      exact ⟨ret_b (by simp [X.numOk]), rfl⟩
  · by_cases h2 : op = 33
    · subst h2
      go_enter Tryz.func92, Tryz.ntmps92
      go_wp2
      all_goals
        go_ret
        exact ⟨ret_b (by rw [Bool.eq_iff_iff]; simp [X.numOk]; try omega), rfl⟩
    · have h1' : (op == 1) = false := by simp [h1]
      have h2' : (op == 33) = false := by simp [h2]
      have HR : Hid (X.numOk op n = (decide (-2147483648 ≤ n) && decide (n ≤ 2147483647))) := by show _ = _; simp [X.numOk, h1, h2]
      go_enter Tryz.func92, Tryz.ntmps92
      go_wp2
      all_goals
        go_ret
        exact ⟨ret_b (by rw [HR.out, Bool.eq_iff_iff]; simp; try omega), rfl⟩

set_option maxHeartbeats 4000000 in
theorem isSpace_any (r : Int) (w : World) :
    Calls Tryz.prog 103 #[.int .i32 r] w fun e w' => e = .returned (.bool (decide (r = 32))) ∧ w' = w := by
  go_enter Tryz.func103, Tryz.ntmps103
  go_wp2
  all_goals
    go_ret
    exact ⟨ret_b (by rw [Bool.eq_iff_iff]; simp), rfl⟩

theorem name_false {s : ByteArray} (h : s.size < 1 ∨ 28 < s.size) : X.name s.data.toList = false := by
  rw [Bool.eq_false_iff]
  intro e
  simp only [X.name, Bool.and_eq_true, decide_eq_true_eq, len_list] at e
  omega
theorem first_eq (s : ByteArray) (h : 0 < s.size) : X.first s.data.toList = s[0].toNat := by
  have := drop_cons s 0 h
  rw [List.drop_zero] at this
  rw [this]; rfl
theorem name_first {s : ByteArray} (h0 : 0 < s.size) (h : X.lt s[0].toNat = false) : X.name s.data.toList = false := by
  rw [Bool.eq_false_iff]
  intro e
  simp only [X.name, Bool.and_eq_true, first_eq s h0, h] at e
  simp at e
theorem name_byte {s : ByteArray} {k : Nat} (h1 : 1 ≤ k) (hk : k < s.size) (h : X.inn s[k].toNat = false) : X.name s.data.toList = false := by
  rw [Bool.eq_false_iff]
  intro e
  simp only [X.name, Bool.and_eq_true, List.all_eq_true] at e
  have := e.2.2.2 s[k] (by
    rw [List.mem_iff_getElem?]
    refine ⟨k - 1, ?_⟩
    rw [List.getElem?_tail, show k - 1 + 1 = k by omega]
    exact get_list s k hk)
  rw [h] at this
  cases this
theorem name_yes {s : ByteArray} (h0 : 1 ≤ s.size) (h1 : s.size ≤ 28) (hf : X.lt s[0].toNat = true) (h : ∀ j (hj : j < s.size), 1 ≤ j → X.inn s[j].toNat = true) : X.name s.data.toList = true := by
  simp only [X.name, Bool.and_eq_true, decide_eq_true_eq, len_list, List.all_eq_true]
  refine ⟨h0, h1, by rw [first_eq s (by omega)]; exact hf, fun c hc => ?_⟩
  obtain ⟨k, hk⟩ := List.mem_iff_getElem?.1 hc
  rw [List.getElem?_tail] at hk
  have hlt : k + 1 < s.size := by have := (List.getElem?_eq_some_iff.1 hk).1; simpa using this
  rw [get_list s (k + 1) hlt] at hk
  cases hk
  exact h (k + 1) hlt (by omega)

set_option maxRecDepth 100000 in
set_option maxHeartbeats 4000000 in
theorem nameMayBe_any (s : ByteArray) (hs : s.size ≤ maxLen) (w : World) :
    Calls Tryz.prog 68 #[.string s] w fun e w' => e = .returned (.bool (X.name s.data.toList)) ∧ w' = w := by
  unfold maxLen at hs
  by_cases h0 : s.size < 1
  · have HR : Hid _ := name_false (.inl h0)
    have h0' : (s.size : Int) < 1 := by omega
    go_enter Tryz.func68, Tryz.ntmps68
    go_wp2
    go_ret
    exact ⟨ret_b HR.out.symm, rfl⟩
  by_cases h1 : 28 < s.size
  · have HR : Hid _ := name_false (.inr h1)
    go_enter Tryz.func68, Tryz.ntmps68
    go_wp2
    go_ret
    exact ⟨ret_b HR.out.symm, rfl⟩
  have h0' : 0 < s.size := by omega
  cases hf : X.lt s[0].toNat
  · have HR : Hid _ := name_first h0' hf
    go_enter Tryz.func68, Tryz.ntmps68
    go_wp2_with (go_at_call 87; refine (beginsName_any s[0].toNat _).mono ?_; rw [hf]; rintro e w' ⟨rfl, rfl⟩)
    go_ret
    exact ⟨ret_b HR.out.symm, rfl⟩
  have HF : Hid _ := hf
  go_enter Tryz.func68, Tryz.ntmps68
  go_wp2_with (go_at_call 87; refine (beginsName_any s[0].toNat _).mono ?_; rw [hf]; rintro e w' ⟨rfl, rfl⟩)
  clear hf
  go_loop [3] (fun i => ∃ (k : Nat), i = .int .i64 k ∧ 1 ≤ k ∧ k ≤ s.size ∧ Hid (∀ j (hj : j < s.size), 1 ≤ j → j < k → X.inn s[j].toNat = true)) (fun i => s.size - (intOf i).toNat)
  case atStart => exact ⟨1, rfl, Nat.le_refl _, by omega, (fun j hj h1 h2 => by omega : ∀ j (hj : j < s.size), 1 ≤ j → j < 1 → X.inn s[j].toNat = true)⟩
  case round =>
    obtain ⟨k, rfl, hk1, hk, HA⟩ := hrel
    by_cases hlt : k < s.size
    · have HNO : Hid (X.inn s[k].toNat = false → X.name s.data.toList = false) := fun h => name_byte hk1 hlt h
      have HYE : Hid (X.inn s[k].toNat = true → ∀ j (hj : j < s.size), 1 ≤ j → j < k + 1 → X.inn s[j].toNat = true) := fun h j hj h1 h2 => by
        by_cases e : j = k
        · subst e; exact h
        · exact HA.out j hj h1 (by omega)
      cases h2 : X.lt s[k].toNat
      · cases h3 : X.dg s[k].toNat
        · by_cases h4 : s[k].toNat = 46
          · have h4' : ((s[k].toNat : Int) != 46) = false := by simp; omega
            have HI : Hid (X.inn s[k].toNat = true) := by show _ = _; simp [X.inn, h4]
            clear h4
            go_wp2_with (first | (go_at_call 87; refine (beginsName_any s[k].toNat _).mono ?_; rw [h2]; rintro e w' ⟨rfl, rfl⟩) | (go_at_call 88; refine (isDigit_any s[k].toNat _).mono ?_; rw [h3]; rintro e w' ⟨rfl, rfl⟩))
            go_round
            case rel => exact ⟨k + 1, by go_num, by omega, by omega, HYE.out HI.out⟩
            case measure => simp [intOf]; omega
          · have h4' : ((s[k].toNat : Int) != 46) = true := by simp; omega
            have HI : Hid (X.inn s[k].toNat = false) := by show _ = _; simp [X.inn, h2, h3, h4]
            clear h4
            go_wp2_with (first | (go_at_call 87; refine (beginsName_any s[k].toNat _).mono ?_; rw [h2]; rintro e w' ⟨rfl, rfl⟩) | (go_at_call 88; refine (isDigit_any s[k].toNat _).mono ?_; rw [h3]; rintro e w' ⟨rfl, rfl⟩))
            go_ret
            exact ⟨ret_b (HNO.out HI.out).symm, rfl⟩
        · have HI : Hid (X.inn s[k].toNat = true) := by show _ = _; simp [X.inn, h3]
          go_wp2_with (first | (go_at_call 87; refine (beginsName_any s[k].toNat _).mono ?_; rw [h2]; rintro e w' ⟨rfl, rfl⟩) | (go_at_call 88; refine (isDigit_any s[k].toNat _).mono ?_; rw [h3]; rintro e w' ⟨rfl, rfl⟩))
          go_round
          case rel => exact ⟨k + 1, by go_num, by omega, by omega, HYE.out HI.out⟩
          case measure => simp [intOf]; omega
      · have HI : Hid (X.inn s[k].toNat = true) := by show _ = _; simp [X.inn, h2]
        go_wp2_with (first | (go_at_call 87; refine (beginsName_any s[k].toNat _).mono ?_; rw [h2]; rintro e w' ⟨rfl, rfl⟩) | (go_at_call 88; refine (isDigit_any s[k].toNat _).mono ?_; rintro e w' ⟨rfl, rfl⟩))
        go_round
        case rel => exact ⟨k + 1, by go_num, by omega, by omega, HYE.out HI.out⟩
        case measure => simp [intOf]; omega
    · go_wp2
      go_ret
      obtain rfl : k = s.size := by omega
      exact ⟨ret_b (name_yes (by omega) (by omega) HF.out (fun j hj h => HA.out j hj h hj)).symm, rfl⟩

end Go.Proofs.YtgjingleolhkbaaGreatDoor

/- The small functions of lex and of the document's. -/
import Derived.Test.YtfnakckiidblkaaDoorProg
import Derived.Test.YtfnakckiidblkaaDoorLexMath
import Derived.WalkKit
import Derived.WalkSpells
import Derived.WalkLawsBesides
import Derived.OwnWalk
import Derived.Deep.LoopGhost
import Derived.Shelf.Abstract
import Derived.Deep.QuietTactic
import Derived.BigQuiet
namespace Go.Proofs.YtfnakckiidblkaaDoor
open Go.RowKit
set_option linter.unusedVariables false

theorem ret_b {a b : Bool} (h : a = b) : Ending.returned (.bool a) = .returned (.bool b) := by rw [h]
theorem ret_i {k : IntKind} {a b : Int} (h : a = b) : Ending.returned (.int k a) = .returned (.int k b) := by rw [h]

set_option maxHeartbeats 4000000 in
theorem isDigit_any (n : Nat) (w : World) :
    Calls Tryd.prog 27 #[.int .u8 n] w fun e w' => e = .returned (.bool (X.dg n)) ∧ w' = w := by
  go_enter Tryd.func27, Tryd.ntmps27
  go_wp2
  all_goals
    go_ret
    exact ⟨ret_b (by rw [Bool.eq_iff_iff]; simp [X.dg]; try omega), rfl⟩

set_option maxHeartbeats 4000000 in
theorem isLetter_any (n : Nat) (w : World) :
    Calls Tryd.prog 17 #[.int .u8 n] w fun e w' => e = .returned (.bool (X.lt n)) ∧ w' = w := by
  go_enter Tryd.func17, Tryd.ntmps17
  go_wp2
  all_goals
    go_ret
    exact ⟨ret_b (by rw [Bool.eq_iff_iff]; simp [X.lt]; try omega), rfl⟩

set_option maxHeartbeats 4000000 in
theorem isInName_any (n : Nat) (w : World) :
    Calls Tryd.prog 19 #[.int .u8 n] w fun e w' => e = .returned (.bool (X.inn n)) ∧ w' = w := by
  cases h : X.lt n
  all_goals
    go_enter Tryd.func19, Tryd.ntmps19
    go_wp2_with (first | (go_at_call 17; refine (isLetter_any n _).mono ?_; rw [h]; rintro e w' ⟨rfl, rfl⟩) | (go_at_call 27; refine (isDigit_any n _).mono ?_; rintro e w' ⟨rfl, rfl⟩))
    go_ret
    exact ⟨ret_b (by simp [X.inn, h]), rfl⟩

set_option maxHeartbeats 4000000 in
theorem rletter_any (n : Nat) (w : World) :
    Calls Tryd.prog 21 #[.int .u8 n] w fun e w' => e = .returned (.bool (X.lt n)) ∧ w' = w := by
  go_enter Tryd.func21, Tryd.ntmps21
  go_wp2
  all_goals
    go_ret
    exact ⟨ret_b (by rw [Bool.eq_iff_iff]; simp [X.lt]; try omega), rfl⟩

set_option maxHeartbeats 4000000 in
theorem rdigit_any (n : Nat) (w : World) :
    Calls Tryd.prog 23 #[.int .u8 n] w fun e w' => e = .returned (.bool (X.dg n)) ∧ w' = w := by
  go_enter Tryd.func23, Tryd.ntmps23
  go_wp2
  all_goals
    go_ret
    exact ⟨ret_b (by rw [Bool.eq_iff_iff]; simp [X.dg]; try omega), rfl⟩

/-! ### Bytes of a string -/
theorem get_list (s : ByteArray) (k : Nat) (h : k < s.size) : s.data.toList[k]? = some s[k] := by
  have h' : k < s.data.toList.length := by simpa using h
  rw [List.getElem?_eq_getElem h']
  rfl
theorem drop_cons (s : ByteArray) (k : Nat) (h : k < s.size) : s.data.toList.drop k = s[k] :: s.data.toList.drop (k + 1) := by
  have h' : k < s.data.toList.length := by simpa using h
  rw [List.drop_eq_getElem_cons h']
  rfl
theorem len_list (s : ByteArray) : s.data.toList.length = s.size := by simp
theorem first_drop (s : ByteArray) (k : Nat) (h : k < s.size) : X.first (s.data.toList.drop k) = s[k].toNat := by rw [drop_cons s k h]; rfl

theorem span_snoc {p : UInt8 → Bool} {l : X.By} {k : Nat} (hk : ∀ j (c : UInt8), j < k → l[j]? = some c → p c = true) {c : UInt8} (hc : l[k]? = some c) (hp : p c = false) : X.span p l = k := by
  induction l generalizing k with
  | nil => simp at hc
  | cons d l ih =>
    cases k with
    | zero => simp at hc; subst hc; simp [X.span, hp]
    | succ k =>
      have h0 := hk 0 d (by omega) rfl
      have := ih (k := k) (fun j c hj hc => hk (j + 1) c (by omega) (by simpa using hc)) (by simpa using hc)
      simp [X.span, h0] at this ⊢
      exact this
theorem span_all {p : UInt8 → Bool} {l : X.By} (hk : ∀ (j : Nat) (c : UInt8), l[j]? = some c → p c = true) : X.span p l = l.length := by
  induction l with
  | nil => rfl
  | cons d l ih =>
    have h0 := hk 0 d rfl
    have := ih (fun j c hc => hk (j + 1) c (by simpa using hc))
    simp [X.span, h0] at this ⊢
    exact this

set_option maxRecDepth 100000 in
set_option maxHeartbeats 4000000 in
theorem span_gen (g : Nat) (q : Nat → Bool) (eg : ∀ args w, (callFunc g args).run Tryd.prog w = .ok (.enter g args) w)
    (hq : ∀ (n : Nat) (w : World), Calls Tryd.prog g #[.int .u8 n] w fun e w' => e = .returned (.bool (q n)) ∧ w' = w) (s : ByteArray) (hs : s.size ≤ maxLen) (w : World) :
    Calls Tryd.prog 18 #[.string s, .func (.func g) #[] #[]] w fun e w' => e = .returned (.int .i64 (X.span (fun c => q c.toNat) s.data.toList)) ∧ w' = w := by
  unfold maxLen at hs
  go_enter Tryd.func18, Tryd.ntmps18
  go_wp2
  go_loop [8] (fun i => ∃ (k : Nat), i = .int .i64 k ∧ k ≤ s.size ∧ Hid (∀ j (c : UInt8), j < k → s.data.toList[j]? = some c → q c.toNat = true)) (fun i => s.size - (intOf i).toNat)
  case atStart => exact ⟨0, rfl, Nat.zero_le _, (fun j c hj => by omega : ∀ j (c : UInt8), j < 0 → s.data.toList[j]? = some c → q c.toNat = true)⟩
  case round =>
    obtain ⟨k, rfl, hk, HA⟩ := hrel
    by_cases hlt : k < s.size
    · have HG : Hid (s.data.toList[k]? = some s[k]) := get_list s k hlt
      cases hc : q s[k].toNat
      · go_wp2_with (first | (go_at_fn g; refine (hq s[k].toNat _).mono ?_; rw [hc]; rintro e w' ⟨rfl, rfl⟩))
        go_ret
        exact ⟨ret_i (by rw [span_snoc HA.out HG.out hc]), rfl⟩
      · go_wp2_with (first | (go_at_fn g; refine (hq s[k].toNat _).mono ?_; rw [hc]; rintro e w' ⟨rfl, rfl⟩))
        go_round
        case rel => 
          refine ⟨k + 1, by go_num, by omega, fun j c hj hg => ?_⟩
          by_cases e : j = k
          · subst e; rw [HG.out] at hg; cases hg; exact hc
          · exact HA.out j c (by omega) hg
        case measure => simp [intOf]; omega
    · go_wp2
      go_ret
      obtain rfl : k = s.size := by omega
      exact ⟨ret_i (by rw [span_all (fun j c hc => HA.out j c (by have := (List.getElem?_eq_some_iff.1 hc).1; simpa using this) hc)]; simp), rfl⟩

theorem spanD_any (s : ByteArray) (hs : s.size ≤ maxLen) (w : World) :
    Calls Tryd.prog 18 #[.string s, .func (.func 27) #[] #[]] w fun e w' => e = .returned (.int .i64 (X.span X.pd s.data.toList)) ∧ w' = w :=
  span_gen _ X.dg (enters_of Tryd.func27 (by kernel_rfl) rfl) isDigit_any s hs w
theorem spanN_any (s : ByteArray) (hs : s.size ≤ maxLen) (w : World) :
    Calls Tryd.prog 18 #[.string s, .func (.func 19) #[] #[]] w fun e w' => e = .returned (.int .i64 (X.span X.pin s.data.toList)) ∧ w' = w :=
  span_gen _ X.inn (enters_of Tryd.func19 (by kernel_rfl) rfl) isInName_any s hs w

end Go.Proofs.YtfnakckiidblkaaDoor

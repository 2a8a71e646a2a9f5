import Derived.Test.YtgjingleolhkbaaGreatDoorTBj
import Derived.Test.YtgjingleolhkbaaGreatDoorTBh
import Derived.Test.YtgjingleolhkbaaGreatDoorTBf
import Derived.Lib.ConvBytes
import Derived.Lib.AppendStr
import Derived.Deep.AppendSrc
import Derived.Laws.IdiomCopy
import Derived.Test.YtgjingleolhkbaaGreatDoorTAd
namespace Go.Proofs.YtgjingleolhkbaaGreatDoor
open Go.RowKit Go.Lib
set_option linter.unusedVariables false
set_option linter.unusedSimpArgs false

set_option maxRecDepth 100000 in
set_option maxHeartbeats 8000000 in
theorem rnumber_p0 (s : ByteArray) (hs : s.size ≤ maxLen) (h1 : ¬ 1 < s.size) (w : World) :
  Calls Tryz.prog 60 #[.string s] w fun e w' => NumD s.data.toList e ∧ w' = w := by
 unfold maxLen at hs
 have h1' : ¬ (1 : Int) < s.size := by omega
 have HLT : Hid (s.data.toList = X.lowOf s.data.toList) := (X.lowOf_pos (fun e => h1 (by have := e.1; rw [len_list] at this; exact this))).symm
 have hself : ¬ (s.size : Int) < s.size := by omega
 by_cases l1 : s.size < 1
 ·have HR : Hid (X.numD s.data.toList = none) := numD_no (fun e => by have := e.1; rw [← HLT.out, len_list] at this; omega)
  have l1' : (s.size : Int) < 1 := by omega
  go_enter Tryz.func60, Tryz.ntmps60
  go_wp2_with fail
  go_ret2
  exact ⟨NumD.no HR.out, rfl⟩
 have l1' : ¬ (s.size : Int) < 1 := by omega
 by_cases l19 : 19 < s.size
 ·have HR : Hid (X.numD s.data.toList = none) := numD_no (fun e => by have := e.2.1; rw [← HLT.out, len_list] at this; omega)
  have l2' : (19 : Int) < s.size := by omega
  go_enter Tryz.func60, Tryz.ntmps60
  go_wp2_with fail
  go_ret2
  exact ⟨NumD.no HR.out, rfl⟩
 have l2' : ¬ (19 : Int) < s.size := by omega
 have l0 : 0 < s.size := by omega
 have z0 : ¬ (s[0].toNat = 48 ∧ 1 < s.size) := fun e => by omega
 have HZ : Hid (s.data.toList.head? ≠ some 48 ∨ s.data.toList.length = 1) := by
  by_cases e : s[0].toNat = 48
  ·exact .inr (by rw [len_list]; omega)
  ·exact .inl (fun e2 => e ((head_ne l0).1 e2))
 have zz : (((s[0].toNat : Int) == 48) = true ∧ ¬ (1 : Int) < s.size) ∨ ((s[0].toNat : Int) == 48) = false := by
  by_cases e : s[0].toNat = 48
  ·exact .inl ⟨by simp [e], by omega⟩
  ·exact .inr (by simp; omega)
 clear z0
 rcases zz with ⟨z1, z2⟩ | z1
 ·skip
  go_enter Tryz.func60, Tryz.ntmps60
  go_wp2_with fail
  go_loopg [5, 6] s.size (fun rr uv iv wq => ∃ (k : Nat) (V : Nat), uv = .int .u64 V ∧ iv = .int .i64 k ∧ k ≤ s.size ∧ s.size - k ≤ rr ∧ Hid (V = X.val (s.data.toList.take k)) ∧ Hid ((s.data.toList.take k).all X.pd = true) ∧ wq = w)
  case atStart => exact ⟨0, 0, rfl, rfl, Nat.zero_le _, by omega, (by show _ = _; simp [X.val]), (by show _ = _; simp), rfl⟩
  case round =>
   obtain ⟨k, V, rfl, rfl, hk, hr, HV, HA, rfl⟩ := hrel
   by_cases hlk : k < s.size
   ·have hii : (k : Int) < s.size := by omega
    have hin : 0 ≤ (k : Int) := by omega
    have hVb : V < 1000000000000000000 := by
     rw [HV.out]
     exact Nat.lt_of_lt_of_le (val_lt k _ (by rw [List.length_take, len_list]; omega) HA.out) (pow_le18 (by omega))
    have HV1 : Hid _ := val_take hlk
    have HA1 : Hid ((s.data.toList.take (k + 1)).all X.pd = ((s.data.toList.take k).all X.pd && X.pd s[k])) := by show _ = _; rw [List.take_add_one, get_list s k hlk, List.all_append]; simp
    have HPD : Hid (X.pd s[k] = X.dg s[k].toNat) := rfl
    cases hdg : X.dg s[k].toNat
    ·have HR : Hid (X.numD s.data.toList = none) := numD_no (fun e => by
      have h9 := e.2.2.2
      rw [← HLT.out, List.all_eq_true] at h9
      have := h9 s[k] (List.mem_of_getElem? (get_list s k hlk))
      rw [HPD.out, hdg] at this
      cases this)
     go_wp2_with (go_at_call 42; refine (rdigit_any s[k].toNat _).mono ?_; rw [hdg]; rintro e y ⟨rfl, rfl⟩)
     go_ret2
     exact ⟨NumD.no HR.out, rfl⟩
    ·have hdd : 48 ≤ s[k].toNat ∧ s[k].toNat ≤ 57 := by simp [X.dg] at hdg; exact hdg
     have d48 : (48 : Int) ≤ s[k].toNat := by omega
     have d57 : (s[k].toNat : Int) ≤ 57 := by omega
     have HA2 : Hid ((s.data.toList.take (k + 1)).all X.pd = true) := by show _ = _; rw [HA1.out, HA.out, HPD.out, hdg]; rfl
     go_wp2_with (go_at_call 42; refine (rdigit_any s[k].toNat _).mono ?_; rw [hdg]; rintro e y ⟨rfl, rfl⟩)
     go_roundg (s.size - (k + 1))
     case measure => omega
     case rel => exact ⟨k + 1, V * 10 + (s[k].toNat - 48), (by congr 1; omega), by go_num, by omega, Nat.le_refl _, (by show _ = _; rw [HV1.out, HV.out]), HA2.out, rfl⟩
   ·obtain rfl : k = s.size := by omega
    have hii : ¬ (s.size : Int) < s.size := by omega
    have hfull : s.data.toList.take s.size = s.data.toList := List.take_of_length_le (by rw [len_list]; exact Nat.le_refl _)
    rw [hfull] at HV HA
    have HC : Hid (Cnd (X.lowOf s.data.toList)) := by
     show Cnd _
     rw [← HLT.out]
     exact ⟨by rw [len_list]; omega, by rw [len_list]; omega, HZ.out, HA.out⟩
    have hVb : V < 10000000000000000000 := by
     rw [HV.out]
     have := val_lt s.size _ (len_list s) HA.out
     have h10 : (10 : Nat) ^ s.size ≤ 10 ^ 19 := Nat.pow_le_pow_right (by decide) (by omega)
     have : (10 : Nat) ^ 19 = 10000000000000000000 := by decide
     omega
    have HN : Hid (X.numD s.data.toList = if V < 9223372036854775808 then some (V : Int) else none) := by
     show _ = _
     rw [numD_yes HC.out, if_neg (by rw [← HLT.out]; omega), ← HLT.out, ← HV.out]
    go_wp2_with fail
    go_ret2
    refine ⟨⟨_, _, rfl, fun e => ?_, fun e => ?_⟩, rfl⟩
    ·have h5 : V < 9223372036854775808 := by simp at e; omega
     rw [← X.numD_eq, HN.out, if_pos h5]
     refine congrArg some ?_
     unfold wrap64
     omega
    ·have h5 : ¬ V < 9223372036854775808 := by simp at e; omega
     rw [← X.numD_eq, HN.out, if_neg h5]
 ·skip
  go_enter Tryz.func60, Tryz.ntmps60
  go_wp2_with fail
  go_loopg [5, 6] s.size (fun rr uv iv wq => ∃ (k : Nat) (V : Nat), uv = .int .u64 V ∧ iv = .int .i64 k ∧ k ≤ s.size ∧ s.size - k ≤ rr ∧ Hid (V = X.val (s.data.toList.take k)) ∧ Hid ((s.data.toList.take k).all X.pd = true) ∧ wq = w)
  case atStart => exact ⟨0, 0, rfl, rfl, Nat.zero_le _, by omega, (by show _ = _; simp [X.val]), (by show _ = _; simp), rfl⟩
  case round =>
   obtain ⟨k, V, rfl, rfl, hk, hr, HV, HA, rfl⟩ := hrel
   by_cases hlk : k < s.size
   ·have hii : (k : Int) < s.size := by omega
    have hin : 0 ≤ (k : Int) := by omega
    have hVb : V < 1000000000000000000 := by
     rw [HV.out]
     exact Nat.lt_of_lt_of_le (val_lt k _ (by rw [List.length_take, len_list]; omega) HA.out) (pow_le18 (by omega))
    have HV1 : Hid _ := val_take hlk
    have HA1 : Hid ((s.data.toList.take (k + 1)).all X.pd = ((s.data.toList.take k).all X.pd && X.pd s[k])) := by show _ = _; rw [List.take_add_one, get_list s k hlk, List.all_append]; simp
    have HPD : Hid (X.pd s[k] = X.dg s[k].toNat) := rfl
    cases hdg : X.dg s[k].toNat
    ·have HR : Hid (X.numD s.data.toList = none) := numD_no (fun e => by
      have h9 := e.2.2.2
      rw [← HLT.out, List.all_eq_true] at h9
      have := h9 s[k] (List.mem_of_getElem? (get_list s k hlk))
      rw [HPD.out, hdg] at this
      cases this)
     go_wp2_with (go_at_call 42; refine (rdigit_any s[k].toNat _).mono ?_; rw [hdg]; rintro e y ⟨rfl, rfl⟩)
     go_ret2
     exact ⟨NumD.no HR.out, rfl⟩
    ·have hdd : 48 ≤ s[k].toNat ∧ s[k].toNat ≤ 57 := by simp [X.dg] at hdg; exact hdg
     have d48 : (48 : Int) ≤ s[k].toNat := by omega
     have d57 : (s[k].toNat : Int) ≤ 57 := by omega
     have HA2 : Hid ((s.data.toList.take (k + 1)).all X.pd = true) := by show _ = _; rw [HA1.out, HA.out, HPD.out, hdg]; rfl
     go_wp2_with (go_at_call 42; refine (rdigit_any s[k].toNat _).mono ?_; rw [hdg]; rintro e y ⟨rfl, rfl⟩)
     go_roundg (s.size - (k + 1))
     case measure => omega
     case rel => exact ⟨k + 1, V * 10 + (s[k].toNat - 48), (by congr 1; omega), by go_num, by omega, Nat.le_refl _, (by show _ = _; rw [HV1.out, HV.out]), HA2.out, rfl⟩
   ·obtain rfl : k = s.size := by omega
    have hii : ¬ (s.size : Int) < s.size := by omega
    have hfull : s.data.toList.take s.size = s.data.toList := List.take_of_length_le (by rw [len_list]; exact Nat.le_refl _)
    rw [hfull] at HV HA
    have HC : Hid (Cnd (X.lowOf s.data.toList)) := by
     show Cnd _
     rw [← HLT.out]
     exact ⟨by rw [len_list]; omega, by rw [len_list]; omega, HZ.out, HA.out⟩
    have hVb : V < 10000000000000000000 := by
     rw [HV.out]
     have := val_lt s.size _ (len_list s) HA.out
     have h10 : (10 : Nat) ^ s.size ≤ 10 ^ 19 := Nat.pow_le_pow_right (by decide) (by omega)
     have : (10 : Nat) ^ 19 = 10000000000000000000 := by decide
     omega
    have HN : Hid (X.numD s.data.toList = if V < 9223372036854775808 then some (V : Int) else none) := by
     show _ = _
     rw [numD_yes HC.out, if_neg (by rw [← HLT.out]; omega), ← HLT.out, ← HV.out]
    go_wp2_with fail
    go_ret2
    refine ⟨⟨_, _, rfl, fun e => ?_, fun e => ?_⟩, rfl⟩
    ·have h5 : V < 9223372036854775808 := by simp at e; omega
     rw [← X.numD_eq, HN.out, if_pos h5]
     refine congrArg some ?_
     unfold wrap64
     omega
    ·have h5 : ¬ V < 9223372036854775808 := by simp at e; omega
     rw [← X.numD_eq, HN.out, if_neg h5]

set_option maxRecDepth 100000 in
set_option maxHeartbeats 8000000 in
theorem rnumber_p1 (s : ByteArray) (hs : s.size ≤ maxLen) (h1 : 1 < s.size) (q0 : s[0].toNat ≠ 45) (w : World) :
  Calls Tryz.prog 60 #[.string s] w fun e w' => NumD s.data.toList e ∧ w' = w := by
 unfold maxLen at hs
 have h1' : (1 : Int) < s.size := by omega
 have h0 : 0 < s.size := by omega
 have c0 : ((s[0].toNat : Int) == 45) = false := by simp; omega
 have HLT : Hid (s.data.toList = X.lowOf s.data.toList) := (X.lowOf_pos (fun e => q0 ((head_ne h0).1 e.2.1))).symm
 have hself : ¬ (s.size : Int) < s.size := by omega
 by_cases l1 : s.size < 1
 ·have HR : Hid (X.numD s.data.toList = none) := numD_no (fun e => by have := e.1; rw [← HLT.out, len_list] at this; omega)
  have l1' : (s.size : Int) < 1 := by omega
  go_enter Tryz.func60, Tryz.ntmps60
  go_wp2_with fail
  go_ret2
  exact ⟨NumD.no HR.out, rfl⟩
 have l1' : ¬ (s.size : Int) < 1 := by omega
 by_cases l19 : 19 < s.size
 ·have HR : Hid (X.numD s.data.toList = none) := numD_no (fun e => by have := e.2.1; rw [← HLT.out, len_list] at this; omega)
  have l2' : (19 : Int) < s.size := by omega
  go_enter Tryz.func60, Tryz.ntmps60
  go_wp2_with fail
  go_ret2
  exact ⟨NumD.no HR.out, rfl⟩
 have l2' : ¬ (19 : Int) < s.size := by omega
 have l0 : 0 < s.size := by omega
 by_cases z0 : s[0].toNat = 48 ∧ 1 < s.size
 ·have HR : Hid (X.numD s.data.toList = none) := numD_no (fun e => by
   rcases e.2.2.1 with h | h
   ·rw [← HLT.out] at h; exact h ((head_ne l0).2 z0.1)
   ·rw [← HLT.out, len_list] at h; omega)
  have z1 : ((s[0].toNat : Int) == 48) = true := by simp [z0.1]
  have z2 : (1 : Int) < s.size := by omega
  clear z0
  go_enter Tryz.func60, Tryz.ntmps60
  go_wp2_with fail
  go_ret2
  exact ⟨NumD.no HR.out, rfl⟩
 have HZ : Hid (s.data.toList.head? ≠ some 48 ∨ s.data.toList.length = 1) := by
  by_cases e : s[0].toNat = 48
  ·exact .inr (by rw [len_list]; omega)
  ·exact .inl (fun e2 => e ((head_ne l0).1 e2))
 have z1 : ((s[0].toNat : Int) == 48) = false := by simp; omega
 clear z0
 ·skip
  go_enter Tryz.func60, Tryz.ntmps60
  go_wp2_with fail
  go_loopg [5, 6] s.size (fun rr uv iv wq => ∃ (k : Nat) (V : Nat), uv = .int .u64 V ∧ iv = .int .i64 k ∧ k ≤ s.size ∧ s.size - k ≤ rr ∧ Hid (V = X.val (s.data.toList.take k)) ∧ Hid ((s.data.toList.take k).all X.pd = true) ∧ wq = w)
  case atStart => exact ⟨0, 0, rfl, rfl, Nat.zero_le _, by omega, (by show _ = _; simp [X.val]), (by show _ = _; simp), rfl⟩
  case round =>
   obtain ⟨k, V, rfl, rfl, hk, hr, HV, HA, rfl⟩ := hrel
   by_cases hlk : k < s.size
   ·have hii : (k : Int) < s.size := by omega
    have hin : 0 ≤ (k : Int) := by omega
    have hVb : V < 1000000000000000000 := by
     rw [HV.out]
     exact Nat.lt_of_lt_of_le (val_lt k _ (by rw [List.length_take, len_list]; omega) HA.out) (pow_le18 (by omega))
    have HV1 : Hid _ := val_take hlk
    have HA1 : Hid ((s.data.toList.take (k + 1)).all X.pd = ((s.data.toList.take k).all X.pd && X.pd s[k])) := by show _ = _; rw [List.take_add_one, get_list s k hlk, List.all_append]; simp
    have HPD : Hid (X.pd s[k] = X.dg s[k].toNat) := rfl
    cases hdg : X.dg s[k].toNat
    ·have HR : Hid (X.numD s.data.toList = none) := numD_no (fun e => by
      have h9 := e.2.2.2
      rw [← HLT.out, List.all_eq_true] at h9
      have := h9 s[k] (List.mem_of_getElem? (get_list s k hlk))
      rw [HPD.out, hdg] at this
      cases this)
     go_wp2_with (go_at_call 42; refine (rdigit_any s[k].toNat _).mono ?_; rw [hdg]; rintro e y ⟨rfl, rfl⟩)
     go_ret2
     exact ⟨NumD.no HR.out, rfl⟩
    ·have hdd : 48 ≤ s[k].toNat ∧ s[k].toNat ≤ 57 := by simp [X.dg] at hdg; exact hdg
     have d48 : (48 : Int) ≤ s[k].toNat := by omega
     have d57 : (s[k].toNat : Int) ≤ 57 := by omega
     have HA2 : Hid ((s.data.toList.take (k + 1)).all X.pd = true) := by show _ = _; rw [HA1.out, HA.out, HPD.out, hdg]; rfl
     go_wp2_with (go_at_call 42; refine (rdigit_any s[k].toNat _).mono ?_; rw [hdg]; rintro e y ⟨rfl, rfl⟩)
     go_roundg (s.size - (k + 1))
     case measure => omega
     case rel => exact ⟨k + 1, V * 10 + (s[k].toNat - 48), (by congr 1; omega), by go_num, by omega, Nat.le_refl _, (by show _ = _; rw [HV1.out, HV.out]), HA2.out, rfl⟩
   ·obtain rfl : k = s.size := by omega
    have hii : ¬ (s.size : Int) < s.size := by omega
    have hfull : s.data.toList.take s.size = s.data.toList := List.take_of_length_le (by rw [len_list]; exact Nat.le_refl _)
    rw [hfull] at HV HA
    have HC : Hid (Cnd (X.lowOf s.data.toList)) := by
     show Cnd _
     rw [← HLT.out]
     exact ⟨by rw [len_list]; omega, by rw [len_list]; omega, HZ.out, HA.out⟩
    have hVb : V < 10000000000000000000 := by
     rw [HV.out]
     have := val_lt s.size _ (len_list s) HA.out
     have h10 : (10 : Nat) ^ s.size ≤ 10 ^ 19 := Nat.pow_le_pow_right (by decide) (by omega)
     have : (10 : Nat) ^ 19 = 10000000000000000000 := by decide
     omega
    have HN : Hid (X.numD s.data.toList = if V < 9223372036854775808 then some (V : Int) else none) := by
     show _ = _
     rw [numD_yes HC.out, if_neg (by rw [← HLT.out]; omega), ← HLT.out, ← HV.out]
    go_wp2_with fail
    go_ret2
    refine ⟨⟨_, _, rfl, fun e => ?_, fun e => ?_⟩, rfl⟩
    ·have h5 : V < 9223372036854775808 := by simp at e; omega
     rw [← X.numD_eq, HN.out, if_pos h5]
     refine congrArg some ?_
     unfold wrap64
     omega
    ·have h5 : ¬ V < 9223372036854775808 := by simp at e; omega
     rw [← X.numD_eq, HN.out, if_neg h5]

set_option maxRecDepth 100000 in
set_option maxHeartbeats 8000000 in
theorem rnumber_p2 (s : ByteArray) (hs : s.size ≤ maxLen) (h1 : 1 < s.size) (q0 : s[0].toNat = 45) (q1 : s[1].toNat = 48) (w : World) :
  Calls Tryz.prog 60 #[.string s] w fun e w' => NumD s.data.toList e ∧ w' = w := by
 unfold maxLen at hs
 have h1' : (1 : Int) < s.size := by omega
 have h0 : 0 < s.size := by omega
 have c0 : ((s[0].toNat : Int) == 45) = true := by simp [q0]
 have c1 : ((s[1].toNat : Int) != 48) = false := by simp [q1]
 have HLT : Hid (s.data.toList = X.lowOf s.data.toList) := (X.lowOf_pos (fun e => e.2.2 (by rw [get_list s 1 h1]; congr 1; exact UInt8.toNat_inj.1 (by rw [q1]; rfl)))).symm
 have hself : ¬ (s.size : Int) < s.size := by omega
 by_cases l1 : s.size < 1
 ·have HR : Hid (X.numD s.data.toList = none) := numD_no (fun e => by have := e.1; rw [← HLT.out, len_list] at this; omega)
  have l1' : (s.size : Int) < 1 := by omega
  go_enter Tryz.func60, Tryz.ntmps60
  go_wp2_with fail
  go_ret2
  exact ⟨NumD.no HR.out, rfl⟩
 have l1' : ¬ (s.size : Int) < 1 := by omega
 by_cases l19 : 19 < s.size
 ·have HR : Hid (X.numD s.data.toList = none) := numD_no (fun e => by have := e.2.1; rw [← HLT.out, len_list] at this; omega)
  have l2' : (19 : Int) < s.size := by omega
  go_enter Tryz.func60, Tryz.ntmps60
  go_wp2_with fail
  go_ret2
  exact ⟨NumD.no HR.out, rfl⟩
 have l2' : ¬ (19 : Int) < s.size := by omega
 have l0 : 0 < s.size := by omega
 have z0 : ¬ (s[0].toNat = 48 ∧ 1 < s.size) := fun e => by omega
 have HZ : Hid (s.data.toList.head? ≠ some 48 ∨ s.data.toList.length = 1) := by
  by_cases e : s[0].toNat = 48
  ·exact .inr (by rw [len_list]; omega)
  ·exact .inl (fun e2 => e ((head_ne l0).1 e2))
 have z1 : ((s[0].toNat : Int) == 48) = false := by simp; omega
 clear z0
 ·skip
  go_enter Tryz.func60, Tryz.ntmps60
  go_wp2_with fail
  go_loopg [5, 6] s.size (fun rr uv iv wq => ∃ (k : Nat) (V : Nat), uv = .int .u64 V ∧ iv = .int .i64 k ∧ k ≤ s.size ∧ s.size - k ≤ rr ∧ Hid (V = X.val (s.data.toList.take k)) ∧ Hid ((s.data.toList.take k).all X.pd = true) ∧ wq = w)
  case atStart => exact ⟨0, 0, rfl, rfl, Nat.zero_le _, by omega, (by show _ = _; simp [X.val]), (by show _ = _; simp), rfl⟩
  case round =>
   obtain ⟨k, V, rfl, rfl, hk, hr, HV, HA, rfl⟩ := hrel
   by_cases hlk : k < s.size
   ·have hii : (k : Int) < s.size := by omega
    have hin : 0 ≤ (k : Int) := by omega
    have hVb : V < 1000000000000000000 := by
     rw [HV.out]
     exact Nat.lt_of_lt_of_le (val_lt k _ (by rw [List.length_take, len_list]; omega) HA.out) (pow_le18 (by omega))
    have HV1 : Hid _ := val_take hlk
    have HA1 : Hid ((s.data.toList.take (k + 1)).all X.pd = ((s.data.toList.take k).all X.pd && X.pd s[k])) := by show _ = _; rw [List.take_add_one, get_list s k hlk, List.all_append]; simp
    have HPD : Hid (X.pd s[k] = X.dg s[k].toNat) := rfl
    cases hdg : X.dg s[k].toNat
    ·have HR : Hid (X.numD s.data.toList = none) := numD_no (fun e => by
      have h9 := e.2.2.2
      rw [← HLT.out, List.all_eq_true] at h9
      have := h9 s[k] (List.mem_of_getElem? (get_list s k hlk))
      rw [HPD.out, hdg] at this
      cases this)
     go_wp2_with (go_at_call 42; refine (rdigit_any s[k].toNat _).mono ?_; rw [hdg]; rintro e y ⟨rfl, rfl⟩)
     go_ret2
     exact ⟨NumD.no HR.out, rfl⟩
    ·have hdd : 48 ≤ s[k].toNat ∧ s[k].toNat ≤ 57 := by simp [X.dg] at hdg; exact hdg
     have d48 : (48 : Int) ≤ s[k].toNat := by omega
     have d57 : (s[k].toNat : Int) ≤ 57 := by omega
     have HA2 : Hid ((s.data.toList.take (k + 1)).all X.pd = true) := by show _ = _; rw [HA1.out, HA.out, HPD.out, hdg]; rfl
     go_wp2_with (go_at_call 42; refine (rdigit_any s[k].toNat _).mono ?_; rw [hdg]; rintro e y ⟨rfl, rfl⟩)
     go_roundg (s.size - (k + 1))
     case measure => omega
     case rel => exact ⟨k + 1, V * 10 + (s[k].toNat - 48), (by congr 1; omega), by go_num, by omega, Nat.le_refl _, (by show _ = _; rw [HV1.out, HV.out]), HA2.out, rfl⟩
   ·obtain rfl : k = s.size := by omega
    have hii : ¬ (s.size : Int) < s.size := by omega
    have hfull : s.data.toList.take s.size = s.data.toList := List.take_of_length_le (by rw [len_list]; exact Nat.le_refl _)
    rw [hfull] at HV HA
    have HC : Hid (Cnd (X.lowOf s.data.toList)) := by
     show Cnd _
     rw [← HLT.out]
     exact ⟨by rw [len_list]; omega, by rw [len_list]; omega, HZ.out, HA.out⟩
    have hVb : V < 10000000000000000000 := by
     rw [HV.out]
     have := val_lt s.size _ (len_list s) HA.out
     have h10 : (10 : Nat) ^ s.size ≤ 10 ^ 19 := Nat.pow_le_pow_right (by decide) (by omega)
     have : (10 : Nat) ^ 19 = 10000000000000000000 := by decide
     omega
    have HN : Hid (X.numD s.data.toList = if V < 9223372036854775808 then some (V : Int) else none) := by
     show _ = _
     rw [numD_yes HC.out, if_neg (by rw [← HLT.out]; omega), ← HLT.out, ← HV.out]
    go_wp2_with fail
    go_ret2
    refine ⟨⟨_, _, rfl, fun e => ?_, fun e => ?_⟩, rfl⟩
    ·have h5 : V < 9223372036854775808 := by simp at e; omega
     rw [← X.numD_eq, HN.out, if_pos h5]
     refine congrArg some ?_
     unfold wrap64
     omega
    ·have h5 : ¬ V < 9223372036854775808 := by simp at e; omega
     rw [← X.numD_eq, HN.out, if_neg h5]

theorem rnumber_any (s : ByteArray) (hs : s.size ≤ maxLen) (w : World) :
  Calls Tryz.prog 60 #[.string s] w fun e w' => NumD s.data.toList e ∧ w' = w := by
 by_cases h1 : 1 < s.size
 ·by_cases q0 : s[0].toNat = 45
  ·by_cases q1 : s[1].toNat = 48
   ·exact rnumber_p2 s hs h1 q0 q1 w
   ·exact rnumber_neg s hs h1 q0 q1 w
  ·exact rnumber_p1 s hs h1 q0 w
 ·exact rnumber_p0 s hs h1 w

end Go.Proofs.YtgjingleolhkbaaGreatDoor

namespace Go.Proofs.YtgjingleolhkbaaGreatDoor
open Go.RowKit Go.Maps Go.Lib
set_option linter.unusedVariables false
set_option linter.unusedSimpArgs false

def WI (A : X.By) (out : List X.By) (fr k : Nat) : Prop := fr ≤ k ∧ X.fields A = out ++ X.fieldsGo ((A.take k).drop fr) (A.drop k)
theorem WI.start (A : X.By) : WI A [] 0 0 := ⟨Nat.le_refl _, by simp [X.fields]⟩
theorem drop_get {A : X.By} {k : Nat} {c : UInt8} (h : A[k]? = some c) : A.drop k = c :: A.drop (k + 1) := by
 obtain ⟨h1, h2⟩ := List.getElem?_eq_some_iff.1 h
 rw [List.drop_eq_getElem_cons h1, h2]
theorem take_get {A : X.By} {k fr : Nat} {c : UInt8} (h : A[k]? = some c) (hf : fr ≤ k) : (A.take (k + 1)).drop fr = (A.take k).drop fr ++ [c] := by
 have h1 := (List.getElem?_eq_some_iff.1 h).1
 rw [List.take_add_one, h]
 simp only [Option.toList_some]
 rw [List.drop_append_of_le_length (by rw [List.length_take]; omega)]
theorem WI.step {A : X.By} {out : List X.By} {fr k : Nat} {c : UInt8} (h : WI A out fr k) (hc : A[k]? = some c) (h32 : c ≠ 32) : WI A out fr (k + 1) := by
 refine ⟨by have := h.1; omega, ?_⟩
 rw [h.2, drop_get hc, X.fieldsGo_step h32, take_get hc h.1]
theorem cur_nil {A : X.By} {fr k : Nat} (hk : k ≤ A.length) : (A.take k).drop fr = [] ↔ ¬ fr < k := by
 rw [List.drop_eq_nil_iff, List.length_take]
 omega
theorem WI.space {A : X.By} {out : List X.By} {fr k : Nat} (h : WI A out fr k) (hc : A[k]? = some 32) : WI A (out ++ (if fr < k then [(A.take k).drop fr] else [])) (k + 1) (k + 1) := by
 refine ⟨Nat.le_refl _, ?_⟩
 have hk := (List.getElem?_eq_some_iff.1 hc).1
 have e : (A.take (k + 1)).drop (k + 1) = [] := (cur_nil (by omega)).2 (by omega)
 rw [h.2, drop_get hc, X.fieldsGo_sp, e, List.append_assoc]
 congr 2
 by_cases hf : fr < k
 ·rw [if_neg (fun e2 => (cur_nil (by omega)).1 e2 hf), if_pos hf]
 ·rw [if_pos ((cur_nil (by omega)).2 hf), if_neg hf]
theorem WI.fin {A : X.By} {out : List X.By} {fr : Nat} (h : WI A out fr A.length) : X.fields A = out ++ (if fr < A.length then [(A.take A.length).drop fr] else []) := by
 rw [h.2, List.drop_length, X.fieldsGo_end]
 congr 1
 by_cases hf : fr < A.length
 ·rw [if_neg (fun e2 => (cur_nil (Nat.le_refl _)).1 e2 hf), if_pos hf]
 ·rw [if_pos ((cur_nil (Nat.le_refl _)).2 hf), if_neg hf]
theorem ahead_split (l : X.By) : (X.ahead l = l) ∨ ∃ r, l = X.ahead l ++ 35 :: r := by
 induction l with
 | nil => exact .inl rfl
 | cons c l ih =>
  have e : X.ahead (c :: l) = if c = 35 then [] else c :: X.ahead l := by
   unfold X.ahead
   rw [List.takeWhile_cons]
   by_cases h : c = 35 <;> simp [h]
  rw [e]
  by_cases h : c = 35
  ·rw [if_pos h]; exact .inr ⟨l, by rw [h]; rfl⟩
  ·rw [if_neg h]
   rcases ih with ih | ⟨r, hr⟩
   ·exact .inl (by rw [ih])
   ·exact .inr ⟨r, by rw [List.cons_append, ← hr]⟩
theorem ahead_no (l : X.By) : ∀ c ∈ X.ahead l, c ≠ 35 := by
 induction l with
 | nil => intro c hc; simp [X.ahead] at hc
 | cons x l ih =>
  intro c hc
  unfold X.ahead at hc
  rw [List.takeWhile_cons] at hc
  by_cases h : x = 35
  ·simp [h] at hc
  ·simp only [h, decide_false, Bool.not_false, if_true, List.mem_cons] at hc
   rcases hc with rfl | hc
   ·exact h
   ·exact ih c hc
theorem sC_snoc (out : List X.By) (x : X.By) : sC (out ++ [x]) = sC out ++ [.string (X.str x)] := by unfold sC; simp
theorem own_end {w : World} {B : Nat} {v : Value} {n : Nat} {l : List X.By} (h : w.ownsRow B 9 1 v n (sC l)) : ∃ a c, v = .slice a l.length c := by
 obtain ⟨a, c, rfl⟩ := own_slice h
 have := h.1
 unfold sC at this
 rw [List.length_map, Nat.mul_one] at this
 exact ⟨a, c, by rw [this]⟩

def WOut (w : World) (ws : List X.By) (e : Ending) (w' : World) : Prop := ∃ a c, e = .returned (.slice a ws.length c) ∧ w'.ownsRow w.heap.size 9 1 (.slice a ws.length c) ws.length (sC ws) ∧ Below w.heap.size w w'
set_option maxRecDepth 100000 in
set_option maxHeartbeats 8000000 in
theorem rwords_any (s : ByteArray) (hs : s.size ≤ 200000) (w : World) :
  Calls Tryz.prog 36 #[.string s] w (WOut w (X.wordsOf s.data.toList)) := by
 obtain ⟨A, hA⟩ : ∃ A, X.ahead s.data.toList = A := ⟨_, rfl⟩
 have HSP : Hid _ := ahead_split s.data.toList
 have HNO : Hid _ := ahead_no s.data.toList
 have HR : Hid (X.wordsOf s.data.toList = X.fields A) := by show _ = _; rw [← hA]; rfl
 rw [hA] at HSP HNO
 have hAl : A.length ≤ s.size := by
  rw [← len_list]
  rcases HSP.out with e | ⟨r, e⟩
  ·rw [← e]; exact Nat.le_refl _
  ·rw [e, List.length_append]; omega
 have HGET : Hid (∀ k (hk : k < s.size), k < A.length → A[k]? = some s[k]) := fun k hk hk2 => by
  have := get_list s k hk
  rcases HSP.out with e | ⟨r, e⟩
  ·rw [← e] at this; exact this
  ·rw [e, List.getElem?_append_left hk2] at this; exact this
 have HTAKE : Hid (∀ k, k ≤ A.length → s.data.toList.take k = A.take k) := fun k hk => by
  rcases HSP.out with e | ⟨r, e⟩
  ·rw [← e]
  ·rw [e, List.take_append_of_le_length hk]
 have HEND : Hid (A.length < s.size → ∀ h : A.length < s.size, s[A.length].toNat = 35) := fun h1 h => by
  rcases HSP.out with e | ⟨r, e⟩
  ·have := congrArg List.length e; rw [len_list] at this; omega
  ·have h2 := get_list s A.length h
   rw [e, List.getElem?_append_right (Nat.le_refl _), Nat.sub_self] at h2
   have := Option.some.inj h2
   rw [← this]; rfl
 obtain ⟨is, his, hs0, hs1, hs2⟩ := info_parts infoS
 clear hA
 go_enter Tryz.func36, Tryz.ntmps36
 go_wp2_with fail
 go_loopg [0, 3, 4, 5] (A.length + 2) (fun rr sv lv fv iv wq => ∃ (k fr : Nat) (ss : ByteArray) (out : List X.By), sv = .string ss ∧ fv = .int .i64 fr ∧ iv = .int .i64 k ∧ A.length + 2 - k ≤ rr ∧ out.length ≤ k ∧ Hid ((k ≤ A.length ∧ ss = s ∧ WI A out fr k) ∨ (k = A.length + 1 ∧ ss.size = A.length ∧ out = X.fields A)) ∧ Hid (wq.ownsRow w.heap.size 9 1 lv out.length (sC out)) ∧ Hid (Below w.heap.size w wq))
 case atStart => exact ⟨0, 0, s, [], rfl, rfl, rfl, by omega, by simp, .inl ⟨Nat.zero_le _, rfl, WI.start A⟩, World.ownsRow_nil _ _ _ _, Below.refl _ _⟩
 case round =>
  obtain ⟨k, fr, ss, out, rfl, rfl, rfl, hr, hol, HI, HO, HB⟩ := hrel
  rcases HI.out with ⟨hkA, rfl, hWI⟩ | ⟨hkA, hsz, hout⟩
  rotate_left
  ·have hii : ¬ (k : Int) ≤ ss.size := by omega
   have HR2 : Hid (X.wordsOf s.data.toList = out) := by show _ = _; rw [HR.out, hout]
   obtain ⟨ao, co, rfl⟩ := own_end HO.out
   clear hout HI
   go_wp2_with fail
   go_ret
   unfold WOut
   rw [HR2.out]
   exact ⟨_, _, rfl, HO.out, HB.out⟩
  have HWI : Hid (WI A out fr k) := hWI
  have hfk : fr ≤ k := hWI.1
  clear hWI HI
  have hii : (k : Int) ≤ ss.size := by omega
  have hin : 0 ≤ (k : Int) := by omega
  have hfn : 0 ≤ (fr : Int) := by omega
  have hfki : (fr : Int) ≤ k := by omega
  by_cases hlt : k < A.length
  ·-- a byte of the words
   have hks : k < ss.size := by omega
   have hks' : (k : Int) < ss.size := by omega
   have hg := HGET.out k hks hlt
   have h35 : ((ss[k].toNat : Int) == 35) = false := by
    have := HNO.out ss[k] (List.mem_of_getElem? hg)
    have : ss[k].toNat ≠ 35 := fun e => this (UInt8.toNat_inj.1 (by rw [e]; rfl))
    simp; omega
   by_cases h32 : ss[k].toNat = 32
   rotate_left
   ·have h32' : ((ss[k].toNat : Int) != 32) = true := by simp; omega
    have HN : Hid (WI A out fr (k + 1)) := HWI.out.step hg (fun e => h32 (by rw [e]; rfl))
    clear h32 hg
    go_wp2_with fail
    go_roundg (A.length + 2 - (k + 1))
    case measure => omega
    case rel => exact ⟨k + 1, fr, ss, out, rfl, rfl, by go_num, Nat.le_refl _, by omega, .inl ⟨by omega, rfl, HN.out⟩, HO.out, HB.out⟩
   have h32' : ((ss[k].toNat : Int) != 32) = false := by simp [h32]
   have HSPC : Hid _ := HWI.out.space (by rw [hg]; congr 1; exact UInt8.toNat_inj.1 (by rw [h32]; rfl))
   clear h32 hg
   by_cases hf : fr < k
   rotate_left
   ·have hf' : ¬ (fr : Int) < k := by omega
    rw [if_neg hf, List.append_nil] at HSPC
    go_wp2_with fail
    go_roundg (A.length + 2 - (k + 1))
    case measure => omega
    case rel => exact ⟨k + 1, k + 1, ss, out, rfl, by go_num, by go_num, Nat.le_refl _, by omega, .inl ⟨by omega, rfl, HSPC.out⟩, HO.out, HB.out⟩
   have hf' : (fr : Int) < k := by omega
   rw [if_pos hf] at HSPC
   obtain ⟨D, hD⟩ : ∃ D, ss.extract fr k = D := ⟨_, rfl⟩
   have HD : Hid (D = X.str ((A.take k).drop fr)) := by show _ = _; rw [← hD, extract_eq, HTAKE.out k (by omega)]
   have HB2 : Hid (Below wr.heap.size wr (wr.alloc (.cells #[.string D] 9))) := bl1 _ _
   have HO2 : Hid ((wr.alloc (.cells #[.string D] 9)).ownsRow w.heap.size 9 1 u3 out.length (sC out)) := own_thru HO.out HB2.out
   have HNC : Hid (∀ j u, ([.string D] : List Value)[j]? = some u → (wr.alloc (.cells #[.string D] 9)).cell? ((⟨wr.heap.size, 0, none⟩ : Addr).add j) = some u) := fun j u hu => by rw [Addr.add_lit, Nat.zero_add]; exact row_cell (by simpa using hu)
   have HSZ : Hid (w.heap.size ≤ (wr.alloc (.cells #[.string D] 9)).heap.size) := by show _ ≤ _; have := HB.out.size; simp; omega
   go_wp2_with (first | (at_builtin; refine wpList_append_lies _ rfl _ _ 74 rfl w.heap.size 9 is _ 1 16 Tryz.underlying74 his hs0 hs1 hs2 rfl (by decide) u3 out.length _ rfl HO2.out ⟨wr.heap.size, 0, none⟩ 1 1 [.string D] rfl rfl HNC.out (by intro u hu; simp at hu; subst hu; rfl) (by decide) (by unfold maxLen; omega) (by omega) HSZ.out (wr.heap.size + 1) (by simp) ?_; intro x1 cp Y6 ho6 hg6 hat6 hlt6; have HO6 : Hid _ := ho6; have HG6 : Hid _ := hg6; clear ho6 hg6 hat6 hlt6) | go_in)
   go_roundg (A.length + 2 - (k + 1))
   case measure => omega
   case rel =>
    refine ⟨k + 1, k + 1, ss, out ++ [(A.take k).drop fr], rfl, by go_num, by go_num, Nat.le_refl _, by simp; omega, .inl ⟨by omega, rfl, HSPC.out⟩, ?_, below_own (HB.out.trans (HB2.out.mono HB.out.size)) HO2.out HG6.out HSZ.out⟩
    show World.ownsRow _ _ _ _ _ _ _
    rw [sC_snoc, ← HD.out, List.length_append]
    exact HO6.out
  ·obtain rfl : k = A.length := by omega
   have HFIN : Hid _ := HWI.out.fin
   -- the end: the text is cut where a note stands
   have key : ∀ (s2 : ByteArray), s2.size = A.length → s2.extract fr A.length = X.str ((A.take A.length).drop fr) → True := fun _ _ _ => trivial
   by_cases hks : A.length < ss.size
   ·have hks' : (A.length : Int) < ss.size := by omega
    have h35 : ((ss[A.length].toNat : Int) == 35) = true := by simp [HEND.out hks hks]
    obtain ⟨s2, hs2e⟩ : ∃ s2, ss.extract 0 A.length = s2 := ⟨_, rfl⟩
    have hz2 : s2.size = A.length := by rw [← hs2e, ByteArray.size_extract]; omega
    have HT2 : Hid (s2.data.toList = A) := by
     show _ = _
     rw [← hs2e, extract_eq, str_list, HTAKE.out _ (Nat.le_refl _), List.take_length, List.drop_zero]
    have hii2 : ¬ (A.length : Int) < A.length := by omega
    by_cases hf : fr < A.length
    rotate_left
    ·have hf' : ¬ (fr : Int) < A.length := by omega
     rw [if_neg hf, List.append_nil] at HFIN
     go_wp2_with fail
     go_roundg (A.length + 2 - (A.length + 1))
     case measure => omega
     case rel => exact ⟨A.length + 1, A.length + 1, s2, out, rfl, by go_num, by go_num, Nat.le_refl _, by omega, .inr ⟨rfl, hz2, HFIN.out.symm⟩, HO.out, HB.out⟩
    have hf' : (fr : Int) < A.length := by omega
    rw [if_pos hf] at HFIN
    obtain ⟨D, hD⟩ : ∃ D, s2.extract fr A.length = D := ⟨_, rfl⟩
    have HD : Hid (D = X.str ((A.take A.length).drop fr)) := by show _ = _; rw [← hD, extract_eq, HT2.out]
    have HB2 : Hid (Below wr.heap.size wr (wr.alloc (.cells #[.string D] 9))) := bl1 _ _
    have HO2 : Hid ((wr.alloc (.cells #[.string D] 9)).ownsRow w.heap.size 9 1 u3 out.length (sC out)) := own_thru HO.out HB2.out
    have HNC : Hid (∀ j u, ([.string D] : List Value)[j]? = some u → (wr.alloc (.cells #[.string D] 9)).cell? ((⟨wr.heap.size, 0, none⟩ : Addr).add j) = some u) := fun j u hu => by rw [Addr.add_lit, Nat.zero_add]; exact row_cell (by simpa using hu)
    have HSZ : Hid (w.heap.size ≤ (wr.alloc (.cells #[.string D] 9)).heap.size) := by show _ ≤ _; have := HB.out.size; simp; omega
    go_wp2_with (first | (at_builtin; refine wpList_append_lies _ rfl _ _ 74 rfl w.heap.size 9 is _ 1 16 Tryz.underlying74 his hs0 hs1 hs2 rfl (by decide) u3 out.length _ rfl HO2.out ⟨wr.heap.size, 0, none⟩ 1 1 [.string D] rfl rfl HNC.out (by intro u hu; simp at hu; subst hu; rfl) (by decide) (by unfold maxLen; omega) (by omega) HSZ.out (wr.heap.size + 1) (by simp) ?_; intro x1 cp Y6 ho6 hg6 hat6 hlt6; have HO6 : Hid _ := ho6; have HG6 : Hid _ := hg6; clear ho6 hg6 hat6 hlt6) | go_in)
    go_roundg (A.length + 2 - (A.length + 1))
    case measure => omega
    case rel =>
     refine ⟨A.length + 1, A.length + 1, s2, out ++ [(A.take A.length).drop fr], rfl, by go_num, by go_num, Nat.le_refl _, by simp; omega, .inr ⟨rfl, hz2, HFIN.out.symm⟩, ?_, below_own (HB.out.trans (HB2.out.mono HB.out.size)) HO2.out HG6.out HSZ.out⟩
     show World.ownsRow _ _ _ _ _ _ _
     rw [sC_snoc, ← HD.out, List.length_append]
     exact HO6.out
   ·have hks' : ¬ (A.length : Int) < ss.size := by omega
    have hz2 : ss.size = A.length := by omega
    by_cases hf : fr < A.length
    rotate_left
    ·have hf' : ¬ (fr : Int) < A.length := by omega
     rw [if_neg hf, List.append_nil] at HFIN
     go_wp2_with fail
     go_roundg (A.length + 2 - (A.length + 1))
     case measure => omega
     case rel => exact ⟨A.length + 1, A.length + 1, ss, out, rfl, by go_num, by go_num, Nat.le_refl _, by omega, .inr ⟨rfl, hz2, HFIN.out.symm⟩, HO.out, HB.out⟩
    have hf' : (fr : Int) < A.length := by omega
    rw [if_pos hf] at HFIN
    obtain ⟨D, hD⟩ : ∃ D, ss.extract fr A.length = D := ⟨_, rfl⟩
    have HD : Hid (D = X.str ((A.take A.length).drop fr)) := by show _ = _; rw [← hD, extract_eq, HTAKE.out _ (Nat.le_refl _)]
    have HZ2 : Hid _ := hz2
    clear hz2
    have HB2 : Hid (Below wr.heap.size wr (wr.alloc (.cells #[.string D] 9))) := bl1 _ _
    have HO2 : Hid ((wr.alloc (.cells #[.string D] 9)).ownsRow w.heap.size 9 1 u3 out.length (sC out)) := own_thru HO.out HB2.out
    have HNC : Hid (∀ j u, ([.string D] : List Value)[j]? = some u → (wr.alloc (.cells #[.string D] 9)).cell? ((⟨wr.heap.size, 0, none⟩ : Addr).add j) = some u) := fun j u hu => by rw [Addr.add_lit, Nat.zero_add]; exact row_cell (by simpa using hu)
    have HSZ : Hid (w.heap.size ≤ (wr.alloc (.cells #[.string D] 9)).heap.size) := by show _ ≤ _; have := HB.out.size; simp; omega
    go_wp2_with (first | (at_builtin; refine wpList_append_lies _ rfl _ _ 74 rfl w.heap.size 9 is _ 1 16 Tryz.underlying74 his hs0 hs1 hs2 rfl (by decide) u3 out.length _ rfl HO2.out ⟨wr.heap.size, 0, none⟩ 1 1 [.string D] rfl rfl HNC.out (by intro u hu; simp at hu; subst hu; rfl) (by decide) (by unfold maxLen; omega) (by omega) HSZ.out (wr.heap.size + 1) (by simp) ?_; intro x1 cp Y6 ho6 hg6 hat6 hlt6; have HO6 : Hid _ := ho6; have HG6 : Hid _ := hg6; clear ho6 hg6 hat6 hlt6) | go_in)
    go_roundg (A.length + 2 - (A.length + 1))
    case measure => omega
    case rel =>
     refine ⟨A.length + 1, A.length + 1, ss, out ++ [(A.take A.length).drop fr], rfl, by go_num, by go_num, Nat.le_refl _, by simp; omega, .inr ⟨rfl, HZ2.out, HFIN.out.symm⟩, ?_, below_own (HB.out.trans (HB2.out.mono HB.out.size)) HO2.out HG6.out HSZ.out⟩
     show World.ownsRow _ _ _ _ _ _ _
     rw [sC_snoc, ← HD.out, List.length_append]
     exact HO6.out

end Go.Proofs.YtgjingleolhkbaaGreatDoor

namespace Go.Proofs.YtgjingleolhkbaaGreatDoor
open Go.RowKit Go.Maps Go.Lib
set_option linter.unusedVariables false
set_option linter.unusedSimpArgs false

structure Gr (w w' : World) (v v' : Value) : Prop where
 grown : w.grownBy w' v.ownBlock
 lies : ∀ g, v'.ownBlock = some g → v.ownBlock = some g ∨ w.heap.size ≤ g
structure RB (w : World) (B : Nat) (v : Value) (l : X.By) : Prop where
 ex : (v = .slice none 0 0 ∧ l = []) ∨ ∃ g cap, v = .slice (some ⟨g, 0, none⟩) l.length cap ∧ B ≤ g ∧ g < w.heap.size ∧ l.length ≤ cap ∧ cap ≤ maxLen ∧ (∀ j, j < cap → (w.cell? ⟨g, j, none⟩).isSome = true) ∧ (∀ j, j < cap → w.frozen? ⟨g, j, none⟩ = false) ∧ ∀ j u, (l.map byW)[j]? = some u → w.cell? ⟨g, j, none⟩ = some u
theorem RB.nil (w : World) (B : Nat) : RB w B (.slice none 0 0) [] := ⟨.inl ⟨rfl, rfl⟩⟩
theorem RB.lt {w : World} {B : Nat} {v : Value} {l : X.By} (h : RB w B v l) : ∀ g, v.ownBlock = some g → B ≤ g ∧ g < w.heap.size := by
 rcases h.ex with ⟨rfl, rfl⟩ | ⟨g, cap, rfl, h1, h2, -⟩
 ·intro g e; simp [Value.ownBlock] at e
 ·intro g' e
  simp [Value.ownBlock] at e
  subst e
  exact ⟨h1, h2⟩
theorem RB.below {w x : World} {B : Nat} {v : Value} {l : X.By} (h : RB w B v l) (hb : Below w.heap.size w x) : RB x B v l := by
 rcases h.ex with ⟨rfl, rfl⟩ | ⟨g, cap, rfl, h1, h2, h3, h4, h5, h6, h7⟩
 ·exact ⟨.inl ⟨rfl, rfl⟩⟩
 ·have hc : ∀ j, x.cell? ⟨g, j, none⟩ = w.cell? ⟨g, j, none⟩ := fun j => hb.cell (p := ⟨g, j, none⟩) h2
  exact ⟨.inr ⟨g, cap, rfl, h1, Nat.lt_of_lt_of_le h2 hb.size, h3, h4, fun j hj => by rw [hc]; exact h5 j hj, fun j hj => (hb.frozen (p := ⟨g, j, none⟩) h2).trans (h6 j hj), fun j u hu => (hc j).trans (h7 j u hu)⟩⟩
theorem RB.slice {w : World} {B : Nat} {v : Value} {l : X.By} (h : RB w B v l) : ∃ a c, v = .slice a l.length c := by
 rcases h.ex with ⟨rfl, rfl⟩ | ⟨g, cap, rfl, -⟩
 ·exact ⟨_, _, rfl⟩
 ·exact ⟨_, _, rfl⟩
theorem cell_lastW {w : World} {A : Array Value} {t g j : Nat} (hg : g = w.heap.size) {v : Value} (hv : A[j]? = some v) : (w.alloc (.cells A t)).cell? ⟨g, j, none⟩ = some v := by
 subst hg
 simp [hv]

end Go.Proofs.YtgjingleolhkbaaGreatDoor

namespace Go.Proofs.YtgjingleolhkbaaGreatDoor
open Go.RowKit Go.Lib
set_option linter.unusedVariables false
set_option linter.unusedSimpArgs false

end Go.Proofs.YtgjingleolhkbaaGreatDoor

namespace Go.Proofs.YtgjingleolhkbaaGreatDoor
open Go.RowKit Go.Lib
set_option linter.unusedVariables false
set_option linter.unusedSimpArgs false

theorem opsR_get {op : Int} (h0 : 0 ≤ op) (h1 : op < 34) {k : Nat} (hk : k < (X.str (X.opsR op)).size) : ∃ c, (X.row op.toNat).2[k]? = some c ∧ (X.str (X.opsR op))[k] = (if c = 64 then 83 else c) := by
 have hl := get_list (X.str (X.opsR op)) k hk
 rw [str_list] at hl
 generalize (X.str (X.opsR op))[k] = g at hl ⊢
 unfold X.opsR at hl
 rw [if_pos ⟨h0, h1⟩, List.getElem?_map] at hl
 cases hc : (X.row op.toNat).2[k]? with
 | none => rw [hc] at hl; cases hl
 | some c => rw [hc] at hl; exact ⟨c, rfl, (Option.some.inj hl).symm⟩
theorem row_sign : ∀ op : Fin 34, ∀ c ∈ (X.row op.val).2, c = 65 ∨ c = 66 ∨ c = 78 ∨ c = 64 := by decide

end Go.Proofs.YtgjingleolhkbaaGreatDoor

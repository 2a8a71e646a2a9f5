/- The document's numbers: all others. (Written by gen_refh.py.) -/
import Derived.Test.YtbkjiipelmfbjaaGreatDoorAsRefH
namespace Go.Proofs.YtbkjiipelmfbjaaGreatDoor
open Go.RowKit Go.Lib
set_option linter.unusedVariables false
set_option linter.unusedSimpArgs false

set_option maxRecDepth 100000 in
set_option maxHeartbeats 8000000 in
theorem rnumber_p0 (s : ByteArray) (hs : s.size ≤ maxLen) (h1 : ¬ 1 < s.size) (w : World) :
    Calls Tryz.prog 23 #[.string s] w fun e w' => NumD s.data.toList e ∧ w' = w := by
  unfold maxLen at hs
  have h1' : ¬ (1 : Int) < s.size := by omega
  have HLT : Hid (s.data.toList = X.lowOf s.data.toList) := (X.lowOf_pos (fun e => h1 (by have := e.1; rw [len_list] at this; exact this))).symm
  have hself : ¬ (s.size : Int) < s.size := by omega
  by_cases l1 : s.size < 1
  · have HR : Hid (X.numD s.data.toList = none) := numD_no (fun e => by have := e.1; rw [← HLT.out, len_list] at this; omega)
    have l1' : (s.size : Int) < 1 := by omega
    go_enter Tryz.func23, Tryz.ntmps23
    go_wp2_with fail
    go_ret2
    exact ⟨NumD.no HR.out, rfl⟩
  have l1' : ¬ (s.size : Int) < 1 := by omega
  by_cases l19 : 19 < s.size
  · have HR : Hid (X.numD s.data.toList = none) := numD_no (fun e => by have := e.2.1; rw [← HLT.out, len_list] at this; omega)
    have l2' : (19 : Int) < s.size := by omega
    go_enter Tryz.func23, Tryz.ntmps23
    go_wp2_with fail
    go_ret2
    exact ⟨NumD.no HR.out, rfl⟩
  have l2' : ¬ (19 : Int) < s.size := by omega
  have l0 : 0 < s.size := by omega
  have z0 : ¬ (s[0].toNat = 48 ∧ 1 < s.size) := fun e => by omega
  have HZ : Hid (s.data.toList.head? ≠ some 48 ∨ s.data.toList.length = 1) := by
    by_cases e : s[0].toNat = 48
    · exact .inr (by rw [len_list]; omega)
    · exact .inl (fun e2 => e ((head_ne l0).1 e2))
  have zz : (((s[0].toNat : Int) == 48) = true ∧ ¬ (1 : Int) < s.size) ∨ ((s[0].toNat : Int) == 48) = false := by
    by_cases e : s[0].toNat = 48
    · exact .inl ⟨by simp [e], by omega⟩
    · exact .inr (by simp; omega)
  clear z0
  rcases zz with ⟨z1, z2⟩ | z1
  · skip
    go_enter Tryz.func23, Tryz.ntmps23
    go_wp2_with fail
    go_loopg [5, 6] s.size (fun rr uv iv wq => ∃ (k : Nat) (V : Nat), uv = .int .u64 V ∧ iv = .int .i64 k ∧ k ≤ s.size ∧ s.size - k ≤ rr ∧ Hid (V = X.val (s.data.toList.take k)) ∧ Hid ((s.data.toList.take k).all X.pd = true) ∧ wq = w)
    case atStart => exact ⟨0, 0, rfl, rfl, Nat.zero_le _, by omega, (by show _ = _; simp [X.val]), (by show _ = _; simp), rfl⟩
    case round =>
      obtain ⟨k, V, rfl, rfl, hk, hr, HV, HA, rfl⟩ := hrel
      by_cases hlk : k < s.size
      · have hii : (k : Int) < s.size := by omega
        have hin : 0 ≤ (k : Int) := by omega
        have hVb : V < 1000000000000000000 := by
          rw [HV.out]
          exact Nat.lt_of_lt_of_le (val_lt k _ (by rw [List.length_take, len_list]; omega) HA.out) (pow_le18 (by omega))
        have HV1 : Hid _ := val_take hlk
        have HA1 : Hid ((s.data.toList.take (k + 1)).all X.pd = ((s.data.toList.take k).all X.pd && X.pd s[k])) := by show _ = _; rw [List.take_add_one, get_list s k hlk, List.all_append]; simp
        have HPD : Hid (X.pd s[k] = X.dg s[k].toNat) := rfl
        cases hdg : X.dg s[k].toNat
        · have HR : Hid (X.numD s.data.toList = none) := numD_no (fun e => by
            have h9 := e.2.2.2
            rw [← HLT.out, List.all_eq_true] at h9
            have := h9 s[k] (List.mem_of_getElem? (get_list s k hlk))
            rw [HPD.out, hdg] at this
            cases this)
          go_wp2_with (go_at_call 38; refine (rdigit_any s[k].toNat _).mono ?_; rw [hdg]; rintro e y ⟨rfl, rfl⟩)
          go_ret2
          exact ⟨NumD.no HR.out, rfl⟩
        · have hdd : 48 ≤ s[k].toNat ∧ s[k].toNat ≤ 57 := by simp [X.dg] at hdg; exact hdg
          have d48 : (48 : Int) ≤ s[k].toNat := by omega
          have d57 : (s[k].toNat : Int) ≤ 57 := by omega
          have HA2 : Hid ((s.data.toList.take (k + 1)).all X.pd = true) := by show _ = _; rw [HA1.out, HA.out, HPD.out, hdg]; rfl
          go_wp2_with (go_at_call 38; refine (rdigit_any s[k].toNat _).mono ?_; rw [hdg]; rintro e y ⟨rfl, rfl⟩)
          go_roundg (s.size - (k + 1))
          case measure => omega
          case rel => exact ⟨k + 1, V * 10 + (s[k].toNat - 48), (by congr 1; omega), by go_num, by omega, Nat.le_refl _, (by show _ = _; rw [HV1.out, HV.out]), HA2.out, rfl⟩
      · obtain rfl : k = s.size := by omega
        have hii : ¬ (s.size : Int) < s.size := by omega
        have hfull : s.data.toList.take s.size = s.data.toList := List.take_of_length_le (by rw [len_list]; exact Nat.le_refl _)
        rw [hfull] at HV HA
        have HC : Hid (Cnd (X.lowOf s.data.toList)) := by
          show Cnd _
          rw [← HLT.out]
          exact ⟨by rw [len_list]; omega, by rw [len_list]; omega, HZ.out, HA.out⟩
        have hVb : V < 10000000000000000000 := by
          rw [HV.out]
          have := val_lt s.size _ (len_list s) HA.out
          have h10 : (10 : Nat) ^ s.size ≤ 10 ^ 19 := Nat.pow_le_pow_right (by decide) (by omega)
          have : (10 : Nat) ^ 19 = 10000000000000000000 := by decide
          omega
        have HN : Hid (X.numD s.data.toList = if V < 9223372036854775808 then some (V : Int) else none) := by
          show _ = _
          rw [numD_yes HC.out, if_neg (by rw [← HLT.out]; omega), ← HLT.out, ← HV.out]
        go_wp2_with fail
        go_ret2
        refine ⟨⟨_, _, rfl, fun e => ?_, fun e => ?_⟩, rfl⟩
        · have h5 : V < 9223372036854775808 := by simp at e; omega
          rw [← X.numD_eq, HN.out, if_pos h5]
          refine congrArg some ?_
          unfold wrap64
          omega
        · have h5 : ¬ V < 9223372036854775808 := by simp at e; omega
          rw [← X.numD_eq, HN.out, if_neg h5]
  · skip
    go_enter Tryz.func23, Tryz.ntmps23
    go_wp2_with fail
    go_loopg [5, 6] s.size (fun rr uv iv wq => ∃ (k : Nat) (V : Nat), uv = .int .u64 V ∧ iv = .int .i64 k ∧ k ≤ s.size ∧ s.size - k ≤ rr ∧ Hid (V = X.val (s.data.toList.take k)) ∧ Hid ((s.data.toList.take k).all X.pd = true) ∧ wq = w)
    case atStart => exact ⟨0, 0, rfl, rfl, Nat.zero_le _, by omega, (by show _ = _; simp [X.val]), (by show _ = _; simp), rfl⟩
    case round =>
      obtain ⟨k, V, rfl, rfl, hk, hr, HV, HA, rfl⟩ := hrel
      by_cases hlk : k < s.size
      · have hii : (k : Int) < s.size := by omega
        have hin : 0 ≤ (k : Int) := by omega
        have hVb : V < 1000000000000000000 := by
          rw [HV.out]
          exact Nat.lt_of_lt_of_le (val_lt k _ (by rw [List.length_take, len_list]; omega) HA.out) (pow_le18 (by omega))
        have HV1 : Hid _ := val_take hlk
        have HA1 : Hid ((s.data.toList.take (k + 1)).all X.pd = ((s.data.toList.take k).all X.pd && X.pd s[k])) := by show _ = _; rw [List.take_add_one, get_list s k hlk, List.all_append]; simp
        have HPD : Hid (X.pd s[k] = X.dg s[k].toNat) := rfl
        cases hdg : X.dg s[k].toNat
        · have HR : Hid (X.numD s.data.toList = none) := numD_no (fun e => by
            have h9 := e.2.2.2
            rw [← HLT.out, List.all_eq_true] at h9
            have := h9 s[k] (List.mem_of_getElem? (get_list s k hlk))
            rw [HPD.out, hdg] at this
            cases this)
          go_wp2_with (go_at_call 38; refine (rdigit_any s[k].toNat _).mono ?_; rw [hdg]; rintro e y ⟨rfl, rfl⟩)
          go_ret2
          exact ⟨NumD.no HR.out, rfl⟩
        · have hdd : 48 ≤ s[k].toNat ∧ s[k].toNat ≤ 57 := by simp [X.dg] at hdg; exact hdg
          have d48 : (48 : Int) ≤ s[k].toNat := by omega
          have d57 : (s[k].toNat : Int) ≤ 57 := by omega
          have HA2 : Hid ((s.data.toList.take (k + 1)).all X.pd = true) := by show _ = _; rw [HA1.out, HA.out, HPD.out, hdg]; rfl
          go_wp2_with (go_at_call 38; refine (rdigit_any s[k].toNat _).mono ?_; rw [hdg]; rintro e y ⟨rfl, rfl⟩)
          go_roundg (s.size - (k + 1))
          case measure => omega
          case rel => exact ⟨k + 1, V * 10 + (s[k].toNat - 48), (by congr 1; omega), by go_num, by omega, Nat.le_refl _, (by show _ = _; rw [HV1.out, HV.out]), HA2.out, rfl⟩
      · obtain rfl : k = s.size := by omega
        have hii : ¬ (s.size : Int) < s.size := by omega
        have hfull : s.data.toList.take s.size = s.data.toList := List.take_of_length_le (by rw [len_list]; exact Nat.le_refl _)
        rw [hfull] at HV HA
        have HC : Hid (Cnd (X.lowOf s.data.toList)) := by
          show Cnd _
          rw [← HLT.out]
          exact ⟨by rw [len_list]; omega, by rw [len_list]; omega, HZ.out, HA.out⟩
        have hVb : V < 10000000000000000000 := by
          rw [HV.out]
          have := val_lt s.size _ (len_list s) HA.out
          have h10 : (10 : Nat) ^ s.size ≤ 10 ^ 19 := Nat.pow_le_pow_right (by decide) (by omega)
          have : (10 : Nat) ^ 19 = 10000000000000000000 := by decide
          omega
        have HN : Hid (X.numD s.data.toList = if V < 9223372036854775808 then some (V : Int) else none) := by
          show _ = _
          rw [numD_yes HC.out, if_neg (by rw [← HLT.out]; omega), ← HLT.out, ← HV.out]
        go_wp2_with fail
        go_ret2
        refine ⟨⟨_, _, rfl, fun e => ?_, fun e => ?_⟩, rfl⟩
        · have h5 : V < 9223372036854775808 := by simp at e; omega
          rw [← X.numD_eq, HN.out, if_pos h5]
          refine congrArg some ?_
          unfold wrap64
          omega
        · have h5 : ¬ V < 9223372036854775808 := by simp at e; omega
          rw [← X.numD_eq, HN.out, if_neg h5]

set_option maxRecDepth 100000 in
set_option maxHeartbeats 8000000 in
theorem rnumber_p1 (s : ByteArray) (hs : s.size ≤ maxLen) (h1 : 1 < s.size) (q0 : s[0].toNat ≠ 45) (w : World) :
    Calls Tryz.prog 23 #[.string s] w fun e w' => NumD s.data.toList e ∧ w' = w := by
  unfold maxLen at hs
  have h1' : (1 : Int) < s.size := by omega
  have h0 : 0 < s.size := by omega
  have c0 : ((s[0].toNat : Int) == 45) = false := by simp; omega
  have HLT : Hid (s.data.toList = X.lowOf s.data.toList) := (X.lowOf_pos (fun e => q0 ((head_ne h0).1 e.2.1))).symm
  have hself : ¬ (s.size : Int) < s.size := by omega
  by_cases l1 : s.size < 1
  · have HR : Hid (X.numD s.data.toList = none) := numD_no (fun e => by have := e.1; rw [← HLT.out, len_list] at this; omega)
    have l1' : (s.size : Int) < 1 := by omega
    go_enter Tryz.func23, Tryz.ntmps23
    go_wp2_with fail
    go_ret2
    exact ⟨NumD.no HR.out, rfl⟩
  have l1' : ¬ (s.size : Int) < 1 := by omega
  by_cases l19 : 19 < s.size
  · have HR : Hid (X.numD s.data.toList = none) := numD_no (fun e => by have := e.2.1; rw [← HLT.out, len_list] at this; omega)
    have l2' : (19 : Int) < s.size := by omega
    go_enter Tryz.func23, Tryz.ntmps23
    go_wp2_with fail
    go_ret2
    exact ⟨NumD.no HR.out, rfl⟩
  have l2' : ¬ (19 : Int) < s.size := by omega
  have l0 : 0 < s.size := by omega
  by_cases z0 : s[0].toNat = 48 ∧ 1 < s.size
  · have HR : Hid (X.numD s.data.toList = none) := numD_no (fun e => by
      rcases e.2.2.1 with h | h
      · rw [← HLT.out] at h; exact h ((head_ne l0).2 z0.1)
      · rw [← HLT.out, len_list] at h; omega)
    have z1 : ((s[0].toNat : Int) == 48) = true := by simp [z0.1]
    have z2 : (1 : Int) < s.size := by omega
    clear z0
    go_enter Tryz.func23, Tryz.ntmps23
    go_wp2_with fail
    go_ret2
    exact ⟨NumD.no HR.out, rfl⟩
  have HZ : Hid (s.data.toList.head? ≠ some 48 ∨ s.data.toList.length = 1) := by
    by_cases e : s[0].toNat = 48
    · exact .inr (by rw [len_list]; omega)
    · exact .inl (fun e2 => e ((head_ne l0).1 e2))
  have z1 : ((s[0].toNat : Int) == 48) = false := by simp; omega
  clear z0
  · skip
    go_enter Tryz.func23, Tryz.ntmps23
    go_wp2_with fail
    go_loopg [5, 6] s.size (fun rr uv iv wq => ∃ (k : Nat) (V : Nat), uv = .int .u64 V ∧ iv = .int .i64 k ∧ k ≤ s.size ∧ s.size - k ≤ rr ∧ Hid (V = X.val (s.data.toList.take k)) ∧ Hid ((s.data.toList.take k).all X.pd = true) ∧ wq = w)
    case atStart => exact ⟨0, 0, rfl, rfl, Nat.zero_le _, by omega, (by show _ = _; simp [X.val]), (by show _ = _; simp), rfl⟩
    case round =>
      obtain ⟨k, V, rfl, rfl, hk, hr, HV, HA, rfl⟩ := hrel
      by_cases hlk : k < s.size
      · have hii : (k : Int) < s.size := by omega
        have hin : 0 ≤ (k : Int) := by omega
        have hVb : V < 1000000000000000000 := by
          rw [HV.out]
          exact Nat.lt_of_lt_of_le (val_lt k _ (by rw [List.length_take, len_list]; omega) HA.out) (pow_le18 (by omega))
        have HV1 : Hid _ := val_take hlk
        have HA1 : Hid ((s.data.toList.take (k + 1)).all X.pd = ((s.data.toList.take k).all X.pd && X.pd s[k])) := by show _ = _; rw [List.take_add_one, get_list s k hlk, List.all_append]; simp
        have HPD : Hid (X.pd s[k] = X.dg s[k].toNat) := rfl
        cases hdg : X.dg s[k].toNat
        · have HR : Hid (X.numD s.data.toList = none) := numD_no (fun e => by
            have h9 := e.2.2.2
            rw [← HLT.out, List.all_eq_true] at h9
            have := h9 s[k] (List.mem_of_getElem? (get_list s k hlk))
            rw [HPD.out, hdg] at this
            cases this)
          go_wp2_with (go_at_call 38; refine (rdigit_any s[k].toNat _).mono ?_; rw [hdg]; rintro e y ⟨rfl, rfl⟩)
          go_ret2
          exact ⟨NumD.no HR.out, rfl⟩
        · have hdd : 48 ≤ s[k].toNat ∧ s[k].toNat ≤ 57 := by simp [X.dg] at hdg; exact hdg
          have d48 : (48 : Int) ≤ s[k].toNat := by omega
          have d57 : (s[k].toNat : Int) ≤ 57 := by omega
          have HA2 : Hid ((s.data.toList.take (k + 1)).all X.pd = true) := by show _ = _; rw [HA1.out, HA.out, HPD.out, hdg]; rfl
          go_wp2_with (go_at_call 38; refine (rdigit_any s[k].toNat _).mono ?_; rw [hdg]; rintro e y ⟨rfl, rfl⟩)
          go_roundg (s.size - (k + 1))
          case measure => omega
          case rel => exact ⟨k + 1, V * 10 + (s[k].toNat - 48), (by congr 1; omega), by go_num, by omega, Nat.le_refl _, (by show _ = _; rw [HV1.out, HV.out]), HA2.out, rfl⟩
      · obtain rfl : k = s.size := by omega
        have hii : ¬ (s.size : Int) < s.size := by omega
        have hfull : s.data.toList.take s.size = s.data.toList := List.take_of_length_le (by rw [len_list]; exact Nat.le_refl _)
        rw [hfull] at HV HA
        have HC : Hid (Cnd (X.lowOf s.data.toList)) := by
          show Cnd _
          rw [← HLT.out]
          exact ⟨by rw [len_list]; omega, by rw [len_list]; omega, HZ.out, HA.out⟩
        have hVb : V < 10000000000000000000 := by
          rw [HV.out]
          have := val_lt s.size _ (len_list s) HA.out
          have h10 : (10 : Nat) ^ s.size ≤ 10 ^ 19 := Nat.pow_le_pow_right (by decide) (by omega)
          have : (10 : Nat) ^ 19 = 10000000000000000000 := by decide
          omega
        have HN : Hid (X.numD s.data.toList = if V < 9223372036854775808 then some (V : Int) else none) := by
          show _ = _
          rw [numD_yes HC.out, if_neg (by rw [← HLT.out]; omega), ← HLT.out, ← HV.out]
        go_wp2_with fail
        go_ret2
        refine ⟨⟨_, _, rfl, fun e => ?_, fun e => ?_⟩, rfl⟩
        · have h5 : V < 9223372036854775808 := by simp at e; omega
          rw [← X.numD_eq, HN.out, if_pos h5]
          refine congrArg some ?_
          unfold wrap64
          omega
        · have h5 : ¬ V < 9223372036854775808 := by simp at e; omega
          rw [← X.numD_eq, HN.out, if_neg h5]

set_option maxRecDepth 100000 in
set_option maxHeartbeats 8000000 in
theorem rnumber_p2 (s : ByteArray) (hs : s.size ≤ maxLen) (h1 : 1 < s.size) (q0 : s[0].toNat = 45) (q1 : s[1].toNat = 48) (w : World) :
    Calls Tryz.prog 23 #[.string s] w fun e w' => NumD s.data.toList e ∧ w' = w := by
  unfold maxLen at hs
  have h1' : (1 : Int) < s.size := by omega
  have h0 : 0 < s.size := by omega
  have c0 : ((s[0].toNat : Int) == 45) = true := by simp [q0]
  have c1 : ((s[1].toNat : Int) != 48) = false := by simp [q1]
  have HLT : Hid (s.data.toList = X.lowOf s.data.toList) := (X.lowOf_pos (fun e => e.2.2 (by rw [get_list s 1 h1]; congr 1; exact UInt8.toNat_inj.1 (by rw [q1]; rfl)))).symm
  have hself : ¬ (s.size : Int) < s.size := by omega
  by_cases l1 : s.size < 1
  · have HR : Hid (X.numD s.data.toList = none) := numD_no (fun e => by have := e.1; rw [← HLT.out, len_list] at this; omega)
    have l1' : (s.size : Int) < 1 := by omega
    go_enter Tryz.func23, Tryz.ntmps23
    go_wp2_with fail
    go_ret2
    exact ⟨NumD.no HR.out, rfl⟩
  have l1' : ¬ (s.size : Int) < 1 := by omega
  by_cases l19 : 19 < s.size
  · have HR : Hid (X.numD s.data.toList = none) := numD_no (fun e => by have := e.2.1; rw [← HLT.out, len_list] at this; omega)
    have l2' : (19 : Int) < s.size := by omega
    go_enter Tryz.func23, Tryz.ntmps23
    go_wp2_with fail
    go_ret2
    exact ⟨NumD.no HR.out, rfl⟩
  have l2' : ¬ (19 : Int) < s.size := by omega
  have l0 : 0 < s.size := by omega
  have z0 : ¬ (s[0].toNat = 48 ∧ 1 < s.size) := fun e => by omega
  have HZ : Hid (s.data.toList.head? ≠ some 48 ∨ s.data.toList.length = 1) := by
    by_cases e : s[0].toNat = 48
    · exact .inr (by rw [len_list]; omega)
    · exact .inl (fun e2 => e ((head_ne l0).1 e2))
  have z1 : ((s[0].toNat : Int) == 48) = false := by simp; omega
  clear z0
  · skip
    go_enter Tryz.func23, Tryz.ntmps23
    go_wp2_with fail
    go_loopg [5, 6] s.size (fun rr uv iv wq => ∃ (k : Nat) (V : Nat), uv = .int .u64 V ∧ iv = .int .i64 k ∧ k ≤ s.size ∧ s.size - k ≤ rr ∧ Hid (V = X.val (s.data.toList.take k)) ∧ Hid ((s.data.toList.take k).all X.pd = true) ∧ wq = w)
    case atStart => exact ⟨0, 0, rfl, rfl, Nat.zero_le _, by omega, (by show _ = _; simp [X.val]), (by show _ = _; simp), rfl⟩
    case round =>
      obtain ⟨k, V, rfl, rfl, hk, hr, HV, HA, rfl⟩ := hrel
      by_cases hlk : k < s.size
      · have hii : (k : Int) < s.size := by omega
        have hin : 0 ≤ (k : Int) := by omega
        have hVb : V < 1000000000000000000 := by
          rw [HV.out]
          exact Nat.lt_of_lt_of_le (val_lt k _ (by rw [List.length_take, len_list]; omega) HA.out) (pow_le18 (by omega))
        have HV1 : Hid _ := val_take hlk
        have HA1 : Hid ((s.data.toList.take (k + 1)).all X.pd = ((s.data.toList.take k).all X.pd && X.pd s[k])) := by show _ = _; rw [List.take_add_one, get_list s k hlk, List.all_append]; simp
        have HPD : Hid (X.pd s[k] = X.dg s[k].toNat) := rfl
        cases hdg : X.dg s[k].toNat
        · have HR : Hid (X.numD s.data.toList = none) := numD_no (fun e => by
            have h9 := e.2.2.2
            rw [← HLT.out, List.all_eq_true] at h9
            have := h9 s[k] (List.mem_of_getElem? (get_list s k hlk))
            rw [HPD.out, hdg] at this
            cases this)
          go_wp2_with (go_at_call 38; refine (rdigit_any s[k].toNat _).mono ?_; rw [hdg]; rintro e y ⟨rfl, rfl⟩)
          go_ret2
          exact ⟨NumD.no HR.out, rfl⟩
        · have hdd : 48 ≤ s[k].toNat ∧ s[k].toNat ≤ 57 := by simp [X.dg] at hdg; exact hdg
          have d48 : (48 : Int) ≤ s[k].toNat := by omega
          have d57 : (s[k].toNat : Int) ≤ 57 := by omega
          have HA2 : Hid ((s.data.toList.take (k + 1)).all X.pd = true) := by show _ = _; rw [HA1.out, HA.out, HPD.out, hdg]; rfl
          go_wp2_with (go_at_call 38; refine (rdigit_any s[k].toNat _).mono ?_; rw [hdg]; rintro e y ⟨rfl, rfl⟩)
          go_roundg (s.size - (k + 1))
          case measure => omega
          case rel => exact ⟨k + 1, V * 10 + (s[k].toNat - 48), (by congr 1; omega), by go_num, by omega, Nat.le_refl _, (by show _ = _; rw [HV1.out, HV.out]), HA2.out, rfl⟩
      · obtain rfl : k = s.size := by omega
        have hii : ¬ (s.size : Int) < s.size := by omega
        have hfull : s.data.toList.take s.size = s.data.toList := List.take_of_length_le (by rw [len_list]; exact Nat.le_refl _)
        rw [hfull] at HV HA
        have HC : Hid (Cnd (X.lowOf s.data.toList)) := by
          show Cnd _
          rw [← HLT.out]
          exact ⟨by rw [len_list]; omega, by rw [len_list]; omega, HZ.out, HA.out⟩
        have hVb : V < 10000000000000000000 := by
          rw [HV.out]
          have := val_lt s.size _ (len_list s) HA.out
          have h10 : (10 : Nat) ^ s.size ≤ 10 ^ 19 := Nat.pow_le_pow_right (by decide) (by omega)
          have : (10 : Nat) ^ 19 = 10000000000000000000 := by decide
          omega
        have HN : Hid (X.numD s.data.toList = if V < 9223372036854775808 then some (V : Int) else none) := by
          show _ = _
          rw [numD_yes HC.out, if_neg (by rw [← HLT.out]; omega), ← HLT.out, ← HV.out]
        go_wp2_with fail
        go_ret2
        refine ⟨⟨_, _, rfl, fun e => ?_, fun e => ?_⟩, rfl⟩
        · have h5 : V < 9223372036854775808 := by simp at e; omega
          rw [← X.numD_eq, HN.out, if_pos h5]
          refine congrArg some ?_
          unfold wrap64
          omega
        · have h5 : ¬ V < 9223372036854775808 := by simp at e; omega
          rw [← X.numD_eq, HN.out, if_neg h5]

theorem rnumber_any (s : ByteArray) (hs : s.size ≤ maxLen) (w : World) :
    Calls Tryz.prog 23 #[.string s] w fun e w' => NumD s.data.toList e ∧ w' = w := by
  by_cases h1 : 1 < s.size
  · by_cases q0 : s[0].toNat = 45
    · by_cases q1 : s[1].toNat = 48
      · exact rnumber_p2 s hs h1 q0 q1 w
      · exact rnumber_neg s hs h1 q0 q1 w
    · exact rnumber_p1 s hs h1 q0 w
  · exact rnumber_p0 s hs h1 w

end Go.Proofs.YtbkjiipelmfbjaaGreatDoor

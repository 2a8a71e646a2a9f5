/- The document's registers and numbers. (Written by gen_refh.py.) -/
import Derived.Test.YtbkjiipelmfbjaaGreatDoorAsRefB
import Derived.Test.YtbkjiipelmfbjaaGreatDoorAsRefM
namespace Go.Proofs.YtbkjiipelmfbjaaGreatDoor
open Go.RowKit Go.Lib
set_option linter.unusedVariables false
set_option linter.unusedSimpArgs false

def RegD (r : Option Int) (e : Ending) : Prop := match r with | none => e = .returned (.tuple #[.int .i64 0, .bool false]) | some x => e = .returned (.tuple #[.int .i64 x, .bool true])
theorem regD_no {s : ByteArray} (h : s.size ≠ 2) : X.regD s.data.toList = none := by
  unfold X.regD
  split
  · rename_i c d e
    have := congrArg List.length e
    rw [len_list] at this
    exact absurd this h
  · rfl
set_option maxHeartbeats 4000000 in
theorem rregister_any (s : ByteArray) (w : World) :
    Calls Tryz.prog 41 #[.string s] w fun e w' => RegD (X.regD s.data.toList) e ∧ w' = w := by
  by_cases h2 : s.size = 2
  rotate_left
  · have HR : Hid (X.regD s.data.toList = none) := regD_no h2
    have h2' : ((s.size : Int) != 2) = true := by simp; omega
    clear h2
    go_enter Tryz.func41, Tryz.ntmps41
    go_wp2_with fail
    go_ret2
    exact ⟨by unfold RegD; rw [HR.out]; rfl, rfl⟩
  have hl := reg_two h2
  have h0 : 0 < s.size := by omega
  have h1 : 1 < s.size := by omega
  have e114 : (s[0].toNat = 114) ↔ s[0] = 114 := ⟨fun e => UInt8.toNat_inj.1 (by rw [e]; rfl), fun e => by rw [e]; rfl⟩
  have HF : Hid (X.regD s.data.toList = if s[0] = 114 ∧ 48 ≤ s[1].toNat ∧ s[1].toNat ≤ 55 then some ((s[1].toNat : Int) - 48) else none) := by show _ = _; rw [hl]; rfl
  have h2' : ((s.size : Int) != 2) = false := by simp; omega
  clear hl
  by_cases a0 : s[0].toNat = 114
  rotate_left
  · have HR : Hid (X.regD s.data.toList = none) := by show _ = _; rw [HF.out, if_neg (fun e => a0 (e114.2 e.1))]
    have a0' : ((s[0].toNat : Int) != 114) = true := by simp; omega
    clear a0 e114 h2
    go_enter Tryz.func41, Tryz.ntmps41
    go_wp2_with fail
    go_ret2
    exact ⟨by unfold RegD; rw [HR.out]; rfl, rfl⟩
  have a0' : ((s[0].toNat : Int) != 114) = false := by simp; omega
  by_cases a1 : s[1].toNat < 48
  · have HR : Hid (X.regD s.data.toList = none) := by show _ = _; rw [HF.out, if_neg (fun e => by omega)]
    have a1' : (s[1].toNat : Int) < 48 := by omega
    clear a0 e114 h2 a1
    go_enter Tryz.func41, Tryz.ntmps41
    go_wp2_with fail
    go_ret2
    exact ⟨by unfold RegD; rw [HR.out]; rfl, rfl⟩
  by_cases a2 : 55 < s[1].toNat
  · have HR : Hid (X.regD s.data.toList = none) := by show _ = _; rw [HF.out, if_neg (fun e => by omega)]
    have a2' : (55 : Int) < s[1].toNat := by omega
    have a1' : ¬ (s[1].toNat : Int) < 48 := by omega
    clear a0 e114 h2 a1 a2
    go_enter Tryz.func41, Tryz.ntmps41
    go_wp2_with fail
    go_ret2
    exact ⟨by unfold RegD; rw [HR.out]; rfl, rfl⟩
  have HR : Hid (X.regD s.data.toList = some ((s[1].toNat : Int) - 48)) := by show _ = _; rw [HF.out, if_pos ⟨e114.1 a0, by omega, by omega⟩]
  have a2' : ¬ (55 : Int) < s[1].toNat := by omega
  have a1' : ¬ (s[1].toNat : Int) < 48 := by omega
  clear a0 e114 h2 a1 a2
  go_enter Tryz.func41, Tryz.ntmps41
  go_wp2_with fail
  go_ret2
  exact ⟨by unfold RegD; rw [HR.out]; rfl, rfl⟩

theorem val_take {L : ByteArray} {k : Nat} (hk : k < L.size) : X.val (L.data.toList.take (k + 1)) = X.val (L.data.toList.take k) * 10 + (L[k].toNat - 48) := by
  rw [List.take_add_one, get_list L k hk]
  exact X.val_snoc _ _
theorem val_lt : ∀ (n : Nat) (l : X.By), l.length = n → l.all X.pd = true → X.val l < 10 ^ n := by
  intro n
  induction n with
  | zero => intro l h _; rw [List.eq_nil_of_length_eq_zero h]; simp [X.val]
  | succ n ih =>
    intro l h h3
    have h2 : l ≠ [] := fun e => by rw [e] at h; simp at h
    obtain ⟨l', c, rfl⟩ : ∃ l' c, l = l' ++ [c] := ⟨l.dropLast, l.getLast h2, (List.dropLast_concat_getLast h2).symm⟩
    rw [List.all_append, Bool.and_eq_true] at h3
    have hc : 48 ≤ c.toNat ∧ c.toNat ≤ 57 := X.pd_iff.1 (by simpa using h3.2)
    have := ih l' (by simpa using h) h3.1
    rw [X.val_snoc, Nat.pow_succ]
    omega
theorem pow_le18 {k : Nat} (h : k ≤ 18) : 10 ^ k ≤ 1000000000000000000 := by
  have : (10 : Nat) ^ k ≤ 10 ^ 18 := Nat.pow_le_pow_right (by decide) h
  simpa using this
/-- What Number's answer says. -/
def NumD (s : X.By) (e : Ending) : Prop := ∃ z ok, e = .returned (.tuple #[.int .i64 z, .bool ok]) ∧ NumIs s z ok
theorem NumD.no {s : X.By} {z : Int} (h : X.numD s = none) : NumD s (.returned (.tuple #[.int .i64 z, .bool false])) := ⟨_, _, rfl, fun e => by (cases e), fun _ => by rw [← X.numD_eq]; exact h⟩
theorem head_list {s : ByteArray} (h : 0 < s.size) : s.data.toList.head? = some s[0] := by
  have := drop_cons s 0 h
  rw [List.drop_zero] at this
  rw [this]; rfl
theorem head_ne {s : ByteArray} (h : 0 < s.size) {c : UInt8} : s.data.toList.head? = some c ↔ s[0].toNat = c.toNat := by
  rw [head_list h]
  exact ⟨fun e => by rw [Option.some.inj e], fun e => by rw [UInt8.toNat_inj.1 e]⟩
/-- The document's conditions of digits. -/
def Cnd (l : X.By) : Prop := 1 ≤ l.length ∧ l.length ≤ 19 ∧ (l.head? ≠ some 48 ∨ l.length = 1) ∧ l.all X.pd = true
theorem numD_no {s : X.By} (h : ¬ Cnd (X.lowOf s)) : X.numD s = none := by unfold X.numD; unfold Cnd at h; rw [if_neg h]
theorem numD_yes {s : X.By} (h : Cnd (X.lowOf s)) : X.numD s = if (X.lowOf s).length < s.length then (if X.val (X.lowOf s) ≤ 9223372036854775808 then some (-(X.val (X.lowOf s) : Int)) else none) else (if X.val (X.lowOf s) < 9223372036854775808 then some (X.val (X.lowOf s) : Int) else none) := by unfold X.numD; unfold Cnd at h; rw [if_pos h]

set_option maxRecDepth 100000 in
set_option maxHeartbeats 8000000 in
theorem rnumber_neg (s : ByteArray) (hs : s.size ≤ maxLen) (h1 : 1 < s.size) (q0 : s[0].toNat = 45) (q1 : s[1].toNat ≠ 48) (w : World) :
    Calls Tryz.prog 23 #[.string s] w fun e w' => NumD s.data.toList e ∧ w' = w := by
  unfold maxLen at hs
  have h0 : 0 < s.size := by omega
  have HLOW : Hid (X.lowOf s.data.toList = s.data.toList.tail) := (X.lowOf_neg ⟨by rw [len_list]; exact h1, (head_ne h0).2 q0, fun e => by rw [get_list s 1 h1] at e; exact q1 (by rw [Option.some.inj e]; rfl)⟩).1
  have c0 : ((s[0].toNat : Int) == 45) = true := by simp [q0]
  have c1 : ((s[1].toNat : Int) != 48) = true := by simp; omega
  have h1' : (1 : Int) < s.size := by omega
  obtain ⟨L, hL⟩ : ∃ L, s.extract 1 s.size = L := ⟨_, rfl⟩
  have HLT : Hid (L.data.toList = X.lowOf s.data.toList) := by show _ = _; rw [HLOW.out, ← hL, extract_eq, str_list, ← len_list, List.take_length, List.drop_one]
  have hLs : L.size = s.size - 1 := by rw [← len_list, HLT.out, HLOW.out, List.length_tail, len_list]
  have hlt : L.size < s.size := by omega
  have hlt' : (L.size : Int) < s.size := by omega
  have l1 : ¬ L.size < 1 := by omega
  clear q0 q1 hLs
  have l1' : ¬ (L.size : Int) < 1 := by omega
  by_cases l19 : 19 < L.size
  · have HR : Hid (X.numD s.data.toList = none) := numD_no (fun e => by have := e.2.1; rw [← HLT.out, len_list] at this; omega)
    have l2' : (19 : Int) < L.size := by omega
    go_enter Tryz.func23, Tryz.ntmps23
    go_wp2_with fail
    go_ret2
    exact ⟨NumD.no HR.out, rfl⟩
  have l2' : ¬ (19 : Int) < L.size := by omega
  have l0 : 0 < L.size := by omega
  by_cases z0 : L[0].toNat = 48 ∧ 1 < L.size
  · have HR : Hid (X.numD s.data.toList = none) := numD_no (fun e => by
      rcases e.2.2.1 with h | h
      · rw [← HLT.out] at h; exact h ((head_ne l0).2 z0.1)
      · rw [← HLT.out, len_list] at h; omega)
    have z1 : ((L[0].toNat : Int) == 48) = true := by simp [z0.1]
    have z2 : (1 : Int) < L.size := by omega
    clear z0
    go_enter Tryz.func23, Tryz.ntmps23
    go_wp2_with fail
    go_ret2
    exact ⟨NumD.no HR.out, rfl⟩
  have HZ : Hid (L.data.toList.head? ≠ some 48 ∨ L.data.toList.length = 1) := by
    by_cases e : L[0].toNat = 48
    · exact .inr (by rw [len_list]; omega)
    · exact .inl (fun e2 => e ((head_ne l0).1 e2))
  have zz : (((L[0].toNat : Int) == 48) = true ∧ ¬ (1 : Int) < L.size) ∨ ((L[0].toNat : Int) == 48) = false := by
    by_cases e : L[0].toNat = 48
    · exact .inl ⟨by simp [e], by omega⟩
    · exact .inr (by simp; omega)
  clear z0
  rcases zz with ⟨z1, z2⟩ | z1
  · skip
    go_enter Tryz.func23, Tryz.ntmps23
    go_wp2_with fail
    go_loopg [5, 6] L.size (fun rr uv iv wq => ∃ (k : Nat) (V : Nat), uv = .int .u64 V ∧ iv = .int .i64 k ∧ k ≤ L.size ∧ L.size - k ≤ rr ∧ Hid (V = X.val (L.data.toList.take k)) ∧ Hid ((L.data.toList.take k).all X.pd = true) ∧ wq = w)
    case atStart => exact ⟨0, 0, rfl, rfl, Nat.zero_le _, by omega, (by show _ = _; simp [X.val]), (by show _ = _; simp), rfl⟩
    case round =>
      obtain ⟨k, V, rfl, rfl, hk, hr, HV, HA, rfl⟩ := hrel
      by_cases hlk : k < L.size
      · have hii : (k : Int) < L.size := by omega
        have hin : 0 ≤ (k : Int) := by omega
        have hVb : V < 1000000000000000000 := by
          rw [HV.out]
          exact Nat.lt_of_lt_of_le (val_lt k _ (by rw [List.length_take, len_list]; omega) HA.out) (pow_le18 (by omega))
        have HV1 : Hid _ := val_take hlk
        have HA1 : Hid ((L.data.toList.take (k + 1)).all X.pd = ((L.data.toList.take k).all X.pd && X.pd L[k])) := by show _ = _; rw [List.take_add_one, get_list L k hlk, List.all_append]; simp
        have HPD : Hid (X.pd L[k] = X.dg L[k].toNat) := rfl
        cases hdg : X.dg L[k].toNat
        · have HR : Hid (X.numD s.data.toList = none) := numD_no (fun e => by
            have h9 := e.2.2.2
            rw [← HLT.out, List.all_eq_true] at h9
            have := h9 L[k] (List.mem_of_getElem? (get_list L k hlk))
            rw [HPD.out, hdg] at this
            cases this)
          go_wp2_with (go_at_call 38; refine (rdigit_any L[k].toNat _).mono ?_; rw [hdg]; rintro e y ⟨rfl, rfl⟩)
          go_ret2
          exact ⟨NumD.no HR.out, rfl⟩
        · have hdd : 48 ≤ L[k].toNat ∧ L[k].toNat ≤ 57 := by simp [X.dg] at hdg; exact hdg
          have d48 : (48 : Int) ≤ L[k].toNat := by omega
          have d57 : (L[k].toNat : Int) ≤ 57 := by omega
          have HA2 : Hid ((L.data.toList.take (k + 1)).all X.pd = true) := by show _ = _; rw [HA1.out, HA.out, HPD.out, hdg]; rfl
          go_wp2_with (go_at_call 38; refine (rdigit_any L[k].toNat _).mono ?_; rw [hdg]; rintro e y ⟨rfl, rfl⟩)
          go_roundg (L.size - (k + 1))
          case measure => omega
          case rel => exact ⟨k + 1, V * 10 + (L[k].toNat - 48), (by congr 1; omega), by go_num, by omega, Nat.le_refl _, (by show _ = _; rw [HV1.out, HV.out]), HA2.out, rfl⟩
      · obtain rfl : k = L.size := by omega
        have hii : ¬ (L.size : Int) < L.size := by omega
        have hfull : L.data.toList.take L.size = L.data.toList := List.take_of_length_le (by rw [len_list]; exact Nat.le_refl _)
        rw [hfull] at HV HA
        have HC : Hid (Cnd (X.lowOf s.data.toList)) := by
          show Cnd _
          rw [← HLT.out]
          exact ⟨by rw [len_list]; omega, by rw [len_list]; omega, HZ.out, HA.out⟩
        have hVb : V < 10000000000000000000 := by
          rw [HV.out]
          have := val_lt L.size _ (len_list L) HA.out
          have h10 : (10 : Nat) ^ L.size ≤ 10 ^ 19 := Nat.pow_le_pow_right (by decide) (by omega)
          have : (10 : Nat) ^ 19 = 10000000000000000000 := by decide
          omega
        have HN : Hid (X.numD s.data.toList = if V ≤ 9223372036854775808 then some (-(V : Int)) else none) := by
          show _ = _
          rw [numD_yes HC.out, if_pos (by rw [← HLT.out, len_list, len_list]; exact hlt), ← HLT.out, ← HV.out]
        go_wp2_with fail
        go_ret2
        refine ⟨⟨_, _, rfl, fun e => ?_, fun e => ?_⟩, rfl⟩
        · have h5 : V ≤ 9223372036854775808 := by simp at e; omega
          rw [← X.numD_eq, HN.out, if_pos h5]
          refine congrArg some ?_
          unfold wrap64
          omega
        · have h5 : ¬ V ≤ 9223372036854775808 := by simp at e; omega
          rw [← X.numD_eq, HN.out, if_neg h5]
  · skip
    go_enter Tryz.func23, Tryz.ntmps23
    go_wp2_with fail
    go_loopg [5, 6] L.size (fun rr uv iv wq => ∃ (k : Nat) (V : Nat), uv = .int .u64 V ∧ iv = .int .i64 k ∧ k ≤ L.size ∧ L.size - k ≤ rr ∧ Hid (V = X.val (L.data.toList.take k)) ∧ Hid ((L.data.toList.take k).all X.pd = true) ∧ wq = w)
    case atStart => exact ⟨0, 0, rfl, rfl, Nat.zero_le _, by omega, (by show _ = _; simp [X.val]), (by show _ = _; simp), rfl⟩
    case round =>
      obtain ⟨k, V, rfl, rfl, hk, hr, HV, HA, rfl⟩ := hrel
      by_cases hlk : k < L.size
      · have hii : (k : Int) < L.size := by omega
        have hin : 0 ≤ (k : Int) := by omega
        have hVb : V < 1000000000000000000 := by
          rw [HV.out]
          exact Nat.lt_of_lt_of_le (val_lt k _ (by rw [List.length_take, len_list]; omega) HA.out) (pow_le18 (by omega))
        have HV1 : Hid _ := val_take hlk
        have HA1 : Hid ((L.data.toList.take (k + 1)).all X.pd = ((L.data.toList.take k).all X.pd && X.pd L[k])) := by show _ = _; rw [List.take_add_one, get_list L k hlk, List.all_append]; simp
        have HPD : Hid (X.pd L[k] = X.dg L[k].toNat) := rfl
        cases hdg : X.dg L[k].toNat
        · have HR : Hid (X.numD s.data.toList = none) := numD_no (fun e => by
            have h9 := e.2.2.2
            rw [← HLT.out, List.all_eq_true] at h9
            have := h9 L[k] (List.mem_of_getElem? (get_list L k hlk))
            rw [HPD.out, hdg] at this
            cases this)
          go_wp2_with (go_at_call 38; refine (rdigit_any L[k].toNat _).mono ?_; rw [hdg]; rintro e y ⟨rfl, rfl⟩)
          go_ret2
          exact ⟨NumD.no HR.out, rfl⟩
        · have hdd : 48 ≤ L[k].toNat ∧ L[k].toNat ≤ 57 := by simp [X.dg] at hdg; exact hdg
          have d48 : (48 : Int) ≤ L[k].toNat := by omega
          have d57 : (L[k].toNat : Int) ≤ 57 := by omega
          have HA2 : Hid ((L.data.toList.take (k + 1)).all X.pd = true) := by show _ = _; rw [HA1.out, HA.out, HPD.out, hdg]; rfl
          go_wp2_with (go_at_call 38; refine (rdigit_any L[k].toNat _).mono ?_; rw [hdg]; rintro e y ⟨rfl, rfl⟩)
          go_roundg (L.size - (k + 1))
          case measure => omega
          case rel => exact ⟨k + 1, V * 10 + (L[k].toNat - 48), (by congr 1; omega), by go_num, by omega, Nat.le_refl _, (by show _ = _; rw [HV1.out, HV.out]), HA2.out, rfl⟩
      · obtain rfl : k = L.size := by omega
        have hii : ¬ (L.size : Int) < L.size := by omega
        have hfull : L.data.toList.take L.size = L.data.toList := List.take_of_length_le (by rw [len_list]; exact Nat.le_refl _)
        rw [hfull] at HV HA
        have HC : Hid (Cnd (X.lowOf s.data.toList)) := by
          show Cnd _
          rw [← HLT.out]
          exact ⟨by rw [len_list]; omega, by rw [len_list]; omega, HZ.out, HA.out⟩
        have hVb : V < 10000000000000000000 := by
          rw [HV.out]
          have := val_lt L.size _ (len_list L) HA.out
          have h10 : (10 : Nat) ^ L.size ≤ 10 ^ 19 := Nat.pow_le_pow_right (by decide) (by omega)
          have : (10 : Nat) ^ 19 = 10000000000000000000 := by decide
          omega
        have HN : Hid (X.numD s.data.toList = if V ≤ 9223372036854775808 then some (-(V : Int)) else none) := by
          show _ = _
          rw [numD_yes HC.out, if_pos (by rw [← HLT.out, len_list, len_list]; exact hlt), ← HLT.out, ← HV.out]
        go_wp2_with fail
        go_ret2
        refine ⟨⟨_, _, rfl, fun e => ?_, fun e => ?_⟩, rfl⟩
        · have h5 : V ≤ 9223372036854775808 := by simp at e; omega
          rw [← X.numD_eq, HN.out, if_pos h5]
          refine congrArg some ?_
          unfold wrap64
          omega
        · have h5 : ¬ V ≤ 9223372036854775808 := by simp at e; omega
          rw [← X.numD_eq, HN.out, if_neg h5]

end Go.Proofs.YtbkjiipelmfbjaaGreatDoor

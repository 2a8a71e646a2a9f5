/- The document's number and sign. -/
import Derived.Test.YtfnakckiidblkaaDoorLexRow
namespace Go.Proofs.YtfnakckiidblkaaDoor
open Go.RowKit
set_option linter.unusedVariables false
set_option linter.unusedSimpArgs false

namespace X
theorem fold_ge : ∀ (t : By) (u : Nat), u * 10 ^ t.length ≤ t.foldl (fun u c => u * 10 + (c.toNat - 48)) u
  | [], u => by simp
  | c :: t, u => by
    rw [List.foldl_cons, List.length_cons]
    refine Nat.le_trans ?_ (fold_ge t _)
    rw [Nat.pow_succ]
    have : u * (10 ^ t.length * 10) = (u * 10) * 10 ^ t.length := by rw [Nat.mul_comm (10 ^ t.length) 10, Nat.mul_assoc]
    rw [this]
    exact Nat.mul_le_mul_right _ (by omega)
theorem fold_lt : ∀ (t : By) (u : Nat), t.all pd = true → t.foldl (fun u c => u * 10 + (c.toNat - 48)) u < (u + 1) * 10 ^ t.length
  | [], u, _ => by simp
  | c :: t, u, h => by
    simp only [List.all_cons, Bool.and_eq_true, pd, dg, decide_eq_true_eq] at h
    rw [List.foldl_cons, List.length_cons]
    refine Nat.lt_of_lt_of_le (fold_lt t _ (by simpa [pd, dg] using h.2)) ?_
    rw [Nat.pow_succ]
    have : (u + 1) * (10 ^ t.length * 10) = ((u + 1) * 10) * 10 ^ t.length := by rw [Nat.mul_comm (10 ^ t.length) 10, Nat.mul_assoc]
    rw [this]
    exact Nat.mul_le_mul_right _ (by omega)
theorem numV_lt {t : By} (h : t.all pd = true) (hl : t.length ≤ 19) : numV t < 10000000000000000000 := by
  have h1 := fold_lt t 0 h
  have h2 : 10 ^ t.length ≤ 10 ^ 19 := Nat.pow_le_pow_right (by decide) hl
  unfold numV
  omega
theorem numOk_long {t : By} (h : t.all pd = true) (hl : 19 < t.length) : numOk t = false := by
  match t, h, hl with
  | c :: r, h, hl =>
    simp only [List.all_cons, Bool.and_eq_true, pd, dg, decide_eq_true_eq] at h
    by_cases h48 : c.toNat = 48
    · have h1 : ¬ (c :: r) = [48] := fun e => by rw [e] at hl; simp at hl
      simp [numOk, h1, first, h48]
      try (intro _; exact fun e1 e2 => h1 (by rw [e1, e2]))
    · have h1 := fold_ge r (0 * 10 + (c.toNat - 48))
      have h2 : 10 ^ 19 ≤ 10 ^ r.length := Nat.pow_le_pow_right (by decide) (by simp at hl; omega)
      have h3 : 1 * 10 ^ r.length ≤ (0 * 10 + (c.toNat - 48)) * 10 ^ r.length := Nat.mul_le_mul_right _ (by omega)
      have h4 : ¬ numV (c :: r) < 9223372036854775808 := by
        unfold numV
        rw [List.foldl_cons]
        omega
      simp [numOk, h4]
theorem numV_snoc (l : By) (c : UInt8) : numV (l ++ [c]) = numV l * 10 + (c.toNat - 48) := by simp [numV]
end X

set_option maxRecDepth 100000 in
set_option maxHeartbeats 4000000 in
theorem rnumber_any (s : ByteArray) (hs : s.size ≤ 20000) (h0 : 0 < s.size) (hd : s.data.toList.all X.pd = true) (w : World) :
    Calls Tryd.prog 30 #[.string s] w fun e w' => ∃ z : Int, e = .returned (.tuple #[.int .i64 z, .bool (X.numOk s.data.toList)]) ∧ (X.numOk s.data.toList = true → z = X.numV s.data.toList) ∧ w' = w := by
  have hL : s.data.toList.length = s.size := by simp
  by_cases h1 : 19 < s.size
  · rw [X.numOk_long hd (by omega)]
    go_enter Tryd.func30, Tryd.ntmps30
    go_wp2
    go_ret2
    first | exact ⟨0, rfl, (by intro h; simp at h), rfl⟩ | exact ⟨⟨0, rfl⟩, rfl⟩ | exact ⟨0, rfl⟩
  have hf := first_list h0
  obtain ⟨c, hc⟩ : ∃ c : Nat, s[0].toNat = c := ⟨_, rfl⟩
  have h1' : decide ((19 : Int) < s.size) = false := by simp; omega
  by_cases h2 : 1 < s.size ∧ c = 48
  · have hno : X.numOk s.data.toList = false := by
      have : ¬ s.data.toList = [48] := fun e => by rw [e] at hL; simp at hL; omega
      simp [X.numOk, this, hf, hc, h2.2]
    rw [hno]
    have h3 := h2.1
    have h4 : ((c : Int) == 48) = true := by simp; omega
    clear hno h2
    go_enter Tryd.func30, Tryd.ntmps30
    go_wp2
    go_ret2
    first | exact ⟨0, rfl, (by intro h; simp at h), rfl⟩ | exact ⟨⟨0, rfl⟩, rfl⟩ | exact ⟨0, rfl⟩
  have hok : X.numOk s.data.toList = decide (X.numV s.data.toList < 9223372036854775808) := by
    have : s.data.toList = [48] ∨ X.first s.data.toList ≠ 48 := by
      by_cases h3 : c = 48
      · left
        have hz : s.size = 1 := by omega
        have hdc := drop_cons s 0 h0
        rw [List.drop_zero] at hdc
        have : s.data.toList.drop 1 = [] := List.drop_eq_nil_of_le (by omega)
        rw [this] at hdc
        rw [hdc]
        congr 1
        apply UInt8.toNat_inj.1
        rw [hc, h3]
        rfl
      · right
        rw [hf, hc]
        exact h3
    unfold X.numOk
    rcases this with h | h
    · simp [h]
    · simp [h]
  rw [hok]
  have hlt := X.numV_lt hd (by omega)
  have HD : Hid _ := hd
  have hcase : decide ((1 : Int) < s.size) = false ∨ (decide ((1 : Int) < s.size) = true ∧ ((c : Int) == 48) = false) := by
    by_cases h3 : 1 < s.size
    · exact .inr ⟨by simp; omega, by simp; omega⟩
    · exact .inl (by simp; omega)
  clear hd hok hf h2
  rcases hcase with h3 | ⟨h3, h4⟩
  all_goals
    go_enter Tryd.func30, Tryd.ntmps30
    go_wp2_with fail
    go_loop [4, 5] (fun uv i => ∃ (k u : Nat), i = .int .i64 k ∧ uv = .int .u64 u ∧ k ≤ s.size ∧ Hid (u = X.numV (s.data.toList.take k))) (fun _ i => s.size - (intOf i).toNat)
    case atStart => exact ⟨0, 0, rfl, rfl, Nat.zero_le _, (by simp [X.numV] : 0 = X.numV (s.data.toList.take 0))⟩
    case round =>
      obtain ⟨k, u, rfl, rfl, hk, HU⟩ := hrel
      have hu19 : u < 10000000000000000000 := by
        rw [HU.out]
        refine X.numV_lt ?_ (by simp; omega)
        rw [List.all_eq_true]
        intro c hc
        exact List.all_eq_true.1 HD.out c (List.mem_of_mem_take hc)
      by_cases hlt2 : k < s.size
      · have HG : Hid (s.data.toList[k]? = some s[k]) := get_list s k hlt2
        have hu18 : u * 10 + 9 < 18446744073709551616 := by
          have h5 := X.fold_lt (s.data.toList.take k) 0 (by
            rw [List.all_eq_true]
            intro c hc
            exact List.all_eq_true.1 HD.out c (List.mem_of_mem_take hc))
          have h6 : 10 ^ (s.data.toList.take k).length ≤ 10 ^ 18 := Nat.pow_le_pow_right (by decide) (by simp; omega)
          have h7 : u < 10 ^ (s.data.toList.take k).length := by rw [HU.out]; unfold X.numV; omega
          omega
        have hdk : 48 ≤ s[k].toNat ∧ s[k].toNat ≤ 57 := by
          have := List.all_eq_true.1 HD.out s[k] (List.mem_of_getElem? HG.out)
          simpa [X.pd, X.dg] using this
        have HNX : Hid (X.numV (s.data.toList.take (k + 1)) = u * 10 + (s[k].toNat - 48)) := by
          show _ = _
          rw [List.take_add_one, HG.out, HU.out]
          exact X.numV_snoc _ _
        obtain ⟨d, hdd⟩ : ∃ d : Nat, s[k].toNat = d := ⟨_, rfl⟩
        rw [hdd] at hdk HNX
        go_wp2
        go_round
        case rel =>
          refine ⟨k + 1, u * 10 + (d - 48), by go_num, ?_, by omega, HNX.out.symm⟩
          congr 1
          omega
        case measure => simp [intOf]; omega
      · obtain rfl : k = s.size := by omega
        have HE : Hid (u = X.numV s.data.toList) := by
          have := HU.out
          rwa [List.take_of_length_le (by simp)] at this
        go_wp2
        go_ret2
        have he := HE.out
        subst he
        refine ⟨wrap64 (X.numV s.data.toList), ?_, fun h => ?_, rfl⟩
        · have e1 : decide ((X.numV s.data.toList : Int) < 9223372036854775808) = decide (X.numV s.data.toList < 9223372036854775808) := by rw [Bool.eq_iff_iff]; simp; omega
          rw [← e1]
          rfl
        · have h6 : X.numV s.data.toList < 9223372036854775808 := by simpa using h
          unfold wrap64
          omega

end Go.Proofs.YtfnakckiidblkaaDoor

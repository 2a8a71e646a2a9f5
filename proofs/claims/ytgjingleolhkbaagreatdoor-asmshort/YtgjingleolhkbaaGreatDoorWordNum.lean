/- What word.Number, and the document's Number, come to. -/
import Derived.Test.YtgjingleolhkbaaGreatDoorWordBytes
import Derived.Test.YtgjingleolhkbaaGreatDoorWordRet
import Derived.Test.YtgjingleolhkbaaGreatDoorWordNumMath
namespace Go.Proofs.YtgjingleolhkbaaGreatDoor.J
set_option maxRecDepth 100000
open Go.RowKit

set_option maxRecDepth 100000 in
set_option maxHeartbeats 1000000 in
theorem rnumber1 (s : ByteArray) (hsz : s.size = 1) (w : World) :
    Calls Tryz.prog 67 #[.string s] w fun e w' => e = .returned (.tuple #[.int .i64 (W.sx 1 (W.num (W.tail s 0))), .int .i64 0]) ∧ w' = w := by
  go_enter Tryz.func67, Tryz.ntmps67
  go_wp2
  go_loop [4, 5] (fun u i => ∃ (k : Nat), k ≤ 1 ∧ i = .int .i64 ((k : Int) - 1) ∧ u = .int .u64 (W.num (W.tail s k))) (fun _ i => (intOf i + 1).toNat)
  case atStart => exact ⟨1, by omega, rfl, by rw [W.tail_end s 1 (by omega)]; rfl⟩
  case round =>
    obtain ⟨k, hk, rfl, rfl⟩ := hrel
    by_cases h0 : 0 < k
    · obtain ⟨j, rfl⟩ : ∃ j, k = j + 1 := ⟨k - 1, by omega⟩
      have hlt : j < s.size := by omega
      have HT : Hid (W.tail s j = (s[j].toNat : Int) :: W.tail s (j + 1)) := W.tail_cons s j hlt
      have HS := W.num_small s (j + 1) (by omega) (by omega)
      obtain ⟨c, hcb⟩ : ∃ c : Nat, s[j].toNat = c := ⟨_, rfl⟩
      have hc256 : c < 256 := by rw [← hcb]; exact UInt8.toNat_lt _
      have HT' : Hid (W.tail s j = (c : Int) :: W.tail s (j + 1)) := by rw [← hcb]; exact HT
      have HE : Hid (W.num (W.tail s j) = W.num (W.tail s (j + 1)) * 256 + c) := by show W.num (W.tail s j) = _; rw [HT'.out]; rfl
      generalize W.num (W.tail s (j + 1)) = x at *
      clear HT HT'
      go_wp2
      go_round
      case rel => exact ⟨j, by omega, rfl, by rw [HE.out]⟩
      case measure => simp [intOf]
    · obtain rfl : k = 0 := by omega
      have HT : Hid (W.num (W.tail s 0) = (s[0].toNat : Int)) := W.top1 s hsz
      obtain ⟨c, hcb⟩ : ∃ c : Nat, s[0].toNat = c := ⟨_, rfl⟩
      have hc256 : c < 256 := by rw [← hcb]; exact UInt8.toNat_lt _
      rw [hcb] at HT
      obtain ⟨x, hx⟩ : ∃ x, x = W.num (W.tail s 0) := ⟨_, rfl⟩
      have HX : Hid (x = W.num (W.tail s 0)) := hx
      rw [← hx]
      clear hx
      by_cases hc : 128 ≤ c
      · have hc' : (128 : Int) ≤ c := by omega
        go_wp2
        go_ret2
        refine ⟨ret2 ?_ rfl, rfl⟩
        have h1 := HX.out
        have h2 := HT.out
        rw [← h1] at h2 ⊢
        simp [W.sx]
        rw [IntKind.wrap_u64]
        unfold wrap64
        omega
      · have hc' : ¬ (128 : Int) ≤ c := by omega
        go_wp2
        go_ret2
        refine ⟨ret2 ?_ rfl, rfl⟩
        have h1 := HX.out
        have h2 := HT.out
        rw [← h1] at h2 ⊢
        simp [W.sx]
        unfold wrap64
        omega

set_option maxRecDepth 100000 in
set_option maxHeartbeats 1000000 in
theorem rnumber4 (s : ByteArray) (hsz : s.size = 4) (w : World) :
    Calls Tryz.prog 67 #[.string s] w fun e w' => e = .returned (.tuple #[.int .i64 (W.sx 4 (W.num (W.tail s 0))), .int .i64 0]) ∧ w' = w := by
  go_enter Tryz.func67, Tryz.ntmps67
  go_wp2
  go_loop [4, 5] (fun u i => ∃ (k : Nat), k ≤ 4 ∧ i = .int .i64 ((k : Int) - 1) ∧ u = .int .u64 (W.num (W.tail s k))) (fun _ i => (intOf i + 1).toNat)
  case atStart => exact ⟨4, by omega, rfl, by rw [W.tail_end s 4 (by omega)]; rfl⟩
  case round =>
    obtain ⟨k, hk, rfl, rfl⟩ := hrel
    by_cases h0 : 0 < k
    · obtain ⟨j, rfl⟩ : ∃ j, k = j + 1 := ⟨k - 1, by omega⟩
      have hlt : j < s.size := by omega
      have HT : Hid (W.tail s j = (s[j].toNat : Int) :: W.tail s (j + 1)) := W.tail_cons s j hlt
      have HS := W.num_small s (j + 1) (by omega) (by omega)
      obtain ⟨c, hcb⟩ : ∃ c : Nat, s[j].toNat = c := ⟨_, rfl⟩
      have hc256 : c < 256 := by rw [← hcb]; exact UInt8.toNat_lt _
      have HT' : Hid (W.tail s j = (c : Int) :: W.tail s (j + 1)) := by rw [← hcb]; exact HT
      have HE : Hid (W.num (W.tail s j) = W.num (W.tail s (j + 1)) * 256 + c) := by show W.num (W.tail s j) = _; rw [HT'.out]; rfl
      generalize W.num (W.tail s (j + 1)) = x at *
      clear HT HT'
      go_wp2
      go_round
      case rel => exact ⟨j, by omega, rfl, by rw [HE.out]⟩
      case measure => simp [intOf]
    · obtain rfl : k = 0 := by omega
      obtain ⟨r, hr0, hr1, HT0⟩ := W.top4 s hsz
      have HT : Hid (W.num (W.tail s 0) = (s[3].toNat : Int) * 16777216 + r) := HT0
      clear HT0
      obtain ⟨c, hcb⟩ : ∃ c : Nat, s[3].toNat = c := ⟨_, rfl⟩
      have hc256 : c < 256 := by rw [← hcb]; exact UInt8.toNat_lt _
      rw [hcb] at HT
      obtain ⟨x, hx⟩ : ∃ x, x = W.num (W.tail s 0) := ⟨_, rfl⟩
      have HX : Hid (x = W.num (W.tail s 0)) := hx
      rw [← hx]
      clear hx
      by_cases hc : 128 ≤ c
      · have hc' : (128 : Int) ≤ c := by omega
        go_wp2
        go_ret2
        refine ⟨ret2 ?_ rfl, rfl⟩
        have h1 := HX.out
        have h2 := HT.out
        rw [← h1] at h2 ⊢
        simp [W.sx, wrap32]
        rw [IntKind.wrap_u64]
        unfold wrap64
        omega
      · have hc' : ¬ (128 : Int) ≤ c := by omega
        go_wp2
        go_ret2
        refine ⟨ret2 ?_ rfl, rfl⟩
        have h1 := HX.out
        have h2 := HT.out
        rw [← h1] at h2 ⊢
        simp [W.sx, wrap32]
        unfold wrap64
        omega

set_option maxRecDepth 100000 in
set_option maxHeartbeats 1000000 in
theorem rnumber8 (s : ByteArray) (hsz : s.size = 8) (w : World) :
    Calls Tryz.prog 67 #[.string s] w fun e w' => e = .returned (.tuple #[.int .i64 (W.sx 8 (W.num (W.tail s 0))), .int .i64 0]) ∧ w' = w := by
  go_enter Tryz.func67, Tryz.ntmps67
  go_wp2
  go_loop [4, 5] (fun u i => ∃ (k : Nat), k ≤ 8 ∧ i = .int .i64 ((k : Int) - 1) ∧ u = .int .u64 (W.num (W.tail s k))) (fun _ i => (intOf i + 1).toNat)
  case atStart => exact ⟨8, by omega, rfl, by rw [W.tail_end s 8 (by omega)]; rfl⟩
  case round =>
    obtain ⟨k, hk, rfl, rfl⟩ := hrel
    by_cases h0 : 0 < k
    · obtain ⟨j, rfl⟩ : ∃ j, k = j + 1 := ⟨k - 1, by omega⟩
      have hlt : j < s.size := by omega
      have HT : Hid (W.tail s j = (s[j].toNat : Int) :: W.tail s (j + 1)) := W.tail_cons s j hlt
      have HS := W.num_small s (j + 1) (by omega) (by omega)
      obtain ⟨c, hcb⟩ : ∃ c : Nat, s[j].toNat = c := ⟨_, rfl⟩
      have hc256 : c < 256 := by rw [← hcb]; exact UInt8.toNat_lt _
      have HT' : Hid (W.tail s j = (c : Int) :: W.tail s (j + 1)) := by rw [← hcb]; exact HT
      have HE : Hid (W.num (W.tail s j) = W.num (W.tail s (j + 1)) * 256 + c) := by show W.num (W.tail s j) = _; rw [HT'.out]; rfl
      generalize W.num (W.tail s (j + 1)) = x at *
      clear HT HT'
      go_wp2
      go_round
      case rel => exact ⟨j, by omega, rfl, by rw [HE.out]⟩
      case measure => simp [intOf]
    · obtain rfl : k = 0 := by omega
      obtain ⟨x, hx⟩ : ∃ x, x = W.num (W.tail s 0) := ⟨_, rfl⟩
      have HX : Hid (x = W.num (W.tail s 0)) := hx
      rw [← hx]
      clear hx
      go_wp2
      go_ret2
      exact ⟨ret2 (by rw [← HX.out]; rfl) rfl, rfl⟩

set_option maxHeartbeats 400000 in
theorem rnumber_bad (s : ByteArray) (h : W.isSz s.size = false) (w : World) :
    Calls Tryz.prog 67 #[.string s] w fun e w' => e = .returned (.tuple #[.int .i64 0, .int .i64 1]) ∧ w' = w := by
  simp only [W.isSz, Bool.or_eq_false_iff] at h
  obtain ⟨⟨h1, h4⟩, h8⟩ := h
  go_enter Tryz.func67, Tryz.ntmps67
  go_wp2
  go_ret2
  exact ⟨rfl, rfl⟩

theorem rnumber_any (s : ByteArray) (w : World) :
    Calls Tryz.prog 67 #[.string s] w fun e w' => e = .returned (.tuple #[.int .i64 (W.numV s), .int .i64 (W.numE s)]) ∧ w' = w := by
  cases hs : W.isSz s.size
  · refine (rnumber_bad s hs w).mono ?_
    rintro e w' ⟨rfl, rfl⟩
    exact ⟨ret2 (by simp [W.numV, hs]) (by simp [W.numE, hs]), rfl⟩
  · have hs' := hs
    simp [W.isSz] at hs'
    rcases hs' with (h | h) | h
    · refine (rnumber1 s (by omega) w).mono ?_
      rintro e w' ⟨rfl, rfl⟩
      exact ⟨ret2 (by rw [W.numV, hs, if_pos rfl, show (s.size : Int) = 1 by omega]) (by simp [W.numE, hs]), rfl⟩
    · refine (rnumber4 s (by omega) w).mono ?_
      rintro e w' ⟨rfl, rfl⟩
      exact ⟨ret2 (by rw [W.numV, hs, if_pos rfl, show (s.size : Int) = 4 by omega]) (by simp [W.numE, hs]), rfl⟩
    · refine (rnumber8 s (by omega) w).mono ?_
      rintro e w' ⟨rfl, rfl⟩
      exact ⟨ret2 (by rw [W.numV, hs, if_pos rfl, show (s.size : Int) = 8 by omega]) (by simp [W.numE, hs]), rfl⟩

end Go.Proofs.YtgjingleolhkbaaGreatDoor.J

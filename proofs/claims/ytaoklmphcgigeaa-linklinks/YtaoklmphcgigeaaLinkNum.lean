/- What the document's Number makes of four bytes. -/
import Derived.Test.YtaoklmphcgigeaaWordBytes
import Derived.Test.YtaoklmphcgigeaaWordRet
import Derived.Test.YtaoklmphcgigeaaWordBackMath
namespace Go.Proofs.Ytaoklmphcgigeaa
open Go.RowKit

set_option maxRecDepth 100000 in
set_option maxHeartbeats 1000000 in
theorem rnumber4 (s : ByteArray) (hsz : s.size = 4) (w : World) :
    Calls Try.prog 17 #[.string s] w fun e w' => e = .returned (.tuple #[.int .i64 (W.sx 4 (W.num (W.tail s 0))), .int .i64 0]) ∧ w' = w := by
  go_enter Try.func17, Try.ntmps17
  go_wp2
  go_loop [4, 5] (fun u i => ∃ (k : Nat), k ≤ 4 ∧ i = .int .i64 ((k : Int) - 1) ∧ u = .int .u64 (W.num (W.tail s k))) (fun _ i => (intOf i + 1).toNat)
  case atStart => exact ⟨4, by omega, rfl, by rw [W.tail_end s 4 (by omega)]; rfl⟩
  case round =>
    obtain ⟨k, hk, rfl, rfl⟩ := hrel
    by_cases h0 : 0 < k
    · obtain ⟨j, rfl⟩ : ∃ j, k = j + 1 := ⟨k - 1, by omega⟩
      have hlt : j < s.size := by omega
      have HT : Hid (W.tail s j = (s[j].toNat : Int) :: W.tail s (j + 1)) := W.tail_cons s j hlt
      have HS := W.num_small s (j + 1) (by omega) (by omega)
      obtain ⟨c, hcb⟩ : ∃ c : Nat, s[j].toNat = c := ⟨_, rfl⟩
      have hc256 : c < 256 := by rw [← hcb]; exact UInt8.toNat_lt _
      have HT' : Hid (W.tail s j = (c : Int) :: W.tail s (j + 1)) := by rw [← hcb]; exact HT
      have HE : Hid (W.num (W.tail s j) = W.num (W.tail s (j + 1)) * 256 + c) := by show W.num (W.tail s j) = _; rw [HT'.out]; rfl
      generalize W.num (W.tail s (j + 1)) = x at *
      clear HT HT'
      go_wp2
      go_round
      case rel => exact ⟨j, by omega, rfl, by rw [HE.out]⟩
      case measure => simp [intOf]
    · obtain rfl : k = 0 := by omega
      obtain ⟨r, hr0, hr1, HT0⟩ := W.top4 s hsz
      have HT : Hid (W.num (W.tail s 0) = (s[3].toNat : Int) * 16777216 + r) := HT0
      clear HT0
      obtain ⟨c, hcb⟩ : ∃ c : Nat, s[3].toNat = c := ⟨_, rfl⟩
      have hc256 : c < 256 := by rw [← hcb]; exact UInt8.toNat_lt _
      rw [hcb] at HT
      obtain ⟨x, hx⟩ : ∃ x, x = W.num (W.tail s 0) := ⟨_, rfl⟩
      have HX : Hid (x = W.num (W.tail s 0)) := hx
      rw [← hx]
      clear hx
      by_cases hc : 128 ≤ c
      · have hc' : (128 : Int) ≤ c := by omega
        go_wp2
        go_ret2
        refine ⟨ret2 ?_ rfl, rfl⟩
        have h1 := HX.out
        have h2 := HT.out
        rw [← h1] at h2 ⊢
        simp [W.sx, wrap32]
        rw [IntKind.wrap_u64]
        unfold wrap64
        omega
      · have hc' : ¬ (128 : Int) ≤ c := by omega
        go_wp2
        go_ret2
        refine ⟨ret2 ?_ rfl, rfl⟩
        have h1 := HX.out
        have h2 := HT.out
        rw [← h1] at h2 ⊢
        simp [W.sx, wrap32]
        unfold wrap64
        omega


theorem wrap32_in {v : Int} (h1 : -2147483648 ≤ v) (h2 : v ≤ 2147483647) : wrap32 v = v := by unfold wrap32; omega
theorem sx4_in {v : Int} (h1 : -2147483648 ≤ v) (h2 : v ≤ 2147483647) : W.sx 4 v = v := by
  unfold W.sx
  simp
  exact wrap32_in h1 h2
theorem sx4_mod {v : Int} (h1 : -2147483648 ≤ v) (h2 : v ≤ 2147483647) : W.sx 4 (v % 256 ^ 4) = v := by
  unfold W.sx
  simp
  unfold wrap32
  omega
theorem bytesV4 {v : Int} (h1 : -2147483648 ≤ v) (h2 : v ≤ 2147483647) : W.bytesV v 4 = W.bytesOf v 4 := by
  unfold W.bytesV
  rw [if_pos (by decide), if_pos (sx4_in h1 h2)]
  rfl
theorem tail_str {zs : List Int} (h : ∀ n ∈ zs, 0 ≤ n ∧ n ≤ 255) : W.tail (strOfNums zs) 0 = zs := by
  unfold W.tail
  apply List.ext_getElem (by simp [strOfNums_data])
  intro i h1 h2
  have := h zs[i] (List.getElem_mem _)
  simp [strOfNums_data]
  omega
/-- Four bytes of a number, read. -/
theorem rnumber_back {v : Int} (h1 : -2147483648 ≤ v) (h2 : v ≤ 2147483647) (w : World) :
    Calls Try.prog 17 #[.string (strOfNums (W.bytesV v 4))] w fun e w' => e = .returned (.tuple #[.int .i64 v, .int .i64 0]) ∧ w' = w := by
  rw [bytesV4 h1 h2]
  have h := rnumber4 (strOfNums (W.bytesOf v 4)) (by rw [strOfNums_size, W.bytesOf_length]) w
  rw [tail_str (W.bytesOf_bd v 4), W.num_bytesOf, sx4_mod h1 h2] at h
  exact h
end Go.Proofs.Ytaoklmphcgigeaa

/- What word.Bytes comes to, size by size. -/
import Derived.Test.YtgjingleolhkbaaGreatDoorWordOwn
import Derived.Test.YtgjingleolhkbaaGreatDoorWordBytesMath
namespace Go.Proofs.YtgjingleolhkbaaGreatDoor.J
set_option maxRecDepth 100000
open Go.RowKit

theorem retSI {s t : List Int} {k : IntKind} {a b : Int} (h : s = t) (h' : a = b) : Ending.returned (.tuple #[.string (strOfNums s), .int k a]) = .returned (.tuple #[.string (strOfNums t), .int k b]) := by rw [h, h']

theorem sxl1 (n : Int) : wrap64 (IntKind.u64.wrap (IntKind.u64.wrap n * 72057594037927936)) / 72057594037927936 = W.sx 1 n := by
  rw [W.sx1]
  exact W.sx_u 1 n rfl

set_option maxHeartbeats 400000 in
theorem bytes_no1 (n : Int) (h : ¬ W.sx 1 n = n) (w : World) :
    Calls Tryz.prog 110 #[.int .i64 n, .int .i64 1] w fun e w' => e = .returned (.tuple #[.string (strOfNums []), .int .i64 7]) ∧ Below w.heap.size w w' := by
  have hx : (wrap64 (IntKind.u64.wrap (IntKind.u64.wrap n * 72057594037927936)) / 72057594037927936 != n) = true := by rw [sxl1]; simpa using h
  clear h
  go_enter Tryz.func110, Tryz.ntmps110
  go_wp2
  go_ret2
  exact ⟨rfl, Below.refl _ _⟩

set_option maxHeartbeats 400000 in
theorem bytes_ok1 (n : Int) (h : W.sx 1 n = n) (w : World) :
    Calls Tryz.prog 110 #[.int .i64 n, .int .i64 1] w fun e w' => e = .returned (.tuple #[.string (strOfNums (W.bytesOf n 1)), .int .i64 0]) ∧ Below w.heap.size w w' := by
  obtain ⟨i0, hi, hz0, hz1, hz2⟩ := info_parts infoB
  have hx : (wrap64 (IntKind.u64.wrap (IntKind.u64.wrap n * 72057594037927936)) / 72057594037927936 != n) = false := by rw [sxl1]; simpa using h
  clear h
  go_enter Tryz.func110, Tryz.ntmps110
  go_wp2_with (first | (at_make; refine wpList_make_full _ rfl _ _ 65 rfl w.heap.size 5 i0 (.int .u8 0) 1 Tryz.underlying65 hi hz0 hz1 _ _ _ _ 1 rfl rfl rfl rfl (by omega) (by decide) (Nat.le_refl _) ?_) | go_in)
  intro w1 hown hgrow
  have hb1 : Below w.heap.size w w1 := (Below.refl _ _).grown hgrow (Nat.le_refl _) (by intro k hk; cases hk)
  have hrow : (madeCells #[Value.int IntKind.u8 0] 1).toList = (W.rowK n 1 0).map (Value.int .u8) := by rw [W.rowK_zero, toList_madeCells_one]; simp
  have hown' : w1.ownsRow w.heap.size 5 1 (.slice (some ⟨w.heap.size, 0, none⟩) 1 1) 1 ((W.rowK n 1 0).map (Value.int .u8)) := by rw [← hrow]; exact hown
  clear hown hrow hgrow
  go_wp2
  go_loopw [21] (fun i wr => ∃ k : Nat, k ≤ 1 ∧ i = .int .i64 k ∧ wr.ownsRow w.heap.size 5 1 (.slice (some ⟨w.heap.size, 0, none⟩) 1 1) 1 ((W.rowK n 1 k).map (Value.int .u8)) ∧ Below w.heap.size w wr) (fun i _ => 1 - (intOf i).toNat)
  case atStart => exact ⟨0, by omega, rfl, hown', hb1⟩
  case round =>
    obtain ⟨k, hk, rfl, ho, hb⟩ := hrel
    by_cases hlt : k < 1
    · have hc0 := ho.cellAt k (by omega)
      have hkl : k < (W.rowK n 1 k).length := by rw [W.rowK_length n 1 k hk]; exact hlt
      have hc : wr.cell? ⟨w.heap.size, k, none⟩ = some (.int .u8 ((W.rowK n 1 k)[k])) := by rw [hc0]; simp [hkl]
      have hf := ho.frozenAt k
      have hst := ho.stored k (.int .u8 (n / 2 ^ (8 * k) % 256))
      rw [W.rowK_store n 1 k hlt] at hst
      have HS : Hid _ := hst
      clear hc0 hst
      go_wp2
      go_roundw
      case rel => exact ⟨k + 1, by omega, by go_num, HS.out.1, hb.setCell (Nat.le_refl _) _⟩
      case measure => simp [intOf]; omega
    · obtain rfl : k = 1 := by omega
      rw [W.rowK_full] at ho
      have hcv := conv_own ho
      go_wp2
      go_ret2
      exact ⟨rfl, hb⟩

theorem sxl4 (n : Int) : wrap64 (IntKind.u64.wrap (IntKind.u64.wrap n * 4294967296)) / 4294967296 = W.sx 4 n := by
  rw [W.sx4]
  exact W.sx_u 4 n rfl

set_option maxHeartbeats 400000 in
theorem bytes_no4 (n : Int) (h : ¬ W.sx 4 n = n) (w : World) :
    Calls Tryz.prog 110 #[.int .i64 n, .int .i64 4] w fun e w' => e = .returned (.tuple #[.string (strOfNums []), .int .i64 7]) ∧ Below w.heap.size w w' := by
  have hx : (wrap64 (IntKind.u64.wrap (IntKind.u64.wrap n * 4294967296)) / 4294967296 != n) = true := by rw [sxl4]; simpa using h
  clear h
  go_enter Tryz.func110, Tryz.ntmps110
  go_wp2
  go_ret2
  exact ⟨rfl, Below.refl _ _⟩

set_option maxHeartbeats 400000 in
theorem bytes_ok4 (n : Int) (h : W.sx 4 n = n) (w : World) :
    Calls Tryz.prog 110 #[.int .i64 n, .int .i64 4] w fun e w' => e = .returned (.tuple #[.string (strOfNums (W.bytesOf n 4)), .int .i64 0]) ∧ Below w.heap.size w w' := by
  obtain ⟨i0, hi, hz0, hz1, hz2⟩ := info_parts infoB
  have hx : (wrap64 (IntKind.u64.wrap (IntKind.u64.wrap n * 4294967296)) / 4294967296 != n) = false := by rw [sxl4]; simpa using h
  clear h
  go_enter Tryz.func110, Tryz.ntmps110
  go_wp2_with (first | (at_make; refine wpList_make_full _ rfl _ _ 65 rfl w.heap.size 5 i0 (.int .u8 0) 1 Tryz.underlying65 hi hz0 hz1 _ _ _ _ 4 rfl rfl rfl rfl (by omega) (by decide) (Nat.le_refl _) ?_) | go_in)
  intro w1 hown hgrow
  have hb1 : Below w.heap.size w w1 := (Below.refl _ _).grown hgrow (Nat.le_refl _) (by intro k hk; cases hk)
  have hrow : (madeCells #[Value.int IntKind.u8 0] 4).toList = (W.rowK n 4 0).map (Value.int .u8) := by rw [W.rowK_zero, toList_madeCells_one]; simp
  have hown' : w1.ownsRow w.heap.size 5 1 (.slice (some ⟨w.heap.size, 0, none⟩) 4 4) 4 ((W.rowK n 4 0).map (Value.int .u8)) := by rw [← hrow]; exact hown
  clear hown hrow hgrow
  go_wp2
  go_loopw [21] (fun i wr => ∃ k : Nat, k ≤ 4 ∧ i = .int .i64 k ∧ wr.ownsRow w.heap.size 5 1 (.slice (some ⟨w.heap.size, 0, none⟩) 4 4) 4 ((W.rowK n 4 k).map (Value.int .u8)) ∧ Below w.heap.size w wr) (fun i _ => 4 - (intOf i).toNat)
  case atStart => exact ⟨0, by omega, rfl, hown', hb1⟩
  case round =>
    obtain ⟨k, hk, rfl, ho, hb⟩ := hrel
    by_cases hlt : k < 4
    · have hc0 := ho.cellAt k (by omega)
      have hkl : k < (W.rowK n 4 k).length := by rw [W.rowK_length n 4 k hk]; exact hlt
      have hc : wr.cell? ⟨w.heap.size, k, none⟩ = some (.int .u8 ((W.rowK n 4 k)[k])) := by rw [hc0]; simp [hkl]
      have hf := ho.frozenAt k
      have hst := ho.stored k (.int .u8 (n / 2 ^ (8 * k) % 256))
      rw [W.rowK_store n 4 k hlt] at hst
      have HS : Hid _ := hst
      clear hc0 hst
      go_wp2
      go_roundw
      case rel => exact ⟨k + 1, by omega, by go_num, HS.out.1, hb.setCell (Nat.le_refl _) _⟩
      case measure => simp [intOf]; omega
    · obtain rfl : k = 4 := by omega
      rw [W.rowK_full] at ho
      have hcv := conv_own ho
      go_wp2
      go_ret2
      exact ⟨rfl, hb⟩

theorem sxl8 (n : Int) : wrap64 (IntKind.u64.wrap (IntKind.u64.wrap n)) = W.sx 8 n := by
  rw [W.sx8, W.sx8]
  rfl

set_option maxHeartbeats 400000 in
theorem bytes_no8 (n : Int) (h : ¬ W.sx 8 n = n) (w : World) :
    Calls Tryz.prog 110 #[.int .i64 n, .int .i64 8] w fun e w' => e = .returned (.tuple #[.string (strOfNums []), .int .i64 7]) ∧ Below w.heap.size w w' := by
  have hx : (wrap64 (IntKind.u64.wrap (IntKind.u64.wrap n)) != n) = true := by rw [sxl8]; simpa using h
  clear h
  go_enter Tryz.func110, Tryz.ntmps110
  go_wp2
  go_ret2
  exact ⟨rfl, Below.refl _ _⟩

set_option maxHeartbeats 400000 in
theorem bytes_ok8 (n : Int) (h : W.sx 8 n = n) (w : World) :
    Calls Tryz.prog 110 #[.int .i64 n, .int .i64 8] w fun e w' => e = .returned (.tuple #[.string (strOfNums (W.bytesOf n 8)), .int .i64 0]) ∧ Below w.heap.size w w' := by
  obtain ⟨i0, hi, hz0, hz1, hz2⟩ := info_parts infoB
  have hx : (wrap64 (IntKind.u64.wrap (IntKind.u64.wrap n)) != n) = false := by rw [sxl8]; simpa using h
  clear h
  go_enter Tryz.func110, Tryz.ntmps110
  go_wp2_with (first | (at_make; refine wpList_make_full _ rfl _ _ 65 rfl w.heap.size 5 i0 (.int .u8 0) 1 Tryz.underlying65 hi hz0 hz1 _ _ _ _ 8 rfl rfl rfl rfl (by omega) (by decide) (Nat.le_refl _) ?_) | go_in)
  intro w1 hown hgrow
  have hb1 : Below w.heap.size w w1 := (Below.refl _ _).grown hgrow (Nat.le_refl _) (by intro k hk; cases hk)
  have hrow : (madeCells #[Value.int IntKind.u8 0] 8).toList = (W.rowK n 8 0).map (Value.int .u8) := by rw [W.rowK_zero, toList_madeCells_one]; simp
  have hown' : w1.ownsRow w.heap.size 5 1 (.slice (some ⟨w.heap.size, 0, none⟩) 8 8) 8 ((W.rowK n 8 0).map (Value.int .u8)) := by rw [← hrow]; exact hown
  clear hown hrow hgrow
  go_wp2
  go_loopw [21] (fun i wr => ∃ k : Nat, k ≤ 8 ∧ i = .int .i64 k ∧ wr.ownsRow w.heap.size 5 1 (.slice (some ⟨w.heap.size, 0, none⟩) 8 8) 8 ((W.rowK n 8 k).map (Value.int .u8)) ∧ Below w.heap.size w wr) (fun i _ => 8 - (intOf i).toNat)
  case atStart => exact ⟨0, by omega, rfl, hown', hb1⟩
  case round =>
    obtain ⟨k, hk, rfl, ho, hb⟩ := hrel
    by_cases hlt : k < 8
    · have hc0 := ho.cellAt k (by omega)
      have hkl : k < (W.rowK n 8 k).length := by rw [W.rowK_length n 8 k hk]; exact hlt
      have hc : wr.cell? ⟨w.heap.size, k, none⟩ = some (.int .u8 ((W.rowK n 8 k)[k])) := by rw [hc0]; simp [hkl]
      have hf := ho.frozenAt k
      have hst := ho.stored k (.int .u8 (n / 2 ^ (8 * k) % 256))
      rw [W.rowK_store n 8 k hlt] at hst
      have HS : Hid _ := hst
      clear hc0 hst
      go_wp2
      go_roundw
      case rel => exact ⟨k + 1, by omega, by go_num, HS.out.1, hb.setCell (Nat.le_refl _) _⟩
      case measure => simp [intOf]; omega
    · obtain rfl : k = 8 := by omega
      rw [W.rowK_full] at ho
      have hcv := conv_own ho
      go_wp2
      go_ret2
      exact ⟨rfl, hb⟩

set_option maxHeartbeats 400000 in
theorem bytes_bad (n size : Int) (h : W.isSz size = false) (w : World) :
    Calls Tryz.prog 110 #[.int .i64 n, .int .i64 size] w fun e w' => e = .returned (.tuple #[.string (strOfNums []), .int .i64 1]) ∧ Below w.heap.size w w' := by
  simp only [W.isSz, Bool.or_eq_false_iff] at h
  obtain ⟨⟨h1, h4⟩, h8⟩ := h
  go_enter Tryz.func110, Tryz.ntmps110
  go_wp2
  go_ret2
  exact ⟨rfl, Below.refl _ _⟩

theorem bytes_any (n size : Int) (w : World) :
    Calls Tryz.prog 110 #[.int .i64 n, .int .i64 size] w fun e w' => e = .returned (.tuple #[.string (strOfNums (W.bytesV n size)), .int .i64 (W.bytesE n size)]) ∧ Below w.heap.size w w' := by
  cases hs : W.isSz size
  · refine (bytes_bad n size hs w).mono ?_
    rintro e w' ⟨rfl, hb⟩
    exact ⟨retSI (by simp [W.bytesV, hs]) (by simp [W.bytesE, hs]), hb⟩
  · have hs' := hs
    simp [W.isSz] at hs'
    rcases hs' with (rfl | rfl) | rfl
    · by_cases h : W.sx 1 n = n
      · refine (bytes_ok1 n h w).mono ?_
        rintro e w' ⟨rfl, hb⟩
        exact ⟨retSI (by simp [W.bytesV, hs, h]) (by simp [W.bytesE, hs, h]), hb⟩
      · refine (bytes_no1 n h w).mono ?_
        rintro e w' ⟨rfl, hb⟩
        exact ⟨retSI (by simp [W.bytesV, hs, h]) (by simp [W.bytesE, hs, h]), hb⟩
    · by_cases h : W.sx 4 n = n
      · refine (bytes_ok4 n h w).mono ?_
        rintro e w' ⟨rfl, hb⟩
        exact ⟨retSI (by simp [W.bytesV, hs, h]) (by simp [W.bytesE, hs, h]), hb⟩
      · refine (bytes_no4 n h w).mono ?_
        rintro e w' ⟨rfl, hb⟩
        exact ⟨retSI (by simp [W.bytesV, hs, h]) (by simp [W.bytesE, hs, h]), hb⟩
    · by_cases h : W.sx 8 n = n
      · refine (bytes_ok8 n h w).mono ?_
        rintro e w' ⟨rfl, hb⟩
        exact ⟨retSI (by simp [W.bytesV, hs, h]) (by simp [W.bytesE, hs, h]), hb⟩
      · refine (bytes_no8 n h w).mono ?_
        rintro e w' ⟨rfl, hb⟩
        exact ⟨retSI (by simp [W.bytesV, hs, h]) (by simp [W.bytesE, hs, h]), hb⟩

end Go.Proofs.YtgjingleolhkbaaGreatDoor.J

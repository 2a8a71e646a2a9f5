/- What the document's Bytes comes to, size by size. -/
import Derived.Test.YtgjingleolhkbaaGreatDoorTAn
namespace Go.Proofs.YtgjingleolhkbaaGreatDoor.J
set_option maxRecDepth 100000
open Go.RowKit

theorem sized8 (w : World) : Calls Tryz.prog 86 #[.int .i64 8] w fun e w' => e = .returned (.bool true) ∧ w = w' := by
 go_enter Tryz.func86, Tryz.ntmps86
 go_wp2
 go_ret
 exact ⟨rfl, rfl⟩

set_option maxHeartbeats 400000 in
theorem rbytes_no1 (n : Int) (h : ¬ W.sx 1 n = n) (w : World) :
  Calls Tryz.prog 78 #[.int .i64 n, .int .i64 1] w fun e w' => e = .returned (.tuple #[.string (strOfNums []), .int .i64 7]) ∧ Below w.heap.size w w' := by
 simp [W.sx] at h
 rcases (show n < -128 ∨ 128 ≤ n by omega) with h1 | h1
 ·clear h
  go_enter Tryz.func78, Tryz.ntmps78
  go_wp2
  go_ret2
  exact ⟨rfl, Below.refl _ _⟩
 ·clear h
  have h2 : ¬ n < -128 := by omega
  go_enter Tryz.func78, Tryz.ntmps78
  go_wp2
  go_ret2
  exact ⟨rfl, Below.refl _ _⟩

set_option maxRecDepth 100000 in
set_option maxHeartbeats 1000000 in
theorem rbytes_ok1 (n : Int) (h : W.sx 1 n = n) (w : World) :
  Calls Tryz.prog 78 #[.int .i64 n, .int .i64 1] w fun e w' => e = .returned (.tuple #[.string (strOfNums (W.bytesOf n 1)), .int .i64 0]) ∧ Below w.heap.size w w' := by
 obtain ⟨i0, hi, hz0, hz1, hz2⟩ := info_parts infoB
 have hb1 : ¬ n < -128 := by simp [W.sx] at h; omega
 have hb2 : ¬ 128 ≤ n := by simp [W.sx] at h; omega
 clear h
 obtain ⟨z, hz⟩ : ∃ z, IntKind.u64.wrap n = z := ⟨_, rfl⟩
 have HZ : Hid (z = n % 18446744073709551616) := by show z = _; rw [← hz, IntKind.wrap_u64]
 go_enter Tryz.func78, Tryz.ntmps78
 go_wp2
 go_loopw [7, 8, 9] (fun t u i wr => ∃ (k : Nat) (x : Int), k ≤ 1 ∧ i = .int .i64 k ∧ u = .int .u64 x ∧ 0 ≤ x ∧ Hid (x ≤ 18446744073709551615 ∧ x = z / 256 ^ k) ∧ wr.ownsRow w.heap.size 5 1 t k ((W.bytesOf n k).map (Value.int .u8)) ∧ Below w.heap.size w wr) (fun _ _ i _ => 1 - (intOf i).toNat)
 case atStart => exact ⟨0, z, by omega, rfl, rfl, by have := HZ.out; omega, ⟨by have := HZ.out; omega, by simp⟩, World.ownsRow_nil _ _ _ _, Below.refl _ _⟩
 case round =>
  obtain ⟨k, x, hk, rfl, rfl, hx0, HX, ho, hb⟩ := hrel
  clear hz
  by_cases hlt : k < 1
  ·have hq : IntKind.u64.wrap (x.tdiv 256) = x / 256 := by have := HX.out.1; rw [Int.tdiv_eq_ediv_of_nonneg hx0, IntKind.wrap_u64]; omega
   have HB : Hid (x % 256 = W.byteAt n k) := by show x % 256 = _; rw [HX.out.2, HZ.out]; exact W.byteU n k (by omega)
   go_wp2_with (first | (at_builtin; refine wpList_append_own _ rfl _ _ 65 rfl w.heap.size 5 i0 (.int .u8 0) 1 1 Tryz.underlying65 hi hz0 hz1 hz2 rfl (by decide) _ _ _ rfl (ho.alloc _) ⟨wr.heap.size, 0, none⟩ 1 1 [.int .u8 (x % 256)] rfl rfl (cell_one_new _ _ _) (by intro u hu; simp at hu; subst hu; rfl) (by unfold maxLen; omega) (by omega) (by have := hb.size; simp; omega) ?_) | go_in)
   intro v1 w1 ho1 hg1 _
   have hbx : Below w.heap.size w w1 := below_own (hb.alloc (by have := hb.size; omega) _) (ho.alloc _) hg1 (by have := hb.size; simp; omega)
   have ho2 : w1.ownsRow w.heap.size 5 1 v1 (k + 1) ((W.bytesOf n (k + 1)).map (Value.int .u8)) := by rw [W.bytesOf_succ, ← HB.out]; simpa using ho1
   clear hg1 ho ho1
   go_wp2
   go_roundw
   case rel => exact ⟨k + 1, x / 256, by omega, by go_num, rfl, by omega, ⟨by have := HX.out.1; omega, by rw [HX.out.2, W.pow256_succ]⟩, ho2, hbx⟩
   case measure => simp [intOf]; omega
  ·obtain rfl : k = 1 := by omega
   have hcv := conv_own ho
   clear ho
   go_wp2
   go_ret2
   exact ⟨rfl, hb⟩

set_option maxHeartbeats 400000 in
theorem rbytes_no4 (n : Int) (h : ¬ W.sx 4 n = n) (w : World) :
  Calls Tryz.prog 78 #[.int .i64 n, .int .i64 4] w fun e w' => e = .returned (.tuple #[.string (strOfNums []), .int .i64 7]) ∧ Below w.heap.size w w' := by
 simp [W.sx, wrap32] at h
 rcases (show n < -2147483648 ∨ 2147483648 ≤ n by omega) with h1 | h1
 ·clear h
  go_enter Tryz.func78, Tryz.ntmps78
  go_wp2
  go_ret2
  exact ⟨rfl, Below.refl _ _⟩
 ·clear h
  have h2 : ¬ n < -2147483648 := by omega
  go_enter Tryz.func78, Tryz.ntmps78
  go_wp2
  go_ret2
  exact ⟨rfl, Below.refl _ _⟩

set_option maxRecDepth 100000 in
set_option maxHeartbeats 1000000 in
theorem rbytes_ok4 (n : Int) (h : W.sx 4 n = n) (w : World) :
  Calls Tryz.prog 78 #[.int .i64 n, .int .i64 4] w fun e w' => e = .returned (.tuple #[.string (strOfNums (W.bytesOf n 4)), .int .i64 0]) ∧ Below w.heap.size w w' := by
 obtain ⟨i0, hi, hz0, hz1, hz2⟩ := info_parts infoB
 have hb1 : ¬ n < -2147483648 := by simp [W.sx, wrap32] at h; omega
 have hb2 : ¬ 2147483648 ≤ n := by simp [W.sx, wrap32] at h; omega
 clear h
 obtain ⟨z, hz⟩ : ∃ z, IntKind.u64.wrap n = z := ⟨_, rfl⟩
 have HZ : Hid (z = n % 18446744073709551616) := by show z = _; rw [← hz, IntKind.wrap_u64]
 go_enter Tryz.func78, Tryz.ntmps78
 go_wp2
 go_loopw [7, 8, 9] (fun t u i wr => ∃ (k : Nat) (x : Int), k ≤ 4 ∧ i = .int .i64 k ∧ u = .int .u64 x ∧ 0 ≤ x ∧ Hid (x ≤ 18446744073709551615 ∧ x = z / 256 ^ k) ∧ wr.ownsRow w.heap.size 5 1 t k ((W.bytesOf n k).map (Value.int .u8)) ∧ Below w.heap.size w wr) (fun _ _ i _ => 4 - (intOf i).toNat)
 case atStart => exact ⟨0, z, by omega, rfl, rfl, by have := HZ.out; omega, ⟨by have := HZ.out; omega, by simp⟩, World.ownsRow_nil _ _ _ _, Below.refl _ _⟩
 case round =>
  obtain ⟨k, x, hk, rfl, rfl, hx0, HX, ho, hb⟩ := hrel
  clear hz
  by_cases hlt : k < 4
  ·have hq : IntKind.u64.wrap (x.tdiv 256) = x / 256 := by have := HX.out.1; rw [Int.tdiv_eq_ediv_of_nonneg hx0, IntKind.wrap_u64]; omega
   have HB : Hid (x % 256 = W.byteAt n k) := by show x % 256 = _; rw [HX.out.2, HZ.out]; exact W.byteU n k (by omega)
   go_wp2_with (first | (at_builtin; refine wpList_append_own _ rfl _ _ 65 rfl w.heap.size 5 i0 (.int .u8 0) 1 1 Tryz.underlying65 hi hz0 hz1 hz2 rfl (by decide) _ _ _ rfl (ho.alloc _) ⟨wr.heap.size, 0, none⟩ 1 1 [.int .u8 (x % 256)] rfl rfl (cell_one_new _ _ _) (by intro u hu; simp at hu; subst hu; rfl) (by unfold maxLen; omega) (by omega) (by have := hb.size; simp; omega) ?_) | go_in)
   intro v1 w1 ho1 hg1 _
   have hbx : Below w.heap.size w w1 := below_own (hb.alloc (by have := hb.size; omega) _) (ho.alloc _) hg1 (by have := hb.size; simp; omega)
   have ho2 : w1.ownsRow w.heap.size 5 1 v1 (k + 1) ((W.bytesOf n (k + 1)).map (Value.int .u8)) := by rw [W.bytesOf_succ, ← HB.out]; simpa using ho1
   clear hg1 ho ho1
   go_wp2
   go_roundw
   case rel => exact ⟨k + 1, x / 256, by omega, by go_num, rfl, by omega, ⟨by have := HX.out.1; omega, by rw [HX.out.2, W.pow256_succ]⟩, ho2, hbx⟩
   case measure => simp [intOf]; omega
  ·obtain rfl : k = 4 := by omega
   have hcv := conv_own ho
   clear ho
   go_wp2
   go_ret2
   exact ⟨rfl, hb⟩

set_option maxRecDepth 100000 in
set_option maxHeartbeats 1000000 in
theorem rbytes_ok8 (n : Int) (w : World) :
  Calls Tryz.prog 78 #[.int .i64 n, .int .i64 8] w fun e w' => e = .returned (.tuple #[.string (strOfNums (W.bytesOf n 8)), .int .i64 0]) ∧ Below w.heap.size w w' := by
 obtain ⟨i0, hi, hz0, hz1, hz2⟩ := info_parts infoB
 obtain ⟨z, hz⟩ : ∃ z, IntKind.u64.wrap n = z := ⟨_, rfl⟩
 have HZ : Hid (z = n % 18446744073709551616) := by show z = _; rw [← hz, IntKind.wrap_u64]
 go_enter Tryz.func78, Tryz.ntmps78
 go_wp2_with fail
 refine (sized8 _).mono ?_
 rintro e w0 ⟨rfl, rfl⟩
 go_wp2
 go_loopw [7, 8, 9] (fun t u i wr => ∃ (k : Nat) (x : Int), k ≤ 8 ∧ i = .int .i64 k ∧ u = .int .u64 x ∧ 0 ≤ x ∧ Hid (x ≤ 18446744073709551615 ∧ x = z / 256 ^ k) ∧ wr.ownsRow w.heap.size 5 1 t k ((W.bytesOf n k).map (Value.int .u8)) ∧ Below w.heap.size w wr) (fun _ _ i _ => 8 - (intOf i).toNat)
 case atStart => exact ⟨0, z, by omega, rfl, rfl, by have := HZ.out; omega, ⟨by have := HZ.out; omega, by simp⟩, World.ownsRow_nil _ _ _ _, Below.refl _ _⟩
 case round =>
  obtain ⟨k, x, hk, rfl, rfl, hx0, HX, ho, hb⟩ := hrel
  clear hz
  by_cases hlt : k < 8
  ·have hq : IntKind.u64.wrap (x.tdiv 256) = x / 256 := by have := HX.out.1; rw [Int.tdiv_eq_ediv_of_nonneg hx0, IntKind.wrap_u64]; omega
   have HB : Hid (x % 256 = W.byteAt n k) := by show x % 256 = _; rw [HX.out.2, HZ.out]; exact W.byteU n k (by omega)
   go_wp2_with (first | (at_builtin; refine wpList_append_own _ rfl _ _ 65 rfl w.heap.size 5 i0 (.int .u8 0) 1 1 Tryz.underlying65 hi hz0 hz1 hz2 rfl (by decide) _ _ _ rfl (ho.alloc _) ⟨wr.heap.size, 0, none⟩ 1 1 [.int .u8 (x % 256)] rfl rfl (cell_one_new _ _ _) (by intro u hu; simp at hu; subst hu; rfl) (by unfold maxLen; omega) (by omega) (by have := hb.size; simp; omega) ?_) | go_in)
   intro v1 w1 ho1 hg1 _
   have hbx : Below w.heap.size w w1 := below_own (hb.alloc (by have := hb.size; omega) _) (ho.alloc _) hg1 (by have := hb.size; simp; omega)
   have ho2 : w1.ownsRow w.heap.size 5 1 v1 (k + 1) ((W.bytesOf n (k + 1)).map (Value.int .u8)) := by rw [W.bytesOf_succ, ← HB.out]; simpa using ho1
   clear hg1 ho ho1
   go_wp2
   go_roundw
   case rel => exact ⟨k + 1, x / 256, by omega, by go_num, rfl, by omega, ⟨by have := HX.out.1; omega, by rw [HX.out.2, W.pow256_succ]⟩, ho2, hbx⟩
   case measure => simp [intOf]; omega
  ·obtain rfl : k = 8 := by omega
   have hcv := conv_own ho
   clear ho
   go_wp2
   go_ret2
   exact ⟨rfl, hb⟩

set_option maxHeartbeats 400000 in
theorem rbytes_bad (n size : Int) (h : W.isSz size = false) (w : World) :
  Calls Tryz.prog 78 #[.int .i64 n, .int .i64 size] w fun e w' => e = .returned (.tuple #[.string (strOfNums []), .int .i64 1]) ∧ Below w.heap.size w w' := by
 simp only [W.isSz, Bool.or_eq_false_iff] at h
 obtain ⟨⟨h1, h4⟩, h8⟩ := h
 go_enter Tryz.func78, Tryz.ntmps78
 go_wp2
 go_ret2
 exact ⟨rfl, Below.refl _ _⟩

theorem rbytes_any (n size : Int) (hn : (Lit.int .i64 n).wf = true) (w : World) :
  Calls Tryz.prog 78 #[.int .i64 n, .int .i64 size] w fun e w' => e = .returned (.tuple #[.string (strOfNums (W.bytesV n size)), .int .i64 (W.bytesE n size)]) ∧ Below w.heap.size w w' := by
 cases hs : W.isSz size
 ·refine (rbytes_bad n size hs w).mono ?_
  rintro e w' ⟨rfl, hb⟩
  exact ⟨retSI (by simp [W.bytesV, hs]) (by simp [W.bytesE, hs]), hb⟩
 ·have hs' := hs
  simp [W.isSz] at hs'
  rcases hs' with (rfl | rfl) | rfl
  ·by_cases h : W.sx 1 n = n
   ·refine (rbytes_ok1 n h w).mono ?_
    rintro e w' ⟨rfl, hb⟩
    exact ⟨retSI (by simp [W.bytesV, hs, h]) (by simp [W.bytesE, hs, h]), hb⟩
   ·refine (rbytes_no1 n h w).mono ?_
    rintro e w' ⟨rfl, hb⟩
    exact ⟨retSI (by simp [W.bytesV, hs, h]) (by simp [W.bytesE, hs, h]), hb⟩
  ·by_cases h : W.sx 4 n = n
   ·refine (rbytes_ok4 n h w).mono ?_
    rintro e w' ⟨rfl, hb⟩
    exact ⟨retSI (by simp [W.bytesV, hs, h]) (by simp [W.bytesE, hs, h]), hb⟩
   ·refine (rbytes_no4 n h w).mono ?_
    rintro e w' ⟨rfl, hb⟩
    exact ⟨retSI (by simp [W.bytesV, hs, h]) (by simp [W.bytesE, hs, h]), hb⟩
  ·have h : W.sx 8 n = n := by
    simp [Lit.wf, IntKind.min, IntKind.max, IntKind.signed, IntKind.bits] at hn
    simp [W.sx]
    unfold wrap64
    omega
   refine (rbytes_ok8 n w).mono ?_
   rintro e w' ⟨rfl, hb⟩
   exact ⟨retSI (by simp [W.bytesV, hs, h]) (by simp [W.bytesE, hs, h]), hb⟩

end Go.Proofs.YtgjingleolhkbaaGreatDoor.J

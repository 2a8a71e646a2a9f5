/- A row of bytes that a call has made, as a string. -/
import Derived.Test.YtgjingleolhkbaaGreatDoorProg
import Derived.WalkKit
import Derived.WalkSpells
import Derived.WalkLawsBesides
import Derived.Laws.BytesArg
import Derived.Maps.AppendAt
import Derived.Test.YtgjingleolhkbaaGreatDoorTAd
import Derived.Test.YtgjingleolhkbaaGreatDoorTAl
import Derived.Laws.BitsAllLaws
import Derived.Test.YtgjingleolhkbaaGreatDoorTAm
import Derived.Deep.RegionHeld3
import Derived.Deep.DrawnRows
namespace Go.Proofs.YtgjingleolhkbaaGreatDoor.J
open Go.RowKit

theorem infoB : (Tryz.prog.info? 5).map (fun i => (i.zero, i.size, i.bytes)) = some (some (.int .u8 0), 1, 1) := by kernel_rfl

theorem conv_own {w : World} {base n : Nat} {v : Value} {xs : List Int} (h : w.ownsRow base 5 1 v n (xs.map (Value.int .u8))) :
  (convert 65 9 v).run Tryz.prog w = .ok (.string (strOfNums xs)) w := by
 have hl := h.1
 rcases h.2 with ⟨rfl, rfl⟩ | ⟨g, cap, cur, rfl, hb, hg, hnc, hcm, hcs, htake⟩
 ·have hx : xs = [] := by simpa using hl
  subst hx
  exact run_convert_bytes_nil (P := Tryz.prog) w 65 5 Tryz.underlying65 Tryz.underlying5 0 0 9 Tryz.underlying9
 ·refine run_convert_bytes_arg (P := Tryz.prog) w 65 5 Tryz.underlying65 Tryz.underlying5 g 0 n cap xs (by simpa using hl) ?_ 9 Tryz.underlying9
  intro i hi
  have hc := h.cellAt i (by simpa using hi)
  rw [Nat.zero_add, hc]
  have hi' : i < xs.length := by simp at hl; omega
  simp [List.getD, hi']

theorem below_own {w w1 w2 : World} {B : Nat} {v : Value} {e : TypeId} {size n : Nat} {xs : List Value} (h : Below B w w1) (o : w1.ownsRow B e size v n xs) (hg : w1.grownBy w2 v.ownBlock) (hB : B ≤ w1.heap.size) : Below B w w2 :=
 h.grown hg hB (fun k hk => (o.lt k hk).1)

end Go.Proofs.YtgjingleolhkbaaGreatDoor.J

/- What word.Bytes comes to, size by size. -/
namespace Go.Proofs.YtgjingleolhkbaaGreatDoor.J
set_option maxRecDepth 100000
open Go.RowKit

theorem retSI {s t : List Int} {k : IntKind} {a b : Int} (h : s = t) (h' : a = b) : Ending.returned (.tuple #[.string (strOfNums s), .int k a]) = .returned (.tuple #[.string (strOfNums t), .int k b]) := by rw [h, h']

theorem sxl1 (n : Int) : wrap64 (IntKind.u64.wrap (IntKind.u64.wrap n * 72057594037927936)) / 72057594037927936 = W.sx 1 n := by
 rw [W.sx1]
 exact W.sx_u 1 n rfl

set_option maxHeartbeats 400000 in
theorem bytes_no1 (n : Int) (h : ¬ W.sx 1 n = n) (w : World) :
  Calls Tryz.prog 110 #[.int .i64 n, .int .i64 1] w fun e w' => e = .returned (.tuple #[.string (strOfNums []), .int .i64 7]) ∧ Below w.heap.size w w' := by
 have hx : (wrap64 (IntKind.u64.wrap (IntKind.u64.wrap n * 72057594037927936)) / 72057594037927936 != n) = true := by rw [sxl1]; simpa using h
 clear h
 go_enter Tryz.func110, Tryz.ntmps110
 go_wp2
 go_ret2
 exact ⟨rfl, Below.refl _ _⟩

set_option maxHeartbeats 400000 in
theorem bytes_ok1 (n : Int) (h : W.sx 1 n = n) (w : World) :
  Calls Tryz.prog 110 #[.int .i64 n, .int .i64 1] w fun e w' => e = .returned (.tuple #[.string (strOfNums (W.bytesOf n 1)), .int .i64 0]) ∧ Below w.heap.size w w' := by
 obtain ⟨i0, hi, hz0, hz1, hz2⟩ := info_parts infoB
 have hx : (wrap64 (IntKind.u64.wrap (IntKind.u64.wrap n * 72057594037927936)) / 72057594037927936 != n) = false := by rw [sxl1]; simpa using h
 clear h
 go_enter Tryz.func110, Tryz.ntmps110
 go_wp2_with (first | (at_make; refine wpList_make_full _ rfl _ _ 65 rfl w.heap.size 5 i0 (.int .u8 0) 1 Tryz.underlying65 hi hz0 hz1 _ _ _ _ 1 rfl rfl rfl rfl (by omega) (by decide) (Nat.le_refl _) ?_) | go_in)
 intro w1 hown hgrow
 have hb1 : Below w.heap.size w w1 := (Below.refl _ _).grown hgrow (Nat.le_refl _) (by intro k hk; cases hk)
 have hrow : (madeCells #[Value.int IntKind.u8 0] 1).toList = (W.rowK n 1 0).map (Value.int .u8) := by rw [W.rowK_zero, toList_madeCells_one]; simp
 have hown' : w1.ownsRow w.heap.size 5 1 (.slice (some ⟨w.heap.size, 0, none⟩) 1 1) 1 ((W.rowK n 1 0).map (Value.int .u8)) := by rw [← hrow]; exact hown
 clear hown hrow hgrow
 go_wp2
 go_loopw [21] (fun i wr => ∃ k : Nat, k ≤ 1 ∧ i = .int .i64 k ∧ wr.ownsRow w.heap.size 5 1 (.slice (some ⟨w.heap.size, 0, none⟩) 1 1) 1 ((W.rowK n 1 k).map (Value.int .u8)) ∧ Below w.heap.size w wr) (fun i _ => 1 - (intOf i).toNat)
 case atStart => exact ⟨0, by omega, rfl, hown', hb1⟩
 case round =>
  obtain ⟨k, hk, rfl, ho, hb⟩ := hrel
  by_cases hlt : k < 1
  ·have hc0 := ho.cellAt k (by omega)
   have hkl : k < (W.rowK n 1 k).length := by rw [W.rowK_length n 1 k hk]; exact hlt
   have hc : wr.cell? ⟨w.heap.size, k, none⟩ = some (.int .u8 ((W.rowK n 1 k)[k])) := by rw [hc0]; simp [hkl]
   have hf := ho.frozenAt k
   have hst := ho.stored k (.int .u8 (n / 2 ^ (8 * k) % 256))
   rw [W.rowK_store n 1 k hlt] at hst
   have HS : Hid _ := hst
   clear hc0 hst
   go_wp2
   go_roundw
   case rel => exact ⟨k + 1, by omega, by go_num, HS.out.1, hb.setCell (Nat.le_refl _) _⟩
   case measure => simp [intOf]; omega
  ·obtain rfl : k = 1 := by omega
   rw [W.rowK_full] at ho
   have hcv := conv_own ho
   go_wp2
   go_ret2
   exact ⟨rfl, hb⟩

theorem sxl4 (n : Int) : wrap64 (IntKind.u64.wrap (IntKind.u64.wrap n * 4294967296)) / 4294967296 = W.sx 4 n := by
 rw [W.sx4]
 exact W.sx_u 4 n rfl

set_option maxHeartbeats 400000 in
theorem bytes_no4 (n : Int) (h : ¬ W.sx 4 n = n) (w : World) :
  Calls Tryz.prog 110 #[.int .i64 n, .int .i64 4] w fun e w' => e = .returned (.tuple #[.string (strOfNums []), .int .i64 7]) ∧ Below w.heap.size w w' := by
 have hx : (wrap64 (IntKind.u64.wrap (IntKind.u64.wrap n * 4294967296)) / 4294967296 != n) = true := by rw [sxl4]; simpa using h
 clear h
 go_enter Tryz.func110, Tryz.ntmps110
 go_wp2
 go_ret2
 exact ⟨rfl, Below.refl _ _⟩

set_option maxHeartbeats 400000 in
theorem bytes_ok4 (n : Int) (h : W.sx 4 n = n) (w : World) :
  Calls Tryz.prog 110 #[.int .i64 n, .int .i64 4] w fun e w' => e = .returned (.tuple #[.string (strOfNums (W.bytesOf n 4)), .int .i64 0]) ∧ Below w.heap.size w w' := by
 obtain ⟨i0, hi, hz0, hz1, hz2⟩ := info_parts infoB
 have hx : (wrap64 (IntKind.u64.wrap (IntKind.u64.wrap n * 4294967296)) / 4294967296 != n) = false := by rw [sxl4]; simpa using h
 clear h
 go_enter Tryz.func110, Tryz.ntmps110
 go_wp2_with (first | (at_make; refine wpList_make_full _ rfl _ _ 65 rfl w.heap.size 5 i0 (.int .u8 0) 1 Tryz.underlying65 hi hz0 hz1 _ _ _ _ 4 rfl rfl rfl rfl (by omega) (by decide) (Nat.le_refl _) ?_) | go_in)
 intro w1 hown hgrow
 have hb1 : Below w.heap.size w w1 := (Below.refl _ _).grown hgrow (Nat.le_refl _) (by intro k hk; cases hk)
 have hrow : (madeCells #[Value.int IntKind.u8 0] 4).toList = (W.rowK n 4 0).map (Value.int .u8) := by rw [W.rowK_zero, toList_madeCells_one]; simp
 have hown' : w1.ownsRow w.heap.size 5 1 (.slice (some ⟨w.heap.size, 0, none⟩) 4 4) 4 ((W.rowK n 4 0).map (Value.int .u8)) := by rw [← hrow]; exact hown
 clear hown hrow hgrow
 go_wp2
 go_loopw [21] (fun i wr => ∃ k : Nat, k ≤ 4 ∧ i = .int .i64 k ∧ wr.ownsRow w.heap.size 5 1 (.slice (some ⟨w.heap.size, 0, none⟩) 4 4) 4 ((W.rowK n 4 k).map (Value.int .u8)) ∧ Below w.heap.size w wr) (fun i _ => 4 - (intOf i).toNat)
 case atStart => exact ⟨0, by omega, rfl, hown', hb1⟩
 case round =>
  obtain ⟨k, hk, rfl, ho, hb⟩ := hrel
  by_cases hlt : k < 4
  ·have hc0 := ho.cellAt k (by omega)
   have hkl : k < (W.rowK n 4 k).length := by rw [W.rowK_length n 4 k hk]; exact hlt
   have hc : wr.cell? ⟨w.heap.size, k, none⟩ = some (.int .u8 ((W.rowK n 4 k)[k])) := by rw [hc0]; simp [hkl]
   have hf := ho.frozenAt k
   have hst := ho.stored k (.int .u8 (n / 2 ^ (8 * k) % 256))
   rw [W.rowK_store n 4 k hlt] at hst
   have HS : Hid _ := hst
   clear hc0 hst
   go_wp2
   go_roundw
   case rel => exact ⟨k + 1, by omega, by go_num, HS.out.1, hb.setCell (Nat.le_refl _) _⟩
   case measure => simp [intOf]; omega
  ·obtain rfl : k = 4 := by omega
   rw [W.rowK_full] at ho
   have hcv := conv_own ho
   go_wp2
   go_ret2
   exact ⟨rfl, hb⟩

theorem sxl8 (n : Int) : wrap64 (IntKind.u64.wrap (IntKind.u64.wrap n)) = W.sx 8 n := by
 rw [W.sx8, W.sx8]
 rfl

set_option maxHeartbeats 400000 in
theorem bytes_no8 (n : Int) (h : ¬ W.sx 8 n = n) (w : World) :
  Calls Tryz.prog 110 #[.int .i64 n, .int .i64 8] w fun e w' => e = .returned (.tuple #[.string (strOfNums []), .int .i64 7]) ∧ Below w.heap.size w w' := by
 have hx : (wrap64 (IntKind.u64.wrap (IntKind.u64.wrap n)) != n) = true := by rw [sxl8]; simpa using h
 clear h
 go_enter Tryz.func110, Tryz.ntmps110
 go_wp2
 go_ret2
 exact ⟨rfl, Below.refl _ _⟩

set_option maxHeartbeats 400000 in
theorem bytes_ok8 (n : Int) (h : W.sx 8 n = n) (w : World) :
  Calls Tryz.prog 110 #[.int .i64 n, .int .i64 8] w fun e w' => e = .returned (.tuple #[.string (strOfNums (W.bytesOf n 8)), .int .i64 0]) ∧ Below w.heap.size w w' := by
 obtain ⟨i0, hi, hz0, hz1, hz2⟩ := info_parts infoB
 have hx : (wrap64 (IntKind.u64.wrap (IntKind.u64.wrap n)) != n) = false := by rw [sxl8]; simpa using h
 clear h
 go_enter Tryz.func110, Tryz.ntmps110
 go_wp2_with (first | (at_make; refine wpList_make_full _ rfl _ _ 65 rfl w.heap.size 5 i0 (.int .u8 0) 1 Tryz.underlying65 hi hz0 hz1 _ _ _ _ 8 rfl rfl rfl rfl (by omega) (by decide) (Nat.le_refl _) ?_) | go_in)
 intro w1 hown hgrow
 have hb1 : Below w.heap.size w w1 := (Below.refl _ _).grown hgrow (Nat.le_refl _) (by intro k hk; cases hk)
 have hrow : (madeCells #[Value.int IntKind.u8 0] 8).toList = (W.rowK n 8 0).map (Value.int .u8) := by rw [W.rowK_zero, toList_madeCells_one]; simp
 have hown' : w1.ownsRow w.heap.size 5 1 (.slice (some ⟨w.heap.size, 0, none⟩) 8 8) 8 ((W.rowK n 8 0).map (Value.int .u8)) := by rw [← hrow]; exact hown
 clear hown hrow hgrow
 go_wp2
 go_loopw [21] (fun i wr => ∃ k : Nat, k ≤ 8 ∧ i = .int .i64 k ∧ wr.ownsRow w.heap.size 5 1 (.slice (some ⟨w.heap.size, 0, none⟩) 8 8) 8 ((W.rowK n 8 k).map (Value.int .u8)) ∧ Below w.heap.size w wr) (fun i _ => 8 - (intOf i).toNat)
 case atStart => exact ⟨0, by omega, rfl, hown', hb1⟩
 case round =>
  obtain ⟨k, hk, rfl, ho, hb⟩ := hrel
  by_cases hlt : k < 8
  ·have hc0 := ho.cellAt k (by omega)
   have hkl : k < (W.rowK n 8 k).length := by rw [W.rowK_length n 8 k hk]; exact hlt
   have hc : wr.cell? ⟨w.heap.size, k, none⟩ = some (.int .u8 ((W.rowK n 8 k)[k])) := by rw [hc0]; simp [hkl]
   have hf := ho.frozenAt k
   have hst := ho.stored k (.int .u8 (n / 2 ^ (8 * k) % 256))
   rw [W.rowK_store n 8 k hlt] at hst
   have HS : Hid _ := hst
   clear hc0 hst
   go_wp2
   go_roundw
   case rel => exact ⟨k + 1, by omega, by go_num, HS.out.1, hb.setCell (Nat.le_refl _) _⟩
   case measure => simp [intOf]; omega
  ·obtain rfl : k = 8 := by omega
   rw [W.rowK_full] at ho
   have hcv := conv_own ho
   go_wp2
   go_ret2
   exact ⟨rfl, hb⟩

set_option maxHeartbeats 400000 in
theorem bytes_bad (n size : Int) (h : W.isSz size = false) (w : World) :
  Calls Tryz.prog 110 #[.int .i64 n, .int .i64 size] w fun e w' => e = .returned (.tuple #[.string (strOfNums []), .int .i64 1]) ∧ Below w.heap.size w w' := by
 simp only [W.isSz, Bool.or_eq_false_iff] at h
 obtain ⟨⟨h1, h4⟩, h8⟩ := h
 go_enter Tryz.func110, Tryz.ntmps110
 go_wp2
 go_ret2
 exact ⟨rfl, Below.refl _ _⟩

theorem bytes_any (n size : Int) (w : World) :
  Calls Tryz.prog 110 #[.int .i64 n, .int .i64 size] w fun e w' => e = .returned (.tuple #[.string (strOfNums (W.bytesV n size)), .int .i64 (W.bytesE n size)]) ∧ Below w.heap.size w w' := by
 cases hs : W.isSz size
 ·refine (bytes_bad n size hs w).mono ?_
  rintro e w' ⟨rfl, hb⟩
  exact ⟨retSI (by simp [W.bytesV, hs]) (by simp [W.bytesE, hs]), hb⟩
 ·have hs' := hs
  simp [W.isSz] at hs'
  rcases hs' with (rfl | rfl) | rfl
  ·by_cases h : W.sx 1 n = n
   ·refine (bytes_ok1 n h w).mono ?_
    rintro e w' ⟨rfl, hb⟩
    exact ⟨retSI (by simp [W.bytesV, hs, h]) (by simp [W.bytesE, hs, h]), hb⟩
   ·refine (bytes_no1 n h w).mono ?_
    rintro e w' ⟨rfl, hb⟩
    exact ⟨retSI (by simp [W.bytesV, hs, h]) (by simp [W.bytesE, hs, h]), hb⟩
  ·by_cases h : W.sx 4 n = n
   ·refine (bytes_ok4 n h w).mono ?_
    rintro e w' ⟨rfl, hb⟩
    exact ⟨retSI (by simp [W.bytesV, hs, h]) (by simp [W.bytesE, hs, h]), hb⟩
   ·refine (bytes_no4 n h w).mono ?_
    rintro e w' ⟨rfl, hb⟩
    exact ⟨retSI (by simp [W.bytesV, hs, h]) (by simp [W.bytesE, hs, h]), hb⟩
  ·by_cases h : W.sx 8 n = n
   ·refine (bytes_ok8 n h w).mono ?_
    rintro e w' ⟨rfl, hb⟩
    exact ⟨retSI (by simp [W.bytesV, hs, h]) (by simp [W.bytesE, hs, h]), hb⟩
   ·refine (bytes_no8 n h w).mono ?_
    rintro e w' ⟨rfl, hb⟩
    exact ⟨retSI (by simp [W.bytesV, hs, h]) (by simp [W.bytesE, hs, h]), hb⟩

end Go.Proofs.YtgjingleolhkbaaGreatDoor.J

/- The registers' byte and the number's bytes. -/
namespace Go.Proofs.YtgjingleolhkbaaGreatDoor.J
open Go.RowKit
set_option linter.unusedVariables false

abbrev insW (op a b n : Int) : Value := .agg #[.int .i64 op, .int .i64 a, .int .i64 b, .int .i64 n]
abbrev formW (r m : Int) (t : Bool) : Value := .agg #[.int .i64 r, .int .i64 m, .bool t]

set_option maxHeartbeats 8000000 in
theorem wregs_0 (m : Int) (t : Bool) (op a b n : Int) (w : World) :
  Calls Tryz.prog 98 #[formW 0 m t, insW op a b n] w fun e w' => e = .returned (.string (strOfNums [])) ∧ Below w.heap.size w w' := by
 go_enter Tryz.func98, Tryz.ntmps98
 go_wp2
 go_ret
 exact ⟨rfl, bl2 _ _ _⟩
theorem conv1 (W : World) (b : Nat) (x : Int) (hb : b = W.heap.size) : (convert 65 9 (.slice (some ⟨b, 0, none⟩) 1 1)).run Tryz.prog (W.alloc (.cells #[.int .u8 x] 5)) = .ok (.string (strOfNums [x])) (W.alloc (.cells #[.int .u8 x] 5)) := by
 subst hb
 refine run_convert_bytes_arg (P := Tryz.prog) _ 65 5 Tryz.underlying65 Tryz.underlying5 W.heap.size 0 1 1 [x] rfl ?_ 9 Tryz.underlying9
 intro i hi
 obtain rfl : i = 0 := by simp at hi; omega
 simp

set_option maxHeartbeats 8000000 in
theorem wregs_1 (m : Int) (t : Bool) (op a b n : Int) (h0 : 0 ≤ a) (h8 : a < 8) (w : World) :
  Calls Tryz.prog 98 #[formW 1 m t, insW op a b n] w fun e w' => e = .returned (.string (strOfNums [a])) ∧ Below w.heap.size w w' := by
 have hcv := conv1
 have hw : IntKind.u8.wrap a = a := by rw [IntKind.wrap_u8]; omega
 go_enter Tryz.func98, Tryz.ntmps98
 go_wp2
 go_ret
 exact ⟨rfl, bl3 _ _ _ _⟩

set_option maxHeartbeats 8000000 in
theorem wregs_2 (m : Int) (t : Bool) (op a b n : Int) (h0 : 0 ≤ a) (h8 : a < 8) (g0 : 0 ≤ b) (g8 : b < 8) (w : World) :
  Calls Tryz.prog 98 #[formW 2 m t, insW op a b n] w fun e w' => e = .returned (.string (strOfNums [16 * a + b])) ∧ Below w.heap.size w w' := by
 have hcv := conv1
 have hw : IntKind.u8.wrap (16 * a + b) = 16 * a + b := by rw [IntKind.wrap_u8]; omega
 go_enter Tryz.func98, Tryz.ntmps98
 go_wp2
 go_ret
 exact ⟨rfl, bl3 _ _ _ _⟩

end Go.Proofs.YtgjingleolhkbaaGreatDoor.J

/- Two numbers that come back. -/
namespace Go.Proofs.YtgjingleolhkbaaGreatDoor.J
set_option maxRecDepth 100000
open Go.RowKit
theorem ret2 {k l : IntKind} {a b c d : Int} (h : a = c) (h' : b = d) : Ending.returned (.tuple #[.int k a, .int l b]) = .returned (.tuple #[.int k c, .int l d]) := by rw [h, h']
end Go.Proofs.YtgjingleolhkbaaGreatDoor.J

/- Plain facts on numbers in groups of seven bits: no program in sight. -/
namespace Go.Proofs.YtgjingleolhkbaaGreatDoor.J.W
set_option maxRecDepth 100000
open Go.RowKit

def grps : Nat → Int → List Int
 | 0, u => [u]
 | f + 1, u => if u < 128 then [u] else (u % 128 + 128) :: grps f (u / 128)
def put (u : Int) : List Int := grps 9 u

end Go.Proofs.YtgjingleolhkbaaGreatDoor.J.W

/- Plain facts on reading a number in groups of seven bits: no program in sight. -/
namespace Go.Proofs.YtgjingleolhkbaaGreatDoor.J.W
set_option maxRecDepth 100000
open Go.RowKit

def takeG : Nat → Int → List Int → Option (Int × Nat)
 | _, _, [] => none
 | g, x, c :: r => if (g = 9 ∧ 1 < c) ∨ (0 < g ∧ c = 0) then none else if c < 128 then some (x + c % 128 * 128 ^ g, g + 1) else takeG (g + 1) (x + c % 128 * 128 ^ g) r

def tail (s : ByteArray) (j : Nat) : List Int := (s.data.toList.drop j).map fun b => (b.toNat : Int)

theorem tail_cons (s : ByteArray) (j : Nat) (h : j < s.size) : tail s j = (s[j].toNat : Int) :: tail s (j + 1) := by
 unfold tail
 rw [List.drop_eq_getElem_cons (by simpa using h)]
 rfl

theorem tail_end (s : ByteArray) (j : Nat) (h : s.size ≤ j) : tail s j = [] := by
 unfold tail
 rw [List.drop_eq_nil_of_le (by simpa using h)]; rfl

def takeR (s : ByteArray) (a : Nat) : Int × Int × Int := match takeG 0 0 (tail s a) with | some (v, n) => (v, (a : Int) + n, 0) | none => (0, 0, 9)
def take (s : ByteArray) (a : Int) : Int × Int × Int := if a < 0 ∨ (s.size : Int) < a then (0, 0, 1) else takeR s a.toNat

end Go.Proofs.YtgjingleolhkbaaGreatDoor.J.W

/- Plain facts on the number that bytes are: no program in sight. -/
namespace Go.Proofs.YtgjingleolhkbaaGreatDoor.J.W
set_option maxRecDepth 100000
open Go.RowKit

def num : List Int → Int
 | [] => 0
 | c :: r => num r * 256 + c

theorem num_bd (l : List Int) (h : ∀ n ∈ l, 0 ≤ n ∧ n < 256) : 0 ≤ num l ∧ num l < 256 ^ l.length := by
 induction l with
 | nil => simp [num]
 | cons c r ih =>
  have h1 := ih (fun n hn => h n (List.mem_cons_of_mem _ hn))
  have h2 := h c (List.mem_cons_self)
  simp only [num, List.length_cons, Int.pow_succ]
  omega

theorem tail_bd (s : ByteArray) (j : Nat) : ∀ n ∈ tail s j, 0 ≤ n ∧ n < 256 := by
 intro n hn
 simp only [tail, List.mem_map] at hn
 obtain ⟨b, _, rfl⟩ := hn
 have := UInt8.toNat_lt b
 omega

theorem tail_length (s : ByteArray) (j : Nat) : (tail s j).length = s.size - j := by
 simp [tail]

theorem pow256_le (m : Nat) (h : m ≤ 7) : (256 : Int) ^ m ≤ 72057594037927936 := by
 rcases (show m = 0 ∨ m = 1 ∨ m = 2 ∨ m = 3 ∨ m = 4 ∨ m = 5 ∨ m = 6 ∨ m = 7 by omega) with rfl | rfl | rfl | rfl | rfl | rfl | rfl | rfl <;> decide

theorem num_small (s : ByteArray) (j : Nat) (hs : s.size ≤ 8) (hj : 1 ≤ j) : 0 ≤ num (tail s j) ∧ num (tail s j) < 72057594037927936 := by
 have h := num_bd (tail s j) (tail_bd s j)
 have := pow256_le (tail s j).length (by rw [tail_length]; omega)
 omega

theorem top1 (s : ByteArray) (h : s.size = 1) : num (tail s 0) = (s[0].toNat : Int) := by
 rw [tail_cons s 0 (by omega), tail_end s 1 (by omega)]
 simp [num]
theorem top4 (s : ByteArray) (h : s.size = 4) : ∃ r : Int, 0 ≤ r ∧ r < 16777216 ∧ num (tail s 0) = (s[3].toNat : Int) * 16777216 + r := by
 rw [tail_cons s 0 (by omega), tail_cons s 1 (by omega), tail_cons s 2 (by omega), tail_cons s 3 (by omega), tail_end s 4 (by omega)]
 have h0 := UInt8.toNat_lt s[0]
 have h1 := UInt8.toNat_lt s[1]
 have h2 := UInt8.toNat_lt s[2]
 refine ⟨((s[2].toNat : Int) * 256 + s[1].toNat) * 256 + s[0].toNat, by omega, by omega, ?_⟩
 simp only [num]
 omega

def numV (s : ByteArray) : Int := if isSz s.size then sx s.size (num (tail s 0)) else 0
def numE (s : ByteArray) : Int := if isSz s.size then 0 else 1

end Go.Proofs.YtgjingleolhkbaaGreatDoor.J.W

/- What word.Number, and the document's Number, come to. -/
namespace Go.Proofs.YtgjingleolhkbaaGreatDoor.J
set_option maxRecDepth 100000
open Go.RowKit

set_option maxRecDepth 100000 in
set_option maxHeartbeats 1000000 in
theorem rnumber1 (s : ByteArray) (hsz : s.size = 1) (w : World) :
  Calls Tryz.prog 67 #[.string s] w fun e w' => e = .returned (.tuple #[.int .i64 (W.sx 1 (W.num (W.tail s 0))), .int .i64 0]) ∧ w' = w := by
 go_enter Tryz.func67, Tryz.ntmps67
 go_wp2
 go_loop [4, 5] (fun u i => ∃ (k : Nat), k ≤ 1 ∧ i = .int .i64 ((k : Int) - 1) ∧ u = .int .u64 (W.num (W.tail s k))) (fun _ i => (intOf i + 1).toNat)
 case atStart => exact ⟨1, by omega, rfl, by rw [W.tail_end s 1 (by omega)]; rfl⟩
 case round =>
  obtain ⟨k, hk, rfl, rfl⟩ := hrel
  by_cases h0 : 0 < k
  ·obtain ⟨j, rfl⟩ : ∃ j, k = j + 1 := ⟨k - 1, by omega⟩
   have hlt : j < s.size := by omega
   have HT : Hid (W.tail s j = (s[j].toNat : Int) :: W.tail s (j + 1)) := W.tail_cons s j hlt
   have HS := W.num_small s (j + 1) (by omega) (by omega)
   obtain ⟨c, hcb⟩ : ∃ c : Nat, s[j].toNat = c := ⟨_, rfl⟩
   have hc256 : c < 256 := by rw [← hcb]; exact UInt8.toNat_lt _
   have HT' : Hid (W.tail s j = (c : Int) :: W.tail s (j + 1)) := by rw [← hcb]; exact HT
   have HE : Hid (W.num (W.tail s j) = W.num (W.tail s (j + 1)) * 256 + c) := by show W.num (W.tail s j) = _; rw [HT'.out]; rfl
   generalize W.num (W.tail s (j + 1)) = x at *
   clear HT HT'
   go_wp2
   go_round
   case rel => exact ⟨j, by omega, rfl, by rw [HE.out]⟩
   case measure => simp [intOf]
  ·obtain rfl : k = 0 := by omega
   have HT : Hid (W.num (W.tail s 0) = (s[0].toNat : Int)) := W.top1 s hsz
   obtain ⟨c, hcb⟩ : ∃ c : Nat, s[0].toNat = c := ⟨_, rfl⟩
   have hc256 : c < 256 := by rw [← hcb]; exact UInt8.toNat_lt _
   rw [hcb] at HT
   obtain ⟨x, hx⟩ : ∃ x, x = W.num (W.tail s 0) := ⟨_, rfl⟩
   have HX : Hid (x = W.num (W.tail s 0)) := hx
   rw [← hx]
   clear hx
   by_cases hc : 128 ≤ c
   ·have hc' : (128 : Int) ≤ c := by omega
    go_wp2
    go_ret2
    refine ⟨ret2 ?_ rfl, rfl⟩
    have h1 := HX.out
    have h2 := HT.out
    rw [← h1] at h2 ⊢
    simp [W.sx]
    rw [IntKind.wrap_u64]
    unfold wrap64
    omega
   ·have hc' : ¬ (128 : Int) ≤ c := by omega
    go_wp2
    go_ret2
    refine ⟨ret2 ?_ rfl, rfl⟩
    have h1 := HX.out
    have h2 := HT.out
    rw [← h1] at h2 ⊢
    simp [W.sx]
    unfold wrap64
    omega

set_option maxRecDepth 100000 in
set_option maxHeartbeats 1000000 in
theorem rnumber4 (s : ByteArray) (hsz : s.size = 4) (w : World) :
  Calls Tryz.prog 67 #[.string s] w fun e w' => e = .returned (.tuple #[.int .i64 (W.sx 4 (W.num (W.tail s 0))), .int .i64 0]) ∧ w' = w := by
 go_enter Tryz.func67, Tryz.ntmps67
 go_wp2
 go_loop [4, 5] (fun u i => ∃ (k : Nat), k ≤ 4 ∧ i = .int .i64 ((k : Int) - 1) ∧ u = .int .u64 (W.num (W.tail s k))) (fun _ i => (intOf i + 1).toNat)
 case atStart => exact ⟨4, by omega, rfl, by rw [W.tail_end s 4 (by omega)]; rfl⟩
 case round =>
  obtain ⟨k, hk, rfl, rfl⟩ := hrel
  by_cases h0 : 0 < k
  ·obtain ⟨j, rfl⟩ : ∃ j, k = j + 1 := ⟨k - 1, by omega⟩
   have hlt : j < s.size := by omega
   have HT : Hid (W.tail s j = (s[j].toNat : Int) :: W.tail s (j + 1)) := W.tail_cons s j hlt
   have HS := W.num_small s (j + 1) (by omega) (by omega)
   obtain ⟨c, hcb⟩ : ∃ c : Nat, s[j].toNat = c := ⟨_, rfl⟩
   have hc256 : c < 256 := by rw [← hcb]; exact UInt8.toNat_lt _
   have HT' : Hid (W.tail s j = (c : Int) :: W.tail s (j + 1)) := by rw [← hcb]; exact HT
   have HE : Hid (W.num (W.tail s j) = W.num (W.tail s (j + 1)) * 256 + c) := by show W.num (W.tail s j) = _; rw [HT'.out]; rfl
   generalize W.num (W.tail s (j + 1)) = x at *
   clear HT HT'
   go_wp2
   go_round
   case rel => exact ⟨j, by omega, rfl, by rw [HE.out]⟩
   case measure => simp [intOf]
  ·obtain rfl : k = 0 := by omega
   obtain ⟨r, hr0, hr1, HT0⟩ := W.top4 s hsz
   have HT : Hid (W.num (W.tail s 0) = (s[3].toNat : Int) * 16777216 + r) := HT0
   clear HT0
   obtain ⟨c, hcb⟩ : ∃ c : Nat, s[3].toNat = c := ⟨_, rfl⟩
   have hc256 : c < 256 := by rw [← hcb]; exact UInt8.toNat_lt _
   rw [hcb] at HT
   obtain ⟨x, hx⟩ : ∃ x, x = W.num (W.tail s 0) := ⟨_, rfl⟩
   have HX : Hid (x = W.num (W.tail s 0)) := hx
   rw [← hx]
   clear hx
   by_cases hc : 128 ≤ c
   ·have hc' : (128 : Int) ≤ c := by omega
    go_wp2
    go_ret2
    refine ⟨ret2 ?_ rfl, rfl⟩
    have h1 := HX.out
    have h2 := HT.out
    rw [← h1] at h2 ⊢
    simp [W.sx, wrap32]
    rw [IntKind.wrap_u64]
    unfold wrap64
    omega
   ·have hc' : ¬ (128 : Int) ≤ c := by omega
    go_wp2
    go_ret2
    refine ⟨ret2 ?_ rfl, rfl⟩
    have h1 := HX.out
    have h2 := HT.out
    rw [← h1] at h2 ⊢
    simp [W.sx, wrap32]
    unfold wrap64
    omega

set_option maxRecDepth 100000 in
set_option maxHeartbeats 1000000 in
theorem rnumber8 (s : ByteArray) (hsz : s.size = 8) (w : World) :
  Calls Tryz.prog 67 #[.string s] w fun e w' => e = .returned (.tuple #[.int .i64 (W.sx 8 (W.num (W.tail s 0))), .int .i64 0]) ∧ w' = w := by
 go_enter Tryz.func67, Tryz.ntmps67
 go_wp2
 go_loop [4, 5] (fun u i => ∃ (k : Nat), k ≤ 8 ∧ i = .int .i64 ((k : Int) - 1) ∧ u = .int .u64 (W.num (W.tail s k))) (fun _ i => (intOf i + 1).toNat)
 case atStart => exact ⟨8, by omega, rfl, by rw [W.tail_end s 8 (by omega)]; rfl⟩
 case round =>
  obtain ⟨k, hk, rfl, rfl⟩ := hrel
  by_cases h0 : 0 < k
  ·obtain ⟨j, rfl⟩ : ∃ j, k = j + 1 := ⟨k - 1, by omega⟩
   have hlt : j < s.size := by omega
   have HT : Hid (W.tail s j = (s[j].toNat : Int) :: W.tail s (j + 1)) := W.tail_cons s j hlt
   have HS := W.num_small s (j + 1) (by omega) (by omega)
   obtain ⟨c, hcb⟩ : ∃ c : Nat, s[j].toNat = c := ⟨_, rfl⟩
   have hc256 : c < 256 := by rw [← hcb]; exact UInt8.toNat_lt _
   have HT' : Hid (W.tail s j = (c : Int) :: W.tail s (j + 1)) := by rw [← hcb]; exact HT
   have HE : Hid (W.num (W.tail s j) = W.num (W.tail s (j + 1)) * 256 + c) := by show W.num (W.tail s j) = _; rw [HT'.out]; rfl
   generalize W.num (W.tail s (j + 1)) = x at *
   clear HT HT'
   go_wp2
   go_round
   case rel => exact ⟨j, by omega, rfl, by rw [HE.out]⟩
   case measure => simp [intOf]
  ·obtain rfl : k = 0 := by omega
   obtain ⟨x, hx⟩ : ∃ x, x = W.num (W.tail s 0) := ⟨_, rfl⟩
   have HX : Hid (x = W.num (W.tail s 0)) := hx
   rw [← hx]
   clear hx
   go_wp2
   go_ret2
   exact ⟨ret2 (by rw [← HX.out]; rfl) rfl, rfl⟩

set_option maxHeartbeats 400000 in
theorem rnumber_bad (s : ByteArray) (h : W.isSz s.size = false) (w : World) :
  Calls Tryz.prog 67 #[.string s] w fun e w' => e = .returned (.tuple #[.int .i64 0, .int .i64 1]) ∧ w' = w := by
 simp only [W.isSz, Bool.or_eq_false_iff] at h
 obtain ⟨⟨h1, h4⟩, h8⟩ := h
 go_enter Tryz.func67, Tryz.ntmps67
 go_wp2
 go_ret2
 exact ⟨rfl, rfl⟩

theorem rnumber_any (s : ByteArray) (w : World) :
  Calls Tryz.prog 67 #[.string s] w fun e w' => e = .returned (.tuple #[.int .i64 (W.numV s), .int .i64 (W.numE s)]) ∧ w' = w := by
 cases hs : W.isSz s.size
 ·refine (rnumber_bad s hs w).mono ?_
  rintro e w' ⟨rfl, rfl⟩
  exact ⟨ret2 (by simp [W.numV, hs]) (by simp [W.numE, hs]), rfl⟩
 ·have hs' := hs
  simp [W.isSz] at hs'
  rcases hs' with (h | h) | h
  ·refine (rnumber1 s (by omega) w).mono ?_
   rintro e w' ⟨rfl, rfl⟩
   exact ⟨ret2 (by rw [W.numV, hs, if_pos rfl, show (s.size : Int) = 1 by omega]) (by simp [W.numE, hs]), rfl⟩
  ·refine (rnumber4 s (by omega) w).mono ?_
   rintro e w' ⟨rfl, rfl⟩
   exact ⟨ret2 (by rw [W.numV, hs, if_pos rfl, show (s.size : Int) = 4 by omega]) (by simp [W.numE, hs]), rfl⟩
  ·refine (rnumber8 s (by omega) w).mono ?_
   rintro e w' ⟨rfl, rfl⟩
   exact ⟨ret2 (by rw [W.numV, hs, if_pos rfl, show (s.size : Int) = 8 by omega]) (by simp [W.numE, hs]), rfl⟩

end Go.Proofs.YtgjingleolhkbaaGreatDoor.J

/- The number's bytes, written and read. -/
namespace Go.Proofs.YtgjingleolhkbaaGreatDoor.J
open Go.RowKit
set_option linter.unusedVariables false

theorem retSB {s t : List Int} {a b : Bool} (h : s = t) (h' : a = b) : Ending.returned (.tuple #[.string (strOfNums s), .bool a]) = .returned (.tuple #[.string (strOfNums t), .bool b]) := by rw [h, h']

set_option maxHeartbeats 8000000 in
theorem wnum_0 (r : Int) (t : Bool) (n : Int) (w : World) :
  Calls Tryz.prog 97 #[formW r 0 t, .int .i64 n] w fun e w' => e = .returned (.tuple #[.string (strOfNums []), .bool true]) ∧ Below w.heap.size w w' := by
 go_enter Tryz.func97, Tryz.ntmps97
 go_wp2
 go_ret2
 exact ⟨rfl, bl1 _ _⟩

set_option maxHeartbeats 8000000 in
theorem wnum_m (r m : Int) (t : Bool) (n : Int) (hm : ¬ m = 0) (w : World) :
  Calls Tryz.prog 97 #[formW r m t, .int .i64 n] w fun e w' => e = .returned (.tuple #[.string (strOfNums (W.bytesV n m)), .bool (W.bytesE n m == 0 && (decide (0 ≤ n) || !t))]) ∧ Below w.heap.size w w' := by
 obtain ⟨ee, he⟩ : ∃ ee, W.bytesE n m = ee := ⟨_, rfl⟩
 have HE : Hid (W.bytesE n m = ee) := he
 rw [he]
 clear he
 by_cases h0 : ee = 0
 ·subst h0
  go_enter Tryz.func97, Tryz.ntmps97
  go_wp2_with fail
  refine (bytes_any n m _).mono ?_
  rintro e w1 ⟨rfl, hb1⟩
  rw [HE.out]
  obtain ⟨hc1, hf1⟩ := bcell hb1
  go_wp2_with (go_at_call 111; refine (allows_any _ _ _ _ _).mono ?_; rintro e w' ⟨rfl, rfl⟩)
  go_ret2
  exact ⟨retSB rfl (by simp), ((bl1 _ _).trans (hb1.mono (by simp))).alloc (by have := hb1.size; simp at this; omega) _⟩
 ·have h0' : (ee == 0) = false := by simpa using h0
  go_enter Tryz.func97, Tryz.ntmps97
  go_wp2_with fail
  refine (bytes_any n m _).mono ?_
  rintro e w1 ⟨rfl, hb1⟩
  rw [HE.out]
  go_wp2
  go_ret2
  exact ⟨retSB rfl (by rw [h0']; rfl), (bl1 _ _).trans (hb1.mono (by simp))⟩

end Go.Proofs.YtgjingleolhkbaaGreatDoor.J

/- ins.Encode. -/
namespace Go.Proofs.YtgjingleolhkbaaGreatDoor.J
open Go.RowKit
set_option linter.unusedVariables false
attribute [local go_sem ↓] Go.wp_at_zero Go.wp_at_succ

theorem retSE {s t : ByteArray} {k : IntKind} {a b : Int} (h : s = t) (h' : a = b) : Ending.returned (.tuple #[.string s, .int k a]) = .returned (.tuple #[.string t, .int k b]) := by rw [h, h']

set_option maxRecDepth 100000 in
set_option maxHeartbeats 8000000 in
theorem enc_none (op a b n : Int) (h : op < 1 ∨ 33 < op) (w : World) (ht : Tab w) :
  Calls Tryz.prog 76 #[insV op a b n] w fun e w' => e = .returned (.tuple #[.string (strOfNums []), .int .i64 1]) ∧ Below w.heap.size w w' := by
 go_enter Tryz.func76, Tryz.ntmps76
 go_wp2_with (go_at_call 93; refine (formOf_no _ h _ (ht.alloc _)).mono ?_; rintro e w' ⟨rfl, rfl⟩)
 go_ret2
 exact ⟨rfl, bl3 _ _ _ _⟩

set_option maxRecDepth 100000 in
set_option maxHeartbeats 8000000 in
theorem enc_bad (op a b n : Int) (h : 1 ≤ op ∧ op ≤ 33) (hb : I.bears (I.regs op) (I.num op) a b n = false) (w : World) (ht : Tab w) :
  Calls Tryz.prog 76 #[insV op a b n] w fun e w' => e = .returned (.tuple #[.string (strOfNums []), .int .i64 1]) ∧ Below w.heap.size w w' := by
 go_enter Tryz.func76, Tryz.ntmps76
 go_wp2_with (first | (go_at_call 93; refine (formOf_yes _ h _ (ht.alloc _)).mono ?_; rintro e w' ⟨rfl, rfl⟩) | (go_at_call 96; refine (bears_any _ _ (I.regs_range _) _ _ _ _ _ _).mono ?_; rintro e w1 ⟨rfl, hb1⟩))
 go_ret2
 exact ⟨rfl, (bl3 _ _ _ _).trans (hb1.mono (by simp; omega))⟩

end Go.Proofs.YtgjingleolhkbaaGreatDoor.J

/- An instruction's bytes. -/
namespace Go.Proofs.YtgjingleolhkbaaGreatDoor.J.I

def regB (r a b : Int) : List Int := if r = 0 then [] else if r = 1 then [a] else [16 * a + b]
def numW (m n : Int) : List Int := if m = 0 then [] else W.bytesV n m
def numOk (m : Int) (t : Bool) (n : Int) : Bool := if m = 0 then true else (W.bytesE n m == 0 && (decide (0 ≤ n) || !t))

theorem regB_len (r a b : Int) : (regB r a b).length ≤ 1 := by
 unfold regB
 split
 ·simp
 ·split <;> simp
theorem numW_len (m n : Int) : (numW m n).length ≤ 8 := by
 unfold numW W.bytesV
 split
 ·simp
 ·split
  ·rename_i hs
   split
   ·rw [W.bytesOf_length]
    unfold W.isSz at hs
    simp at hs
    omega
   ·simp
  ·simp

end Go.Proofs.YtgjingleolhkbaaGreatDoor.J.I

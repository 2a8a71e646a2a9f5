/- The forms of instructions, by their numbers: no program in sight. -/
import Derived.WalkKit
import Derived.Laws.BytesArg
import Derived.Test.YtmplnkfjaeegdaaDoorProg
import Derived.WalkSpells
import Derived.WalkLawsBesides
import Derived.Maps.AppendAt
import Derived.Laws.BitsAllLaws
import Derived.Deep.QuietTactic
import Derived.BigQuiet
namespace Go.Proofs.YtmplnkfjaeegdaaDoor.I

/-- The document's kinds of forms. -/
def form (op : Int) : Int :=
  if op = 1 then 1 else if 2 ≤ op ∧ op ≤ 16 then 2 else if op = 17 ∨ op = 18 ∨ op = 28 ∨ op = 29 then 3 else if op = 19 ∨ op = 21 ∨ op = 22 then 4
  else if op = 20 ∨ op = 23 then 5 else if op = 24 ∨ op = 30 ∨ op = 32 then 6 else if op = 25 then 7 else if op = 26 ∨ op = 27 then 8 else if op = 31 then 9
  else if op = 33 then 10 else 0
def hasA (f : Int) : Bool := f == 1 || f == 2 || f == 3 || f == 4 || f == 8 || f == 9
def hasB (f : Int) : Bool := f == 2 || f == 3
def numB (f : Int) : Int := if f = 1 then 8 else if f = 3 ∨ f = 4 ∨ f = 5 then 4 else if f = 7 ∨ f = 8 ∨ f = 10 then 1 else 0
/-- How many bytes an instruction takes. -/
def size (op : Int) : Int :=
  if form op = 0 then 0 else if hasA (form op) = true then 1 + (numB (form op) + 1) else 1 + numB (form op)

theorem cases33 (op : Int) (h1 : 1 ≤ op) (h2 : op ≤ 33) : op = 1 ∨ op = 2 ∨ op = 3 ∨ op = 4 ∨ op = 5 ∨ op = 6 ∨ op = 7 ∨ op = 8 ∨ op = 9 ∨ op = 10 ∨ op = 11 ∨ op = 12 ∨ op = 13 ∨ op = 14 ∨ op = 15 ∨ op = 16 ∨ op = 17 ∨ op = 18 ∨ op = 19 ∨ op = 20 ∨ op = 21 ∨ op = 22 ∨ op = 23 ∨ op = 24 ∨ op = 25 ∨ op = 26 ∨ op = 27 ∨ op = 28 ∨ op = 29 ∨ op = 30 ∨ op = 31 ∨ op = 32 ∨ op = 33 := by omega
theorem form_none {op : Int} (h : op < 1 ∨ 33 < op) : form op = 0 := by
  unfold form
  rw [if_neg (by omega), if_neg (by omega), if_neg (by omega), if_neg (by omega), if_neg (by omega), if_neg (by omega), if_neg (by omega), if_neg (by omega), if_neg (by omega), if_neg (by omega)]
theorem form_range (op : Int) : 0 ≤ form op ∧ form op ≤ 10 := by
  unfold form
  repeat (split; omega)
  omega
theorem form_some {op : Int} (h1 : 1 ≤ op) (h2 : op ≤ 33) : form op ≠ 0 := by
  unfold form
  intro h
  repeat (split at h; omega)
  omega
theorem size_none {op : Int} (h : op < 1 ∨ 33 < op) : size op = 0 := if_pos (form_none h)
theorem size_pos {op : Int} (h1 : 1 ≤ op) (h2 : op ≤ 33) : 1 ≤ size op ∧ size op ≤ 10 := by
  rcases cases33 op h1 h2 with rfl | rfl | rfl | rfl | rfl | rfl | rfl | rfl | rfl | rfl | rfl | rfl | rfl | rfl | rfl | rfl | rfl | rfl | rfl | rfl | rfl | rfl | rfl | rfl | rfl | rfl | rfl | rfl | rfl | rfl | rfl | rfl | rfl <;> decide

end Go.Proofs.YtmplnkfjaeegdaaDoor.I

/- Plain facts on 64-bit numbers, the bits of a count, and what an instruction makes of two numbers: no program in sight. -/
namespace Go.Proofs.YtmplnkfjaeegdaaDoor.W
open Go.RowKit

theorem ofInt64 (x : Int) : (BitVec.ofInt 64 x).toNat = (x % 18446744073709551616).toNat := by
  rw [BitVec.toNat_ofInt]; rfl

theorem ofInt63 : (BitVec.ofInt 64 63).toNat = 63 := by decide

theorem and63 (x : Int) : ((BitVec.ofInt 64 x &&& BitVec.ofInt 64 63).toNat : Int) = x % 64 := by
  rw [BitVec.toNat_and, ofInt64, ofInt63]
  have h : (x % 18446744073709551616).toNat &&& 63 = (x % 18446744073709551616).toNat % 64 := Nat.and_two_pow_sub_one_eq_mod _ 6
  rw [h]
  omega

theorem and63_i (x : Int) : bits .and .i64 x 63 = x % 64 := by
  show IntKind.i64.wrap ((BitVec.ofInt 64 x &&& BitVec.ofInt 64 63).toNat : Int) = _
  rw [and63, IntKind.wrap_i64]
  omega

theorem and63_u (x : Int) : bits .and .u64 x 63 = x % 64 := by
  show IntKind.u64.wrap ((BitVec.ofInt 64 x &&& BitVec.ofInt 64 63).toNat : Int) = _
  rw [and63, IntKind.wrap_u64]
  omega

theorem and63_uw (x : Int) : bits .and .u64 (IntKind.u64.wrap x) 63 = x % 64 := by
  rw [and63_u, IntKind.wrap_u64]
  omega

theorem wrap_id (x : Int) (h1 : -9223372036854775808 ≤ x) (h2 : x ≤ 9223372036854775807) : wrap64 x = x := by
  unfold wrap64; omega

theorem bits_comm_and (a b : Int) : bits .and .i64 a b = bits .and .i64 b a := by
  show IntKind.i64.wrap ((BitVec.ofInt 64 a &&& BitVec.ofInt 64 b).toNat : Int) = IntKind.i64.wrap ((BitVec.ofInt 64 b &&& BitVec.ofInt 64 a).toNat : Int)
  rw [BitVec.and_comm]
theorem bits_comm_or (a b : Int) : bits .or .i64 a b = bits .or .i64 b a := by
  show IntKind.i64.wrap ((BitVec.ofInt 64 a ||| BitVec.ofInt 64 b).toNat : Int) = IntKind.i64.wrap ((BitVec.ofInt 64 b ||| BitVec.ofInt 64 a).toNat : Int)
  rw [BitVec.or_comm]
theorem bits_comm_xor (a b : Int) : bits .xor .i64 a b = bits .xor .i64 b a := by
  show IntKind.i64.wrap ((BitVec.ofInt 64 a ^^^ BitVec.ofInt 64 b).toNat : Int) = IntKind.i64.wrap ((BitVec.ofInt 64 b ^^^ BitVec.ofInt 64 a).toNat : Int)
  rw [BitVec.xor_comm]

/-- 1, if it holds, else 0. -/
def tr (b : Bool) : Int := if b then 1 else 0

/-- What an instruction makes of two numbers. -/
def bin (op a b : Int) : Int :=
  if op = 3 then wrap64 (a + b) else if op = 4 then wrap64 (a - b) else if op = 5 then wrap64 (a * b)
  else if op = 6 then (if b = 0 then 0 else wrap64 (a.tdiv b)) else if op = 7 then (if b = 0 then 0 else a.tmod b)
  else if op = 8 then bits .and .i64 a b else if op = 9 then bits .or .i64 a b else if op = 10 then bits .xor .i64 a b
  else if op = 11 then wrap64 (a * 2 ^ (b % 64).toNat) else if op = 12 then a / 2 ^ (b % 64).toNat
  else if op = 13 then tr (a == b) else if op = 14 then tr (a != b) else if op = 15 then tr (decide (a < b)) else if op = 16 then tr (decide (a ≤ b)) else 0

/-- The error beside it. -/
def binE (op b : Int) : Int := if op < 3 ∨ 16 < op then 1 else if (op = 6 ∨ op = 7) ∧ b = 0 then 10 else 0

theorem tdiv_mul_tmod (a b : Int) : b * a.tdiv b + a.tmod b = a := Int.mul_tdiv_add_tmod a b

theorem tmod_nonpos (a b : Int) (h : a ≤ 0) : a.tmod b ≤ 0 := by
  have := Int.tmod_nonneg (a := -a) b (by omega)
  rw [Int.neg_tmod] at this
  omega

/-- The rest, reckoned by the quotient: as the document tells it. -/
theorem rem_of_quo (a b : Int) (ha : (Lit.int .i64 a).wf = true) : wrap64 (a - wrap64 (wrap64 (a.tdiv b) * b)) = a.tmod b := by
  have h := tdiv_mul_tmod a b
  have hr : (a.tmod b).natAbs ≤ a.natAbs := by
    rw [Int.natAbs_tmod]; exact Nat.mod_le _ _
  have hs := tmod_nonpos a b
  have hs' := fun h : 0 ≤ a => Int.tmod_nonneg b h
  simp [Lit.wf, IntKind.min, IntKind.max, IntKind.signed, IntKind.bits] at ha
  have e1 : ∃ k : Int, wrap64 (a.tdiv b) = a.tdiv b + 18446744073709551616 * k := ⟨-((a.tdiv b + 9223372036854775808) / 18446744073709551616), by unfold wrap64; omega⟩
  obtain ⟨k, hk⟩ := e1
  rw [hk]
  have e2 : (a.tdiv b + 18446744073709551616 * k) * b = (a - a.tmod b) + 18446744073709551616 * (k * b) := by
    rw [Int.add_mul, Int.mul_comm (a.tdiv b) b, Int.mul_assoc]; omega
  rw [e2]
  clear e2 hk h
  generalize k * b = kb
  generalize a.tmod b = r at *
  have hr' : -9223372036854775808 ≤ r ∧ r ≤ 9223372036854775807 ∧ (a ≤ 9223372036854775807) := by omega
  unfold wrap64
  omega

theorem neg_quo (a : Int) : wrap64 (-a) = wrap64 (a.tdiv (-1)) := by
  rw [Int.tdiv_neg, Int.tdiv_one]

end Go.Proofs.YtmplnkfjaeegdaaDoor.W

/- Plain facts on numbers as bytes: no program in sight. -/
namespace Go.Proofs.YtmplnkfjaeegdaaDoor.W
open Go.RowKit

/-- The number, with its sign, that the lowest bytes of u are. -/
def sx (size u : Int) : Int := if size = 1 then (u + 128) % 256 - 128 else if size = 4 then wrap32 u else wrap64 u

/-- The byte at a place. -/
def byteAt (n : Int) (i : Nat) : Int := n / 256 ^ i % 256
def bytesOf (n : Int) (s : Nat) : List Int := (List.range s).map (byteAt n)

def isSz (size : Int) : Bool := size == 1 || size == 4 || size == 8
def bytesE (n size : Int) : Int := if isSz size then (if sx size n = n then 0 else 7) else 1
def bytesV (n size : Int) : List Int := if isSz size then (if sx size n = n then bytesOf n size.toNat else []) else []

theorem byteAt_bd (n : Int) (i : Nat) : 0 ≤ byteAt n i ∧ byteAt n i ≤ 255 := by unfold byteAt; omega

theorem bytesOf_length (n : Int) (s : Nat) : (bytesOf n s).length = s := by simp [bytesOf]

theorem bytesOf_succ (n : Int) (k : Nat) : bytesOf n (k + 1) = bytesOf n k ++ [byteAt n k] := by
  simp [bytesOf, List.range_succ]

/-- The row of bytes behind k rounds of so many: the first k stand, the rest are 0. -/
def rowK (n : Int) (s k : Nat) : List Int := bytesOf n k ++ List.replicate (s - k) 0

theorem rowK_length (n : Int) (s k : Nat) (h : k ≤ s) : (rowK n s k).length = s := by simp [rowK, bytesOf]; omega

theorem rowK_zero (n : Int) (s : Nat) : rowK n s 0 = List.replicate s 0 := by simp [rowK, bytesOf]

theorem rowK_full (n : Int) (s : Nat) : rowK n s s = bytesOf n s := by simp [rowK]

theorem rowK_set (n : Int) (s k : Nat) (h : k < s) : (rowK n s k).set k (byteAt n k) = rowK n s (k + 1) := by
  unfold rowK
  rw [List.set_append_right _ _ (by simp [bytesOf]), bytesOf_succ]
  have e : s - k = (s - (k + 1)) + 1 := by omega
  simp [bytesOf_length, e, List.replicate_succ]

theorem pow256 (k : Nat) : (2 : Int) ^ (8 * k) = 256 ^ k := by
  rw [Int.pow_mul]; rfl

theorem shr_byte (n : Int) (k : Nat) : IntKind.u8.wrap (n / 2 ^ (8 * k)) = byteAt n k := by
  rw [IntKind.wrap_u8', pow256]; rfl

theorem rowK_store (n : Int) (s k : Nat) (h : k < s) : ((rowK n s k).map (Value.int .u8)).set k (.int .u8 (n / 2 ^ (8 * k) % 256)) = (rowK n s (k + 1)).map (Value.int .u8) := by
  rw [← rowK_set n s k h, List.map_set, pow256]; rfl

theorem byteU (n : Int) (k : Nat) (hk : k < 8) : (n % 18446744073709551616) / 256 ^ k % 256 = byteAt n k := by
  unfold byteAt
  rcases (show k = 0 ∨ k = 1 ∨ k = 2 ∨ k = 3 ∨ k = 4 ∨ k = 5 ∨ k = 6 ∨ k = 7 by omega) with rfl | rfl | rfl | rfl | rfl | rfl | rfl | rfl <;> omega

theorem pow256_succ (x : Int) (k : Nat) : x / 256 ^ k / 256 = x / 256 ^ (k + 1) := by
  have : (0 : Int) ≤ 256 ^ k := Int.pow_nonneg (by decide)
  rw [Int.ediv_ediv_of_nonneg this, Int.pow_succ]

theorem sx1 (u : Int) : wrap64 (IntKind.u64.wrap (u * 72057594037927936)) / 72057594037927936 = (u + 128) % 256 - 128 := by
  rw [IntKind.wrap_u64]; unfold wrap64; omega
theorem sx4 (u : Int) : wrap64 (IntKind.u64.wrap (u * 4294967296)) / 4294967296 = wrap32 u := by
  rw [IntKind.wrap_u64]; unfold wrap64 wrap32; omega
theorem sx8 (u : Int) : wrap64 (IntKind.u64.wrap u) = wrap64 u := by
  rw [IntKind.wrap_u64]; unfold wrap64; omega
theorem sx_u (size n : Int) (h : isSz size = true) : sx size (IntKind.u64.wrap n) = sx size n := by
  simp [isSz] at h
  rw [IntKind.wrap_u64]; unfold sx wrap64 wrap32
  rcases h with (rfl | rfl) | rfl <;> simp <;> omega

end Go.Proofs.YtmplnkfjaeegdaaDoor.W

/- A row of bytes that a call has made, as a string. -/
namespace Go.Proofs.YtmplnkfjaeegdaaDoor
open Go.RowKit

theorem infoB : (Tryd.prog.info? 5).map (fun i => (i.zero, i.size, i.bytes)) = some (some (.int .u8 0), 1, 1) := by kernel_rfl

theorem strOfNums_nil : strOfNums [] = ByteArray.empty := rfl

/-- 'string(b)', b a row of the call's own, nil or not. -/
theorem conv_own {w : World} {base n : Nat} {v : Value} {xs : List Int} (h : w.ownsRow base 5 1 v n (xs.map (Value.int .u8))) :
    (convert 60 9 v).run Tryd.prog w = .ok (.string (strOfNums xs)) w := by
  have hl := h.1
  rcases h.2 with ⟨rfl, rfl⟩ | ⟨g, cap, cur, rfl, hb, hg, hnc, hcm, hcs, htake⟩
  · have hx : xs = [] := by simpa using hl
    subst hx
    exact run_convert_bytes_nil (P := Tryd.prog) w 60 5 Tryd.underlying60 Tryd.underlying5 0 0 9 Tryd.underlying9
  · refine run_convert_bytes_arg (P := Tryd.prog) w 60 5 Tryd.underlying60 Tryd.underlying5 g 0 n cap xs (by simpa using hl) ?_ 9 Tryd.underlying9
    intro i hi
    have hc := h.cellAt i (by simpa using hi)
    rw [Nat.zero_add, hc]
    have hi' : i < xs.length := by simp at hl; omega
    simp [List.getD, hi']

theorem below_own {w w1 w2 : World} {B : Nat} {v : Value} {e : TypeId} {size n : Nat} {xs : List Value} (h : Below B w w1) (o : w1.ownsRow B e size v n xs) (hg : w1.grownBy w2 v.ownBlock) (hB : B ≤ w1.heap.size) : Below B w w2 :=
  h.grown hg hB (fun k hk => (o.lt k hk).1)

/-- What is owned stays owned where nothing that was there has turned. -/
theorem own_kept {w w1 : World} {B : Nat} {v : Value} {e : TypeId} {size n : Nat} {xs : List Value} (o : w.ownsRow B e size v n xs) (h : Below w.heap.size w w1) : w1.ownsRow B e size v n xs := by
  refine ⟨o.1, ?_⟩
  rcases o.2 with h2 | ⟨g, cap, cur, hv, hg, hh, r⟩
  · exact Or.inl h2
  · exact Or.inr ⟨g, cap, cur, hv, hg, (h.block g (Array.getElem?_eq_some_iff.1 hh).1).trans hh, r⟩

end Go.Proofs.YtmplnkfjaeegdaaDoor

/- What word.Bytes comes to, size by size. -/
namespace Go.Proofs.YtmplnkfjaeegdaaDoor
set_option maxRecDepth 100000
open Go.RowKit

theorem retSI {s t : List Int} {k : IntKind} {a b : Int} (h : s = t) (h' : a = b) : Ending.returned (.tuple #[.string (strOfNums s), .int k a]) = .returned (.tuple #[.string (strOfNums t), .int k b]) := by rw [h, h']

theorem sxl1 (n : Int) : wrap64 (IntKind.u64.wrap (IntKind.u64.wrap n * 72057594037927936)) / 72057594037927936 = W.sx 1 n := by
  rw [W.sx1]
  exact W.sx_u 1 n rfl

set_option maxHeartbeats 400000 in
theorem bytes_no1 (n : Int) (h : ¬ W.sx 1 n = n) (w : World) :
    Calls Tryd.prog 48 #[.int .i64 n, .int .i64 1] w fun e w' => e = .returned (.tuple #[.string (strOfNums []), .int .i64 7]) ∧ Below w.heap.size w w' := by
  have hx : (wrap64 (IntKind.u64.wrap (IntKind.u64.wrap n * 72057594037927936)) / 72057594037927936 != n) = true := by rw [sxl1]; simpa using h
  clear h
  go_enter Tryd.func48, Tryd.ntmps48
  go_wp2
  go_ret2
  exact ⟨rfl, Below.refl _ _⟩

set_option maxHeartbeats 400000 in
theorem bytes_ok1 (n : Int) (h : W.sx 1 n = n) (w : World) :
    Calls Tryd.prog 48 #[.int .i64 n, .int .i64 1] w fun e w' => e = .returned (.tuple #[.string (strOfNums (W.bytesOf n 1)), .int .i64 0]) ∧ Below w.heap.size w w' := by
  obtain ⟨i0, hi, hz0, hz1, hz2⟩ := info_parts infoB
  have hx : (wrap64 (IntKind.u64.wrap (IntKind.u64.wrap n * 72057594037927936)) / 72057594037927936 != n) = false := by rw [sxl1]; simpa using h
  clear h
  go_enter Tryd.func48, Tryd.ntmps48
  go_wp2_with (first | (at_make; refine wpList_make_full _ rfl _ _ 60 rfl w.heap.size 5 i0 (.int .u8 0) 1 Tryd.underlying60 hi hz0 hz1 _ _ _ _ 1 rfl rfl rfl rfl (by omega) (by decide) (Nat.le_refl _) ?_) | go_in)
  intro w1 hown hgrow
  have hb1 : Below w.heap.size w w1 := (Below.refl _ _).grown hgrow (Nat.le_refl _) (by intro k hk; cases hk)
  have hrow : (madeCells #[Value.int IntKind.u8 0] 1).toList = (W.rowK n 1 0).map (Value.int .u8) := by rw [W.rowK_zero, toList_madeCells_one]; simp
  have hown' : w1.ownsRow w.heap.size 5 1 (.slice (some ⟨w.heap.size, 0, none⟩) 1 1) 1 ((W.rowK n 1 0).map (Value.int .u8)) := by rw [← hrow]; exact hown
  clear hown hrow hgrow
  go_wp2
  go_loopw [21] (fun i wr => ∃ k : Nat, k ≤ 1 ∧ i = .int .i64 k ∧ wr.ownsRow w.heap.size 5 1 (.slice (some ⟨w.heap.size, 0, none⟩) 1 1) 1 ((W.rowK n 1 k).map (Value.int .u8)) ∧ Below w.heap.size w wr) (fun i _ => 1 - (intOf i).toNat)
  case atStart => exact ⟨0, by omega, rfl, hown', hb1⟩
  case round =>
    obtain ⟨k, hk, rfl, ho, hb⟩ := hrel
    by_cases hlt : k < 1
    · have hc0 := ho.cellAt k (by omega)
      have hkl : k < (W.rowK n 1 k).length := by rw [W.rowK_length n 1 k hk]; exact hlt
      have hc : wr.cell? ⟨w.heap.size, k, none⟩ = some (.int .u8 ((W.rowK n 1 k)[k])) := by rw [hc0]; simp [hkl]
      have hf := ho.frozenAt k
      have hst := ho.stored k (.int .u8 (n / 2 ^ (8 * k) % 256))
      rw [W.rowK_store n 1 k hlt] at hst
      have HS : Hid _ := hst
      clear hc0 hst
      go_wp2
      go_roundw
      case rel => exact ⟨k + 1, by omega, by go_num, HS.out.1, hb.setCell (Nat.le_refl _) _⟩
      case measure => simp [intOf]; omega
    · obtain rfl : k = 1 := by omega
      rw [W.rowK_full] at ho
      have hcv := conv_own ho
      go_wp2
      go_ret2
      exact ⟨rfl, hb⟩

theorem sxl4 (n : Int) : wrap64 (IntKind.u64.wrap (IntKind.u64.wrap n * 4294967296)) / 4294967296 = W.sx 4 n := by
  rw [W.sx4]
  exact W.sx_u 4 n rfl

set_option maxHeartbeats 400000 in
theorem bytes_no4 (n : Int) (h : ¬ W.sx 4 n = n) (w : World) :
    Calls Tryd.prog 48 #[.int .i64 n, .int .i64 4] w fun e w' => e = .returned (.tuple #[.string (strOfNums []), .int .i64 7]) ∧ Below w.heap.size w w' := by
  have hx : (wrap64 (IntKind.u64.wrap (IntKind.u64.wrap n * 4294967296)) / 4294967296 != n) = true := by rw [sxl4]; simpa using h
  clear h
  go_enter Tryd.func48, Tryd.ntmps48
  go_wp2
  go_ret2
  exact ⟨rfl, Below.refl _ _⟩

set_option maxHeartbeats 400000 in
theorem bytes_ok4 (n : Int) (h : W.sx 4 n = n) (w : World) :
    Calls Tryd.prog 48 #[.int .i64 n, .int .i64 4] w fun e w' => e = .returned (.tuple #[.string (strOfNums (W.bytesOf n 4)), .int .i64 0]) ∧ Below w.heap.size w w' := by
  obtain ⟨i0, hi, hz0, hz1, hz2⟩ := info_parts infoB
  have hx : (wrap64 (IntKind.u64.wrap (IntKind.u64.wrap n * 4294967296)) / 4294967296 != n) = false := by rw [sxl4]; simpa using h
  clear h
  go_enter Tryd.func48, Tryd.ntmps48
  go_wp2_with (first | (at_make; refine wpList_make_full _ rfl _ _ 60 rfl w.heap.size 5 i0 (.int .u8 0) 1 Tryd.underlying60 hi hz0 hz1 _ _ _ _ 4 rfl rfl rfl rfl (by omega) (by decide) (Nat.le_refl _) ?_) | go_in)
  intro w1 hown hgrow
  have hb1 : Below w.heap.size w w1 := (Below.refl _ _).grown hgrow (Nat.le_refl _) (by intro k hk; cases hk)
  have hrow : (madeCells #[Value.int IntKind.u8 0] 4).toList = (W.rowK n 4 0).map (Value.int .u8) := by rw [W.rowK_zero, toList_madeCells_one]; simp
  have hown' : w1.ownsRow w.heap.size 5 1 (.slice (some ⟨w.heap.size, 0, none⟩) 4 4) 4 ((W.rowK n 4 0).map (Value.int .u8)) := by rw [← hrow]; exact hown
  clear hown hrow hgrow
  go_wp2
  go_loopw [21] (fun i wr => ∃ k : Nat, k ≤ 4 ∧ i = .int .i64 k ∧ wr.ownsRow w.heap.size 5 1 (.slice (some ⟨w.heap.size, 0, none⟩) 4 4) 4 ((W.rowK n 4 k).map (Value.int .u8)) ∧ Below w.heap.size w wr) (fun i _ => 4 - (intOf i).toNat)
  case atStart => exact ⟨0, by omega, rfl, hown', hb1⟩
  case round =>
    obtain ⟨k, hk, rfl, ho, hb⟩ := hrel
    by_cases hlt : k < 4
    · have hc0 := ho.cellAt k (by omega)
      have hkl : k < (W.rowK n 4 k).length := by rw [W.rowK_length n 4 k hk]; exact hlt
      have hc : wr.cell? ⟨w.heap.size, k, none⟩ = some (.int .u8 ((W.rowK n 4 k)[k])) := by rw [hc0]; simp [hkl]
      have hf := ho.frozenAt k
      have hst := ho.stored k (.int .u8 (n / 2 ^ (8 * k) % 256))
      rw [W.rowK_store n 4 k hlt] at hst
      have HS : Hid _ := hst
      clear hc0 hst
      go_wp2
      go_roundw
      case rel => exact ⟨k + 1, by omega, by go_num, HS.out.1, hb.setCell (Nat.le_refl _) _⟩
      case measure => simp [intOf]; omega
    · obtain rfl : k = 4 := by omega
      rw [W.rowK_full] at ho
      have hcv := conv_own ho
      go_wp2
      go_ret2
      exact ⟨rfl, hb⟩

theorem sxl8 (n : Int) : wrap64 (IntKind.u64.wrap (IntKind.u64.wrap n)) = W.sx 8 n := by
  rw [W.sx8, W.sx8]
  rfl

set_option maxHeartbeats 400000 in
theorem bytes_no8 (n : Int) (h : ¬ W.sx 8 n = n) (w : World) :
    Calls Tryd.prog 48 #[.int .i64 n, .int .i64 8] w fun e w' => e = .returned (.tuple #[.string (strOfNums []), .int .i64 7]) ∧ Below w.heap.size w w' := by
  have hx : (wrap64 (IntKind.u64.wrap (IntKind.u64.wrap n)) != n) = true := by rw [sxl8]; simpa using h
  clear h
  go_enter Tryd.func48, Tryd.ntmps48
  go_wp2
  go_ret2
  exact ⟨rfl, Below.refl _ _⟩

set_option maxHeartbeats 400000 in
theorem bytes_ok8 (n : Int) (h : W.sx 8 n = n) (w : World) :
    Calls Tryd.prog 48 #[.int .i64 n, .int .i64 8] w fun e w' => e = .returned (.tuple #[.string (strOfNums (W.bytesOf n 8)), .int .i64 0]) ∧ Below w.heap.size w w' := by
  obtain ⟨i0, hi, hz0, hz1, hz2⟩ := info_parts infoB
  have hx : (wrap64 (IntKind.u64.wrap (IntKind.u64.wrap n)) != n) = false := by rw [sxl8]; simpa using h
  clear h
  go_enter Tryd.func48, Tryd.ntmps48
  go_wp2_with (first | (at_make; refine wpList_make_full _ rfl _ _ 60 rfl w.heap.size 5 i0 (.int .u8 0) 1 Tryd.underlying60 hi hz0 hz1 _ _ _ _ 8 rfl rfl rfl rfl (by omega) (by decide) (Nat.le_refl _) ?_) | go_in)
  intro w1 hown hgrow
  have hb1 : Below w.heap.size w w1 := (Below.refl _ _).grown hgrow (Nat.le_refl _) (by intro k hk; cases hk)
  have hrow : (madeCells #[Value.int IntKind.u8 0] 8).toList = (W.rowK n 8 0).map (Value.int .u8) := by rw [W.rowK_zero, toList_madeCells_one]; simp
  have hown' : w1.ownsRow w.heap.size 5 1 (.slice (some ⟨w.heap.size, 0, none⟩) 8 8) 8 ((W.rowK n 8 0).map (Value.int .u8)) := by rw [← hrow]; exact hown
  clear hown hrow hgrow
  go_wp2
  go_loopw [21] (fun i wr => ∃ k : Nat, k ≤ 8 ∧ i = .int .i64 k ∧ wr.ownsRow w.heap.size 5 1 (.slice (some ⟨w.heap.size, 0, none⟩) 8 8) 8 ((W.rowK n 8 k).map (Value.int .u8)) ∧ Below w.heap.size w wr) (fun i _ => 8 - (intOf i).toNat)
  case atStart => exact ⟨0, by omega, rfl, hown', hb1⟩
  case round =>
    obtain ⟨k, hk, rfl, ho, hb⟩ := hrel
    by_cases hlt : k < 8
    · have hc0 := ho.cellAt k (by omega)
      have hkl : k < (W.rowK n 8 k).length := by rw [W.rowK_length n 8 k hk]; exact hlt
      have hc : wr.cell? ⟨w.heap.size, k, none⟩ = some (.int .u8 ((W.rowK n 8 k)[k])) := by rw [hc0]; simp [hkl]
      have hf := ho.frozenAt k
      have hst := ho.stored k (.int .u8 (n / 2 ^ (8 * k) % 256))
      rw [W.rowK_store n 8 k hlt] at hst
      have HS : Hid _ := hst
      clear hc0 hst
      go_wp2
      go_roundw
      case rel => exact ⟨k + 1, by omega, by go_num, HS.out.1, hb.setCell (Nat.le_refl _) _⟩
      case measure => simp [intOf]; omega
    · obtain rfl : k = 8 := by omega
      rw [W.rowK_full] at ho
      have hcv := conv_own ho
      go_wp2
      go_ret2
      exact ⟨rfl, hb⟩

set_option maxHeartbeats 400000 in
theorem bytes_bad (n size : Int) (h : W.isSz size = false) (w : World) :
    Calls Tryd.prog 48 #[.int .i64 n, .int .i64 size] w fun e w' => e = .returned (.tuple #[.string (strOfNums []), .int .i64 1]) ∧ Below w.heap.size w w' := by
  simp only [W.isSz, Bool.or_eq_false_iff] at h
  obtain ⟨⟨h1, h4⟩, h8⟩ := h
  go_enter Tryd.func48, Tryd.ntmps48
  go_wp2
  go_ret2
  exact ⟨rfl, Below.refl _ _⟩

theorem bytes_any (n size : Int) (w : World) :
    Calls Tryd.prog 48 #[.int .i64 n, .int .i64 size] w fun e w' => e = .returned (.tuple #[.string (strOfNums (W.bytesV n size)), .int .i64 (W.bytesE n size)]) ∧ Below w.heap.size w w' := by
  cases hs : W.isSz size
  · refine (bytes_bad n size hs w).mono ?_
    rintro e w' ⟨rfl, hb⟩
    exact ⟨retSI (by simp [W.bytesV, hs]) (by simp [W.bytesE, hs]), hb⟩
  · have hs' := hs
    simp [W.isSz] at hs'
    rcases hs' with (rfl | rfl) | rfl
    · by_cases h : W.sx 1 n = n
      · refine (bytes_ok1 n h w).mono ?_
        rintro e w' ⟨rfl, hb⟩
        exact ⟨retSI (by simp [W.bytesV, hs, h]) (by simp [W.bytesE, hs, h]), hb⟩
      · refine (bytes_no1 n h w).mono ?_
        rintro e w' ⟨rfl, hb⟩
        exact ⟨retSI (by simp [W.bytesV, hs, h]) (by simp [W.bytesE, hs, h]), hb⟩
    · by_cases h : W.sx 4 n = n
      · refine (bytes_ok4 n h w).mono ?_
        rintro e w' ⟨rfl, hb⟩
        exact ⟨retSI (by simp [W.bytesV, hs, h]) (by simp [W.bytesE, hs, h]), hb⟩
      · refine (bytes_no4 n h w).mono ?_
        rintro e w' ⟨rfl, hb⟩
        exact ⟨retSI (by simp [W.bytesV, hs, h]) (by simp [W.bytesE, hs, h]), hb⟩
    · by_cases h : W.sx 8 n = n
      · refine (bytes_ok8 n h w).mono ?_
        rintro e w' ⟨rfl, hb⟩
        exact ⟨retSI (by simp [W.bytesV, hs, h]) (by simp [W.bytesE, hs, h]), hb⟩
      · refine (bytes_no8 n h w).mono ?_
        rintro e w' ⟨rfl, hb⟩
        exact ⟨retSI (by simp [W.bytesV, hs, h]) (by simp [W.bytesE, hs, h]), hb⟩

end Go.Proofs.YtmplnkfjaeegdaaDoor

/- Plain facts on numbers in groups of seven bits: no program in sight. -/
namespace Go.Proofs.YtmplnkfjaeegdaaDoor.W
set_option maxRecDepth 100000
open Go.RowKit

def grps : Nat → Int → List Int
  | 0, u => [u]
  | f + 1, u => if u < 128 then [u] else (u % 128 + 128) :: grps f (u / 128)
/-- A number in groups of seven bits, the lowest first, as few as can be. -/
def put (u : Int) : List Int := grps 9 u

/-- Several numbers, one behind the other. -/
def putAll : List Int → List Int
  | [] => []
  | u :: l => put u ++ putAll l

theorem putAll_append (a b : List Int) : putAll (a ++ b) = putAll a ++ putAll b := by
  induction a with
  | nil => rfl
  | cons u l ih => simp [putAll, ih]

theorem putAll_snoc (l : List Int) (u : Int) : putAll (l ++ [u]) = putAll l ++ put u := by
  rw [putAll_append]; simp [putAll]

theorem grps_length : ∀ (f : Nat) (u : Int), 1 ≤ (grps f u).length ∧ (grps f u).length ≤ f + 1
  | 0, _ => by simp [grps]
  | f + 1, u => by
    unfold grps
    split
    · simp
    · have := grps_length f (u / 128); simp; omega

theorem put_length (u : Int) : 1 ≤ (put u).length ∧ (put u).length ≤ 10 := grps_length 9 u

theorem putAll_length (l : List Int) : l.length ≤ (putAll l).length ∧ (putAll l).length ≤ 10 * l.length := by
  induction l with
  | nil => simp [putAll]
  | cons u l ih => have := put_length u; simp [putAll]; omega

theorem grps_step (f : Nat) (u : Int) (h : 128 ≤ u) : grps (f + 1) u = (u % 128 + 128) :: grps f (u / 128) := by
  conv => lhs; unfold grps
  rw [if_neg (by omega)]

theorem grps_last (f : Nat) (u : Int) (h : u < 128) : grps f u = [u] := by
  cases f with
  | zero => rfl
  | succ f => conv => lhs; unfold grps
              rw [if_pos h]

theorem and127_u (x : Int) : bits .and .u64 x 127 = x % 128 := by
  show IntKind.u64.wrap ((BitVec.ofInt 64 x &&& BitVec.ofInt 64 127).toNat : Int) = _
  have e127 : (BitVec.ofInt 64 127).toNat = 127 := by decide
  rw [BitVec.toNat_and, ofInt64, e127]
  have h : (x % 18446744073709551616).toNat &&& 127 = (x % 18446744073709551616).toNat % 128 := Nat.and_two_pow_sub_one_eq_mod _ 7
  rw [h, IntKind.wrap_u64]
  omega

theorem and127_b (x : Int) : bits .and .u8 x 127 = x % 128 := by
  show IntKind.u8.wrap ((BitVec.ofInt 8 x &&& BitVec.ofInt 8 127).toNat : Int) = _
  have e127 : (BitVec.ofInt 8 127).toNat = 127 := by decide
  have ex : (BitVec.ofInt 8 x).toNat = (x % 256).toNat := by rw [BitVec.toNat_ofInt]; rfl
  rw [BitVec.toNat_and, ex, e127]
  have h : (x % 256).toNat &&& 127 = (x % 256).toNat % 128 := Nat.and_two_pow_sub_one_eq_mod _ 7
  rw [h, IntKind.wrap_u8']
  omega

/-- A group more: what stands, or it is shifted to its place. -/
def orv (x c : Int) (g : Nat) : Int := bits .or .u64 x (IntKind.u64.wrap (c % 128 * 2 ^ (7 * g)))
theorem or_fold (x c : Int) (g : Nat) : bits .or .u64 x (IntKind.u64.wrap (c % 128 * 2 ^ (7 * g))) = orv x c g := rfl

/-- What is left of a number behind k groups. -/
theorem fuel_step (f : Nat) (x : Int) (h0 : 128 ≤ x) (h : x < 2 * 128 ^ f) : ∃ g, f = g + 1 ∧ x / 128 < 2 * 128 ^ g := by
  cases f with
  | zero => simp at h; omega
  | succ g =>
    refine ⟨g, rfl, ?_⟩
    rw [Int.pow_succ] at h
    omega

theorem fuel_top (u : Int) (h : u ≤ 18446744073709551615) : u < 2 * 128 ^ 9 := by
  have : (128 : Int) ^ 9 = 9223372036854775808 := by decide
  omega

/-- Each group is a byte. -/
theorem grps_bd : ∀ (f : Nat) (u : Int), 0 ≤ u → u < 2 * 128 ^ f → ∀ n ∈ grps f u, 0 ≤ n ∧ n ≤ 255
  | 0, u, h0, h1 => by
    intro n hn
    simp [grps] at hn h1
    omega
  | f + 1, u, h0, h1 => by
    intro n hn
    by_cases h : u < 128
    · rw [grps_last _ _ h] at hn
      simp at hn
      omega
    · rw [grps_step f u (by omega)] at hn
      obtain ⟨g, hg, hl⟩ := fuel_step (f + 1) u (by omega) h1
      obtain rfl : f = g := by omega
      rcases List.mem_cons.1 hn with rfl | hn
      · omega
      · exact grps_bd f (u / 128) (by omega) hl n hn

theorem put_bd (u : Int) (h0 : 0 ≤ u) (h1 : u ≤ 18446744073709551615) : ∀ n ∈ put u, 0 ≤ n ∧ n ≤ 255 := grps_bd 9 u h0 (fuel_top u h1)

end Go.Proofs.YtmplnkfjaeegdaaDoor.W

/- Plain facts on reading a number in groups of seven bits: no program in sight. -/
namespace Go.Proofs.YtmplnkfjaeegdaaDoor.W
set_option maxRecDepth 100000
open Go.RowKit

def addv (x c : Int) (g : Nat) : Int := IntKind.u64.wrap (x + IntKind.u64.wrap (c % 128 * 2 ^ (7 * g)))
theorem add_fold (x c : Int) (g : Nat) : IntKind.u64.wrap (x + IntKind.u64.wrap (c % 128 * 2 ^ (7 * g))) = addv x c g := rfl

theorem pow128 (g : Nat) : (2 : Int) ^ (7 * g) = 128 ^ g := by rw [Int.pow_mul]; rfl

theorem pow128_le (g : Nat) (h : g ≤ 9) : (128 : Int) ^ g ≤ 9223372036854775808 ∧ 1 ≤ (128 : Int) ^ g := by
  rcases (show g = 0 ∨ g = 1 ∨ g = 2 ∨ g = 3 ∨ g = 4 ∨ g = 5 ∨ g = 6 ∨ g = 7 ∨ g = 8 ∨ g = 9 by omega) with rfl | rfl | rfl | rfl | rfl | rfl | rfl | rfl | rfl | rfl <;> decide

theorem pow128_lt (g : Nat) (h : g ≤ 8) : (128 : Int) * 128 ^ g ≤ 9223372036854775808 := by
  rw [Int.mul_comm, ← Int.pow_succ]
  exact (pow128_le (g + 1) (by omega)).1

/-- A group fits at its place. -/
theorem group_fits (c : Int) (g : Nat) (hg : g ≤ 9) (hc0 : 0 ≤ c) (hc : g ≤ 8 ∨ c ≤ 1) : 0 ≤ c % 128 * 128 ^ g ∧ c % 128 * 128 ^ g ≤ 18446744073709551616 - 128 ^ g := by
  have h9 := pow128_le g hg
  refine ⟨Int.mul_nonneg (by omega) (by omega), ?_⟩
  rcases hc with h8 | h1
  · have h8' := pow128_lt g h8
    have : c % 128 * 128 ^ g ≤ 127 * 128 ^ g := Int.mul_le_mul_of_nonneg_right (by omega) (by omega)
    omega
  · have : c % 128 * 128 ^ g ≤ 1 * 128 ^ g := Int.mul_le_mul_of_nonneg_right (by omega) (by omega)
    rcases (show c = 0 ∨ c = 1 by omega) with rfl | rfl
    · simp; omega
    · simp
      by_cases hg8 : g ≤ 8
      · have := pow128_lt g hg8; omega
      · obtain rfl : g = 9 := by omega
        omega

theorem addv_eq (x c : Int) (g : Nat) (hx0 : 0 ≤ x) (hx : x < 128 ^ g) (hg : g ≤ 9) (hc0 : 0 ≤ c) (hc : g ≤ 8 ∨ c ≤ 1) : addv x c g = x + c % 128 * 128 ^ g := by
  have h := group_fits c g hg hc0 hc
  unfold addv
  rw [pow128, IntKind.wrap_u64, IntKind.wrap_u64]
  generalize c % 128 * 128 ^ g = y at *
  omega

theorem orv_eq (x c : Int) (g : Nat) (hx0 : 0 ≤ x) (hx : x < 128 ^ g) (hg : g ≤ 9) (hc0 : 0 ≤ c) (hc : g ≤ 8 ∨ c ≤ 1) : orv x c g = x + c % 128 * 128 ^ g := by
  have h := group_fits c g hg hc0 hc
  have h9 := pow128_le g hg
  unfold orv
  rw [pow128, IntKind.wrap_u64]
  have e : c % 128 * 128 ^ g % 18446744073709551616 = c % 128 * 128 ^ g := by
    generalize c % 128 * 128 ^ g = y at *
    omega
  rw [e, u64_or _ _ hx0 (by omega) h.1 (by omega)]
  obtain ⟨X, rfl⟩ := Int.eq_ofNat_of_zero_le hx0
  obtain ⟨C, hC⟩ := Int.eq_ofNat_of_zero_le (show 0 ≤ c % 128 by omega)
  rw [hC]
  have hX : X < 2 ^ (7 * g) := by
    have : ((X : Nat) : Int) < ((2 ^ (7 * g) : Nat) : Int) := by
      rw [Int.natCast_pow]; rw [← pow128] at hx; exact hx
    omega
  have e2 : ((C : Int) * 128 ^ g).toNat = 2 ^ (7 * g) * C := by
    have : ((C : Int) * 128 ^ g) = ((2 ^ (7 * g) * C : Nat) : Int) := by
      rw [← pow128, Int.natCast_mul, Int.natCast_pow, Int.mul_comm]; rfl
    rw [this]; exact Int.toNat_natCast _
  rw [e2, Int.toNat_natCast, Nat.or_comm, ← Nat.two_pow_add_eq_or_of_lt hX C]
  rw [Int.natCast_add, Int.natCast_mul, Int.natCast_pow, ← pow128, Int.add_comm, Int.mul_comm (C : Int)]
  rfl

/-- The number whose groups stand at a list's head, behind g groups that make x: and how many groups there are. -/
def takeG : Nat → Int → List Int → Option (Int × Nat)
  | _, _, [] => none
  | g, x, c :: r => if (g = 9 ∧ 1 < c) ∨ (0 < g ∧ c = 0) then none else if c < 128 then some (x + c % 128 * 128 ^ g, g + 1) else takeG (g + 1) (x + c % 128 * 128 ^ g) r

/-- A string's bytes from a place on. -/
def tail (s : ByteArray) (j : Nat) : List Int := (s.data.toList.drop j).map fun b => (b.toNat : Int)

theorem tail_cons (s : ByteArray) (j : Nat) (h : j < s.size) : tail s j = (s[j].toNat : Int) :: tail s (j + 1) := by
  unfold tail
  rw [List.drop_eq_getElem_cons (by simpa using h)]
  rfl

theorem tail_end (s : ByteArray) (j : Nat) (h : s.size ≤ j) : tail s j = [] := by
  unfold tail
  rw [List.drop_eq_nil_of_le (by simpa using h)]; rfl

/-- Take at a place within the string. -/
def takeR (s : ByteArray) (a : Nat) : Int × Int × Int := match takeG 0 0 (tail s a) with | some (v, n) => (v, (a : Int) + n, 0) | none => (0, 0, 9)
/-- Take. -/
def take (s : ByteArray) (a : Int) : Int × Int × Int := if a < 0 ∨ (s.size : Int) < a then (0, 0, 1) else takeR s a.toNat

theorem takeR_none (s : ByteArray) (a : Nat) (h : takeG 0 0 (tail s a) = none) : takeR s a = (0, 0, 9) := by simp [takeR, h]
theorem takeR_some (s : ByteArray) (a : Nat) (v : Int) (n : Nat) (h : takeG 0 0 (tail s a) = some (v, n)) : takeR s a = (v, (a : Int) + n, 0) := by simp [takeR, h]

theorem takeG_no (g : Nat) (x c : Int) (r : List Int) (h : (g = 9 ∧ 1 < c) ∨ (0 < g ∧ c = 0)) : takeG g x (c :: r) = none := by
  rw [takeG, if_pos h]
theorem takeG_last (g : Nat) (x c : Int) (r : List Int) (h : ¬ ((g = 9 ∧ 1 < c) ∨ (0 < g ∧ c = 0))) (hc : c < 128) : takeG g x (c :: r) = some (x + c % 128 * 128 ^ g, g + 1) := by
  rw [takeG, if_neg h, if_pos hc]
theorem takeG_more (g : Nat) (x c : Int) (r : List Int) (h : ¬ ((g = 9 ∧ 1 < c) ∨ (0 < g ∧ c = 0))) (hc : 128 ≤ c) : takeG g x (c :: r) = takeG (g + 1) (x + c % 128 * 128 ^ g) r := by
  rw [takeG, if_neg h, if_neg (by omega)]

/-- The bound goes on. -/
theorem next_lt (x c : Int) (g : Nat) (hx : x < 128 ^ g) : x + c % 128 * 128 ^ g < 128 ^ (g + 1) := by
  have : c % 128 * 128 ^ g ≤ 127 * 128 ^ g := Int.mul_le_mul_of_nonneg_right (by omega) (Int.pow_nonneg (by decide))
  rw [Int.pow_succ]
  omega

end Go.Proofs.YtmplnkfjaeegdaaDoor.W

/- Plain facts on the number that bytes are: no program in sight. -/
namespace Go.Proofs.YtmplnkfjaeegdaaDoor.W
set_option maxRecDepth 100000
open Go.RowKit

/-- The number of which these are the bytes, the lowest first. -/
def num : List Int → Int
  | [] => 0
  | c :: r => num r * 256 + c

def or8 (x c : Int) : Int := bits .or .u64 (IntKind.u64.wrap (x * 256)) c
theorem or8_fold (x c : Int) : bits .or .u64 (IntKind.u64.wrap (x * 256)) c = or8 x c := rfl
def add8 (x c : Int) : Int := IntKind.u64.wrap (IntKind.u64.wrap (x * 256) + c)
theorem add8_fold (x c : Int) : IntKind.u64.wrap (IntKind.u64.wrap (x * 256) + c) = add8 x c := rfl

theorem add8_eq (x c : Int) (hx0 : 0 ≤ x) (hx : x < 72057594037927936) (hc0 : 0 ≤ c) (hc : c < 256) : add8 x c = x * 256 + c := by
  unfold add8; rw [IntKind.wrap_u64, IntKind.wrap_u64]; omega

theorem or8_eq (x c : Int) (hx0 : 0 ≤ x) (hx : x < 72057594037927936) (hc0 : 0 ≤ c) (hc : c < 256) : or8 x c = x * 256 + c := by
  unfold or8
  rw [IntKind.wrap_u64, show x * 256 % 18446744073709551616 = x * 256 by omega, u64_or _ _ (by omega) (by omega) hc0 (by omega)]
  obtain ⟨X, rfl⟩ := Int.eq_ofNat_of_zero_le hx0
  obtain ⟨C, rfl⟩ := Int.eq_ofNat_of_zero_le hc0
  have e : ((X : Int) * 256).toNat = 2 ^ 8 * X := by omega
  rw [e, Int.toNat_natCast, ← Nat.two_pow_add_eq_or_of_lt (show C < 2 ^ 8 by omega) X]
  omega

theorem or8b (x c : Int) (hx0 : 0 ≤ x) (hx : x < 72057594037927936) (hc0 : 0 ≤ c) (hc : c < 256) : bits .or .u64 (x * 256) c = x * 256 + c := by
  have h := or8_eq x c hx0 hx hc0 hc
  unfold or8 at h
  rw [IntKind.wrap_u64, show x * 256 % 18446744073709551616 = x * 256 by omega] at h
  exact h

theorem num_bd (l : List Int) (h : ∀ n ∈ l, 0 ≤ n ∧ n < 256) : 0 ≤ num l ∧ num l < 256 ^ l.length := by
  induction l with
  | nil => simp [num]
  | cons c r ih =>
    have h1 := ih (fun n hn => h n (List.mem_cons_of_mem _ hn))
    have h2 := h c (List.mem_cons_self)
    simp only [num, List.length_cons, Int.pow_succ]
    omega

theorem tail_bd (s : ByteArray) (j : Nat) : ∀ n ∈ tail s j, 0 ≤ n ∧ n < 256 := by
  intro n hn
  simp only [tail, List.mem_map] at hn
  obtain ⟨b, _, rfl⟩ := hn
  have := UInt8.toNat_lt b
  omega

theorem tail_length (s : ByteArray) (j : Nat) : (tail s j).length = s.size - j := by
  simp [tail]

theorem pow256_le (m : Nat) (h : m ≤ 7) : (256 : Int) ^ m ≤ 72057594037927936 := by
  rcases (show m = 0 ∨ m = 1 ∨ m = 2 ∨ m = 3 ∨ m = 4 ∨ m = 5 ∨ m = 6 ∨ m = 7 by omega) with rfl | rfl | rfl | rfl | rfl | rfl | rfl | rfl <;> decide

/-- What stands behind a byte fits into seven. -/
theorem num_small (s : ByteArray) (j : Nat) (hs : s.size ≤ 8) (hj : 1 ≤ j) : 0 ≤ num (tail s j) ∧ num (tail s j) < 72057594037927936 := by
  have h := num_bd (tail s j) (tail_bd s j)
  have := pow256_le (tail s j).length (by rw [tail_length]; omega)
  omega

theorem top1 (s : ByteArray) (h : s.size = 1) : num (tail s 0) = (s[0].toNat : Int) := by
  rw [tail_cons s 0 (by omega), tail_end s 1 (by omega)]
  simp [num]
theorem top4 (s : ByteArray) (h : s.size = 4) : ∃ r : Int, 0 ≤ r ∧ r < 16777216 ∧ num (tail s 0) = (s[3].toNat : Int) * 16777216 + r := by
  rw [tail_cons s 0 (by omega), tail_cons s 1 (by omega), tail_cons s 2 (by omega), tail_cons s 3 (by omega), tail_end s 4 (by omega)]
  have h0 := UInt8.toNat_lt s[0]
  have h1 := UInt8.toNat_lt s[1]
  have h2 := UInt8.toNat_lt s[2]
  refine ⟨((s[2].toNat : Int) * 256 + s[1].toNat) * 256 + s[0].toNat, by omega, by omega, ?_⟩
  simp only [num]
  omega

def numV (s : ByteArray) : Int := if isSz s.size then sx s.size (num (tail s 0)) else 0
def numE (s : ByteArray) : Int := if isSz s.size then 0 else 1

end Go.Proofs.YtmplnkfjaeegdaaDoor.W

/- Two numbers that come back. -/
namespace Go.Proofs.YtmplnkfjaeegdaaDoor
set_option maxRecDepth 100000
open Go.RowKit
theorem ret2 {k l : IntKind} {a b c d : Int} (h : a = c) (h' : b = d) : Ending.returned (.tuple #[.int k a, .int l b]) = .returned (.tuple #[.int k c, .int l d]) := by rw [h, h']
end Go.Proofs.YtmplnkfjaeegdaaDoor

/- What word.Number, and the document's Number, come to. -/
namespace Go.Proofs.YtmplnkfjaeegdaaDoor
set_option maxRecDepth 100000
open Go.RowKit

set_option maxRecDepth 100000 in
set_option maxHeartbeats 1000000 in
theorem number1 (s : ByteArray) (hsz : s.size = 1) (w : World) :
    Calls Tryd.prog 109 #[.string s] w fun e w' => e = .returned (.tuple #[.int .i64 (W.sx 1 (W.num (W.tail s 0))), .int .i64 0]) ∧ w' = w := by
  go_enter Tryd.func109, Tryd.ntmps109
  go_wp2
  go_loop [4, 5] (fun u i => ∃ (k : Nat), k ≤ 1 ∧ i = .int .i64 ((k : Int) - 1) ∧ u = .int .u64 (W.num (W.tail s k))) (fun _ i => (intOf i + 1).toNat)
  case atStart => exact ⟨1, by omega, rfl, by rw [W.tail_end s 1 (by omega)]; rfl⟩
  case round =>
    obtain ⟨k, hk, rfl, rfl⟩ := hrel
    by_cases h0 : 0 < k
    · obtain ⟨j, rfl⟩ : ∃ j, k = j + 1 := ⟨k - 1, by omega⟩
      have hlt : j < s.size := by omega
      have HT : Hid (W.tail s j = (s[j].toNat : Int) :: W.tail s (j + 1)) := W.tail_cons s j hlt
      have HS := W.num_small s (j + 1) (by omega) (by omega)
      obtain ⟨c, hcb⟩ : ∃ c : Nat, s[j].toNat = c := ⟨_, rfl⟩
      have hc256 : c < 256 := by rw [← hcb]; exact UInt8.toNat_lt _
      have HT' : Hid (W.tail s j = (c : Int) :: W.tail s (j + 1)) := by rw [← hcb]; exact HT
      have HE : Hid (W.num (W.tail s j) = W.num (W.tail s (j + 1)) * 256 + c) := by show W.num (W.tail s j) = _; rw [HT'.out]; rfl
      generalize W.num (W.tail s (j + 1)) = x at *
      clear HT HT'
      go_wp2
      go_round
      case rel => exact ⟨j, by omega, rfl, by rw [HE.out, W.or8b x c HS.1 HS.2 (by omega) (by omega)]⟩
      case measure => simp [intOf]
    · obtain rfl : k = 0 := by omega
      obtain ⟨x, hx⟩ : ∃ x, x = W.num (W.tail s 0) := ⟨_, rfl⟩
      have HX : Hid (x = W.num (W.tail s 0)) := hx
      rw [← hx]
      clear hx
      go_wp2
      go_ret2
      exact ⟨ret2 (by rw [W.sx1, ← HX.out]; rfl) rfl, rfl⟩

set_option maxRecDepth 100000 in
set_option maxHeartbeats 1000000 in
theorem number4 (s : ByteArray) (hsz : s.size = 4) (w : World) :
    Calls Tryd.prog 109 #[.string s] w fun e w' => e = .returned (.tuple #[.int .i64 (W.sx 4 (W.num (W.tail s 0))), .int .i64 0]) ∧ w' = w := by
  go_enter Tryd.func109, Tryd.ntmps109
  go_wp2
  go_loop [4, 5] (fun u i => ∃ (k : Nat), k ≤ 4 ∧ i = .int .i64 ((k : Int) - 1) ∧ u = .int .u64 (W.num (W.tail s k))) (fun _ i => (intOf i + 1).toNat)
  case atStart => exact ⟨4, by omega, rfl, by rw [W.tail_end s 4 (by omega)]; rfl⟩
  case round =>
    obtain ⟨k, hk, rfl, rfl⟩ := hrel
    by_cases h0 : 0 < k
    · obtain ⟨j, rfl⟩ : ∃ j, k = j + 1 := ⟨k - 1, by omega⟩
      have hlt : j < s.size := by omega
      have HT : Hid (W.tail s j = (s[j].toNat : Int) :: W.tail s (j + 1)) := W.tail_cons s j hlt
      have HS := W.num_small s (j + 1) (by omega) (by omega)
      obtain ⟨c, hcb⟩ : ∃ c : Nat, s[j].toNat = c := ⟨_, rfl⟩
      have hc256 : c < 256 := by rw [← hcb]; exact UInt8.toNat_lt _
      have HT' : Hid (W.tail s j = (c : Int) :: W.tail s (j + 1)) := by rw [← hcb]; exact HT
      have HE : Hid (W.num (W.tail s j) = W.num (W.tail s (j + 1)) * 256 + c) := by show W.num (W.tail s j) = _; rw [HT'.out]; rfl
      generalize W.num (W.tail s (j + 1)) = x at *
      clear HT HT'
      go_wp2
      go_round
      case rel => exact ⟨j, by omega, rfl, by rw [HE.out, W.or8b x c HS.1 HS.2 (by omega) (by omega)]⟩
      case measure => simp [intOf]
    · obtain rfl : k = 0 := by omega
      obtain ⟨x, hx⟩ : ∃ x, x = W.num (W.tail s 0) := ⟨_, rfl⟩
      have HX : Hid (x = W.num (W.tail s 0)) := hx
      rw [← hx]
      clear hx
      go_wp2
      go_ret2
      exact ⟨ret2 (by rw [W.sx4, ← HX.out]; rfl) rfl, rfl⟩

set_option maxRecDepth 100000 in
set_option maxHeartbeats 1000000 in
theorem number8 (s : ByteArray) (hsz : s.size = 8) (w : World) :
    Calls Tryd.prog 109 #[.string s] w fun e w' => e = .returned (.tuple #[.int .i64 (W.sx 8 (W.num (W.tail s 0))), .int .i64 0]) ∧ w' = w := by
  go_enter Tryd.func109, Tryd.ntmps109
  go_wp2
  go_loop [4, 5] (fun u i => ∃ (k : Nat), k ≤ 8 ∧ i = .int .i64 ((k : Int) - 1) ∧ u = .int .u64 (W.num (W.tail s k))) (fun _ i => (intOf i + 1).toNat)
  case atStart => exact ⟨8, by omega, rfl, by rw [W.tail_end s 8 (by omega)]; rfl⟩
  case round =>
    obtain ⟨k, hk, rfl, rfl⟩ := hrel
    by_cases h0 : 0 < k
    · obtain ⟨j, rfl⟩ : ∃ j, k = j + 1 := ⟨k - 1, by omega⟩
      have hlt : j < s.size := by omega
      have HT : Hid (W.tail s j = (s[j].toNat : Int) :: W.tail s (j + 1)) := W.tail_cons s j hlt
      have HS := W.num_small s (j + 1) (by omega) (by omega)
      obtain ⟨c, hcb⟩ : ∃ c : Nat, s[j].toNat = c := ⟨_, rfl⟩
      have hc256 : c < 256 := by rw [← hcb]; exact UInt8.toNat_lt _
      have HT' : Hid (W.tail s j = (c : Int) :: W.tail s (j + 1)) := by rw [← hcb]; exact HT
      have HE : Hid (W.num (W.tail s j) = W.num (W.tail s (j + 1)) * 256 + c) := by show W.num (W.tail s j) = _; rw [HT'.out]; rfl
      generalize W.num (W.tail s (j + 1)) = x at *
      clear HT HT'
      go_wp2
      go_round
      case rel => exact ⟨j, by omega, rfl, by rw [HE.out, W.or8b x c HS.1 HS.2 (by omega) (by omega)]⟩
      case measure => simp [intOf]
    · obtain rfl : k = 0 := by omega
      obtain ⟨x, hx⟩ : ∃ x, x = W.num (W.tail s 0) := ⟨_, rfl⟩
      have HX : Hid (x = W.num (W.tail s 0)) := hx
      rw [← hx]
      clear hx
      go_wp2
      go_ret2
      exact ⟨ret2 (by rw [W.sx8, ← HX.out]; rfl) rfl, rfl⟩

set_option maxHeartbeats 400000 in
theorem number_bad (s : ByteArray) (h : W.isSz s.size = false) (w : World) :
    Calls Tryd.prog 109 #[.string s] w fun e w' => e = .returned (.tuple #[.int .i64 0, .int .i64 1]) ∧ w' = w := by
  simp only [W.isSz, Bool.or_eq_false_iff] at h
  obtain ⟨⟨h1, h4⟩, h8⟩ := h
  go_enter Tryd.func109, Tryd.ntmps109
  go_wp2
  go_ret2
  exact ⟨rfl, rfl⟩

theorem number_any (s : ByteArray) (w : World) :
    Calls Tryd.prog 109 #[.string s] w fun e w' => e = .returned (.tuple #[.int .i64 (W.numV s), .int .i64 (W.numE s)]) ∧ w' = w := by
  cases hs : W.isSz s.size
  · refine (number_bad s hs w).mono ?_
    rintro e w' ⟨rfl, rfl⟩
    exact ⟨ret2 (by simp [W.numV, hs]) (by simp [W.numE, hs]), rfl⟩
  · have hs' := hs
    simp [W.isSz] at hs'
    rcases hs' with (h | h) | h
    · refine (number1 s (by omega) w).mono ?_
      rintro e w' ⟨rfl, rfl⟩
      exact ⟨ret2 (by rw [W.numV, hs, if_pos rfl, show (s.size : Int) = 1 by omega]) (by simp [W.numE, hs]), rfl⟩
    · refine (number4 s (by omega) w).mono ?_
      rintro e w' ⟨rfl, rfl⟩
      exact ⟨ret2 (by rw [W.numV, hs, if_pos rfl, show (s.size : Int) = 4 by omega]) (by simp [W.numE, hs]), rfl⟩
    · refine (number8 s (by omega) w).mono ?_
      rintro e w' ⟨rfl, rfl⟩
      exact ⟨ret2 (by rw [W.numV, hs, if_pos rfl, show (s.size : Int) = 8 by omega]) (by simp [W.numE, hs]), rfl⟩

set_option maxRecDepth 100000 in
set_option maxHeartbeats 1000000 in
theorem rnumber1 (s : ByteArray) (hsz : s.size = 1) (w : World) :
    Calls Tryd.prog 84 #[.string s] w fun e w' => e = .returned (.tuple #[.int .i64 (W.sx 1 (W.num (W.tail s 0))), .int .i64 0]) ∧ w' = w := by
  go_enter Tryd.func84, Tryd.ntmps84
  go_wp2
  go_loop [4, 5] (fun u i => ∃ (k : Nat), k ≤ 1 ∧ i = .int .i64 ((k : Int) - 1) ∧ u = .int .u64 (W.num (W.tail s k))) (fun _ i => (intOf i + 1).toNat)
  case atStart => exact ⟨1, by omega, rfl, by rw [W.tail_end s 1 (by omega)]; rfl⟩
  case round =>
    obtain ⟨k, hk, rfl, rfl⟩ := hrel
    by_cases h0 : 0 < k
    · obtain ⟨j, rfl⟩ : ∃ j, k = j + 1 := ⟨k - 1, by omega⟩
      have hlt : j < s.size := by omega
      have HT : Hid (W.tail s j = (s[j].toNat : Int) :: W.tail s (j + 1)) := W.tail_cons s j hlt
      have HS := W.num_small s (j + 1) (by omega) (by omega)
      obtain ⟨c, hcb⟩ : ∃ c : Nat, s[j].toNat = c := ⟨_, rfl⟩
      have hc256 : c < 256 := by rw [← hcb]; exact UInt8.toNat_lt _
      have HT' : Hid (W.tail s j = (c : Int) :: W.tail s (j + 1)) := by rw [← hcb]; exact HT
      have HE : Hid (W.num (W.tail s j) = W.num (W.tail s (j + 1)) * 256 + c) := by show W.num (W.tail s j) = _; rw [HT'.out]; rfl
      generalize W.num (W.tail s (j + 1)) = x at *
      clear HT HT'
      go_wp2
      go_round
      case rel => exact ⟨j, by omega, rfl, by rw [HE.out]⟩
      case measure => simp [intOf]
    · obtain rfl : k = 0 := by omega
      have HT : Hid (W.num (W.tail s 0) = (s[0].toNat : Int)) := W.top1 s hsz
      obtain ⟨c, hcb⟩ : ∃ c : Nat, s[0].toNat = c := ⟨_, rfl⟩
      have hc256 : c < 256 := by rw [← hcb]; exact UInt8.toNat_lt _
      rw [hcb] at HT
      obtain ⟨x, hx⟩ : ∃ x, x = W.num (W.tail s 0) := ⟨_, rfl⟩
      have HX : Hid (x = W.num (W.tail s 0)) := hx
      rw [← hx]
      clear hx
      by_cases hc : 128 ≤ c
      · have hc' : (128 : Int) ≤ c := by omega
        go_wp2
        go_ret2
        refine ⟨ret2 ?_ rfl, rfl⟩
        have h1 := HX.out
        have h2 := HT.out
        rw [← h1] at h2 ⊢
        simp [W.sx]
        rw [IntKind.wrap_u64]
        unfold wrap64
        omega
      · have hc' : ¬ (128 : Int) ≤ c := by omega
        go_wp2
        go_ret2
        refine ⟨ret2 ?_ rfl, rfl⟩
        have h1 := HX.out
        have h2 := HT.out
        rw [← h1] at h2 ⊢
        simp [W.sx]
        unfold wrap64
        omega

set_option maxRecDepth 100000 in
set_option maxHeartbeats 1000000 in
theorem rnumber4 (s : ByteArray) (hsz : s.size = 4) (w : World) :
    Calls Tryd.prog 84 #[.string s] w fun e w' => e = .returned (.tuple #[.int .i64 (W.sx 4 (W.num (W.tail s 0))), .int .i64 0]) ∧ w' = w := by
  go_enter Tryd.func84, Tryd.ntmps84
  go_wp2
  go_loop [4, 5] (fun u i => ∃ (k : Nat), k ≤ 4 ∧ i = .int .i64 ((k : Int) - 1) ∧ u = .int .u64 (W.num (W.tail s k))) (fun _ i => (intOf i + 1).toNat)
  case atStart => exact ⟨4, by omega, rfl, by rw [W.tail_end s 4 (by omega)]; rfl⟩
  case round =>
    obtain ⟨k, hk, rfl, rfl⟩ := hrel
    by_cases h0 : 0 < k
    · obtain ⟨j, rfl⟩ : ∃ j, k = j + 1 := ⟨k - 1, by omega⟩
      have hlt : j < s.size := by omega
      have HT : Hid (W.tail s j = (s[j].toNat : Int) :: W.tail s (j + 1)) := W.tail_cons s j hlt
      have HS := W.num_small s (j + 1) (by omega) (by omega)
      obtain ⟨c, hcb⟩ : ∃ c : Nat, s[j].toNat = c := ⟨_, rfl⟩
      have hc256 : c < 256 := by rw [← hcb]; exact UInt8.toNat_lt _
      have HT' : Hid (W.tail s j = (c : Int) :: W.tail s (j + 1)) := by rw [← hcb]; exact HT
      have HE : Hid (W.num (W.tail s j) = W.num (W.tail s (j + 1)) * 256 + c) := by show W.num (W.tail s j) = _; rw [HT'.out]; rfl
      generalize W.num (W.tail s (j + 1)) = x at *
      clear HT HT'
      go_wp2
      go_round
      case rel => exact ⟨j, by omega, rfl, by rw [HE.out]⟩
      case measure => simp [intOf]
    · obtain rfl : k = 0 := by omega
      obtain ⟨r, hr0, hr1, HT0⟩ := W.top4 s hsz
      have HT : Hid (W.num (W.tail s 0) = (s[3].toNat : Int) * 16777216 + r) := HT0
      clear HT0
      obtain ⟨c, hcb⟩ : ∃ c : Nat, s[3].toNat = c := ⟨_, rfl⟩
      have hc256 : c < 256 := by rw [← hcb]; exact UInt8.toNat_lt _
      rw [hcb] at HT
      obtain ⟨x, hx⟩ : ∃ x, x = W.num (W.tail s 0) := ⟨_, rfl⟩
      have HX : Hid (x = W.num (W.tail s 0)) := hx
      rw [← hx]
      clear hx
      by_cases hc : 128 ≤ c
      · have hc' : (128 : Int) ≤ c := by omega
        go_wp2
        go_ret2
        refine ⟨ret2 ?_ rfl, rfl⟩
        have h1 := HX.out
        have h2 := HT.out
        rw [← h1] at h2 ⊢
        simp [W.sx, wrap32]
        rw [IntKind.wrap_u64]
        unfold wrap64
        omega
      · have hc' : ¬ (128 : Int) ≤ c := by omega
        go_wp2
        go_ret2
        refine ⟨ret2 ?_ rfl, rfl⟩
        have h1 := HX.out
        have h2 := HT.out
        rw [← h1] at h2 ⊢
        simp [W.sx, wrap32]
        unfold wrap64
        omega

set_option maxRecDepth 100000 in
set_option maxHeartbeats 1000000 in
theorem rnumber8 (s : ByteArray) (hsz : s.size = 8) (w : World) :
    Calls Tryd.prog 84 #[.string s] w fun e w' => e = .returned (.tuple #[.int .i64 (W.sx 8 (W.num (W.tail s 0))), .int .i64 0]) ∧ w' = w := by
  go_enter Tryd.func84, Tryd.ntmps84
  go_wp2
  go_loop [4, 5] (fun u i => ∃ (k : Nat), k ≤ 8 ∧ i = .int .i64 ((k : Int) - 1) ∧ u = .int .u64 (W.num (W.tail s k))) (fun _ i => (intOf i + 1).toNat)
  case atStart => exact ⟨8, by omega, rfl, by rw [W.tail_end s 8 (by omega)]; rfl⟩
  case round =>
    obtain ⟨k, hk, rfl, rfl⟩ := hrel
    by_cases h0 : 0 < k
    · obtain ⟨j, rfl⟩ : ∃ j, k = j + 1 := ⟨k - 1, by omega⟩
      have hlt : j < s.size := by omega
      have HT : Hid (W.tail s j = (s[j].toNat : Int) :: W.tail s (j + 1)) := W.tail_cons s j hlt
      have HS := W.num_small s (j + 1) (by omega) (by omega)
      obtain ⟨c, hcb⟩ : ∃ c : Nat, s[j].toNat = c := ⟨_, rfl⟩
      have hc256 : c < 256 := by rw [← hcb]; exact UInt8.toNat_lt _
      have HT' : Hid (W.tail s j = (c : Int) :: W.tail s (j + 1)) := by rw [← hcb]; exact HT
      have HE : Hid (W.num (W.tail s j) = W.num (W.tail s (j + 1)) * 256 + c) := by show W.num (W.tail s j) = _; rw [HT'.out]; rfl
      generalize W.num (W.tail s (j + 1)) = x at *
      clear HT HT'
      go_wp2
      go_round
      case rel => exact ⟨j, by omega, rfl, by rw [HE.out]⟩
      case measure => simp [intOf]
    · obtain rfl : k = 0 := by omega
      obtain ⟨x, hx⟩ : ∃ x, x = W.num (W.tail s 0) := ⟨_, rfl⟩
      have HX : Hid (x = W.num (W.tail s 0)) := hx
      rw [← hx]
      clear hx
      go_wp2
      go_ret2
      exact ⟨ret2 (by rw [← HX.out]; rfl) rfl, rfl⟩

set_option maxHeartbeats 400000 in
theorem rnumber_bad (s : ByteArray) (h : W.isSz s.size = false) (w : World) :
    Calls Tryd.prog 84 #[.string s] w fun e w' => e = .returned (.tuple #[.int .i64 0, .int .i64 1]) ∧ w' = w := by
  simp only [W.isSz, Bool.or_eq_false_iff] at h
  obtain ⟨⟨h1, h4⟩, h8⟩ := h
  go_enter Tryd.func84, Tryd.ntmps84
  go_wp2
  go_ret2
  exact ⟨rfl, rfl⟩

theorem rnumber_any (s : ByteArray) (w : World) :
    Calls Tryd.prog 84 #[.string s] w fun e w' => e = .returned (.tuple #[.int .i64 (W.numV s), .int .i64 (W.numE s)]) ∧ w' = w := by
  cases hs : W.isSz s.size
  · refine (rnumber_bad s hs w).mono ?_
    rintro e w' ⟨rfl, rfl⟩
    exact ⟨ret2 (by simp [W.numV, hs]) (by simp [W.numE, hs]), rfl⟩
  · have hs' := hs
    simp [W.isSz] at hs'
    rcases hs' with (h | h) | h
    · refine (rnumber1 s (by omega) w).mono ?_
      rintro e w' ⟨rfl, rfl⟩
      exact ⟨ret2 (by rw [W.numV, hs, if_pos rfl, show (s.size : Int) = 1 by omega]) (by simp [W.numE, hs]), rfl⟩
    · refine (rnumber4 s (by omega) w).mono ?_
      rintro e w' ⟨rfl, rfl⟩
      exact ⟨ret2 (by rw [W.numV, hs, if_pos rfl, show (s.size : Int) = 4 by omega]) (by simp [W.numE, hs]), rfl⟩
    · refine (rnumber8 s (by omega) w).mono ?_
      rintro e w' ⟨rfl, rfl⟩
      exact ⟨ret2 (by rw [W.numV, hs, if_pos rfl, show (s.size : Int) = 8 by omega]) (by simp [W.numE, hs]), rfl⟩

end Go.Proofs.YtmplnkfjaeegdaaDoor

/- What is written is read as it was: no program in sight. -/
namespace Go.Proofs.YtmplnkfjaeegdaaDoor.W
set_option maxRecDepth 100000
open Go.RowKit

theorem tail_nums (xs : List Int) (h : ∀ n ∈ xs, 0 ≤ n ∧ n ≤ 255) (j : Nat) : tail (strOfNums xs) j = xs.drop j := by
  unfold tail
  rw [strOfNums_data, ← List.map_drop, List.map_map]
  conv => rhs; rw [← List.map_id (xs.drop j)]
  apply List.map_congr_left
  intro n hn
  have := h n (List.mem_of_mem_drop hn)
  simp only [Function.comp, id]
  rw [UInt8.toNat_ofNat']
  omega

theorem bytesOf_bd (n : Int) (s : Nat) : ∀ x ∈ bytesOf n s, 0 ≤ x ∧ x ≤ 255 := by
  intro x hx
  simp only [bytesOf, List.mem_map] at hx
  obtain ⟨i, _, rfl⟩ := hx
  exact byteAt_bd n i

theorem byteAt_succ (n : Int) (i : Nat) : byteAt n (i + 1) = byteAt (n / 256) i := by
  unfold byteAt
  have : (0 : Int) ≤ 256 := by decide
  rw [Int.pow_succ, Int.mul_comm, ← Int.ediv_ediv_of_nonneg this]

theorem bytesOf_cons (n : Int) (s : Nat) : bytesOf n (s + 1) = n % 256 :: bytesOf (n / 256) s := by
  simp only [bytesOf, List.range_succ_eq_map, List.map_cons, List.map_map]
  congr 1
  · simp [byteAt]
  · apply List.map_congr_left
    intro i _
    exact byteAt_succ n i

theorem num_bytesOf : ∀ (s : Nat) (n : Int), num (bytesOf n s) = n % 256 ^ s
  | 0, n => by simp [bytesOf, num]
  | s + 1, n => by
    rw [bytesOf_cons, num, num_bytesOf s, Int.pow_succ, Int.mul_comm (256 ^ s) 256]
    have h : n % (256 * 256 ^ s) = n % 256 + 256 * (n / 256 % 256 ^ s) := by
      have hP : (0 : Int) < 256 ^ s := Int.pow_pos (by decide)
      have h1 := Int.mul_ediv_add_emod (n / 256) (256 ^ s)
      have h2 := Int.emod_nonneg (n / 256) (Int.ne_of_gt hP)
      have h3 := Int.emod_lt_of_pos (n / 256) hP
      generalize n / 256 % 256 ^ s = r at *
      generalize n / 256 / 256 ^ s = q at *
      have h4 : n = (n % 256 + 256 * r) + 256 * 256 ^ s * q := by
        rw [Int.mul_assoc]; omega
      conv => lhs; rw [h4]
      rw [Int.add_mul_emod_self_left]
      exact Int.emod_eq_of_lt (by omega) (by omega)
    rw [h]
    omega

/-- Number turns Bytes back. -/
theorem num_back (n : Int) (h : (Lit.int .i64 n).wf = true) : bytesE n 8 = 0 ∧ numE (strOfNums (bytesV n 8)) = 0 ∧ numV (strOfNums (bytesV n 8)) = n := by
  simp [Lit.wf, IntKind.min, IntKind.max, IntKind.signed, IntKind.bits] at h
  have e : sx 8 n = n := by simp [sx]; unfold wrap64; omega
  have s8 : isSz 8 = true := by decide
  have hv : bytesV n 8 = bytesOf n 8 := by rw [bytesV, if_pos s8, if_pos e]; rfl
  have hsz : (strOfNums (bytesOf n 8)).size = 8 := by rw [strOfNums_size, bytesOf_length]
  have hE : bytesE n 8 = 0 := by rw [bytesE, if_pos s8, if_pos e]
  have hs8 : isSz ((8 : Nat) : Int) = true := by decide
  rw [hv, hE, numE, numV, hsz, if_pos hs8, if_pos hs8, tail_nums _ (bytesOf_bd n 8), List.drop_zero, num_bytesOf]
  refine ⟨rfl, rfl, ?_⟩
  have p : (256 : Int) ^ 8 = 18446744073709551616 := by decide
  rw [p]
  show sx 8 (n % 18446744073709551616) = n
  simp [sx]
  unfold wrap64
  omega

theorem takeG_grps : ∀ (f g : Nat) (u x : Int) (r : List Int), g + f = 9 → 0 ≤ u → u < 2 * 128 ^ f → (0 < g → 0 < u) → takeG g x (grps f u ++ r) = some (x + u * 128 ^ g, g + (grps f u).length)
  | 0, g, u, x, r, hg, h0, h1, h2 => by
    simp at h1
    rw [grps_last 0 u (by omega)]
    have hp := h2 (by omega)
    rw [List.singleton_append, takeG_last _ _ _ _ (by omega) (by omega), show u % 128 = u by omega]
    rfl
  | f + 1, g, u, x, r, hg, h0, h1, h2 => by
    by_cases h : u < 128
    · rw [grps_last (f + 1) u h, List.singleton_append, takeG_last _ _ _ _ (by omega) h, show u % 128 = u by omega]
      rfl
    · rw [grps_step f u (by omega), List.cons_append, takeG_more _ _ _ _ (by omega) (by omega)]
      obtain ⟨g', hg', hl⟩ := fuel_step (f + 1) u (by omega) h1
      obtain rfl : f = g' := by omega
      rw [takeG_grps f (g + 1) (u / 128) _ r (by omega) (by omega) hl (by omega)]
      have e1 : (u % 128 + 128) % 128 = u % 128 := by omega
      have e2 : u * 128 ^ g = (u % 128) * 128 ^ g + (u / 128) * 128 ^ (g + 1) := by
        rw [Int.pow_succ, ← Int.mul_assoc, Int.mul_comm (u / 128) (128 ^ g), Int.mul_assoc (128 ^ g) (u / 128) 128, Int.mul_comm (u % 128), ← Int.mul_add]
        rw [Int.mul_comm u]
        congr 1
        omega
      rw [e1, e2]
      simp
      omega

theorem takeG_put (u : Int) (r : List Int) (h0 : 0 ≤ u) (h1 : u ≤ 18446744073709551615) : takeG 0 0 (put u ++ r) = some (u, (put u).length) := by
  rw [put, takeG_grps 9 0 u 0 r rfl h0 (fuel_top u h1) (by omega)]
  simp

/-- Take turns Put back, whatever stands ahead of it or behind. -/
theorem take_put (a : List Int) (u : Int) (r : List Int) (h0 : 0 ≤ u) (h1 : u ≤ 18446744073709551615) (hb : ∀ n ∈ a ++ (put u ++ r), 0 ≤ n ∧ n ≤ 255) :
    take (strOfNums (a ++ (put u ++ r))) (a.length : Int) = (u, ((a.length + (put u).length : Nat) : Int), 0) := by
  have hl : (strOfNums (a ++ (put u ++ r))).size = a.length + ((put u).length + r.length) := by rw [strOfNums_size]; simp
  rw [take, if_neg (by rw [hl]; omega), Int.toNat_natCast]
  have ht : tail (strOfNums (a ++ (put u ++ r))) a.length = put u ++ r := by
    rw [tail_nums _ hb]; simp
  rw [takeR_some _ _ u (put u).length (by rw [ht]; exact takeG_put u r h0 h1)]
  rw [Int.natCast_add]

end Go.Proofs.YtmplnkfjaeegdaaDoor.W

/- (Of WordGroups: without All.) What word.appendGroups and All come to. -/
namespace Go.Proofs.YtmplnkfjaeegdaaDoor
set_option maxRecDepth 100000
open Go.RowKit

set_option maxHeartbeats 400000 in
theorem groups_any (B m : Nat) (v : Value) (xs : List Int) (u : Int) (h0 : 0 ≤ u) (h1 : u ≤ 18446744073709551615) (w : World)
    (hown : w.ownsRow B 5 1 v m (xs.map (Value.int .u8))) (hB : B ≤ w.heap.size) (hm : m + 10 ≤ 140737488355328) :
    Calls Tryd.prog 82 #[v, .int .u64 u] w fun e w' => ∃ v', e = .returned v' ∧ w'.ownsRow B 5 1 v' (m + (W.put u).length) ((xs ++ W.put u).map (Value.int .u8)) ∧ Below B w w' := by
  obtain ⟨i0, hi, hz0, hz1, hz2⟩ := info_parts infoB
  have HT : Hid (u < 2 * 128 ^ 9) := W.fuel_top u h1
  clear h1
  go_enter Tryd.func82, Tryd.ntmps82
  go_wp2
  go_loopw [0, 1] (fun t s wr => ∃ (f : Nat) (x : Int) (ys : List Int), s = .int .u64 x ∧ 0 ≤ x ∧ Hid (x < 2 * 128 ^ f ∧ W.put u = ys ++ W.grps f x) ∧ ys.length + f ≤ 9 ∧ wr.ownsRow B 5 1 t (m + ys.length) ((xs ++ ys).map (Value.int .u8)) ∧ Below B w wr) (fun _ s _ => (intOf s).toNat)
  case atStart => exact ⟨9, u, [], rfl, h0, ⟨HT.out, rfl⟩, by simp, by simpa using hown, Below.refl _ _⟩
  case round =>
    obtain ⟨f, x, ys, rfl, hx0, HX, hl, ho, hb⟩ := hrel
    have hand := W.and127_u x
    by_cases hlt : 128 ≤ x
    · go_wp2_with (first | (at_builtin; refine wpList_append_own _ rfl _ _ 60 rfl B 5 i0 (.int .u8 0) 1 1 Tryd.underlying60 hi hz0 hz1 hz2 rfl (by decide) _ _ _ rfl (ho.alloc _) ⟨wr.heap.size, 0, none⟩ 1 1 [.int .u8 (x % 128 + 128)] rfl rfl (cell_one_new _ _ _) (by intro u hu; simp at hu; subst hu; rfl) (by unfold maxLen; omega) (by omega) (by have := hb.size; simp; omega) ?_) | go_in)
      intro v1 w1 ho1 hg1 _
      have hbx : Below B w w1 := below_own (hb.alloc (by have := hb.size; omega) _) (ho.alloc _) hg1 (by have := hb.size; simp; omega)
      have hy : (xs ++ ys).map (Value.int .u8) ++ [Value.int .u8 (x % 128 + 128)] = (xs ++ (ys ++ [x % 128 + 128])).map (Value.int .u8) := by simp
      have ho2 : w1.ownsRow B 5 1 v1 (m + (ys ++ [x % 128 + 128]).length) ((xs ++ (ys ++ [x % 128 + 128])).map (Value.int .u8)) := by rw [← hy]; simpa [Nat.add_assoc] using ho1
      clear hg1 hy ho hand ho1
      go_wp2
      go_roundw
      case rel =>
        obtain ⟨g, rfl, hg⟩ := W.fuel_step f x hlt HX.out.1
        refine ⟨g, x / 128, ys ++ [x % 128 + 128], rfl, by omega, ⟨hg, ?_⟩, by simp; omega, ho2, hbx⟩
        rw [HX.out.2, W.grps_step g x hlt]; simp
      case measure => simp [intOf]; omega
    · go_wp2_with (first | (at_builtin; refine wpList_append_own _ rfl _ _ 60 rfl B 5 i0 (.int .u8 0) 1 1 Tryd.underlying60 hi hz0 hz1 hz2 rfl (by decide) _ _ _ rfl (ho.alloc _) ⟨wr.heap.size, 0, none⟩ 1 1 [.int .u8 (x)] rfl rfl (cell_one_new _ _ _) (by intro u hu; simp at hu; subst hu; rfl) (by unfold maxLen; omega) (by omega) (by have := hb.size; simp; omega) ?_) | go_in)
      intro v1 w1 ho1 hg1 _
      have hbx : Below B w w1 := below_own (hb.alloc (by have := hb.size; omega) _) (ho.alloc _) hg1 (by have := hb.size; simp; omega)
      have hy : (xs ++ ys).map (Value.int .u8) ++ [Value.int .u8 x] = (xs ++ W.put u).map (Value.int .u8) := by
        rw [HX.out.2, W.grps_last f x (by omega)]; simp
      have hn : m + ys.length + 1 = m + (W.put u).length := by rw [HX.out.2, W.grps_last f x (by omega)]; simp; omega
      have ho2 : w1.ownsRow B 5 1 v1 (m + (W.put u).length) ((xs ++ W.put u).map (Value.int .u8)) := by rw [← hy, ← hn]; simpa using ho1
      clear hg1 hy ho hand hn ho1
      go_wp2
      go_ret
      exact ⟨_, rfl, ho2, hbx⟩

end Go.Proofs.YtmplnkfjaeegdaaDoor

/- What word.Put comes to. -/
namespace Go.Proofs.YtmplnkfjaeegdaaDoor
set_option maxRecDepth 100000
open Go.RowKit

set_option maxHeartbeats 400000 in
theorem put_any (u : Int) (h0 : 0 ≤ u) (h1 : u ≤ 18446744073709551615) (w : World) :
    Calls Tryd.prog 57 #[.int .u64 u] w fun e w' => e = .returned (.string (strOfNums (W.put u))) ∧ Below w.heap.size w w' := by
  have H1 : Hid (u ≤ 18446744073709551615) := h1
  clear h1
  go_enter Tryd.func57, Tryd.ntmps57
  go_wp2_with fail
  refine (groups_any w.heap.size 0 (.slice none 0 0) [] u h0 H1.out w (World.ownsRow_nil _ _ _ _) (Nat.le_refl _) (by omega)).mono ?_
  rintro e w1 ⟨v1, rfl, ho, hb⟩
  have hcv := conv_own ho
  simp only [List.nil_append] at hcv
  clear ho
  go_wp2
  go_ret
  exact ⟨rfl, hb⟩

end Go.Proofs.YtmplnkfjaeegdaaDoor

/- What word.Take comes to. -/
namespace Go.Proofs.YtmplnkfjaeegdaaDoor
set_option maxRecDepth 100000
open Go.RowKit

theorem ret3 {k l m : IntKind} {a b c a' b' c' : Int} (h : (a, b, c) = (a', b', c')) : Ending.returned (.tuple #[.int k a, .int l b, .int m c]) = .returned (.tuple #[.int k a', .int l b', .int m c']) := by
  simp only [Prod.mk.injEq] at h
  rw [h.1, h.2.1, h.2.2]

set_option maxRecDepth 100000 in
set_option maxHeartbeats 1000000 in
theorem take_in (s : ByteArray) (a : Nat) (ha : a ≤ s.size) (hs : s.size ≤ maxLen) (w : World) :
    Calls Tryd.prog 115 #[.string s, .int .i64 a] w fun e w' => e = .returned (.tuple #[.int .u64 (W.takeR s a).1, .int .i64 (W.takeR s a).2.1, .int .i64 (W.takeR s a).2.2]) ∧ Below w.heap.size w w' := by
  unfold maxLen at hs
  have hneg : decide ((a : Int) < 0) = false := by simp
  have hle : decide (s.size < a) = false := by simp; omega
  go_enter Tryd.func115, Tryd.ntmps115
  go_wp2
  go_loopw [7, 8] (fun u i wr => ∃ (j g : Nat) (x : Int), Hid (j = a + g) ∧ j ≤ s.size ∧ g ≤ 9 ∧ i = .int .i64 j ∧ u = .int .u64 x ∧ Hid (0 ≤ x ∧ x < 128 ^ g ∧ W.takeG 0 0 (W.tail s a) = W.takeG g x (W.tail s j)) ∧ Below w.heap.size w wr) (fun _ i _ => s.size - (intOf i).toNat)
  case atStart => exact ⟨a, 0, 0, rfl, ha, by omega, rfl, rfl, ⟨by omega, by decide, rfl⟩, Below.refl _ _⟩
  case round =>
    obtain ⟨j, g, x, HJ, hjs, hg9, rfl, rfl, HX, hb⟩ := hrel
    by_cases hlt : j < s.size
    · have HT : Hid (W.tail s j = (s[j].toNat : Int) :: W.tail s (j + 1)) := W.tail_cons s j hlt
      obtain ⟨c, hcb⟩ : ∃ c : Nat, s[j].toNat = c := ⟨_, rfl⟩
      have hc256 : c < 256 := by rw [← hcb]; exact UInt8.toNat_lt _
      have HT' : Hid (W.tail s j = (c : Int) :: W.tail s (j + 1)) := by rw [← hcb]; exact HT
      have hkl : (j : Int) < s.size := by omega
      have hk0 : 0 ≤ (j : Int) := by omega
      have hw : IntKind.i64.wrap ((j : Int) - a) = (g : Int) := by have := HJ.out; rw [IntKind.wrap_i64]; omega
      have hand := W.and127_b
      have hor := W.or_fold
      clear HT
      rcases (show (g = 9 ∧ 1 < c) ∨ (g = 9 ∧ c = 0) ∨ (g = 9 ∧ c ≤ 1 ∧ 0 < c) ∨ (0 < g ∧ g < 9 ∧ c = 0) ∨ (g < 1 ∧ c < 128) ∨ (0 < g ∧ g < 9 ∧ 0 < c ∧ c < 128) ∨ (g < 1 ∧ 128 ≤ c) ∨ (0 < g ∧ g < 9 ∧ 128 ≤ c) by omega) with ⟨h0, h1⟩ | ⟨h0, rfl⟩ | ⟨h0, h1, h2⟩ | ⟨h0, h1, rfl⟩ | ⟨h0, h1⟩ | ⟨h0, h1, h2, h3⟩ | ⟨h0, h1⟩ | ⟨h0, h1, h2⟩
      · have e9 : ((g : Int) == 9) = true := by simp; omega
        have p0 : decide (0 < g) = true := by simp; omega
        have hz : 9 ≤ g := by omega
        clear h0
        go_wp2
        go_quiet (fail)
        clear hcb hw
        go_wp2
        go_ret3
        have hf := W.takeR_none s a (by rw [HX.out.2.2, HT'.out]; exact W.takeG_no _ _ _ _ (by omega))
        exact ⟨ret3 (by rw [hf]), below_drewN hb nq⟩
      · have e9 : ((g : Int) == 9) = true := by simp; omega
        have p0 : decide (0 < g) = true := by simp; omega
        have hz : 9 ≤ g := by omega
        clear h0
        go_wp2
        go_quiet (fail)
        clear hcb hw
        go_wp2
        go_ret3
        have hf := W.takeR_none s a (by rw [HX.out.2.2, HT'.out]; exact W.takeG_no _ _ _ _ (by omega))
        exact ⟨ret3 (by rw [hf]), below_drewN hb nq⟩
      · have e9 : ((g : Int) == 9) = true := by simp; omega
        have p0 : decide (0 < g) = true := by simp; omega
        have c0 : ((c : Int) == 0) = false := by simp; omega
        have hz : 9 ≤ g := by omega
        clear h0
        go_wp2
        go_quiet (fail)
        clear hcb hw
        go_wp2
        go_ret3
        have hf := W.takeR_some s a _ _ (by rw [HX.out.2.2, HT'.out]; exact W.takeG_last _ _ _ _ (by omega) (by omega))
        exact ⟨ret3 (by rw [hf, W.orv_eq x c g HX.out.1 HX.out.2.1 hg9 (by omega) (by omega)]; have := HJ.out; simp; omega), below_drewN hb nq⟩
      · have e9 : ((g : Int) == 9) = false := by simp; omega
        have p0 : decide (0 < g) = true := by simp; omega
        go_wp2
        go_quiet (fail)
        clear hcb hw
        go_wp2
        go_ret3
        have hf := W.takeR_none s a (by rw [HX.out.2.2, HT'.out]; exact W.takeG_no _ _ _ _ (by omega))
        exact ⟨ret3 (by rw [hf]), below_drewN hb nq⟩
      · have e9 : ((g : Int) == 9) = false := by simp; omega
        have p0 : decide (0 < g) = false := by simp; omega
        go_wp2
        go_quiet (fail)
        clear hcb hw
        go_wp2
        go_ret3
        have hf := W.takeR_some s a _ _ (by rw [HX.out.2.2, HT'.out]; exact W.takeG_last _ _ _ _ (by omega) (by omega))
        exact ⟨ret3 (by rw [hf, W.orv_eq x c g HX.out.1 HX.out.2.1 hg9 (by omega) (by omega)]; have := HJ.out; simp; omega), below_drewN hb nq⟩
      · have e9 : ((g : Int) == 9) = false := by simp; omega
        have p0 : decide (0 < g) = true := by simp; omega
        have c0 : ((c : Int) == 0) = false := by simp; omega
        go_wp2
        go_quiet (fail)
        clear hcb hw
        go_wp2
        go_ret3
        have hf := W.takeR_some s a _ _ (by rw [HX.out.2.2, HT'.out]; exact W.takeG_last _ _ _ _ (by omega) (by omega))
        exact ⟨ret3 (by rw [hf, W.orv_eq x c g HX.out.1 HX.out.2.1 hg9 (by omega) (by omega)]; have := HJ.out; simp; omega), below_drewN hb nq⟩
      · have e9 : ((g : Int) == 9) = false := by simp; omega
        have p0 : decide (0 < g) = false := by simp; omega
        go_wp2
        go_quiet (fail)
        clear hcb hw
        go_wp2
        go_roundw
        case rel =>
          refine ⟨j + 1, g + 1, W.orv x c g, by have := HJ.out; show j + 1 = a + (g + 1); omega, by omega, by omega, by go_num, rfl, ?_, below_drewN hb nq⟩
          rw [W.orv_eq x c g HX.out.1 HX.out.2.1 hg9 (by omega) (by omega)]
          refine ⟨by have := W.group_fits c g hg9 (by omega) (by omega); have := HX.out.1; omega, W.next_lt x c g HX.out.2.1, ?_⟩
          rw [HX.out.2.2, HT'.out, W.takeG_more _ _ _ _ (by omega) (by omega)]
        case measure => simp [intOf]; omega
      · have e9 : ((g : Int) == 9) = false := by simp; omega
        have p0 : decide (0 < g) = true := by simp; omega
        have c0 : ((c : Int) == 0) = false := by simp; omega
        go_wp2
        go_quiet (fail)
        clear hcb hw
        go_wp2
        go_roundw
        case rel =>
          refine ⟨j + 1, g + 1, W.orv x c g, by have := HJ.out; show j + 1 = a + (g + 1); omega, by omega, by omega, by go_num, rfl, ?_, below_drewN hb nq⟩
          rw [W.orv_eq x c g HX.out.1 HX.out.2.1 hg9 (by omega) (by omega)]
          refine ⟨by have := W.group_fits c g hg9 (by omega) (by omega); have := HX.out.1; omega, W.next_lt x c g HX.out.2.1, ?_⟩
          rw [HX.out.2.2, HT'.out, W.takeG_more _ _ _ _ (by omega) (by omega)]
        case measure => simp [intOf]; omega
    · go_wp2
      go_ret3
      have hf := W.takeR_none s a (by rw [HX.out.2.2, W.tail_end s j (by omega)]; rfl)
      exact ⟨ret3 (by rw [hf]), hb⟩

set_option maxHeartbeats 400000 in
theorem take_out (s : ByteArray) (a : Int) (h : a < 0 ∨ (s.size : Int) < a) (w : World) :
    Calls Tryd.prog 115 #[.string s, .int .i64 a] w fun e w' => e = .returned (.tuple #[.int .u64 0, .int .i64 0, .int .i64 1]) ∧ Below w.heap.size w w' := by
  rcases h with h | h
  · go_enter Tryd.func115, Tryd.ntmps115
    go_wp2
    go_ret3
    exact ⟨rfl, Below.refl _ _⟩
  · have h0 : ¬ a < 0 := by omega
    go_enter Tryd.func115, Tryd.ntmps115
    go_wp2
    go_ret3
    exact ⟨rfl, Below.refl _ _⟩

theorem take_any (s : ByteArray) (a : Int) (hs : s.size ≤ maxLen) (w : World) :
    Calls Tryd.prog 115 #[.string s, .int .i64 a] w fun e w' => e = .returned (.tuple #[.int .u64 (W.take s a).1, .int .i64 (W.take s a).2.1, .int .i64 (W.take s a).2.2]) ∧ Below w.heap.size w w' := by
  by_cases h : a < 0 ∨ (s.size : Int) < a
  · refine (take_out s a h w).mono ?_
    rintro e w' ⟨rfl, hb⟩
    exact ⟨ret3 (by rw [W.take, if_pos h]), hb⟩
  · obtain ⟨n, rfl⟩ := Int.eq_ofNat_of_zero_le (show 0 ≤ a by omega)
    refine (take_in s n (by omega) hs w).mono ?_
    rintro e w' ⟨rfl, hb⟩
    exact ⟨ret3 (by rw [W.take, if_neg h, Int.toNat_natCast]), hb⟩

end Go.Proofs.YtmplnkfjaeegdaaDoor

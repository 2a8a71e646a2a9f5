/- What the rows' list gives: the two tables stand in memory as the program's text lays them. -/
import Derived.Test.YtffokdldgdjkhaaDoorRows
import Derived.Test.YtffokdldgdjkhaaDoorInsMath
import Derived.OpenShut
import Derived.Deep.Strs
import Derived.Lib.LaidTab
import Derived.Lib.SmallJoins
import Derived.Test.YtffokdldgdjkhaaDoorWordNumMath
import Derived.Test.YtffokdldgdjkhaaDoorInsDecode
import Derived.Test.YtffokdldgdjkhaaDoorInsEncAll
import Derived.Test.YtffokdldgdjkhaaDoorInsForm
import Derived.Laws.StructEq
import Derived.Deep.LoopGhost
import Derived.Deep.AppendLies
import Derived.Test.YtffokdldgdjkhaaDoorStepMath
import Derived.Test.YtffokdldgdjkhaaDoorStepRefA
import Derived.Test.YtffokdldgdjkhaaDoorStepRefB
import Derived.Test.YtffokdldgdjkhaaDoorStepRefC
import Derived.Test.YtffokdldgdjkhaaDoorStepRefD1
import Derived.Test.YtffokdldgdjkhaaDoorStepRefD2
import Derived.Test.YtffokdldgdjkhaaDoorStepRefD19
import Derived.Test.YtffokdldgdjkhaaDoorStepRefE
import Derived.Test.YtffokdldgdjkhaaDoorStepRefF
import Derived.Test.YtffokdldgdjkhaaDoorInsRefDecA
import Derived.Test.YtffokdldgdjkhaaDoorInsRefDecB
import Derived.Test.YtffokdldgdjkhaaDoorProg
import Derived.WalkKit
import Derived.WalkSpells
import Derived.WalkLawsBesides
import Derived.Maps.OwnSet
import Derived.Maps.Keyed
import Derived.Deep.RegionHeld3
import Derived.StringKeys
import Derived.Test.YtffokdldgdjkhaaDoorWordOwn
import Derived.Test.YtffokdldgdjkhaaDoorWordTakeMath
import Derived.Deep.QuietTactic
import Derived.BigQuiet
import Derived.Test.YtffokdldgdjkhaaDoorWordNum
import Derived.Test.YtffokdldgdjkhaaDoorWordPutMath
import Derived.Lib.AppendStr
import Derived.Deep.AppendSrc
import Derived.Test.YtffokdldgdjkhaaDoorWordBytes
namespace Go.Proofs.YtffokdldgdjkhaaDoor
open Go.ChangeShapes Go.WideShapes Go.ChangeAt Go.RowKit Go.Joins

theorem gForms : Tryd.prog.globalNamed "cotter/ins.forms" = some 1 := by kernel_rfl
theorem gNums : Tryd.prog.globalNamed "cotter/ins.formNumbers" = some 0 := by kernel_rfl
theorem tForms : (Tryd.prog.globals[1]?).map (·.type) = some 151 := by kernel_rfl
theorem tNums : (Tryd.prog.globals[0]?).map (·.type) = some 150 := by kernel_rfl
theorem cForms : Tryd.prog.cellsOf 151 = 33 := by kernel_rfl
theorem cNums : Tryd.prog.cellsOf 150 = 34 := by kernel_rfl
theorem cForm : Tryd.prog.cellsOf 133 = 3 := by kernel_rfl
theorem cInt : Tryd.prog.cellsOf 3 = 1 := by kernel_rfl
theorem cBool : Tryd.prog.cellsOf 4 = 1 := by kernel_rfl

/-- A form's three cells, read. -/
theorem trod_form {W : World} {fuel : Nat} {cs : List Value} {r m : Int} {t : Bool} {p : List MemPlace} {enc : TypeId × Value → Unit} {base : Nat} {sp : Nat → Bool} {held : Bool}
    (h : DataW.trod enc Tryd.prog W base sp held fuel 133 cs = some (.agg [.lit (.int .i64 r), .lit (.int .i64 m), .lit (.bool t)], p)) : cs[0]? = some (.int .i64 r) ∧ cs[1]? = some (.int .i64 m) ∧ cs[2]? = some (.bool t) := by
  obtain ⟨y0, y1, y2, n, hx, -, h0, h1, h2⟩ := Deep.trod_struct3 Tryd.underlying133 h
  obtain ⟨a0, e0, g0, -⟩ := DataW.trod_int Tryd.underlying3 h0
  obtain ⟨a1, e1, g1, -⟩ := DataW.trod_int Tryd.underlying3 h1
  obtain ⟨a2, e2, g2⟩ := DataW.trod_bool Tryd.underlying4 h2
  subst g0 g1 g2
  simp at hx
  obtain ⟨⟨rfl, rfl, rfl⟩, -⟩ := hx
  have k0 := congrArg (·[0]?) e0
  have k1 := congrArg (·[0]?) e1
  have k2 := congrArg (·[0]?) e2
  simp [cInt, cBool, List.getElem?_drop] at k0 k1 k2
  exact ⟨k0, k1, k2⟩

theorem forms_of_trod {W : World} {fuel : Nat} {cs : List Value} {p : List MemPlace} {enc : TypeId × Value → Unit} {base : Nat} {sp : Nat → Bool} {held : Bool}
    (h : DataW.trod enc Tryd.prog W base sp held fuel 151 cs = some (Rows.laid_cotter_ins_forms, p)) : ∀ o : Nat, cs[o]? = I.forms[o]? := by
  obtain ⟨xs, m, -, hx, hl, hn, hel⟩ := DataW.trod_array Tryd.underlying151 h
  rw [cForms] at hl
  rw [cForm] at hel
  match xs, hn, hx with
  | [⟨x0, p0⟩, ⟨x1, p1⟩, ⟨x2, p2⟩, ⟨x3, p3⟩, ⟨x4, p4⟩, ⟨x5, p5⟩, ⟨x6, p6⟩, ⟨x7, p7⟩, ⟨x8, p8⟩, ⟨x9, p9⟩, ⟨xa, pa⟩], _, hx =>
    simp only [Rows.laid_cotter_ins_forms, List.map_cons, List.map_nil, Prod.mk.injEq, DataW.agg.injEq, List.cons.injEq, and_true] at hx
    obtain ⟨⟨rfl, rfl, rfl, rfl, rfl, rfl, rfl, rfl, rfl, rfl, rfl⟩, -⟩ := hx
    have k0 := trod_form (hel 0 (by decide))
    have k1 := trod_form (hel 1 (by decide))
    have k2 := trod_form (hel 2 (by decide))
    have k3 := trod_form (hel 3 (by decide))
    have k4 := trod_form (hel 4 (by decide))
    have k5 := trod_form (hel 5 (by decide))
    have k6 := trod_form (hel 6 (by decide))
    have k7 := trod_form (hel 7 (by decide))
    have k8 := trod_form (hel 8 (by decide))
    have k9 := trod_form (hel 9 (by decide))
    have ka := trod_form (hel 10 (by decide))
    simp only [List.getElem?_take, List.getElem?_drop] at k0 k1 k2 k3 k4 k5 k6 k7 k8 k9 ka
    intro o
    by_cases ho : o < 33
    · obtain ⟨q, r, hr, rfl⟩ : ∃ q r, r < 3 ∧ o = q * 3 + r := ⟨o / 3, o % 3, by omega, by omega⟩
      have hq : q < 11 := by omega
      rcases (show q = 0 ∨ q = 1 ∨ q = 2 ∨ q = 3 ∨ q = 4 ∨ q = 5 ∨ q = 6 ∨ q = 7 ∨ q = 8 ∨ q = 9 ∨ q = 10 by omega) with rfl | rfl | rfl | rfl | rfl | rfl | rfl | rfl | rfl | rfl | rfl <;>
        rcases (show r = 0 ∨ r = 1 ∨ r = 2 by omega) with rfl | rfl | rfl
      all_goals first | exact k0.1 | exact k0.2.1 | exact k0.2.2 | exact k1.1 | exact k1.2.1 | exact k1.2.2 | exact k2.1 | exact k2.2.1 | exact k2.2.2 | exact k3.1 | exact k3.2.1 | exact k3.2.2 | exact k4.1 | exact k4.2.1 | exact k4.2.2 | exact k5.1 | exact k5.2.1 | exact k5.2.2 | exact k6.1 | exact k6.2.1 | exact k6.2.2 | exact k7.1 | exact k7.2.1 | exact k7.2.2 | exact k8.1 | exact k8.2.1 | exact k8.2.2 | exact k9.1 | exact k9.2.1 | exact k9.2.2 | exact ka.1 | exact ka.2.1 | exact ka.2.2
    · rw [List.getElem?_eq_none (by omega), Array.getElem?_eq_none (by simp; omega)]

theorem nums_eq : ([0, 8, 3, 3, 3, 3, 3, 3, 3, 3, 3, 3, 3, 3, 3, 3, 3, 9, 9, 7, 5, 7, 7, 5, 1, 4, 6, 6, 9, 9, 1, 2, 1, 10].map fun z => Value.int .i64 z) = I.nums.toList := by kernel_rfl

theorem tab_of_laid {W : World} (h : laidMetH Tryd.prog Rows.imageRunsRow.laid W) : Tab W := by
  have h' : laidMet Tryd.prog Rows.imageRunsRow.laid W := h
  obtain ⟨ps, ⟨g0, t0, cs0, f0, p0, q0, hg0, ht0, hv0, hd0, ⟨g1, t1, cs1, f1, p1, q1, hg1, ht1, hv1, hd1, _, _⟩, _⟩, _⟩ := h'
  obtain rfl := Option.some.inj (gForms.symm.trans hg0)
  obtain rfl := Option.some.inj (gNums.symm.trans hg1)
  obtain rfl := Option.some.inj (tForms.symm.trans ht0)
  obtain rfl := Option.some.inj (tNums.symm.trans ht1)
  have e0 := forms_of_trod hd0
  have e1 := Lib.cells_of_tab (zs := [0, 8, 3, 3, 3, 3, 3, 3, 3, 3, 3, 3, 3, 3, 3, 3, 3, 9, 9, 7, 5, 7, 7, 5, 1, 4, 6, 6, 9, 9, 1, 2, 1, 10]) Tryd.underlying150 Tryd.underlying3 cInt cNums hd1
  have k0 := World.var?_cell hg0 hv0
  have k1 := World.var?_cell hg1 hv1
  have f0 : ∀ o, W.cell? ⟨1, o, none⟩ = I.forms[o]? := fun o => by rw [k0 o, ← Array.getElem?_toList, e0 o]
  have f1 : ∀ o, W.cell? ⟨0, o, none⟩ = I.nums[o]? := fun o => by rw [k1 o, ← Array.getElem?_toList, e1, nums_eq, Array.getElem?_toList]
  have hz := World.block_lt_of_cell? W ⟨1, 0, none⟩ (f0 0)
  exact ⟨f1, f0, hz⟩

end Go.Proofs.YtffokdldgdjkhaaDoor

/- What is written is read as it was: no program in sight. -/
namespace Go.Proofs.YtffokdldgdjkhaaDoor.W
set_option maxRecDepth 100000
open Go.RowKit

theorem tail_nums (xs : List Int) (h : ∀ n ∈ xs, 0 ≤ n ∧ n ≤ 255) (j : Nat) : tail (strOfNums xs) j = xs.drop j := by
  unfold tail
  rw [strOfNums_data, ← List.map_drop, List.map_map]
  conv => rhs; rw [← List.map_id (xs.drop j)]
  apply List.map_congr_left
  intro n hn
  have := h n (List.mem_of_mem_drop hn)
  simp only [Function.comp, id]
  rw [UInt8.toNat_ofNat']
  omega

theorem bytesOf_bd (n : Int) (s : Nat) : ∀ x ∈ bytesOf n s, 0 ≤ x ∧ x ≤ 255 := by
  intro x hx
  simp only [bytesOf, List.mem_map] at hx
  obtain ⟨i, _, rfl⟩ := hx
  exact byteAt_bd n i

theorem byteAt_succ (n : Int) (i : Nat) : byteAt n (i + 1) = byteAt (n / 256) i := by
  unfold byteAt
  have : (0 : Int) ≤ 256 := by decide
  rw [Int.pow_succ, Int.mul_comm, ← Int.ediv_ediv_of_nonneg this]

theorem bytesOf_cons (n : Int) (s : Nat) : bytesOf n (s + 1) = n % 256 :: bytesOf (n / 256) s := by
  simp only [bytesOf, List.range_succ_eq_map, List.map_cons, List.map_map]
  congr 1
  · simp [byteAt]
  · apply List.map_congr_left
    intro i _
    exact byteAt_succ n i

theorem num_bytesOf : ∀ (s : Nat) (n : Int), num (bytesOf n s) = n % 256 ^ s
  | 0, n => by simp [bytesOf, num]
  | s + 1, n => by
    rw [bytesOf_cons, num, num_bytesOf s, Int.pow_succ, Int.mul_comm (256 ^ s) 256]
    have h : n % (256 * 256 ^ s) = n % 256 + 256 * (n / 256 % 256 ^ s) := by
      have hP : (0 : Int) < 256 ^ s := Int.pow_pos (by decide)
      have h1 := Int.mul_ediv_add_emod (n / 256) (256 ^ s)
      have h2 := Int.emod_nonneg (n / 256) (Int.ne_of_gt hP)
      have h3 := Int.emod_lt_of_pos (n / 256) hP
      generalize n / 256 % 256 ^ s = r at *
      generalize n / 256 / 256 ^ s = q at *
      have h4 : n = (n % 256 + 256 * r) + 256 * 256 ^ s * q := by
        rw [Int.mul_assoc]; omega
      conv => lhs; rw [h4]
      rw [Int.add_mul_emod_self_left]
      exact Int.emod_eq_of_lt (by omega) (by omega)
    rw [h]
    omega

/-- Number turns Bytes back. -/
theorem num_back (n : Int) (h : (Lit.int .i64 n).wf = true) : bytesE n 8 = 0 ∧ numE (strOfNums (bytesV n 8)) = 0 ∧ numV (strOfNums (bytesV n 8)) = n := by
  simp [Lit.wf, IntKind.min, IntKind.max, IntKind.signed, IntKind.bits] at h
  have e : sx 8 n = n := by simp [sx]; unfold wrap64; omega
  have s8 : isSz 8 = true := by decide
  have hv : bytesV n 8 = bytesOf n 8 := by rw [bytesV, if_pos s8, if_pos e]; rfl
  have hsz : (strOfNums (bytesOf n 8)).size = 8 := by rw [strOfNums_size, bytesOf_length]
  have hE : bytesE n 8 = 0 := by rw [bytesE, if_pos s8, if_pos e]
  have hs8 : isSz ((8 : Nat) : Int) = true := by decide
  rw [hv, hE, numE, numV, hsz, if_pos hs8, if_pos hs8, tail_nums _ (bytesOf_bd n 8), List.drop_zero, num_bytesOf]
  refine ⟨rfl, rfl, ?_⟩
  have p : (256 : Int) ^ 8 = 18446744073709551616 := by decide
  rw [p]
  show sx 8 (n % 18446744073709551616) = n
  simp [sx]
  unfold wrap64
  omega

theorem takeG_grps : ∀ (f g : Nat) (u x : Int) (r : List Int), g + f = 9 → 0 ≤ u → u < 2 * 128 ^ f → (0 < g → 0 < u) → takeG g x (grps f u ++ r) = some (x + u * 128 ^ g, g + (grps f u).length)
  | 0, g, u, x, r, hg, h0, h1, h2 => by
    simp at h1
    rw [grps_last 0 u (by omega)]
    have hp := h2 (by omega)
    rw [List.singleton_append, takeG_last _ _ _ _ (by omega) (by omega), show u % 128 = u by omega]
    rfl
  | f + 1, g, u, x, r, hg, h0, h1, h2 => by
    by_cases h : u < 128
    · rw [grps_last (f + 1) u h, List.singleton_append, takeG_last _ _ _ _ (by omega) h, show u % 128 = u by omega]
      rfl
    · rw [grps_step f u (by omega), List.cons_append, takeG_more _ _ _ _ (by omega) (by omega)]
      obtain ⟨g', hg', hl⟩ := fuel_step (f + 1) u (by omega) h1
      obtain rfl : f = g' := by omega
      rw [takeG_grps f (g + 1) (u / 128) _ r (by omega) (by omega) hl (by omega)]
      have e1 : (u % 128 + 128) % 128 = u % 128 := by omega
      have e2 : u * 128 ^ g = (u % 128) * 128 ^ g + (u / 128) * 128 ^ (g + 1) := by
        rw [Int.pow_succ, ← Int.mul_assoc, Int.mul_comm (u / 128) (128 ^ g), Int.mul_assoc (128 ^ g) (u / 128) 128, Int.mul_comm (u % 128), ← Int.mul_add]
        rw [Int.mul_comm u]
        congr 1
        omega
      rw [e1, e2]
      simp
      omega

theorem takeG_put (u : Int) (r : List Int) (h0 : 0 ≤ u) (h1 : u ≤ 18446744073709551615) : takeG 0 0 (put u ++ r) = some (u, (put u).length) := by
  rw [put, takeG_grps 9 0 u 0 r rfl h0 (fuel_top u h1) (by omega)]
  simp

/-- Take turns Put back, whatever stands ahead of it or behind. -/
theorem take_put (a : List Int) (u : Int) (r : List Int) (h0 : 0 ≤ u) (h1 : u ≤ 18446744073709551615) (hb : ∀ n ∈ a ++ (put u ++ r), 0 ≤ n ∧ n ≤ 255) :
    take (strOfNums (a ++ (put u ++ r))) (a.length : Int) = (u, ((a.length + (put u).length : Nat) : Int), 0) := by
  have hl : (strOfNums (a ++ (put u ++ r))).size = a.length + ((put u).length + r.length) := by rw [strOfNums_size]; simp
  rw [take, if_neg (by rw [hl]; omega), Int.toNat_natCast]
  have ht : tail (strOfNums (a ++ (put u ++ r))) a.length = put u ++ r := by
    rw [tail_nums _ hb]; simp
  rw [takeR_some _ _ u (put u).length (by rw [ht]; exact takeG_put u r h0 h1)]
  rw [Int.natCast_add]

end Go.Proofs.YtffokdldgdjkhaaDoor.W

/- What is written is read as it was, and what is read is written as it stood: no walk. -/
namespace Go.Proofs.YtffokdldgdjkhaaDoor
set_option maxRecDepth 100000
open Go.RowKit

/-- The bytes, as numbers. -/
abbrev byts (s : ByteArray) : List Int := W.tail s 0
theorem byts_len (s : ByteArray) : (byts s).length = s.size := by rw [W.tail_length]; rfl
theorem byts_extract (s : ByteArray) (i j : Nat) : byts (s.extract i j) = ((byts s).drop i).take (j - i) := by
  simp [W.tail, List.map_drop, List.map_take]
theorem byts_str (l : List Int) (h : ∀ n ∈ l, 0 ≤ n ∧ n ≤ 255) : byts (strOfNums l) = l := W.tail_nums l h 0
theorem byts_bd (s : ByteArray) : ∀ n ∈ byts s, 0 ≤ n ∧ n ≤ 255 := by
  intro n hn
  have := W.tail_bd s 0 n hn
  omega
/-- Bytes that are the same numbers are the same. -/
theorem byts_inj {s t : ByteArray} (h : byts s = byts t) : s = t := by
  apply ByteArray.ext
  apply Array.ext'
  simp only [W.tail, List.drop_zero] at h
  have hi : Function.Injective (fun b : UInt8 => ((b.toNat : Nat) : Int)) := by
    intro a b hab
    have hab' : ((a.toNat : Nat) : Int) = (b.toNat : Nat) := hab
    have : a.toNat = b.toNat := by omega
    exact UInt8.toNat.inj this
  exact List.map_inj_right (fun a b hab => hi hab) |>.1 h

namespace W
theorem sx_num {m n : Int} (hm : m = 1 ∨ m = 4 ∨ m = 8) (h : sx m n = n) : sx m (num (bytesOf n m.toNat)) = n := by
  rw [num_bytesOf]
  rcases hm with rfl | rfl | rfl
  · simp [sx] at *; omega
  · simp [sx, wrap32] at *; omega
  · simp [sx, wrap64] at *; omega
theorem sx_sx {m u : Int} (hm : m = 1 ∨ m = 4 ∨ m = 8) : sx m (sx m u) = sx m u := by
  rcases hm with rfl | rfl | rfl
  · simp [sx]
  · simp [sx, wrap32]
  · simp [sx, wrap64]
theorem num_lt (l : List Int) (h : ∀ n ∈ l, 0 ≤ n ∧ n ≤ 255) : 0 ≤ num l ∧ num l < 256 ^ l.length := num_bd l (fun n hn => by have := h n hn; omega)
theorem ibytesOf_num : ∀ (l : List Int), (∀ n ∈ l, 0 ≤ n ∧ n ≤ 255) → bytesOf (num l) l.length = l
  | [], _ => by simp [bytesOf]
  | c :: r, h => by
    have hc := h c List.mem_cons_self
    rw [List.length_cons, bytesOf_cons, num]
    rw [show (num r * 256 + c) % 256 = c by omega, show (num r * 256 + c) / 256 = num r by omega, ibytesOf_num r (fun n hn => h n (List.mem_cons_of_mem _ hn))]
theorem bytesOf_mod : ∀ (s : Nat) (n k : Int), bytesOf (n + 256 ^ s * k) s = bytesOf n s
  | 0, n, k => by simp [bytesOf]
  | s + 1, n, k => by
    rw [bytesOf_cons, bytesOf_cons]
    have e : (256 : Int) ^ (s + 1) * k = 256 * (256 ^ s * k) := by rw [Int.pow_succ]; rw [Int.mul_comm (256 ^ s) 256, Int.mul_assoc]
    rw [e, show (n + 256 * (256 ^ s * k)) % 256 = n % 256 by omega, show (n + 256 * (256 ^ s * k)) / 256 = n / 256 + 256 ^ s * k by omega, bytesOf_mod s]
theorem bytesOf_sx {m u : Int} (hm : m = 1 ∨ m = 4 ∨ m = 8) : bytesOf (sx m u) m.toNat = bytesOf u m.toNat := by
  have key : ∃ k, sx m u = u + 256 ^ m.toNat * k := by
    rcases hm with rfl | rfl | rfl
    · exact ⟨-((u + 128) / 256), by simp [sx]; omega⟩
    · exact ⟨-((u + 2147483648) / 4294967296), by simp [sx, wrap32]; omega⟩
    · exact ⟨-((u + 9223372036854775808) / 18446744073709551616), by simp [sx, wrap64]; omega⟩
  obtain ⟨k, hk⟩ := key
  rw [hk, bytesOf_mod]
theorem isSz_of {m : Int} (hm : m = 1 ∨ m = 4 ∨ m = 8) : isSz m = true := by rcases hm with rfl | rfl | rfl <;> decide
theorem numV_at {s : ByteArray} {m : Int} (hm : m = 1 ∨ m = 4 ∨ m = 8) (h : (s.size : Int) = m) : numV s = sx m (num (tail s 0)) ∧ numE s = 0 := by
  unfold numV numE
  rw [h, if_pos (isSz_of hm), if_pos (isSz_of hm)]
  exact ⟨rfl, rfl⟩
end W

namespace I
theorem num_cases {op : Int} (h : ¬ num op = 0) : num op = 1 ∨ num op = 4 ∨ num op = 8 := by
  have := num_range op; omega
theorem kAt_eq (op : Int) : kAt op = if regs op = 0 then 1 else 2 := by
  unfold kAt psize
  split <;> omega
theorem psize_nat (op : Int) : (psize op).toNat = kAt op + (num op).toNat := by
  rw [kAt_eq]; unfold psize
  have := num_range op
  split <;> omega
/-- The bytes of a form that bears all. -/
theorem enc_len {op a b n : Int} (h : I.encE op a b n = 0) : ((I.encV op a b n).length : Int) = psize op := by
  unfold I.encE at h
  split at h
  · rename_i hf
    split at h
    · rename_i hn
      unfold I.encV
      rw [if_pos hf, if_pos hn]
      have hr := regs_range op
      have lr : ((regB (regs op) a b).length : Int) = if regs op = 0 then 0 else 1 := by
        unfold regB
        rcases hr with e | e | e <;> simp [e]
      have ln : ((numW (num op) n).length : Int) = num op := by
        unfold numW
        split
        · rename_i e; simp [e]
        · rename_i e
          have hm := num_cases e
          unfold numOk at hn
          rw [if_neg e] at hn
          have hE : W.bytesE n (num op) = 0 := by simpa using (Bool.and_eq_true_iff.1 hn).1
          unfold W.bytesE at hE
          rw [if_pos (W.isSz_of hm)] at hE
          split at hE
          · rename_i hs
            unfold W.bytesV
            rw [if_pos (W.isSz_of hm), if_pos hs, W.bytesOf_length]
            omega
          · omega
      simp only [List.length_append, List.length_cons, List.length_nil]
      unfold psize
      split at lr <;> rename_i e
      · rw [if_pos e]; omega
      · rw [if_neg e]; omega
    · omega
  · omega
theorem enc_bd {op a b n : Int} : ∀ x ∈ I.encV op a b n, 0 ≤ x ∧ x ≤ 255 := by
  intro x hx
  unfold I.encV at hx
  split at hx
  · rename_i hf
    split at hx
    · have hf' := Bool.and_eq_true_iff.1 hf
      have ho := of_decide_eq_true hf'.1
      have hr := I.bears_regs hf'.2
      simp only [List.mem_append, List.mem_singleton] at hx
      rcases hx with (rfl | hx) | hx
      · omega
      · unfold regB at hx
        split at hx
        · simp at hx
        · split at hx <;> (simp at hx; omega)
      · unfold numW at hx
        split at hx
        · simp at hx
        · unfold W.bytesV at hx
          split at hx
          · split at hx
            · exact W.bytesOf_bd _ _ x hx
            · simp at hx
          · simp at hx
    · simp at hx
  · simp at hx
theorem enc_parts {op a b n : Int} (h : I.encE op a b n = 0) :
    (1 ≤ op ∧ op ≤ 33) ∧ I.bears (regs op) (num op) a b n = true ∧ numOk (num op) (nat op) n = true ∧ I.encV op a b n = [op] ++ regB (regs op) a b ++ numW (num op) n := by
  unfold I.encE at h
  split at h
  · rename_i hf
    split at h
    · rename_i hn
      have hf' := Bool.and_eq_true_iff.1 hf
      refine ⟨of_decide_eq_true hf'.1, hf'.2, hn, ?_⟩
      unfold I.encV
      rw [if_pos hf, if_pos hn]
    · omega
  · omega
theorem bears_zero {r m a b n : Int} (h : I.bears r m a b n = true) : (r < 1 → a = 0) ∧ (r < 2 → b = 0) ∧ (m = 0 → n = 0) := by
  unfold I.bears I.bad at h
  have h1 := (Bool.and_eq_true_iff.1 h).1
  simp at h1
  refine ⟨fun hr => ?_, fun hr => ?_, fun hm => ?_⟩
  · have := h1.1.1; omega
  · have := h1.1.2; omega
  · rcases h1.2 with e | e
    · exact e
    · exact absurd hm e

/-- What is written is read as it was, whatever stands behind it. -/
theorem dec_enc {op a b n : Int} (h : I.encE op a b n = 0) (s : ByteArray) (r : List Int) (hs : byts s = I.encV op a b n ++ r) :
    I.dOk s = true ∧ hd s = op ∧ I.dA s = a ∧ I.dB s = b ∧ I.dN s = n := by
  have hlen := enc_len h
  obtain ⟨ho, hbe, hno, hv⟩ := enc_parts h
  have hz := bears_zero hbe
  have hrg := I.bears_regs hbe
  rw [hv] at hs
  have hop : hd s = op := by unfold hd; show (byts s).headD 0 = op; rw [hs]; rfl
  have hsz : ((byts s).length : Int) = psize op + r.length := by rw [hs, ← hv, List.length_append]; omega
  rw [byts_len] at hsz
  have hrr := regs_range op
  have hk := kAt_eq op
  -- the registers' byte
  have hA : I.dA s = a := by
    unfold I.dA
    rw [hop]
    unfold rA
    rcases hrr with e | e | e
    · rw [if_pos e]; exact (hz.1 (by omega)).symm
    · rw [if_neg (by omega), if_pos e]
      unfold hd
      show (byts (s.extract 1 (kAt op))).headD 0 = a
      rw [byts_extract, hk, if_neg (by omega), hs]
      simp [regB, e]
    · rw [if_neg (by omega), if_neg (by omega)]
      unfold hd
      show (byts (s.extract 1 (kAt op))).headD 0 / 16 = a
      rw [byts_extract, hk, if_neg (by omega), hs]
      simp [regB, e]
      omega
  have hB : I.dB s = b := by
    unfold I.dB
    rw [hop]
    unfold rB
    rcases hrr with e | e | e
    · rw [if_neg (by omega)]; exact (hz.2.1 (by omega)).symm
    · rw [if_neg (by omega)]; exact (hz.2.1 (by omega)).symm
    · rw [if_pos e]
      unfold hd
      show (byts (s.extract 1 (kAt op))).headD 0 % 16 = b
      rw [byts_extract, hk, if_neg (by omega), hs]
      simp [regB, e]
      omega
  -- the number's bytes
  have hN : I.dN s = n ∧ rdOk (num op) (nat op) (I.dS s) = true := by
    unfold I.dN
    rw [hop]
    unfold rdN rdOk
    by_cases e : num op = 0
    · rw [if_pos e, if_pos e]; exact ⟨(hz.2.2 e).symm, rfl⟩
    · have hm := num_cases e
      unfold numOk at hno
      rw [if_neg e] at hno
      obtain ⟨hno1, hno2⟩ := Bool.and_eq_true_iff.1 hno
      have hE : W.bytesE n (num op) = 0 := by simpa using hno1
      have hsx : W.sx (num op) n = n := by
        unfold W.bytesE at hE
        rw [if_pos (W.isSz_of hm)] at hE
        split at hE
        · assumption
        · omega
      have hw : numW (num op) n = W.bytesOf n (num op).toNat := by
        unfold numW W.bytesV
        rw [if_neg e, if_pos (W.isSz_of hm), if_pos hsx]
      have hd1 : byts (I.dS s) = W.bytesOf n (num op).toNat := by
        unfold I.dS
        rw [hop, byts_extract, psize_nat, hs, hw, hk]
        have l1 : (regB (regs op) a b).length = if regs op = 0 then 0 else 1 := by
          unfold regB
          rcases hrr with e | e | e <;> simp [e]
        have l2 := W.bytesOf_length n (num op).toNat
        rw [show (if regs op = 0 then 1 else 2) = ([op] ++ regB (regs op) a b).length by simp [l1]; split <;> rfl, List.append_assoc, List.drop_left, Nat.add_sub_cancel_left]
        generalize W.bytesOf n (num op).toNat = l at *
        rw [← l2, List.take_left]
      have hs1 : ((I.dS s).size : Int) = num op := by
        rw [← byts_len, hd1, W.bytesOf_length]; omega
      have hv1 := W.numV_at hm hs1
      have hn1 : W.numV (I.dS s) = n := by
        rw [hv1.1]
        show W.sx (num op) (W.num (byts (I.dS s))) = n
        rw [hd1]
        exact W.sx_num hm hsx
      rw [if_neg e, if_neg e, hn1, hv1.2]
      exact ⟨rfl, by simpa using hno2⟩
  refine ⟨?_, hop, hA, hB, hN.1⟩
  unfold I.dOk
  rw [hA, hB, hop, hN.2, isr_yes hrg.1, isr_yes hrg.2, decide_eq_true]
  · rfl
  · refine ⟨?_, ho.1, ho.2, ?_⟩
    · have : 1 ≤ psize op := by unfold psize; have := num_range op; split <;> omega
      omega
    · omega

/-- What is read is written as it stood. -/
theorem enc_dec {s : ByteArray} (h : I.dOk s = true) :
    I.encE (hd s) (I.dA s) (I.dB s) (I.dN s) = 0 ∧ I.encV (hd s) (I.dA s) (I.dB s) (I.dN s) = (byts s).take (psize (hd s)).toNat ∧ 1 ≤ psize (hd s) ∧ psize (hd s) ≤ (s.size : Int) := by
  unfold I.dOk at h
  obtain ⟨h1, h2⟩ := Bool.and_eq_true_iff.1 h
  obtain ⟨h2, h3⟩ := Bool.and_eq_true_iff.1 h2
  obtain ⟨ha, hb⟩ := Bool.and_eq_true_iff.1 h2
  obtain ⟨g0, g1, g2, g3⟩ := of_decide_eq_true h1
  have hrr := regs_range (hd s)
  have hk := kAt_eq (hd s)
  have hp1 : 1 ≤ psize (hd s) := by unfold psize; have := num_range (hd s); split <;> omega
  have hpn := psize_nat (hd s)
  have hln := byts_len s
  -- the bytes, one by one
  have hL : byts s = hd s :: (byts s).drop 1 := by
    cases e : byts s with
    | nil => rw [e] at hln; simp at hln; omega
    | cons x r =>
      have : hd s = x := by unfold hd; show (byts s).headD 0 = x; rw [e]; rfl
      rw [this]; rfl
  have hreg : regB (regs (hd s)) (I.dA s) (I.dB s) = ((byts s).drop 1).take (kAt (hd s) - 1) := by
    unfold I.dA I.dB regB rA rB
    rcases hrr with e | e | e
    · rw [if_pos e, hk, if_pos e]; simp
    all_goals
      have hx : hd (s.extract 1 (kAt (hd s))) = (((byts s).drop 1).take 1).headD 0 := by
        show (byts (s.extract 1 (kAt (hd s)))).headD 0 = _
        rw [byts_extract, hk, if_neg (by omega)]
      have hlen2 : 2 ≤ (byts s).length := by
        unfold psize at g3
        have := num_range (hd s)
        rw [if_neg (by omega)] at g3
        omega
      obtain ⟨x, hx1⟩ : ∃ x, ((byts s).drop 1).take 1 = [x] := by
        cases e2 : (byts s).drop 1 with
        | nil => have := congrArg List.length e2; simp at this; omega
        | cons x r => exact ⟨x, by simp⟩
      rw [hx, hx1]
      have hk2 : kAt (hd s) - 1 = 1 := by rw [hk, if_neg (by omega)]
      rw [hk2, hx1]
      simp [e]
      try omega
  have hz : (regs (hd s) < 1 → I.dA s = 0) ∧ (regs (hd s) < 2 → I.dB s = 0) ∧ (num (hd s) = 0 → I.dN s = 0) := by
    refine ⟨fun e => ?_, fun e => ?_, fun e => ?_⟩
    · unfold I.dA rA; rw [if_pos (by omega)]
    · unfold I.dB rB; rw [if_neg (by omega)]
    · unfold I.dN rdN; rw [if_pos e]
  have hbe : I.bears (regs (hd s)) (num (hd s)) (I.dA s) (I.dB s) (I.dN s) = true := by
    unfold I.bears I.bad
    rw [ha, hb]
    simp
    refine ⟨⟨?_, ?_⟩, ?_⟩
    · by_cases c : regs (hd s) < 1
      · exact .inl (hz.1 c)
      · exact .inr (by omega)
    · by_cases c : regs (hd s) < 2
      · exact .inl (hz.2.1 c)
      · exact .inr (by omega)
    · by_cases c : num (hd s) = 0
      · exact .inl (hz.2.2 c)
      · exact .inr c
  have hnum : numOk (num (hd s)) (nat (hd s)) (I.dN s) = true ∧ numW (num (hd s)) (I.dN s) = ((byts s).drop (kAt (hd s))).take (num (hd s)).toNat := by
    unfold numOk numW
    by_cases e : num (hd s) = 0
    · rw [if_pos e, if_pos e, e]; simp
    · have hm := num_cases e
      have hd1 : byts (I.dS s) = ((byts s).drop (kAt (hd s))).take (num (hd s)).toNat := by
        unfold I.dS
        rw [byts_extract, hpn, Nat.add_sub_cancel_left]
      have hl : (byts (I.dS s)).length = (num (hd s)).toNat := by
        rw [hd1, List.length_take, List.length_drop, hln]
        omega
      have hs1 : ((I.dS s).size : Int) = num (hd s) := by rw [← byts_len, hl]; omega
      have hv1 := W.numV_at hm hs1
      have hN : I.dN s = W.sx (num (hd s)) (W.num (byts (I.dS s))) := by unfold I.dN rdN; rw [if_neg e]; exact hv1.1
      have hsx : W.sx (num (hd s)) (I.dN s) = I.dN s := by rw [hN, W.sx_sx hm]
      unfold rdOk at h3
      rw [if_neg e] at h3
      have h4 := (Bool.and_eq_true_iff.1 h3).2
      have hN' : W.numV (I.dS s) = I.dN s := by unfold I.dN rdN; rw [if_neg e]
      rw [hN'] at h4
      rw [if_neg e, if_neg e]
      refine ⟨?_, ?_⟩
      · unfold W.bytesE
        rw [if_pos (W.isSz_of hm), if_pos hsx, h4]; rfl
      · unfold W.bytesV
        rw [if_pos (W.isSz_of hm), if_pos hsx, hN, W.bytesOf_sx hm, ← hd1, ← hl]
        exact W.ibytesOf_num _ (byts_bd _)
  have hf : I.fits (hd s) (I.dA s) (I.dB s) (I.dN s) = true := by unfold I.fits; rw [hbe, decide_eq_true ⟨g1, g2⟩]; rfl
  refine ⟨?_, ?_, hp1, g3⟩
  · unfold I.encE; rw [if_pos hf, if_pos hnum.1]
  · unfold I.encV
    rw [if_pos hf, if_pos hnum.1, hreg, hnum.2, hpn]
    conv => rhs; rw [hL]
    have hk1 : kAt (hd s) = (kAt (hd s) - 1) + 1 := by rw [hk]; split <;> rfl
    rw [show kAt (hd s) + (num (hd s)).toNat = ((kAt (hd s) - 1) + (num (hd s)).toNat) + 1 by omega, List.take_succ_cons, List.take_add, List.drop_drop, show 1 + (kAt (hd s) - 1) = kAt (hd s) by omega]
    simp

end I
end Go.Proofs.YtffokdldgdjkhaaDoor

/- Two instructions, held against each other. -/
namespace Go.Proofs.YtffokdldgdjkhaaDoor
set_option maxRecDepth 100000
open Go.RowKit

/-- Are two instructions the same? -/
def I.same (op a b n op' a' b' n' : Int) : Bool := decide (op = op' ∧ a = a' ∧ b = b' ∧ n = n')
theorem I.same_self (op a b n : Int) : I.same op a b n op a b n = true := by simp [I.same]

theorem eqIns (op a b n op' a' b' n' : Int) (w : World) : (Op.equalIn 10000 62 (.agg #[.int .i64 op, .int .i64 a, .int .i64 b, .int .i64 n]) (.agg #[.int .i64 op', .int .i64 a', .int .i64 b', .int .i64 n'])).run Tryd.prog w = .ok (I.same op a b n op' a' b' n') w := by
  unfold I.same
  by_cases h1 : op = op'
  · subst h1
    by_cases h2 : a = a'
    · subst h2
      by_cases h3 : b = b'
      · subst h3
        by_cases h4 : n = n'
        · subst h4
          go_simp
        · go_simp
      · go_simp
    · go_simp
  · go_simp

end Go.Proofs.YtffokdldgdjkhaaDoor

/- ins.All. -/
namespace Go.Proofs.YtffokdldgdjkhaaDoor
set_option maxRecDepth 100000
open Go.RowKit
set_option linter.unusedVariables false
attribute [local go_sem ↓] Go.wp_at_zero Go.wp_at_succ

theorem infoIns : (Tryd.prog.info? 62).map (fun i => (i.zero, i.size, i.bytes)) = some (some (.agg #[.int .i64 0, .int .i64 0, .int .i64 0, .int .i64 0]), 4, 32) := by kernel_rfl

/-- An instruction. -/
structure I.Q where
  op : Int
  a : Int
  b : Int
  n : Int
abbrev I.Q.v (q : I.Q) : Value := .agg #[.int .i64 q.op, .int .i64 q.a, .int .i64 q.b, .int .i64 q.n]
def I.Q.cs (q : I.Q) : List Value := [.int .i64 q.op, .int .i64 q.a, .int .i64 q.b, .int .i64 q.n]
def I.rows (l : List I.Q) : List Value := l.flatMap I.Q.cs
theorem I.rows_len (l : List I.Q) : (I.rows l).length = l.length * 4 := by
  induction l with
  | nil => rfl
  | cons q r ih => simp only [I.rows, List.flatMap_cons, List.length_append, List.length_cons] at *; rw [ih]; simp [I.Q.cs]; omega
theorem I.rows_snoc (l : List I.Q) (q : I.Q) : I.rows (l ++ [q]) = I.rows l ++ q.cs := by simp [I.rows]
theorem cs_one (q : I.Q) : ∀ u ∈ q.cs, u.oneCell' = true := by
  intro u hu
  simp [I.Q.cs] at hu
  rcases hu with rfl | rfl | rfl | rfl <;> rfl

/-- The instruction with whose form bytes begin, and what stands behind it. -/
def I.dQ (s : ByteArray) : I.Q := ⟨I.hd s, I.dA s, I.dB s, I.dN s⟩
def I.rest (s : ByteArray) : ByteArray := s.extract (I.psize (I.hd s)).toNat s.size
theorem I.rest_size (s : ByteArray) (h : I.dOk s = true) : (I.rest s).size + (I.psize (I.hd s)).toNat = s.size ∧ 1 ≤ (I.psize (I.hd s)).toNat := by
  have := (I.enc_dec h).2.2
  unfold I.rest
  simp
  omega
/-- All instructions of bytes; none: they are none's. -/
def I.allF : Nat → ByteArray → Option (List I.Q)
  | 0, s => if s.size = 0 then some [] else none
  | f + 1, s => if s.size = 0 then some [] else if I.dOk s = true then (I.allF f (I.rest s)).map (I.dQ s :: ·) else none
def I.allI (s : ByteArray) : Option (List I.Q) := I.allF s.size s
theorem I.allF_fuel : ∀ (f g : Nat) (s : ByteArray), s.size ≤ f → s.size ≤ g → I.allF f s = I.allF g s
  | 0, 0, s, _, _ => rfl
  | 0, g + 1, s, h, _ => by
    have : s.size = 0 := by omega
    simp [I.allF, this]
  | f + 1, 0, s, _, h => by
    have : s.size = 0 := by omega
    simp [I.allF, this]
  | f + 1, g + 1, s, h1, h2 => by
    simp only [I.allF]
    split
    · rfl
    · split
      · rename_i hd
        have := I.rest_size s hd
        rw [I.allF_fuel f g (I.rest s) (by omega) (by omega)]
      · rfl
theorem I.allI_zero {s : ByteArray} (h : s.size = 0) : I.allI s = some [] := by unfold I.allI; rw [h]; simp [I.allF, h]
theorem I.allI_no {s : ByteArray} (h : 0 < s.size) (hd : I.dOk s = false) : I.allI s = none := by
  unfold I.allI
  obtain ⟨k, hk⟩ : ∃ k, s.size = k + 1 := ⟨s.size - 1, by omega⟩
  rw [hk]
  simp only [I.allF]
  rw [if_neg (by omega), if_neg (by rw [hd]; decide)]
theorem I.allI_yes {s : ByteArray} (h : 0 < s.size) (hd : I.dOk s = true) : I.allI s = (I.allI (I.rest s)).map (I.dQ s :: ·) := by
  unfold I.allI
  have hr := I.rest_size s hd
  obtain ⟨k, hk⟩ : ∃ k, s.size = k + 1 := ⟨s.size - 1, by omega⟩
  rw [hk]
  simp only [I.allF]
  rw [if_neg (by omega), if_pos hd, I.allF_fuel k (I.rest s).size (I.rest s) (by omega) (Nat.le_refl _)]
theorem I.dOk_pos {s : ByteArray} (h : I.dOk s = true) : 0 < s.size := by
  have := (I.enc_dec h).2.2; omega

/-- What All answers: a list of its own, or nothing and 9. -/
def I.allPost (s : ByteArray) (B : Nat) (e : Ending) (w' : World) : Prop :=
  match I.allI s with
  | some l => ∃ v, e = .returned (.tuple #[v, .int .i64 0]) ∧ w'.ownsRow B 62 4 v l.length (I.rows l)
  | none => e = .returned (.tuple #[.slice none 0 0, .int .i64 9])

theorem ins_cells (w : World) (q : I.Q) (o : Nat) (ho : o = w.heap.size) : ∀ j u, q.cs[j]? = some u → (w.alloc (.cells #[.int .i64 q.op, .int .i64 q.a, .int .i64 q.b, .int .i64 q.n] 62)).cell? ((⟨o, 0, none⟩ : Addr).add j) = some u := by
  subst ho
  intro j u hu
  rw [Addr.add_lit]
  simp
  exact hu

set_option maxRecDepth 100000 in
set_option maxHeartbeats 8000000 in
theorem all_any (s : ByteArray) (hm : s.size ≤ 4398046511104) (w : World) (ht : Tab w) :
    Calls Tryd.prog 22 #[.string s] w fun e w' => I.allPost s w.heap.size e w' ∧ Below w.heap.size w w' := by
  obtain ⟨i0, hi, hz0, hz1, hz2⟩ := info_parts infoIns
  have ht0 := ht
  go_enter Tryd.func22, Tryd.ntmps22
  go_wp2
  go_loopg [0, 4] s.size (fun k sv lv wr => ∃ (t : ByteArray) (done : List I.Q), sv = .string t ∧ t.size ≤ k ∧ done.length + t.size ≤ s.size ∧ wr.ownsRow w.heap.size 62 4 lv done.length (I.rows done) ∧ Below w.heap.size w wr ∧ Hid (I.allI s = (I.allI t).map (done ++ ·)))
  case atStart => exact ⟨s, [], rfl, Nat.le_refl _, by simp, World.ownsRow_nil _ _ _ _, Below.refl _ _, by show _ = _; simp⟩
  case round =>
    obtain ⟨t, done, rfl, htk, hdn, ho, hb, HA⟩ := hrel
    have ht1 := ht0.below hb
    by_cases h0 : t.size = 0
    · obtain rfl : t = { data := #[] } := by
        obtain ⟨d⟩ := t
        simp [ByteArray.size] at h0
        subst h0; rfl
      go_wp2
      go_ret2
      refine ⟨?_, hb⟩
      unfold I.allPost
      rw [HA.out, I.allI_zero rfl]
      simp only [Option.map_some, List.append_nil]
      exact ⟨_, rfl, ho⟩
    · have hne := ne_empty (s := t) (by omega)
      have HR : Hid (∀ w, Tab w → Calls Tryd.prog 44 #[.string t] w fun e w' => e = .returned (rdV t) ∧ Below w.heap.size w w') := fun w ht => iread_any _ w ht
      unfold rdV at HR
      cases hx : I.dOk t with
      | false =>
        rw [hx, if_neg (by decide)] at HR
        go_wp2_with (go_at_call 44; refine (HR.out _ ht1).mono ?_; rintro e w1 ⟨rfl, hb1⟩)
        go_ret2
        refine ⟨?_, (hb.trans (hb1.mono hb.size)).alloc (by have := hb.size; have := hb1.size; omega) _⟩
        unfold I.allPost
        rw [HA.out, I.allI_no (by omega) hx]
        rfl
      | true =>
        rw [hx, if_pos rfl] at HR
        have hrs := I.rest_size t hx
        have hpz : (0 : Int) ≤ I.psize (I.hd t) ∧ I.psize (I.hd t) ≤ (t.size : Int) := by omega
        obtain ⟨hp0, hp1⟩ := hpz
        have HQ : Hid (I.dQ t = ⟨I.hd t, I.dA t, I.dB t, I.dN t⟩) := rfl
        have HT : Hid (I.rest t = t.extract (I.psize (I.hd t)).toNat t.size) := rfl
        generalize hq : I.dQ t = q at *
        have hqe := HQ.out
        have q1 : I.hd t = q.op := by rw [hqe]
        have q2 : I.dA t = q.a := by rw [hqe]
        have q3 : I.dB t = q.b := by rw [hqe]
        have q4 : I.dN t = q.n := by rw [hqe]
        rw [q1, q2, q3, q4] at HR
        rw [q1] at HT hp0 hp1 hrs
        have HX : Hid (I.dOk t = true) := hx
        have HQQ : Hid (I.dQ t = q) := hq
        clear q1 q2 q3 q4 hqe HQ hq hx
        generalize I.psize q.op = z at *
        go_wp2_with fail
        refine (HR.out _ ht1).mono ?_
        rintro e w1 ⟨rfl, hb1⟩
        have ho1 := own_kept ho hb1
        have hs1 := hb1.size
        have hs0 := hb.size
        have hbb : Below w.heap.size w w1 := hb.trans (hb1.mono hs0)
        clear ho hb hb1
        go_wp2_with (first | (at_builtin; refine wpList_append_own _ rfl _ _ 57 rfl w.heap.size 62 i0 _ 4 32 Tryd.underlying57 hi hz0 hz1 hz2 rfl (by decide) _ _ _ rfl ((ho1.alloc _).alloc _) ⟨w1.heap.size + 1, 0, none⟩ 1 1 q.cs rfl rfl (ins_cells _ q _ (by simp)) (cs_one q) (by unfold maxLen; omega) (by omega) (by simp; omega) ?_) | go_in)
        intro v2 w2 ho2 hg2 _
        have hb2 : Below w.heap.size w w2 := below_own ((hbb.alloc (by omega) _).alloc (by simp; omega) _) ((ho1.alloc _).alloc _) hg2 (by simp; omega)
        rw [← I.rows_snoc] at ho2
        have ho3 : w2.ownsRow w.heap.size 62 4 v2 (done ++ [q]).length (I.rows (done ++ [q])) := by simpa using ho2
        clear ho2 hg2 ho1 hbb
        go_wp2
        go_roundg (I.rest t).size
        case measure => omega
        case rel =>
          refine ⟨I.rest t, done ++ [q], by rw [HT.out], Nat.le_refl _, by simp; omega, ho3, hb2, ?_⟩
          show I.allI s = _
          rw [HA.out, I.allI_yes (I.dOk_pos HX.out) HX.out, HQQ.out, Option.map_map]
          congr 1
          funext l
          simp

end Go.Proofs.YtffokdldgdjkhaaDoor

/- All instructions of bytes that were put together: no walk. -/
namespace Go.Proofs.YtffokdldgdjkhaaDoor
set_option maxRecDepth 100000
open Go.RowKit

theorem byts_append (s t : ByteArray) : byts (s ++ t) = byts s ++ byts t := by simp [W.tail]
theorem byts_rest (s : ByteArray) : byts (I.rest s) = (byts s).drop (I.psize (I.hd s)).toNat := by
  unfold I.rest
  rw [byts_extract, List.take_of_length_le]
  rw [List.length_drop, byts_len]
  exact Nat.le_refl _
/-- An instruction's form, and whatever stands behind it. -/
theorem I.allI_enc {op a b n : Int} (h : I.encE op a b n = 0) (s t : ByteArray) (hs : byts s = I.encV op a b n ++ byts t) : I.allI s = (I.allI t).map (⟨op, a, b, n⟩ :: ·) := by
  obtain ⟨d1, d2, d3, d4, d5⟩ := I.dec_enc h s _ hs
  rw [I.allI_yes (I.dOk_pos d1) d1]
  have e1 : I.dQ s = ⟨op, a, b, n⟩ := by unfold I.dQ; rw [d2, d3, d4, d5]
  have e2 : I.rest s = t := by
    apply byts_inj
    rw [byts_rest, hs, d2]
    have hl := I.enc_len h
    rw [List.drop_append_of_le_length (by omega), List.drop_eq_nil_of_le (by omega), List.nil_append]
  rw [e1, e2]
theorem arr_thru {W w3 : World} (hb : Below W.heap.size W w3) {b : Nat} {cs : Array Value} (h : ∀ o, W.cell? ⟨b, o, none⟩ = cs[o]?) (h0 : 0 < cs.size := by simp) : ∀ o, w3.cell? ⟨b, o, none⟩ = cs[o]? := fun o => by
  have h1 : W.cell? ⟨b, 0, none⟩ = some cs[0] := (h 0).trans (Array.getElem?_eq_getElem h0)
  exact (hb.cell (p := ⟨b, o, none⟩) (World.block_lt_of_cell? W ⟨b, 0, none⟩ h1)).trans (h o)
theorem I.allI_nil : I.allI (strOfNums []) = some [] := I.allI_zero rfl
/-- What was read is written as it stood, one instruction behind the other. -/
def I.Q.E (q : I.Q) : Int := I.encE q.op q.a q.b q.n
def I.Q.V (q : I.Q) : List Int := I.encV q.op q.a q.b q.n
theorem I.allF_some : ∀ (f : Nat) (s : ByteArray) (l : List I.Q), I.allF f s = some l → (∀ q ∈ l, q.E = 0) ∧ byts s = l.flatMap I.Q.V
  | 0, s, l, h => by
    simp only [I.allF] at h
    split at h
    · rename_i h0
      obtain rfl := Option.some.inj h
      refine ⟨by simp, ?_⟩
      have := byts_len s
      simp only [List.flatMap_nil]
      exact List.eq_nil_of_length_eq_zero (this.trans h0)
    · cases h
  | f + 1, s, l, h => by
    simp only [I.allF] at h
    split at h
    · rename_i h0
      obtain rfl := Option.some.inj h
      refine ⟨by simp, ?_⟩
      have := byts_len s
      simp only [List.flatMap_nil]
      exact List.eq_nil_of_length_eq_zero (this.trans h0)
    · split at h
      · rename_i hd
        obtain ⟨r, hr, rfl⟩ := Option.map_eq_some_iff.1 h
        obtain ⟨h1, h2⟩ := I.allF_some f (I.rest s) r hr
        obtain ⟨e1, e2, -, -⟩ := I.enc_dec hd
        refine ⟨?_, ?_⟩
        · intro q hq
          rcases List.mem_cons.1 hq with rfl | hq
          · exact e1
          · exact h1 q hq
        · rw [List.flatMap_cons, ← h2, byts_rest]
          show _ = I.encV (I.hd s) (I.dA s) (I.dB s) (I.dN s) ++ _
          rw [e2, List.take_append_drop]
      · cases h
theorem I.allI_some {s : ByteArray} {l : List I.Q} (h : I.allI s = some l) : (∀ q ∈ l, q.E = 0) ∧ byts s = l.flatMap I.Q.V := I.allF_some _ s l h
theorem I.enc_ne {q : I.Q} (h : q.E = 0) : 1 ≤ q.V.length := by
  have := I.enc_len h
  have h2 : 1 ≤ I.psize q.op := by unfold I.psize; have := I.num_range q.op; split <;> omega
  unfold I.Q.V
  omega
theorem I.flat_len (l : List I.Q) (h : ∀ q ∈ l, q.E = 0) : l.length ≤ (l.flatMap I.Q.V).length := by
  induction l with
  | nil => simp
  | cons q r ih =>
    have := I.enc_ne (h q List.mem_cons_self)
    have := ih (fun x hx => h x (List.mem_cons_of_mem _ hx))
    simp only [List.flatMap_cons, List.length_append, List.length_cons]
    omega
theorem I.rows_at (l : List I.Q) (k : Nat) (hk : k < l.length) (j : Nat) (hj : j < 4) : (I.rows l)[k * 4 + j]? = (l[k]).cs[j]? := by
  induction l generalizing k with
  | nil => simp at hk
  | cons q r ih =>
    simp only [I.rows, List.flatMap_cons]
    cases k with
    | zero => rw [List.getElem?_append_left (by simp [I.Q.cs]; omega)]; simp
    | succ k =>
      rw [List.getElem?_append_right (by simp [I.Q.cs]; omega)]
      have e : (k + 1) * 4 + j - q.cs.length = k * 4 + j := by simp [I.Q.cs]; omega
      rw [e]
      simpa [I.rows] using ih k (by simpa using hk)
theorem I.rows_cut (l : List I.Q) (k : Nat) (hk : k < l.length) : l.flatMap I.Q.V = (l.take k).flatMap I.Q.V ++ (l[k]).V ++ (l.drop (k + 1)).flatMap I.Q.V := by
  conv => lhs; rw [← List.take_append_drop k l]
  rw [List.flatMap_append, List.drop_eq_getElem_cons hk, List.flatMap_cons, List.append_assoc]
theorem I.take_snoc (l : List I.Q) (k : Nat) (hk : k < l.length) : (l.take (k + 1)).flatMap I.Q.V = (l.take k).flatMap I.Q.V ++ (l[k]).V := by
  rw [List.take_succ_eq_append_getElem hk, List.flatMap_append]
  simp
theorem I.cut_zero (s : ByteArray) : I.cut s 0 = s := by
  unfold I.cut
  apply byts_inj
  rw [byts_extract]
  simp
  rw [List.take_of_length_le (by rw [byts_len]; exact Nat.le_refl _)]
/-- Decode turns Encode back. -/
theorem I.dec_back {op a b n : Int} (h : I.encE op a b n = 0) : I.decR (strOfNums (I.encV op a b n)) 0 = decV (insW op a b n) ((strOfNums (I.encV op a b n)).size : Int) 0 := by
  have hb := byts_str _ (I.enc_bd (op := op) (a := a) (b := b) (n := n))
  obtain ⟨d1, d2, d3, d4, d5⟩ := I.dec_enc h (strOfNums (I.encV op a b n)) [] (by rw [hb]; simp)
  unfold I.decR
  rw [if_neg (by omega), I.cut_zero, if_pos d1, d2, d3, d4, d5, ← I.enc_len h, strOfNums_size]
  simp
theorem enc_size {op a b n : Int} : (strOfNums (I.encV op a b n)).size ≤ 10 := by
  rw [strOfNums_size]
  unfold I.encV
  split
  · split
    · have := I.regB_len (I.regs op) a b
      have := I.numW_len (I.num op) n
      simp; omega
    · simp
  · simp
end Go.Proofs.YtffokdldgdjkhaaDoor

/- A thread's numbers fit. -/
namespace Go.Proofs.YtffokdldgdjkhaaDoor
open Go.RowKit

/-- Each of its numbers fits. -/
def S.C.ok (c : S.C) : Prop := ((Lit.int .i64 c.r0).wf = true ∧ (Lit.int .i64 c.r1).wf = true ∧ (Lit.int .i64 c.r2).wf = true ∧ (Lit.int .i64 c.r3).wf = true) ∧ ((Lit.int .i64 c.r4).wf = true ∧ (Lit.int .i64 c.r5).wf = true ∧ (Lit.int .i64 c.r6).wf = true ∧ (Lit.int .i64 c.r7).wf = true) ∧ (Lit.int .i64 c.pc).wf = true ∧ (Lit.int .i64 c.st).wf = true ∧ (Lit.int .i64 c.tr).wf = true

end Go.Proofs.YtffokdldgdjkhaaDoor

/- The document's Start is what step.Start comes to. (Written by gen_refall.py.) -/
namespace Go.Proofs.YtffokdldgdjkhaaDoor
open Go.RowKit
set_option linter.unusedVariables false

theorem rd_wf (c : S.C) (hok : c.ok) (k : Nat) (h : k < 8) : (Lit.int .i64 (c.rd k)).wf = true := by
  obtain ⟨⟨h0, h1, h2, h3⟩, ⟨h4, h5, h6, h7⟩, _⟩ := hok
  rcases (show k = 0 ∨ k = 1 ∨ k = 2 ∨ k = 3 ∨ k = 4 ∨ k = 5 ∨ k = 6 ∨ k = 7 by omega) with rfl | rfl | rfl | rfl | rfl | rfl | rfl | rfl <;> assumption
theorem wrap_same (x : Int) (h : (Lit.int .i64 x).wf = true) : wrap64 x = x := by
  simp [Lit.wf, IntKind.min, IntKind.max, IntKind.signed, IntKind.bits] at h
  exact W.wrap_id x (by omega) (by omega)
theorem rd_list (c : S.C) (k : Nat) (h : k < 8) : ([.int .i64 c.r0, .int .i64 c.r1, .int .i64 c.r2, .int .i64 c.r3, .int .i64 c.r4, .int .i64 c.r5, .int .i64 c.r6, .int .i64 c.r7, .int .i64 c.pc, .int .i64 c.st, .int .i64 c.tr] : List Value)[k]? = some (.int .i64 (c.rd k)) := by
  rcases (show k = 0 ∨ k = 1 ∨ k = 2 ∨ k = 3 ∨ k = 4 ∨ k = 5 ∨ k = 6 ∨ k = 7 by omega) with rfl | rfl | rfl | rfl | rfl | rfl | rfl | rfl <;> rfl

theorem ret_start {x y : S.C} {q r : S.Q} (h : x = y) (h2 : q = r) : Ending.returned (.tuple #[x.v, q.w]) = .returned (.tuple #[y.v, r.w]) := by rw [h, h2]

theorem rstart_known (c : S.C) (hok : c.ok) (op : Int) (a b : Nat) (ha : a < 8) (hb : b < 8) (n size : Int) (hs : (c.st != 0) = false) (h1 : 1 ≤ op) (h33 : op ≤ 33) (w : World) :
    Calls Tryd.prog 40 #[c.v, S.insV op a b n, .int .i64 size] w fun e w' => e = .returned (.tuple #[(S.turned c op a b n (wrap64 (c.pc + size))).v, (S.asked c op a b n (wrap64 (c.pc + size))).w]) ∧ Below w.heap.size w w' := by
  have la := rd_list c a ha
  have lb := rd_list c b hb
  have wa := wrap_same _ (rd_wf c hok a ha)
  have wb := wrap_same _ (rd_wf c hok b hb)
  have w7 := wrap_same _ (rd_wf c hok 7 (by omega))
  by_cases hc : 3 ≤ op ∧ op ≤ 16
  · rw [S.turned_comp hc, S.asked_no (by omega)]
    by_cases he : W.binE op (wrap64 (c.rd b)) = 0
    · rw [S.computed_yes he, wa, wb]
      rw [wb] at he
      exact rstart_comp c a b ha hb n size hs _ _ op _ hc.1 hc.2 (rd_wf c hok a ha) (show Hid _ from rfl) he la lb w
    · rw [S.computed_no he]
      rw [wb] at he
      exact rstart_trap c a b ha hb n size hs _ _ op _ hc.1 hc.2 (rd_wf c hok a ha) (show Hid _ from rfl) he la lb w
  by_cases e17 : op = 17
  · subst e17
    refine (rstart_17 c a b ha hb n size hs _ _ la lb w).mono ?_
    rintro e w' ⟨rfl, hbb⟩
    exact ⟨ret_start (by rw [S.turned_stay (by omega) (by omega) (S.jumps_no (by omega) (by omega) (by omega))]; rw [S.moved_no (by omega)]) rfl, hbb⟩
  by_cases e18 : op = 18
  · subst e18
    refine (rstart_18 c a b ha hb n size hs _ _ la lb w).mono ?_
    rintro e w' ⟨rfl, hbb⟩
    exact ⟨ret_start (by rw [S.turned_stay (by omega) (by omega) (S.jumps_no (by omega) (by omega) (by omega))]; rw [S.moved_no (by omega)]) (by show _ = S.Q.mk 2 _ (wrap64 (c.rd b)) 0; rw [wb]), hbb⟩
  by_cases e28 : op = 28
  · subst e28
    refine (rstart_28 c a b ha hb n size hs _ _ la lb w).mono ?_
    rintro e w' ⟨rfl, hbb⟩
    exact ⟨ret_start (by rw [S.turned_stay (by omega) (by omega) (S.jumps_no (by omega) (by omega) (by omega))]; rw [S.moved_no (by omega)]) (by show _ = S.Q.mk 3 _ (wrap64 (c.rd b)) b; rw [wb]), hbb⟩
  by_cases e29 : op = 29
  · subst e29
    refine (rstart_29 c a b ha hb n size hs _ _ la lb w).mono ?_
    rintro e w' ⟨rfl, hbb⟩
    exact ⟨ret_start (by rw [S.turned_stay (by omega) (by omega) (S.jumps_no (by omega) (by omega) (by omega))]; rw [S.moved_no (by omega)]) (by show _ = S.Q.mk 4 _ (wrap64 (c.rd b)) b; rw [wb]), hbb⟩
  by_cases e23 : op = 23
  · subst e23
    refine (rstart_23 c a b ha hb n size hs _ _ la lb w).mono ?_
    rintro e w' ⟨rfl, hbb⟩
    exact ⟨ret_start (by rw [S.turned_jump (by omega) (by omega) (S.jumps_yes (by omega))]; show _ = S.C.mk _ _ _ _ _ _ _ (wrap64 (c.r7 + -8)) _ _ _; rw [← Int.sub_eq_add_neg]; rfl) (by show _ = S.Q.mk 2 (wrap64 (c.r7 + -8)) _ 0; rw [← Int.sub_eq_add_neg]), hbb⟩
  by_cases e24 : op = 24
  · subst e24
    refine (rstart_24 c a b ha hb n size hs _ _ la lb w).mono ?_
    rintro e w' ⟨rfl, hbb⟩
    exact ⟨ret_start (by rw [S.turned_stay (by omega) (by omega) (S.jumps_no (by omega) (by omega) (by omega))]; rfl) (by show _ = S.Q.mk 1 (wrap64 (c.rd 7)) 0 8; rw [w7]; rfl), hbb⟩
  by_cases e20 : op = 20
  · subst e20
    refine (rstart_20 c a b ha hb n size hs _ _ la lb w).mono ?_
    rintro e w' ⟨rfl, hbb⟩
    exact ⟨ret_start (by rw [S.turned_jump (by omega) (by omega) (S.jumps_yes (by omega))]; rw [S.moved_no (by omega)]) (S.asked_no (by omega)).symm, hbb⟩
  by_cases e25 : op = 25
  · subst e25
    refine (rstart_25 c a b ha hb n size hs _ _ la lb w).mono ?_
    rintro e w' ⟨rfl, hbb⟩
    exact ⟨ret_start (by rw [S.turned_jump (by omega) (by omega) (S.jumps_yes (by omega))]; rw [S.moved_no (by omega)]) (S.asked_no (by omega)).symm, hbb⟩
  by_cases e21 : op = 21
  · subst e21
    by_cases hx : c.rd a = 0
    · refine (rstart_21j c a b ha hb n size hs _ _ hx la lb w).mono ?_
      rintro e w' ⟨rfl, hbb⟩
      exact ⟨ret_start (by rw [S.turned_jump (by omega) (by omega) (by rw [S.jumps_z (by omega), wa]; simp [hx])]; rw [S.moved_no (by omega)]) (S.asked_no (by omega)).symm, hbb⟩
    · refine (rstart_21s c a b ha hb n size hs _ _ hx la lb w).mono ?_
      rintro e w' ⟨rfl, hbb⟩
      exact ⟨ret_start (by rw [S.turned_stay (by omega) (by omega) (by rw [S.jumps_z (by omega), wa]; simp [hx])]; rw [S.moved_no (by omega)]) (S.asked_no (by omega)).symm, hbb⟩
  by_cases e26 : op = 26
  · subst e26
    by_cases hx : c.rd a = 0
    · refine (rstart_26j c a b ha hb n size hs _ _ hx la lb w).mono ?_
      rintro e w' ⟨rfl, hbb⟩
      exact ⟨ret_start (by rw [S.turned_jump (by omega) (by omega) (by rw [S.jumps_z (by omega), wa]; simp [hx])]; rw [S.moved_no (by omega)]) (S.asked_no (by omega)).symm, hbb⟩
    · refine (rstart_26s c a b ha hb n size hs _ _ hx la lb w).mono ?_
      rintro e w' ⟨rfl, hbb⟩
      exact ⟨ret_start (by rw [S.turned_stay (by omega) (by omega) (by rw [S.jumps_z (by omega), wa]; simp [hx])]; rw [S.moved_no (by omega)]) (S.asked_no (by omega)).symm, hbb⟩
  by_cases e22 : op = 22
  · subst e22
    by_cases hx : c.rd a = 0
    · refine (rstart_22s c a b ha hb n size hs _ _ hx la lb w).mono ?_
      rintro e w' ⟨rfl, hbb⟩
      exact ⟨ret_start (by rw [S.turned_stay (by omega) (by omega) (by rw [S.jumps_nz (by omega), wa]; simp [hx])]; rw [S.moved_no (by omega)]) (S.asked_no (by omega)).symm, hbb⟩
    · refine (rstart_22j c a b ha hb n size hs _ _ hx la lb w).mono ?_
      rintro e w' ⟨rfl, hbb⟩
      exact ⟨ret_start (by rw [S.turned_jump (by omega) (by omega) (by rw [S.jumps_nz (by omega), wa]; simp [hx])]; rw [S.moved_no (by omega)]) (S.asked_no (by omega)).symm, hbb⟩
  by_cases e27 : op = 27
  · subst e27
    by_cases hx : c.rd a = 0
    · refine (rstart_27s c a b ha hb n size hs _ _ hx la lb w).mono ?_
      rintro e w' ⟨rfl, hbb⟩
      exact ⟨ret_start (by rw [S.turned_stay (by omega) (by omega) (by rw [S.jumps_nz (by omega), wa]; simp [hx])]; rw [S.moved_no (by omega)]) (S.asked_no (by omega)).symm, hbb⟩
    · refine (rstart_27j c a b ha hb n size hs _ _ hx la lb w).mono ?_
      rintro e w' ⟨rfl, hbb⟩
      exact ⟨ret_start (by rw [S.turned_jump (by omega) (by omega) (by rw [S.jumps_nz (by omega), wa]; simp [hx])]; rw [S.moved_no (by omega)]) (S.asked_no (by omega)).symm, hbb⟩
  by_cases e30 : op = 30
  · subst e30
    refine (rstart_30 c a b ha hb n size hs _ _ la lb w).mono ?_
    rintro e w' ⟨rfl, hbb⟩
    exact ⟨ret_start (by rw [S.turned_stay (by omega) (by omega) (S.jumps_no (by omega) (by omega) (by omega))]; rw [S.moved_no (by omega)]) rfl, hbb⟩
  by_cases e31 : op = 31
  · subst e31
    refine (rstart_31 c a b ha hb n size hs _ _ la lb w).mono ?_
    rintro e w' ⟨rfl, hbb⟩
    exact ⟨ret_start (by rw [S.turned_stay (by omega) (by omega) (S.jumps_no (by omega) (by omega) (by omega))]; rw [S.moved_no (by omega)]) (by show _ = S.Q.mk 6 0 (wrap64 (c.rd a)) 0; rw [wa]), hbb⟩
  by_cases e32 : op = 32
  · subst e32
    refine (rstart_32 c a b ha hb n size hs _ _ la lb w).mono ?_
    rintro e w' ⟨rfl, hbb⟩
    exact ⟨ret_start (by rw [S.turned_stay (by omega) (by omega) (S.jumps_no (by omega) (by omega) (by omega))]; rfl) rfl, hbb⟩
  by_cases e33 : op = 33
  · subst e33
    refine (rstart_33 c a b ha hb n size hs _ _ la lb w).mono ?_
    rintro e w' ⟨rfl, hbb⟩
    exact ⟨ret_start S.turned_33.symm (S.asked_no (by omega)).symm, hbb⟩
  by_cases e1 : op = 1
  · subst e1
    refine (rstart_1 c a b ha hb n size hs _ _ la lb w).mono ?_
    rintro e w' ⟨rfl, hbb⟩
    exact ⟨ret_start (by rw [S.turned_stay (by omega) (by omega) (S.jumps_no (by omega) (by omega) (by omega))]; rfl) (S.asked_no (by omega)).symm, hbb⟩
  by_cases e19 : op = 19
  · subst e19
    refine (rstart_19 c a b ha hb n size hs _ _ la lb w).mono ?_
    rintro e w' ⟨rfl, hbb⟩
    exact ⟨ret_start (by rw [S.turned_stay (by omega) (by omega) (S.jumps_no (by omega) (by omega) (by omega))]; rfl) (S.asked_no (by omega)).symm, hbb⟩
  by_cases e2 : op = 2
  · subst e2
    refine (rstart_2 c a b ha hb n size hs _ _ la lb w).mono ?_
    rintro e w' ⟨rfl, hbb⟩
    exact ⟨ret_start (by rw [S.turned_stay (by omega) (by omega) (S.jumps_no (by omega) (by omega) (by omega))]; rw [show S.moved c 2 a b n = c.put a (wrap64 (c.rd b)) from rfl, wb]) (S.asked_no (by omega)).symm, hbb⟩
  omega

theorem rstart_any (c : S.C) (hok : c.ok) (op a b n size : Int) (w : World) :
    Calls Tryd.prog 40 #[c.v, S.insV op a b n, .int .i64 size] w fun e w' => e = .returned (.tuple #[(S.startC c op a b n size).v, (S.startQ c op a b n size).w]) ∧ Below w.heap.size w w' := by
  by_cases hs : c.st = 0
  · have hs' : (c.st != 0) = false := by simp [hs]
    cases hk : S.known op a b with
    | false =>
      have hd : S.does c op a b = false := by unfold S.does; rw [hk]; simp
      unfold S.startC S.startQ
      rw [if_neg (by rw [hd]; decide), if_neg (by rw [hd]; decide)]
      have hn := of_decide_eq_false hk
      by_cases ho : op < 1 ∨ 33 < op
      · exact rstart_nop c op a b n size hs' ho w
      by_cases h1 : a < 0
      · exact rstart_alo c op a b n size hs' (by omega) (by omega) h1 w
      by_cases h2 : 7 < a
      · exact rstart_ahi c op a b n size hs' (by omega) (by omega) h2 w
      by_cases h3 : b < 0
      · exact rstart_blo c op a b n size hs' (by omega) (by omega) (by omega) (by omega) h3 w
      · exact rstart_bhi c op a b n size hs' (by omega) (by omega) (by omega) (by omega) (by omega) w
    | true =>
      have hd : S.does c op a b = true := by unfold S.does; rw [hk, decide_eq_true hs]; rfl
      have hb := of_decide_eq_true hk
      unfold S.startC S.startQ
      rw [if_pos hd, if_pos hd]
      obtain ⟨x, rfl⟩ : ∃ x : Nat, a = x := ⟨a.toNat, by omega⟩
      obtain ⟨y, rfl⟩ : ∃ y : Nat, b = y := ⟨b.toNat, by omega⟩
      exact rstart_known c hok op x y (by omega) (by omega) n size hs' (by omega) (by omega) w
  · have hd : S.does c op a b = false := by unfold S.does; rw [decide_eq_false hs]; rfl
    unfold S.startC S.startQ
    rw [if_neg (by rw [hd]; decide), if_neg (by rw [hd]; decide)]
    exact rstart_st c op a b n size (by simp [hs]) w

end Go.Proofs.YtffokdldgdjkhaaDoor

/- The document's Decode and All, whatever the bytes. -/
namespace Go.Proofs.YtffokdldgdjkhaaDoor
set_option maxRecDepth 100000
open Go.RowKit
set_option linter.unusedVariables false
attribute [local go_sem ↓] Go.wp_at_zero Go.wp_at_succ

set_option maxRecDepth 100000 in
set_option maxHeartbeats 8000000 in
theorem rdec_arg (s : ByteArray) (a : Int) (h : a < 0 ∨ (s.size : Int) < a) (w : World) :
    Calls Tryd.prog 36 #[.string s, .int .i64 a] w fun e w' => e = .returned (decV (insW 0 0 0 0) 0 1) ∧ Below w.heap.size w w' := by
  rcases (show a < 0 ∨ (0 ≤ a ∧ (s.size : Int) < a) by omega) with h | ⟨h, h'⟩
  all_goals
    go_enter Tryd.func36, Tryd.ntmps36
    go_wp2
    exact bodyPost_ret (v := decV (insW 0 0 0 0) 0 1) (by simp [results, Tryd.results36, go_sem]) rfl ⟨rfl, bl1 _ _⟩

set_option maxRecDepth 100000 in
set_option maxHeartbeats 8000000 in
theorem rdec_end (s : ByteArray) (k : Nat) (h : k = s.size) (w : World) :
    Calls Tryd.prog 36 #[.string s, .int .i64 k] w fun e w' => e = .returned (decV (insW 0 0 0 0) 0 9) ∧ Below w.heap.size w w' := by
  have h1 : (k : Int) = (s.size : Int) := by omega
  clear h
  go_enter Tryd.func36, Tryd.ntmps36
  go_wp2
  exact bodyPost_ret (v := decV (insW 0 0 0 0) 0 9) (by simp [results, Tryd.results36, go_sem]) rfl ⟨rfl, bl1 _ _⟩

set_option maxRecDepth 100000 in
set_option maxHeartbeats 8000000 in
theorem rdec_short (s : ByteArray) (k : Nat) (hk : k < s.size) (hm : s.size ≤ 9223372036854775000) (op z : Int) (ho : (s[k].toNat : Int) = op) (hz : I.size op = z) (h : z = 0 ∨ (¬ z = 0 ∧ 0 ≤ z ∧ z ≤ 10 ∧ (s.size : Int) < k + z)) (w : World) :
    Calls Tryd.prog 36 #[.string s, .int .i64 k] w fun e w' => e = .returned (decV (insW 0 0 0 0) 0 9) ∧ Below w.heap.size w w' := by
  have HZ : Hid (I.size op = z) := hz
  have ho2 : (s[k].toNat : Int) ≤ 255 := by have := s[k].toNat_lt; omega
  have h0 : (0 : Int) ≤ (k : Int) := by omega
  have h1 : (k : Int) ≤ (s.size : Int) := by omega
  have h2 : ¬ (k : Int) = (s.size : Int) := by omega
  clear hz
  rcases h with h | ⟨h, h3, h4, h5⟩
  · subst h
    go_enter Tryd.func36, Tryd.ntmps36
    go_wp2_with (go_at_call 17; refine (rsize_any _ _).mono ?_; rintro e w' ⟨rfl, rfl⟩; rw [HZ.out])
    refine bodyPost_ret (v := decV (insW 0 0 0 0) 0 9) (by simp [results, Tryd.results36, go_sem]) rfl ⟨rfl, ?_⟩
    exact bl2 _ _ _
  · go_enter Tryd.func36, Tryd.ntmps36
    go_wp2_with (go_at_call 17; refine (rsize_any _ _).mono ?_; rintro e w' ⟨rfl, rfl⟩; rw [HZ.out])
    refine bodyPost_ret (v := decV (insW 0 0 0 0) 0 9) (by simp [results, Tryd.results36, go_sem]) rfl ⟨rfl, ?_⟩
    exact bl2 _ _ _

/-- What the two ways of telling come to: the instruction is one, just if it has a form. -/
theorem I.dOk_enc {c : ByteArray} (h0 : 0 < c.size) (h1 : 1 ≤ I.hd c ∧ I.hd c ≤ 33) (h2 : I.psize (I.hd c) ≤ (c.size : Int)) : I.dOk c = true ↔ I.encE (I.hd c) (I.dA c) (I.dB c) (I.dN c) = 0 := by
  constructor
  · intro h; exact (I.enc_dec h).1
  · intro h
    obtain ⟨ho, hb, hn, hv⟩ := I.enc_parts h
    have hr := I.bears_regs hb
    unfold I.dOk
    rw [decide_eq_true ⟨h0, h1.1, h1.2, h2⟩, I.isr_yes hr.1, I.isr_yes hr.2]
    unfold I.numOk at hn
    unfold I.rdOk
    by_cases e : I.num (I.hd c) = 0
    · rw [if_pos e]; rfl
    · rw [if_neg e] at hn
      rw [if_neg e]
      have hN : W.numV (I.dS c) = I.dN c := by unfold I.dN I.rdN; rw [if_neg e]
      have hs : ((I.dS c).size : Int) = I.num (I.hd c) := by
        have hm := I.num_cases e
        have hp := I.psize_nat (I.hd c)
        rw [← byts_len]
        unfold I.dS
        rw [byts_extract, List.length_take, List.length_drop, byts_len, hp]
        omega
      rw [hN, (W.numV_at (I.num_cases e) hs).2]
      have := (Bool.and_eq_true_iff.1 hn).2
      simpa using this

theorem cut_hd (s : ByteArray) (k : Nat) (hk : k < s.size) : I.hd (I.cut s k) = (s[k].toNat : Int) := by
  unfold I.hd I.cut
  show (byts (s.extract (k : Int).toNat s.size)).headD 0 = _
  rw [byts_extract]
  have : (k : Int).toNat = k := by omega
  rw [this]
  have h1 : (byts s).drop k = (s[k].toNat : Int) :: (byts s).drop (k + 1) := by
    have := W.tail_cons s k hk
    simpa [W.tail, List.map_drop] using this
  rw [h1]
  obtain ⟨n, hn⟩ : ∃ n, s.size - k = n + 1 := ⟨s.size - k - 1, by omega⟩
  rw [hn]
  rfl
theorem cut_size (s : ByteArray) (k : Nat) (hk : k ≤ s.size) : (I.cut s k).size = s.size - k := by
  unfold I.cut
  simp
theorem cut_cut (s : ByteArray) (k i j : Nat) (hj : k + j ≤ s.size) : (I.cut s k).extract i j = s.extract (k + i) (k + j) := by
  apply byts_inj
  rw [byts_extract, byts_extract]
  unfold I.cut
  rw [byts_extract]
  have : (k : Int).toNat = k := by omega
  rw [this, List.drop_take, List.take_take, List.drop_drop]
  congr 1
  omega
theorem ext_hd (s : ByteArray) (k j : Nat) (hk : k < s.size) (hj : k < j) : I.hd (s.extract k j) = (s[k].toNat : Int) := by
  unfold I.hd
  show (byts (s.extract k j)).headD 0 = _
  rw [byts_extract]
  have h1 : (byts s).drop k = (s[k].toNat : Int) :: (byts s).drop (k + 1) := by
    have := W.tail_cons s k hk
    simpa [W.tail, List.map_drop] using this
  rw [h1]
  obtain ⟨n, hn⟩ : ∃ n, j - k = n + 1 := ⟨j - k - 1, by omega⟩
  rw [hn]
  rfl

theorem rdec_fin {s : ByteArray} {k : Nat} {op a b n z : Int} (hk : k < s.size) (hm : s.size ≤ 9223372036854775000) (h1 : 1 ≤ op ∧ op ≤ 33) (hz : I.psize op = z) (hs : (k : Int) + z ≤ (s.size : Int))
    (ho : I.hd (I.cut s k) = op) (ha : I.dA (I.cut s k) = a) (hb : I.dB (I.cut s k) = b) (hn : I.dN (I.cut s k) = n) :
    (if I.encE op a b n = 0 then decV (insW op a b n) ((k : Int) + z) 0 else decV (insW 0 0 0 0) 0 9) = I.decR s k := by
  have hcs := cut_size s k (by omega)
  have hd := I.dOk_enc (c := I.cut s k) (by omega) (by rw [ho]; exact h1) (by rw [ho, hz]; omega)
  unfold I.decR
  rw [ho, ha, hb, hn] at hd
  rw [if_neg (show ¬ ((k : Int) < 0 ∨ (s.size : Int) < (k : Int)) by omega), ho, ha, hb, hn, hz]
  by_cases h : I.encE op a b n = 0
  · rw [if_pos h, if_pos (hd.2 h)]
  · rw [if_neg h, if_neg (fun x => h (hd.1 x))]

theorem rdecj_1 (s : ByteArray) (k : Nat) (hk : k + 10 ≤ s.size) (hm : s.size ≤ 9223372036854775000) (op : Int) (h1 : 1 ≤ op ∧ op ≤ 33) (ho : (s[k].toNat : Int) = op) (hf : I.form op = 1) (w : World) :
    Calls Tryd.prog 36 #[.string s, .int .i64 k] w fun e w' => e = .returned (I.decR s k) ∧ Below w.heap.size w w' := by
  have hr : I.regs op = 1 := by unfold I.regs; rw [hf]; rfl
  have hn : I.num op = 8 := by unfold I.num; rw [hf]; rfl
  have hp : I.psize op = 10 := by unfold I.psize; rw [hr, hn]; rfl
  have hka : I.kAt op = 2 := by unfold I.kAt; rw [hp, hn]; rfl
  have hd : I.hd (I.cut s k) = op := (cut_hd s k (by omega)).trans ho
  refine (rdec_1 s k hk hm op ho hf w).mono ?_
  rintro e w' ⟨rfl, hb⟩
  refine ⟨?_, hb⟩
  congr 1
  refine rdec_fin (by omega) hm h1 hp (by omega) hd ?_ ?_ ?_
  · unfold I.dA I.rA
    rw [hd, hr]
    rw [if_neg (by decide), if_pos rfl, hka, cut_cut s k 1 2 (by omega), ext_hd s (k + 1) (k + 2) (by omega) (by omega)]
  · unfold I.dB I.rB
    rw [hd, hr]
    rfl
  · unfold I.dN I.rdN
    rw [hd, hn]
    rw [if_neg (by decide)]
    unfold I.dS
    rw [hd, hka, hp, show ((10 : Int)).toNat = 10 from rfl, cut_cut s k 2 10 (by omega)]

theorem rdecj_2 (s : ByteArray) (k : Nat) (hk : k + 2 ≤ s.size) (hm : s.size ≤ 9223372036854775000) (op : Int) (h1 : 1 ≤ op ∧ op ≤ 33) (ho : (s[k].toNat : Int) = op) (hf : I.form op = 2) (w : World) :
    Calls Tryd.prog 36 #[.string s, .int .i64 k] w fun e w' => e = .returned (I.decR s k) ∧ Below w.heap.size w w' := by
  have hr : I.regs op = 2 := by unfold I.regs; rw [hf]; rfl
  have hn : I.num op = 0 := by unfold I.num; rw [hf]; rfl
  have hp : I.psize op = 2 := by unfold I.psize; rw [hr, hn]; rfl
  have hka : I.kAt op = 2 := by unfold I.kAt; rw [hp, hn]; rfl
  have hd : I.hd (I.cut s k) = op := (cut_hd s k (by omega)).trans ho
  refine (rdec_2 s k hk hm op ho hf w).mono ?_
  rintro e w' ⟨rfl, hb⟩
  refine ⟨?_, hb⟩
  congr 1
  refine rdec_fin (by omega) hm h1 hp (by omega) hd ?_ ?_ ?_
  · unfold I.dA I.rA
    rw [hd, hr]
    rw [if_neg (by decide), if_neg (by decide), hka, cut_cut s k 1 2 (by omega), ext_hd s (k + 1) (k + 2) (by omega) (by omega)]
  · unfold I.dB I.rB
    rw [hd, hr]
    rw [if_pos rfl, hka, cut_cut s k 1 2 (by omega), ext_hd s (k + 1) (k + 2) (by omega) (by omega)]
  · unfold I.dN I.rdN
    rw [hd, hn]
    rfl

theorem rdecj_3 (s : ByteArray) (k : Nat) (hk : k + 6 ≤ s.size) (hm : s.size ≤ 9223372036854775000) (op : Int) (h1 : 1 ≤ op ∧ op ≤ 33) (ho : (s[k].toNat : Int) = op) (hf : I.form op = 3) (w : World) :
    Calls Tryd.prog 36 #[.string s, .int .i64 k] w fun e w' => e = .returned (I.decR s k) ∧ Below w.heap.size w w' := by
  have hr : I.regs op = 2 := by unfold I.regs; rw [hf]; rfl
  have hn : I.num op = 4 := by unfold I.num; rw [hf]; rfl
  have hp : I.psize op = 6 := by unfold I.psize; rw [hr, hn]; rfl
  have hka : I.kAt op = 2 := by unfold I.kAt; rw [hp, hn]; rfl
  have hd : I.hd (I.cut s k) = op := (cut_hd s k (by omega)).trans ho
  refine (rdec_3 s k hk hm op ho hf w).mono ?_
  rintro e w' ⟨rfl, hb⟩
  refine ⟨?_, hb⟩
  congr 1
  refine rdec_fin (by omega) hm h1 hp (by omega) hd ?_ ?_ ?_
  · unfold I.dA I.rA
    rw [hd, hr]
    rw [if_neg (by decide), if_neg (by decide), hka, cut_cut s k 1 2 (by omega), ext_hd s (k + 1) (k + 2) (by omega) (by omega)]
  · unfold I.dB I.rB
    rw [hd, hr]
    rw [if_pos rfl, hka, cut_cut s k 1 2 (by omega), ext_hd s (k + 1) (k + 2) (by omega) (by omega)]
  · unfold I.dN I.rdN
    rw [hd, hn]
    rw [if_neg (by decide)]
    unfold I.dS
    rw [hd, hka, hp, show ((6 : Int)).toNat = 6 from rfl, cut_cut s k 2 6 (by omega)]

theorem rdecj_4 (s : ByteArray) (k : Nat) (hk : k + 6 ≤ s.size) (hm : s.size ≤ 9223372036854775000) (op : Int) (h1 : 1 ≤ op ∧ op ≤ 33) (ho : (s[k].toNat : Int) = op) (hf : I.form op = 4) (w : World) :
    Calls Tryd.prog 36 #[.string s, .int .i64 k] w fun e w' => e = .returned (I.decR s k) ∧ Below w.heap.size w w' := by
  have hr : I.regs op = 1 := by unfold I.regs; rw [hf]; rfl
  have hn : I.num op = 4 := by unfold I.num; rw [hf]; rfl
  have hp : I.psize op = 6 := by unfold I.psize; rw [hr, hn]; rfl
  have hka : I.kAt op = 2 := by unfold I.kAt; rw [hp, hn]; rfl
  have hd : I.hd (I.cut s k) = op := (cut_hd s k (by omega)).trans ho
  refine (rdec_4 s k hk hm op ho hf w).mono ?_
  rintro e w' ⟨rfl, hb⟩
  refine ⟨?_, hb⟩
  congr 1
  refine rdec_fin (by omega) hm h1 hp (by omega) hd ?_ ?_ ?_
  · unfold I.dA I.rA
    rw [hd, hr]
    rw [if_neg (by decide), if_pos rfl, hka, cut_cut s k 1 2 (by omega), ext_hd s (k + 1) (k + 2) (by omega) (by omega)]
  · unfold I.dB I.rB
    rw [hd, hr]
    rfl
  · unfold I.dN I.rdN
    rw [hd, hn]
    rw [if_neg (by decide)]
    unfold I.dS
    rw [hd, hka, hp, show ((6 : Int)).toNat = 6 from rfl, cut_cut s k 2 6 (by omega)]

theorem rdecj_5 (s : ByteArray) (k : Nat) (hk : k + 5 ≤ s.size) (hm : s.size ≤ 9223372036854775000) (op : Int) (h1 : 1 ≤ op ∧ op ≤ 33) (ho : (s[k].toNat : Int) = op) (hf : I.form op = 5) (w : World) :
    Calls Tryd.prog 36 #[.string s, .int .i64 k] w fun e w' => e = .returned (I.decR s k) ∧ Below w.heap.size w w' := by
  have hr : I.regs op = 0 := by unfold I.regs; rw [hf]; rfl
  have hn : I.num op = 4 := by unfold I.num; rw [hf]; rfl
  have hp : I.psize op = 5 := by unfold I.psize; rw [hr, hn]; rfl
  have hka : I.kAt op = 1 := by unfold I.kAt; rw [hp, hn]; rfl
  have hd : I.hd (I.cut s k) = op := (cut_hd s k (by omega)).trans ho
  refine (rdec_5 s k hk hm op ho hf w).mono ?_
  rintro e w' ⟨rfl, hb⟩
  refine ⟨?_, hb⟩
  congr 1
  refine rdec_fin (by omega) hm h1 hp (by omega) hd ?_ ?_ ?_
  · unfold I.dA I.rA
    rw [hd, hr]
    rfl
  · unfold I.dB I.rB
    rw [hd, hr]
    rfl
  · unfold I.dN I.rdN
    rw [hd, hn]
    rw [if_neg (by decide)]
    unfold I.dS
    rw [hd, hka, hp, show ((5 : Int)).toNat = 5 from rfl, cut_cut s k 1 5 (by omega)]

theorem rdecj_6 (s : ByteArray) (k : Nat) (hk : k + 1 ≤ s.size) (hm : s.size ≤ 9223372036854775000) (op : Int) (h1 : 1 ≤ op ∧ op ≤ 33) (ho : (s[k].toNat : Int) = op) (hf : I.form op = 6) (w : World) :
    Calls Tryd.prog 36 #[.string s, .int .i64 k] w fun e w' => e = .returned (I.decR s k) ∧ Below w.heap.size w w' := by
  have hr : I.regs op = 0 := by unfold I.regs; rw [hf]; rfl
  have hn : I.num op = 0 := by unfold I.num; rw [hf]; rfl
  have hp : I.psize op = 1 := by unfold I.psize; rw [hr, hn]; rfl
  have hka : I.kAt op = 1 := by unfold I.kAt; rw [hp, hn]; rfl
  have hd : I.hd (I.cut s k) = op := (cut_hd s k (by omega)).trans ho
  refine (rdec_6 s k hk hm op ho hf w).mono ?_
  rintro e w' ⟨rfl, hb⟩
  refine ⟨?_, hb⟩
  congr 1
  refine rdec_fin (by omega) hm h1 hp (by omega) hd ?_ ?_ ?_
  · unfold I.dA I.rA
    rw [hd, hr]
    rfl
  · unfold I.dB I.rB
    rw [hd, hr]
    rfl
  · unfold I.dN I.rdN
    rw [hd, hn]
    rfl

theorem rdecj_7 (s : ByteArray) (k : Nat) (hk : k + 2 ≤ s.size) (hm : s.size ≤ 9223372036854775000) (op : Int) (h1 : 1 ≤ op ∧ op ≤ 33) (ho : (s[k].toNat : Int) = op) (hf : I.form op = 7) (w : World) :
    Calls Tryd.prog 36 #[.string s, .int .i64 k] w fun e w' => e = .returned (I.decR s k) ∧ Below w.heap.size w w' := by
  have hr : I.regs op = 0 := by unfold I.regs; rw [hf]; rfl
  have hn : I.num op = 1 := by unfold I.num; rw [hf]; rfl
  have hp : I.psize op = 2 := by unfold I.psize; rw [hr, hn]; rfl
  have hka : I.kAt op = 1 := by unfold I.kAt; rw [hp, hn]; rfl
  have hd : I.hd (I.cut s k) = op := (cut_hd s k (by omega)).trans ho
  refine (rdec_7 s k hk hm op ho hf w).mono ?_
  rintro e w' ⟨rfl, hb⟩
  refine ⟨?_, hb⟩
  congr 1
  refine rdec_fin (by omega) hm h1 hp (by omega) hd ?_ ?_ ?_
  · unfold I.dA I.rA
    rw [hd, hr]
    rfl
  · unfold I.dB I.rB
    rw [hd, hr]
    rfl
  · unfold I.dN I.rdN
    rw [hd, hn]
    rw [if_neg (by decide)]
    unfold I.dS
    rw [hd, hka, hp, show ((2 : Int)).toNat = 2 from rfl, cut_cut s k 1 2 (by omega)]

theorem rdecj_8 (s : ByteArray) (k : Nat) (hk : k + 3 ≤ s.size) (hm : s.size ≤ 9223372036854775000) (op : Int) (h1 : 1 ≤ op ∧ op ≤ 33) (ho : (s[k].toNat : Int) = op) (hf : I.form op = 8) (w : World) :
    Calls Tryd.prog 36 #[.string s, .int .i64 k] w fun e w' => e = .returned (I.decR s k) ∧ Below w.heap.size w w' := by
  have hr : I.regs op = 1 := by unfold I.regs; rw [hf]; rfl
  have hn : I.num op = 1 := by unfold I.num; rw [hf]; rfl
  have hp : I.psize op = 3 := by unfold I.psize; rw [hr, hn]; rfl
  have hka : I.kAt op = 2 := by unfold I.kAt; rw [hp, hn]; rfl
  have hd : I.hd (I.cut s k) = op := (cut_hd s k (by omega)).trans ho
  refine (rdec_8 s k hk hm op ho hf w).mono ?_
  rintro e w' ⟨rfl, hb⟩
  refine ⟨?_, hb⟩
  congr 1
  refine rdec_fin (by omega) hm h1 hp (by omega) hd ?_ ?_ ?_
  · unfold I.dA I.rA
    rw [hd, hr]
    rw [if_neg (by decide), if_pos rfl, hka, cut_cut s k 1 2 (by omega), ext_hd s (k + 1) (k + 2) (by omega) (by omega)]
  · unfold I.dB I.rB
    rw [hd, hr]
    rfl
  · unfold I.dN I.rdN
    rw [hd, hn]
    rw [if_neg (by decide)]
    unfold I.dS
    rw [hd, hka, hp, show ((3 : Int)).toNat = 3 from rfl, cut_cut s k 2 3 (by omega)]

theorem rdecj_9 (s : ByteArray) (k : Nat) (hk : k + 2 ≤ s.size) (hm : s.size ≤ 9223372036854775000) (op : Int) (h1 : 1 ≤ op ∧ op ≤ 33) (ho : (s[k].toNat : Int) = op) (hf : I.form op = 9) (w : World) :
    Calls Tryd.prog 36 #[.string s, .int .i64 k] w fun e w' => e = .returned (I.decR s k) ∧ Below w.heap.size w w' := by
  have hr : I.regs op = 1 := by unfold I.regs; rw [hf]; rfl
  have hn : I.num op = 0 := by unfold I.num; rw [hf]; rfl
  have hp : I.psize op = 2 := by unfold I.psize; rw [hr, hn]; rfl
  have hka : I.kAt op = 2 := by unfold I.kAt; rw [hp, hn]; rfl
  have hd : I.hd (I.cut s k) = op := (cut_hd s k (by omega)).trans ho
  refine (rdec_9 s k hk hm op ho hf w).mono ?_
  rintro e w' ⟨rfl, hb⟩
  refine ⟨?_, hb⟩
  congr 1
  refine rdec_fin (by omega) hm h1 hp (by omega) hd ?_ ?_ ?_
  · unfold I.dA I.rA
    rw [hd, hr]
    rw [if_neg (by decide), if_pos rfl, hka, cut_cut s k 1 2 (by omega), ext_hd s (k + 1) (k + 2) (by omega) (by omega)]
  · unfold I.dB I.rB
    rw [hd, hr]
    rfl
  · unfold I.dN I.rdN
    rw [hd, hn]
    rfl

theorem rdecj_10 (s : ByteArray) (k : Nat) (hk : k + 2 ≤ s.size) (hm : s.size ≤ 9223372036854775000) (op : Int) (h1 : 1 ≤ op ∧ op ≤ 33) (ho : (s[k].toNat : Int) = op) (hf : I.form op = 10) (w : World) :
    Calls Tryd.prog 36 #[.string s, .int .i64 k] w fun e w' => e = .returned (I.decR s k) ∧ Below w.heap.size w w' := by
  have hr : I.regs op = 0 := by unfold I.regs; rw [hf]; rfl
  have hn : I.num op = 1 := by unfold I.num; rw [hf]; rfl
  have hp : I.psize op = 2 := by unfold I.psize; rw [hr, hn]; rfl
  have hka : I.kAt op = 1 := by unfold I.kAt; rw [hp, hn]; rfl
  have hd : I.hd (I.cut s k) = op := (cut_hd s k (by omega)).trans ho
  refine (rdec_10 s k hk hm op ho hf w).mono ?_
  rintro e w' ⟨rfl, hb⟩
  refine ⟨?_, hb⟩
  congr 1
  refine rdec_fin (by omega) hm h1 hp (by omega) hd ?_ ?_ ?_
  · unfold I.dA I.rA
    rw [hd, hr]
    rfl
  · unfold I.dB I.rB
    rw [hd, hr]
    rfl
  · unfold I.dN I.rdN
    rw [hd, hn]
    rw [if_neg (by decide)]
    unfold I.dS
    rw [hd, hka, hp, show ((2 : Int)).toNat = 2 from rfl, cut_cut s k 1 2 (by omega)]

theorem rdecode_any (s : ByteArray) (a : Int) (hm : s.size ≤ 9223372036854775000) (w : World) :
    Calls Tryd.prog 36 #[.string s, .int .i64 a] w fun e w' => e = .returned (I.decR s a) ∧ Below w.heap.size w w' := by
  by_cases h : a < 0 ∨ (s.size : Int) < a
  · unfold I.decR
    rw [if_pos h]
    exact rdec_arg s a h w
  · obtain ⟨k, rfl⟩ : ∃ k : Nat, a = k := ⟨a.toNat, by omega⟩
    by_cases he : k = s.size
    · have hc := cut_size s k (by omega)
      have hd : I.dOk (I.cut s k) = false := by
        unfold I.dOk
        rw [decide_eq_false (by rintro ⟨h1, -⟩; omega)]
        rfl
      unfold I.decR
      rw [if_neg h, if_neg (by rw [hd]; decide)]
      exact rdec_end s k he w
    · have hk : k < s.size := by omega
      have ho : I.hd (I.cut s k) = (s[k].toNat : Int) := cut_hd s k hk
      have hc := cut_size s k (by omega)
      generalize hop : (s[k].toNat : Int) = op at *
      have hno : (1 ≤ op ∧ op ≤ 33 → (s.size : Int) < (k : Int) + I.psize op) → Calls Tryd.prog 36 #[.string s, .int .i64 k] w fun e w' => e = .returned (I.decR s k) ∧ Below w.heap.size w w' := by
        intro hsh
        have hd : I.dOk (I.cut s k) = false := by
          unfold I.dOk
          rw [ho, decide_eq_false (by rintro ⟨h1, h2, h3, h4⟩; have := hsh ⟨h2, h3⟩; omega)]
          rfl
        unfold I.decR
        rw [if_neg h, if_neg (by rw [hd]; decide)]
        refine rdec_short s k hk hm op (I.size op) hop rfl ?_ w
        by_cases h2 : 1 ≤ op ∧ op ≤ 33
        · have := I.size_pos h2.1 h2.2
          have h3 := hsh h2
          rw [I.psize_size op h2] at h3
          exact .inr ⟨by omega, by omega, by omega, h3⟩
        · exact .inl (I.size_none (by omega))
      by_cases h2 : 1 ≤ op ∧ op ≤ 33
      · by_cases h3 : (s.size : Int) < (k : Int) + I.psize op
        · exact hno (fun _ => h3)
        · have h4 := I.form_some h2.1 h2.2
          have h5 := I.form_range op
          have hps := I.psize_size op h2
          have hsz : I.size op = if I.form op = 0 then 0 else if I.hasA (I.form op) = true then 1 + (I.numB (I.form op) + 1) else 1 + I.numB (I.form op) := rfl
          rcases (show I.form op = 1 ∨ I.form op = 2 ∨ I.form op = 3 ∨ I.form op = 4 ∨ I.form op = 5 ∨ I.form op = 6 ∨ I.form op = 7 ∨ I.form op = 8 ∨ I.form op = 9 ∨ I.form op = 10 by omega) with e | e | e | e | e | e | e | e | e | e
          · have hz : I.size op = 10 := by rw [hsz, e]; rfl
            exact rdecj_1 s k (by omega) hm op h2 hop e w
          · have hz : I.size op = 2 := by rw [hsz, e]; rfl
            exact rdecj_2 s k (by omega) hm op h2 hop e w
          · have hz : I.size op = 6 := by rw [hsz, e]; rfl
            exact rdecj_3 s k (by omega) hm op h2 hop e w
          · have hz : I.size op = 6 := by rw [hsz, e]; rfl
            exact rdecj_4 s k (by omega) hm op h2 hop e w
          · have hz : I.size op = 5 := by rw [hsz, e]; rfl
            exact rdecj_5 s k (by omega) hm op h2 hop e w
          · have hz : I.size op = 1 := by rw [hsz, e]; rfl
            exact rdecj_6 s k (by omega) hm op h2 hop e w
          · have hz : I.size op = 2 := by rw [hsz, e]; rfl
            exact rdecj_7 s k (by omega) hm op h2 hop e w
          · have hz : I.size op = 3 := by rw [hsz, e]; rfl
            exact rdecj_8 s k (by omega) hm op h2 hop e w
          · have hz : I.size op = 2 := by rw [hsz, e]; rfl
            exact rdecj_9 s k (by omega) hm op h2 hop e w
          · have hz : I.size op = 2 := by rw [hsz, e]; rfl
            exact rdecj_10 s k (by omega) hm op h2 hop e w
      · exact hno (fun x => absurd x h2)

end Go.Proofs.YtffokdldgdjkhaaDoor

/- The document's All, whatever the bytes. -/
namespace Go.Proofs.YtffokdldgdjkhaaDoor
set_option maxRecDepth 100000
open Go.RowKit
set_option linter.unusedVariables false
attribute [local go_sem ↓] Go.wp_at_zero Go.wp_at_succ

theorem cut_rest (s : ByteArray) (k : Nat) (h : I.dOk (I.cut s k) = true) : I.rest (I.cut s k) = I.cut s ((k + (I.psize (I.hd (I.cut s k))).toNat : Nat) : Int) ∧ k < s.size ∧ k + (I.psize (I.hd (I.cut s k))).toNat ≤ s.size ∧ 1 ≤ (I.psize (I.hd (I.cut s k))).toNat := by
  have hr := I.rest_size _ h
  have hp := I.dOk_pos h
  have hk : k < s.size := by
    unfold I.cut at hp
    simp at hp
    omega
  have hc := cut_size s k (by omega)
  refine ⟨?_, hk, by omega, hr.2⟩
  unfold I.rest
  rw [hc, cut_cut s k _ (s.size - k) (by omega)]
  unfold I.cut
  congr 1
  · omega

set_option maxRecDepth 100000 in
set_option maxHeartbeats 8000000 in
theorem rall_any (s : ByteArray) (hm : s.size ≤ 4398046511104) (w : World) :
    Calls Tryd.prog 16 #[.string s] w fun e w' => I.allPost s w.heap.size e w' ∧ Below w.heap.size w w' := by
  obtain ⟨i0, hi, hz0, hz1, hz2⟩ := info_parts infoIns
  go_enter Tryd.func16, Tryd.ntmps16
  go_wp2
  go_loopg [4, 5] s.size (fun r lv av wr => ∃ (k : Nat) (done : List I.Q), av = .int .i64 k ∧ k ≤ s.size ∧ s.size - k ≤ r ∧ done.length ≤ k ∧ wr.ownsRow w.heap.size 62 4 lv done.length (I.rows done) ∧ Below w.heap.size w wr ∧ Hid (I.allI s = (I.allI (I.cut s k)).map (done ++ ·)))
  case atStart => exact ⟨0, [], rfl, Nat.zero_le _, by omega, by simp, World.ownsRow_nil _ _ _ _, Below.refl _ _, by show _ = _; rw [show ((0 : Nat) : Int) = 0 from rfl, I.cut_zero]; simp⟩
  case round =>
    obtain ⟨k, done, rfl, hk, hr, hdn, ho, hb, HA⟩ := hrel
    by_cases h0 : k = s.size
    · have hlt : ¬ (k : Int) < (s.size : Int) := by omega
      have HK : Hid (k = s.size) := h0
      clear h0
      go_wp2
      go_ret2
      refine ⟨?_, hb⟩
      unfold I.allPost
      rw [HA.out, I.allI_zero (by rw [cut_size s k hk, HK.out]; omega)]
      simp only [Option.map_some, List.append_nil]
      exact ⟨_, rfl, ho⟩
    · have hlt : (k : Int) < (s.size : Int) := by omega
      have HR : Hid (∀ w, Calls Tryd.prog 36 #[.string s, .int .i64 k] w fun e w' => e = .returned (I.decR s k) ∧ Below w.heap.size w w') := fun w => rdecode_any s k (by omega) w
      unfold I.decR at HR
      rw [if_neg (show ¬ ((k : Int) < 0 ∨ (s.size : Int) < (k : Int)) by omega)] at HR
      have hcs := cut_size s k hk
      cases hx : I.dOk (I.cut s k) with
      | false =>
        rw [hx, if_neg (by decide)] at HR
        have HX : Hid (I.dOk (I.cut s k) = false) := hx
        have HCS : Hid ((I.cut s k).size = s.size - k) := hcs
        clear hx hcs
        go_wp2_with (go_at_call 36; refine (HR.out _).mono ?_; rintro e w1 ⟨rfl, hb1⟩)
        go_ret2
        refine ⟨?_, (hb.trans (hb1.mono hb.size)).alloc (by have := hb.size; have := hb1.size; omega) _⟩
        unfold I.allPost
        rw [HA.out, I.allI_no (by rw [HCS.out]; omega) HX.out]
        rfl
      | true =>
        rw [hx, if_pos rfl] at HR
        obtain ⟨hrest, -, hp1, hp2⟩ := cut_rest s k hx
        have HQ : Hid (I.dQ (I.cut s k) = ⟨I.hd (I.cut s k), I.dA (I.cut s k), I.dB (I.cut s k), I.dN (I.cut s k)⟩) := rfl
        have HT : Hid (I.rest (I.cut s k) = I.cut s ((k + (I.psize (I.hd (I.cut s k))).toNat : Nat) : Int)) := hrest
        generalize hq : I.dQ (I.cut s k) = q at *
        have hqe := HQ.out
        have q1 : I.hd (I.cut s k) = q.op := by rw [hqe]
        have q2 : I.dA (I.cut s k) = q.a := by rw [hqe]
        have q3 : I.dB (I.cut s k) = q.b := by rw [hqe]
        have q4 : I.dN (I.cut s k) = q.n := by rw [hqe]
        rw [q1, q2, q3, q4] at HR
        rw [q1] at HT hp1 hp2
        have HX : Hid (I.dOk (I.cut s k) = true) := hx
        have HQQ : Hid (I.dQ (I.cut s k) = q) := hq
        clear q1 q2 q3 q4 hqe HQ hq hx hrest hcs
        obtain ⟨z, hz⟩ : ∃ z : Nat, I.psize q.op = z := ⟨(I.psize q.op).toNat, by omega⟩
        rw [hz] at HR HT hp1 hp2
        rw [show ((z : Int)).toNat = z by omega] at HT hp1 hp2
        clear hz
        go_wp2_with fail
        refine (HR.out _).mono ?_
        rintro e w1 ⟨rfl, hb1⟩
        have ho1 := own_kept ho hb1
        have hs1 := hb1.size
        have hs0 := hb.size
        have hbb : Below w.heap.size w w1 := hb.trans (hb1.mono hs0)
        clear ho hb hb1
        go_wp2_with (first | (at_builtin; refine wpList_append_own _ rfl _ _ 57 rfl w.heap.size 62 i0 _ 4 32 Tryd.underlying57 hi hz0 hz1 hz2 rfl (by decide) _ _ _ rfl ((ho1.alloc _).alloc _) ⟨w1.heap.size + 1, 0, none⟩ 1 1 q.cs rfl rfl (ins_cells _ q _ (by simp)) (cs_one q) (by unfold maxLen; omega) (by omega) (by simp; omega) ?_) | go_in)
        intro v2 w2 ho2 hg2 _
        have hb2 : Below w.heap.size w w2 := below_own ((hbb.alloc (by omega) _).alloc (by simp; omega) _) ((ho1.alloc _).alloc _) hg2 (by simp; omega)
        rw [← I.rows_snoc] at ho2
        have ho3 : w2.ownsRow w.heap.size 62 4 v2 (done ++ [q]).length (I.rows (done ++ [q])) := by simpa using ho2
        clear ho2 hg2 ho1 hbb
        go_wp2
        go_roundg (s.size - (k + z))
        case measure => omega
        case rel =>
          refine ⟨k + z, done ++ [q], by first | rfl | (congr 1; omega), hp1, Nat.le_refl _, by simp; omega, ho3, hb2, ?_⟩
          show I.allI s = _
          rw [HA.out, I.allI_yes (I.dOk_pos HX.out) HX.out, HQQ.out, Option.map_map, HT.out]
          congr 1
          funext l
          simp

end Go.Proofs.YtffokdldgdjkhaaDoor

/- Objects: what may be, no program in sight; and how an object lies. -/
namespace Go.Proofs.YtffokdldgdjkhaaDoor
set_option maxRecDepth 100000
open Go.RowKit Go.Maps

structure Sym where
  name : ByteArray
  kind : Int
  pos : Int
structure Rel where
  pos : Int
  kind : Int
  name : ByteArray
  add : Int
def noSym : Sym := ⟨.empty, 0, 0⟩
def noRel : Rel := ⟨0, 0, .empty, 0⟩
/-- An object. -/
structure ObjD where
  code : ByteArray
  data : List Int
  syms : List Sym
  rels : List Rel

def nameOk (s : ByteArray) : Bool := decide (1 ≤ s.size) && decide (s.size ≤ 28)
def roomOf (cl dl : Nat) (k : Int) : Int := if k = 1 ∨ k = 3 then cl else if k = 2 then dl else 0
def addOk (k n : Int) : Bool := if k = 1 then decide (n = 0) else if k = 2 then decide (-2147483648 ≤ n) && decide (n ≤ 2147483647) else false
def symOk (cl dl : Nat) (s : Sym) : Bool := nameOk s.name && (decide (0 ≤ s.pos) && decide (s.pos < roomOf cl dl s.kind))
def symAt (cl dl : Nat) (ss : List Sym) (i : Nat) : Bool := (List.range i).all (fun j => decide ((ss.getD j noSym).name ≠ (ss.getD i noSym).name)) && symOk cl dl (ss.getD i noSym)
def symsOk (cl dl : Nat) (ss : List Sym) : Bool := decide (ss.length ≤ 1000) && (List.range ss.length).all (symAt cl dl ss)
def freeAt (rs : List Rel) (i : Nat) : Int := if i = 0 then 0 else (rs.getD (i - 1) noRel).pos + 4
def relOk (cl : Nat) (free : Int) (r : Rel) : Bool := (decide (free ≤ r.pos) && decide (r.pos ≤ (cl : Int) - 4)) && (nameOk r.name && addOk r.kind r.add)
def relsOk (cl : Nat) (rs : List Rel) : Bool := decide (rs.length ≤ 8000) && (List.range rs.length).all fun i => relOk cl (freeAt rs i) (rs.getD i noRel)
def ObjD.may (o : ObjD) : Bool := (decide (o.code.size ≤ 65536) && decide (o.data.length ≤ 4096)) && (symsOk o.code.size o.data.length o.syms && relsOk o.code.size o.rels)

theorem all_range_no {n i : Nat} {f : Nat → Bool} (hi : i < n) (h : f i = false) : (List.range n).all f = false := by
  rw [← Bool.not_eq_true, List.all_eq_true]
  intro h'
  have := h' i (List.mem_range.2 hi)
  rw [h] at this
  cases this
theorem all_range_yes {n : Nat} {f : Nat → Bool} (h : ∀ i, i < n → f i = true) : (List.range n).all f = true := by
  rw [List.all_eq_true]
  intro i hi
  exact h i (List.mem_range.1 hi)

/-- Lists as they lie. -/
structure IntsV (w : World) (a : Option Addr) (len cap : Nat) (zs : List Int) : Prop where
  count : zs.length = len
  fits : ∀ n ∈ zs, (Lit.int .i64 n).wf = true
  nilOf : a = none → len = 0 ∧ cap = 0
  cells : len = 0 ∨ ∃ b off, a = some ⟨b, off, none⟩ ∧ ∀ i, i < len → w.cell? ⟨b, off + i, none⟩ = some (.int .i64 (zs.getD i 0))
structure SymsV (w : World) (a : Option Addr) (len cap : Nat) (ss : List Sym) : Prop where
  count : ss.length = len
  fits : ∀ s ∈ ss, s.name.size ≤ maxLen ∧ (Lit.int .i64 s.kind).wf = true ∧ (Lit.int .i64 s.pos).wf = true
  nilOf : a = none → len = 0 ∧ cap = 0
  cells : len = 0 ∨ ∃ b off, a = some ⟨b, off, none⟩ ∧ ∀ i, i < len → w.cell? ⟨b, off + i * 3, none⟩ = some (.string (ss.getD i noSym).name) ∧ w.cell? ⟨b, off + i * 3 + 1, none⟩ = some (.int .i64 (ss.getD i noSym).kind) ∧ w.cell? ⟨b, off + i * 3 + 2, none⟩ = some (.int .i64 (ss.getD i noSym).pos)
structure RelsV (w : World) (a : Option Addr) (len cap : Nat) (rs : List Rel) : Prop where
  count : rs.length = len
  fits : ∀ r ∈ rs, r.name.size ≤ maxLen ∧ (Lit.int .i64 r.kind).wf = true ∧ (Lit.int .i64 r.pos).wf = true ∧ (Lit.int .i64 r.add).wf = true
  nilOf : a = none → len = 0 ∧ cap = 0
  cells : len = 0 ∨ ∃ b off, a = some ⟨b, off, none⟩ ∧ ∀ i, i < len → w.cell? ⟨b, off + i * 4, none⟩ = some (.int .i64 (rs.getD i noRel).pos) ∧ w.cell? ⟨b, off + i * 4 + 1, none⟩ = some (.int .i64 (rs.getD i noRel).kind) ∧ w.cell? ⟨b, off + i * 4 + 2, none⟩ = some (.string (rs.getD i noRel).name) ∧ w.cell? ⟨b, off + i * 4 + 3, none⟩ = some (.int .i64 (rs.getD i noRel).add)

theorem IntsV.below {w w1 : World} {a : Option Addr} {len cap : Nat} {zs : List Int} (h : IntsV w a len cap zs) (hb : Below w.heap.size w w1) : IntsV w1 a len cap zs := by
  refine ⟨h.count, h.fits, h.nilOf, ?_⟩
  rcases h.cells with h0 | ⟨b, off, ha, hc⟩
  · exact .inl h0
  · exact .inr ⟨b, off, ha, fun i hi => (hb.cell (p := ⟨b, off + i, none⟩) (World.block_lt_of_cell? w ⟨b, off + i, none⟩ (hc i hi))).trans (hc i hi)⟩
theorem SymsV.below {w w1 : World} {a : Option Addr} {len cap : Nat} {ss : List Sym} (h : SymsV w a len cap ss) (hb : Below w.heap.size w w1) : SymsV w1 a len cap ss := by
  refine ⟨h.count, h.fits, h.nilOf, ?_⟩
  rcases h.cells with h0 | ⟨b, off, ha, hc⟩
  · exact .inl h0
  · refine .inr ⟨b, off, ha, fun i hi => ?_⟩
    obtain ⟨k0, k1, k2⟩ := hc i hi
    have hbl : b < w.heap.size := World.block_lt_of_cell? w ⟨b, off + i * 3, none⟩ k0
    exact ⟨(hb.cell (p := ⟨b, off + i * 3, none⟩) hbl).trans k0, (hb.cell (p := ⟨b, off + i * 3 + 1, none⟩) hbl).trans k1, (hb.cell (p := ⟨b, off + i * 3 + 2, none⟩) hbl).trans k2⟩
theorem RelsV.below {w w1 : World} {a : Option Addr} {len cap : Nat} {rs : List Rel} (h : RelsV w a len cap rs) (hb : Below w.heap.size w w1) : RelsV w1 a len cap rs := by
  refine ⟨h.count, h.fits, h.nilOf, ?_⟩
  rcases h.cells with h0 | ⟨b, off, ha, hc⟩
  · exact .inl h0
  · refine .inr ⟨b, off, ha, fun i hi => ?_⟩
    obtain ⟨k0, k1, k2, k3⟩ := hc i hi
    have hbl : b < w.heap.size := World.block_lt_of_cell? w ⟨b, off + i * 4, none⟩ k0
    exact ⟨(hb.cell (p := ⟨b, off + i * 4, none⟩) hbl).trans k0, (hb.cell (p := ⟨b, off + i * 4 + 1, none⟩) hbl).trans k1, (hb.cell (p := ⟨b, off + i * 4 + 2, none⟩) hbl).trans k2, (hb.cell (p := ⟨b, off + i * 4 + 3, none⟩) hbl).trans k3⟩
/-- An object as it is handed over. -/
structure ObjV (w : World) (v : Value) (o : ObjD) : Prop where
  form : ∃ a1 l1 c1 a2 l2 c2 a3 l3 c3, v = .agg #[.string o.code, .slice a1 l1 c1, .slice a2 l2 c2, .slice a3 l3 c3] ∧ o.code.size ≤ maxLen ∧ IntsV w a1 l1 c1 o.data ∧ SymsV w a2 l2 c2 o.syms ∧ RelsV w a3 l3 c3 o.rels
theorem ObjV.below {w w1 : World} {v : Value} {o : ObjD} (h : ObjV w v o) (hb : Below w.heap.size w w1) : ObjV w1 v o := by
  obtain ⟨a1, l1, c1, a2, l2, c2, a3, l3, c3, e, hs, h1, h2, h3⟩ := h.form
  exact ⟨⟨a1, l1, c1, a2, l2, c2, a3, l3, c3, e, hs, h1.below hb, h2.below hb, h3.below hb⟩⟩

theorem cell_last {w : World} {A : Array Value} {t g j : Nat} (hg : g = w.heap.size) {v : Value} (hv : A[j]? = some v) : (w.alloc (.cells A t)).cell? ⟨g, j, none⟩ = some v := by
  subst hg
  simp [hv]
theorem cell_thru {w w' : World} {p : Addr} {v : Value} (hb : Below w.heap.size w w') (h : w.cell? p = some v) : w'.cell? p = some v := (hb.cell (p := p) (World.block_lt_of_cell? w p h)).trans h
theorem bl_one (w : World) (x : Obj) : Below w.heap.size w (w.alloc x) := (Below.refl _ _).alloc (Nat.le_refl _) _

/-- A set of names, as a map reads. -/
def nset (l : List ByteArray) : DataW Unit := setOf (.agg []) (l.map fun s => Lit.string s.data.toList)
theorem nset_snoc (l : List ByteArray) (x : ByteArray) : nset (l ++ [x]) = (nset l).put (.string x.data.toList) (.agg []) := by
  unfold nset
  rw [List.map_append, List.map_cons, List.map_nil, setOf_snoc]
theorem bytes_ext {a b : ByteArray} (h : a.data.toList = b.data.toList) : a = b := by
  cases a; cases b; simp at h; rw [h]
theorem has_nset (l : List ByteArray) (x : ByteArray) : Maps.has (nset l) (.string x.data.toList) = l.any (fun y => decide (y = x)) := by
  unfold nset
  rw [has_setOf _ _ _ (fun y hy => by obtain ⟨_, _, rfl⟩ := List.mem_map.1 hy; trivial), List.any_map]
  congr 1
  funext y
  show (y.data.toList == x.data.toList) = decide (y = x)
  by_cases e : y = x
  · subst e; simp
  · have : ¬ y.data.toList = x.data.toList := fun h => e (bytes_ext h)
    simp only [e, decide_false]
    exact beq_eq_false_iff_ne.2 this

end Go.Proofs.YtffokdldgdjkhaaDoor

/- What nameMayBe, room and addMayBe come to. -/
namespace Go.Proofs.YtffokdldgdjkhaaDoor
set_option maxRecDepth 100000
open Go.RowKit Go.Maps
set_option linter.unusedVariables false

theorem name_any (s : ByteArray) (w : World) : Calls Tryd.prog 62 #[.string s] w fun e w' => e = .returned (.bool (nameOk s)) ∧ w' = w := by
  rcases (show ¬ 1 ≤ s.size ∨ (1 ≤ s.size ∧ s.size ≤ 28) ∨ (1 ≤ s.size ∧ ¬ s.size ≤ 28) by omega) with h | ⟨h, h'⟩ | ⟨h, h'⟩
  all_goals
    have HN : Hid (nameOk s = (decide (1 ≤ s.size) && decide (s.size ≤ 28))) := rfl
    go_enter Tryd.func62, Tryd.ntmps62
    go_wp2
    go_ret
    refine ⟨?_, rfl⟩
    rw [HN.out]
    simp [h] <;> omega

theorem room_any (code : ByteArray) {a1 a2 a3 : Option Addr} {l1 c1 l2 c2 l3 c3 : Nat} (k : Int) (w : World) : Calls Tryd.prog 63 #[.agg #[.string code, .slice a1 l1 c1, .slice a2 l2 c2, .slice a3 l3 c3], .int .i64 k] w fun e w' => e = .returned (.int .i64 (roomOf code.size l1 k)) ∧ Below w.heap.size w w' := by
  have hb : Below w.heap.size w (w.alloc (.cells #[.string code, .slice a1 l1 c1, .slice a2 l2 c2, .slice a3 l3 c3] 67)) := bl_one _ _
  rcases (show k = 1 ∨ k = 3 ∨ k = 2 ∨ (¬ k = 1 ∧ ¬ k = 3 ∧ ¬ k = 2) by omega) with rfl | rfl | rfl | ⟨h1, h2, h3⟩
  all_goals
    go_enter Tryd.func63, Tryd.ntmps63
    go_wp2
    go_ret
    refine ⟨?_, hb⟩
    simp [roomOf, *]

theorem add_any (k n : Int) (w : World) : Calls Tryd.prog 64 #[.int .i64 k, .int .i64 n] w fun e w' => e = .returned (.bool (addOk k n)) ∧ w' = w := by
  rcases (show k = 1 ∨ (k = 2 ∧ -2147483648 ≤ n) ∨ (k = 2 ∧ ¬ -2147483648 ≤ n) ∨ (¬ k = 1 ∧ ¬ k = 2) by omega) with rfl | ⟨rfl, h⟩ | ⟨rfl, h⟩ | ⟨h1, h2⟩
  all_goals
    go_enter Tryd.func64, Tryd.ntmps64
    go_wp2
    go_ret
    refine ⟨?_, rfl⟩
    first | (simp [addOk, *]; done) | (simp [addOk, *]; omega) | (simp [addOk]; rfl)

end Go.Proofs.YtffokdldgdjkhaaDoor

/- What objf.Check comes to. (Written by gen_check.py.) -/
namespace Go.Proofs.YtffokdldgdjkhaaDoor
set_option maxRecDepth 100000
open Go.RowKit Go.Maps
set_option linter.unusedVariables false

theorem get0 {α : Type} (x : α) (l : List α) : (List.toArray (x :: l))[0]? = some x := rfl
theorem get1 {α : Type} {x y : α} {l : List α} {i : Nat} (h : (List.toArray l)[i]? = some y) : (List.toArray (x :: l))[i + 1]? = some y := by simpa using h
theorem lawS : Keyed Tryd.prog 9 := string_keyed Tryd.underlying9
theorem zeroU (w : World) : (zeroValue 105).run Tryd.prog w = .ok (.agg #[]) w := by kernel_rfl
theorem take_snocS (ss : List Sym) (k : Nat) (h : k < ss.length) : (ss.map Sym.name).take (k + 1) = (ss.map Sym.name).take k ++ [(ss.getD k noSym).name] := by
  rw [List.take_succ_eq_append_getElem (by simpa using h)]; congr 1; simp [List.getD, h]
theorem names_dup {ss : List Sym} {k : Nat} (hk : k < ss.length) {x : ByteArray} (h : ((ss.map Sym.name).take k).any (fun y => decide (y = x)) = true) (hx : (ss.getD k noSym).name = x) (cl dl : Nat) : symAt cl dl ss k = false := by
  rw [← List.map_take] at h
  simp only [List.any_eq_true, List.mem_map, decide_eq_true_eq] at h
  obtain ⟨y, ⟨s, hs, rfl⟩, e⟩ := h
  obtain ⟨i, hi, rfl⟩ := List.getElem_of_mem hs
  rw [List.length_take] at hi
  unfold symAt
  rw [all_range_no (i := i) (by omega) (by
    rw [List.getElem_take] at e
    have : (ss.getD i noSym).name = x := by simp [List.getD, show i < ss.length by omega, e]
    exact decide_eq_false (fun hne => hne (this.trans hx.symm))), Bool.false_and]
theorem names_new {ss : List Sym} {k : Nat} (hk : k < ss.length) {x : ByteArray} (h : ((ss.map Sym.name).take k).any (fun y => decide (y = x)) = false) (hx : (ss.getD k noSym).name = x) (cl dl : Nat) : symAt cl dl ss k = symOk cl dl (ss.getD k noSym) := by
  unfold symAt
  rw [all_range_yes (fun i hi => ?_), Bool.true_and]
  rw [← List.map_take, ← Bool.not_eq_true, List.any_eq_true] at h
  simp only [decide_eq_true_eq]
  intro e
  apply h
  refine ⟨(ss.getD i noSym).name, List.mem_map.2 ⟨ss.getD i noSym, ?_, rfl⟩, decide_eq_true (e.trans hx)⟩
  rw [show ss.getD i noSym = (ss.take k)[i]'(by rw [List.length_take]; omega) by simp [List.getD, show i < ss.length by omega]]
  exact List.getElem_mem _
theorem syms_no {cl dl : Nat} {ss : List Sym} {k : Nat} (hk : k < ss.length) (h : symAt cl dl ss k = false) : symsOk cl dl ss = false := by
  unfold symsOk
  rw [all_range_no hk h, Bool.and_false]

set_option maxRecDepth 100000 in
set_option maxHeartbeats 8000000 in
theorem syms_any {w : World} (code : ByteArray) {a1 a2 a3 : Option Addr} {l1 c1 l2 c2 l3 c3 : Nat} {ss : List Sym} (h : SymsV w a2 l2 c2 ss) :
    Calls Tryd.prog 42 #[.agg #[.string code, .slice a1 l1 c1, .slice a2 l2 c2, .slice a3 l3 c3]] w fun e w' => e = .returned (.bool (symsOk code.size l1 ss)) ∧ Below w.heap.size w w' := by
  have hmm := @run_makeMap Tryd.prog
  have HV : Hid _ := h
  have hcnt := h.count
  clear h
  by_cases hbig : (1000 : Int) < l2
  · have HNO : Hid (symsOk code.size l1 ss = false) := by show _ = _; unfold symsOk; rw [show decide (ss.length ≤ 1000) = false by simp; omega, Bool.false_and]
    have hb : Below w.heap.size w (w.alloc (.cells #[.string code, .slice a1 l1 c1, .slice a2 l2 c2, .slice a3 l3 c3] 67)) := bl_one _ _
    go_enter Tryd.func42, Tryd.ntmps42
    go_wp2
    go_ret
    exact ⟨by rw [HNO.out]; rfl, hb⟩
  obtain ⟨W1, hW1⟩ : ∃ W1, w.alloc (.cells #[.string code, .slice a1 l1 c1, .slice a2 l2 c2, .slice a3 l3 c3] 67) = W1 := ⟨_, rfl⟩
  have s1 : W1.heap.size = w.heap.size + 1 := by subst hW1; simp
  have b1 : Below w.heap.size w W1 := by subst hW1; exact bl_one _ _
  have v0 : W1.cell? ⟨w.heap.size, 0, none⟩ = some (.string code) := by subst hW1; exact cell_last rfl rfl
  have v1 : W1.cell? ⟨w.heap.size, 1, none⟩ = some (.slice a1 l1 c1) := by subst hW1; exact cell_last rfl rfl
  have v2 : W1.cell? ⟨w.heap.size, 2, none⟩ = some (.slice a2 l2 c2) := by subst hW1; exact cell_last rfl rfl
  have v3 : W1.cell? ⟨w.heap.size, 3, none⟩ = some (.slice a3 l3 c3) := by subst hW1; exact cell_last rfl rfl
  obtain ⟨W2, hW2⟩ : ∃ W2, W1.alloc (.map #[] 0) = W2 := ⟨_, rfl⟩
  have zW2 : w.heap.size + 2 ≤ W2.heap.size := by subst hW2; simp; omega
  have b2 : Below W1.heap.size W1 W2 := by subst hW2; exact bl_one _ _
  have v0 := cell_thru b2 v0
  have v1 := cell_thru b2 v1
  have v2 := cell_thru b2 v2
  have v3 := cell_thru b2 v3
  have HOW : Hid (W2.ownsMap Tryd.prog 9 (unitElem (H := Unit)) (w.heap.size + 1) 0 (nset [])) := by
    show World.ownsMap _ _ _ _ _ _ _
    rw [← s1, ← hW2]
    exact World.ownsMap_made _ _ _ _
  go_enter Tryd.func42, Tryd.ntmps42
  go_wp2_with fail
  go_loopg [16] l2 (fun r iv wq => ∃ (k : Nat), iv = .int .i64 k ∧ k ≤ l2 ∧ l2 - k ≤ r ∧ Hid (wq.ownsMap Tryd.prog 9 unitElem (w.heap.size + 1) k (nset ((ss.map Sym.name).take k))) ∧ Hid (∀ i, i < k → symAt code.size l1 ss i = true) ∧ Hid (Below (w.heap.size + 1) W2 wq))
  case atStart => exact ⟨0, rfl, Nat.zero_le _, by omega, HOW.out, (fun i hi => by omega : ∀ i, i < 0 → symAt code.size l1 ss i = true), Below.refl _ _⟩
  case round =>
    obtain ⟨k, rfl, hk, hr, HMP, HAL, HBL⟩ := hrel
    have hbw : Below w.heap.size w wr := (b1.trans (b2.mono (by omega))).trans (HBL.out.mono (Nat.le_succ _))
    have zw2 : w.heap.size + 2 ≤ wr.heap.size := by have := HBL.out.size; subst hW2; simp at this; omega
    have u0 := (HBL.out.cell (p := ⟨w.heap.size, 0, none⟩) (Nat.lt_succ_self _)).trans v0
    have u1 := (HBL.out.cell (p := ⟨w.heap.size, 1, none⟩) (Nat.lt_succ_self _)).trans v1
    have u2 := (HBL.out.cell (p := ⟨w.heap.size, 2, none⟩) (Nat.lt_succ_self _)).trans v2
    have u3 := (HBL.out.cell (p := ⟨w.heap.size, 3, none⟩) (Nat.lt_succ_self _)).trans v3
    by_cases hlt : k < l2
    · rcases HV.out.cells with h0 | ⟨b, off, hA, hc⟩
      · omega
      obtain ⟨k0, k1, k2⟩ := hc k hlt
      have hbl : b < w.heap.size := World.block_lt_of_cell? w ⟨b, off + k * 3, none⟩ k0
      have q0 := (hbw.cell (p := ⟨b, off + k * 3, none⟩) hbl).trans k0
      have q1 := (hbw.cell (p := ⟨b, off + k * 3 + 1, none⟩) hbl).trans k1
      have q2 := (hbw.cell (p := ⟨b, off + k * 3 + 2, none⟩) hbl).trans k2
      have HTK : Hid _ := take_snocS ss k (by omega)
      have hfit := HV.out.fits (ss.getD k noSym) (by simp [List.getD, show k < ss.length by omega])
      have HDUP : Hid (∀ {x : ByteArray}, ((ss.map Sym.name).take k).any (fun y => decide (y = x)) = true → (ss.getD k noSym).name = x → symsOk code.size l1 ss = false) := fun hx he => syms_no (by omega) (names_dup (by omega) hx he _ _)
      have HNEW : Hid (∀ {x : ByteArray}, ((ss.map Sym.name).take k).any (fun y => decide (y = x)) = false → (ss.getD k noSym).name = x → symAt code.size l1 ss k = symOk code.size l1 (ss.getD k noSym)) := fun hx he => names_new (by omega) hx he _ _
      have HSO : Hid (symOk code.size l1 (ss.getD k noSym) = (nameOk (ss.getD k noSym).name && (decide (0 ≤ (ss.getD k noSym).pos) && decide ((ss.getD k noSym).pos < roomOf code.size l1 (ss.getD k noSym).kind)))) := rfl
      obtain ⟨nm, hnm⟩ : ∃ nm, (ss.getD k noSym).name = nm := ⟨_, rfl⟩
      obtain ⟨kd, hkd⟩ : ∃ kd, (ss.getD k noSym).kind = kd := ⟨_, rfl⟩
      obtain ⟨ps, hps⟩ : ∃ ps, (ss.getD k noSym).pos = ps := ⟨_, rfl⟩
      have HNMX : Hid _ := hnm
      rw [hnm] at q0 HTK hfit HSO
      rw [hkd] at q1 HSO
      rw [hps] at q2 HSO
      have hkey : keyOf Tryd.prog 9 (.string nm) = some (.string nm.data.toList) := Go.WideMaps.keyOf_string_mk Tryd.underlying9 hfit.1
      have hH := has_nset ((ss.map Sym.name).take k) nm
      subst hA
      have hii : (k : Int) < l2 := by omega
      have hin : 0 ≤ (k : Int) := by omega
      clear hc k0 k1 k2 hnm hkd hps hfit
      obtain ⟨Y1, hY1⟩ : ∃ Y1, wr.alloc (.cells #[.string nm, .int .i64 kd, .int .i64 ps] 80) = Y1 := ⟨_, rfl⟩
      have bY : Below wr.heap.size wr Y1 := by subst hY1; exact bl_one _ _
      have sY1 : Y1.heap.size = wr.heap.size + 1 := by subst hY1; simp
      have g0 : Y1.cell? ⟨wr.heap.size, 0, none⟩ = some (.string nm) := by subst hY1; exact cell_last rfl rfl
      have g1 : Y1.cell? ⟨wr.heap.size, 1, none⟩ = some (.int .i64 kd) := by subst hY1; exact cell_last rfl rfl
      have g2 : Y1.cell? ⟨wr.heap.size, 2, none⟩ = some (.int .i64 ps) := by subst hY1; exact cell_last rfl rfl
      have HMY : Hid (Y1.ownsMap Tryd.prog 9 (unitElem (H := Unit)) (w.heap.size + 1) k (nset ((ss.map Sym.name).take k))) := by subst hY1; exact HMP.out.alloc _
      cases hdup : ((ss.map Sym.name).take k).any (fun y => decide (y = nm)) with
      | true =>
        rw [hdup] at hH
        have HNO : Hid (symsOk code.size l1 ss = false) := HDUP.out hdup HNMX.out
        clear hdup
        go_wp2_with (first | (at_lookup; refine wpList_lookup_own_unit _ rfl _ _ 125 rfl 9 105 lawS Tryd.underlying125 (zeroU _) (w.heap.size + 1) k _ rfl HMY.out _ _ rfl hkey ?_) | go_in)
        go_ret
        exact ⟨by rw [HNO.out]; rfl, (hbw.trans (bY.mono hbw.size)).alloc (by have := hbw.size; omega) _⟩
      | false =>
        rw [hdup] at hH
        have HSA : Hid (symAt code.size l1 ss k = symOk code.size l1 (ss.getD k noSym)) := HNEW.out hdup HNMX.out
        clear hdup
        go_wp2_with (first | (at_lookup; refine wpList_lookup_own_unit _ rfl _ _ 125 rfl 9 105 lawS Tryd.underlying125 (zeroU _) (w.heap.size + 1) k _ rfl HMY.out _ _ rfl hkey ?_) | go_in)
        obtain ⟨Y2, hY2⟩ : ∃ Y2, Y1.alloc (.cells #[] 105) = Y2 := ⟨_, rfl⟩
        have bY2 : Below Y1.heap.size Y1 Y2 := by subst hY2; exact bl_one _ _
        have bY12 : Below wr.heap.size wr Y2 := bY.trans (bY2.mono (by omega))
        have HS : Hid (Y2.drew.cell? ⟨wr.heap.size, 0, none⟩ = some (.string nm) ∧ Y2.drew.cell? ⟨wr.heap.size, 1, none⟩ = some (.int .i64 kd) ∧ Y2.drew.cell? ⟨wr.heap.size, 2, none⟩ = some (.int .i64 ps) ∧ Y2.drew.cell? ⟨w.heap.size, 0, none⟩ = some (.string code) ∧ Y2.drew.cell? ⟨w.heap.size, 1, none⟩ = some (.slice a1 l1 c1) ∧ Y2.drew.cell? ⟨w.heap.size, 2, none⟩ = some (.slice (some ⟨b, off, none⟩) l2 c2) ∧ Y2.drew.cell? ⟨w.heap.size, 3, none⟩ = some (.slice a3 l3 c3)) := ⟨cell_thru bY2.drew g0, cell_thru bY2.drew g1, cell_thru bY2.drew g2, cell_thru bY12.drew u0, cell_thru bY12.drew u1, cell_thru bY12.drew u2, cell_thru bY12.drew u3⟩
        have HMX : Hid (Y2.drew.ownsMap Tryd.prog 9 (unitElem (H := Unit)) (w.heap.size + 1) k (nset ((ss.map Sym.name).take k))) := by subst hY2; exact (HMY.out.alloc _).drew
        have HBX : Hid (Below (w.heap.size + 1) W2 Y2) := HBL.out.trans (bY12.mono (by omega))
        have hbY : Below w.heap.size w Y2 := hbw.trans (bY12.mono hbw.size)
        rw [hY2]
        clear g0 g1 g2 u0 u1 u2 u3 q0 q1 q2
        cases hnk : nameOk nm with
        | false =>
          have HNM : Hid _ := hnk
          have HNO : Hid (symsOk code.size l1 ss = false) := syms_no (k := k) (by omega) (by rw [HSA.out, HSO.out, hnk, Bool.false_and])
          clear hnk
          refine wp_region_held_drew (S := (fun w' : World => (w'.cell? ⟨wr.heap.size, 0, none⟩ = some (.string nm) ∧ w'.cell? ⟨wr.heap.size, 1, none⟩ = some (.int .i64 kd) ∧ w'.cell? ⟨wr.heap.size, 2, none⟩ = some (.int .i64 ps) ∧ w'.cell? ⟨w.heap.size, 0, none⟩ = some (.string code) ∧ w'.cell? ⟨w.heap.size, 1, none⟩ = some (.slice a1 l1 c1) ∧ w'.cell? ⟨w.heap.size, 2, none⟩ = some (.slice (some ⟨b, off, none⟩) l2 c2) ∧ w'.cell? ⟨w.heap.size, 3, none⟩ = some (.slice a3 l3 c3)))) (by kernel_rfl) HS.out (fun hHeld => ?_)
          refine wpAnyH_take (i := 0) (v := ?_) (get0 _ _) (by kernel_rfl) (by kernel_rfl) (by kernel_rfl) (fun _ _ _ h => h) (Or.inl ⟨by rfl, ?_⟩) (by assumption) ?_
          rotate_left
          · (intro w hSw; (try dsimp only at hSw); go_simp <;> with_reducible rfl)
          simp only [Act.put, List.setIfInBounds_toArray, List.set_cons_zero, List.set_cons_succ]
          refine wpAnyH_take (i := 1) (v := ?_) (get1 (get0 _ _)) (by kernel_rfl) (by kernel_rfl) (by kernel_rfl) (fun _ _ _ h => h) (Or.inl ⟨by rfl, ?_⟩) (by assumption) ?_
          rotate_left
          · (intro w hSw; (try dsimp only at hSw); go_simp <;> with_reducible rfl)
          simp only [Act.put, List.setIfInBounds_toArray, List.set_cons_zero, List.set_cons_succ]
          refine wpAnyH_ready (rs := [2]) (by kernel_rfl) (by simp) ?_
          refine AllReadyH.cons (get1 (get1 (get0 _ _))) (fun K hK => ?_) AllReadyH.nil
          go_simp
          refine (name_any nm _).mono ?_
          rintro e y1 ⟨rfl, rfl⟩
          rw [HNM.out]
          have sy := hHeld
          clear hHeld
          try go_wp2_with fail
          refine hK.out _ _ sy (fun hHeld => ?_)
          clear hK K
          try simp only [Act.put, List.setIfInBounds_toArray, List.set_cons_zero, List.set_cons_succ]
          refine wpAnyH_take (i := 3) (v := ?_) (get1 (get1 (get1 (get0 _ _)))) (by kernel_rfl) (by kernel_rfl) (by kernel_rfl) (fun _ _ _ h => h) (Or.inl ⟨by rfl, ?_⟩) (by assumption) ?_
          rotate_left
          · (intro w hSw; (try dsimp only at hSw); go_simp <;> with_reducible rfl)
          simp only [Act.put, List.setIfInBounds_toArray, List.set_cons_zero, List.set_cons_succ]
          refine wpAnyH_take (i := 4) (v := ?_) (get1 (get1 (get1 (get1 (get0 _ _))))) (by kernel_rfl) (by kernel_rfl) (by kernel_rfl) (fun _ _ _ h => h) (Or.inl ⟨by rfl, ?_⟩) (by assumption) ?_
          rotate_left
          · (intro w hSw; (try dsimp only at hSw); go_simp <;> with_reducible rfl)
          simp only [Act.put, List.setIfInBounds_toArray, List.set_cons_zero, List.set_cons_succ]
          refine wpAnyH_take (i := 5) (v := undef) (get1 (get1 (get1 (get1 (get1 (get0 _ _)))))) (by kernel_rfl) (by kernel_rfl) (by kernel_rfl) (fun _ _ _ h => h) (Or.inr ⟨by rfl, rfl⟩) (by assumption) ?_
          simp only [Act.put, List.setIfInBounds_toArray, List.set_cons_zero, List.set_cons_succ]
          refine wpAnyH_take (i := 6) (v := undef) (get1 (get1 (get1 (get1 (get1 (get1 (get0 _ _))))))) (by kernel_rfl) (by kernel_rfl) (by kernel_rfl) (fun _ _ _ h => h) (Or.inr ⟨by rfl, rfl⟩) (by assumption) ?_
          simp only [Act.put, List.setIfInBounds_toArray, List.set_cons_zero, List.set_cons_succ]
          refine wpAnyH_take (i := 7) (v := undef) (get1 (get1 (get1 (get1 (get1 (get1 (get1 (get0 _ _)))))))) (by kernel_rfl) (by kernel_rfl) (by kernel_rfl) (fun _ _ _ h => h) (Or.inr ⟨by rfl, rfl⟩) (by assumption) ?_
          simp only [Act.put, List.setIfInBounds_toArray, List.set_cons_zero, List.set_cons_succ]
          refine wpAnyH_take (i := 8) (v := ?_) (get1 (get1 (get1 (get1 (get1 (get1 (get1 (get1 (get0 _ _))))))))) (by kernel_rfl) (by kernel_rfl) (by kernel_rfl) (fun _ _ _ h => h) (Or.inl ⟨by rfl, ?_⟩) (by assumption) ?_
          rotate_left
          · (intro w hSw; (try dsimp only at hSw); go_simp <;> with_reducible rfl)
          simp only [Act.put, List.setIfInBounds_toArray, List.set_cons_zero, List.set_cons_succ]
          refine wpAnyH_take (i := 9) (v := ?_) (get1 (get1 (get1 (get1 (get1 (get1 (get1 (get1 (get1 (get0 _ _)))))))))) (by kernel_rfl) (by kernel_rfl) (by kernel_rfl) (fun _ _ _ h => h) (Or.inl ⟨by rfl, ?_⟩) (by assumption) ?_
          rotate_left
          · (intro w hSw; (try dsimp only at hSw); go_simp <;> with_reducible rfl)
          simp only [Act.put, List.setIfInBounds_toArray, List.set_cons_zero, List.set_cons_succ]
          refine wpAnyH_take (i := 10) (v := undef) (get1 (get1 (get1 (get1 (get1 (get1 (get1 (get1 (get1 (get1 (get0 _ _))))))))))) (by kernel_rfl) (by kernel_rfl) (by kernel_rfl) (fun _ _ _ h => h) (Or.inr ⟨by rfl, rfl⟩) (by assumption) ?_
          simp only [Act.put, List.setIfInBounds_toArray, List.set_cons_zero, List.set_cons_succ]
          refine wpAnyH_take (i := 11) (v := undef) (get1 (get1 (get1 (get1 (get1 (get1 (get1 (get1 (get1 (get1 (get1 (get0 _ _)))))))))))) (by kernel_rfl) (by kernel_rfl) (by kernel_rfl) (fun _ _ _ h => h) (Or.inr ⟨by rfl, rfl⟩) (by assumption) ?_
          simp only [Act.put, List.setIfInBounds_toArray, List.set_cons_zero, List.set_cons_succ]
          refine wpAnyH_take (i := 12) (v := undef) (get1 (get1 (get1 (get1 (get1 (get1 (get1 (get1 (get1 (get1 (get1 (get1 (get0 _ _))))))))))))) (by kernel_rfl) (by kernel_rfl) (by kernel_rfl) (fun _ _ _ h => h) (Or.inr ⟨by rfl, rfl⟩) (by assumption) ?_
          simp only [Act.put, List.setIfInBounds_toArray, List.set_cons_zero, List.set_cons_succ]
          refine wpAnyH_take (i := 13) (v := undef) (get1 (get1 (get1 (get1 (get1 (get1 (get1 (get1 (get1 (get1 (get1 (get1 (get1 (get0 _ _)))))))))))))) (by kernel_rfl) (by kernel_rfl) (by kernel_rfl) (fun _ _ _ h => h) (Or.inr ⟨by rfl, rfl⟩) (by assumption) ?_
          simp only [Act.put, List.setIfInBounds_toArray, List.set_cons_zero, List.set_cons_succ]
          refine wpAnyH_take (i := 14) (v := undef) (get1 (get1 (get1 (get1 (get1 (get1 (get1 (get1 (get1 (get1 (get1 (get1 (get1 (get1 (get0 _ _))))))))))))))) (by kernel_rfl) (by kernel_rfl) (by kernel_rfl) (fun _ _ _ h => h) (Or.inr ⟨by rfl, rfl⟩) (by assumption) ?_
          simp only [Act.put, List.setIfInBounds_toArray, List.set_cons_zero, List.set_cons_succ]
          refine wpAnyH_take (i := 15) (v := undef) (get1 (get1 (get1 (get1 (get1 (get1 (get1 (get1 (get1 (get1 (get1 (get1 (get1 (get1 (get1 (get0 _ _)))))))))))))))) (by kernel_rfl) (by kernel_rfl) (by kernel_rfl) (fun _ _ _ h => h) (Or.inr ⟨by rfl, rfl⟩) (by assumption) ?_
          simp only [Act.put, List.setIfInBounds_toArray, List.set_cons_zero, List.set_cons_succ]
          refine wpAnyH_take (i := 16) (v := undef) (get1 (get1 (get1 (get1 (get1 (get1 (get1 (get1 (get1 (get1 (get1 (get1 (get1 (get1 (get1 (get1 (get0 _ _))))))))))))))))) (by kernel_rfl) (by kernel_rfl) (by kernel_rfl) (fun _ _ _ h => h) (Or.inr ⟨by rfl, rfl⟩) (by assumption) ?_
          simp only [Act.put, List.setIfInBounds_toArray, List.set_cons_zero, List.set_cons_succ]
          refine wpAnyH_take (i := 17) (v := ?_) (get1 (get1 (get1 (get1 (get1 (get1 (get1 (get1 (get1 (get1 (get1 (get1 (get1 (get1 (get1 (get1 (get1 (get0 _ _)))))))))))))))))) (by kernel_rfl) (by kernel_rfl) (by kernel_rfl) (fun _ _ _ h => h) (Or.inl ⟨by rfl, ?_⟩) (by assumption) ?_
          rotate_left
          · (intro w hSw; (try dsimp only at hSw); go_simp <;> with_reducible rfl)
          simp only [Act.put, List.setIfInBounds_toArray, List.set_cons_zero, List.set_cons_succ]
          refine wpAnyH_done (by kernel_rfl) ?_ _
          clear hHeld sy
          go_wp2_with fail
          go_ret
          exact ⟨by rw [HNO.out]; rfl, hbY.drew⟩
        | true =>
          have HNM : Hid _ := hnk
          by_cases hneg : ps < 0
          · have HNO : Hid (symsOk code.size l1 ss = false) := syms_no (k := k) (by omega) (by rw [HSA.out, HSO.out, hnk, show decide (0 ≤ ps) = false by simp; omega]; rfl)
            clear hnk
            refine wp_region_held_drew (S := (fun w' : World => (w'.cell? ⟨wr.heap.size, 0, none⟩ = some (.string nm) ∧ w'.cell? ⟨wr.heap.size, 1, none⟩ = some (.int .i64 kd) ∧ w'.cell? ⟨wr.heap.size, 2, none⟩ = some (.int .i64 ps) ∧ w'.cell? ⟨w.heap.size, 0, none⟩ = some (.string code) ∧ w'.cell? ⟨w.heap.size, 1, none⟩ = some (.slice a1 l1 c1) ∧ w'.cell? ⟨w.heap.size, 2, none⟩ = some (.slice (some ⟨b, off, none⟩) l2 c2) ∧ w'.cell? ⟨w.heap.size, 3, none⟩ = some (.slice a3 l3 c3)))) (by kernel_rfl) HS.out (fun hHeld => ?_)
            refine wpAnyH_take (i := 0) (v := ?_) (get0 _ _) (by kernel_rfl) (by kernel_rfl) (by kernel_rfl) (fun _ _ _ h => h) (Or.inl ⟨by rfl, ?_⟩) (by assumption) ?_
            rotate_left
            · (intro w hSw; (try dsimp only at hSw); go_simp <;> with_reducible rfl)
            simp only [Act.put, List.setIfInBounds_toArray, List.set_cons_zero, List.set_cons_succ]
            refine wpAnyH_take (i := 1) (v := ?_) (get1 (get0 _ _)) (by kernel_rfl) (by kernel_rfl) (by kernel_rfl) (fun _ _ _ h => h) (Or.inl ⟨by rfl, ?_⟩) (by assumption) ?_
            rotate_left
            · (intro w hSw; (try dsimp only at hSw); go_simp <;> with_reducible rfl)
            simp only [Act.put, List.setIfInBounds_toArray, List.set_cons_zero, List.set_cons_succ]
            refine wpAnyH_ready (rs := [2]) (by kernel_rfl) (by simp) ?_
            refine AllReadyH.cons (get1 (get1 (get0 _ _))) (fun K hK => ?_) AllReadyH.nil
            go_simp
            refine (name_any nm _).mono ?_
            rintro e y1 ⟨rfl, rfl⟩
            rw [HNM.out]
            have sy := hHeld
            clear hHeld
            try go_wp2_with fail
            refine hK.out _ _ sy (fun hHeld => ?_)
            clear hK K
            try simp only [Act.put, List.setIfInBounds_toArray, List.set_cons_zero, List.set_cons_succ]
            refine wpAnyH_take (i := 3) (v := ?_) (get1 (get1 (get1 (get0 _ _)))) (by kernel_rfl) (by kernel_rfl) (by kernel_rfl) (fun _ _ _ h => h) (Or.inl ⟨by rfl, ?_⟩) (by assumption) ?_
            rotate_left
            · (intro w hSw; (try dsimp only at hSw); go_simp <;> with_reducible rfl)
            simp only [Act.put, List.setIfInBounds_toArray, List.set_cons_zero, List.set_cons_succ]
            refine wpAnyH_take (i := 4) (v := ?_) (get1 (get1 (get1 (get1 (get0 _ _))))) (by kernel_rfl) (by kernel_rfl) (by kernel_rfl) (fun _ _ _ h => h) (Or.inl ⟨by rfl, ?_⟩) (by assumption) ?_
            rotate_left
            · (intro w hSw; (try dsimp only at hSw); go_simp <;> with_reducible rfl)
            simp only [Act.put, List.setIfInBounds_toArray, List.set_cons_zero, List.set_cons_succ]
            refine wpAnyH_take (i := 5) (v := ?_) (get1 (get1 (get1 (get1 (get1 (get0 _ _)))))) (by kernel_rfl) (by kernel_rfl) (by kernel_rfl) (fun _ _ _ h => h) (Or.inl ⟨by rfl, ?_⟩) (by assumption) ?_
            rotate_left
            · (intro w hSw; (try dsimp only at hSw); go_simp <;> with_reducible rfl)
            simp only [Act.put, List.setIfInBounds_toArray, List.set_cons_zero, List.set_cons_succ]
            refine wpAnyH_take (i := 6) (v := ?_) (get1 (get1 (get1 (get1 (get1 (get1 (get0 _ _))))))) (by kernel_rfl) (by kernel_rfl) (by kernel_rfl) (fun _ _ _ h => h) (Or.inl ⟨by rfl, ?_⟩) (by assumption) ?_
            rotate_left
            · (intro w hSw; (try dsimp only at hSw); go_simp <;> with_reducible rfl)
            simp only [Act.put, List.setIfInBounds_toArray, List.set_cons_zero, List.set_cons_succ]
            refine wpAnyH_take (i := 7) (v := ?_) (get1 (get1 (get1 (get1 (get1 (get1 (get1 (get0 _ _)))))))) (by kernel_rfl) (by kernel_rfl) (by kernel_rfl) (fun _ _ _ h => h) (Or.inl ⟨by rfl, ?_⟩) (by assumption) ?_
            rotate_left
            · (intro w hSw; (try dsimp only at hSw); go_simp <;> with_reducible rfl)
            simp only [Act.put, List.setIfInBounds_toArray, List.set_cons_zero, List.set_cons_succ]
            refine wpAnyH_take (i := 8) (v := ?_) (get1 (get1 (get1 (get1 (get1 (get1 (get1 (get1 (get0 _ _))))))))) (by kernel_rfl) (by kernel_rfl) (by kernel_rfl) (fun _ _ _ h => h) (Or.inl ⟨by rfl, ?_⟩) (by assumption) ?_
            rotate_left
            · (intro w hSw; (try dsimp only at hSw); go_simp <;> with_reducible rfl)
            simp only [Act.put, List.setIfInBounds_toArray, List.set_cons_zero, List.set_cons_succ]
            refine wpAnyH_take (i := 9) (v := ?_) (get1 (get1 (get1 (get1 (get1 (get1 (get1 (get1 (get1 (get0 _ _)))))))))) (by kernel_rfl) (by kernel_rfl) (by kernel_rfl) (fun _ _ _ h => h) (Or.inl ⟨by rfl, ?_⟩) (by assumption) ?_
            rotate_left
            · (intro w hSw; (try dsimp only at hSw); go_simp <;> with_reducible rfl)
            simp only [Act.put, List.setIfInBounds_toArray, List.set_cons_zero, List.set_cons_succ]
            refine wpAnyH_take (i := 10) (v := undef) (get1 (get1 (get1 (get1 (get1 (get1 (get1 (get1 (get1 (get1 (get0 _ _))))))))))) (by kernel_rfl) (by kernel_rfl) (by kernel_rfl) (fun _ _ _ h => h) (Or.inr ⟨by rfl, rfl⟩) (by assumption) ?_
            simp only [Act.put, List.setIfInBounds_toArray, List.set_cons_zero, List.set_cons_succ]
            refine wpAnyH_take (i := 11) (v := undef) (get1 (get1 (get1 (get1 (get1 (get1 (get1 (get1 (get1 (get1 (get1 (get0 _ _)))))))))))) (by kernel_rfl) (by kernel_rfl) (by kernel_rfl) (fun _ _ _ h => h) (Or.inr ⟨by rfl, rfl⟩) (by assumption) ?_
            simp only [Act.put, List.setIfInBounds_toArray, List.set_cons_zero, List.set_cons_succ]
            refine wpAnyH_take (i := 12) (v := undef) (get1 (get1 (get1 (get1 (get1 (get1 (get1 (get1 (get1 (get1 (get1 (get1 (get0 _ _))))))))))))) (by kernel_rfl) (by kernel_rfl) (by kernel_rfl) (fun _ _ _ h => h) (Or.inr ⟨by rfl, rfl⟩) (by assumption) ?_
            simp only [Act.put, List.setIfInBounds_toArray, List.set_cons_zero, List.set_cons_succ]
            refine wpAnyH_take (i := 13) (v := undef) (get1 (get1 (get1 (get1 (get1 (get1 (get1 (get1 (get1 (get1 (get1 (get1 (get1 (get0 _ _)))))))))))))) (by kernel_rfl) (by kernel_rfl) (by kernel_rfl) (fun _ _ _ h => h) (Or.inr ⟨by rfl, rfl⟩) (by assumption) ?_
            simp only [Act.put, List.setIfInBounds_toArray, List.set_cons_zero, List.set_cons_succ]
            refine wpAnyH_take (i := 14) (v := undef) (get1 (get1 (get1 (get1 (get1 (get1 (get1 (get1 (get1 (get1 (get1 (get1 (get1 (get1 (get0 _ _))))))))))))))) (by kernel_rfl) (by kernel_rfl) (by kernel_rfl) (fun _ _ _ h => h) (Or.inr ⟨by rfl, rfl⟩) (by assumption) ?_
            simp only [Act.put, List.setIfInBounds_toArray, List.set_cons_zero, List.set_cons_succ]
            refine wpAnyH_take (i := 15) (v := undef) (get1 (get1 (get1 (get1 (get1 (get1 (get1 (get1 (get1 (get1 (get1 (get1 (get1 (get1 (get1 (get0 _ _)))))))))))))))) (by kernel_rfl) (by kernel_rfl) (by kernel_rfl) (fun _ _ _ h => h) (Or.inr ⟨by rfl, rfl⟩) (by assumption) ?_
            simp only [Act.put, List.setIfInBounds_toArray, List.set_cons_zero, List.set_cons_succ]
            refine wpAnyH_take (i := 16) (v := undef) (get1 (get1 (get1 (get1 (get1 (get1 (get1 (get1 (get1 (get1 (get1 (get1 (get1 (get1 (get1 (get1 (get0 _ _))))))))))))))))) (by kernel_rfl) (by kernel_rfl) (by kernel_rfl) (fun _ _ _ h => h) (Or.inr ⟨by rfl, rfl⟩) (by assumption) ?_
            simp only [Act.put, List.setIfInBounds_toArray, List.set_cons_zero, List.set_cons_succ]
            refine wpAnyH_take (i := 17) (v := ?_) (get1 (get1 (get1 (get1 (get1 (get1 (get1 (get1 (get1 (get1 (get1 (get1 (get1 (get1 (get1 (get1 (get1 (get0 _ _)))))))))))))))))) (by kernel_rfl) (by kernel_rfl) (by kernel_rfl) (fun _ _ _ h => h) (Or.inl ⟨by rfl, ?_⟩) (by assumption) ?_
            rotate_left
            · (intro w hSw; (try dsimp only at hSw); go_simp <;> with_reducible rfl)
            simp only [Act.put, List.setIfInBounds_toArray, List.set_cons_zero, List.set_cons_succ]
            refine wpAnyH_done (by kernel_rfl) ?_ _
            clear hHeld sy
            go_wp2_with fail
            go_ret
            exact ⟨by rw [HNO.out]; rfl, hbY.drew⟩
          · have hd0 : decide (ps < 0) = false := decide_eq_false hneg
            obtain ⟨rm, hrm⟩ : ∃ rm, roomOf code.size l1 kd = rm := ⟨_, rfl⟩
            have HRM : Hid _ := hrm
            by_cases hge : rm ≤ ps
            · have hd1 : decide (rm ≤ ps) = true := decide_eq_true hge
              have HNO : Hid (symsOk code.size l1 ss = false) := syms_no (k := k) (by omega) (by rw [HSA.out, HSO.out, hnk, hrm, show decide (ps < rm) = false by simp; omega]; simp)
              clear hnk hrm
              refine wp_region_held_drew (S := (fun w' : World => (w'.cell? ⟨wr.heap.size, 0, none⟩ = some (.string nm) ∧ w'.cell? ⟨wr.heap.size, 1, none⟩ = some (.int .i64 kd) ∧ w'.cell? ⟨wr.heap.size, 2, none⟩ = some (.int .i64 ps) ∧ w'.cell? ⟨w.heap.size, 0, none⟩ = some (.string code) ∧ w'.cell? ⟨w.heap.size, 1, none⟩ = some (.slice a1 l1 c1) ∧ w'.cell? ⟨w.heap.size, 2, none⟩ = some (.slice (some ⟨b, off, none⟩) l2 c2) ∧ w'.cell? ⟨w.heap.size, 3, none⟩ = some (.slice a3 l3 c3)))) (by kernel_rfl) HS.out (fun hHeld => ?_)
              refine wpAnyH_take (i := 0) (v := ?_) (get0 _ _) (by kernel_rfl) (by kernel_rfl) (by kernel_rfl) (fun _ _ _ h => h) (Or.inl ⟨by rfl, ?_⟩) (by assumption) ?_
              rotate_left
              · (intro w hSw; (try dsimp only at hSw); go_simp <;> with_reducible rfl)
              simp only [Act.put, List.setIfInBounds_toArray, List.set_cons_zero, List.set_cons_succ]
              refine wpAnyH_take (i := 1) (v := ?_) (get1 (get0 _ _)) (by kernel_rfl) (by kernel_rfl) (by kernel_rfl) (fun _ _ _ h => h) (Or.inl ⟨by rfl, ?_⟩) (by assumption) ?_
              rotate_left
              · (intro w hSw; (try dsimp only at hSw); go_simp <;> with_reducible rfl)
              simp only [Act.put, List.setIfInBounds_toArray, List.set_cons_zero, List.set_cons_succ]
              refine wpAnyH_ready (rs := [2]) (by kernel_rfl) (by simp) ?_
              refine AllReadyH.cons (get1 (get1 (get0 _ _))) (fun K hK => ?_) AllReadyH.nil
              go_simp
              refine (name_any nm _).mono ?_
              rintro e y1 ⟨rfl, rfl⟩
              rw [HNM.out]
              have sy := hHeld
              clear hHeld
              try go_wp2_with fail
              refine hK.out _ _ sy (fun hHeld => ?_)
              clear hK K
              try simp only [Act.put, List.setIfInBounds_toArray, List.set_cons_zero, List.set_cons_succ]
              refine wpAnyH_take (i := 3) (v := ?_) (get1 (get1 (get1 (get0 _ _)))) (by kernel_rfl) (by kernel_rfl) (by kernel_rfl) (fun _ _ _ h => h) (Or.inl ⟨by rfl, ?_⟩) (by assumption) ?_
              rotate_left
              · (intro w hSw; (try dsimp only at hSw); go_simp <;> with_reducible rfl)
              simp only [Act.put, List.setIfInBounds_toArray, List.set_cons_zero, List.set_cons_succ]
              refine wpAnyH_take (i := 4) (v := ?_) (get1 (get1 (get1 (get1 (get0 _ _))))) (by kernel_rfl) (by kernel_rfl) (by kernel_rfl) (fun _ _ _ h => h) (Or.inl ⟨by rfl, ?_⟩) (by assumption) ?_
              rotate_left
              · (intro w hSw; (try dsimp only at hSw); go_simp <;> with_reducible rfl)
              simp only [Act.put, List.setIfInBounds_toArray, List.set_cons_zero, List.set_cons_succ]
              refine wpAnyH_take (i := 5) (v := ?_) (get1 (get1 (get1 (get1 (get1 (get0 _ _)))))) (by kernel_rfl) (by kernel_rfl) (by kernel_rfl) (fun _ _ _ h => h) (Or.inl ⟨by rfl, ?_⟩) (by assumption) ?_
              rotate_left
              · (intro w hSw; (try dsimp only at hSw); go_simp <;> with_reducible rfl)
              simp only [Act.put, List.setIfInBounds_toArray, List.set_cons_zero, List.set_cons_succ]
              refine wpAnyH_take (i := 6) (v := ?_) (get1 (get1 (get1 (get1 (get1 (get1 (get0 _ _))))))) (by kernel_rfl) (by kernel_rfl) (by kernel_rfl) (fun _ _ _ h => h) (Or.inl ⟨by rfl, ?_⟩) (by assumption) ?_
              rotate_left
              · (intro w hSw; (try dsimp only at hSw); go_simp <;> with_reducible rfl)
              simp only [Act.put, List.setIfInBounds_toArray, List.set_cons_zero, List.set_cons_succ]
              refine wpAnyH_take (i := 7) (v := ?_) (get1 (get1 (get1 (get1 (get1 (get1 (get1 (get0 _ _)))))))) (by kernel_rfl) (by kernel_rfl) (by kernel_rfl) (fun _ _ _ h => h) (Or.inl ⟨by rfl, ?_⟩) (by assumption) ?_
              rotate_left
              · (intro w hSw; (try dsimp only at hSw); go_simp <;> with_reducible rfl)
              simp only [Act.put, List.setIfInBounds_toArray, List.set_cons_zero, List.set_cons_succ]
              refine wpAnyH_take (i := 8) (v := ?_) (get1 (get1 (get1 (get1 (get1 (get1 (get1 (get1 (get0 _ _))))))))) (by kernel_rfl) (by kernel_rfl) (by kernel_rfl) (fun _ _ _ h => h) (Or.inl ⟨by rfl, ?_⟩) (by assumption) ?_
              rotate_left
              · (intro w hSw; (try dsimp only at hSw); go_simp <;> with_reducible rfl)
              simp only [Act.put, List.setIfInBounds_toArray, List.set_cons_zero, List.set_cons_succ]
              refine wpAnyH_take (i := 9) (v := ?_) (get1 (get1 (get1 (get1 (get1 (get1 (get1 (get1 (get1 (get0 _ _)))))))))) (by kernel_rfl) (by kernel_rfl) (by kernel_rfl) (fun _ _ _ h => h) (Or.inl ⟨by rfl, ?_⟩) (by assumption) ?_
              rotate_left
              · (intro w hSw; (try dsimp only at hSw); go_simp <;> with_reducible rfl)
              simp only [Act.put, List.setIfInBounds_toArray, List.set_cons_zero, List.set_cons_succ]
              refine wpAnyH_take (i := 10) (v := ?_) (get1 (get1 (get1 (get1 (get1 (get1 (get1 (get1 (get1 (get1 (get0 _ _))))))))))) (by kernel_rfl) (by kernel_rfl) (by kernel_rfl) (fun _ _ _ h => h) (Or.inl ⟨by rfl, ?_⟩) (by assumption) ?_
              rotate_left
              · (intro w hSw; (try dsimp only at hSw); go_simp <;> with_reducible rfl)
              simp only [Act.put, List.setIfInBounds_toArray, List.set_cons_zero, List.set_cons_succ]
              refine wpAnyH_take (i := 11) (v := ?_) (get1 (get1 (get1 (get1 (get1 (get1 (get1 (get1 (get1 (get1 (get1 (get0 _ _)))))))))))) (by kernel_rfl) (by kernel_rfl) (by kernel_rfl) (fun _ _ _ h => h) (Or.inl ⟨by rfl, ?_⟩) (by assumption) ?_
              rotate_left
              · (intro w hSw; (try dsimp only at hSw); go_simp <;> with_reducible rfl)
              simp only [Act.put, List.setIfInBounds_toArray, List.set_cons_zero, List.set_cons_succ]
              refine wpAnyH_take (i := 12) (v := ?_) (get1 (get1 (get1 (get1 (get1 (get1 (get1 (get1 (get1 (get1 (get1 (get1 (get0 _ _))))))))))))) (by kernel_rfl) (by kernel_rfl) (by kernel_rfl) (fun _ _ _ h => h) (Or.inl ⟨by rfl, ?_⟩) (by assumption) ?_
              rotate_left
              · (intro w hSw; (try dsimp only at hSw); go_simp <;> with_reducible rfl)
              simp only [Act.put, List.setIfInBounds_toArray, List.set_cons_zero, List.set_cons_succ]
              refine wpAnyH_take (i := 13) (v := ?_) (get1 (get1 (get1 (get1 (get1 (get1 (get1 (get1 (get1 (get1 (get1 (get1 (get1 (get0 _ _)))))))))))))) (by kernel_rfl) (by kernel_rfl) (by kernel_rfl) (fun _ _ _ h => h) (Or.inl ⟨by rfl, ?_⟩) (by assumption) ?_
              rotate_left
              · (intro w hSw; (try dsimp only at hSw); go_simp <;> with_reducible rfl)
              simp only [Act.put, List.setIfInBounds_toArray, List.set_cons_zero, List.set_cons_succ]
              refine wpAnyH_take (i := 14) (v := ?_) (get1 (get1 (get1 (get1 (get1 (get1 (get1 (get1 (get1 (get1 (get1 (get1 (get1 (get1 (get0 _ _))))))))))))))) (by kernel_rfl) (by kernel_rfl) (by kernel_rfl) (fun _ _ _ h => h) (Or.inl ⟨by rfl, ?_⟩) (by assumption) ?_
              rotate_left
              · (intro w hSw; (try dsimp only at hSw); go_simp <;> with_reducible rfl)
              simp only [Act.put, List.setIfInBounds_toArray, List.set_cons_zero, List.set_cons_succ]
              refine wpAnyH_ready (rs := [15]) (by kernel_rfl) (by simp) ?_
              refine AllReadyH.cons (get1 (get1 (get1 (get1 (get1 (get1 (get1 (get1 (get1 (get1 (get1 (get1 (get1 (get1 (get1 (get0 _ _)))))))))))))))) (fun K hK => ?_) AllReadyH.nil
              go_simp
              refine (room_any code kd _).mono ?_
              rintro e y2 ⟨rfl, hb2⟩
              rw [HRM.out]
              have sy : (y2.cell? ⟨wr.heap.size, 0, none⟩ = some (.string nm) ∧ y2.cell? ⟨wr.heap.size, 1, none⟩ = some (.int .i64 kd) ∧ y2.cell? ⟨wr.heap.size, 2, none⟩ = some (.int .i64 ps) ∧ y2.cell? ⟨w.heap.size, 0, none⟩ = some (.string code) ∧ y2.cell? ⟨w.heap.size, 1, none⟩ = some (.slice a1 l1 c1) ∧ y2.cell? ⟨w.heap.size, 2, none⟩ = some (.slice (some ⟨b, off, none⟩) l2 c2) ∧ y2.cell? ⟨w.heap.size, 3, none⟩ = some (.slice a3 l3 c3)) := ⟨cell_thru hb2 hHeld.1, cell_thru hb2 hHeld.2.1, cell_thru hb2 hHeld.2.2.1, cell_thru hb2 hHeld.2.2.2.1, cell_thru hb2 hHeld.2.2.2.2.1, cell_thru hb2 hHeld.2.2.2.2.2.1, cell_thru hb2 hHeld.2.2.2.2.2.2⟩
              clear hHeld
              try go_wp2_with fail
              refine hK.out _ _ sy (fun hHeld => ?_)
              clear hK K
              try simp only [Act.put, List.setIfInBounds_toArray, List.set_cons_zero, List.set_cons_succ]
              refine wpAnyH_take (i := 16) (v := ?_) (get1 (get1 (get1 (get1 (get1 (get1 (get1 (get1 (get1 (get1 (get1 (get1 (get1 (get1 (get1 (get1 (get0 _ _))))))))))))))))) (by kernel_rfl) (by kernel_rfl) (by kernel_rfl) (fun _ _ _ h => h) (Or.inl ⟨by rfl, ?_⟩) (by assumption) ?_
              rotate_left
              · (intro w hSw; (try dsimp only at hSw); go_simp <;> with_reducible rfl)
              simp only [Act.put, List.setIfInBounds_toArray, List.set_cons_zero, List.set_cons_succ]
              refine wpAnyH_take (i := 17) (v := ?_) (get1 (get1 (get1 (get1 (get1 (get1 (get1 (get1 (get1 (get1 (get1 (get1 (get1 (get1 (get1 (get1 (get1 (get0 _ _)))))))))))))))))) (by kernel_rfl) (by kernel_rfl) (by kernel_rfl) (fun _ _ _ h => h) (Or.inl ⟨by rfl, ?_⟩) (by assumption) ?_
              rotate_left
              · (intro w hSw; (try dsimp only at hSw); go_simp <;> with_reducible rfl)
              simp only [Act.put, List.setIfInBounds_toArray, List.set_cons_zero, List.set_cons_succ]
              refine wpAnyH_done (by kernel_rfl) ?_ _
              clear hHeld sy
              go_wp2_with fail
              go_ret
              exact ⟨by rw [HNO.out]; rfl, hbY.drew.trans (hb2.mono (by have := hbY.size; simpa using this))⟩
            · have hd1 : decide (rm ≤ ps) = false := decide_eq_false hge
              have HYES : Hid (symAt code.size l1 ss k = true) := by
                show _ = _
                rw [HSA.out, HSO.out, hnk, hrm, show decide (ps < rm) = true by simp; omega, show decide (0 ≤ ps) = true by simp; omega]
                rfl
              clear hnk hrm
              refine wp_region_held_drew (S := (fun w' : World => (w'.cell? ⟨wr.heap.size, 0, none⟩ = some (.string nm) ∧ w'.cell? ⟨wr.heap.size, 1, none⟩ = some (.int .i64 kd) ∧ w'.cell? ⟨wr.heap.size, 2, none⟩ = some (.int .i64 ps) ∧ w'.cell? ⟨w.heap.size, 0, none⟩ = some (.string code) ∧ w'.cell? ⟨w.heap.size, 1, none⟩ = some (.slice a1 l1 c1) ∧ w'.cell? ⟨w.heap.size, 2, none⟩ = some (.slice (some ⟨b, off, none⟩) l2 c2) ∧ w'.cell? ⟨w.heap.size, 3, none⟩ = some (.slice a3 l3 c3)))) (by kernel_rfl) HS.out (fun hHeld => ?_)
              refine wpAnyH_take (i := 0) (v := ?_) (get0 _ _) (by kernel_rfl) (by kernel_rfl) (by kernel_rfl) (fun _ _ _ h => h) (Or.inl ⟨by rfl, ?_⟩) (by assumption) ?_
              rotate_left
              · (intro w hSw; (try dsimp only at hSw); go_simp <;> with_reducible rfl)
              simp only [Act.put, List.setIfInBounds_toArray, List.set_cons_zero, List.set_cons_succ]
              refine wpAnyH_take (i := 1) (v := ?_) (get1 (get0 _ _)) (by kernel_rfl) (by kernel_rfl) (by kernel_rfl) (fun _ _ _ h => h) (Or.inl ⟨by rfl, ?_⟩) (by assumption) ?_
              rotate_left
              · (intro w hSw; (try dsimp only at hSw); go_simp <;> with_reducible rfl)
              simp only [Act.put, List.setIfInBounds_toArray, List.set_cons_zero, List.set_cons_succ]
              refine wpAnyH_ready (rs := [2]) (by kernel_rfl) (by simp) ?_
              refine AllReadyH.cons (get1 (get1 (get0 _ _))) (fun K hK => ?_) AllReadyH.nil
              go_simp
              refine (name_any nm _).mono ?_
              rintro e y1 ⟨rfl, rfl⟩
              rw [HNM.out]
              have sy := hHeld
              clear hHeld
              try go_wp2_with fail
              refine hK.out _ _ sy (fun hHeld => ?_)
              clear hK K
              try simp only [Act.put, List.setIfInBounds_toArray, List.set_cons_zero, List.set_cons_succ]
              refine wpAnyH_take (i := 3) (v := ?_) (get1 (get1 (get1 (get0 _ _)))) (by kernel_rfl) (by kernel_rfl) (by kernel_rfl) (fun _ _ _ h => h) (Or.inl ⟨by rfl, ?_⟩) (by assumption) ?_
              rotate_left
              · (intro w hSw; (try dsimp only at hSw); go_simp <;> with_reducible rfl)
              simp only [Act.put, List.setIfInBounds_toArray, List.set_cons_zero, List.set_cons_succ]
              refine wpAnyH_take (i := 4) (v := ?_) (get1 (get1 (get1 (get1 (get0 _ _))))) (by kernel_rfl) (by kernel_rfl) (by kernel_rfl) (fun _ _ _ h => h) (Or.inl ⟨by rfl, ?_⟩) (by assumption) ?_
              rotate_left
              · (intro w hSw; (try dsimp only at hSw); go_simp <;> with_reducible rfl)
              simp only [Act.put, List.setIfInBounds_toArray, List.set_cons_zero, List.set_cons_succ]
              refine wpAnyH_take (i := 5) (v := ?_) (get1 (get1 (get1 (get1 (get1 (get0 _ _)))))) (by kernel_rfl) (by kernel_rfl) (by kernel_rfl) (fun _ _ _ h => h) (Or.inl ⟨by rfl, ?_⟩) (by assumption) ?_
              rotate_left
              · (intro w hSw; (try dsimp only at hSw); go_simp <;> with_reducible rfl)
              simp only [Act.put, List.setIfInBounds_toArray, List.set_cons_zero, List.set_cons_succ]
              refine wpAnyH_take (i := 6) (v := ?_) (get1 (get1 (get1 (get1 (get1 (get1 (get0 _ _))))))) (by kernel_rfl) (by kernel_rfl) (by kernel_rfl) (fun _ _ _ h => h) (Or.inl ⟨by rfl, ?_⟩) (by assumption) ?_
              rotate_left
              · (intro w hSw; (try dsimp only at hSw); go_simp <;> with_reducible rfl)
              simp only [Act.put, List.setIfInBounds_toArray, List.set_cons_zero, List.set_cons_succ]
              refine wpAnyH_take (i := 7) (v := ?_) (get1 (get1 (get1 (get1 (get1 (get1 (get1 (get0 _ _)))))))) (by kernel_rfl) (by kernel_rfl) (by kernel_rfl) (fun _ _ _ h => h) (Or.inl ⟨by rfl, ?_⟩) (by assumption) ?_
              rotate_left
              · (intro w hSw; (try dsimp only at hSw); go_simp <;> with_reducible rfl)
              simp only [Act.put, List.setIfInBounds_toArray, List.set_cons_zero, List.set_cons_succ]
              refine wpAnyH_take (i := 8) (v := ?_) (get1 (get1 (get1 (get1 (get1 (get1 (get1 (get1 (get0 _ _))))))))) (by kernel_rfl) (by kernel_rfl) (by kernel_rfl) (fun _ _ _ h => h) (Or.inl ⟨by rfl, ?_⟩) (by assumption) ?_
              rotate_left
              · (intro w hSw; (try dsimp only at hSw); go_simp <;> with_reducible rfl)
              simp only [Act.put, List.setIfInBounds_toArray, List.set_cons_zero, List.set_cons_succ]
              refine wpAnyH_take (i := 9) (v := ?_) (get1 (get1 (get1 (get1 (get1 (get1 (get1 (get1 (get1 (get0 _ _)))))))))) (by kernel_rfl) (by kernel_rfl) (by kernel_rfl) (fun _ _ _ h => h) (Or.inl ⟨by rfl, ?_⟩) (by assumption) ?_
              rotate_left
              · (intro w hSw; (try dsimp only at hSw); go_simp <;> with_reducible rfl)
              simp only [Act.put, List.setIfInBounds_toArray, List.set_cons_zero, List.set_cons_succ]
              refine wpAnyH_take (i := 10) (v := ?_) (get1 (get1 (get1 (get1 (get1 (get1 (get1 (get1 (get1 (get1 (get0 _ _))))))))))) (by kernel_rfl) (by kernel_rfl) (by kernel_rfl) (fun _ _ _ h => h) (Or.inl ⟨by rfl, ?_⟩) (by assumption) ?_
              rotate_left
              · (intro w hSw; (try dsimp only at hSw); go_simp <;> with_reducible rfl)
              simp only [Act.put, List.setIfInBounds_toArray, List.set_cons_zero, List.set_cons_succ]
              refine wpAnyH_take (i := 11) (v := ?_) (get1 (get1 (get1 (get1 (get1 (get1 (get1 (get1 (get1 (get1 (get1 (get0 _ _)))))))))))) (by kernel_rfl) (by kernel_rfl) (by kernel_rfl) (fun _ _ _ h => h) (Or.inl ⟨by rfl, ?_⟩) (by assumption) ?_
              rotate_left
              · (intro w hSw; (try dsimp only at hSw); go_simp <;> with_reducible rfl)
              simp only [Act.put, List.setIfInBounds_toArray, List.set_cons_zero, List.set_cons_succ]
              refine wpAnyH_take (i := 12) (v := ?_) (get1 (get1 (get1 (get1 (get1 (get1 (get1 (get1 (get1 (get1 (get1 (get1 (get0 _ _))))))))))))) (by kernel_rfl) (by kernel_rfl) (by kernel_rfl) (fun _ _ _ h => h) (Or.inl ⟨by rfl, ?_⟩) (by assumption) ?_
              rotate_left
              · (intro w hSw; (try dsimp only at hSw); go_simp <;> with_reducible rfl)
              simp only [Act.put, List.setIfInBounds_toArray, List.set_cons_zero, List.set_cons_succ]
              refine wpAnyH_take (i := 13) (v := ?_) (get1 (get1 (get1 (get1 (get1 (get1 (get1 (get1 (get1 (get1 (get1 (get1 (get1 (get0 _ _)))))))))))))) (by kernel_rfl) (by kernel_rfl) (by kernel_rfl) (fun _ _ _ h => h) (Or.inl ⟨by rfl, ?_⟩) (by assumption) ?_
              rotate_left
              · (intro w hSw; (try dsimp only at hSw); go_simp <;> with_reducible rfl)
              simp only [Act.put, List.setIfInBounds_toArray, List.set_cons_zero, List.set_cons_succ]
              refine wpAnyH_take (i := 14) (v := ?_) (get1 (get1 (get1 (get1 (get1 (get1 (get1 (get1 (get1 (get1 (get1 (get1 (get1 (get1 (get0 _ _))))))))))))))) (by kernel_rfl) (by kernel_rfl) (by kernel_rfl) (fun _ _ _ h => h) (Or.inl ⟨by rfl, ?_⟩) (by assumption) ?_
              rotate_left
              · (intro w hSw; (try dsimp only at hSw); go_simp <;> with_reducible rfl)
              simp only [Act.put, List.setIfInBounds_toArray, List.set_cons_zero, List.set_cons_succ]
              refine wpAnyH_ready (rs := [15]) (by kernel_rfl) (by simp) ?_
              refine AllReadyH.cons (get1 (get1 (get1 (get1 (get1 (get1 (get1 (get1 (get1 (get1 (get1 (get1 (get1 (get1 (get1 (get0 _ _)))))))))))))))) (fun K hK => ?_) AllReadyH.nil
              go_simp
              refine (room_any code kd _).mono ?_
              rintro e y2 ⟨rfl, hb2⟩
              rw [HRM.out]
              have sy : (y2.cell? ⟨wr.heap.size, 0, none⟩ = some (.string nm) ∧ y2.cell? ⟨wr.heap.size, 1, none⟩ = some (.int .i64 kd) ∧ y2.cell? ⟨wr.heap.size, 2, none⟩ = some (.int .i64 ps) ∧ y2.cell? ⟨w.heap.size, 0, none⟩ = some (.string code) ∧ y2.cell? ⟨w.heap.size, 1, none⟩ = some (.slice a1 l1 c1) ∧ y2.cell? ⟨w.heap.size, 2, none⟩ = some (.slice (some ⟨b, off, none⟩) l2 c2) ∧ y2.cell? ⟨w.heap.size, 3, none⟩ = some (.slice a3 l3 c3)) := ⟨cell_thru hb2 hHeld.1, cell_thru hb2 hHeld.2.1, cell_thru hb2 hHeld.2.2.1, cell_thru hb2 hHeld.2.2.2.1, cell_thru hb2 hHeld.2.2.2.2.1, cell_thru hb2 hHeld.2.2.2.2.2.1, cell_thru hb2 hHeld.2.2.2.2.2.2⟩
              clear hHeld
              try go_wp2_with fail
              refine hK.out _ _ sy (fun hHeld => ?_)
              clear hK K
              try simp only [Act.put, List.setIfInBounds_toArray, List.set_cons_zero, List.set_cons_succ]
              refine wpAnyH_take (i := 16) (v := ?_) (get1 (get1 (get1 (get1 (get1 (get1 (get1 (get1 (get1 (get1 (get1 (get1 (get1 (get1 (get1 (get1 (get0 _ _))))))))))))))))) (by kernel_rfl) (by kernel_rfl) (by kernel_rfl) (fun _ _ _ h => h) (Or.inl ⟨by rfl, ?_⟩) (by assumption) ?_
              rotate_left
              · (intro w hSw; (try dsimp only at hSw); go_simp <;> with_reducible rfl)
              simp only [Act.put, List.setIfInBounds_toArray, List.set_cons_zero, List.set_cons_succ]
              refine wpAnyH_take (i := 17) (v := ?_) (get1 (get1 (get1 (get1 (get1 (get1 (get1 (get1 (get1 (get1 (get1 (get1 (get1 (get1 (get1 (get1 (get1 (get0 _ _)))))))))))))))))) (by kernel_rfl) (by kernel_rfl) (by kernel_rfl) (fun _ _ _ h => h) (Or.inl ⟨by rfl, ?_⟩) (by assumption) ?_
              rotate_left
              · (intro w hSw; (try dsimp only at hSw); go_simp <;> with_reducible rfl)
              simp only [Act.put, List.setIfInBounds_toArray, List.set_cons_zero, List.set_cons_succ]
              refine wpAnyH_done (by kernel_rfl) ?_ _
              have HC1 : Hid (Below (w.heap.size + 1) W2 y2) := HBX.out.trans ((Below.refl _ _).drew.trans (hb2.mono (by show w.heap.size + 1 ≤ Y2.heap.size; have := HBX.out.size; omega)))
              have HOM : Hid (y2.ownsMap Tryd.prog 9 unitElem (w.heap.size + 1) k (nset ((ss.map Sym.name).take k))) := HMX.out.kept (row := none) ⟨hb2.os, hb2.tape, hb2.output, hb2.size, fun j hj _ => hb2.block j hj⟩ (by simp)
              clear hHeld hb2
              go_wp2_with (first | (at_mapUpdate; refine wpList_mapUpdate_own _ rfl _ _ _ 125 rfl 9 105 lawS Tryd.underlying125 (unitElem (H := Unit)) (w.heap.size + 1) k _ rfl HOM.out (by unfold maxLen; omega) _ _ _ rfl rfl hkey _ [] unitElem_mk ?_) | go_in)
              intro w5 hown5 hg5
              have HO5 : Hid (w5.ownsMap Tryd.prog 9 unitElem (w.heap.size + 1) (k + 1) (nset ((ss.map Sym.name).take (k + 1)))) := by
                show World.ownsMap _ _ _ _ _ _ _
                rw [HTK.out, nset_snoc]
                exact hown5
              have HB5 : Hid (Below (w.heap.size + 1) W2 w5) := HC1.out.grown hg5 (by have := HC1.out.size; omega) (fun j hj => by cases hj; exact Nat.le_refl _)
              have HA5 : Hid (∀ i, i < k + 1 → symAt code.size l1 ss i = true) := fun i hi => by
                rcases Nat.lt_or_ge i k with c | c
                · exact HAL.out i c
                · obtain rfl : i = k := by omega
                  exact HYES.out
              clear hown5 hg5
              go_wp2_with fail
              go_roundg (l2 - (k + 1))
              case measure => omega
              case rel => exact ⟨k + 1, by first | rfl | (congr 1; omega), by omega, Nat.le_refl _, HO5.out, HA5.out, HB5.out⟩
    · obtain rfl : k = l2 := by omega
      have HYA : Hid (symsOk code.size l1 ss = true) := by
        show _ = _
        unfold symsOk
        rw [show decide (ss.length ≤ 1000) = true by simp; omega, all_range_yes (fun i hi => HAL.out i (by omega))]
        rfl
      go_wp2_with fail
      go_ret
      exact ⟨by rw [HYA.out]; rfl, hbw⟩

end Go.Proofs.YtffokdldgdjkhaaDoor

/- What word.Take comes to. -/
namespace Go.Proofs.YtffokdldgdjkhaaDoor
set_option maxRecDepth 100000
open Go.RowKit

theorem ret3 {k l m : IntKind} {a b c a' b' c' : Int} (h : (a, b, c) = (a', b', c')) : Ending.returned (.tuple #[.int k a, .int l b, .int m c]) = .returned (.tuple #[.int k a', .int l b', .int m c']) := by
  simp only [Prod.mk.injEq] at h
  rw [h.1, h.2.1, h.2.2]

set_option maxRecDepth 100000 in
set_option maxHeartbeats 1000000 in
theorem take_in (s : ByteArray) (a : Nat) (ha : a ≤ s.size) (hs : s.size ≤ maxLen) (w : World) :
    Calls Tryd.prog 91 #[.string s, .int .i64 a] w fun e w' => e = .returned (.tuple #[.int .u64 (W.takeR s a).1, .int .i64 (W.takeR s a).2.1, .int .i64 (W.takeR s a).2.2]) ∧ Below w.heap.size w w' := by
  unfold maxLen at hs
  have hneg : decide ((a : Int) < 0) = false := by simp
  have hle : decide (s.size < a) = false := by simp; omega
  go_enter Tryd.func91, Tryd.ntmps91
  go_wp2
  go_loopw [7, 8] (fun u i wr => ∃ (j g : Nat) (x : Int), Hid (j = a + g) ∧ j ≤ s.size ∧ g ≤ 9 ∧ i = .int .i64 j ∧ u = .int .u64 x ∧ Hid (0 ≤ x ∧ x < 128 ^ g ∧ W.takeG 0 0 (W.tail s a) = W.takeG g x (W.tail s j)) ∧ Below w.heap.size w wr) (fun _ i _ => s.size - (intOf i).toNat)
  case atStart => exact ⟨a, 0, 0, rfl, ha, by omega, rfl, rfl, ⟨by omega, by decide, rfl⟩, Below.refl _ _⟩
  case round =>
    obtain ⟨j, g, x, HJ, hjs, hg9, rfl, rfl, HX, hb⟩ := hrel
    by_cases hlt : j < s.size
    · have HT : Hid (W.tail s j = (s[j].toNat : Int) :: W.tail s (j + 1)) := W.tail_cons s j hlt
      obtain ⟨c, hcb⟩ : ∃ c : Nat, s[j].toNat = c := ⟨_, rfl⟩
      have hc256 : c < 256 := by rw [← hcb]; exact UInt8.toNat_lt _
      have HT' : Hid (W.tail s j = (c : Int) :: W.tail s (j + 1)) := by rw [← hcb]; exact HT
      have hkl : (j : Int) < s.size := by omega
      have hk0 : 0 ≤ (j : Int) := by omega
      have hw : IntKind.i64.wrap ((j : Int) - a) = (g : Int) := by have := HJ.out; rw [IntKind.wrap_i64]; omega
      have hand := W.and127_b
      have hor := W.or_fold
      clear HT
      rcases (show (g = 9 ∧ 1 < c) ∨ (g = 9 ∧ c = 0) ∨ (g = 9 ∧ c ≤ 1 ∧ 0 < c) ∨ (0 < g ∧ g < 9 ∧ c = 0) ∨ (g < 1 ∧ c < 128) ∨ (0 < g ∧ g < 9 ∧ 0 < c ∧ c < 128) ∨ (g < 1 ∧ 128 ≤ c) ∨ (0 < g ∧ g < 9 ∧ 128 ≤ c) by omega) with ⟨h0, h1⟩ | ⟨h0, rfl⟩ | ⟨h0, h1, h2⟩ | ⟨h0, h1, rfl⟩ | ⟨h0, h1⟩ | ⟨h0, h1, h2, h3⟩ | ⟨h0, h1⟩ | ⟨h0, h1, h2⟩
      · have e9 : ((g : Int) == 9) = true := by simp; omega
        have p0 : decide (0 < g) = true := by simp; omega
        have hz : 9 ≤ g := by omega
        clear h0
        go_wp2
        go_quiet (fail)
        clear hcb hw
        go_wp2
        go_ret3
        have hf := W.takeR_none s a (by rw [HX.out.2.2, HT'.out]; exact W.takeG_no _ _ _ _ (by omega))
        exact ⟨ret3 (by rw [hf]), below_drewN hb nq⟩
      · have e9 : ((g : Int) == 9) = true := by simp; omega
        have p0 : decide (0 < g) = true := by simp; omega
        have hz : 9 ≤ g := by omega
        clear h0
        go_wp2
        go_quiet (fail)
        clear hcb hw
        go_wp2
        go_ret3
        have hf := W.takeR_none s a (by rw [HX.out.2.2, HT'.out]; exact W.takeG_no _ _ _ _ (by omega))
        exact ⟨ret3 (by rw [hf]), below_drewN hb nq⟩
      · have e9 : ((g : Int) == 9) = true := by simp; omega
        have p0 : decide (0 < g) = true := by simp; omega
        have c0 : ((c : Int) == 0) = false := by simp; omega
        have hz : 9 ≤ g := by omega
        clear h0
        go_wp2
        go_quiet (fail)
        clear hcb hw
        go_wp2
        go_ret3
        have hf := W.takeR_some s a _ _ (by rw [HX.out.2.2, HT'.out]; exact W.takeG_last _ _ _ _ (by omega) (by omega))
        exact ⟨ret3 (by rw [hf, W.orv_eq x c g HX.out.1 HX.out.2.1 hg9 (by omega) (by omega)]; have := HJ.out; simp; omega), below_drewN hb nq⟩
      · have e9 : ((g : Int) == 9) = false := by simp; omega
        have p0 : decide (0 < g) = true := by simp; omega
        go_wp2
        go_quiet (fail)
        clear hcb hw
        go_wp2
        go_ret3
        have hf := W.takeR_none s a (by rw [HX.out.2.2, HT'.out]; exact W.takeG_no _ _ _ _ (by omega))
        exact ⟨ret3 (by rw [hf]), below_drewN hb nq⟩
      · have e9 : ((g : Int) == 9) = false := by simp; omega
        have p0 : decide (0 < g) = false := by simp; omega
        go_wp2
        go_quiet (fail)
        clear hcb hw
        go_wp2
        go_ret3
        have hf := W.takeR_some s a _ _ (by rw [HX.out.2.2, HT'.out]; exact W.takeG_last _ _ _ _ (by omega) (by omega))
        exact ⟨ret3 (by rw [hf, W.orv_eq x c g HX.out.1 HX.out.2.1 hg9 (by omega) (by omega)]; have := HJ.out; simp; omega), below_drewN hb nq⟩
      · have e9 : ((g : Int) == 9) = false := by simp; omega
        have p0 : decide (0 < g) = true := by simp; omega
        have c0 : ((c : Int) == 0) = false := by simp; omega
        go_wp2
        go_quiet (fail)
        clear hcb hw
        go_wp2
        go_ret3
        have hf := W.takeR_some s a _ _ (by rw [HX.out.2.2, HT'.out]; exact W.takeG_last _ _ _ _ (by omega) (by omega))
        exact ⟨ret3 (by rw [hf, W.orv_eq x c g HX.out.1 HX.out.2.1 hg9 (by omega) (by omega)]; have := HJ.out; simp; omega), below_drewN hb nq⟩
      · have e9 : ((g : Int) == 9) = false := by simp; omega
        have p0 : decide (0 < g) = false := by simp; omega
        go_wp2
        go_quiet (fail)
        clear hcb hw
        go_wp2
        go_roundw
        case rel =>
          refine ⟨j + 1, g + 1, W.orv x c g, by have := HJ.out; show j + 1 = a + (g + 1); omega, by omega, by omega, by go_num, rfl, ?_, below_drewN hb nq⟩
          rw [W.orv_eq x c g HX.out.1 HX.out.2.1 hg9 (by omega) (by omega)]
          refine ⟨by have := W.group_fits c g hg9 (by omega) (by omega); have := HX.out.1; omega, W.next_lt x c g HX.out.2.1, ?_⟩
          rw [HX.out.2.2, HT'.out, W.takeG_more _ _ _ _ (by omega) (by omega)]
        case measure => simp [intOf]; omega
      · have e9 : ((g : Int) == 9) = false := by simp; omega
        have p0 : decide (0 < g) = true := by simp; omega
        have c0 : ((c : Int) == 0) = false := by simp; omega
        go_wp2
        go_quiet (fail)
        clear hcb hw
        go_wp2
        go_roundw
        case rel =>
          refine ⟨j + 1, g + 1, W.orv x c g, by have := HJ.out; show j + 1 = a + (g + 1); omega, by omega, by omega, by go_num, rfl, ?_, below_drewN hb nq⟩
          rw [W.orv_eq x c g HX.out.1 HX.out.2.1 hg9 (by omega) (by omega)]
          refine ⟨by have := W.group_fits c g hg9 (by omega) (by omega); have := HX.out.1; omega, W.next_lt x c g HX.out.2.1, ?_⟩
          rw [HX.out.2.2, HT'.out, W.takeG_more _ _ _ _ (by omega) (by omega)]
        case measure => simp [intOf]; omega
    · go_wp2
      go_ret3
      have hf := W.takeR_none s a (by rw [HX.out.2.2, W.tail_end s j (by omega)]; rfl)
      exact ⟨ret3 (by rw [hf]), hb⟩

set_option maxHeartbeats 400000 in
theorem take_out (s : ByteArray) (a : Int) (h : a < 0 ∨ (s.size : Int) < a) (w : World) :
    Calls Tryd.prog 91 #[.string s, .int .i64 a] w fun e w' => e = .returned (.tuple #[.int .u64 0, .int .i64 0, .int .i64 1]) ∧ Below w.heap.size w w' := by
  rcases h with h | h
  · go_enter Tryd.func91, Tryd.ntmps91
    go_wp2
    go_ret3
    exact ⟨rfl, Below.refl _ _⟩
  · have h0 : ¬ a < 0 := by omega
    go_enter Tryd.func91, Tryd.ntmps91
    go_wp2
    go_ret3
    exact ⟨rfl, Below.refl _ _⟩

theorem take_any (s : ByteArray) (a : Int) (hs : s.size ≤ maxLen) (w : World) :
    Calls Tryd.prog 91 #[.string s, .int .i64 a] w fun e w' => e = .returned (.tuple #[.int .u64 (W.take s a).1, .int .i64 (W.take s a).2.1, .int .i64 (W.take s a).2.2]) ∧ Below w.heap.size w w' := by
  by_cases h : a < 0 ∨ (s.size : Int) < a
  · refine (take_out s a h w).mono ?_
    rintro e w' ⟨rfl, hb⟩
    exact ⟨ret3 (by rw [W.take, if_pos h]), hb⟩
  · obtain ⟨n, rfl⟩ := Int.eq_ofNat_of_zero_le (show 0 ≤ a by omega)
    refine (take_in s n (by omega) hs w).mono ?_
    rintro e w' ⟨rfl, hb⟩
    exact ⟨ret3 (by rw [W.take, if_neg h, Int.toNat_natCast]), hb⟩

end Go.Proofs.YtffokdldgdjkhaaDoor

/- What the reader's small ones come to. (Written by gen_piece.py.) -/
namespace Go.Proofs.YtffokdldgdjkhaaDoor
set_option maxRecDepth 100000
open Go.RowKit Go.Maps
set_option linter.unusedVariables false

/-- A piece of a string. -/
def sub (s : ByteArray) (i n : Nat) : ByteArray := s.extract i (i + n)
/-- A panic of the reader's. -/
def Fails (e : Ending) : Prop := ∃ c : Int, e = .panicked [{ v := .iface 28 (.int .i64 c), recovered := false }]
/-- A reader: its text, its place. -/
structure RdV (w : World) (br : Nat) (s : ByteArray) (i : Nat) : Prop where
  c0 : w.cell? ⟨br, 0, none⟩ = some (.string s)
  c1 : w.cell? ⟨br, 1, none⟩ = some (.int .i64 i)
  fz : ∀ o, w.frozen? ⟨br, o, none⟩ = false
  le : i ≤ s.size
  sz : s.size ≤ maxLen
theorem RdV.set {w : World} {br : Nat} {s : ByteArray} {i : Nat} (h : RdV w br s i) (j : Nat) (hj : j ≤ s.size) : RdV (w.setCell ⟨br, 1, none⟩ (.int .i64 j)) br s j :=
  ⟨(World.cell?_setCell_other _ _ _ _ (by simp)).trans h.c0, World.cell?_setCell_same' _ _ _ (by rw [h.c1]; rfl), fun o => by rw [World.frozen?_setCell]; exact h.fz o, hj, h.sz⟩

theorem RdV.drew {w : World} {br : Nat} {s : ByteArray} {i : Nat} (h : RdV w br s i) : RdV w.drew br s i := ⟨h.c0, h.c1, h.fz, h.le, h.sz⟩
theorem RdV.below {w w' : World} {br : Nat} {s : ByteArray} {i : Nat} (h : RdV w br s i) (hb : Below w.heap.size w w') : RdV w' br s i :=
  ⟨cell_thru hb h.c0, cell_thru hb h.c1, fun o => (hb.frozen (p := ⟨br, o, none⟩) (World.block_lt_of_cell? w ⟨br, 0, none⟩ h.c0)).trans (h.fz o), h.le, h.sz⟩
theorem takeG_len : ∀ (l : List Int) (g : Nat) (x v : Int) (m : Nat), W.takeG g x l = some (v, m) → g < m ∧ m ≤ g + l.length
  | [], g, x, v, m, h => by simp [W.takeG] at h
  | c :: r, g, x, v, m, h => by
    by_cases hb : (g = 9 ∧ 1 < c) ∨ (0 < g ∧ c = 0)
    · rw [W.takeG_no g x c r hb] at h; cases h
    · by_cases hc : c < 128
      · rw [W.takeG_last g x c r hb hc] at h
        simp at h
        simp only [List.length_cons]
        omega
      · rw [W.takeG_more g x c r hb (by omega)] at h
        have := takeG_len r (g + 1) _ v m h
        simp only [List.length_cons]
        omega

set_option maxRecDepth 100000 in
theorem piece_yes (s : ByteArray) (i n : Nat) (h : i + n ≤ s.size) (hs : s.size ≤ maxLen) (w : World) : Calls Tryd.prog 87 #[.string s, .int .i64 i, .int .i64 n] w fun e w' => e = .returned (.string (sub s i n)) ∧ w' = w := by
  have hs' : s.size ≤ 9223372036854775807 := by unfold maxLen at hs; omega
  have d0 : decide ((s.size : Int) - i < n) = false := by simp; omega
  go_enter Tryd.func87, Tryd.ntmps87
  go_wp2
  go_ret
  exact ⟨rfl, rfl⟩
set_option maxRecDepth 100000 in
theorem piece_no (s : ByteArray) (i n : Nat) (hi : i ≤ s.size) (h : s.size < i + n) (hn : n ≤ 1000000000) (hs : s.size ≤ maxLen) (w : World) : Calls Tryd.prog 87 #[.string s, .int .i64 i, .int .i64 n] w fun e w' => Fails e ∧ w' = w := by
  have hs' : s.size ≤ 9223372036854775807 := by unfold maxLen at hs; omega
  have d0 : decide ((s.size : Int) - i < n) = true := by simp; omega
  go_enter Tryd.func87, Tryd.ntmps87
  go_wp2
  exact ⟨rfl, ⟨_, rfl⟩, rfl⟩

set_option maxRecDepth 100000 in
theorem num_yes (s : ByteArray) (i : Nat) (hi : i ≤ s.size) (hs : s.size ≤ maxLen) (x : Int) (n : Nat) (h : W.takeG 0 0 (W.tail s i) = some (x, n)) (w : World) : Calls Tryd.prog 88 #[.string s, .int .i64 i] w fun e w' => e = .returned (.tuple #[.int .u64 x, .int .i64 (i + n : Nat)]) ∧ Below w.heap.size w w' := by
  have HT : Hid (W.take s i = (x, ((i + n : Nat) : Int), 0)) := by
    show _ = _
    unfold W.take
    rw [if_neg (by omega), Int.toNat_natCast, W.takeR_some s i x n h]
    simp
  go_enter Tryd.func88, Tryd.ntmps88
  go_wp2_with fail
  refine (take_any s i hs _).mono ?_
  rintro e w1 ⟨rfl, hb⟩
  rw [HT.out]
  go_wp2
  go_ret2
  exact ⟨rfl, hb⟩
set_option maxRecDepth 100000 in
theorem num_no (s : ByteArray) (i : Nat) (hi : i ≤ s.size) (hs : s.size ≤ maxLen) (h : W.takeG 0 0 (W.tail s i) = none) (w : World) : Calls Tryd.prog 88 #[.string s, .int .i64 i] w fun e w' => Fails e ∧ Below w.heap.size w w' := by
  have HT : Hid (W.take s i = (0, 0, 9)) := by
    show _ = _
    unfold W.take
    rw [if_neg (by omega), Int.toNat_natCast, W.takeR_none s i h]
  go_enter Tryd.func88, Tryd.ntmps88
  go_wp2_with fail
  refine (take_any s i hs _).mono ?_
  rintro e w1 ⟨rfl, hb⟩
  rw [HT.out]
  go_wp2
  exact ⟨rfl, ⟨_, rfl⟩, hb⟩

theorem gb_setO (w : World) (a : Addr) (u : Value) : w.grownBy (w.setCell a u) (some a.block) :=
  ⟨rfl, rfl, rfl, by rw [World.size_setCell]; exact Nat.le_refl _, fun k _ hk => Below.heap_setCell _ _ _ _ (fun e => hk (by rw [e]))⟩

set_option maxRecDepth 100000 in
set_option maxHeartbeats 1000000 in
theorem rtake_yes {w : World} {br : Nat} {s : ByteArray} {i : Nat} (h : RdV w br s i) (n : Nat) (hn : i + n ≤ s.size) :
    Calls Tryd.prog 82 #[.pointer (some ⟨br, 0, none⟩), .int .i64 n] w fun e w' => e = .returned (.string (sub s i n)) ∧ RdV w' br s (i + n) ∧ w.grownBy w' (some br) := by
  have c0 := h.c0
  have c1 := h.c1
  have z1 := h.fz 1
  have hi := h.le
  have HR : Hid _ := h
  have HS : Hid _ := h.sz
  have hs' : s.size ≤ 9223372036854775807 := by have := h.sz; unfold maxLen at this; omega
  clear h
  go_enter Tryd.func82, Tryd.ntmps82
  go_wp2_with fail
  refine wp_region_held_drew (S := (fun w' : World => w'.cell? ⟨br, 0, none⟩ = some (.string s) ∧ w'.cell? ⟨br, 1, none⟩ = some (.int .i64 i))) (by kernel_rfl) ⟨c0, c1⟩ (fun hHeld => ?_)
  refine wpAnyH_take (i := 0) (v := ?_) (get0 _ _) (by kernel_rfl) (by kernel_rfl) (by kernel_rfl) (fun _ _ _ h => h) (Or.inl ⟨by rfl, ?_⟩) (by assumption) ?_
  rotate_left
  · (intro w hSw; (try dsimp only at hSw); go_simp <;> with_reducible rfl)
  simp only [Act.put, List.setIfInBounds_toArray, List.set_cons_zero, List.set_cons_succ]
  refine wpAnyH_take (i := 1) (v := ?_) (get1 (get0 _ _)) (by kernel_rfl) (by kernel_rfl) (by kernel_rfl) (fun _ _ _ h => h) (Or.inl ⟨by rfl, ?_⟩) (by assumption) ?_
  rotate_left
  · (intro w hSw; (try dsimp only at hSw); go_simp <;> with_reducible rfl)
  simp only [Act.put, List.setIfInBounds_toArray, List.set_cons_zero, List.set_cons_succ]
  refine wpAnyH_take (i := 2) (v := ?_) (get1 (get1 (get0 _ _))) (by kernel_rfl) (by kernel_rfl) (by kernel_rfl) (fun _ _ _ h => h) (Or.inl ⟨by rfl, ?_⟩) (by assumption) ?_
  rotate_left
  · (intro w hSw; (try dsimp only at hSw); go_simp <;> with_reducible rfl)
  simp only [Act.put, List.setIfInBounds_toArray, List.set_cons_zero, List.set_cons_succ]
  refine wpAnyH_take (i := 3) (v := ?_) (get1 (get1 (get1 (get0 _ _)))) (by kernel_rfl) (by kernel_rfl) (by kernel_rfl) (fun _ _ _ h => h) (Or.inl ⟨by rfl, ?_⟩) (by assumption) ?_
  rotate_left
  · (intro w hSw; (try dsimp only at hSw); go_simp <;> with_reducible rfl)
  simp only [Act.put, List.setIfInBounds_toArray, List.set_cons_zero, List.set_cons_succ]
  refine wpAnyH_take (i := 4) (v := ?_) (get1 (get1 (get1 (get1 (get0 _ _))))) (by kernel_rfl) (by kernel_rfl) (by kernel_rfl) (fun _ _ _ h => h) (Or.inl ⟨by rfl, ?_⟩) (by assumption) ?_
  rotate_left
  · (intro w hSw; (try dsimp only at hSw); go_simp <;> with_reducible rfl)
  simp only [Act.put, List.setIfInBounds_toArray, List.set_cons_zero, List.set_cons_succ]
  refine wpAnyH_take (i := 5) (v := ?_) (get1 (get1 (get1 (get1 (get1 (get0 _ _)))))) (by kernel_rfl) (by kernel_rfl) (by kernel_rfl) (fun _ _ _ h => h) (Or.inl ⟨by rfl, ?_⟩) (by assumption) ?_
  rotate_left
  · (intro w hSw; (try dsimp only at hSw); go_simp <;> with_reducible rfl)
  simp only [Act.put, List.setIfInBounds_toArray, List.set_cons_zero, List.set_cons_succ]
  refine wpAnyH_take (i := 6) (v := ?_) (get1 (get1 (get1 (get1 (get1 (get1 (get0 _ _))))))) (by kernel_rfl) (by kernel_rfl) (by kernel_rfl) (fun _ _ _ h => h) (Or.inl ⟨by rfl, ?_⟩) (by assumption) ?_
  rotate_left
  · (intro w hSw; (try dsimp only at hSw); go_simp <;> with_reducible rfl)
  simp only [Act.put, List.setIfInBounds_toArray, List.set_cons_zero, List.set_cons_succ]
  refine wpAnyH_take (i := 7) (v := ?_) (get1 (get1 (get1 (get1 (get1 (get1 (get1 (get0 _ _)))))))) (by kernel_rfl) (by kernel_rfl) (by kernel_rfl) (fun _ _ _ h => h) (Or.inl ⟨by rfl, ?_⟩) (by assumption) ?_
  rotate_left
  · (intro w hSw; (try dsimp only at hSw); go_simp <;> with_reducible rfl)
  simp only [Act.put, List.setIfInBounds_toArray, List.set_cons_zero, List.set_cons_succ]
  refine wpAnyH_take (i := 8) (v := ?_) (get1 (get1 (get1 (get1 (get1 (get1 (get1 (get1 (get0 _ _))))))))) (by kernel_rfl) (by kernel_rfl) (by kernel_rfl) (fun _ _ _ h => h) (Or.inl ⟨by rfl, ?_⟩) (by assumption) ?_
  rotate_left
  · (intro w hSw; (try dsimp only at hSw); go_simp <;> with_reducible rfl)
  simp only [Act.put, List.setIfInBounds_toArray, List.set_cons_zero, List.set_cons_succ]
  refine wpAnyH_ready (rs := [9]) (by kernel_rfl) (by simp) ?_
  refine AllReadyH.cons (get1 (get1 (get1 (get1 (get1 (get1 (get1 (get1 (get1 (get0 _ _)))))))))) (fun K hK => ?_) AllReadyH.nil
  go_simp
  refine (piece_yes s i n hn HS.out _).mono ?_
  rintro e y1 ⟨rfl, rfl⟩
  have sy := hHeld
  clear hHeld
  try go_wp2_with fail
  refine hK.out _ _ sy (fun hHeld => ?_)
  clear hK K
  try simp only [Act.put, List.setIfInBounds_toArray, List.set_cons_zero, List.set_cons_succ]
  refine wpAnyH_take (i := 10) (v := ?_) (get1 (get1 (get1 (get1 (get1 (get1 (get1 (get1 (get1 (get1 (get0 _ _))))))))))) (by kernel_rfl) (by kernel_rfl) (by kernel_rfl) (fun _ _ _ h => h) (Or.inl ⟨by rfl, ?_⟩) (by assumption) ?_
  rotate_left
  · (intro w hSw; (try dsimp only at hSw); go_simp <;> with_reducible rfl)
  simp only [Act.put, List.setIfInBounds_toArray, List.set_cons_zero, List.set_cons_succ]
  refine wpAnyH_done (by kernel_rfl) ?_ _
  clear hHeld sy
  go_wp2
  go_ret
  have hg := gb_setO w ⟨br, 1, none⟩ (.int .i64 ((i + n : Nat) : Int))
  have hr := (HR.out.set (i + n) hn).drew
  simp only [Int.natCast_add] at hr hg
  exact ⟨rfl, hr, ⟨hg.os, hg.tape, hg.output, hg.size, hg.block⟩⟩

set_option maxRecDepth 100000 in
set_option maxHeartbeats 1000000 in
theorem rtake_no {w : World} {br : Nat} {s : ByteArray} {i : Nat} (h : RdV w br s i) (n : Nat) (hn : s.size < i + n) (hm : n ≤ 1000000000) :
    Calls Tryd.prog 82 #[.pointer (some ⟨br, 0, none⟩), .int .i64 n] w fun e w' => Fails e ∧ w.grownBy w' (some br) := by
  have c0 := h.c0
  have c1 := h.c1
  have z1 := h.fz 1
  have hi := h.le
  have HR : Hid _ := h
  have HS : Hid _ := h.sz
  have hs' : s.size ≤ 9223372036854775807 := by have := h.sz; unfold maxLen at this; omega
  clear h
  go_enter Tryd.func82, Tryd.ntmps82
  go_wp2_with fail
  refine wp_region_held_drew (S := (fun w' : World => w'.cell? ⟨br, 0, none⟩ = some (.string s) ∧ w'.cell? ⟨br, 1, none⟩ = some (.int .i64 i))) (by kernel_rfl) ⟨c0, c1⟩ (fun hHeld => ?_)
  refine wpAnyH_take (i := 0) (v := ?_) (get0 _ _) (by kernel_rfl) (by kernel_rfl) (by kernel_rfl) (fun _ _ _ h => h) (Or.inl ⟨by rfl, ?_⟩) (by assumption) ?_
  rotate_left
  · (intro w hSw; (try dsimp only at hSw); go_simp <;> with_reducible rfl)
  simp only [Act.put, List.setIfInBounds_toArray, List.set_cons_zero, List.set_cons_succ]
  refine wpAnyH_take (i := 1) (v := ?_) (get1 (get0 _ _)) (by kernel_rfl) (by kernel_rfl) (by kernel_rfl) (fun _ _ _ h => h) (Or.inl ⟨by rfl, ?_⟩) (by assumption) ?_
  rotate_left
  · (intro w hSw; (try dsimp only at hSw); go_simp <;> with_reducible rfl)
  simp only [Act.put, List.setIfInBounds_toArray, List.set_cons_zero, List.set_cons_succ]
  refine wpAnyH_take (i := 2) (v := ?_) (get1 (get1 (get0 _ _))) (by kernel_rfl) (by kernel_rfl) (by kernel_rfl) (fun _ _ _ h => h) (Or.inl ⟨by rfl, ?_⟩) (by assumption) ?_
  rotate_left
  · (intro w hSw; (try dsimp only at hSw); go_simp <;> with_reducible rfl)
  simp only [Act.put, List.setIfInBounds_toArray, List.set_cons_zero, List.set_cons_succ]
  refine wpAnyH_take (i := 3) (v := ?_) (get1 (get1 (get1 (get0 _ _)))) (by kernel_rfl) (by kernel_rfl) (by kernel_rfl) (fun _ _ _ h => h) (Or.inl ⟨by rfl, ?_⟩) (by assumption) ?_
  rotate_left
  · (intro w hSw; (try dsimp only at hSw); go_simp <;> with_reducible rfl)
  simp only [Act.put, List.setIfInBounds_toArray, List.set_cons_zero, List.set_cons_succ]
  refine wpAnyH_take (i := 4) (v := ?_) (get1 (get1 (get1 (get1 (get0 _ _))))) (by kernel_rfl) (by kernel_rfl) (by kernel_rfl) (fun _ _ _ h => h) (Or.inl ⟨by rfl, ?_⟩) (by assumption) ?_
  rotate_left
  · (intro w hSw; (try dsimp only at hSw); go_simp <;> with_reducible rfl)
  simp only [Act.put, List.setIfInBounds_toArray, List.set_cons_zero, List.set_cons_succ]
  refine wpAnyH_take (i := 5) (v := ?_) (get1 (get1 (get1 (get1 (get1 (get0 _ _)))))) (by kernel_rfl) (by kernel_rfl) (by kernel_rfl) (fun _ _ _ h => h) (Or.inl ⟨by rfl, ?_⟩) (by assumption) ?_
  rotate_left
  · (intro w hSw; (try dsimp only at hSw); go_simp <;> with_reducible rfl)
  simp only [Act.put, List.setIfInBounds_toArray, List.set_cons_zero, List.set_cons_succ]
  refine wpAnyH_take (i := 6) (v := ?_) (get1 (get1 (get1 (get1 (get1 (get1 (get0 _ _))))))) (by kernel_rfl) (by kernel_rfl) (by kernel_rfl) (fun _ _ _ h => h) (Or.inl ⟨by rfl, ?_⟩) (by assumption) ?_
  rotate_left
  · (intro w hSw; (try dsimp only at hSw); go_simp <;> with_reducible rfl)
  simp only [Act.put, List.setIfInBounds_toArray, List.set_cons_zero, List.set_cons_succ]
  refine wpAnyH_take (i := 7) (v := ?_) (get1 (get1 (get1 (get1 (get1 (get1 (get1 (get0 _ _)))))))) (by kernel_rfl) (by kernel_rfl) (by kernel_rfl) (fun _ _ _ h => h) (Or.inl ⟨by rfl, ?_⟩) (by assumption) ?_
  rotate_left
  · (intro w hSw; (try dsimp only at hSw); go_simp <;> with_reducible rfl)
  simp only [Act.put, List.setIfInBounds_toArray, List.set_cons_zero, List.set_cons_succ]
  refine wpAnyH_take (i := 8) (v := ?_) (get1 (get1 (get1 (get1 (get1 (get1 (get1 (get1 (get0 _ _))))))))) (by kernel_rfl) (by kernel_rfl) (by kernel_rfl) (fun _ _ _ h => h) (Or.inl ⟨by rfl, ?_⟩) (by assumption) ?_
  rotate_left
  · (intro w hSw; (try dsimp only at hSw); go_simp <;> with_reducible rfl)
  simp only [Act.put, List.setIfInBounds_toArray, List.set_cons_zero, List.set_cons_succ]
  refine wpAnyH_ready (rs := [9]) (by kernel_rfl) (by simp) ?_
  refine AllReadyH.cons (get1 (get1 (get1 (get1 (get1 (get1 (get1 (get1 (get1 (get0 _ _)))))))))) (fun K hK => ?_) AllReadyH.nil
  go_simp
  refine (piece_no s i n hi hn hm HS.out _).mono ?_
  rintro e y1 ⟨⟨c, rfl⟩, rfl⟩
  try go_wp2
  exact ⟨rfl, ⟨c, rfl⟩, ⟨rfl, rfl, rfl, Nat.le_refl _, fun _ _ _ => rfl⟩⟩

set_option maxRecDepth 100000 in
set_option maxHeartbeats 1000000 in
theorem rup_yes {w : World} {br : Nat} {s : ByteArray} {i : Nat} (h : RdV w br s i) (n : Nat) (hn : n ≤ 1000000000) (x : Int) (m : Nat) (hx : W.takeG 0 0 (W.tail s i) = some (x, m)) (hx0 : 0 ≤ x) (hxm : x ≤ n) :
    Calls Tryd.prog 83 #[.pointer (some ⟨br, 0, none⟩), .int .i64 n] w fun e w' => e = .returned (.int .i64 x) ∧ RdV w' br s (i + m) ∧ w.grownBy w' (some br) := by
  have c0 := h.c0
  have c1 := h.c1
  have hi := h.le
  have HR : Hid _ := h
  have HS : Hid _ := h.sz
  have HX : Hid _ := hx
  have hs' : s.size ≤ 9223372036854775807 := by have := h.sz; unfold maxLen at this; omega
  have hml : i + m ≤ s.size := by have := (takeG_len _ _ _ _ _ hx).2; have := W.tail_length s i; omega
  have d0 : decide ((n : Int) < x) = false := by simp; omega
  clear h hx
  go_enter Tryd.func83, Tryd.ntmps83
  go_wp2_with fail
  refine wp_region_held_drew (S := (fun w' : World => w'.cell? ⟨br, 0, none⟩ = some (.string s) ∧ w'.cell? ⟨br, 1, none⟩ = some (.int .i64 i))) (by kernel_rfl) ⟨c0, c1⟩ (fun hHeld => ?_)
  refine wpAnyH_take (i := 0) (v := ?_) (get0 _ _) (by kernel_rfl) (by kernel_rfl) (by kernel_rfl) (fun _ _ _ h => h) (Or.inl ⟨by rfl, ?_⟩) (by assumption) ?_
  rotate_left
  · (intro w hSw; (try dsimp only at hSw); go_simp <;> with_reducible rfl)
  simp only [Act.put, List.setIfInBounds_toArray, List.set_cons_zero, List.set_cons_succ]
  refine wpAnyH_take (i := 1) (v := ?_) (get1 (get0 _ _)) (by kernel_rfl) (by kernel_rfl) (by kernel_rfl) (fun _ _ _ h => h) (Or.inl ⟨by rfl, ?_⟩) (by assumption) ?_
  rotate_left
  · (intro w hSw; (try dsimp only at hSw); go_simp <;> with_reducible rfl)
  simp only [Act.put, List.setIfInBounds_toArray, List.set_cons_zero, List.set_cons_succ]
  refine wpAnyH_take (i := 2) (v := ?_) (get1 (get1 (get0 _ _))) (by kernel_rfl) (by kernel_rfl) (by kernel_rfl) (fun _ _ _ h => h) (Or.inl ⟨by rfl, ?_⟩) (by assumption) ?_
  rotate_left
  · (intro w hSw; (try dsimp only at hSw); go_simp <;> with_reducible rfl)
  simp only [Act.put, List.setIfInBounds_toArray, List.set_cons_zero, List.set_cons_succ]
  refine wpAnyH_take (i := 3) (v := ?_) (get1 (get1 (get1 (get0 _ _)))) (by kernel_rfl) (by kernel_rfl) (by kernel_rfl) (fun _ _ _ h => h) (Or.inl ⟨by rfl, ?_⟩) (by assumption) ?_
  rotate_left
  · (intro w hSw; (try dsimp only at hSw); go_simp <;> with_reducible rfl)
  simp only [Act.put, List.setIfInBounds_toArray, List.set_cons_zero, List.set_cons_succ]
  refine wpAnyH_take (i := 4) (v := ?_) (get1 (get1 (get1 (get1 (get0 _ _))))) (by kernel_rfl) (by kernel_rfl) (by kernel_rfl) (fun _ _ _ h => h) (Or.inl ⟨by rfl, ?_⟩) (by assumption) ?_
  rotate_left
  · (intro w hSw; (try dsimp only at hSw); go_simp <;> with_reducible rfl)
  simp only [Act.put, List.setIfInBounds_toArray, List.set_cons_zero, List.set_cons_succ]
  refine wpAnyH_take (i := 5) (v := ?_) (get1 (get1 (get1 (get1 (get1 (get0 _ _)))))) (by kernel_rfl) (by kernel_rfl) (by kernel_rfl) (fun _ _ _ h => h) (Or.inl ⟨by rfl, ?_⟩) (by assumption) ?_
  rotate_left
  · (intro w hSw; (try dsimp only at hSw); go_simp <;> with_reducible rfl)
  simp only [Act.put, List.setIfInBounds_toArray, List.set_cons_zero, List.set_cons_succ]
  refine wpAnyH_take (i := 6) (v := ?_) (get1 (get1 (get1 (get1 (get1 (get1 (get0 _ _))))))) (by kernel_rfl) (by kernel_rfl) (by kernel_rfl) (fun _ _ _ h => h) (Or.inl ⟨by rfl, ?_⟩) (by assumption) ?_
  rotate_left
  · (intro w hSw; (try dsimp only at hSw); go_simp <;> with_reducible rfl)
  simp only [Act.put, List.setIfInBounds_toArray, List.set_cons_zero, List.set_cons_succ]
  refine wpAnyH_take (i := 7) (v := ?_) (get1 (get1 (get1 (get1 (get1 (get1 (get1 (get0 _ _)))))))) (by kernel_rfl) (by kernel_rfl) (by kernel_rfl) (fun _ _ _ h => h) (Or.inl ⟨by rfl, ?_⟩) (by assumption) ?_
  rotate_left
  · (intro w hSw; (try dsimp only at hSw); go_simp <;> with_reducible rfl)
  simp only [Act.put, List.setIfInBounds_toArray, List.set_cons_zero, List.set_cons_succ]
  refine wpAnyH_ready (rs := [8]) (by kernel_rfl) (by simp) ?_
  refine AllReadyH.cons (get1 (get1 (get1 (get1 (get1 (get1 (get1 (get1 (get0 _ _))))))))) (fun K hK => ?_) AllReadyH.nil
  go_simp
  refine (num_yes s i hi HS.out x m HX.out _).mono ?_
  rintro e y1 ⟨rfl, hb1⟩
  have HR1 : Hid (RdV y1 br s i) := HR.out.drew.below hb1
  have sy : y1.cell? ⟨br, 0, none⟩ = some (.string s) ∧ y1.cell? ⟨br, 1, none⟩ = some (.int .i64 i) := ⟨HR1.out.c0, HR1.out.c1⟩
  clear hHeld
  try go_wp2_with fail
  refine hK.out _ _ sy (fun hHeld => ?_)
  clear hK K
  try simp only [Act.put, List.setIfInBounds_toArray, List.set_cons_zero, List.set_cons_succ]
  refine wpAnyH_take (i := 9) (v := ?_) (get1 (get1 (get1 (get1 (get1 (get1 (get1 (get1 (get1 (get0 _ _)))))))))) (by kernel_rfl) (by kernel_rfl) (by kernel_rfl) (fun _ _ _ h => h) (Or.inl ⟨by rfl, ?_⟩) (by assumption) ?_
  rotate_left
  · (intro w hSw; (try dsimp only at hSw); go_simp <;> with_reducible rfl)
  simp only [Act.put, List.setIfInBounds_toArray, List.set_cons_zero, List.set_cons_succ]
  refine wpAnyH_take (i := 10) (v := ?_) (get1 (get1 (get1 (get1 (get1 (get1 (get1 (get1 (get1 (get1 (get0 _ _))))))))))) (by kernel_rfl) (by kernel_rfl) (by kernel_rfl) (fun _ _ _ h => h) (Or.inl ⟨by rfl, ?_⟩) (by assumption) ?_
  rotate_left
  · (intro w hSw; (try dsimp only at hSw); go_simp <;> with_reducible rfl)
  simp only [Act.put, List.setIfInBounds_toArray, List.set_cons_zero, List.set_cons_succ]
  refine wpAnyH_take (i := 11) (v := ?_) (get1 (get1 (get1 (get1 (get1 (get1 (get1 (get1 (get1 (get1 (get1 (get0 _ _)))))))))))) (by kernel_rfl) (by kernel_rfl) (by kernel_rfl) (fun _ _ _ h => h) (Or.inl ⟨by rfl, ?_⟩) (by assumption) ?_
  rotate_left
  · (intro w hSw; (try dsimp only at hSw); go_simp <;> with_reducible rfl)
  simp only [Act.put, List.setIfInBounds_toArray, List.set_cons_zero, List.set_cons_succ]
  refine wpAnyH_take (i := 12) (v := ?_) (get1 (get1 (get1 (get1 (get1 (get1 (get1 (get1 (get1 (get1 (get1 (get1 (get0 _ _))))))))))))) (by kernel_rfl) (by kernel_rfl) (by kernel_rfl) (fun _ _ _ h => h) (Or.inl ⟨by rfl, ?_⟩) (by assumption) ?_
  rotate_left
  · (intro w hSw; (try dsimp only at hSw); go_simp <;> with_reducible rfl)
  simp only [Act.put, List.setIfInBounds_toArray, List.set_cons_zero, List.set_cons_succ]
  refine wpAnyH_take (i := 13) (v := ?_) (get1 (get1 (get1 (get1 (get1 (get1 (get1 (get1 (get1 (get1 (get1 (get1 (get1 (get0 _ _)))))))))))))) (by kernel_rfl) (by kernel_rfl) (by kernel_rfl) (fun _ _ _ h => h) (Or.inl ⟨by rfl, ?_⟩) (by assumption) ?_
  rotate_left
  · (intro w hSw; (try dsimp only at hSw); go_simp <;> with_reducible rfl)
  simp only [Act.put, List.setIfInBounds_toArray, List.set_cons_zero, List.set_cons_succ]
  refine wpAnyH_done (by kernel_rfl) ?_ _
  have j1 := HR1.out.c1
  have z1 := HR1.out.fz 1
  clear hHeld sy
  go_wp2
  go_ret
  have hg := gb_setO y1 ⟨br, 1, none⟩ (.int .i64 ((i + m : Nat) : Int))
  have hr := HR1.out.set (i + m) hml
  have gw : w.grownBy (y1.setCell ⟨br, 1, none⟩ (.int .i64 ((i + m : Nat) : Int))) (some br) := ⟨hg.os.trans hb1.os, hg.tape.trans hb1.tape, hg.output.trans hb1.output, Nat.le_trans hb1.size hg.size, fun k hk hne => (hg.block k (Nat.lt_of_lt_of_le hk hb1.size) hne).trans (hb1.block k hk)⟩
  simp only [Int.natCast_add] at hr gw
  exact ⟨rfl, hr, gw⟩

set_option maxRecDepth 100000 in
set_option maxHeartbeats 1000000 in
theorem rup_no {w : World} {br : Nat} {s : ByteArray} {i : Nat} (h : RdV w br s i) (n : Nat) (hn : n ≤ 1000000000) (hx : W.takeG 0 0 (W.tail s i) = none) :
    Calls Tryd.prog 83 #[.pointer (some ⟨br, 0, none⟩), .int .i64 n] w fun e w' => Fails e ∧ w.grownBy w' (some br) := by
  have c0 := h.c0
  have c1 := h.c1
  have hi := h.le
  have HR : Hid _ := h
  have HS : Hid _ := h.sz
  have HX : Hid _ := hx
  have hs' : s.size ≤ 9223372036854775807 := by have := h.sz; unfold maxLen at this; omega
  clear h hx
  go_enter Tryd.func83, Tryd.ntmps83
  go_wp2_with fail
  refine wp_region_held_drew (S := (fun w' : World => w'.cell? ⟨br, 0, none⟩ = some (.string s) ∧ w'.cell? ⟨br, 1, none⟩ = some (.int .i64 i))) (by kernel_rfl) ⟨c0, c1⟩ (fun hHeld => ?_)
  refine wpAnyH_take (i := 0) (v := ?_) (get0 _ _) (by kernel_rfl) (by kernel_rfl) (by kernel_rfl) (fun _ _ _ h => h) (Or.inl ⟨by rfl, ?_⟩) (by assumption) ?_
  rotate_left
  · (intro w hSw; (try dsimp only at hSw); go_simp <;> with_reducible rfl)
  simp only [Act.put, List.setIfInBounds_toArray, List.set_cons_zero, List.set_cons_succ]
  refine wpAnyH_take (i := 1) (v := ?_) (get1 (get0 _ _)) (by kernel_rfl) (by kernel_rfl) (by kernel_rfl) (fun _ _ _ h => h) (Or.inl ⟨by rfl, ?_⟩) (by assumption) ?_
  rotate_left
  · (intro w hSw; (try dsimp only at hSw); go_simp <;> with_reducible rfl)
  simp only [Act.put, List.setIfInBounds_toArray, List.set_cons_zero, List.set_cons_succ]
  refine wpAnyH_take (i := 2) (v := ?_) (get1 (get1 (get0 _ _))) (by kernel_rfl) (by kernel_rfl) (by kernel_rfl) (fun _ _ _ h => h) (Or.inl ⟨by rfl, ?_⟩) (by assumption) ?_
  rotate_left
  · (intro w hSw; (try dsimp only at hSw); go_simp <;> with_reducible rfl)
  simp only [Act.put, List.setIfInBounds_toArray, List.set_cons_zero, List.set_cons_succ]
  refine wpAnyH_take (i := 3) (v := ?_) (get1 (get1 (get1 (get0 _ _)))) (by kernel_rfl) (by kernel_rfl) (by kernel_rfl) (fun _ _ _ h => h) (Or.inl ⟨by rfl, ?_⟩) (by assumption) ?_
  rotate_left
  · (intro w hSw; (try dsimp only at hSw); go_simp <;> with_reducible rfl)
  simp only [Act.put, List.setIfInBounds_toArray, List.set_cons_zero, List.set_cons_succ]
  refine wpAnyH_take (i := 4) (v := ?_) (get1 (get1 (get1 (get1 (get0 _ _))))) (by kernel_rfl) (by kernel_rfl) (by kernel_rfl) (fun _ _ _ h => h) (Or.inl ⟨by rfl, ?_⟩) (by assumption) ?_
  rotate_left
  · (intro w hSw; (try dsimp only at hSw); go_simp <;> with_reducible rfl)
  simp only [Act.put, List.setIfInBounds_toArray, List.set_cons_zero, List.set_cons_succ]
  refine wpAnyH_take (i := 5) (v := ?_) (get1 (get1 (get1 (get1 (get1 (get0 _ _)))))) (by kernel_rfl) (by kernel_rfl) (by kernel_rfl) (fun _ _ _ h => h) (Or.inl ⟨by rfl, ?_⟩) (by assumption) ?_
  rotate_left
  · (intro w hSw; (try dsimp only at hSw); go_simp <;> with_reducible rfl)
  simp only [Act.put, List.setIfInBounds_toArray, List.set_cons_zero, List.set_cons_succ]
  refine wpAnyH_take (i := 6) (v := ?_) (get1 (get1 (get1 (get1 (get1 (get1 (get0 _ _))))))) (by kernel_rfl) (by kernel_rfl) (by kernel_rfl) (fun _ _ _ h => h) (Or.inl ⟨by rfl, ?_⟩) (by assumption) ?_
  rotate_left
  · (intro w hSw; (try dsimp only at hSw); go_simp <;> with_reducible rfl)
  simp only [Act.put, List.setIfInBounds_toArray, List.set_cons_zero, List.set_cons_succ]
  refine wpAnyH_take (i := 7) (v := ?_) (get1 (get1 (get1 (get1 (get1 (get1 (get1 (get0 _ _)))))))) (by kernel_rfl) (by kernel_rfl) (by kernel_rfl) (fun _ _ _ h => h) (Or.inl ⟨by rfl, ?_⟩) (by assumption) ?_
  rotate_left
  · (intro w hSw; (try dsimp only at hSw); go_simp <;> with_reducible rfl)
  simp only [Act.put, List.setIfInBounds_toArray, List.set_cons_zero, List.set_cons_succ]
  refine wpAnyH_ready (rs := [8]) (by kernel_rfl) (by simp) ?_
  refine AllReadyH.cons (get1 (get1 (get1 (get1 (get1 (get1 (get1 (get1 (get0 _ _))))))))) (fun K hK => ?_) AllReadyH.nil
  go_simp
  refine (num_no s i hi HS.out HX.out _).mono ?_
  rintro e y1 ⟨⟨c, rfl⟩, hb1⟩
  try go_wp2
  exact ⟨rfl, ⟨c, rfl⟩, ⟨hb1.os, hb1.tape, hb1.output, hb1.size, fun k hk _ => hb1.block k hk⟩⟩

set_option maxRecDepth 100000 in
set_option maxHeartbeats 1000000 in
theorem rup_big {w : World} {br : Nat} {s : ByteArray} {i : Nat} (h : RdV w br s i) (n : Nat) (hn : n ≤ 1000000000) (x : Int) (m : Nat) (hx : W.takeG 0 0 (W.tail s i) = some (x, m)) (hxm : (n : Int) < x) :
    Calls Tryd.prog 83 #[.pointer (some ⟨br, 0, none⟩), .int .i64 n] w fun e w' => Fails e ∧ w.grownBy w' (some br) := by
  have c0 := h.c0
  have c1 := h.c1
  have hi := h.le
  have HR : Hid _ := h
  have HS : Hid _ := h.sz
  have HX : Hid _ := hx
  have hs' : s.size ≤ 9223372036854775807 := by have := h.sz; unfold maxLen at this; omega
  have hml : i + m ≤ s.size := by have := (takeG_len _ _ _ _ _ hx).2; have := W.tail_length s i; omega
  have d0 : decide ((n : Int) < x) = true := by simp; omega
  clear h hx
  go_enter Tryd.func83, Tryd.ntmps83
  go_wp2_with fail
  refine wp_region_held_drew (S := (fun w' : World => w'.cell? ⟨br, 0, none⟩ = some (.string s) ∧ w'.cell? ⟨br, 1, none⟩ = some (.int .i64 i))) (by kernel_rfl) ⟨c0, c1⟩ (fun hHeld => ?_)
  refine wpAnyH_take (i := 0) (v := ?_) (get0 _ _) (by kernel_rfl) (by kernel_rfl) (by kernel_rfl) (fun _ _ _ h => h) (Or.inl ⟨by rfl, ?_⟩) (by assumption) ?_
  rotate_left
  · (intro w hSw; (try dsimp only at hSw); go_simp <;> with_reducible rfl)
  simp only [Act.put, List.setIfInBounds_toArray, List.set_cons_zero, List.set_cons_succ]
  refine wpAnyH_take (i := 1) (v := ?_) (get1 (get0 _ _)) (by kernel_rfl) (by kernel_rfl) (by kernel_rfl) (fun _ _ _ h => h) (Or.inl ⟨by rfl, ?_⟩) (by assumption) ?_
  rotate_left
  · (intro w hSw; (try dsimp only at hSw); go_simp <;> with_reducible rfl)
  simp only [Act.put, List.setIfInBounds_toArray, List.set_cons_zero, List.set_cons_succ]
  refine wpAnyH_take (i := 2) (v := ?_) (get1 (get1 (get0 _ _))) (by kernel_rfl) (by kernel_rfl) (by kernel_rfl) (fun _ _ _ h => h) (Or.inl ⟨by rfl, ?_⟩) (by assumption) ?_
  rotate_left
  · (intro w hSw; (try dsimp only at hSw); go_simp <;> with_reducible rfl)
  simp only [Act.put, List.setIfInBounds_toArray, List.set_cons_zero, List.set_cons_succ]
  refine wpAnyH_take (i := 3) (v := ?_) (get1 (get1 (get1 (get0 _ _)))) (by kernel_rfl) (by kernel_rfl) (by kernel_rfl) (fun _ _ _ h => h) (Or.inl ⟨by rfl, ?_⟩) (by assumption) ?_
  rotate_left
  · (intro w hSw; (try dsimp only at hSw); go_simp <;> with_reducible rfl)
  simp only [Act.put, List.setIfInBounds_toArray, List.set_cons_zero, List.set_cons_succ]
  refine wpAnyH_take (i := 4) (v := ?_) (get1 (get1 (get1 (get1 (get0 _ _))))) (by kernel_rfl) (by kernel_rfl) (by kernel_rfl) (fun _ _ _ h => h) (Or.inl ⟨by rfl, ?_⟩) (by assumption) ?_
  rotate_left
  · (intro w hSw; (try dsimp only at hSw); go_simp <;> with_reducible rfl)
  simp only [Act.put, List.setIfInBounds_toArray, List.set_cons_zero, List.set_cons_succ]
  refine wpAnyH_take (i := 5) (v := ?_) (get1 (get1 (get1 (get1 (get1 (get0 _ _)))))) (by kernel_rfl) (by kernel_rfl) (by kernel_rfl) (fun _ _ _ h => h) (Or.inl ⟨by rfl, ?_⟩) (by assumption) ?_
  rotate_left
  · (intro w hSw; (try dsimp only at hSw); go_simp <;> with_reducible rfl)
  simp only [Act.put, List.setIfInBounds_toArray, List.set_cons_zero, List.set_cons_succ]
  refine wpAnyH_take (i := 6) (v := ?_) (get1 (get1 (get1 (get1 (get1 (get1 (get0 _ _))))))) (by kernel_rfl) (by kernel_rfl) (by kernel_rfl) (fun _ _ _ h => h) (Or.inl ⟨by rfl, ?_⟩) (by assumption) ?_
  rotate_left
  · (intro w hSw; (try dsimp only at hSw); go_simp <;> with_reducible rfl)
  simp only [Act.put, List.setIfInBounds_toArray, List.set_cons_zero, List.set_cons_succ]
  refine wpAnyH_take (i := 7) (v := ?_) (get1 (get1 (get1 (get1 (get1 (get1 (get1 (get0 _ _)))))))) (by kernel_rfl) (by kernel_rfl) (by kernel_rfl) (fun _ _ _ h => h) (Or.inl ⟨by rfl, ?_⟩) (by assumption) ?_
  rotate_left
  · (intro w hSw; (try dsimp only at hSw); go_simp <;> with_reducible rfl)
  simp only [Act.put, List.setIfInBounds_toArray, List.set_cons_zero, List.set_cons_succ]
  refine wpAnyH_ready (rs := [8]) (by kernel_rfl) (by simp) ?_
  refine AllReadyH.cons (get1 (get1 (get1 (get1 (get1 (get1 (get1 (get1 (get0 _ _))))))))) (fun K hK => ?_) AllReadyH.nil
  go_simp
  refine (num_yes s i hi HS.out x m HX.out _).mono ?_
  rintro e y1 ⟨rfl, hb1⟩
  have HR1 : Hid (RdV y1 br s i) := HR.out.drew.below hb1
  have sy : y1.cell? ⟨br, 0, none⟩ = some (.string s) ∧ y1.cell? ⟨br, 1, none⟩ = some (.int .i64 i) := ⟨HR1.out.c0, HR1.out.c1⟩
  clear hHeld
  try go_wp2_with fail
  refine hK.out _ _ sy (fun hHeld => ?_)
  clear hK K
  try simp only [Act.put, List.setIfInBounds_toArray, List.set_cons_zero, List.set_cons_succ]
  refine wpAnyH_take (i := 9) (v := ?_) (get1 (get1 (get1 (get1 (get1 (get1 (get1 (get1 (get1 (get0 _ _)))))))))) (by kernel_rfl) (by kernel_rfl) (by kernel_rfl) (fun _ _ _ h => h) (Or.inl ⟨by rfl, ?_⟩) (by assumption) ?_
  rotate_left
  · (intro w hSw; (try dsimp only at hSw); go_simp <;> with_reducible rfl)
  simp only [Act.put, List.setIfInBounds_toArray, List.set_cons_zero, List.set_cons_succ]
  refine wpAnyH_take (i := 10) (v := ?_) (get1 (get1 (get1 (get1 (get1 (get1 (get1 (get1 (get1 (get1 (get0 _ _))))))))))) (by kernel_rfl) (by kernel_rfl) (by kernel_rfl) (fun _ _ _ h => h) (Or.inl ⟨by rfl, ?_⟩) (by assumption) ?_
  rotate_left
  · (intro w hSw; (try dsimp only at hSw); go_simp <;> with_reducible rfl)
  simp only [Act.put, List.setIfInBounds_toArray, List.set_cons_zero, List.set_cons_succ]
  refine wpAnyH_take (i := 11) (v := ?_) (get1 (get1 (get1 (get1 (get1 (get1 (get1 (get1 (get1 (get1 (get1 (get0 _ _)))))))))))) (by kernel_rfl) (by kernel_rfl) (by kernel_rfl) (fun _ _ _ h => h) (Or.inl ⟨by rfl, ?_⟩) (by assumption) ?_
  rotate_left
  · (intro w hSw; (try dsimp only at hSw); go_simp <;> with_reducible rfl)
  simp only [Act.put, List.setIfInBounds_toArray, List.set_cons_zero, List.set_cons_succ]
  refine wpAnyH_take (i := 12) (v := ?_) (get1 (get1 (get1 (get1 (get1 (get1 (get1 (get1 (get1 (get1 (get1 (get1 (get0 _ _))))))))))))) (by kernel_rfl) (by kernel_rfl) (by kernel_rfl) (fun _ _ _ h => h) (Or.inl ⟨by rfl, ?_⟩) (by assumption) ?_
  rotate_left
  · (intro w hSw; (try dsimp only at hSw); go_simp <;> with_reducible rfl)
  simp only [Act.put, List.setIfInBounds_toArray, List.set_cons_zero, List.set_cons_succ]
  refine wpAnyH_take (i := 13) (v := ?_) (get1 (get1 (get1 (get1 (get1 (get1 (get1 (get1 (get1 (get1 (get1 (get1 (get1 (get0 _ _)))))))))))))) (by kernel_rfl) (by kernel_rfl) (by kernel_rfl) (fun _ _ _ h => h) (Or.inl ⟨by rfl, ?_⟩) (by assumption) ?_
  rotate_left
  · (intro w hSw; (try dsimp only at hSw); go_simp <;> with_reducible rfl)
  simp only [Act.put, List.setIfInBounds_toArray, List.set_cons_zero, List.set_cons_succ]
  refine wpAnyH_done (by kernel_rfl) ?_ _
  have j1 := HR1.out.c1
  have z1 := HR1.out.fz 1
  clear hHeld sy
  go_wp2
  exact ⟨rfl, ⟨_, rfl⟩, ⟨hb1.os, hb1.tape, hb1.output, hb1.size, fun k hk _ => hb1.block k hk⟩⟩

end Go.Proofs.YtffokdldgdjkhaaDoor

/- (Of WordGroups: without All.) What word.appendGroups and All come to. -/
namespace Go.Proofs.YtffokdldgdjkhaaDoor
set_option maxRecDepth 100000
open Go.RowKit

set_option maxHeartbeats 400000 in
theorem groups_any (B m : Nat) (v : Value) (xs : List Int) (u : Int) (h0 : 0 ≤ u) (h1 : u ≤ 18446744073709551615) (w : World)
    (hown : w.ownsRow B 5 1 v m (xs.map (Value.int .u8))) (hB : B ≤ w.heap.size) (hm : m + 10 ≤ 140737488355328) :
    Calls Tryd.prog 74 #[v, .int .u64 u] w fun e w' => ∃ v', e = .returned v' ∧ w'.ownsRow B 5 1 v' (m + (W.put u).length) ((xs ++ W.put u).map (Value.int .u8)) ∧ Below B w w' := by
  obtain ⟨i0, hi, hz0, hz1, hz2⟩ := info_parts infoB
  have HT : Hid (u < 2 * 128 ^ 9) := W.fuel_top u h1
  clear h1
  go_enter Tryd.func74, Tryd.ntmps74
  go_wp2
  go_loopw [0, 1] (fun t s wr => ∃ (f : Nat) (x : Int) (ys : List Int), s = .int .u64 x ∧ 0 ≤ x ∧ Hid (x < 2 * 128 ^ f ∧ W.put u = ys ++ W.grps f x) ∧ ys.length + f ≤ 9 ∧ wr.ownsRow B 5 1 t (m + ys.length) ((xs ++ ys).map (Value.int .u8)) ∧ Below B w wr) (fun _ s _ => (intOf s).toNat)
  case atStart => exact ⟨9, u, [], rfl, h0, ⟨HT.out, rfl⟩, by simp, by simpa using hown, Below.refl _ _⟩
  case round =>
    obtain ⟨f, x, ys, rfl, hx0, HX, hl, ho, hb⟩ := hrel
    have hand := W.and127_u x
    by_cases hlt : 128 ≤ x
    · go_wp2_with (first | (at_builtin; refine wpList_append_own _ rfl _ _ 74 rfl B 5 i0 (.int .u8 0) 1 1 Tryd.underlying74 hi hz0 hz1 hz2 rfl (by decide) _ _ _ rfl (ho.alloc _) ⟨wr.heap.size, 0, none⟩ 1 1 [.int .u8 (x % 128 + 128)] rfl rfl (cell_one_new _ _ _) (by intro u hu; simp at hu; subst hu; rfl) (by unfold maxLen; omega) (by omega) (by have := hb.size; simp; omega) ?_) | go_in)
      intro v1 w1 ho1 hg1 _
      have hbx : Below B w w1 := below_own (hb.alloc (by have := hb.size; omega) _) (ho.alloc _) hg1 (by have := hb.size; simp; omega)
      have hy : (xs ++ ys).map (Value.int .u8) ++ [Value.int .u8 (x % 128 + 128)] = (xs ++ (ys ++ [x % 128 + 128])).map (Value.int .u8) := by simp
      have ho2 : w1.ownsRow B 5 1 v1 (m + (ys ++ [x % 128 + 128]).length) ((xs ++ (ys ++ [x % 128 + 128])).map (Value.int .u8)) := by rw [← hy]; simpa [Nat.add_assoc] using ho1
      clear hg1 hy ho hand ho1
      go_wp2
      go_roundw
      case rel =>
        obtain ⟨g, rfl, hg⟩ := W.fuel_step f x hlt HX.out.1
        refine ⟨g, x / 128, ys ++ [x % 128 + 128], rfl, by omega, ⟨hg, ?_⟩, by simp; omega, ho2, hbx⟩
        rw [HX.out.2, W.grps_step g x hlt]; simp
      case measure => simp [intOf]; omega
    · go_wp2_with (first | (at_builtin; refine wpList_append_own _ rfl _ _ 74 rfl B 5 i0 (.int .u8 0) 1 1 Tryd.underlying74 hi hz0 hz1 hz2 rfl (by decide) _ _ _ rfl (ho.alloc _) ⟨wr.heap.size, 0, none⟩ 1 1 [.int .u8 (x)] rfl rfl (cell_one_new _ _ _) (by intro u hu; simp at hu; subst hu; rfl) (by unfold maxLen; omega) (by omega) (by have := hb.size; simp; omega) ?_) | go_in)
      intro v1 w1 ho1 hg1 _
      have hbx : Below B w w1 := below_own (hb.alloc (by have := hb.size; omega) _) (ho.alloc _) hg1 (by have := hb.size; simp; omega)
      have hy : (xs ++ ys).map (Value.int .u8) ++ [Value.int .u8 x] = (xs ++ W.put u).map (Value.int .u8) := by
        rw [HX.out.2, W.grps_last f x (by omega)]; simp
      have hn : m + ys.length + 1 = m + (W.put u).length := by rw [HX.out.2, W.grps_last f x (by omega)]; simp; omega
      have ho2 : w1.ownsRow B 5 1 v1 (m + (W.put u).length) ((xs ++ W.put u).map (Value.int .u8)) := by rw [← hy, ← hn]; simpa using ho1
      clear hg1 hy ho hand hn ho1
      go_wp2
      go_ret
      exact ⟨_, rfl, ho2, hbx⟩

end Go.Proofs.YtffokdldgdjkhaaDoor

/- What word.Put comes to. -/
namespace Go.Proofs.YtffokdldgdjkhaaDoor
set_option maxRecDepth 100000
open Go.RowKit

set_option maxHeartbeats 400000 in
theorem put_any (u : Int) (h0 : 0 ≤ u) (h1 : u ≤ 18446744073709551615) (w : World) :
    Calls Tryd.prog 52 #[.int .u64 u] w fun e w' => e = .returned (.string (strOfNums (W.put u))) ∧ Below w.heap.size w w' := by
  have H1 : Hid (u ≤ 18446744073709551615) := h1
  clear h1
  go_enter Tryd.func52, Tryd.ntmps52
  go_wp2_with fail
  refine (groups_any w.heap.size 0 (.slice none 0 0) [] u h0 H1.out w (World.ownsRow_nil _ _ _ _) (Nat.le_refl _) (by omega)).mono ?_
  rintro e w1 ⟨v1, rfl, ho, hb⟩
  have hcv := conv_own ho
  simp only [List.nil_append] at hcv
  clear ho
  go_wp2
  go_ret
  exact ⟨rfl, hb⟩

end Go.Proofs.YtffokdldgdjkhaaDoor

/- append of a string's bytes onto a row of the call's own, and where the new row lies; rows that grow. -/
namespace Go.Proofs.YtffokdldgdjkhaaDoor
set_option maxRecDepth 100000
open Go.RowKit Go.Maps Go.Lib

/-- Nothing was turned but the row, and new blocks; the new row lies where the old one did, or behind all. -/
structure Gr (w w' : World) (v v' : Value) : Prop where
  grown : w.grownBy w' v.ownBlock
  lies : ∀ g, v'.ownBlock = some g → v.ownBlock = some g ∨ w.heap.size ≤ g
theorem Gr.refl (w : World) (v : Value) : Gr w w v v := ⟨⟨rfl, rfl, rfl, Nat.le_refl _, fun _ _ _ => rfl⟩, fun _ h => .inl h⟩
theorem Gr.trans {w w1 w2 : World} {v v1 v2 : Value} (h : Gr w w1 v v1) (k : Gr w1 w2 v1 v2) : Gr w w2 v v2 := by
  refine ⟨⟨k.grown.os.trans h.grown.os, k.grown.tape.trans h.grown.tape, k.grown.output.trans h.grown.output, Nat.le_trans h.grown.size k.grown.size, fun j hj hne => ?_⟩, fun g hg => ?_⟩
  · refine (k.grown.block j (Nat.lt_of_lt_of_le hj h.grown.size) (fun e => ?_)).trans (h.grown.block j hj hne)
    rcases h.lies j e.symm with h1 | h1
    · exact hne h1.symm
    · omega
  · rcases k.lies g hg with h1 | h1
    · exact h.lies g h1
    · exact .inr (Nat.le_trans h.grown.size h1)
theorem Gr.below {w w1 : World} (v : Value) (h : Below w.heap.size w w1) : Gr w w1 v v := ⟨⟨h.os, h.tape, h.output, h.size, fun k hk _ => h.block k hk⟩, fun _ h => .inl h⟩
theorem Gr.cell {w w' : World} {v v' : Value} (h : Gr w w' v v') {b o : Nat} {u : Value} (hc : w.cell? ⟨b, o, none⟩ = some u) (hne : v.ownBlock ≠ some b) : w'.cell? ⟨b, o, none⟩ = some u := h.grown.cell hc (fun e => hne e.symm)
theorem Gr.toBelow {w w' : World} {v v' : Value} {B : Nat} (h : Gr w w' v v') (hB : B ≤ w.heap.size) (hv : ∀ g, v.ownBlock = some g → B ≤ g) : Below B w w' := (Below.refl B w).grown h.grown hB hv

theorem str_lies {w : World} {B : Nat} {v : Value} {n : Nat} {xs : List Value} (ty : TypeId) (hown : w.ownsRow B 5 1 v n xs) (s : ByteArray) (hbytes : n + s.size ≤ 140737488355328) (hbase : B ≤ w.heap.size) :
    ∃ v' w', (Builtin.append_ #[74, 9] ty #[v, .string s]).run Tryd.prog w = .ok v' w' ∧ w'.ownsRow B 5 1 v' (n + s.size) (xs ++ strCells s) ∧ Gr w w' v v' := by
  obtain ⟨i0, hi, hz0, hz1, hz2⟩ := info_parts infoB
  obtain ⟨v', w', hr, ho, hg, hnil⟩ := run_append_own_string (P := Tryd.prog) w B 74 9 ty 5 i0 Tryd.underlying74 Tryd.underlying9 hi hz0 hz1 hz2 v n xs hown s (by unfold maxLen; omega) hbytes hbase
  refine ⟨v', w', hr, ho, hg, fun g hgv => ?_⟩
  have hsrc : Src Tryd.prog i0.size 9 (.string s) s.size (byteCells s) w := by rw [hz1]; exact Src.ofString w Tryd.underlying9 s
  have grow : ∀ (bs : Option Addr) (c : Nat) (olds : List Value), v = .slice bs n c → c < n + s.size → (Builtin.firstCells i0.size n (.slice bs n c)).run Tryd.prog w.drew = .ok olds.toArray w.drew → w.heap.size ≤ g := by
    intro bs c olds hv hc hold
    have hr2 := run_append_grow_src (P := Tryd.prog) w 74 9 ty 5 i0 (.int .u8 0) Tryd.underlying74 hi hz0 bs n c olds hold (.string s) s.size (byteCells s) hsrc hc (by omega) (growslice_fits hc (by rw [hz2]; omega))
    rw [← hv, hr] at hr2
    injection hr2 with e1 e2
    rw [e1] at hgv
    simp [Value.ownBlock] at hgv
    omega
  rcases hown.2 with ⟨rfl, rfl⟩ | ⟨g0, cap, cur, rfl, hb, hh, h1, h2, h3, h4⟩
  · by_cases hs : s.size = 0
    · have := hnil.2 ⟨rfl, hs⟩
      rw [this] at hgv
      simp [Value.ownBlock] at hgv
    · exact .inr (grow none 0 [] rfl (by omega) (run_firstCells_none w.drew i0.size 0 0 0))
  · by_cases hroom : n + s.size ≤ cap
    · have hr2 := run_append_room_src (P := Tryd.prog) w 74 9 ty 5 i0 Tryd.underlying74 hi g0 0 n cap (.string s) s.size (byteCells s) hsrc hroom (by
        intro j hj
        rw [byteCells_length] at hj
        rw [cell_of_row w g0 _ cur 5 (0, 0) hh, hz1]
        simp
        omega) (by
        intro j hj
        unfold World.frozen?
        rw [hh]
        simp)
      rw [hr] at hr2
      injection hr2 with e1 e2
      rw [e1] at hgv
      exact .inl hgv
    · refine .inr (grow _ cap xs rfl (by omega) ?_)
      rw [hz1]
      exact run_firstCells_some w.drew 1 n ⟨g0, 0, none⟩ n cap xs (by simpa using hown.1) (fun j u hu => by
        have hj : j < n := by have := (List.getElem?_eq_some_iff.1 hu).1; have := hown.1; omega
        rw [Addr.add_lit, Nat.zero_add, World.cell?_drew, hown.cellAt j (by omega)]
        exact hu)

theorem wpList_append_str {ops : Array Oper} {rest : List Oper} {o : Oper} {a : Act} {Q : Exit → Act → World → Prop} {w : World} (hgd : o.guard = none) (sl x : Operand)
    (ho : o.op = .call { callee := .builtin .append, args := #[sl, x], argTypes := #[74, 9] })
    {B : Nat} {v : Value} {n : Nat} {xs : List Value} (hs : a.eval sl = v) (hown : w.ownsRow B 5 1 v n xs) (s : ByteArray) (hx : a.eval x = .string s)
    (hbytes : n + s.size ≤ 140737488355328) (hbase : B ≤ w.heap.size)
    (h : ∀ v' w', w'.ownsRow B 5 1 v' (n + s.size) (xs ++ strCells s) → Gr w w' v v' → wpList Tryd.prog ops Q rest (a.put o.dst v') w') : wpList Tryd.prog ops Q (o :: rest) a w := by
  refine wpList_plain hgd fun K hK => ?_
  obtain ⟨v', w', hr, h2, h3⟩ := str_lies o.type hown s hbytes hbase
  unfold Oper.wp execOp
  simp only [ho, resolve, invoke, builtin, Sem.run_bind, Sem.run_pure, Result.andThen_ok, List.map_toArray, List.map_cons, List.map_nil, hs, hx, hr]
  exact hK _ _ (h v' w' h2 h3)

end Go.Proofs.YtffokdldgdjkhaaDoor

/- What package put comes to. -/
namespace Go.Proofs.YtffokdldgdjkhaaDoor
set_option maxRecDepth 100000
open Go.RowKit Go.Maps Go.Lib
set_option linter.unusedVariables false

def nums (s : ByteArray) : List Int := W.tail s 0
theorem strCells_nums (s : ByteArray) : strCells s = (nums s).map (Value.int .u8) := by
  unfold strCells nums W.tail
  simp
theorem nums_len (s : ByteArray) : (nums s).length = s.size := by
  have := congrArg List.length (strCells_nums s)
  rw [strCells_length, List.length_map] at this
  exact this.symm
theorem nums_of {zs : List Int} (h : ∀ n ∈ zs, 0 ≤ n ∧ n ≤ 255) : nums (strOfNums zs) = zs := by
  unfold nums
  rw [W.tail_nums zs h 0, List.drop_zero]
theorem size_of {zs : List Int} (h : ∀ n ∈ zs, 0 ≤ n ∧ n ≤ 255) : (strOfNums zs).size = zs.length := by
  rw [← nums_len, nums_of h]

abbrev RowB (w : World) (B : Nat) (v : Value) (xs : List Int) : Prop := w.ownsRow B 5 1 v xs.length (xs.map (Value.int .u8))

/-- What is written: a text, eight bytes, a symbol, a relocation. -/
def txt (s : ByteArray) : List Int := W.put s.size ++ nums s
def long (n : Int) : List Int := W.bytesV n 8
def symB (s : Sym) : List Int := txt s.name ++ ([s.kind] ++ W.put s.pos)
def relB (r : Rel) : List Int := W.put r.pos ++ ([r.kind] ++ (txt r.name ++ long r.add))

theorem long_len {n : Int} (h : (Lit.int .i64 n).wf = true) : (long n).length = 8 ∧ ∀ x ∈ long n, 0 ≤ x ∧ x ≤ 255 := by
  have hE := (W.num_back n h).1
  unfold long
  unfold W.bytesE at hE
  unfold W.bytesV
  rw [if_pos (by decide)] at hE ⊢
  by_cases c : W.sx 8 n = n
  · rw [if_pos c]
    exact ⟨W.bytesOf_length _ _, W.bytesOf_bd _ _⟩
  · rw [if_neg c] at hE
    cases hE

theorem row_is {w1 : World} {B : Nat} {v' : Value} {ys : List Int} {cs : List Value} {n : Nat} (h : w1.ownsRow B 5 1 v' n cs) (hc : cs = ys.map (Value.int .u8)) : RowB w1 B v' ys := by
  subst hc
  have e : ys.length = n := by simpa using h.1
  subst e
  exact h

set_option maxRecDepth 100000 in
set_option maxHeartbeats 1000000 in
theorem number_any' {w : World} {B : Nat} {v : Value} {xs : List Int} (ho : RowB w B v xs) (hB : B ≤ w.heap.size) (n : Int) (h0 : 0 ≤ n) (h1 : n ≤ 9223372036854775807) (hm : xs.length ≤ 1000000000) :
    Calls Tryd.prog 48 #[v, .int .i64 n] w fun e w' => ∃ v', e = .returned v' ∧ RowB w' B v' (xs ++ W.put n) ∧ Gr w w' v v' := by
  have HO : Hid _ := ho
  have hpl := W.put_length n
  have HPB : Hid _ := W.put_bd n h0 (by omega)
  clear ho
  go_enter Tryd.func48, Tryd.ntmps48
  go_wp2_with fail
  refine (put_any n h0 (by omega) _).mono ?_
  rintro e w1 ⟨rfl, hb1⟩
  have HO1 : Hid (RowB w1 B v xs) := own_kept HO.out hb1
  have hB1 : B ≤ w1.heap.size := Nat.le_trans hB hb1.size
  have G1 : Hid (Gr w w1 v v) := Gr.below v hb1
  have hsz : (strOfNums (W.put n)).size = (W.put n).length := size_of HPB.out
  clear hb1
  go_wp2_with (first | (at_builtin; refine wpList_append_str rfl _ _ rfl rfl HO1.out (strOfNums (W.put n)) rfl (by omega) hB1 ?_) | go_in)
  intro v2 w2 ho2 hg2
  have G2 : Hid (Gr w w2 v v2) := G1.out.trans hg2
  have HO2 : Hid (RowB w2 B v2 (xs ++ W.put n)) := by
    exact row_is ho2 (by rw [strCells_nums, nums_of HPB.out]; simp)
  clear ho2 hg2
  go_wp2
  go_ret
  exact ⟨_, rfl, HO2.out, G2.out⟩

set_option maxRecDepth 100000 in
set_option maxHeartbeats 1000000 in
theorem text_any {w : World} {B : Nat} {v : Value} {xs : List Int} (ho : RowB w B v xs) (hB : B ≤ w.heap.size) (s : ByteArray) (hs : s.size ≤ 1000000000) (hm : xs.length ≤ 500000000) :
    Calls Tryd.prog 27 #[v, .string s] w fun e w' => ∃ v', e = .returned v' ∧ RowB w' B v' (xs ++ txt s) ∧ Gr w w' v v' := by
  have HO : Hid _ := ho
  have hpl := W.put_length (s.size : Int)
  clear ho
  go_enter Tryd.func27, Tryd.ntmps27
  go_wp2_with fail
  refine (number_any' HO.out hB s.size (by omega) (by omega) (by omega)).mono ?_
  rintro e w1 ⟨v1, rfl, ho1, hb1⟩
  have HO1 : Hid _ := ho1
  have hB1 : B ≤ w1.heap.size := Nat.le_trans hB hb1.grown.size
  have hl1 : (xs ++ W.put s.size).length ≤ 500000010 := by rw [List.length_append]; omega
  clear ho1
  go_wp2_with (first | (at_builtin; refine wpList_append_str rfl _ _ rfl rfl HO1.out s rfl (by omega) hB1 ?_) | go_in)
  intro v2 w2 ho2 hg2
  have G2 : Hid (Gr w w2 v v2) := hb1.trans hg2
  have HO2 : Hid (RowB w2 B v2 (xs ++ txt s)) := by
    exact row_is ho2 (by rw [strCells_nums]; simp [txt])
  clear ho2 hg2
  go_wp2
  go_ret
  exact ⟨_, rfl, HO2.out, G2.out⟩

set_option maxRecDepth 100000 in
set_option maxHeartbeats 1000000 in
theorem long_any {w : World} {B : Nat} {v : Value} {xs : List Int} (ho : RowB w B v xs) (hB : B ≤ w.heap.size) (n : Int) (hn : (Lit.int .i64 n).wf = true) (hm : xs.length ≤ 1000000000) :
    Calls Tryd.prog 29 #[v, .int .i64 n] w fun e w' => ∃ v', e = .returned v' ∧ RowB w' B v' (xs ++ long n) ∧ Gr w w' v v' := by
  have HO : Hid _ := ho
  have HL : Hid _ := long_len hn
  clear ho
  go_enter Tryd.func29, Tryd.ntmps29
  go_wp2_with fail
  refine (bytes_any n 8 _).mono ?_
  rintro e w1 ⟨rfl, hb1⟩
  have HO1 : Hid (RowB w1 B v xs) := own_kept HO.out hb1
  have hB1 : B ≤ w1.heap.size := Nat.le_trans hB hb1.size
  have G1 : Hid (Gr w w1 v v) := Gr.below v hb1
  have hsz : (strOfNums (W.bytesV n 8)).size = 8 := (size_of HL.out.2).trans HL.out.1
  clear hb1
  go_wp2_with (first | (at_builtin; refine wpList_append_str rfl _ _ rfl rfl HO1.out (strOfNums (W.bytesV n 8)) rfl (by omega) hB1 ?_) | go_in)
  intro v2 w2 ho2 hg2
  have G2 : Hid (Gr w w2 v v2) := G1.out.trans hg2
  have HO2 : Hid (RowB w2 B v2 (xs ++ long n)) := by
    exact row_is ho2 (by rw [strCells_nums]; have e : nums (strOfNums (W.bytesV n 8)) = long n := nums_of HL.out.2; rw [e]; simp)
  clear ho2 hg2
  go_wp2
  go_ret
  exact ⟨_, rfl, HO2.out, G2.out⟩

end Go.Proofs.YtffokdldgdjkhaaDoor

/- What the reader's calls come to. -/
namespace Go.Proofs.YtffokdldgdjkhaaDoor
set_option maxRecDepth 100000
open Go.RowKit Go.Maps Go.Lib
set_option linter.unusedVariables false

/-- Readers: what is read at a place, and the place behind it; or that nothing is. -/
def rdTake (s : ByteArray) (i n : Nat) : Option (ByteArray × Nat) := if i + n ≤ s.size then some (sub s i n, i + n) else none
def rdUp (s : ByteArray) (i n : Nat) : Option (Int × Nat) := match W.takeG 0 0 (W.tail s i) with | some (x, m) => if x ≤ n then some (x, i + m) else none | none => none
def rdLong (s : ByteArray) (i : Nat) : Option (Int × Nat) := match rdTake s i 8 with | some (t, j) => some (W.numV t, j) | none => none
def rdName (s : ByteArray) (i : Nat) : Option (ByteArray × Nat) := match rdUp s i 28 with | some (x, j) => rdTake s j x.toNat | none => none

/-- How a reader's call ends. -/
def Reads {α : Type} (w : World) (br : Nat) (s : ByteArray) (f : Option (α × Nat)) (val : α → Value) (e : Ending) (w' : World) : Prop :=
  ((∃ a j, f = some (a, j) ∧ e = .returned (val a) ∧ RdV w' br s j) ∨ (f = none ∧ Fails e)) ∧ w.grownBy w' (some br)

theorem takeG_nonneg : ∀ (l : List Int) (g : Nat) (x v : Int) (m : Nat), (∀ c ∈ l, 0 ≤ c) → 0 ≤ x → W.takeG g x l = some (v, m) → 0 ≤ v
  | [], g, x, v, m, _, _, h => by simp [W.takeG] at h
  | c :: r, g, x, v, m, hc, hx, h => by
    have hc0 : 0 ≤ c := hc c (by simp)
    have hp : 0 ≤ c % 128 * 128 ^ g := Int.mul_nonneg (Int.emod_nonneg _ (by decide)) (Int.pow_nonneg (by decide))
    by_cases hb : (g = 9 ∧ 1 < c) ∨ (0 < g ∧ c = 0)
    · rw [W.takeG_no g x c r hb] at h; cases h
    · by_cases hl : c < 128
      · rw [W.takeG_last g x c r hb hl] at h
        simp at h
        omega
      · rw [W.takeG_more g x c r hb (by omega)] at h
        exact takeG_nonneg r (g + 1) _ v m (fun y hy => hc y (by simp [hy])) (by omega) h
theorem rdUp_nonneg {s : ByteArray} {i n : Nat} {x : Int} {j : Nat} (h : rdUp s i n = some (x, j)) : 0 ≤ x ∧ x ≤ n := by
  unfold rdUp at h
  split at h
  · next x' m hx =>
    split at h
    · next hle =>
      simp at h
      obtain ⟨rfl, rfl⟩ := h
      exact ⟨takeG_nonneg _ _ _ _ _ (fun c hc => (W.tail_bd s i c hc).1) (by decide) hx, hle⟩
    · cases h
  · cases h
theorem sub_size {s : ByteArray} {i n : Nat} (h : i + n ≤ s.size) : (sub s i n).size = n := by
  unfold sub
  rw [ByteArray.size_extract]
  omega

theorem rtake_any {w : World} {br : Nat} {s : ByteArray} {i : Nat} (h : RdV w br s i) (n : Nat) (hm : n ≤ 1000000000) :
    Calls Tryd.prog 82 #[.pointer (some ⟨br, 0, none⟩), .int .i64 n] w fun e w' => Reads w br s (rdTake s i n) Value.string e w' := by
  by_cases hn : i + n ≤ s.size
  · refine (rtake_yes h n hn).mono ?_
    rintro e w' ⟨rfl, hr, hg⟩
    exact ⟨.inl ⟨_, _, if_pos hn, rfl, hr⟩, hg⟩
  · refine (rtake_no h n (by omega) hm).mono ?_
    rintro e w' ⟨hf, hg⟩
    exact ⟨.inr ⟨if_neg hn, hf⟩, hg⟩
theorem rup_any {w : World} {br : Nat} {s : ByteArray} {i : Nat} (h : RdV w br s i) (n : Nat) (hm : n ≤ 1000000000) :
    Calls Tryd.prog 83 #[.pointer (some ⟨br, 0, none⟩), .int .i64 n] w fun e w' => Reads w br s (rdUp s i n) (Value.int .i64) e w' := by
  cases hx : W.takeG 0 0 (W.tail s i) with
  | none =>
    refine (rup_no h n hm hx).mono ?_
    rintro e w' ⟨hf, hg⟩
    exact ⟨.inr ⟨by unfold rdUp; rw [hx], hf⟩, hg⟩
  | some p =>
    obtain ⟨x, m⟩ := p
    by_cases hle : x ≤ n
    · refine (rup_yes h n hm x m hx (takeG_nonneg _ _ _ _ _ (fun c hc => (W.tail_bd s i c hc).1) (by decide) hx) hle).mono ?_
      rintro e w' ⟨rfl, hr, hg⟩
      exact ⟨.inl ⟨x, i + m, by unfold rdUp; rw [hx]; exact if_pos hle, rfl, hr⟩, hg⟩
    · refine (rup_big h n hm x m hx (by omega)).mono ?_
      rintro e w' ⟨hf, hg⟩
      exact ⟨.inr ⟨by unfold rdUp; rw [hx]; exact if_neg hle, hf⟩, hg⟩

theorem grown_trans {w w1 w2 : World} {br : Nat} (h : w.grownBy w1 (some br)) (k : w1.grownBy w2 (some br)) : w.grownBy w2 (some br) :=
  ⟨k.os.trans h.os, k.tape.trans h.tape, k.output.trans h.output, Nat.le_trans h.size k.size, fun j hj hne => (k.block j (Nat.lt_of_lt_of_le hj h.size) hne).trans (h.block j hj hne)⟩
theorem grown_below {w w1 w2 : World} {br : Nat} (h : w.grownBy w1 (some br)) (k : Below w1.heap.size w1 w2) : w.grownBy w2 (some br) :=
  grown_trans h ⟨k.os, k.tape, k.output, k.size, fun j hj _ => k.block j hj⟩

set_option maxRecDepth 100000 in
set_option maxHeartbeats 1000000 in
theorem rlong_any {w : World} {br : Nat} {s : ByteArray} {i : Nat} (h : RdV w br s i) :
    Calls Tryd.prog 84 #[.pointer (some ⟨br, 0, none⟩)] w fun e w' => Reads w br s (rdLong s i) (Value.int .i64) e w' := by
  have HR : Hid _ := h
  clear h
  go_enter Tryd.func84, Tryd.ntmps84
  go_wp2_with fail
  refine (rtake_any HR.out 8 (by decide)).mono ?_
  rintro e w1 ⟨⟨t, j, hf, rfl, hr⟩ | ⟨hf, c, rfl⟩, hg⟩
  · have hE : W.numE t = 0 := by
      unfold rdTake at hf
      split at hf
      · next hle =>
        simp at hf
        obtain ⟨rfl, rfl⟩ := hf
        unfold W.numE
        rw [sub_size hle]
        rfl
      · cases hf
    have HE : Hid _ := hE
    have HF : Hid (rdLong s i = some (W.numV t, j)) := by show _ = _; unfold rdLong; rw [hf]
    have HR1 : Hid _ := hr
    have HG : Hid _ := hg
    clear hE hf hr hg
    go_wp2_with fail
    refine (number_any t _).mono ?_
    rintro e w2 ⟨rfl, rfl⟩
    rw [HE.out]
    go_wp2
    go_ret
    exact ⟨.inl ⟨_, _, HF.out, rfl, HR1.out⟩, HG.out⟩
  · have HF : Hid (rdLong s i = none) := by show _ = _; unfold rdLong; rw [hf]
    clear hf
    go_wp2
    exact ⟨rfl, .inr ⟨HF.out, c, rfl⟩, hg⟩

set_option maxRecDepth 100000 in
set_option maxHeartbeats 1000000 in
theorem rname_any {w : World} {br : Nat} {s : ByteArray} {i : Nat} (h : RdV w br s i) :
    Calls Tryd.prog 89 #[.pointer (some ⟨br, 0, none⟩)] w fun e w' => Reads w br s (rdName s i) Value.string e w' := by
  have HR : Hid _ := h
  clear h
  go_enter Tryd.func89, Tryd.ntmps89
  go_wp2_with fail
  refine (rup_any HR.out 28 (by decide)).mono ?_
  rintro e w1 ⟨⟨x, j, hf, rfl, hr⟩ | ⟨hf, c, rfl⟩, hg⟩
  · obtain ⟨hx0, hx1⟩ := rdUp_nonneg hf
    obtain ⟨n, rfl⟩ : ∃ n : Nat, x = n := ⟨x.toNat, by omega⟩
    have HF : Hid (rdName s i = rdTake s j n) := by show _ = _; unfold rdName; rw [hf]; simp
    have HR1 : Hid _ := hr
    have HG : Hid _ := hg
    clear hf hr hg
    go_wp2_with fail
    refine (rtake_any HR1.out n (by omega)).mono ?_
    rintro e w2 ⟨⟨t, j2, hf2, rfl, hr2⟩ | ⟨hf2, c, rfl⟩, hg2⟩
    · have HF2 : Hid (rdName s i = some (t, j2)) := HF.out.trans hf2
      have HR2 : Hid _ := hr2
      have HG2 : Hid _ := grown_trans HG.out hg2
      clear hf2 hr2 hg2
      go_wp2
      go_ret
      exact ⟨.inl ⟨_, _, HF2.out, rfl, HR2.out⟩, HG2.out⟩
    · have HF2 : Hid (rdName s i = none) := HF.out.trans hf2
      have HG2 : Hid _ := grown_trans HG.out hg2
      clear hf2 hg2
      go_wp2
      exact ⟨rfl, .inr ⟨HF2.out, c, rfl⟩, HG2.out⟩
  · have HF : Hid (rdName s i = none) := by show _ = _; unfold rdName; rw [hf]
    clear hf
    go_wp2
    exact ⟨rfl, .inr ⟨HF.out, c, rfl⟩, hg⟩

end Go.Proofs.YtffokdldgdjkhaaDoor

/- What the reader's kind comes to. -/
namespace Go.Proofs.YtffokdldgdjkhaaDoor
set_option maxRecDepth 100000
open Go.RowKit Go.Maps Go.Lib
set_option linter.unusedVariables false

def rdKind (s : ByteArray) (i : Nat) : Option (Int × Nat) := match rdTake s i 1 with | some (t, j) => some ((nums t).getD 0 0, j) | none => none

set_option maxRecDepth 100000 in
set_option maxHeartbeats 1000000 in
theorem rkind_any {w : World} {br : Nat} {s : ByteArray} {i : Nat} (h : RdV w br s i) :
    Calls Tryd.prog 90 #[.pointer (some ⟨br, 0, none⟩)] w fun e w' => Reads w br s (rdKind s i) (Value.int .i64) e w' := by
  have HR : Hid _ := h
  clear h
  go_enter Tryd.func90, Tryd.ntmps90
  go_wp2_with fail
  refine (rtake_any HR.out 1 (by decide)).mono ?_
  rintro e w1 ⟨⟨t, j, hf, rfl, hr⟩ | ⟨hf, c, rfl⟩, hg⟩
  · have ht : t.size = 1 := by
      unfold rdTake at hf
      split at hf
      · next hle =>
        simp at hf
        obtain ⟨rfl, rfl⟩ := hf
        exact sub_size hle
      · cases hf
    have HF : Hid (rdKind s i = some ((nums t).getD 0 0, j)) := by show _ = _; unfold rdKind; rw [hf]
    have HNT : Hid ((nums t).getD 0 0 = (t[0].toNat : Int)) := by
      show _ = _
      unfold nums
      rw [W.tail_cons t 0 (by omega)]
      rfl
    have HR1 : Hid _ := hr
    have HG : Hid _ := hg
    have h0 : 0 < t.size := by omega
    clear hf hr hg
    go_wp2
    go_ret
    refine ⟨.inl ⟨_, _, HF.out, ?_, HR1.out⟩, HG.out⟩
    rw [HNT.out]
    have hw : wrap64 (t[0].toNat : Int) = (t[0].toNat : Int) := by have := t[0].toNat_lt; unfold wrap64; omega
    show Ending.returned (Value.int .i64 (wrap64 (t[0].toNat : Int))) = _
    rw [hw]
  · have HF : Hid (rdKind s i = none) := by show _ = _; unfold rdKind; rw [hf]
    clear hf
    go_wp2
    exact ⟨rfl, .inr ⟨HF.out, c, rfl⟩, hg⟩

end Go.Proofs.YtffokdldgdjkhaaDoor

/- What the reader's sym and reloc come to. (Written by gen_symread.py.) -/
namespace Go.Proofs.YtffokdldgdjkhaaDoor
set_option maxRecDepth 100000
open Go.RowKit Go.Maps Go.Lib
set_option linter.unusedVariables false

theorem RdV.lt {w : World} {br : Nat} {s : ByteArray} {i : Nat} (h : RdV w br s i) : br < w.heap.size := World.block_lt_of_cell? w ⟨br, 0, none⟩ h.c0
theorem RdV.far {w : World} {br : Nat} {s : ByteArray} {i : Nat} (h : RdV w br s i) (a : Addr) (v : Value) (hne : a.block ≠ br) : RdV (w.setCell a v) br s i :=
  ⟨(World.cell?_setCell_far _ _ _ _ hne).trans h.c0, (World.cell?_setCell_far _ _ _ _ hne).trans h.c1, fun o => by rw [World.frozen?_setCell]; exact h.fz o, h.le, h.sz⟩
theorem grown_far {w x : World} {br : Nat} (h : w.grownBy x (some br)) (a : Addr) (v : Value) (ha : w.heap.size ≤ a.block) : w.grownBy (x.setCell a v) (some br) :=
  ⟨h.os, h.tape, h.output, by rw [World.size_setCell]; exact h.size, fun k hk hne => (Below.heap_setCell _ _ _ _ (by omega)).trans (h.block k hk hne)⟩
theorem grown_cell {w x : World} {br b o : Nat} {v : Value} (h : w.grownBy x (some br)) (hc : w.cell? ⟨b, o, none⟩ = some v) (hne : b ≠ br) : x.cell? ⟨b, o, none⟩ = some v := h.cell hc (by simpa using hne)
theorem grown_froz {w x : World} {br b o : Nat} (h : w.grownBy x (some br)) (hb : b < w.heap.size) (hne : b ≠ br) (hf : w.frozen? ⟨b, o, none⟩ = false) : x.frozen? ⟨b, o, none⟩ = false := (h.frozen_far ⟨b, o, none⟩ hb (by simpa using hne)).trans hf

def Cells (x : World) (b : Nat) (vs : List Value) : Prop := ∀ j u, vs[j]? = some u → x.cell? ⟨b, j, none⟩ = some u
/-- The call's two blocks, beside the reader. -/
structure Bx (w x : World) (br : Nat) (s : ByteArray) (i : Nat) (vs rs : List Value) : Prop where
  rd : RdV x br s i
  g : w.grownBy x (some br)
  a : Cells x (w.heap.size + 1) vs
  r : Cells x w.heap.size rs
  az : ∀ o, x.frozen? ⟨w.heap.size + 1, o, none⟩ = false
  rz : ∀ o, x.frozen? ⟨w.heap.size, o, none⟩ = false
  sz : w.heap.size + 2 ≤ x.heap.size
  lt : br < w.heap.size
theorem Bx.call {w x y : World} {br : Nat} {s : ByteArray} {i j : Nat} {vs rs : List Value} (h : Bx w x br s i vs rs) (hr : RdV y br s j) (hg : x.grownBy y (some br)) : Bx w y br s j vs rs :=
  have hl := h.lt
  have hz := h.sz
  ⟨hr, grown_trans h.g hg, fun k u hu => grown_cell hg (h.a k u hu) (by omega), fun k u hu => grown_cell hg (h.r k u hu) (by omega), fun o => grown_froz hg (by omega) (by omega) (h.az o), fun o => grown_froz hg (by omega) (by omega) (h.rz o), Nat.le_trans h.sz hg.size, h.lt⟩
theorem Bx.put {w x : World} {br : Nat} {s : ByteArray} {i : Nat} {vs rs : List Value} (h : Bx w x br s i vs rs) (k : Nat) (hk : k < vs.length) (u : Value) : Bx w (x.setCell ⟨w.heap.size + 1, k, none⟩ u) br s i (vs.set k u) rs :=
  have hl := h.lt
  ⟨h.rd.far _ _ (by show w.heap.size + 1 ≠ br; omega), grown_far h.g _ _ (by show w.heap.size ≤ w.heap.size + 1; omega), fun j v hv => by
    by_cases e : k = j
    · subst e
      rw [List.getElem?_set_self hk] at hv
      cases hv
      refine World.cell?_setCell_same' _ _ _ ?_
      rw [h.a k vs[k] (by simp [hk])]
      rfl
    · rw [List.getElem?_set_ne e] at hv
      rw [World.cell?_setCell_other _ _ _ _ (fun e' => e (by have := congrArg Addr.off e'; simpa using this))]
      exact h.a j v hv, fun j v hv => (World.cell?_setCell_far _ _ _ _ (by show w.heap.size + 1 ≠ w.heap.size; omega)).trans (h.r j v hv), fun o => by rw [World.frozen?_setCell]; exact h.az o, fun o => by rw [World.frozen?_setCell]; exact h.rz o, by rw [World.size_setCell]; exact h.sz, h.lt⟩

def rdSym (s : ByteArray) (i : Nat) : Option (Sym × Nat) := match rdName s i with
  | some (nm, j) => match rdKind s j with
    | some (kd, k) => match rdUp s k 65536 with
      | some (ps, l) => some (⟨nm, kd, ps⟩, l)
      | none => none
    | none => none
  | none => none
def rdRel (s : ByteArray) (i : Nat) : Option (Rel × Nat) := match rdUp s i 65536 with
  | some (ps, j) => match rdKind s j with
    | some (kd, k) => match rdName s k with
      | some (nm, l) => match rdLong s l with
        | some (ad, m) => some (⟨ps, kd, nm, ad⟩, m)
        | none => none
      | none => none
    | none => none
  | none => none
def symV (x : Sym) : Value := .agg #[.string x.name, .int .i64 x.kind, .int .i64 x.pos]
def relV (x : Rel) : Value := .agg #[.int .i64 x.pos, .int .i64 x.kind, .string x.name, .int .i64 x.add]

set_option maxRecDepth 100000 in
set_option maxHeartbeats 2000000 in
theorem rsym_any {w : World} {br : Nat} {s : ByteArray} {i : Nat} (h : RdV w br s i) :
    Calls Tryd.prog 85 #[.pointer (some ⟨br, 0, none⟩)] w fun e w' => Reads w br s (rdSym s i) symV e w' := by
  have hbr := h.lt
  obtain ⟨W1, hW1⟩ : ∃ W1, w.alloc (.cells #[.string { data := #[] }, .int .i64 0, .int .i64 0] 80) = W1 := ⟨_, rfl⟩
  have s1 : W1.heap.size = w.heap.size + 1 := by subst hW1; simp
  have b1 : Below w.heap.size w W1 := by subst hW1; exact bl_one _ _
  obtain ⟨W2, hW2⟩ : ∃ W2, W1.alloc (.cells #[.string { data := #[] }, .int .i64 0, .int .i64 0] 80) = W2 := ⟨_, rfl⟩
  have b2 : Below W1.heap.size W1 W2 := by subst hW2; exact bl_one _ _
  have s2 : W2.heap.size = w.heap.size + 1 + 1 := by subst hW2; simp; omega
  have r0 : W2.cell? ⟨w.heap.size, 0, none⟩ = some (.string { data := #[] }) := by subst hW2; rw [World.cell?_alloc_past _ _ _ (by omega)]; subst hW1; exact cell_last rfl rfl
  have a0 : W2.cell? ⟨w.heap.size + 1, 0, none⟩ = some (.string { data := #[] }) := by subst hW2; exact cell_last s1.symm rfl
  have r1 : W2.cell? ⟨w.heap.size, 1, none⟩ = some (.int .i64 0) := by subst hW2; rw [World.cell?_alloc_past _ _ _ (by omega)]; subst hW1; exact cell_last rfl rfl
  have a1 : W2.cell? ⟨w.heap.size + 1, 1, none⟩ = some (.int .i64 0) := by subst hW2; exact cell_last s1.symm rfl
  have r2 : W2.cell? ⟨w.heap.size, 2, none⟩ = some (.int .i64 0) := by subst hW2; rw [World.cell?_alloc_past _ _ _ (by omega)]; subst hW1; exact cell_last rfl rfl
  have a2 : W2.cell? ⟨w.heap.size + 1, 2, none⟩ = some (.int .i64 0) := by subst hW2; exact cell_last s1.symm rfl
  have rz : ∀ o, W2.frozen? ⟨w.heap.size, o, none⟩ = false := fun o => by subst hW2; rw [World.frozen?_alloc_past _ _ _ (by omega)]; subst hW1; exact World.frozen?_alloc_at _ _ _ _ rfl
  have az : ∀ o, W2.frozen? ⟨w.heap.size + 1, o, none⟩ = false := fun o => by subst hW2; exact World.frozen?_alloc_at _ _ _ _ s1.symm
  have b12 : Below w.heap.size w W2 := b1.trans (b2.mono (by omega))
  have HR : Hid (RdV W2 br s i) := h.below b12
  have HG : Hid (w.grownBy W2 (some br)) := ⟨b12.os, b12.tape, b12.output, b12.size, fun k hk _ => b12.block k hk⟩
  have n0 : w.heap.size ≠ br := by omega
  have n1 : w.heap.size + 1 ≠ br := by omega
  have HCA : Cells W2 (w.heap.size + 1) [.string { data := #[] }, .int .i64 0, .int .i64 0] := fun j u hu => by
    match j, hu with
    | 0, hu => cases hu; exact a0
    | 1, hu => cases hu; exact a1
    | 2, hu => cases hu; exact a2
    | j + 3, hu => simp at hu
  have HCR : Cells W2 w.heap.size [.string { data := #[] }, .int .i64 0, .int .i64 0] := fun j u hu => by
    match j, hu with
    | 0, hu => cases hu; exact r0
    | 1, hu => cases hu; exact r1
    | 2, hu => cases hu; exact r2
    | j + 3, hu => simp at hu
  have HB : Hid (Bx w W2 br s i [.string { data := #[] }, .int .i64 0, .int .i64 0] [.string { data := #[] }, .int .i64 0, .int .i64 0]) := ⟨HR.out, HG.out, HCA, HCR, az, rz, by omega, hbr⟩
  clear h b1 b2 b12 HR HG az rz a0 r0 a1 r1 a2 r2 HCA HCR s2
  go_enter Tryd.func85, Tryd.ntmps85
  go_wp2_with fail
  refine (rname_any HB.out.rd).mono ?_
  rintro e y0 ⟨⟨nm, j0, hf, rfl, hr⟩ | ⟨hf, c, rfl⟩, hg⟩
  rotate_left
  · have HF : Hid (rdSym s i = none) := by show _ = _; simp only [rdSym, hf]
    have HGG : Hid _ := grown_trans HB.out.g hg
    clear hf hg
    go_wp2
    exact ⟨rfl, .inr ⟨HF.out, c, rfl⟩, HGG.out⟩
  have F0 : Hid _ := hf
  have HBy : Hid _ := HB.out.call hr hg
  have q := HBy.out.a 0 (.string { data := #[] }) rfl
  have z := HBy.out.az 0
  obtain ⟨Y0, hY0⟩ : ∃ Y, y0.setCell ⟨w.heap.size + 1, 0, none⟩ (.string nm) = Y := ⟨_, rfl⟩
  have hp := HBy.out.put 0 (by simp) (.string nm)
  rw [hY0] at hp
  have HB : Hid (Bx w Y0 br s j0 [.string nm, .int .i64 0, .int .i64 0] [.string { data := #[] }, .int .i64 0, .int .i64 0]) := hp
  clear hf hr hg hp
  go_wp2_with fail
  clear q z
  refine (rkind_any HB.out.rd).mono ?_
  rintro e y1 ⟨⟨kd, j1, hf, rfl, hr⟩ | ⟨hf, c, rfl⟩, hg⟩
  rotate_left
  · have HF : Hid (rdSym s i = none) := by show _ = _; simp only [rdSym, F0.out, hf]
    have HGG : Hid _ := grown_trans HB.out.g hg
    clear hf hg
    go_wp2
    exact ⟨rfl, .inr ⟨HF.out, c, rfl⟩, HGG.out⟩
  have F1 : Hid _ := hf
  have HBy : Hid _ := HB.out.call hr hg
  have q := HBy.out.a 1 (.int .i64 0) rfl
  have z := HBy.out.az 1
  obtain ⟨Y1, hY1⟩ : ∃ Y, y1.setCell ⟨w.heap.size + 1, 1, none⟩ (.int .i64 kd) = Y := ⟨_, rfl⟩
  have hp := HBy.out.put 1 (by simp) (.int .i64 kd)
  rw [hY1] at hp
  have HB : Hid (Bx w Y1 br s j1 [.string nm, .int .i64 kd, .int .i64 0] [.string { data := #[] }, .int .i64 0, .int .i64 0]) := hp
  clear hf hr hg hp
  go_wp2_with fail
  clear q z
  refine (rup_any HB.out.rd 65536 (by decide)).mono ?_
  rintro e y2 ⟨⟨ps, j2, hf, rfl, hr⟩ | ⟨hf, c, rfl⟩, hg⟩
  rotate_left
  · have HF : Hid (rdSym s i = none) := by show _ = _; simp only [rdSym, F0.out, F1.out, hf]
    have HGG : Hid _ := grown_trans HB.out.g hg
    clear hf hg
    go_wp2
    exact ⟨rfl, .inr ⟨HF.out, c, rfl⟩, HGG.out⟩
  have F2 : Hid _ := hf
  have HBy : Hid _ := HB.out.call hr hg
  have q := HBy.out.a 2 (.int .i64 0) rfl
  have z := HBy.out.az 2
  obtain ⟨Y2, hY2⟩ : ∃ Y, y2.setCell ⟨w.heap.size + 1, 2, none⟩ (.int .i64 ps) = Y := ⟨_, rfl⟩
  have hp := HBy.out.put 2 (by simp) (.int .i64 ps)
  rw [hY2] at hp
  have HB : Hid (Bx w Y2 br s j2 [.string nm, .int .i64 kd, .int .i64 ps] [.string { data := #[] }, .int .i64 0, .int .i64 0]) := hp
  clear hf hr hg hp
  have p0 := HB.out.a 0 (.string nm) rfl
  have o0 := HB.out.r 0 (.string { data := #[] }) rfl
  have w0 := HB.out.rz 0
  have p1 := HB.out.a 1 (.int .i64 kd) rfl
  have o1 := HB.out.r 1 (.int .i64 0) rfl
  have w1 := HB.out.rz 1
  have p2 := HB.out.a 2 (.int .i64 ps) rfl
  have o2 := HB.out.r 2 (.int .i64 0) rfl
  have w2 := HB.out.rz 2
  have HF : Hid (rdSym s i = some (⟨nm, kd, ps⟩, j2)) := by show _ = _; simp only [rdSym, F0.out, F1.out, F2.out]
  have HRF : Hid _ := HB.out.rd
  have HGF : Hid _ := HB.out.g
  go_wp2
  refine bodyPost_ret (v := symV ⟨nm, kd, ps⟩) (by simp [results, Tryd.results85, go_sem, symV, o0, o1, o2]) rfl ?_
  refine ⟨.inl ⟨_, _, HF.out, rfl, RdV.far (RdV.far (RdV.far (HRF.out) _ _ n0) _ _ n0) _ _ n0⟩, grown_far (grown_far (grown_far (HGF.out) _ _ (Nat.le_refl _)) _ _ (Nat.le_refl _)) _ _ (Nat.le_refl _)⟩

set_option maxRecDepth 100000 in
set_option maxHeartbeats 2000000 in
theorem rrel_any {w : World} {br : Nat} {s : ByteArray} {i : Nat} (h : RdV w br s i) :
    Calls Tryd.prog 86 #[.pointer (some ⟨br, 0, none⟩)] w fun e w' => Reads w br s (rdRel s i) relV e w' := by
  have hbr := h.lt
  obtain ⟨W1, hW1⟩ : ∃ W1, w.alloc (.cells #[.int .i64 0, .int .i64 0, .string { data := #[] }, .int .i64 0] 130) = W1 := ⟨_, rfl⟩
  have s1 : W1.heap.size = w.heap.size + 1 := by subst hW1; simp
  have b1 : Below w.heap.size w W1 := by subst hW1; exact bl_one _ _
  obtain ⟨W2, hW2⟩ : ∃ W2, W1.alloc (.cells #[.int .i64 0, .int .i64 0, .string { data := #[] }, .int .i64 0] 130) = W2 := ⟨_, rfl⟩
  have b2 : Below W1.heap.size W1 W2 := by subst hW2; exact bl_one _ _
  have s2 : W2.heap.size = w.heap.size + 1 + 1 := by subst hW2; simp; omega
  have r0 : W2.cell? ⟨w.heap.size, 0, none⟩ = some (.int .i64 0) := by subst hW2; rw [World.cell?_alloc_past _ _ _ (by omega)]; subst hW1; exact cell_last rfl rfl
  have a0 : W2.cell? ⟨w.heap.size + 1, 0, none⟩ = some (.int .i64 0) := by subst hW2; exact cell_last s1.symm rfl
  have r1 : W2.cell? ⟨w.heap.size, 1, none⟩ = some (.int .i64 0) := by subst hW2; rw [World.cell?_alloc_past _ _ _ (by omega)]; subst hW1; exact cell_last rfl rfl
  have a1 : W2.cell? ⟨w.heap.size + 1, 1, none⟩ = some (.int .i64 0) := by subst hW2; exact cell_last s1.symm rfl
  have r2 : W2.cell? ⟨w.heap.size, 2, none⟩ = some (.string { data := #[] }) := by subst hW2; rw [World.cell?_alloc_past _ _ _ (by omega)]; subst hW1; exact cell_last rfl rfl
  have a2 : W2.cell? ⟨w.heap.size + 1, 2, none⟩ = some (.string { data := #[] }) := by subst hW2; exact cell_last s1.symm rfl
  have r3 : W2.cell? ⟨w.heap.size, 3, none⟩ = some (.int .i64 0) := by subst hW2; rw [World.cell?_alloc_past _ _ _ (by omega)]; subst hW1; exact cell_last rfl rfl
  have a3 : W2.cell? ⟨w.heap.size + 1, 3, none⟩ = some (.int .i64 0) := by subst hW2; exact cell_last s1.symm rfl
  have rz : ∀ o, W2.frozen? ⟨w.heap.size, o, none⟩ = false := fun o => by subst hW2; rw [World.frozen?_alloc_past _ _ _ (by omega)]; subst hW1; exact World.frozen?_alloc_at _ _ _ _ rfl
  have az : ∀ o, W2.frozen? ⟨w.heap.size + 1, o, none⟩ = false := fun o => by subst hW2; exact World.frozen?_alloc_at _ _ _ _ s1.symm
  have b12 : Below w.heap.size w W2 := b1.trans (b2.mono (by omega))
  have HR : Hid (RdV W2 br s i) := h.below b12
  have HG : Hid (w.grownBy W2 (some br)) := ⟨b12.os, b12.tape, b12.output, b12.size, fun k hk _ => b12.block k hk⟩
  have n0 : w.heap.size ≠ br := by omega
  have n1 : w.heap.size + 1 ≠ br := by omega
  have HCA : Cells W2 (w.heap.size + 1) [.int .i64 0, .int .i64 0, .string { data := #[] }, .int .i64 0] := fun j u hu => by
    match j, hu with
    | 0, hu => cases hu; exact a0
    | 1, hu => cases hu; exact a1
    | 2, hu => cases hu; exact a2
    | 3, hu => cases hu; exact a3
    | j + 4, hu => simp at hu
  have HCR : Cells W2 w.heap.size [.int .i64 0, .int .i64 0, .string { data := #[] }, .int .i64 0] := fun j u hu => by
    match j, hu with
    | 0, hu => cases hu; exact r0
    | 1, hu => cases hu; exact r1
    | 2, hu => cases hu; exact r2
    | 3, hu => cases hu; exact r3
    | j + 4, hu => simp at hu
  have HB : Hid (Bx w W2 br s i [.int .i64 0, .int .i64 0, .string { data := #[] }, .int .i64 0] [.int .i64 0, .int .i64 0, .string { data := #[] }, .int .i64 0]) := ⟨HR.out, HG.out, HCA, HCR, az, rz, by omega, hbr⟩
  clear h b1 b2 b12 HR HG az rz a0 r0 a1 r1 a2 r2 a3 r3 HCA HCR s2
  go_enter Tryd.func86, Tryd.ntmps86
  go_wp2_with fail
  refine (rup_any HB.out.rd 65536 (by decide)).mono ?_
  rintro e y0 ⟨⟨ps, j0, hf, rfl, hr⟩ | ⟨hf, c, rfl⟩, hg⟩
  rotate_left
  · have HF : Hid (rdRel s i = none) := by show _ = _; simp only [rdRel, hf]
    have HGG : Hid _ := grown_trans HB.out.g hg
    clear hf hg
    go_wp2
    exact ⟨rfl, .inr ⟨HF.out, c, rfl⟩, HGG.out⟩
  have F0 : Hid _ := hf
  have HBy : Hid _ := HB.out.call hr hg
  have q := HBy.out.a 0 (.int .i64 0) rfl
  have z := HBy.out.az 0
  obtain ⟨Y0, hY0⟩ : ∃ Y, y0.setCell ⟨w.heap.size + 1, 0, none⟩ (.int .i64 ps) = Y := ⟨_, rfl⟩
  have hp := HBy.out.put 0 (by simp) (.int .i64 ps)
  rw [hY0] at hp
  have HB : Hid (Bx w Y0 br s j0 [.int .i64 ps, .int .i64 0, .string { data := #[] }, .int .i64 0] [.int .i64 0, .int .i64 0, .string { data := #[] }, .int .i64 0]) := hp
  clear hf hr hg hp
  go_wp2_with fail
  clear q z
  refine (rkind_any HB.out.rd).mono ?_
  rintro e y1 ⟨⟨kd, j1, hf, rfl, hr⟩ | ⟨hf, c, rfl⟩, hg⟩
  rotate_left
  · have HF : Hid (rdRel s i = none) := by show _ = _; simp only [rdRel, F0.out, hf]
    have HGG : Hid _ := grown_trans HB.out.g hg
    clear hf hg
    go_wp2
    exact ⟨rfl, .inr ⟨HF.out, c, rfl⟩, HGG.out⟩
  have F1 : Hid _ := hf
  have HBy : Hid _ := HB.out.call hr hg
  have q := HBy.out.a 1 (.int .i64 0) rfl
  have z := HBy.out.az 1
  obtain ⟨Y1, hY1⟩ : ∃ Y, y1.setCell ⟨w.heap.size + 1, 1, none⟩ (.int .i64 kd) = Y := ⟨_, rfl⟩
  have hp := HBy.out.put 1 (by simp) (.int .i64 kd)
  rw [hY1] at hp
  have HB : Hid (Bx w Y1 br s j1 [.int .i64 ps, .int .i64 kd, .string { data := #[] }, .int .i64 0] [.int .i64 0, .int .i64 0, .string { data := #[] }, .int .i64 0]) := hp
  clear hf hr hg hp
  go_wp2_with fail
  clear q z
  refine (rname_any HB.out.rd).mono ?_
  rintro e y2 ⟨⟨nm, j2, hf, rfl, hr⟩ | ⟨hf, c, rfl⟩, hg⟩
  rotate_left
  · have HF : Hid (rdRel s i = none) := by show _ = _; simp only [rdRel, F0.out, F1.out, hf]
    have HGG : Hid _ := grown_trans HB.out.g hg
    clear hf hg
    go_wp2
    exact ⟨rfl, .inr ⟨HF.out, c, rfl⟩, HGG.out⟩
  have F2 : Hid _ := hf
  have HBy : Hid _ := HB.out.call hr hg
  have q := HBy.out.a 2 (.string { data := #[] }) rfl
  have z := HBy.out.az 2
  obtain ⟨Y2, hY2⟩ : ∃ Y, y2.setCell ⟨w.heap.size + 1, 2, none⟩ (.string nm) = Y := ⟨_, rfl⟩
  have hp := HBy.out.put 2 (by simp) (.string nm)
  rw [hY2] at hp
  have HB : Hid (Bx w Y2 br s j2 [.int .i64 ps, .int .i64 kd, .string nm, .int .i64 0] [.int .i64 0, .int .i64 0, .string { data := #[] }, .int .i64 0]) := hp
  clear hf hr hg hp
  go_wp2_with fail
  clear q z
  refine (rlong_any HB.out.rd).mono ?_
  rintro e y3 ⟨⟨ad, j3, hf, rfl, hr⟩ | ⟨hf, c, rfl⟩, hg⟩
  rotate_left
  · have HF : Hid (rdRel s i = none) := by show _ = _; simp only [rdRel, F0.out, F1.out, F2.out, hf]
    have HGG : Hid _ := grown_trans HB.out.g hg
    clear hf hg
    go_wp2
    exact ⟨rfl, .inr ⟨HF.out, c, rfl⟩, HGG.out⟩
  have F3 : Hid _ := hf
  have HBy : Hid _ := HB.out.call hr hg
  have q := HBy.out.a 3 (.int .i64 0) rfl
  have z := HBy.out.az 3
  obtain ⟨Y3, hY3⟩ : ∃ Y, y3.setCell ⟨w.heap.size + 1, 3, none⟩ (.int .i64 ad) = Y := ⟨_, rfl⟩
  have hp := HBy.out.put 3 (by simp) (.int .i64 ad)
  rw [hY3] at hp
  have HB : Hid (Bx w Y3 br s j3 [.int .i64 ps, .int .i64 kd, .string nm, .int .i64 ad] [.int .i64 0, .int .i64 0, .string { data := #[] }, .int .i64 0]) := hp
  clear hf hr hg hp
  have p0 := HB.out.a 0 (.int .i64 ps) rfl
  have o0 := HB.out.r 0 (.int .i64 0) rfl
  have w0 := HB.out.rz 0
  have p1 := HB.out.a 1 (.int .i64 kd) rfl
  have o1 := HB.out.r 1 (.int .i64 0) rfl
  have w1 := HB.out.rz 1
  have p2 := HB.out.a 2 (.string nm) rfl
  have o2 := HB.out.r 2 (.string { data := #[] }) rfl
  have w2 := HB.out.rz 2
  have p3 := HB.out.a 3 (.int .i64 ad) rfl
  have o3 := HB.out.r 3 (.int .i64 0) rfl
  have w3 := HB.out.rz 3
  have HF : Hid (rdRel s i = some (⟨ps, kd, nm, ad⟩, j3)) := by show _ = _; simp only [rdRel, F0.out, F1.out, F2.out, F3.out]
  have HRF : Hid _ := HB.out.rd
  have HGF : Hid _ := HB.out.g
  go_wp2
  refine bodyPost_ret (v := relV ⟨ps, kd, nm, ad⟩) (by simp [results, Tryd.results86, go_sem, relV, o0, o1, o2, o3]) rfl ?_
  refine ⟨.inl ⟨_, _, HF.out, rfl, RdV.far (RdV.far (RdV.far (RdV.far (HRF.out) _ _ n0) _ _ n0) _ _ n0) _ _ n0⟩, grown_far (grown_far (grown_far (grown_far (HGF.out) _ _ (Nat.le_refl _)) _ _ (Nat.le_refl _)) _ _ (Nat.le_refl _)) _ _ (Nat.le_refl _)⟩

end Go.Proofs.YtffokdldgdjkhaaDoor

/- What put.Sym and putReloc come to. -/
namespace Go.Proofs.YtffokdldgdjkhaaDoor
set_option maxRecDepth 100000
open Go.RowKit Go.Maps Go.Lib
set_option linter.unusedVariables false

theorem one_cell (w : World) (u : Value) {g : Nat} (hg : g = w.heap.size) : ∀ j x, ([u] : List Value)[j]? = some x → (w.alloc (.cells #[u] 5)).cell? ((⟨g, 0, none⟩ : Addr).add j) = some x := by
  subst hg
  intro j x hx
  rw [Addr.add_lit]
  simp
  exact hx
theorem gr_lies {w w2 w' : World} {v : Value} {g n c : Nat} (hb : Below w.heap.size w w2) (hg : w2.grownBy w' v.ownBlock) (hat : v.ownBlock = some g ∨ g = w2.heap.size) : Gr w w' v (.slice (some ⟨g, 0, none⟩) n c) := by
  refine (Gr.below v hb).trans ⟨hg, fun x hx => ?_⟩
  have : x = g := by simpa [Value.ownBlock] using hx.symm
  subst this
  rcases hat with h | h
  · exact .inl h
  · exact .inr (by omega)

set_option maxRecDepth 100000 in
set_option maxHeartbeats 2000000 in
theorem symput_any {w : World} {B : Nat} {v : Value} {xs : List Int} (ho : RowB w B v xs) (hB : B ≤ w.heap.size) (nm : ByteArray) (kd ps : Int) (hn : nm.size ≤ 1000) (hk0 : 0 ≤ kd) (hk1 : kd ≤ 255) (hp0 : 0 ≤ ps) (hp1 : ps ≤ 9223372036854775807) (hm : xs.length ≤ 100000000) :
    Calls Tryd.prog 31 #[v, .agg #[.string nm, .int .i64 kd, .int .i64 ps]] w fun e w' => ∃ v', e = .returned v' ∧ RowB w' B v' (xs ++ symB ⟨nm, kd, ps⟩) ∧ Gr w w' v v' := by
  obtain ⟨i0, hi, hz0, hz1, hz2⟩ := info_parts infoB
  obtain ⟨W1, hW1⟩ : ∃ W1, w.alloc (.cells #[.string nm, .int .i64 kd, .int .i64 ps] 80) = W1 := ⟨_, rfl⟩
  have b1 : Below w.heap.size w W1 := by subst hW1; exact bl_one _ _
  have v0 : W1.cell? ⟨w.heap.size, 0, none⟩ = some (.string nm) := by subst hW1; exact cell_last rfl rfl
  have v1 : W1.cell? ⟨w.heap.size, 1, none⟩ = some (.int .i64 kd) := by subst hW1; exact cell_last rfl rfl
  have v2 : W1.cell? ⟨w.heap.size, 2, none⟩ = some (.int .i64 ps) := by subst hW1; exact cell_last rfl rfl
  have HNE : Hid (v.ownBlock ≠ some w.heap.size) := fun e => by have := (ho.lt _ e).2; omega
  have HO : Hid (RowB W1 B v xs) := own_kept ho b1
  have G0 : Hid (Gr w W1 v v) := Gr.below v b1
  have hB1 : B ≤ W1.heap.size := Nat.le_trans hB b1.size
  have z1 : w.heap.size < W1.heap.size := by subst hW1; simp
  have hpl := W.put_length (nm.size : Int)
  have hnl := nums_len nm
  have hkd : kd % 256 = kd := by omega
  clear ho b1
  go_enter Tryd.func31, Tryd.ntmps31
  go_wp2_with fail
  refine (text_any HO.out hB1 nm (by omega) (by omega)).mono ?_
  rintro e w2 ⟨u, rfl, ho2, g2⟩
  have c1 := g2.cell v1 HNE.out
  have c2 := g2.cell v2 HNE.out
  obtain ⟨ys, hys⟩ : ∃ ys, ys = xs ++ txt nm := ⟨_, rfl⟩
  rw [← hys] at ho2
  have HO2 : Hid (RowB w2 B u ys) := ho2
  have hB2 : B ≤ w2.heap.size := Nat.le_trans hB1 g2.grown.size
  have hl2 : ys.length ≤ 100001010 := by rw [hys]; simp only [txt, List.length_append]; omega
  have z2 : w.heap.size < w2.heap.size := Nat.lt_of_lt_of_le z1 g2.grown.size
  have HNU : Hid (u.ownBlock ≠ some w.heap.size) := fun e => by
    rcases g2.lies _ e with h | h
    · exact HNE.out h
    · omega
  have G2 : Hid (Gr w w2 v u) := G0.out.trans g2
  have HYS : Hid _ := hys
  clear ho2 g2 hys
  go_wp2_with (first | (at_builtin; refine wpList_append_lies _ rfl _ _ 74 rfl B 5 i0 (.int .u8 0) 1 1 Tryd.underlying74 hi hz0 hz1 hz2 rfl (by decide) u ys.length _ rfl (HO2.out.alloc _) ⟨w2.heap.size, 0, none⟩ 1 1 [.int .u8 kd] rfl rfl (one_cell _ _ rfl) (by intro y hy; simp at hy; subst hy; rfl) (by decide) (by unfold maxLen; omega) (by omega) (by simp; omega) (w2.heap.size + 1) (by simp) ?_) | go_in)
  intro g cap w3 ho3 hg3 hat3 hlt3
  have G3 : Gr w2 w3 u (.slice (some ⟨g, 0, none⟩) (ys.length + 1) cap) := gr_lies (bl_one w2 _) hg3 (by simpa using hat3)
  have d2 := G3.cell c2 HNU.out
  have HO3 : Hid (RowB w3 B (.slice (some ⟨g, 0, none⟩) (ys.length + 1) cap) (ys ++ [kd])) := row_is ho3 (by simp)
  have hB3 : B ≤ w3.heap.size := Nat.le_trans hB2 G3.grown.size
  have hl3 : (ys ++ [kd]).length ≤ 100001020 := by rw [List.length_append]; simp only [List.length_cons, List.length_nil]; omega
  have GG3 : Hid (Gr w w3 v (.slice (some ⟨g, 0, none⟩) (ys.length + 1) cap)) := G2.out.trans G3
  clear ho3 hg3 hat3 hlt3 G3 c1 c2
  go_wp2_with fail
  refine (number_any' HO3.out hB3 ps hp0 hp1 (by omega)).mono ?_
  rintro e w4 ⟨u4, rfl, ho4, g4⟩
  have HO4 : Hid (RowB w4 B u4 (xs ++ symB ⟨nm, kd, ps⟩)) := by
    have e : xs ++ symB ⟨nm, kd, ps⟩ = ys ++ [kd] ++ W.put ps := by rw [HYS.out]; simp [symB]
    show RowB _ _ _ _
    rw [e]
    exact ho4
  have G4 : Hid (Gr w w4 v u4) := GG3.out.trans g4
  clear ho4 g4 d2
  go_wp2
  go_ret
  exact ⟨_, rfl, HO4.out, G4.out⟩

end Go.Proofs.YtffokdldgdjkhaaDoor

/- What relocsMayBe and Check come to. -/
namespace Go.Proofs.YtffokdldgdjkhaaDoor
set_option maxRecDepth 100000
open Go.RowKit Go.Maps
set_option linter.unusedVariables false

theorem rels_no {cl : Nat} {rs : List Rel} {k : Nat} (hk : k < rs.length) (h : relOk cl (freeAt rs k) (rs.getD k noRel) = false) : relsOk cl rs = false := by
  unfold relsOk
  rw [all_range_no hk h, Bool.and_false]

set_option maxRecDepth 100000 in
set_option maxHeartbeats 8000000 in
theorem rels_any {w : World} (code : ByteArray) {a1 a2 a3 : Option Addr} {l1 c1 l2 c2 l3 c3 : Nat} {rs : List Rel} (h : RelsV w a3 l3 c3 rs) (hcs : code.size ≤ maxLen) :
    Calls Tryd.prog 43 #[.agg #[.string code, .slice a1 l1 c1, .slice a2 l2 c2, .slice a3 l3 c3]] w fun e w' => e = .returned (.bool (relsOk code.size rs)) ∧ Below w.heap.size w w' := by
  have HV : Hid _ := h
  have hcnt := h.count
  have hcs' : code.size ≤ 9223372036854775807 := by unfold maxLen at hcs; omega
  clear h hcs
  by_cases hbig : (8000 : Int) < l3
  · have HNO : Hid (relsOk code.size rs = false) := by show _ = _; unfold relsOk; rw [show decide (rs.length ≤ 8000) = false by simp; omega, Bool.false_and]
    have hb : Below w.heap.size w (w.alloc (.cells #[.string code, .slice a1 l1 c1, .slice a2 l2 c2, .slice a3 l3 c3] 67)) := bl_one _ _
    go_enter Tryd.func43, Tryd.ntmps43
    go_wp2
    go_ret
    exact ⟨by rw [HNO.out]; rfl, hb⟩
  obtain ⟨W1, hW1⟩ : ∃ W1, w.alloc (.cells #[.string code, .slice a1 l1 c1, .slice a2 l2 c2, .slice a3 l3 c3] 67) = W1 := ⟨_, rfl⟩
  have s1 : W1.heap.size = w.heap.size + 1 := by subst hW1; simp
  have b1 : Below w.heap.size w W1 := by subst hW1; exact bl_one _ _
  have v0 : W1.cell? ⟨w.heap.size, 0, none⟩ = some (.string code) := by subst hW1; exact cell_last rfl rfl
  have v3 : W1.cell? ⟨w.heap.size, 3, none⟩ = some (.slice a3 l3 c3) := by subst hW1; exact cell_last rfl rfl
  go_enter Tryd.func43, Tryd.ntmps43
  go_wp2_with fail
  go_loopg [3, 13] l3 (fun r fv iv wq => ∃ (k : Nat) (f : Int), iv = .int .i64 k ∧ fv = .int .i64 f ∧ 0 ≤ f ∧ k ≤ l3 ∧ l3 - k ≤ r ∧ Hid (f = freeAt rs k) ∧ Hid (∀ i, i < k → relOk code.size (freeAt rs i) (rs.getD i noRel) = true) ∧ Hid (Below (w.heap.size + 1) W1 wq))
  case atStart => exact ⟨0, 0, rfl, rfl, Int.le_refl _, Nat.zero_le _, by omega, rfl, (fun i hi => by omega : ∀ i, i < 0 → relOk code.size (freeAt rs i) (rs.getD i noRel) = true), Below.refl _ _⟩
  case round =>
    obtain ⟨k, f, rfl, rfl, hf0, hk, hr, HF, HAL, HBL⟩ := hrel
    have hbw : Below w.heap.size w wr := b1.trans (HBL.out.mono (Nat.le_succ _))
    have zw : w.heap.size + 1 ≤ wr.heap.size := by have := HBL.out.size; omega
    have u0 := (HBL.out.cell (p := ⟨w.heap.size, 0, none⟩) (Nat.lt_succ_self _)).trans v0
    by_cases hlt : k < l3
    · rcases HV.out.cells with h0 | ⟨b, off, hA, hc⟩
      · omega
      obtain ⟨k0, k1, k2, k3⟩ := hc k hlt
      have hbl : b < w.heap.size := World.block_lt_of_cell? w ⟨b, off + k * 4, none⟩ k0
      have q0 := (hbw.cell (p := ⟨b, off + k * 4, none⟩) hbl).trans k0
      have q1 := (hbw.cell (p := ⟨b, off + k * 4 + 1, none⟩) hbl).trans k1
      have q2 := (hbw.cell (p := ⟨b, off + k * 4 + 2, none⟩) hbl).trans k2
      have q3 := (hbw.cell (p := ⟨b, off + k * 4 + 3, none⟩) hbl).trans k3
      have HRO : Hid (relOk code.size (freeAt rs k) (rs.getD k noRel) = ((decide (f ≤ (rs.getD k noRel).pos) && decide ((rs.getD k noRel).pos ≤ (code.size : Int) - 4)) && (nameOk (rs.getD k noRel).name && addOk (rs.getD k noRel).kind (rs.getD k noRel).add))) := by
        show _ = _
        rw [HF.out]
        rfl
      have HFN : Hid (freeAt rs (k + 1) = (rs.getD k noRel).pos + 4) := by
        show _ = _
        unfold freeAt
        rw [if_neg (by omega)]
        rfl
      obtain ⟨ps, hps⟩ : ∃ ps, (rs.getD k noRel).pos = ps := ⟨_, rfl⟩
      obtain ⟨kd, hkd⟩ : ∃ kd, (rs.getD k noRel).kind = kd := ⟨_, rfl⟩
      obtain ⟨nm, hnm⟩ : ∃ nm, (rs.getD k noRel).name = nm := ⟨_, rfl⟩
      obtain ⟨ad, had⟩ : ∃ ad, (rs.getD k noRel).add = ad := ⟨_, rfl⟩
      rw [hps] at q0 HRO HFN
      rw [hkd] at q1 HRO
      rw [hnm] at q2 HRO
      rw [had] at q3 HRO
      have HNO : Hid (((decide (f ≤ ps) && decide (ps ≤ (code.size : Int) - 4)) && (nameOk nm && addOk kd ad)) = false → relsOk code.size rs = false) := fun h => rels_no (k := k) (by omega) (by rw [HRO.out]; exact h)
      subst hA
      have hii : (k : Int) < l3 := by omega
      have hin : 0 ≤ (k : Int) := by omega
      clear hc k0 k1 k2 k3 hps hkd hnm had
      obtain ⟨Y1, hY1⟩ : ∃ Y1, wr.alloc (.cells #[.int .i64 ps, .int .i64 kd, .string nm, .int .i64 ad] 130) = Y1 := ⟨_, rfl⟩
      have bY : Below wr.heap.size wr Y1 := by subst hY1; exact bl_one _ _
      have g0 : Y1.cell? ⟨wr.heap.size, 0, none⟩ = some (.int .i64 ps) := by subst hY1; exact cell_last rfl rfl
      have g1 : Y1.cell? ⟨wr.heap.size, 1, none⟩ = some (.int .i64 kd) := by subst hY1; exact cell_last rfl rfl
      have g2 : Y1.cell? ⟨wr.heap.size, 2, none⟩ = some (.string nm) := by subst hY1; exact cell_last rfl rfl
      have g3 : Y1.cell? ⟨wr.heap.size, 3, none⟩ = some (.int .i64 ad) := by subst hY1; exact cell_last rfl rfl
      have x0 := cell_thru bY u0
      have hbY : Below w.heap.size w Y1 := hbw.trans (bY.mono hbw.size)
      have HBY : Hid (Below (w.heap.size + 1) W1 Y1) := HBL.out.trans (bY.mono zw)
      clear bY
      by_cases hf : ps < f
      · have HN : Hid (relsOk code.size rs = false) := HNO.out (by rw [show decide (f ≤ ps) = false by simp; omega]; rfl)
        go_wp2_with fail
        go_ret
        exact ⟨by rw [HN.out]; rfl, hbY⟩
      · have hd0 : decide (ps < f) = false := decide_eq_false hf
        by_cases hg : (code.size : Int) - 4 < ps
        · have HN : Hid (relsOk code.size rs = false) := HNO.out (by rw [show decide (ps ≤ (code.size : Int) - 4) = false by simp; omega]; simp)
          go_wp2_with fail
          go_ret
          exact ⟨by rw [HN.out]; rfl, hbY⟩
        · have hd1 : decide ((code.size : Int) - 4 < ps) = false := decide_eq_false hg
          have HD : Hid ((decide (f ≤ ps) && decide (ps ≤ (code.size : Int) - 4)) = true) := by show _ = _; simp; omega
          go_wp2_with fail
          refine (name_any nm _).mono ?_
          rintro e y1 ⟨rfl, rfl⟩
          cases hnk : nameOk nm with
          | false =>
            have HN : Hid (relsOk code.size rs = false) := HNO.out (by rw [hnk]; simp)
            clear hnk
            go_wp2_with fail
            go_ret
            exact ⟨by rw [HN.out]; rfl, hbY⟩
          | true =>
            have HNK : Hid _ := hnk
            clear hnk
            go_wp2_with fail
            refine (add_any kd ad _).mono ?_
            rintro e y2 ⟨rfl, rfl⟩
            cases hak : addOk kd ad with
            | false =>
              have HN : Hid (relsOk code.size rs = false) := HNO.out (by rw [hak]; simp)
              clear hak
              go_wp2_with fail
              go_ret
              exact ⟨by rw [HN.out]; rfl, hbY⟩
            | true =>
              have HY : Hid (∀ i, i < k + 1 → relOk code.size (freeAt rs i) (rs.getD i noRel) = true) := fun i hi => by
                rcases Nat.lt_or_ge i k with c | c
                · exact HAL.out i c
                · obtain rfl : i = k := by omega
                  rw [HRO.out, HD.out, HNK.out, hak]
                  rfl
              clear hak
              go_wp2_with fail
              go_roundg (l3 - (k + 1))
              case measure => omega
              case rel => exact ⟨k + 1, ps + 4, by first | rfl | (congr 1; omega), by first | rfl | (congr 1; omega), by omega, by omega, Nat.le_refl _, HFN.out.symm, HY.out, HBY.out⟩
    · obtain rfl : k = l3 := by omega
      have HYA : Hid (relsOk code.size rs = true) := by
        show _ = _
        unfold relsOk
        rw [show decide (rs.length ≤ 8000) = true by simp; omega, all_range_yes (fun i hi => HAL.out i (by omega))]
        rfl
      go_wp2_with fail
      go_ret
      exact ⟨by rw [HYA.out]; rfl, hbw⟩

set_option maxRecDepth 100000 in
set_option maxHeartbeats 8000000 in
theorem check_any {w : World} {v : Value} {o : ObjD} (h : ObjV w v o) :
    Calls Tryd.prog 21 #[v] w fun e w' => e = .returned (.int .i64 (if o.may then 0 else 1)) ∧ Below w.heap.size w w' := by
  obtain ⟨z, hz⟩ : ∃ z : Int, (if o.may then 0 else 1) = z := ⟨_, rfl⟩
  rw [hz]
  have HZ0 : Hid (o.may = false → z = 1) := fun hm => by rw [← hz, hm]; rfl
  have HZ1 : Hid (o.may = true → z = 0) := fun hm => by rw [← hz, hm]; rfl
  clear hz
  obtain ⟨a1, l1, c1, a2, l2, c2, a3, l3, c3, rfl, hcs, h1, h2, h3⟩ := h.form
  obtain ⟨code, data, syms, rels⟩ := o
  simp only at hcs h1 h2 h3
  have hd := h1.count
  have HM : Hid ((ObjD.mk code data syms rels).may = ((decide (code.size ≤ 65536) && decide (l1 ≤ 4096)) && (symsOk code.size l1 syms && relsOk code.size rels))) := by
    show _ = _
    unfold ObjD.may
    rw [← hd]
  have H2 : Hid _ := h2
  have H3 : Hid _ := h3
  have HCS : Hid _ := hcs
  clear h h1 h2 h3 hcs hd
  obtain ⟨W1, hW1⟩ : ∃ W1, w.alloc (.cells #[.string code, .slice a1 l1 c1, .slice a2 l2 c2, .slice a3 l3 c3] 67) = W1 := ⟨_, rfl⟩
  have b1 : Below w.heap.size w W1 := by subst hW1; exact bl_one _ _
  have v0 : W1.cell? ⟨w.heap.size, 0, none⟩ = some (.string code) := by subst hW1; exact cell_last rfl rfl
  have v1 : W1.cell? ⟨w.heap.size, 1, none⟩ = some (.slice a1 l1 c1) := by subst hW1; exact cell_last rfl rfl
  have v2 : W1.cell? ⟨w.heap.size, 2, none⟩ = some (.slice a2 l2 c2) := by subst hW1; exact cell_last rfl rfl
  have v3 : W1.cell? ⟨w.heap.size, 3, none⟩ = some (.slice a3 l3 c3) := by subst hW1; exact cell_last rfl rfl
  by_cases hc : (65536 : Int) < code.size
  · have HN : Hid ((ObjD.mk code data syms rels).may = false) := by show _ = _; rw [HM.out, show decide (code.size ≤ 65536) = false by simp; omega]; rfl
    go_enter Tryd.func21, Tryd.ntmps21
    go_wp2_with fail
    go_ret
    exact ⟨by rw [HZ0.out HN.out]; rfl, b1⟩
  by_cases hl : (4096 : Int) < l1
  · have HN : Hid ((ObjD.mk code data syms rels).may = false) := by show _ = _; rw [HM.out, show decide (l1 ≤ 4096) = false by simp; omega]; simp
    have hc0 : decide ((65536 : Int) < code.size) = false := decide_eq_false hc
    go_enter Tryd.func21, Tryd.ntmps21
    go_wp2_with fail
    go_ret
    exact ⟨by rw [HZ0.out HN.out]; rfl, b1⟩
  have HD : Hid ((decide (code.size ≤ 65536) && decide (l1 ≤ 4096)) = true) := by show _ = _; simp; omega
  have hc0 : decide ((65536 : Int) < code.size) = false := decide_eq_false hc
  have hl0 : decide ((4096 : Int) < l1) = false := decide_eq_false hl
  go_enter Tryd.func21, Tryd.ntmps21
  go_wp2_with fail
  refine (syms_any code (H2.out.below b1)).mono ?_
  rintro e y1 ⟨rfl, hb1⟩
  have x0 := cell_thru hb1 v0
  have x1 := cell_thru hb1 v1
  have x2 := cell_thru hb1 v2
  have x3 := cell_thru hb1 v3
  have q1 : Below w.heap.size w y1 := b1.trans (hb1.mono b1.size)
  clear hb1
  cases hs : symsOk code.size l1 syms with
  | false =>
    have HN : Hid ((ObjD.mk code data syms rels).may = false) := by show _ = _; rw [HM.out, hs]; simp
    clear hs
    go_wp2_with fail
    go_ret
    exact ⟨by rw [HZ0.out HN.out]; rfl, q1⟩
  | true =>
    have HS : Hid _ := hs
    clear hs
    go_wp2_with fail
    refine (rels_any code (H3.out.below q1) HCS.out).mono ?_
    rintro e y2 ⟨rfl, hb2⟩
    have q2 : Below w.heap.size w y2 := q1.trans (hb2.mono q1.size)
    clear hb2
    cases hr : relsOk code.size rels with
    | false =>
      have HN : Hid ((ObjD.mk code data syms rels).may = false) := by show _ = _; rw [HM.out, hr]; simp
      clear hr
      go_wp2_with fail
      go_ret
      exact ⟨by rw [HZ0.out HN.out]; rfl, q2⟩
    | true =>
      have HN : Hid ((ObjD.mk code data syms rels).may = true) := by show _ = _; rw [HM.out, hr, HS.out, HD.out]; rfl
      clear hr
      go_wp2_with fail
      go_ret
      exact ⟨by rw [HZ1.out HN.out]; rfl, q2⟩

end Go.Proofs.YtffokdldgdjkhaaDoor

/- What the lists, form and Write come to. (Written by gen_form.py.) -/
namespace Go.Proofs.YtffokdldgdjkhaaDoor
set_option maxRecDepth 100000
open Go.RowKit Go.Maps Go.Lib
set_option linter.unusedVariables false

theorem flat_snoc {α : Type} (f : α → List Int) (zs : List α) (d : α) (k : Nat) (h : k < zs.length) : (zs.take (k + 1)).flatMap f = (zs.take k).flatMap f ++ f (zs.getD k d) := by
  rw [List.take_succ_eq_append_getElem h, List.flatMap_append]; simp [List.getD, h]
theorem symB_len {s : Sym} (h : s.name.size ≤ 1000) : (symB s).length ≤ 1100 := by
  have h1 := W.put_length (s.name.size : Int)
  have h2 := W.put_length s.pos
  have h3 := nums_len s.name
  simp only [symB, txt, List.length_append, List.length_cons, List.length_nil]
  omega
theorem relB_len {r : Rel} (h : r.name.size ≤ 1000) (ha : (Lit.int .i64 r.add).wf = true) : (relB r).length ≤ 1100 := by
  have h1 := W.put_length (r.name.size : Int)
  have h2 := W.put_length r.pos
  have h3 := nums_len r.name
  have h4 := (long_len ha).1
  simp only [relB, txt, List.length_append, List.length_cons, List.length_nil]
  omega
def Apart (v : Value) (a : Option Addr) : Prop := ∀ b off, a = some ⟨b, off, none⟩ → v.ownBlock ≠ some b
theorem Gr.apart {w w' : World} {v v' : Value} (h : Gr w w' v v') {b : Nat} (hb : b < w.heap.size) (hne : v.ownBlock ≠ some b) : v'.ownBlock ≠ some b := fun e => by
  rcases h.lies b e with h1 | h1
  · exact hne h1
  · omega
/-- What a piece of a form needs. -/
def SymFit (s : Sym) : Prop := s.name.size ≤ 1000 ∧ 0 ≤ s.kind ∧ s.kind ≤ 255 ∧ 0 ≤ s.pos ∧ s.pos ≤ 9223372036854775807
def RelFit (r : Rel) : Prop := r.name.size ≤ 1000 ∧ 0 ≤ r.kind ∧ r.kind ≤ 255 ∧ 0 ≤ r.pos ∧ r.pos ≤ 9223372036854775807 ∧ (Lit.int .i64 r.add).wf = true

set_option maxRecDepth 100000 in
set_option maxHeartbeats 4000000 in
theorem listI_any {w : World} {B : Nat} {v : Value} {xs : List Int} (ho : RowB w B v xs) (hB : B ≤ w.heap.size) {a : Option Addr} {l c : Nat} {zs : List Int} (h : IntsV w a l c zs) (hv : 0 < l → Apart v a) (hf : ∀ z ∈ zs, (Lit.int .i64 z).wf = true) (hl : l ≤ 8000) (hm : xs.length ≤ 20000000) :
    Calls Tryd.prog 28 #[v, .slice a l c, .func (.func 29) #[] #[]] w fun e w' => ∃ v', e = .returned v' ∧ RowB w' B v' (xs ++ (W.put l ++ zs.flatMap long)) ∧ Gr w w' v v' := by
  have HV : Hid _ := h
  have HO : Hid _ := ho
  have HF : Hid _ := hf
  have HAP : Hid _ := hv
  have hcnt := h.count
  have hpl := W.put_length (l : Int)
  clear h ho hf hv
  go_enter Tryd.func28, Tryd.ntmps28
  go_wp2_with fail
  refine (number_any' HO.out hB (l : Int) (by omega) (by omega) (by omega)).mono ?_
  rintro e w1 ⟨v1, rfl, ho1, g1⟩
  have HO1 : Hid _ := ho1
  have G1 : Hid _ := g1
  have hl1 : (xs ++ W.put (l : Int)).length ≤ 20000010 := by rw [List.length_append]; omega
  clear ho1 g1
  go_wp2_with fail
  go_loopg [0, 15] l (fun r bv iv wq => ∃ (k : Nat) (ys : List Int), iv = .int .i64 k ∧ k ≤ l ∧ l - k ≤ r ∧ ys.length ≤ 20000010 + 1100 * k ∧ Hid (ys = xs ++ (W.put l ++ (zs.take k).flatMap long)) ∧ Hid (RowB wq B bv ys) ∧ Hid (Gr w wq v bv))
  case atStart => exact ⟨0, xs ++ W.put (l : Int), rfl, Nat.zero_le _, by omega, by omega, (by simp : xs ++ W.put (l : Int) = xs ++ (W.put l ++ (zs.take 0).flatMap long)), HO1.out, G1.out⟩
  case round =>
    obtain ⟨k, ys, rfl, hk, hr, hyl, HY, HR, G⟩ := hrel
    have hBr : B ≤ wr.heap.size := Nat.le_trans hB G.out.grown.size
    by_cases hlt : k < l
    · rcases HV.out.cells with h0 | ⟨b, off, hA, hc⟩
      · omega
      have k0 := hc k hlt
      have hne : v.ownBlock ≠ some b := HAP.out (by omega) b off hA
      have q0 := G.out.cell k0 hne
      have HFL : Hid _ := flat_snoc long zs 0 k (by omega)
      have hfit := HF.out (zs.getD k 0) (by simp [List.getD, show k < zs.length by omega])
      have HPC : Hid ((long (zs.getD k 0)).length ≤ 1100) := by show _ ≤ _; rw [(long_len hfit).1]; decide
      subst hA
      have hii : (k : Int) < l := by omega
      have hin : 0 ≤ (k : Int) := by omega
      clear hc k0
      obtain ⟨x, hx⟩ : ∃ x, zs.getD k 0 = x := ⟨_, rfl⟩
      rw [hx] at q0 HFL hfit HPC
      have HX : Hid _ := hfit
      clear hx hfit
      go_wp2_with fail
      refine (long_any HR.out hBr x HX.out (by omega)).mono ?_
      rintro e w2 ⟨v2, rfl, ho2, g2⟩
      have HO2 : Hid (RowB w2 B v2 (ys ++ long x)) := ho2
      have G2 : Hid (Gr w w2 v v2) := G.out.trans g2
      have HY2 : Hid (ys ++ long x = xs ++ (W.put l ++ (zs.take (k + 1)).flatMap long)) := by
        show _ = _
        rw [HFL.out, HY.out]
        simp
      have hyl2 : (ys ++ long x).length ≤ 20000010 + 1100 * (k + 1) := by rw [List.length_append]; have := HPC.out; omega
      clear ho2 g2
      go_wp2_with fail
      go_roundg (l - (k + 1))
      case measure => omega
      case rel => exact ⟨k + 1, _, by first | rfl | (congr 1; omega), by omega, Nat.le_refl _, hyl2, HY2.out, HO2.out, G2.out⟩
    · obtain rfl : k = l := by omega
      have HE : Hid (RowB wr B u0 (xs ++ (W.put k ++ zs.flatMap long))) := by
        have := HR.out
        rw [HY.out, List.take_of_length_le (by omega)] at this
        exact this
      go_wp2_with fail
      go_ret
      exact ⟨_, rfl, HE.out, G.out⟩

set_option maxRecDepth 100000 in
set_option maxHeartbeats 4000000 in
theorem listS_any {w : World} {B : Nat} {v : Value} {xs : List Int} (ho : RowB w B v xs) (hB : B ≤ w.heap.size) {a : Option Addr} {l c : Nat} {zs : List Sym} (h : SymsV w a l c zs) (hv : 0 < l → Apart v a) (hf : ∀ z ∈ zs, SymFit z) (hl : l ≤ 8000) (hm : xs.length ≤ 20000000) :
    Calls Tryd.prog 30 #[v, .slice a l c, .func (.func 31) #[] #[]] w fun e w' => ∃ v', e = .returned v' ∧ RowB w' B v' (xs ++ (W.put l ++ zs.flatMap symB)) ∧ Gr w w' v v' := by
  have HV : Hid _ := h
  have HO : Hid _ := ho
  have HF : Hid _ := hf
  have HAP : Hid _ := hv
  have hcnt := h.count
  have hpl := W.put_length (l : Int)
  clear h ho hf hv
  go_enter Tryd.func30, Tryd.ntmps30
  go_wp2_with fail
  refine (number_any' HO.out hB (l : Int) (by omega) (by omega) (by omega)).mono ?_
  rintro e w1 ⟨v1, rfl, ho1, g1⟩
  have HO1 : Hid _ := ho1
  have G1 : Hid _ := g1
  have hl1 : (xs ++ W.put (l : Int)).length ≤ 20000010 := by rw [List.length_append]; omega
  clear ho1 g1
  go_wp2_with fail
  go_loopg [0, 15] l (fun r bv iv wq => ∃ (k : Nat) (ys : List Int), iv = .int .i64 k ∧ k ≤ l ∧ l - k ≤ r ∧ ys.length ≤ 20000010 + 1100 * k ∧ Hid (ys = xs ++ (W.put l ++ (zs.take k).flatMap symB)) ∧ Hid (RowB wq B bv ys) ∧ Hid (Gr w wq v bv))
  case atStart => exact ⟨0, xs ++ W.put (l : Int), rfl, Nat.zero_le _, by omega, by omega, (by simp : xs ++ W.put (l : Int) = xs ++ (W.put l ++ (zs.take 0).flatMap symB)), HO1.out, G1.out⟩
  case round =>
    obtain ⟨k, ys, rfl, hk, hr, hyl, HY, HR, G⟩ := hrel
    have hBr : B ≤ wr.heap.size := Nat.le_trans hB G.out.grown.size
    by_cases hlt : k < l
    · rcases HV.out.cells with h0 | ⟨b, off, hA, hc⟩
      · omega
      have ⟨k0, k1, k2⟩ := hc k hlt
      have hne : v.ownBlock ≠ some b := HAP.out (by omega) b off hA
      have q0 := G.out.cell k0 hne
      have q1 := G.out.cell k1 hne
      have q2 := G.out.cell k2 hne
      have HFL : Hid _ := flat_snoc symB zs noSym k (by omega)
      have hfit := HF.out (zs.getD k noSym) (by simp [List.getD, show k < zs.length by omega])
      have HPC : Hid ((symB (zs.getD k noSym)).length ≤ 1100) := symB_len hfit.1
      subst hA
      have hii : (k : Int) < l := by omega
      have hin : 0 ≤ (k : Int) := by omega
      clear hc k0 k1 k2
      obtain ⟨z, hz⟩ : ∃ z, zs.getD k noSym = z := ⟨_, rfl⟩
      rw [hz] at q0 q1 q2 HFL hfit HPC
      obtain ⟨nm, kd, ps⟩ := z
      simp only at q0 q1 q2
      have HX : Hid _ := hfit
      clear hz hfit
      obtain ⟨WA, hWA⟩ : ∃ WA, wr.alloc (.cells #[.string nm, .int .i64 kd, .int .i64 ps] 80) = WA := ⟨_, rfl⟩
      have bA : Below wr.heap.size wr WA := by subst hWA; exact bl_one _ _
      have j0 : WA.cell? ⟨wr.heap.size, 0, none⟩ = some (.string nm) := by subst hWA; exact cell_last rfl rfl
      have j1 : WA.cell? ⟨wr.heap.size, 1, none⟩ = some (.int .i64 kd) := by subst hWA; exact cell_last rfl rfl
      have j2 : WA.cell? ⟨wr.heap.size, 2, none⟩ = some (.int .i64 ps) := by subst hWA; exact cell_last rfl rfl
      go_wp2_with fail
      refine (symput_any (own_kept HR.out bA) (Nat.le_trans hBr bA.size) nm kd ps HX.out.1 HX.out.2.1 HX.out.2.2.1 HX.out.2.2.2.1 HX.out.2.2.2.2 (by omega)).mono ?_
      rintro e w2 ⟨v2, rfl, ho2, g2⟩
      have HO2 : Hid (RowB w2 B v2 (ys ++ symB ⟨nm, kd, ps⟩)) := ho2
      have G2 : Hid (Gr w w2 v v2) := G.out.trans ((Gr.below _ bA).trans g2)
      have HY2 : Hid (ys ++ symB ⟨nm, kd, ps⟩ = xs ++ (W.put l ++ (zs.take (k + 1)).flatMap symB)) := by
        show _ = _
        rw [HFL.out, HY.out]
        simp
      have hyl2 : (ys ++ symB ⟨nm, kd, ps⟩).length ≤ 20000010 + 1100 * (k + 1) := by rw [List.length_append]; have := HPC.out; omega
      clear ho2 g2 j0 j1 j2
      go_wp2_with fail
      go_roundg (l - (k + 1))
      case measure => omega
      case rel => exact ⟨k + 1, _, by first | rfl | (congr 1; omega), by omega, Nat.le_refl _, hyl2, HY2.out, HO2.out, G2.out⟩
    · obtain rfl : k = l := by omega
      have HE : Hid (RowB wr B u0 (xs ++ (W.put k ++ zs.flatMap symB))) := by
        have := HR.out
        rw [HY.out, List.take_of_length_le (by omega)] at this
        exact this
      go_wp2_with fail
      go_ret
      exact ⟨_, rfl, HE.out, G.out⟩

end Go.Proofs.YtffokdldgdjkhaaDoor

/- What form and Write come to. -/
namespace Go.Proofs.YtffokdldgdjkhaaDoor
set_option maxRecDepth 100000
open Go.RowKit Go.Maps Go.Lib
set_option linter.unusedVariables false

/-- A row that is full, whatever its marks: append makes a new one. -/
theorem full_grow {w : World} {g n : Nat} {xs : List Value} (ty : TypeId) (hlen : xs.length = n) (hc : ∀ j u, xs[j]? = some u → w.cell? ⟨g, j, none⟩ = some u) (s : ByteArray) (hs : 0 < s.size) (hbytes : n + s.size ≤ 140737488355328) :
    ∃ v' w', (Builtin.append_ #[74, 9] ty #[.slice (some ⟨g, 0, none⟩) n n, .string s]).run Tryd.prog w = .ok v' w' ∧ w'.ownsRow w.heap.size 5 1 v' (n + s.size) (xs ++ strCells s) ∧ Below w.heap.size w w' := by
  obtain ⟨i0, hi, hz0, hz1, hz2⟩ := info_parts infoB
  have hsrc : Src Tryd.prog i0.size 9 (.string s) s.size (byteCells s) w := by rw [hz1]; exact Src.ofString w Tryd.underlying9 s
  have hold : (Builtin.firstCells i0.size n (.slice (some ⟨g, 0, none⟩) n n)).run Tryd.prog w.drew = .ok xs.toArray w.drew := by
    rw [hz1]
    exact run_firstCells_some w.drew 1 n ⟨g, 0, none⟩ n n xs (by omega) (fun j u hu => by rw [Addr.add_lit, Nat.zero_add, World.cell?_drew]; exact hc j u hu)
  have hr := run_append_grow_src (P := Tryd.prog) w 74 9 ty 5 i0 (.int .u8 0) Tryd.underlying74 hi hz0 (some ⟨g, 0, none⟩) n n xs hold (.string s) s.size (byteCells s) hsrc (by omega) (by omega) (growslice_fits (by omega) (by rw [hz2]; omega))
  have hge := grownCap_ge w (n + s.size) n 5
  have hcm : grownCap w (n + s.size) n 5 ≤ maxLen := grownCap_le_maxLen w (n + s.size) n 5 (by unfold maxLen; omega)
  have hL : (xs ++ strCells s).length = (n + s.size) * 1 := by rw [List.length_append, strCells_length, hlen, Nat.mul_one]
  have hz : (Value.int IntKind.u8 0).cells.size = 1 := rfl
  refine ⟨_, _, hr, ⟨hL, .inr ⟨w.heap.size, _, _, rfl, Nat.le_refl _, heap_alloc_new w.drew _, hge, hcm, ?_, ?_⟩⟩, ((Below.refl _ w).drew.alloc (by simp) _)⟩
  · have e : byteCells s = strCells s := rfl
    rw [e]
    simp only [Array.size_append, List.size_toArray, size_zeroCells, hz, hL]
    omega
  · have e : byteCells s = strCells s := rfl
    rw [e]
    simp only [Array.toList_append]
    rw [← hL]
    exact List.take_left
theorem wpList_append_full {ops : Array Oper} {rest : List Oper} {o : Oper} {a : Act} {Q : Exit → Act → World → Prop} {w : World} (hgd : o.guard = none) (sl x : Operand)
    (ho : o.op = .call { callee := .builtin .append, args := #[sl, x], argTypes := #[74, 9] })
    {g n : Nat} {xs : List Value} (hs : a.eval sl = .slice (some ⟨g, 0, none⟩) n n) (hlen : xs.length = n) (hc : ∀ j u, xs[j]? = some u → w.cell? ⟨g, j, none⟩ = some u) (s : ByteArray) (hx : a.eval x = .string s) (h0 : 0 < s.size)
    (hbytes : n + s.size ≤ 140737488355328)
    (h : ∀ v' w', w'.ownsRow w.heap.size 5 1 v' (n + s.size) (xs ++ strCells s) → Below w.heap.size w w' → wpList Tryd.prog ops Q rest (a.put o.dst v') w') : wpList Tryd.prog ops Q (o :: rest) a w := by
  refine wpList_plain hgd fun K hK => ?_
  obtain ⟨v', w', hr, h2, h3⟩ := full_grow o.type hlen hc s h0 hbytes
  unfold Oper.wp execOp
  simp only [ho, resolve, invoke, builtin, Sem.run_bind, Sem.run_pure, Result.andThen_ok, List.map_toArray, List.map_cons, List.map_nil, hs, hx, hr]
  exact hK _ _ (h v' w' h2 h3)

set_option maxRecDepth 100000 in
set_option maxHeartbeats 1000000 in
theorem number_full {w : World} {g k : Nat} {xs : List Int} (hk : xs.length = k) (hc : ∀ j u, (xs.map (Value.int .u8))[j]? = some u → w.cell? ⟨g, j, none⟩ = some u) (n : Int) (h0 : 0 ≤ n) (h1 : n ≤ 9223372036854775807) (hm : k ≤ 1000) :
    Calls Tryd.prog 48 #[.slice (some ⟨g, 0, none⟩) k k, .int .i64 n] w fun e w' => ∃ v', e = .returned v' ∧ RowB w' w.heap.size v' (xs ++ W.put n) ∧ Below w.heap.size w w' := by
  have HC : Hid _ := hc
  have hpl := W.put_length n
  have HPB : Hid _ := W.put_bd n h0 (by omega)
  clear hc
  go_enter Tryd.func48, Tryd.ntmps48
  go_wp2_with fail
  refine (put_any n h0 (by omega) _).mono ?_
  rintro e w1 ⟨rfl, hb1⟩
  have HC1 : Hid (∀ j u, (xs.map (Value.int .u8))[j]? = some u → w1.cell? ⟨g, j, none⟩ = some u) := fun j u hu => cell_thru hb1 (HC.out j u hu)
  have hsz : (strOfNums (W.put n)).size = (W.put n).length := size_of HPB.out
  go_wp2_with (first | (at_builtin; refine wpList_append_full rfl _ _ rfl (xs := xs.map (Value.int .u8)) rfl (by simpa using hk) HC1.out (strOfNums (W.put n)) rfl (by omega) (by omega) ?_) | go_in)
  intro v2 w2 ho2 hb2
  have q2 : Below w.heap.size w w2 := hb1.trans (hb2.mono hb1.size)
  have HO2 : Hid (RowB w2 w.heap.size v2 (xs ++ W.put n)) := by
    have : RowB w2 w1.heap.size v2 (xs ++ W.put n) := row_is ho2 (by rw [strCells_nums, nums_of HPB.out]; simp)
    have hsz1 := hb1.size
    refine ⟨this.1, ?_⟩
    rcases this.2 with h2 | ⟨g, cap, cur, hv, hg, r⟩
    · exact .inl h2
    · exact .inr ⟨g, cap, cur, hv, by omega, r⟩
  clear ho2 hb2
  go_wp2
  go_ret
  exact ⟨_, rfl, HO2.out, q2⟩

set_option maxRecDepth 100000 in
set_option maxHeartbeats 1000000 in
theorem text_full {w : World} {g k : Nat} {xs : List Int} (hk : xs.length = k) (hc : ∀ j u, (xs.map (Value.int .u8))[j]? = some u → w.cell? ⟨g, j, none⟩ = some u) (s : ByteArray) (hs : s.size ≤ 1000000000) (hm : k ≤ 1000) :
    Calls Tryd.prog 27 #[.slice (some ⟨g, 0, none⟩) k k, .string s] w fun e w' => ∃ v', e = .returned v' ∧ RowB w' w.heap.size v' (xs ++ txt s) ∧ Below w.heap.size w w' := by
  have HC : Hid _ := hc
  have hpl := W.put_length (s.size : Int)
  clear hc
  go_enter Tryd.func27, Tryd.ntmps27
  go_wp2_with fail
  refine (number_full hk HC.out s.size (by omega) (by omega) hm).mono ?_
  rintro e w1 ⟨v1, rfl, ho1, hb1⟩
  have HO1 : Hid (RowB w1 w.heap.size v1 (xs ++ W.put s.size)) := ho1
  have HLT : Hid (∀ x, v1.ownBlock = some x → w.heap.size ≤ x) := fun x hx => (ho1.lt x hx).1
  have hl1 : (xs ++ W.put s.size).length ≤ 1010 := by rw [List.length_append]; omega
  have hB1 := hb1.size
  clear ho1
  go_wp2_with (first | (at_builtin; refine wpList_append_str rfl _ _ rfl rfl HO1.out s rfl (by omega) hB1 ?_) | go_in)
  intro v2 w2 ho2 hg2
  have q2 : Below w.heap.size w w2 := hb1.trans (hg2.toBelow hB1 HLT.out)
  have HO2 : Hid (RowB w2 w.heap.size v2 (xs ++ txt s)) := by
    exact row_is ho2 (by rw [strCells_nums]; simp [txt])
  clear ho2 hg2
  go_wp2
  go_ret
  exact ⟨_, rfl, HO2.out, q2⟩

/-- An object's form. -/
def formB (o : ObjD) : List Int := [67, 79, 84, 49] ++ txt o.code ++ (W.put o.data.length ++ o.data.flatMap long) ++ (W.put o.syms.length ++ o.syms.flatMap symB) ++ (W.put o.rels.length ++ o.rels.flatMap relB)

theorem getD_of_mem {α : Type} {l : List α} {x : α} (h : x ∈ l) (d : α) : ∃ i, i < l.length ∧ l.getD i d = x := by
  obtain ⟨i, hi, rfl⟩ := List.getElem_of_mem h
  exact ⟨i, hi, by simp [List.getD, hi]⟩
theorem syms_fit {cl dl : Nat} {ss : List Sym} (h : symsOk cl dl ss = true) (h1 : cl ≤ 65536) (h2 : dl ≤ 4096) : ss.length ≤ 1000 ∧ ∀ s ∈ ss, SymFit s := by
  unfold symsOk at h
  simp only [Bool.and_eq_true, decide_eq_true_eq, List.all_eq_true, List.mem_range] at h
  refine ⟨h.1, fun s hs => ?_⟩
  obtain ⟨i, hi, rfl⟩ := getD_of_mem hs noSym
  have := h.2 i hi
  unfold symAt symOk nameOk roomOf at this
  simp only [Bool.and_eq_true, decide_eq_true_eq] at this
  obtain ⟨-, ⟨hn1, hn2⟩, hp0, hp1⟩ := this
  unfold SymFit
  split at hp1
  · next hk => omega
  · split at hp1
    · next hk => omega
    · omega
theorem rels_fit {cl : Nat} {rs : List Rel} (h : relsOk cl rs = true) (h1 : cl ≤ 65536) (hw : ∀ r ∈ rs, (Lit.int .i64 r.add).wf = true) : rs.length ≤ 8000 ∧ ∀ r ∈ rs, RelFit r := by
  unfold relsOk at h
  simp only [Bool.and_eq_true, decide_eq_true_eq, List.all_eq_true, List.mem_range] at h
  have pos : ∀ i, i < rs.length → 0 ≤ (rs.getD i noRel).pos := by
    intro i
    induction i with
    | zero =>
      intro hi
      have := h.2 0 hi
      unfold relOk freeAt at this
      simp only [Bool.and_eq_true, decide_eq_true_eq, if_pos] at this
      exact this.1.1
    | succ i ih =>
      intro hi
      have h0 := ih (by omega)
      have := h.2 (i + 1) hi
      unfold relOk freeAt at this
      simp only [Bool.and_eq_true, decide_eq_true_eq, if_neg (Nat.succ_ne_zero i), Nat.add_sub_cancel] at this
      omega
  refine ⟨h.1, fun r hr => ?_⟩
  have hwr := hw r hr
  obtain ⟨i, hi, rfl⟩ := getD_of_mem hr noRel
  have hp := pos i hi
  have := h.2 i hi
  unfold relOk nameOk at this
  simp only [Bool.and_eq_true, decide_eq_true_eq] at this
  obtain ⟨⟨-, hq⟩, ⟨hn1, hn2⟩, ha⟩ := this
  have hk : (rs.getD i noRel).kind = 1 ∨ (rs.getD i noRel).kind = 2 := by
    unfold addOk at ha
    by_cases c1 : (rs.getD i noRel).kind = 1
    · exact .inl c1
    · by_cases c2 : (rs.getD i noRel).kind = 2
      · exact .inr c2
      · rw [if_neg c1, if_neg c2] at ha
        cases ha
  unfold RelFit
  exact ⟨by omega, by omega, by omega, hp, by omega, hwr⟩
theorem may_parts {o : ObjD} (h : o.may = true) : o.code.size ≤ 65536 ∧ o.data.length ≤ 4096 ∧ symsOk o.code.size o.data.length o.syms = true ∧ relsOk o.code.size o.rels = true := by
  unfold ObjD.may at h
  simp only [Bool.and_eq_true, decide_eq_true_eq] at h
  exact ⟨h.1.1, h.1.2, h.2.1, h.2.2⟩
theorem row_base {w : World} {B B' : Nat} {v : Value} {xs : List Int} (o : RowB w B v xs) (h : B' ≤ B) : RowB w B' v xs := by
  refine ⟨o.1, ?_⟩
  rcases o.2 with h2 | ⟨g, cap, cur, hv, hg, r⟩
  · exact .inl h2
  · exact .inr ⟨g, cap, cur, hv, Nat.le_trans h hg, r⟩
theorem row_ne {w : World} {B : Nat} {v : Value} {xs : List Int} (o : RowB w (B + 1) v xs) : v.ownBlock ≠ some B := fun e => by have := (o.lt B e).1; omega
theorem row_below {w w' : World} {B : Nat} {v v' : Value} {xs : List Int} (o : RowB w (B + 1) v xs) (g : Gr w w' v v') (hB : B + 1 ≤ w.heap.size) : Below B w w' := g.toBelow (by omega) (fun x hx => by have := (o.lt x hx).1; omega)
theorem apart_I {w w' : World} {v : Value} {xs zs : List Int} (ho : RowB w' w.heap.size v xs) {a : Option Addr} {l c : Nat} (h : IntsV w a l c zs) (hl : 0 < l) : Apart v a := fun b off e hv => by
  have := (ho.lt b hv).1
  rcases h.cells with h0 | ⟨b', off', e', hc⟩
  · omega
  · rw [e] at e'
    cases e'
    have : b < w.heap.size := World.block_lt_of_cell? w ⟨b, off + 0, none⟩ (hc 0 hl)
    omega
theorem apart_S {w w' : World} {v : Value} {xs : List Int} {zs : List Sym} (ho : RowB w' w.heap.size v xs) {a : Option Addr} {l c : Nat} (h : SymsV w a l c zs) (hl : 0 < l) : Apart v a := fun b off e hv => by
  have := (ho.lt b hv).1
  rcases h.cells with h0 | ⟨b', off', e', hc⟩
  · omega
  · rw [e] at e'
    cases e'
    have : b < w.heap.size := World.block_lt_of_cell? w ⟨b, off + 0 * 3, none⟩ (hc 0 hl).1
    omega
theorem apart_R {w w' : World} {v : Value} {xs : List Int} {zs : List Rel} (ho : RowB w' w.heap.size v xs) {a : Option Addr} {l c : Nat} (h : RelsV w a l c zs) (hl : 0 < l) : Apart v a := fun b off e hv => by
  have := (ho.lt b hv).1
  rcases h.cells with h0 | ⟨b', off', e', hc⟩
  · omega
  · rw [e] at e'
    cases e'
    have : b < w.heap.size := World.block_lt_of_cell? w ⟨b, off + 0 * 4, none⟩ (hc 0 hl).1
    omega
theorem flat_len {α : Type} (f : α → List Int) (m : Nat) : ∀ (l : List α), (∀ x ∈ l, (f x).length ≤ m) → (l.flatMap f).length ≤ m * l.length
  | [], _ => by simp
  | x :: r, h => by
    have h1 := h x (by simp)
    have h2 := flat_len f m r (fun y hy => h y (by simp [hy]))
    simp only [List.flatMap_cons, List.length_append, List.length_cons]
    rw [Nat.mul_succ]
    omega

end Go.Proofs.YtffokdldgdjkhaaDoor

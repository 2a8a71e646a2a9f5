/- The document's put: a number into a rising list. -/
import Derived.Test.YtfkpbmopneleiaaMemRefMeet
import Derived.Test.YtfkpbmopneleiaaMemMay
import Derived.Test.YtfkpbmopneleiaaMemV
namespace Go.Proofs.Ytfkpbmopneleiaa
open Go.RowKit Go.Maps
set_option linter.unusedVariables false

theorem below_ownM {w w1 w2 : World} {B : Nat} {v : Value} {e : TypeId} {size n : Nat} {xs : List Value} (h : Below B w w1) (o : w1.ownsRow B e size v n xs) (hg : w1.grownBy w2 v.ownBlock) (hB : B ≤ w1.heap.size) : Below B w w2 :=
  h.grown hg hB (fun k hk => (o.lt k hk).1)

def stepP (n : Int) (s : List Int × Bool) (z : Int) : List Int × Bool :=
  let s1 := if s.2 = false ∧ n ≤ z then (s.1 ++ [n], true) else s
  (if z = n then s1.1 else s1.1 ++ [z], s1.2)
def putS (n : Int) (zs : List Int) : List Int × Bool := zs.foldl (stepP n) ([], false)
def putL (n : Int) (zs : List Int) : List Int := if (putS n zs).2 = true then (putS n zs).1 else (putS n zs).1 ++ [n]
theorem putS_snoc (n : Int) (zs : List Int) (k : Nat) (h : k < zs.length) : putS n (zs.take (k + 1)) = stepP n (putS n (zs.take k)) (zs.getD k 0) := by
  have : zs.take (k + 1) = zs.take k ++ [zs.getD k 0] := by rw [List.take_succ_eq_append_getElem h]; simp [List.getD, h]
  rw [this]
  unfold putS
  rw [List.foldl_append]
  rfl

set_option maxRecDepth 100000 in
set_option maxHeartbeats 8000000 in
theorem rput_any {w : World} {a : Option Addr} {l c : Nat} {zs : List Int} (n : Int) (h : View w a l c zs) (hl : l ≤ 1000000) :
    Calls Try.prog 34 #[.slice a l c, .int .i64 n] w fun e w' => ∃ v', e = .returned v' ∧ w'.ownsRow w.heap.size 2 1 v' (putL n zs).length ((putL n zs).map (Value.int .i64)) ∧ Below w.heap.size w w' := by
  obtain ⟨i0, hi, hz0, hz1, hz2⟩ := info_parts infoI
  have hcnt := h.count
  have HV : Hid _ := h
  clear h
  go_enter Try.func34, Try.ntmps34
  go_wp2_with fail
  go_loopg [5, 6, 7] l (fun r ov dv kv wq => ∃ (k : Nat) (ys : List Int) (d : Bool) (v : Value), kv = .int .i64 k ∧ ov = v ∧ dv = .bool d ∧ k ≤ l ∧ l - k ≤ r ∧ ys.length ≤ 2 * k ∧ Hid (putS n (zs.take k) = (ys, d)) ∧ Hid (wq.ownsRow w.heap.size 2 1 v ys.length (ys.map (Value.int .i64))) ∧ Below w.heap.size w wq)
  case atStart => exact ⟨0, [], false, _, rfl, rfl, rfl, Nat.zero_le _, by omega, by simp, rfl, World.ownsRow_nil _ _ _ _, Below.refl _ _⟩
  case round =>
    obtain ⟨k, ys, d, v, rfl, rfl, rfl, hk, hr, hys, HS, HO, hb⟩ := hrel
    by_cases hlt : k < l
    · rcases HV.out.cells with h0 | ⟨b, o, hA, hc⟩
      · omega
      have k1 := hc k hlt
      have zb1 := World.block_lt_of_cell? w ⟨b, o + k, none⟩ k1
      have c1 := (hb.cell (p := ⟨b, o + k, none⟩) zb1).trans k1
      have hki : (k : Int) < l := by omega
      have hkn : 0 ≤ (k : Int) := by omega
      have HST : Hid _ := putS_snoc n zs k (by omega)
      rw [HS.out] at HST
      obtain ⟨z, hz⟩ : ∃ z, zs.getD k 0 = z := ⟨_, rfl⟩
      rw [hz] at c1 HST k1
      have HK1 : Hid _ := k1
      subst hA
      clear hc hz k1
      rcases (show (d = true ∧ z = n) ∨ (d = true ∧ ¬ z = n) ∨ (d = false ∧ n ≤ z ∧ z = n) ∨ (d = false ∧ n ≤ z ∧ ¬ z = n) ∨ (d = false ∧ ¬ n ≤ z ∧ ¬ z = n) by cases d <;> by_cases e : z = n <;> by_cases f : n ≤ z <;> simp [e, f] <;> omega) with ⟨rfl, rfl⟩ | ⟨rfl, hne⟩ | ⟨rfl, hle, rfl⟩ | ⟨rfl, hle, hne⟩ | ⟨rfl, hle, hne⟩
      · simp [stepP] at HST
        go_wp2_with fail
        go_roundg (l - (k + 1))
        case measure => omega
        case rel => exact ⟨k + 1, ys, true, _, by first | rfl | (congr 1; omega), rfl, rfl, by omega, Nat.le_refl _, by first | omega | (simp; omega), HST.out, (by simpa using HO.out : wr.ownsRow w.heap.size 2 1 _ (ys).length ((ys).map (Value.int .i64))), hb⟩
      · simp [stepP, hne] at HST
        have hbt : (z != n) = true := by simpa using hne
        go_wp2_with (first | (at_builtin; refine wpList_append_own _ rfl _ _ 24 rfl w.heap.size 2 i0 (.int .i64 0) 1 8 Try.underlying24 hi hz0 hz1 hz2 rfl (by decide) _ _ _ rfl (HO.out.alloc _) ⟨wr.heap.size, 0, none⟩ 1 1 [.int .i64 z] rfl rfl (cell_one_new _ _ _) (by intro u hu; simp at hu; subst hu; rfl) (by unfold maxLen; omega) (by omega) (by have := hb.size; simp; omega) ?_) | go_in)
        intro v1 w1 ho1 hg1 _
        have hb1 : Below w.heap.size w w1 := below_ownM (hb.alloc (by have := hb.size; omega) _) (HO.out.alloc _) hg1 (by have := hb.size; simp; omega)
        have HO1 : Hid (w1.ownsRow w.heap.size 2 1 v1 (ys ++ [z]).length ((ys ++ [z]).map (Value.int .i64))) := by
          show World.ownsRow _ _ _ _ _ _ _
          simpa using ho1
        clear hg1 ho1
        go_wp2_with fail
        go_roundg (l - (k + 1))
        case measure => omega
        case rel => exact ⟨k + 1, (ys ++ [z]), true, _, by first | rfl | (congr 1; omega), rfl, rfl, by omega, Nat.le_refl _, by first | omega | (simp; omega), HST.out, (by simpa using HO1.out : w1.ownsRow w.heap.size 2 1 v1 ((ys ++ [z])).length (((ys ++ [z])).map (Value.int .i64))), hb1⟩
      · simp [stepP] at HST
        go_wp2_with (first | (at_builtin; refine wpList_append_own _ rfl _ _ 24 rfl w.heap.size 2 i0 (.int .i64 0) 1 8 Try.underlying24 hi hz0 hz1 hz2 rfl (by decide) _ _ _ rfl (HO.out.alloc _) ⟨wr.heap.size, 0, none⟩ 1 1 [.int .i64 z] rfl rfl (cell_one_new _ _ _) (by intro u hu; simp at hu; subst hu; rfl) (by unfold maxLen; omega) (by omega) (by have := hb.size; simp; omega) ?_) | go_in)
        intro v1 w1 ho1 hg1 _
        have hb1 : Below w.heap.size w w1 := below_ownM (hb.alloc (by have := hb.size; omega) _) (HO.out.alloc _) hg1 (by have := hb.size; simp; omega)
        have HO1 : Hid (w1.ownsRow w.heap.size 2 1 v1 (ys ++ [z]).length ((ys ++ [z]).map (Value.int .i64))) := by
          show World.ownsRow _ _ _ _ _ _ _
          simpa using ho1
        clear hg1 ho1
        have c2 := (hb1.cell (p := ⟨b, o + k, none⟩) zb1).trans HK1.out
        go_wp2_with fail
        go_roundg (l - (k + 1))
        case measure => omega
        case rel => exact ⟨k + 1, (ys ++ [z]), true, _, by first | rfl | (congr 1; omega), rfl, rfl, by omega, Nat.le_refl _, by first | omega | (simp; omega), HST.out, (by simpa using HO1.out : w1.ownsRow w.heap.size 2 1 v1 ((ys ++ [z])).length (((ys ++ [z])).map (Value.int .i64))), hb1⟩
      · simp [stepP, hne, hle] at HST
        have hbt : (z != n) = true := by simpa using hne
        go_wp2_with (first | (at_builtin; refine wpList_append_own _ rfl _ _ 24 rfl w.heap.size 2 i0 (.int .i64 0) 1 8 Try.underlying24 hi hz0 hz1 hz2 rfl (by decide) _ _ _ rfl (HO.out.alloc _) ⟨wr.heap.size, 0, none⟩ 1 1 [.int .i64 n] rfl rfl (cell_one_new _ _ _) (by intro u hu; simp at hu; subst hu; rfl) (by unfold maxLen; omega) (by omega) (by have := hb.size; simp; omega) ?_) | go_in)
        intro v1 w1 ho1 hg1 _
        have hb1 : Below w.heap.size w w1 := below_ownM (hb.alloc (by have := hb.size; omega) _) (HO.out.alloc _) hg1 (by have := hb.size; simp; omega)
        have HO1 : Hid (w1.ownsRow w.heap.size 2 1 v1 (ys ++ [n]).length ((ys ++ [n]).map (Value.int .i64))) := by
          show World.ownsRow _ _ _ _ _ _ _
          simpa using ho1
        clear hg1 ho1
        have c2 := (hb1.cell (p := ⟨b, o + k, none⟩) zb1).trans HK1.out
        have hl2 : (ys ++ [n]).length = ys.length + 1 := by simp
        go_wp2_with (first | (at_builtin; refine wpList_append_own _ rfl _ _ 24 rfl w.heap.size 2 i0 (.int .i64 0) 1 8 Try.underlying24 hi hz0 hz1 hz2 rfl (by decide) _ _ _ rfl (HO1.out.alloc _) ⟨w1.heap.size, 0, none⟩ 1 1 [.int .i64 z] rfl rfl (cell_one_new _ _ _) (by intro u hu; simp at hu; subst hu; rfl) (by unfold maxLen; omega) (by omega) (by have := hb1.size; simp; omega) ?_) | go_in)
        intro v2 w2 ho1 hg1 _
        have hb2 : Below w.heap.size w w2 := below_ownM (hb1.alloc (by have := hb1.size; omega) _) (HO1.out.alloc _) hg1 (by have := hb1.size; simp; omega)
        have HO2 : Hid (w2.ownsRow w.heap.size 2 1 v2 ((ys ++ [n]) ++ [z]).length (((ys ++ [n]) ++ [z]).map (Value.int .i64))) := by
          show World.ownsRow _ _ _ _ _ _ _
          simpa using ho1
        clear hg1 ho1
        go_wp2_with fail
        go_roundg (l - (k + 1))
        case measure => omega
        case rel => exact ⟨k + 1, (ys ++ [n, z]), true, _, by first | rfl | (congr 1; omega), rfl, rfl, by omega, Nat.le_refl _, by first | omega | (simp; omega), HST.out, (by simpa using HO2.out : w2.ownsRow w.heap.size 2 1 v2 ((ys ++ [n, z])).length (((ys ++ [n, z])).map (Value.int .i64))), hb2⟩
      · simp [stepP, hne, hle] at HST
        have hbt : (z != n) = true := by simpa using hne
        go_wp2_with (first | (at_builtin; refine wpList_append_own _ rfl _ _ 24 rfl w.heap.size 2 i0 (.int .i64 0) 1 8 Try.underlying24 hi hz0 hz1 hz2 rfl (by decide) _ _ _ rfl (HO.out.alloc _) ⟨wr.heap.size, 0, none⟩ 1 1 [.int .i64 z] rfl rfl (cell_one_new _ _ _) (by intro u hu; simp at hu; subst hu; rfl) (by unfold maxLen; omega) (by omega) (by have := hb.size; simp; omega) ?_) | go_in)
        intro v1 w1 ho1 hg1 _
        have hb1 : Below w.heap.size w w1 := below_ownM (hb.alloc (by have := hb.size; omega) _) (HO.out.alloc _) hg1 (by have := hb.size; simp; omega)
        have HO1 : Hid (w1.ownsRow w.heap.size 2 1 v1 (ys ++ [z]).length ((ys ++ [z]).map (Value.int .i64))) := by
          show World.ownsRow _ _ _ _ _ _ _
          simpa using ho1
        clear hg1 ho1
        go_wp2_with fail
        go_roundg (l - (k + 1))
        case measure => omega
        case rel => exact ⟨k + 1, (ys ++ [z]), false, _, by first | rfl | (congr 1; omega), rfl, rfl, by omega, Nat.le_refl _, by first | omega | (simp; omega), HST.out, (by simpa using HO1.out : w1.ownsRow w.heap.size 2 1 v1 ((ys ++ [z])).length (((ys ++ [z])).map (Value.int .i64))), hb1⟩
    · obtain rfl : k = l := by omega
      have hS := HS.out
      rw [List.take_of_length_le (by omega)] at hS
      cases d with
      | true =>
        have HP : Hid (putL n zs = ys) := by show putL n zs = ys; unfold putL; rw [hS]; rfl
        clear hS HS
        go_wp2_with fail
        go_ret
        refine ⟨_, rfl, ?_, hb⟩
        rw [HP.out]
        exact HO.out
      | false =>
        have HP : Hid (putL n zs = ys ++ [n]) := by show putL n zs = ys ++ [n]; unfold putL; rw [hS]; rfl
        clear hS HS
        go_wp2_with (first | (at_builtin; refine wpList_append_own _ rfl _ _ 24 rfl w.heap.size 2 i0 (.int .i64 0) 1 8 Try.underlying24 hi hz0 hz1 hz2 rfl (by decide) _ _ _ rfl (HO.out.alloc _) ⟨wr.heap.size, 0, none⟩ 1 1 [.int .i64 n] rfl rfl (cell_one_new _ _ _) (by intro u hu; simp at hu; subst hu; rfl) (by unfold maxLen; omega) (by omega) (by have := hb.size; simp; omega) ?_) | go_in)
        intro v1 w1 ho1 hg1 _
        have hb1 : Below w.heap.size w w1 := below_ownM (hb.alloc (by have := hb.size; omega) _) (HO.out.alloc _) hg1 (by have := hb.size; simp; omega)
        have HO1 : Hid (w1.ownsRow w.heap.size 2 1 v1 (ys ++ [n]).length ((ys ++ [n]).map (Value.int .i64))) := by
          show World.ownsRow _ _ _ _ _ _ _
          simpa using ho1
        clear hg1 ho1
        go_wp2_with fail
        go_ret
        refine ⟨v1, rfl, ?_, hb1⟩
        rw [HP.out]
        exact HO1.out

end Go.Proofs.Ytfkpbmopneleiaa

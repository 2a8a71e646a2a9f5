/- The given answers of layer 1: the calls of live, one by one, and live. -/
import Derived.Test.YtaajgmnhbcadpaaWordBin
import Derived.Test.YtaajgmnhbcadpaaWordBytes
import Derived.Test.YtaajgmnhbcadpaaWordGroups
import Derived.Test.YtaajgmnhbcadpaaWordTake
namespace Go.Proofs.Ytaajgmnhbcadpaa
open Go.RowKit

theorem live_q (w : World) : Calls Try.prog 9 #[.int .i64 6, .int .i64 (-7), .int .i64 2] w fun e w' => e = .returned (.tuple #[.int .i64 (-3), .int .i64 0]) ∧ w' = w := by
  refine (bin_any 6 (-7) 2 w).mono ?_
  rintro e w' ⟨rfl, rfl⟩
  exact ⟨ret2 (by decide +kernel) (by decide +kernel), rfl⟩
theorem live_f (w : World) : Calls Try.prog 9 #[.int .i64 6, .int .i64 1, .int .i64 0] w fun e w' => e = .returned (.tuple #[.int .i64 0, .int .i64 10]) ∧ w' = w := by
  refine (bin_any 6 1 0 w).mono ?_
  rintro e w' ⟨rfl, rfl⟩
  exact ⟨ret2 (by decide +kernel) (by decide +kernel), rfl⟩
theorem live_s (w : World) : Calls Try.prog 12 #[.int .i64 (-2), .int .i64 4] w fun e w' => e = .returned (.tuple #[.string { data := #[254, 255, 255, 255] }, .int .i64 0]) ∧ Below w.heap.size w w' := by
  refine (bytes_any (-2) 4 w).mono ?_
  rintro e w' ⟨rfl, hb⟩
  have h1 : W.bytesV (-2) 4 = [254, 255, 255, 255] := by decide +kernel
  have h2 : W.bytesE (-2) 4 = 0 := by decide +kernel
  rw [h1, h2]
  exact ⟨rfl, hb⟩
theorem live_t (w : World) : Calls Try.prog 16 #[.string { data := #[172, 2] }, .int .i64 0] w fun e w' => e = .returned (.tuple #[.int .u64 300, .int .i64 2, .int .i64 0]) ∧ Below w.heap.size w w' := by
  refine (take_any { data := #[172, 2] } 0 (by decide +kernel) w).mono ?_
  rintro e w' ⟨rfl, hb⟩
  exact ⟨ret3 (by decide +kernel), hb⟩
theorem live_a (w : World) : Calls Try.prog 20 #[.slice (some ⟨w.heap.size, 0, none⟩) 2 2] (w.alloc (.cells #[.int .u64 300, .int .u64 1] 31)) fun e w' => e = .returned (.string { data := #[172, 2, 1] }) ∧ Below w.heap.size w w' := by
  refine (all_row w.heap.size 0 2 2 [300, 1] rfl (by decide +kernel) _ ?_ (by omega)).mono ?_
  · intro i hi
    rcases (show i = 0 ∨ i = 1 by omega) with rfl | rfl
    · simp
    · simp
  · rintro e w' ⟨rfl, hb⟩
    have h1 : W.putAll [300, 1] = [172, 2, 1] := by decide +kernel
    rw [h1]
    exact ⟨rfl, ((Below.refl _ _).alloc (Nat.le_refl _) _).trans (hb.mono (by simp))⟩

set_option maxRecDepth 100000 in
set_option maxHeartbeats 1000000 in
theorem live_any (w : World) : Calls Try.prog 11 #[] w fun e w' => e = .returned (.bool true) ∧ Below w.heap.size w w' := by
  go_enter Try.func11, Try.ntmps11
  go_wp2_with fail
  refine (live_q _).mono ?_
  rintro e w1 ⟨rfl, rfl⟩
  go_wp2_with fail
  refine (live_f _).mono ?_
  rintro e w2 ⟨rfl, rfl⟩
  go_wp2_with fail
  refine (live_s _).mono ?_
  rintro e w3 ⟨rfl, h3⟩
  go_wp2_with fail
  refine (live_t _).mono ?_
  rintro e w4 ⟨rfl, h4⟩
  go_wp2_with fail
  refine (live_a _).mono ?_
  rintro e w5 ⟨rfl, h5⟩
  go_wp2
  go_ret
  exact ⟨rfl, (h3.trans (h4.mono h3.size)).trans (h5.mono (Nat.le_trans h3.size h4.size))⟩

end Go.Proofs.Ytaajgmnhbcadpaa

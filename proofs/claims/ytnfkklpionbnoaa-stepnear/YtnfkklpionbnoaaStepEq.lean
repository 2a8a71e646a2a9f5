/- Two threads that are the same, held against each other: the array of registers. -/
import Derived.Test.YtnfkklpionbnoaaStepMath
import Derived.Test.YtnfkklpionbnoaaProg
import Derived.WalkKit
import Derived.ChangeKeysEq
namespace Go.Proofs.Ytnfkklpionbnoaa
open Go.RowKit

theorem info_i64 : ∃ i, Try.prog.info? 2 = some i := by
  have h : (Try.prog.info? 2).isSome = true := by kernel_rfl
  exact Option.isSome_iff_exists.1 h
theorem cell_i64 : Try.prog.cellsOf 2 = 1 := by kernel_rfl
theorem plain_i64 : Try.prog.plainKey 2 = true := by kernel_rfl

theorem eq_step (w : World) (xs : Array Value) (i : Nat) (is : List Nat) (a : Int) (h : xs[i]? = some (.int .i64 a)) :
    (Op.eqItems 9998 2 1 xs xs (i :: is)).run Try.prog w = (Op.eqItems 9998 2 1 xs xs is).run Try.prog w := by
  have hp := run_part_plain w plain_i64 (xs := xs) (off := i * 1) (v := .int .i64 a) (by rw [Nat.mul_one]; exact h)
  simp only [Op.eqItems, Sem.run_bind, hp, Result.andThen_ok, run_equalIn_int w 9997 2 .i64 .i64 a a Try.underlying2]
  simp

theorem eq8 (c : S.C) (w : World) : (Op.equalIn 9999 22 (.agg #[.int .i64 c.r0, .int .i64 c.r1, .int .i64 c.r2, .int .i64 c.r3, .int .i64 c.r4, .int .i64 c.r5, .int .i64 c.r6, .int .i64 c.r7]) (.agg #[.int .i64 c.r0, .int .i64 c.r1, .int .i64 c.r2, .int .i64 c.r3, .int .i64 c.r4, .int .i64 c.r5, .int .i64 c.r6, .int .i64 c.r7])).run Try.prog w = .ok true w := by
  obtain ⟨i, hi⟩ := info_i64
  rw [run_equalIn_array w 9998 _ _ Try.underlying22 hi, cell_i64, show List.range 8 = [0, 1, 2, 3, 4, 5, 6, 7] from rfl]
  rw [eq_step w _ 0 _ c.r0 rfl, eq_step w _ 1 _ c.r1 rfl, eq_step w _ 2 _ c.r2 rfl, eq_step w _ 3 _ c.r3 rfl, eq_step w _ 4 _ c.r4 rfl, eq_step w _ 5 _ c.r5 rfl, eq_step w _ 6 _ c.r6 rfl, eq_step w _ 7 _ c.r7 rfl]
  simp [Op.eqItems]
end Go.Proofs.Ytnfkklpionbnoaa

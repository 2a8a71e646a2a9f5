/- The given answers of layer 4. -/
import Derived.Test.YtnfkklpionbnoaaStepStart
import Derived.Test.YtnfkklpionbnoaaStepFinish
namespace Go.Proofs.Ytnfkklpionbnoaa
open Go.RowKit
set_option linter.unusedVariables false

theorem live_d (w : World) : Calls Try.prog 9 #[.agg #[.int .i64 0, .int .i64 5, .int .i64 0, .int .i64 0, .int .i64 0, .int .i64 0, .int .i64 0, .int .i64 64, .int .i64 100, .int .i64 0, .int .i64 0], .agg #[.int .i64 31, .int .i64 1, .int .i64 0, .int .i64 0], .int .i64 2] w
    fun e w' => e = .returned (.tuple #[.agg #[.int .i64 0, .int .i64 5, .int .i64 0, .int .i64 0, .int .i64 0, .int .i64 0, .int .i64 0, .int .i64 64, .int .i64 102, .int .i64 0, .int .i64 0], .agg #[.int .i64 6, .int .i64 0, .int .i64 5, .int .i64 0]]) ∧ Below w.heap.size w w' := by
  refine (start_any ⟨0, 5, 0, 0, 0, 0, 0, 64, 100, 0, 0⟩ 31 1 0 0 2 w).mono ?_
  rintro e w' ⟨rfl, hb⟩
  exact ⟨by kernel_rfl, hb⟩
theorem live_f (w : World) : Calls Try.prog 9 #[.agg #[.int .i64 0, .int .i64 5, .int .i64 0, .int .i64 0, .int .i64 0, .int .i64 0, .int .i64 0, .int .i64 64, .int .i64 100, .int .i64 0, .int .i64 0], .agg #[.int .i64 23, .int .i64 0, .int .i64 0, .int .i64 10], .int .i64 5] w
    fun e w' => e = .returned (.tuple #[.agg #[.int .i64 0, .int .i64 5, .int .i64 0, .int .i64 0, .int .i64 0, .int .i64 0, .int .i64 0, .int .i64 56, .int .i64 115, .int .i64 0, .int .i64 0], .agg #[.int .i64 2, .int .i64 56, .int .i64 105, .int .i64 0]]) ∧ Below w.heap.size w w' := by
  refine (start_any ⟨0, 5, 0, 0, 0, 0, 0, 64, 100, 0, 0⟩ 23 0 0 10 5 w).mono ?_
  rintro e w' ⟨rfl, hb⟩
  exact ⟨by kernel_rfl, hb⟩
theorem live_g (w : World) : Calls Try.prog 9 #[.agg #[.int .i64 0, .int .i64 5, .int .i64 0, .int .i64 0, .int .i64 0, .int .i64 0, .int .i64 0, .int .i64 64, .int .i64 100, .int .i64 0, .int .i64 0], .agg #[.int .i64 6, .int .i64 1, .int .i64 2, .int .i64 0], .int .i64 2] w
    fun e w' => e = .returned (.tuple #[.agg #[.int .i64 0, .int .i64 5, .int .i64 0, .int .i64 0, .int .i64 0, .int .i64 0, .int .i64 0, .int .i64 64, .int .i64 100, .int .i64 2, .int .i64 1], .agg #[.int .i64 0, .int .i64 0, .int .i64 0, .int .i64 0]]) ∧ Below w.heap.size w w' := by
  refine (start_any ⟨0, 5, 0, 0, 0, 0, 0, 64, 100, 0, 0⟩ 6 1 2 0 2 w).mono ?_
  rintro e w' ⟨rfl, hb⟩
  exact ⟨by kernel_rfl, hb⟩
theorem live_h (w : World) : Calls Try.prog 12 #[.agg #[.int .i64 0, .int .i64 5, .int .i64 0, .int .i64 0, .int .i64 0, .int .i64 0, .int .i64 0, .int .i64 64, .int .i64 100, .int .i64 0, .int .i64 0], .agg #[.int .i64 1, .int .i64 0, .int .i64 0, .int .i64 8], .int .i64 7] w
    fun e w' => e = .returned (.agg #[.int .i64 0, .int .i64 5, .int .i64 0, .int .i64 0, .int .i64 0, .int .i64 0, .int .i64 0, .int .i64 64, .int .i64 7, .int .i64 0, .int .i64 0]) ∧ Below w.heap.size w w' := by
  refine (finish_any ⟨0, 5, 0, 0, 0, 0, 0, 64, 100, 0, 0⟩ 1 0 0 8 7 w).mono ?_
  rintro e w' ⟨rfl, hb⟩
  exact ⟨by kernel_rfl, hb⟩

theorem l_old (w : World) (x y : Obj) (b o : Nat) (h : b < w.heap.size) : ((w.alloc x).alloc y).cell? ⟨b, o, none⟩ = w.cell? ⟨b, o, none⟩ := (bl2 w x y).cell (p := ⟨b, o, none⟩) h
theorem l_one (w : World) (xs : Array Value) (t : Nat) (y : Obj) (o : Nat) : ((w.alloc (.cells xs t)).alloc y).cell? ⟨w.heap.size, o, none⟩ = xs[o]? := by
  rw [World.cell?_alloc_past _ _ _ (by simp)]; simp
theorem l_two (w : World) (x : Obj) (ys : Array Value) (t : Nat) (o : Nat) : ((w.alloc x).alloc (.cells ys t)).cell? ⟨w.heap.size + 1, o, none⟩ = ys[o]? := by
  rw [World.cell?_alloc_at _ _ _ _ (by simp)]

set_option maxRecDepth 100000 in
set_option maxHeartbeats 8000000 in
theorem live_any (w : World) : Calls Try.prog 11 #[] w fun e w' => e = .returned (.bool true) ∧ Below w.heap.size w w' := by
  go_enter Try.func11, Try.ntmps11
  go_wp2_with fail
  refine (live_d _).mono ?_
  rintro e w1 ⟨rfl, hb1⟩
  obtain ⟨hc1, hf1⟩ := bcell hb1
  have hz1 : w.heap.size < w1.heap.size := by have := hb1.size; simp at this; omega
  have kc1 : ∀ o, w1.cell? ⟨w.heap.size, o, none⟩ = (#[.int .i64 0, .int .i64 5, .int .i64 0, .int .i64 0, .int .i64 0, .int .i64 0, .int .i64 0, .int .i64 64, .int .i64 100, .int .i64 0, .int .i64 0] : Array Value)[o]? := fun o => by rw [hc1 _ _ (by simp)]; simp
  clear hc1 hf1
  go_wp2_with fail
  refine (live_f _).mono ?_
  rintro e w2 ⟨rfl, hb2⟩
  obtain ⟨hc2, hf2⟩ := bcell hb2
  have hz2 : w1.heap.size + 1 < w2.heap.size := by have := hb2.size; simp at this; omega
  have zkc2 : w.heap.size < w2.heap.size := by omega
  have kc2 : ∀ o, w2.cell? ⟨w.heap.size, o, none⟩ = (#[.int .i64 0, .int .i64 5, .int .i64 0, .int .i64 0, .int .i64 0, .int .i64 0, .int .i64 0, .int .i64 64, .int .i64 100, .int .i64 0, .int .i64 0] : Array Value)[o]? := fun o => by rw [hc2 _ _ (by first | omega | (simp; done) | (simp; omega)), l_old _ _ _ _ _ (by omega), kc1 o]
  have zkd2 : w1.heap.size < w2.heap.size := by omega
  have kd2 : ∀ o, w2.cell? ⟨w1.heap.size, o, none⟩ = (#[.int .i64 0, .int .i64 5, .int .i64 0, .int .i64 0, .int .i64 0, .int .i64 0, .int .i64 0, .int .i64 64, .int .i64 102, .int .i64 0, .int .i64 0] : Array Value)[o]? := fun o => by rw [hc2 _ _ (by first | omega | (simp; done) | (simp; omega)), l_one]
  have zkr2 : w1.heap.size + 1 < w2.heap.size := by omega
  have kr2 : ∀ o, w2.cell? ⟨w1.heap.size + 1, o, none⟩ = (#[.int .i64 6, .int .i64 0, .int .i64 5, .int .i64 0] : Array Value)[o]? := fun o => by rw [hc2 _ _ (by first | omega | (simp; done) | (simp; omega)), l_two]
  clear hc2 hf2
  go_wp2_with fail
  refine (live_g _).mono ?_
  rintro e w3 ⟨rfl, hb3⟩
  obtain ⟨hc3, hf3⟩ := bcell hb3
  have hz3 : w2.heap.size + 1 < w3.heap.size := by have := hb3.size; simp at this; omega
  have zkc3 : w.heap.size < w3.heap.size := by omega
  have kc3 : ∀ o, w3.cell? ⟨w.heap.size, o, none⟩ = (#[.int .i64 0, .int .i64 5, .int .i64 0, .int .i64 0, .int .i64 0, .int .i64 0, .int .i64 0, .int .i64 64, .int .i64 100, .int .i64 0, .int .i64 0] : Array Value)[o]? := fun o => by rw [hc3 _ _ (by first | omega | (simp; done) | (simp; omega)), l_old _ _ _ _ _ (by omega), kc2 o]
  have zkd3 : w1.heap.size < w3.heap.size := by omega
  have kd3 : ∀ o, w3.cell? ⟨w1.heap.size, o, none⟩ = (#[.int .i64 0, .int .i64 5, .int .i64 0, .int .i64 0, .int .i64 0, .int .i64 0, .int .i64 0, .int .i64 64, .int .i64 102, .int .i64 0, .int .i64 0] : Array Value)[o]? := fun o => by rw [hc3 _ _ (by first | omega | (simp; done) | (simp; omega)), l_old _ _ _ _ _ (by omega), kd2 o]
  have zkr3 : w1.heap.size + 1 < w3.heap.size := by omega
  have kr3 : ∀ o, w3.cell? ⟨w1.heap.size + 1, o, none⟩ = (#[.int .i64 6, .int .i64 0, .int .i64 5, .int .i64 0] : Array Value)[o]? := fun o => by rw [hc3 _ _ (by first | omega | (simp; done) | (simp; omega)), l_old _ _ _ _ _ (by omega), kr2 o]
  have zkf3 : w2.heap.size < w3.heap.size := by omega
  have kf3 : ∀ o, w3.cell? ⟨w2.heap.size, o, none⟩ = (#[.int .i64 0, .int .i64 5, .int .i64 0, .int .i64 0, .int .i64 0, .int .i64 0, .int .i64 0, .int .i64 56, .int .i64 115, .int .i64 0, .int .i64 0] : Array Value)[o]? := fun o => by rw [hc3 _ _ (by first | omega | (simp; done) | (simp; omega)), l_one]
  have zks3 : w2.heap.size + 1 < w3.heap.size := by omega
  have ks3 : ∀ o, w3.cell? ⟨w2.heap.size + 1, o, none⟩ = (#[.int .i64 2, .int .i64 56, .int .i64 105, .int .i64 0] : Array Value)[o]? := fun o => by rw [hc3 _ _ (by first | omega | (simp; done) | (simp; omega)), l_two]
  clear hc3 hf3
  go_wp2_with fail
  refine (live_h _).mono ?_
  rintro e w4 ⟨rfl, hb4⟩
  obtain ⟨hc4, hf4⟩ := bcell hb4
  have hz4 : w3.heap.size + 1 < w4.heap.size := by have := hb4.size; simp at this; omega
  have zkd4 : w1.heap.size < w4.heap.size := by omega
  have kd4 : ∀ o, w4.cell? ⟨w1.heap.size, o, none⟩ = (#[.int .i64 0, .int .i64 5, .int .i64 0, .int .i64 0, .int .i64 0, .int .i64 0, .int .i64 0, .int .i64 64, .int .i64 102, .int .i64 0, .int .i64 0] : Array Value)[o]? := fun o => by rw [hc4 _ _ (by first | omega | (simp; done) | (simp; omega)), l_old _ _ _ _ _ (by omega), kd3 o]
  have zkr4 : w1.heap.size + 1 < w4.heap.size := by omega
  have kr4 : ∀ o, w4.cell? ⟨w1.heap.size + 1, o, none⟩ = (#[.int .i64 6, .int .i64 0, .int .i64 5, .int .i64 0] : Array Value)[o]? := fun o => by rw [hc4 _ _ (by first | omega | (simp; done) | (simp; omega)), l_old _ _ _ _ _ (by omega), kr3 o]
  have zkf4 : w2.heap.size < w4.heap.size := by omega
  have kf4 : ∀ o, w4.cell? ⟨w2.heap.size, o, none⟩ = (#[.int .i64 0, .int .i64 5, .int .i64 0, .int .i64 0, .int .i64 0, .int .i64 0, .int .i64 0, .int .i64 56, .int .i64 115, .int .i64 0, .int .i64 0] : Array Value)[o]? := fun o => by rw [hc4 _ _ (by first | omega | (simp; done) | (simp; omega)), l_old _ _ _ _ _ (by omega), kf3 o]
  have zks4 : w2.heap.size + 1 < w4.heap.size := by omega
  have ks4 : ∀ o, w4.cell? ⟨w2.heap.size + 1, o, none⟩ = (#[.int .i64 2, .int .i64 56, .int .i64 105, .int .i64 0] : Array Value)[o]? := fun o => by rw [hc4 _ _ (by first | omega | (simp; done) | (simp; omega)), l_old _ _ _ _ _ (by omega), ks3 o]
  have zkg4 : w3.heap.size < w4.heap.size := by omega
  have kg4 : ∀ o, w4.cell? ⟨w3.heap.size, o, none⟩ = (#[.int .i64 0, .int .i64 5, .int .i64 0, .int .i64 0, .int .i64 0, .int .i64 0, .int .i64 0, .int .i64 64, .int .i64 100, .int .i64 2, .int .i64 1] : Array Value)[o]? := fun o => by rw [hc4 _ _ (by first | omega | (simp; done) | (simp; omega)), l_one]
  clear hc4 hf4
  have q1 : Below w.heap.size w w1 := (bl1 _ _).trans (hb1.mono (by simp))
  have q2 : Below w.heap.size w w2 := ((q1.alloc (by omega) _).alloc (by simp; omega) _).trans (hb2.mono (by simp; omega))
  have q3 : Below w.heap.size w w3 := ((q2.alloc (by omega) _).alloc (by simp; omega) _).trans (hb3.mono (by simp; omega))
  have q4 : Below w.heap.size w w4 := ((q3.alloc (by omega) _).alloc (by simp; omega) _).trans (hb4.mono (by simp; omega))
  clear hb1 hb2 hb3 hb4
  go_wp2
  go_ret
  exact ⟨rfl, q4.alloc (by omega) _⟩

end Go.Proofs.Ytnfkklpionbnoaa

/- Proved: StepShifted answers true for every thread, every instruction, every size and every number by which the PC is moved (no condition): where code lies makes no difference; and the given answers of the layer stand. -/
import Derived.Test.YtnfkklpionbnoaaStepOpen
import Derived.Test.YtnfkklpionbnoaaStepLive
import Derived.Test.YtnfkklpionbnoaaStepEq
import Derived.Test.YtnfkklpionbnoaaStepOpen2
import Derived.Test.YtnfkklpionbnoaaStepShift
import Derived.Deep.RegionHeld3
import Derived.Deep.DrawnRows
namespace Go.Proofs.Ytnfkklpionbnoaa.stepShifted
open Go.ChangeShapes Go.WideShapes Go.ChangeAt Go.RowKit
set_option linter.unusedVariables false
attribute [local go_sem ↓] Go.wp_at_zero Go.wp_at_succ

theorem own : ownKnob Try.prog.godebug = none := by kernel_rfl
theorem laid : laidOutB Try.prog = true := by kernel_rfl

set_option maxRecDepth 100000 in
set_option maxHeartbeats 16000000 in
theorem s_a1b3 (c : S.C) (op a b n size m : Int) (w : World) (g1 : 0 ≤ c.pc) (g2 : c.pc ≤ 1099511627776) (m1 : -2147483648 ≤ m) (m2 : m ≤ 2147483647) (e0 e1 e2 e3 e4 e5 e6 e7 st tr p1 p2 k ad v1 r : Int) (H1 : Hid (S.startC c op a b n size = ⟨e0, e1, e2, e3, e4, e5, e6, e7, p1, st, tr⟩)) (H2 : Hid (S.startC (c.at_ (c.pc + m)) op a b n size = ⟨e0, e1, e2, e3, e4, e5, e6, e7, p2, st, tr⟩)) (H3 : Hid (S.startQ c op a b n size = ⟨k, ad, v1, r⟩)) (H4 : Hid (S.startQ (c.at_ (c.pc + m)) op a b n size = ⟨k, ad, v1, r⟩)) (hst : (st == 0) = true) (h24 : (op != 24) = true) (hw : wrap64 (p2 - p1) = m) (h23 : (op == 23) = false) :
    Calls Try.prog 6 #[caseV c op a b n size m] w fun e w' => e = .returned (.bool true) ∧ Below w.heap.size w w' := by
  have heq := eq8 ⟨e0, e1, e2, e3, e4, e5, e6, e7, 0, st, tr⟩
  go_enter Try.func6, Try.ntmps6
  go_wp2_with fail
  go_region_held3 (fun w' => w'.cell? ⟨w.heap.size, 0, none⟩ = some (.int .i64 c.r0) ∧ w'.cell? ⟨w.heap.size, 1, none⟩ = some (.int .i64 c.r1) ∧ w'.cell? ⟨w.heap.size, 2, none⟩ = some (.int .i64 c.r2) ∧ w'.cell? ⟨w.heap.size, 3, none⟩ = some (.int .i64 c.r3) ∧ w'.cell? ⟨w.heap.size, 4, none⟩ = some (.int .i64 c.r4) ∧ w'.cell? ⟨w.heap.size, 5, none⟩ = some (.int .i64 c.r5) ∧ w'.cell? ⟨w.heap.size, 6, none⟩ = some (.int .i64 c.r6) ∧ w'.cell? ⟨w.heap.size, 7, none⟩ = some (.int .i64 c.r7) ∧ w'.cell? ⟨w.heap.size, 8, none⟩ = some (.int .i64 c.pc) ∧ w'.cell? ⟨w.heap.size, 9, none⟩ = some (.int .i64 c.st) ∧ w'.cell? ⟨w.heap.size, 10, none⟩ = some (.int .i64 c.tr) ∧ w'.cell? ⟨w.heap.size, 11, none⟩ = some (.int .i64 op) ∧ w'.cell? ⟨w.heap.size, 12, none⟩ = some (.int .i64 a) ∧ w'.cell? ⟨w.heap.size, 13, none⟩ = some (.int .i64 b) ∧ w'.cell? ⟨w.heap.size, 14, none⟩ = some (.int .i64 n) ∧ w'.cell? ⟨w.heap.size, 15, none⟩ = some (.int .i64 size) ∧ w'.cell? ⟨w.heap.size, 16, none⟩ = some (.int .i32 m)) ((refine ⟨?_, ?_, ?_, ?_, ?_, ?_, ?_, ?_, ?_, ?_, ?_, ?_, ?_, ?_, ?_, ?_, ?_⟩ <;> (simp (disch := (first | ((try simp only [World.size_alloc]) <;> omega) | fail)) only [World.cell?_drew, World.cell?_alloc_at, World.cell?_alloc_past] <;> rfl))) (fail)
  · go_wp2_with fail
    refine (start_any c _ a b n size _).mono ?_
    rintro e w1 ⟨rfl, hb1⟩
    rw [H1.out, H3.out]
    obtain ⟨hc1, hf1⟩ := bcell hb1
    have hs1 := hb1.size
    simp at hs1
    have zd1 : w.heap.size + 1 + 1 + 1 < w1.heap.size := by omega
    have zi1 : w.heap.size + 1 + 1 < w1.heap.size := by omega
    have kd1 : ∀ o, w1.cell? ⟨w.heap.size + 1 + 1 + 1, o, none⟩ = (#[.int .i64 c.r0, .int .i64 c.r1, .int .i64 c.r2, .int .i64 c.r3, .int .i64 c.r4, .int .i64 c.r5, .int .i64 c.r6, .int .i64 c.r7, .int .i64 (c.pc + m), .int .i64 c.st, .int .i64 c.tr] : Array Value)[o]? := fun o => by rw [hc1 _ _ (by simp)]; simp (disch := (first | ((try simp only [World.size_alloc]) <;> omega) | fail)) only [World.cell?_drew, World.cell?_alloc_at]
    have ki1 : ∀ o, w1.cell? ⟨w.heap.size + 1 + 1, o, none⟩ = (#[.int .i64 op, .int .i64 a, .int .i64 b, .int .i64 n] : Array Value)[o]? := fun o => by rw [hc1 _ _ (by first | (simp; done) | (simp; omega))]; simp (disch := (first | ((try simp only [World.size_alloc]) <;> omega) | fail)) only [World.cell?_drew, World.cell?_alloc_at, World.cell?_alloc_past]
    have q1 : Below w.heap.size w w1 := Below.trans (by first | exact (bl3 _ _ _ _).drew.alloc (by simp; omega) _ | exact (bl4 _ _ _ _ _).drew | exact bl4 _ _ _ _ _) (hb1.mono (by simp; omega))
    have q0 : w.heap.size ≤ w1.heap.size := by omega
    clear hc1 hf1 hb1 hs1
    generalize w.heap.size + 1 + 1 + 1 = bd at *
    generalize w.heap.size + 1 + 1 = bi at *
    go_wp2_with fail
    refine (start_any (c.at_ (c.pc + m)) _ a b n size _).mono ?_
    rintro e w2 ⟨rfl, hb2⟩
    rw [H2.out, H4.out]
    obtain ⟨hc2, hf2⟩ := bcell hb2
    have hs2 := hb2.size
    simp at hs2
    have zD2 : w1.heap.size < w2.heap.size := by omega
    have zQ2 : w1.heap.size + 1 < w2.heap.size := by omega
    have zi2 : bi < w2.heap.size := by omega
    have n1 : ¬ w1.heap.size = w2.heap.size := by omega
    have n2 : ¬ w2.heap.size = w1.heap.size := by omega
    have n3 : ¬ w1.heap.size = w2.heap.size + 1 := by omega
    have n4 : ¬ w1.heap.size + 1 = w2.heap.size := by omega
    have n5 : ¬ w2.heap.size = w1.heap.size + 1 := by omega
    have n6 : ¬ w2.heap.size + 1 = w1.heap.size := by omega
    have n7 : ¬ bi = w1.heap.size := by omega
    have n8 : ¬ bi = w1.heap.size + 1 := by omega
    have n9 : ¬ bi = w2.heap.size := by omega
    have n10 : ¬ bi = w2.heap.size + 1 := by omega
    have kD2 : ∀ o, w2.cell? ⟨w1.heap.size, o, none⟩ = (#[.int .i64 e0, .int .i64 e1, .int .i64 e2, .int .i64 e3, .int .i64 e4, .int .i64 e5, .int .i64 e6, .int .i64 e7, .int .i64 p1, .int .i64 st, .int .i64 tr] : Array Value)[o]? := fun o => by rw [hc2 _ _ (by simp; omega), l_one]
    have kQ2 : ∀ o, w2.cell? ⟨w1.heap.size + 1, o, none⟩ = (#[.int .i64 k, .int .i64 ad, .int .i64 v1, .int .i64 r] : Array Value)[o]? := fun o => by rw [hc2 _ _ (by simp), l_two]
    have ki2 : ∀ o, w2.cell? ⟨bi, o, none⟩ = (#[.int .i64 op, .int .i64 a, .int .i64 b, .int .i64 n] : Array Value)[o]? := fun o => by rw [hc2 _ _ (by simp; omega), l_old _ _ _ _ _ zi1, ki1 o]
    have fD2 : ∀ o, w2.frozen? ⟨w1.heap.size, o, none⟩ = false := fun o => by rw [hf2 _ _ (by simp; omega)]; simp
    have fQ2 : ∀ o, w2.frozen? ⟨w1.heap.size + 1, o, none⟩ = false := fun o => by rw [hf2 _ _ (by simp)]; simp
    have q2 : Below w.heap.size w w2 := ((q1.alloc (by omega) _).alloc (by simp; omega) _).trans (hb2.mono (by simp; omega))
    clear hc2 hf2 hb2 hs2
    go_wp2_with (go_at_call 11; refine (live_any _).mono ?_; rintro e w3 ⟨rfl, hb3⟩)
    go_ret
    refine ⟨rfl, Below.trans ?_ (hb3.mono (by simp; omega))⟩
    first | exact ((q2.setCell (by simp; omega) _).alloc (by simp; omega) _).alloc (by simp; omega) _ | exact (((q2.setCell (by simp; omega) _).setCell (by simp; omega) _).alloc (by simp; omega) _).alloc (by simp; omega) _
  · go_wp2_with fail
    refine (start_any c _ a b n size _).mono ?_
    rintro e w1 ⟨rfl, hb1⟩
    rw [H1.out, H3.out]
    obtain ⟨hc1, hf1⟩ := bcell hb1
    have hs1 := hb1.size
    simp at hs1
    have zd1 : w.heap.size + 1 + 1 + 1 < w1.heap.size := by omega
    have zi1 : w.heap.size + 1 < w1.heap.size := by omega
    have kd1 : ∀ o, w1.cell? ⟨w.heap.size + 1 + 1 + 1, o, none⟩ = (#[.int .i64 c.r0, .int .i64 c.r1, .int .i64 c.r2, .int .i64 c.r3, .int .i64 c.r4, .int .i64 c.r5, .int .i64 c.r6, .int .i64 c.r7, .int .i64 (c.pc + m), .int .i64 c.st, .int .i64 c.tr] : Array Value)[o]? := fun o => by rw [hc1 _ _ (by simp)]; simp (disch := (first | ((try simp only [World.size_alloc]) <;> omega) | fail)) only [World.cell?_drew, World.cell?_alloc_at]
    have ki1 : ∀ o, w1.cell? ⟨w.heap.size + 1, o, none⟩ = (#[.int .i64 op, .int .i64 a, .int .i64 b, .int .i64 n] : Array Value)[o]? := fun o => by rw [hc1 _ _ (by first | (simp; done) | (simp; omega))]; simp (disch := (first | ((try simp only [World.size_alloc]) <;> omega) | fail)) only [World.cell?_drew, World.cell?_alloc_at, World.cell?_alloc_past]
    have q1 : Below w.heap.size w w1 := Below.trans (by first | exact (bl3 _ _ _ _).drew.alloc (by simp; omega) _ | exact (bl4 _ _ _ _ _).drew | exact bl4 _ _ _ _ _) (hb1.mono (by simp; omega))
    have q0 : w.heap.size ≤ w1.heap.size := by omega
    clear hc1 hf1 hb1 hs1
    generalize w.heap.size + 1 + 1 + 1 = bd at *
    generalize w.heap.size + 1 = bi at *
    go_wp2_with fail
    refine (start_any (c.at_ (c.pc + m)) _ a b n size _).mono ?_
    rintro e w2 ⟨rfl, hb2⟩
    rw [H2.out, H4.out]
    obtain ⟨hc2, hf2⟩ := bcell hb2
    have hs2 := hb2.size
    simp at hs2
    have zD2 : w1.heap.size < w2.heap.size := by omega
    have zQ2 : w1.heap.size + 1 < w2.heap.size := by omega
    have zi2 : bi < w2.heap.size := by omega
    have n1 : ¬ w1.heap.size = w2.heap.size := by omega
    have n2 : ¬ w2.heap.size = w1.heap.size := by omega
    have n3 : ¬ w1.heap.size = w2.heap.size + 1 := by omega
    have n4 : ¬ w1.heap.size + 1 = w2.heap.size := by omega
    have n5 : ¬ w2.heap.size = w1.heap.size + 1 := by omega
    have n6 : ¬ w2.heap.size + 1 = w1.heap.size := by omega
    have n7 : ¬ bi = w1.heap.size := by omega
    have n8 : ¬ bi = w1.heap.size + 1 := by omega
    have n9 : ¬ bi = w2.heap.size := by omega
    have n10 : ¬ bi = w2.heap.size + 1 := by omega
    have kD2 : ∀ o, w2.cell? ⟨w1.heap.size, o, none⟩ = (#[.int .i64 e0, .int .i64 e1, .int .i64 e2, .int .i64 e3, .int .i64 e4, .int .i64 e5, .int .i64 e6, .int .i64 e7, .int .i64 p1, .int .i64 st, .int .i64 tr] : Array Value)[o]? := fun o => by rw [hc2 _ _ (by simp; omega), l_one]
    have kQ2 : ∀ o, w2.cell? ⟨w1.heap.size + 1, o, none⟩ = (#[.int .i64 k, .int .i64 ad, .int .i64 v1, .int .i64 r] : Array Value)[o]? := fun o => by rw [hc2 _ _ (by simp), l_two]
    have ki2 : ∀ o, w2.cell? ⟨bi, o, none⟩ = (#[.int .i64 op, .int .i64 a, .int .i64 b, .int .i64 n] : Array Value)[o]? := fun o => by rw [hc2 _ _ (by simp; omega), l_old _ _ _ _ _ zi1, ki1 o]
    have fD2 : ∀ o, w2.frozen? ⟨w1.heap.size, o, none⟩ = false := fun o => by rw [hf2 _ _ (by simp; omega)]; simp
    have fQ2 : ∀ o, w2.frozen? ⟨w1.heap.size + 1, o, none⟩ = false := fun o => by rw [hf2 _ _ (by simp)]; simp
    have q2 : Below w.heap.size w w2 := ((q1.alloc (by omega) _).alloc (by simp; omega) _).trans (hb2.mono (by simp; omega))
    clear hc2 hf2 hb2 hs2
    go_wp2_with (go_at_call 11; refine (live_any _).mono ?_; rintro e w3 ⟨rfl, hb3⟩)
    go_ret
    refine ⟨rfl, Below.trans ?_ (hb3.mono (by simp; omega))⟩
    first | exact ((q2.setCell (by simp; omega) _).alloc (by simp; omega) _).alloc (by simp; omega) _ | exact (((q2.setCell (by simp; omega) _).setCell (by simp; omega) _).alloc (by simp; omega) _).alloc (by simp; omega) _

set_option maxRecDepth 100000 in
set_option maxHeartbeats 16000000 in
theorem s_a1b1 (c : S.C) (a b n size m : Int) (w : World) (g1 : 0 ≤ c.pc) (g2 : c.pc ≤ 1099511627776) (m1 : -2147483648 ≤ m) (m2 : m ≤ 2147483647) (e0 e1 e2 e3 e4 e5 e6 e7 st tr p1 p2 ad v1 v2 r : Int) (H1 : Hid (S.startC c 23 a b n size = ⟨e0, e1, e2, e3, e4, e5, e6, e7, p1, st, tr⟩)) (H2 : Hid (S.startC (c.at_ (c.pc + m)) 23 a b n size = ⟨e0, e1, e2, e3, e4, e5, e6, e7, p2, st, tr⟩)) (H3 : Hid (S.startQ c 23 a b n size = ⟨2, ad, v1, r⟩)) (H4 : Hid (S.startQ (c.at_ (c.pc + m)) 23 a b n size = ⟨2, ad, v2, r⟩)) (hst : (st == 0) = true) (hw : wrap64 (p2 - p1) = m) (hv : wrap64 (v2 - v1) = m) :
    Calls Try.prog 6 #[caseV c 23 a b n size m] w fun e w' => e = .returned (.bool true) ∧ Below w.heap.size w w' := by
  have heq := eq8 ⟨e0, e1, e2, e3, e4, e5, e6, e7, 0, st, tr⟩
  go_enter Try.func6, Try.ntmps6
  go_wp2_with fail
  go_region_held3 (fun w' => w'.cell? ⟨w.heap.size, 0, none⟩ = some (.int .i64 c.r0) ∧ w'.cell? ⟨w.heap.size, 1, none⟩ = some (.int .i64 c.r1) ∧ w'.cell? ⟨w.heap.size, 2, none⟩ = some (.int .i64 c.r2) ∧ w'.cell? ⟨w.heap.size, 3, none⟩ = some (.int .i64 c.r3) ∧ w'.cell? ⟨w.heap.size, 4, none⟩ = some (.int .i64 c.r4) ∧ w'.cell? ⟨w.heap.size, 5, none⟩ = some (.int .i64 c.r5) ∧ w'.cell? ⟨w.heap.size, 6, none⟩ = some (.int .i64 c.r6) ∧ w'.cell? ⟨w.heap.size, 7, none⟩ = some (.int .i64 c.r7) ∧ w'.cell? ⟨w.heap.size, 8, none⟩ = some (.int .i64 c.pc) ∧ w'.cell? ⟨w.heap.size, 9, none⟩ = some (.int .i64 c.st) ∧ w'.cell? ⟨w.heap.size, 10, none⟩ = some (.int .i64 c.tr) ∧ w'.cell? ⟨w.heap.size, 11, none⟩ = some (.int .i64 23) ∧ w'.cell? ⟨w.heap.size, 12, none⟩ = some (.int .i64 a) ∧ w'.cell? ⟨w.heap.size, 13, none⟩ = some (.int .i64 b) ∧ w'.cell? ⟨w.heap.size, 14, none⟩ = some (.int .i64 n) ∧ w'.cell? ⟨w.heap.size, 15, none⟩ = some (.int .i64 size) ∧ w'.cell? ⟨w.heap.size, 16, none⟩ = some (.int .i32 m)) ((refine ⟨?_, ?_, ?_, ?_, ?_, ?_, ?_, ?_, ?_, ?_, ?_, ?_, ?_, ?_, ?_, ?_, ?_⟩ <;> (simp (disch := (first | ((try simp only [World.size_alloc]) <;> omega) | fail)) only [World.cell?_drew, World.cell?_alloc_at, World.cell?_alloc_past] <;> rfl))) (fail)
  · go_wp2_with fail
    refine (start_any c _ a b n size _).mono ?_
    rintro e w1 ⟨rfl, hb1⟩
    rw [H1.out, H3.out]
    obtain ⟨hc1, hf1⟩ := bcell hb1
    have hs1 := hb1.size
    simp at hs1
    have zd1 : w.heap.size + 1 + 1 + 1 < w1.heap.size := by omega
    have zi1 : w.heap.size + 1 + 1 < w1.heap.size := by omega
    have kd1 : ∀ o, w1.cell? ⟨w.heap.size + 1 + 1 + 1, o, none⟩ = (#[.int .i64 c.r0, .int .i64 c.r1, .int .i64 c.r2, .int .i64 c.r3, .int .i64 c.r4, .int .i64 c.r5, .int .i64 c.r6, .int .i64 c.r7, .int .i64 (c.pc + m), .int .i64 c.st, .int .i64 c.tr] : Array Value)[o]? := fun o => by rw [hc1 _ _ (by simp)]; simp (disch := (first | ((try simp only [World.size_alloc]) <;> omega) | fail)) only [World.cell?_drew, World.cell?_alloc_at]
    have ki1 : ∀ o, w1.cell? ⟨w.heap.size + 1 + 1, o, none⟩ = (#[.int .i64 23, .int .i64 a, .int .i64 b, .int .i64 n] : Array Value)[o]? := fun o => by rw [hc1 _ _ (by first | (simp; done) | (simp; omega))]; simp (disch := (first | ((try simp only [World.size_alloc]) <;> omega) | fail)) only [World.cell?_drew, World.cell?_alloc_at, World.cell?_alloc_past]
    have q1 : Below w.heap.size w w1 := Below.trans (by first | exact (bl3 _ _ _ _).drew.alloc (by simp; omega) _ | exact (bl4 _ _ _ _ _).drew | exact bl4 _ _ _ _ _) (hb1.mono (by simp; omega))
    have q0 : w.heap.size ≤ w1.heap.size := by omega
    clear hc1 hf1 hb1 hs1
    generalize w.heap.size + 1 + 1 + 1 = bd at *
    generalize w.heap.size + 1 + 1 = bi at *
    go_wp2_with fail
    refine (start_any (c.at_ (c.pc + m)) _ a b n size _).mono ?_
    rintro e w2 ⟨rfl, hb2⟩
    rw [H2.out, H4.out]
    obtain ⟨hc2, hf2⟩ := bcell hb2
    have hs2 := hb2.size
    simp at hs2
    have zD2 : w1.heap.size < w2.heap.size := by omega
    have zQ2 : w1.heap.size + 1 < w2.heap.size := by omega
    have zi2 : bi < w2.heap.size := by omega
    have n1 : ¬ w1.heap.size = w2.heap.size := by omega
    have n2 : ¬ w2.heap.size = w1.heap.size := by omega
    have n3 : ¬ w1.heap.size = w2.heap.size + 1 := by omega
    have n4 : ¬ w1.heap.size + 1 = w2.heap.size := by omega
    have n5 : ¬ w2.heap.size = w1.heap.size + 1 := by omega
    have n6 : ¬ w2.heap.size + 1 = w1.heap.size := by omega
    have n7 : ¬ bi = w1.heap.size := by omega
    have n8 : ¬ bi = w1.heap.size + 1 := by omega
    have n9 : ¬ bi = w2.heap.size := by omega
    have n10 : ¬ bi = w2.heap.size + 1 := by omega
    have kD2 : ∀ o, w2.cell? ⟨w1.heap.size, o, none⟩ = (#[.int .i64 e0, .int .i64 e1, .int .i64 e2, .int .i64 e3, .int .i64 e4, .int .i64 e5, .int .i64 e6, .int .i64 e7, .int .i64 p1, .int .i64 st, .int .i64 tr] : Array Value)[o]? := fun o => by rw [hc2 _ _ (by simp; omega), l_one]
    have kQ2 : ∀ o, w2.cell? ⟨w1.heap.size + 1, o, none⟩ = (#[.int .i64 2, .int .i64 ad, .int .i64 v1, .int .i64 r] : Array Value)[o]? := fun o => by rw [hc2 _ _ (by simp), l_two]
    have ki2 : ∀ o, w2.cell? ⟨bi, o, none⟩ = (#[.int .i64 23, .int .i64 a, .int .i64 b, .int .i64 n] : Array Value)[o]? := fun o => by rw [hc2 _ _ (by simp; omega), l_old _ _ _ _ _ zi1, ki1 o]
    have fD2 : ∀ o, w2.frozen? ⟨w1.heap.size, o, none⟩ = false := fun o => by rw [hf2 _ _ (by simp; omega)]; simp
    have fQ2 : ∀ o, w2.frozen? ⟨w1.heap.size + 1, o, none⟩ = false := fun o => by rw [hf2 _ _ (by simp)]; simp
    have q2 : Below w.heap.size w w2 := ((q1.alloc (by omega) _).alloc (by simp; omega) _).trans (hb2.mono (by simp; omega))
    clear hc2 hf2 hb2 hs2
    go_wp2_with (go_at_call 11; refine (live_any _).mono ?_; rintro e w3 ⟨rfl, hb3⟩)
    go_ret
    refine ⟨rfl, Below.trans ?_ (hb3.mono (by simp; omega))⟩
    first | exact ((q2.setCell (by simp; omega) _).alloc (by simp; omega) _).alloc (by simp; omega) _ | exact (((q2.setCell (by simp; omega) _).setCell (by simp; omega) _).alloc (by simp; omega) _).alloc (by simp; omega) _
  · go_wp2_with fail
    refine (start_any c _ a b n size _).mono ?_
    rintro e w1 ⟨rfl, hb1⟩
    rw [H1.out, H3.out]
    obtain ⟨hc1, hf1⟩ := bcell hb1
    have hs1 := hb1.size
    simp at hs1
    have zd1 : w.heap.size + 1 + 1 + 1 < w1.heap.size := by omega
    have zi1 : w.heap.size + 1 < w1.heap.size := by omega
    have kd1 : ∀ o, w1.cell? ⟨w.heap.size + 1 + 1 + 1, o, none⟩ = (#[.int .i64 c.r0, .int .i64 c.r1, .int .i64 c.r2, .int .i64 c.r3, .int .i64 c.r4, .int .i64 c.r5, .int .i64 c.r6, .int .i64 c.r7, .int .i64 (c.pc + m), .int .i64 c.st, .int .i64 c.tr] : Array Value)[o]? := fun o => by rw [hc1 _ _ (by simp)]; simp (disch := (first | ((try simp only [World.size_alloc]) <;> omega) | fail)) only [World.cell?_drew, World.cell?_alloc_at]
    have ki1 : ∀ o, w1.cell? ⟨w.heap.size + 1, o, none⟩ = (#[.int .i64 23, .int .i64 a, .int .i64 b, .int .i64 n] : Array Value)[o]? := fun o => by rw [hc1 _ _ (by first | (simp; done) | (simp; omega))]; simp (disch := (first | ((try simp only [World.size_alloc]) <;> omega) | fail)) only [World.cell?_drew, World.cell?_alloc_at, World.cell?_alloc_past]
    have q1 : Below w.heap.size w w1 := Below.trans (by first | exact (bl3 _ _ _ _).drew.alloc (by simp; omega) _ | exact (bl4 _ _ _ _ _).drew | exact bl4 _ _ _ _ _) (hb1.mono (by simp; omega))
    have q0 : w.heap.size ≤ w1.heap.size := by omega
    clear hc1 hf1 hb1 hs1
    generalize w.heap.size + 1 + 1 + 1 = bd at *
    generalize w.heap.size + 1 = bi at *
    go_wp2_with fail
    refine (start_any (c.at_ (c.pc + m)) _ a b n size _).mono ?_
    rintro e w2 ⟨rfl, hb2⟩
    rw [H2.out, H4.out]
    obtain ⟨hc2, hf2⟩ := bcell hb2
    have hs2 := hb2.size
    simp at hs2
    have zD2 : w1.heap.size < w2.heap.size := by omega
    have zQ2 : w1.heap.size + 1 < w2.heap.size := by omega
    have zi2 : bi < w2.heap.size := by omega
    have n1 : ¬ w1.heap.size = w2.heap.size := by omega
    have n2 : ¬ w2.heap.size = w1.heap.size := by omega
    have n3 : ¬ w1.heap.size = w2.heap.size + 1 := by omega
    have n4 : ¬ w1.heap.size + 1 = w2.heap.size := by omega
    have n5 : ¬ w2.heap.size = w1.heap.size + 1 := by omega
    have n6 : ¬ w2.heap.size + 1 = w1.heap.size := by omega
    have n7 : ¬ bi = w1.heap.size := by omega
    have n8 : ¬ bi = w1.heap.size + 1 := by omega
    have n9 : ¬ bi = w2.heap.size := by omega
    have n10 : ¬ bi = w2.heap.size + 1 := by omega
    have kD2 : ∀ o, w2.cell? ⟨w1.heap.size, o, none⟩ = (#[.int .i64 e0, .int .i64 e1, .int .i64 e2, .int .i64 e3, .int .i64 e4, .int .i64 e5, .int .i64 e6, .int .i64 e7, .int .i64 p1, .int .i64 st, .int .i64 tr] : Array Value)[o]? := fun o => by rw [hc2 _ _ (by simp; omega), l_one]
    have kQ2 : ∀ o, w2.cell? ⟨w1.heap.size + 1, o, none⟩ = (#[.int .i64 2, .int .i64 ad, .int .i64 v1, .int .i64 r] : Array Value)[o]? := fun o => by rw [hc2 _ _ (by simp), l_two]
    have ki2 : ∀ o, w2.cell? ⟨bi, o, none⟩ = (#[.int .i64 23, .int .i64 a, .int .i64 b, .int .i64 n] : Array Value)[o]? := fun o => by rw [hc2 _ _ (by simp; omega), l_old _ _ _ _ _ zi1, ki1 o]
    have fD2 : ∀ o, w2.frozen? ⟨w1.heap.size, o, none⟩ = false := fun o => by rw [hf2 _ _ (by simp; omega)]; simp
    have fQ2 : ∀ o, w2.frozen? ⟨w1.heap.size + 1, o, none⟩ = false := fun o => by rw [hf2 _ _ (by simp)]; simp
    have q2 : Below w.heap.size w w2 := ((q1.alloc (by omega) _).alloc (by simp; omega) _).trans (hb2.mono (by simp; omega))
    clear hc2 hf2 hb2 hs2
    go_wp2_with (go_at_call 11; refine (live_any _).mono ?_; rintro e w3 ⟨rfl, hb3⟩)
    go_ret
    refine ⟨rfl, Below.trans ?_ (hb3.mono (by simp; omega))⟩
    first | exact ((q2.setCell (by simp; omega) _).alloc (by simp; omega) _).alloc (by simp; omega) _ | exact (((q2.setCell (by simp; omega) _).setCell (by simp; omega) _).alloc (by simp; omega) _).alloc (by simp; omega) _

set_option maxRecDepth 100000 in
set_option maxHeartbeats 16000000 in
theorem s_a1b2 (c : S.C) (a b n size m : Int) (w : World) (g1 : 0 ≤ c.pc) (g2 : c.pc ≤ 1099511627776) (m1 : -2147483648 ≤ m) (m2 : m ≤ 2147483647) (e0 e1 e2 e3 e4 e5 e6 e7 st tr p1 p2 ad v1 r : Int) (H1 : Hid (S.startC c 23 a b n size = ⟨e0, e1, e2, e3, e4, e5, e6, e7, p1, st, tr⟩)) (H2 : Hid (S.startC (c.at_ (c.pc + m)) 23 a b n size = ⟨e0, e1, e2, e3, e4, e5, e6, e7, p2, st, tr⟩)) (H3 : Hid (S.startQ c 23 a b n size = ⟨0, ad, v1, r⟩)) (H4 : Hid (S.startQ (c.at_ (c.pc + m)) 23 a b n size = ⟨0, ad, v1, r⟩)) (hst : (st == 0) = true) (hw : wrap64 (p2 - p1) = m) :
    Calls Try.prog 6 #[caseV c 23 a b n size m] w fun e w' => e = .returned (.bool true) ∧ Below w.heap.size w w' := by
  have heq := eq8 ⟨e0, e1, e2, e3, e4, e5, e6, e7, 0, st, tr⟩
  go_enter Try.func6, Try.ntmps6
  go_wp2_with fail
  go_region_held3 (fun w' => w'.cell? ⟨w.heap.size, 0, none⟩ = some (.int .i64 c.r0) ∧ w'.cell? ⟨w.heap.size, 1, none⟩ = some (.int .i64 c.r1) ∧ w'.cell? ⟨w.heap.size, 2, none⟩ = some (.int .i64 c.r2) ∧ w'.cell? ⟨w.heap.size, 3, none⟩ = some (.int .i64 c.r3) ∧ w'.cell? ⟨w.heap.size, 4, none⟩ = some (.int .i64 c.r4) ∧ w'.cell? ⟨w.heap.size, 5, none⟩ = some (.int .i64 c.r5) ∧ w'.cell? ⟨w.heap.size, 6, none⟩ = some (.int .i64 c.r6) ∧ w'.cell? ⟨w.heap.size, 7, none⟩ = some (.int .i64 c.r7) ∧ w'.cell? ⟨w.heap.size, 8, none⟩ = some (.int .i64 c.pc) ∧ w'.cell? ⟨w.heap.size, 9, none⟩ = some (.int .i64 c.st) ∧ w'.cell? ⟨w.heap.size, 10, none⟩ = some (.int .i64 c.tr) ∧ w'.cell? ⟨w.heap.size, 11, none⟩ = some (.int .i64 23) ∧ w'.cell? ⟨w.heap.size, 12, none⟩ = some (.int .i64 a) ∧ w'.cell? ⟨w.heap.size, 13, none⟩ = some (.int .i64 b) ∧ w'.cell? ⟨w.heap.size, 14, none⟩ = some (.int .i64 n) ∧ w'.cell? ⟨w.heap.size, 15, none⟩ = some (.int .i64 size) ∧ w'.cell? ⟨w.heap.size, 16, none⟩ = some (.int .i32 m)) ((refine ⟨?_, ?_, ?_, ?_, ?_, ?_, ?_, ?_, ?_, ?_, ?_, ?_, ?_, ?_, ?_, ?_, ?_⟩ <;> (simp (disch := (first | ((try simp only [World.size_alloc]) <;> omega) | fail)) only [World.cell?_drew, World.cell?_alloc_at, World.cell?_alloc_past] <;> rfl))) (fail)
  · go_wp2_with fail
    refine (start_any c _ a b n size _).mono ?_
    rintro e w1 ⟨rfl, hb1⟩
    rw [H1.out, H3.out]
    obtain ⟨hc1, hf1⟩ := bcell hb1
    have hs1 := hb1.size
    simp at hs1
    have zd1 : w.heap.size + 1 + 1 + 1 < w1.heap.size := by omega
    have zi1 : w.heap.size + 1 + 1 < w1.heap.size := by omega
    have kd1 : ∀ o, w1.cell? ⟨w.heap.size + 1 + 1 + 1, o, none⟩ = (#[.int .i64 c.r0, .int .i64 c.r1, .int .i64 c.r2, .int .i64 c.r3, .int .i64 c.r4, .int .i64 c.r5, .int .i64 c.r6, .int .i64 c.r7, .int .i64 (c.pc + m), .int .i64 c.st, .int .i64 c.tr] : Array Value)[o]? := fun o => by rw [hc1 _ _ (by simp)]; simp (disch := (first | ((try simp only [World.size_alloc]) <;> omega) | fail)) only [World.cell?_drew, World.cell?_alloc_at]
    have ki1 : ∀ o, w1.cell? ⟨w.heap.size + 1 + 1, o, none⟩ = (#[.int .i64 23, .int .i64 a, .int .i64 b, .int .i64 n] : Array Value)[o]? := fun o => by rw [hc1 _ _ (by first | (simp; done) | (simp; omega))]; simp (disch := (first | ((try simp only [World.size_alloc]) <;> omega) | fail)) only [World.cell?_drew, World.cell?_alloc_at, World.cell?_alloc_past]
    have q1 : Below w.heap.size w w1 := Below.trans (by first | exact (bl3 _ _ _ _).drew.alloc (by simp; omega) _ | exact (bl4 _ _ _ _ _).drew | exact bl4 _ _ _ _ _) (hb1.mono (by simp; omega))
    have q0 : w.heap.size ≤ w1.heap.size := by omega
    clear hc1 hf1 hb1 hs1
    generalize w.heap.size + 1 + 1 + 1 = bd at *
    generalize w.heap.size + 1 + 1 = bi at *
    go_wp2_with fail
    refine (start_any (c.at_ (c.pc + m)) _ a b n size _).mono ?_
    rintro e w2 ⟨rfl, hb2⟩
    rw [H2.out, H4.out]
    obtain ⟨hc2, hf2⟩ := bcell hb2
    have hs2 := hb2.size
    simp at hs2
    have zD2 : w1.heap.size < w2.heap.size := by omega
    have zQ2 : w1.heap.size + 1 < w2.heap.size := by omega
    have zi2 : bi < w2.heap.size := by omega
    have n1 : ¬ w1.heap.size = w2.heap.size := by omega
    have n2 : ¬ w2.heap.size = w1.heap.size := by omega
    have n3 : ¬ w1.heap.size = w2.heap.size + 1 := by omega
    have n4 : ¬ w1.heap.size + 1 = w2.heap.size := by omega
    have n5 : ¬ w2.heap.size = w1.heap.size + 1 := by omega
    have n6 : ¬ w2.heap.size + 1 = w1.heap.size := by omega
    have n7 : ¬ bi = w1.heap.size := by omega
    have n8 : ¬ bi = w1.heap.size + 1 := by omega
    have n9 : ¬ bi = w2.heap.size := by omega
    have n10 : ¬ bi = w2.heap.size + 1 := by omega
    have kD2 : ∀ o, w2.cell? ⟨w1.heap.size, o, none⟩ = (#[.int .i64 e0, .int .i64 e1, .int .i64 e2, .int .i64 e3, .int .i64 e4, .int .i64 e5, .int .i64 e6, .int .i64 e7, .int .i64 p1, .int .i64 st, .int .i64 tr] : Array Value)[o]? := fun o => by rw [hc2 _ _ (by simp; omega), l_one]
    have kQ2 : ∀ o, w2.cell? ⟨w1.heap.size + 1, o, none⟩ = (#[.int .i64 0, .int .i64 ad, .int .i64 v1, .int .i64 r] : Array Value)[o]? := fun o => by rw [hc2 _ _ (by simp), l_two]
    have ki2 : ∀ o, w2.cell? ⟨bi, o, none⟩ = (#[.int .i64 23, .int .i64 a, .int .i64 b, .int .i64 n] : Array Value)[o]? := fun o => by rw [hc2 _ _ (by simp; omega), l_old _ _ _ _ _ zi1, ki1 o]
    have fD2 : ∀ o, w2.frozen? ⟨w1.heap.size, o, none⟩ = false := fun o => by rw [hf2 _ _ (by simp; omega)]; simp
    have fQ2 : ∀ o, w2.frozen? ⟨w1.heap.size + 1, o, none⟩ = false := fun o => by rw [hf2 _ _ (by simp)]; simp
    have q2 : Below w.heap.size w w2 := ((q1.alloc (by omega) _).alloc (by simp; omega) _).trans (hb2.mono (by simp; omega))
    clear hc2 hf2 hb2 hs2
    go_wp2_with (go_at_call 11; refine (live_any _).mono ?_; rintro e w3 ⟨rfl, hb3⟩)
    go_ret
    refine ⟨rfl, Below.trans ?_ (hb3.mono (by simp; omega))⟩
    first | exact ((q2.setCell (by simp; omega) _).alloc (by simp; omega) _).alloc (by simp; omega) _ | exact (((q2.setCell (by simp; omega) _).setCell (by simp; omega) _).alloc (by simp; omega) _).alloc (by simp; omega) _
  · go_wp2_with fail
    refine (start_any c _ a b n size _).mono ?_
    rintro e w1 ⟨rfl, hb1⟩
    rw [H1.out, H3.out]
    obtain ⟨hc1, hf1⟩ := bcell hb1
    have hs1 := hb1.size
    simp at hs1
    have zd1 : w.heap.size + 1 + 1 + 1 < w1.heap.size := by omega
    have zi1 : w.heap.size + 1 < w1.heap.size := by omega
    have kd1 : ∀ o, w1.cell? ⟨w.heap.size + 1 + 1 + 1, o, none⟩ = (#[.int .i64 c.r0, .int .i64 c.r1, .int .i64 c.r2, .int .i64 c.r3, .int .i64 c.r4, .int .i64 c.r5, .int .i64 c.r6, .int .i64 c.r7, .int .i64 (c.pc + m), .int .i64 c.st, .int .i64 c.tr] : Array Value)[o]? := fun o => by rw [hc1 _ _ (by simp)]; simp (disch := (first | ((try simp only [World.size_alloc]) <;> omega) | fail)) only [World.cell?_drew, World.cell?_alloc_at]
    have ki1 : ∀ o, w1.cell? ⟨w.heap.size + 1, o, none⟩ = (#[.int .i64 23, .int .i64 a, .int .i64 b, .int .i64 n] : Array Value)[o]? := fun o => by rw [hc1 _ _ (by first | (simp; done) | (simp; omega))]; simp (disch := (first | ((try simp only [World.size_alloc]) <;> omega) | fail)) only [World.cell?_drew, World.cell?_alloc_at, World.cell?_alloc_past]
    have q1 : Below w.heap.size w w1 := Below.trans (by first | exact (bl3 _ _ _ _).drew.alloc (by simp; omega) _ | exact (bl4 _ _ _ _ _).drew | exact bl4 _ _ _ _ _) (hb1.mono (by simp; omega))
    have q0 : w.heap.size ≤ w1.heap.size := by omega
    clear hc1 hf1 hb1 hs1
    generalize w.heap.size + 1 + 1 + 1 = bd at *
    generalize w.heap.size + 1 = bi at *
    go_wp2_with fail
    refine (start_any (c.at_ (c.pc + m)) _ a b n size _).mono ?_
    rintro e w2 ⟨rfl, hb2⟩
    rw [H2.out, H4.out]
    obtain ⟨hc2, hf2⟩ := bcell hb2
    have hs2 := hb2.size
    simp at hs2
    have zD2 : w1.heap.size < w2.heap.size := by omega
    have zQ2 : w1.heap.size + 1 < w2.heap.size := by omega
    have zi2 : bi < w2.heap.size := by omega
    have n1 : ¬ w1.heap.size = w2.heap.size := by omega
    have n2 : ¬ w2.heap.size = w1.heap.size := by omega
    have n3 : ¬ w1.heap.size = w2.heap.size + 1 := by omega
    have n4 : ¬ w1.heap.size + 1 = w2.heap.size := by omega
    have n5 : ¬ w2.heap.size = w1.heap.size + 1 := by omega
    have n6 : ¬ w2.heap.size + 1 = w1.heap.size := by omega
    have n7 : ¬ bi = w1.heap.size := by omega
    have n8 : ¬ bi = w1.heap.size + 1 := by omega
    have n9 : ¬ bi = w2.heap.size := by omega
    have n10 : ¬ bi = w2.heap.size + 1 := by omega
    have kD2 : ∀ o, w2.cell? ⟨w1.heap.size, o, none⟩ = (#[.int .i64 e0, .int .i64 e1, .int .i64 e2, .int .i64 e3, .int .i64 e4, .int .i64 e5, .int .i64 e6, .int .i64 e7, .int .i64 p1, .int .i64 st, .int .i64 tr] : Array Value)[o]? := fun o => by rw [hc2 _ _ (by simp; omega), l_one]
    have kQ2 : ∀ o, w2.cell? ⟨w1.heap.size + 1, o, none⟩ = (#[.int .i64 0, .int .i64 ad, .int .i64 v1, .int .i64 r] : Array Value)[o]? := fun o => by rw [hc2 _ _ (by simp), l_two]
    have ki2 : ∀ o, w2.cell? ⟨bi, o, none⟩ = (#[.int .i64 23, .int .i64 a, .int .i64 b, .int .i64 n] : Array Value)[o]? := fun o => by rw [hc2 _ _ (by simp; omega), l_old _ _ _ _ _ zi1, ki1 o]
    have fD2 : ∀ o, w2.frozen? ⟨w1.heap.size, o, none⟩ = false := fun o => by rw [hf2 _ _ (by simp; omega)]; simp
    have fQ2 : ∀ o, w2.frozen? ⟨w1.heap.size + 1, o, none⟩ = false := fun o => by rw [hf2 _ _ (by simp)]; simp
    have q2 : Below w.heap.size w w2 := ((q1.alloc (by omega) _).alloc (by simp; omega) _).trans (hb2.mono (by simp; omega))
    clear hc2 hf2 hb2 hs2
    go_wp2_with (go_at_call 11; refine (live_any _).mono ?_; rintro e w3 ⟨rfl, hb3⟩)
    go_ret
    refine ⟨rfl, Below.trans ?_ (hb3.mono (by simp; omega))⟩
    first | exact ((q2.setCell (by simp; omega) _).alloc (by simp; omega) _).alloc (by simp; omega) _ | exact (((q2.setCell (by simp; omega) _).setCell (by simp; omega) _).alloc (by simp; omega) _).alloc (by simp; omega) _

set_option maxRecDepth 100000 in
set_option maxHeartbeats 16000000 in
theorem s_a2b1 (c : S.C) (a b n size m : Int) (w : World) (g1 : 0 ≤ c.pc) (g2 : c.pc ≤ 1099511627776) (m1 : -2147483648 ≤ m) (m2 : m ≤ 2147483647) (e0 e1 e2 e3 e4 e5 e6 e7 st tr p1 p2 ad v1 v2 r : Int) (H1 : Hid (S.startC c 23 a b n size = ⟨e0, e1, e2, e3, e4, e5, e6, e7, p1, st, tr⟩)) (H2 : Hid (S.startC (c.at_ (c.pc + m)) 23 a b n size = ⟨e0, e1, e2, e3, e4, e5, e6, e7, p2, st, tr⟩)) (H3 : Hid (S.startQ c 23 a b n size = ⟨2, ad, v1, r⟩)) (H4 : Hid (S.startQ (c.at_ (c.pc + m)) 23 a b n size = ⟨2, ad, v2, r⟩)) (hst : (st == 0) = false) (hv : wrap64 (v2 - v1) = m) :
    Calls Try.prog 6 #[caseV c 23 a b n size m] w fun e w' => e = .returned (.bool true) ∧ Below w.heap.size w w' := by
  have heq := eq8 ⟨e0, e1, e2, e3, e4, e5, e6, e7, 0, st, tr⟩
  go_enter Try.func6, Try.ntmps6
  go_wp2_with fail
  go_region_held3 (fun w' => w'.cell? ⟨w.heap.size, 0, none⟩ = some (.int .i64 c.r0) ∧ w'.cell? ⟨w.heap.size, 1, none⟩ = some (.int .i64 c.r1) ∧ w'.cell? ⟨w.heap.size, 2, none⟩ = some (.int .i64 c.r2) ∧ w'.cell? ⟨w.heap.size, 3, none⟩ = some (.int .i64 c.r3) ∧ w'.cell? ⟨w.heap.size, 4, none⟩ = some (.int .i64 c.r4) ∧ w'.cell? ⟨w.heap.size, 5, none⟩ = some (.int .i64 c.r5) ∧ w'.cell? ⟨w.heap.size, 6, none⟩ = some (.int .i64 c.r6) ∧ w'.cell? ⟨w.heap.size, 7, none⟩ = some (.int .i64 c.r7) ∧ w'.cell? ⟨w.heap.size, 8, none⟩ = some (.int .i64 c.pc) ∧ w'.cell? ⟨w.heap.size, 9, none⟩ = some (.int .i64 c.st) ∧ w'.cell? ⟨w.heap.size, 10, none⟩ = some (.int .i64 c.tr) ∧ w'.cell? ⟨w.heap.size, 11, none⟩ = some (.int .i64 23) ∧ w'.cell? ⟨w.heap.size, 12, none⟩ = some (.int .i64 a) ∧ w'.cell? ⟨w.heap.size, 13, none⟩ = some (.int .i64 b) ∧ w'.cell? ⟨w.heap.size, 14, none⟩ = some (.int .i64 n) ∧ w'.cell? ⟨w.heap.size, 15, none⟩ = some (.int .i64 size) ∧ w'.cell? ⟨w.heap.size, 16, none⟩ = some (.int .i32 m)) ((refine ⟨?_, ?_, ?_, ?_, ?_, ?_, ?_, ?_, ?_, ?_, ?_, ?_, ?_, ?_, ?_, ?_, ?_⟩ <;> (simp (disch := (first | ((try simp only [World.size_alloc]) <;> omega) | fail)) only [World.cell?_drew, World.cell?_alloc_at, World.cell?_alloc_past] <;> rfl))) (fail)
  · go_wp2_with fail
    refine (start_any c _ a b n size _).mono ?_
    rintro e w1 ⟨rfl, hb1⟩
    rw [H1.out, H3.out]
    obtain ⟨hc1, hf1⟩ := bcell hb1
    have hs1 := hb1.size
    simp at hs1
    have zd1 : w.heap.size + 1 + 1 + 1 < w1.heap.size := by omega
    have zi1 : w.heap.size + 1 + 1 < w1.heap.size := by omega
    have kd1 : ∀ o, w1.cell? ⟨w.heap.size + 1 + 1 + 1, o, none⟩ = (#[.int .i64 c.r0, .int .i64 c.r1, .int .i64 c.r2, .int .i64 c.r3, .int .i64 c.r4, .int .i64 c.r5, .int .i64 c.r6, .int .i64 c.r7, .int .i64 (c.pc + m), .int .i64 c.st, .int .i64 c.tr] : Array Value)[o]? := fun o => by rw [hc1 _ _ (by simp)]; simp (disch := (first | ((try simp only [World.size_alloc]) <;> omega) | fail)) only [World.cell?_drew, World.cell?_alloc_at]
    have ki1 : ∀ o, w1.cell? ⟨w.heap.size + 1 + 1, o, none⟩ = (#[.int .i64 23, .int .i64 a, .int .i64 b, .int .i64 n] : Array Value)[o]? := fun o => by rw [hc1 _ _ (by first | (simp; done) | (simp; omega))]; simp (disch := (first | ((try simp only [World.size_alloc]) <;> omega) | fail)) only [World.cell?_drew, World.cell?_alloc_at, World.cell?_alloc_past]
    have q1 : Below w.heap.size w w1 := Below.trans (by first | exact (bl3 _ _ _ _).drew.alloc (by simp; omega) _ | exact (bl4 _ _ _ _ _).drew | exact bl4 _ _ _ _ _) (hb1.mono (by simp; omega))
    have q0 : w.heap.size ≤ w1.heap.size := by omega
    clear hc1 hf1 hb1 hs1
    generalize w.heap.size + 1 + 1 + 1 = bd at *
    generalize w.heap.size + 1 + 1 = bi at *
    go_wp2_with fail
    refine (start_any (c.at_ (c.pc + m)) _ a b n size _).mono ?_
    rintro e w2 ⟨rfl, hb2⟩
    rw [H2.out, H4.out]
    obtain ⟨hc2, hf2⟩ := bcell hb2
    have hs2 := hb2.size
    simp at hs2
    have zD2 : w1.heap.size < w2.heap.size := by omega
    have zQ2 : w1.heap.size + 1 < w2.heap.size := by omega
    have zi2 : bi < w2.heap.size := by omega
    have n1 : ¬ w1.heap.size = w2.heap.size := by omega
    have n2 : ¬ w2.heap.size = w1.heap.size := by omega
    have n3 : ¬ w1.heap.size = w2.heap.size + 1 := by omega
    have n4 : ¬ w1.heap.size + 1 = w2.heap.size := by omega
    have n5 : ¬ w2.heap.size = w1.heap.size + 1 := by omega
    have n6 : ¬ w2.heap.size + 1 = w1.heap.size := by omega
    have n7 : ¬ bi = w1.heap.size := by omega
    have n8 : ¬ bi = w1.heap.size + 1 := by omega
    have n9 : ¬ bi = w2.heap.size := by omega
    have n10 : ¬ bi = w2.heap.size + 1 := by omega
    have kD2 : ∀ o, w2.cell? ⟨w1.heap.size, o, none⟩ = (#[.int .i64 e0, .int .i64 e1, .int .i64 e2, .int .i64 e3, .int .i64 e4, .int .i64 e5, .int .i64 e6, .int .i64 e7, .int .i64 p1, .int .i64 st, .int .i64 tr] : Array Value)[o]? := fun o => by rw [hc2 _ _ (by simp; omega), l_one]
    have kQ2 : ∀ o, w2.cell? ⟨w1.heap.size + 1, o, none⟩ = (#[.int .i64 2, .int .i64 ad, .int .i64 v1, .int .i64 r] : Array Value)[o]? := fun o => by rw [hc2 _ _ (by simp), l_two]
    have ki2 : ∀ o, w2.cell? ⟨bi, o, none⟩ = (#[.int .i64 23, .int .i64 a, .int .i64 b, .int .i64 n] : Array Value)[o]? := fun o => by rw [hc2 _ _ (by simp; omega), l_old _ _ _ _ _ zi1, ki1 o]
    have fD2 : ∀ o, w2.frozen? ⟨w1.heap.size, o, none⟩ = false := fun o => by rw [hf2 _ _ (by simp; omega)]; simp
    have fQ2 : ∀ o, w2.frozen? ⟨w1.heap.size + 1, o, none⟩ = false := fun o => by rw [hf2 _ _ (by simp)]; simp
    have q2 : Below w.heap.size w w2 := ((q1.alloc (by omega) _).alloc (by simp; omega) _).trans (hb2.mono (by simp; omega))
    clear hc2 hf2 hb2 hs2
    go_wp2_with (go_at_call 11; refine (live_any _).mono ?_; rintro e w3 ⟨rfl, hb3⟩)
    go_ret
    refine ⟨rfl, Below.trans ?_ (hb3.mono (by simp; omega))⟩
    first | exact ((q2.setCell (by simp; omega) _).alloc (by simp; omega) _).alloc (by simp; omega) _ | exact (((q2.setCell (by simp; omega) _).setCell (by simp; omega) _).alloc (by simp; omega) _).alloc (by simp; omega) _
  · go_wp2_with fail
    refine (start_any c _ a b n size _).mono ?_
    rintro e w1 ⟨rfl, hb1⟩
    rw [H1.out, H3.out]
    obtain ⟨hc1, hf1⟩ := bcell hb1
    have hs1 := hb1.size
    simp at hs1
    have zd1 : w.heap.size + 1 + 1 + 1 < w1.heap.size := by omega
    have zi1 : w.heap.size + 1 < w1.heap.size := by omega
    have kd1 : ∀ o, w1.cell? ⟨w.heap.size + 1 + 1 + 1, o, none⟩ = (#[.int .i64 c.r0, .int .i64 c.r1, .int .i64 c.r2, .int .i64 c.r3, .int .i64 c.r4, .int .i64 c.r5, .int .i64 c.r6, .int .i64 c.r7, .int .i64 (c.pc + m), .int .i64 c.st, .int .i64 c.tr] : Array Value)[o]? := fun o => by rw [hc1 _ _ (by simp)]; simp (disch := (first | ((try simp only [World.size_alloc]) <;> omega) | fail)) only [World.cell?_drew, World.cell?_alloc_at]
    have ki1 : ∀ o, w1.cell? ⟨w.heap.size + 1, o, none⟩ = (#[.int .i64 23, .int .i64 a, .int .i64 b, .int .i64 n] : Array Value)[o]? := fun o => by rw [hc1 _ _ (by first | (simp; done) | (simp; omega))]; simp (disch := (first | ((try simp only [World.size_alloc]) <;> omega) | fail)) only [World.cell?_drew, World.cell?_alloc_at, World.cell?_alloc_past]
    have q1 : Below w.heap.size w w1 := Below.trans (by first | exact (bl3 _ _ _ _).drew.alloc (by simp; omega) _ | exact (bl4 _ _ _ _ _).drew | exact bl4 _ _ _ _ _) (hb1.mono (by simp; omega))
    have q0 : w.heap.size ≤ w1.heap.size := by omega
    clear hc1 hf1 hb1 hs1
    generalize w.heap.size + 1 + 1 + 1 = bd at *
    generalize w.heap.size + 1 = bi at *
    go_wp2_with fail
    refine (start_any (c.at_ (c.pc + m)) _ a b n size _).mono ?_
    rintro e w2 ⟨rfl, hb2⟩
    rw [H2.out, H4.out]
    obtain ⟨hc2, hf2⟩ := bcell hb2
    have hs2 := hb2.size
    simp at hs2
    have zD2 : w1.heap.size < w2.heap.size := by omega
    have zQ2 : w1.heap.size + 1 < w2.heap.size := by omega
    have zi2 : bi < w2.heap.size := by omega
    have n1 : ¬ w1.heap.size = w2.heap.size := by omega
    have n2 : ¬ w2.heap.size = w1.heap.size := by omega
    have n3 : ¬ w1.heap.size = w2.heap.size + 1 := by omega
    have n4 : ¬ w1.heap.size + 1 = w2.heap.size := by omega
    have n5 : ¬ w2.heap.size = w1.heap.size + 1 := by omega
    have n6 : ¬ w2.heap.size + 1 = w1.heap.size := by omega
    have n7 : ¬ bi = w1.heap.size := by omega
    have n8 : ¬ bi = w1.heap.size + 1 := by omega
    have n9 : ¬ bi = w2.heap.size := by omega
    have n10 : ¬ bi = w2.heap.size + 1 := by omega
    have kD2 : ∀ o, w2.cell? ⟨w1.heap.size, o, none⟩ = (#[.int .i64 e0, .int .i64 e1, .int .i64 e2, .int .i64 e3, .int .i64 e4, .int .i64 e5, .int .i64 e6, .int .i64 e7, .int .i64 p1, .int .i64 st, .int .i64 tr] : Array Value)[o]? := fun o => by rw [hc2 _ _ (by simp; omega), l_one]
    have kQ2 : ∀ o, w2.cell? ⟨w1.heap.size + 1, o, none⟩ = (#[.int .i64 2, .int .i64 ad, .int .i64 v1, .int .i64 r] : Array Value)[o]? := fun o => by rw [hc2 _ _ (by simp), l_two]
    have ki2 : ∀ o, w2.cell? ⟨bi, o, none⟩ = (#[.int .i64 23, .int .i64 a, .int .i64 b, .int .i64 n] : Array Value)[o]? := fun o => by rw [hc2 _ _ (by simp; omega), l_old _ _ _ _ _ zi1, ki1 o]
    have fD2 : ∀ o, w2.frozen? ⟨w1.heap.size, o, none⟩ = false := fun o => by rw [hf2 _ _ (by simp; omega)]; simp
    have fQ2 : ∀ o, w2.frozen? ⟨w1.heap.size + 1, o, none⟩ = false := fun o => by rw [hf2 _ _ (by simp)]; simp
    have q2 : Below w.heap.size w w2 := ((q1.alloc (by omega) _).alloc (by simp; omega) _).trans (hb2.mono (by simp; omega))
    clear hc2 hf2 hb2 hs2
    go_wp2_with (go_at_call 11; refine (live_any _).mono ?_; rintro e w3 ⟨rfl, hb3⟩)
    go_ret
    refine ⟨rfl, Below.trans ?_ (hb3.mono (by simp; omega))⟩
    first | exact ((q2.setCell (by simp; omega) _).alloc (by simp; omega) _).alloc (by simp; omega) _ | exact (((q2.setCell (by simp; omega) _).setCell (by simp; omega) _).alloc (by simp; omega) _).alloc (by simp; omega) _

set_option maxRecDepth 100000 in
set_option maxHeartbeats 16000000 in
theorem s_a2b2 (c : S.C) (a b n size m : Int) (w : World) (g1 : 0 ≤ c.pc) (g2 : c.pc ≤ 1099511627776) (m1 : -2147483648 ≤ m) (m2 : m ≤ 2147483647) (e0 e1 e2 e3 e4 e5 e6 e7 st tr p1 p2 ad v1 r : Int) (H1 : Hid (S.startC c 23 a b n size = ⟨e0, e1, e2, e3, e4, e5, e6, e7, p1, st, tr⟩)) (H2 : Hid (S.startC (c.at_ (c.pc + m)) 23 a b n size = ⟨e0, e1, e2, e3, e4, e5, e6, e7, p2, st, tr⟩)) (H3 : Hid (S.startQ c 23 a b n size = ⟨0, ad, v1, r⟩)) (H4 : Hid (S.startQ (c.at_ (c.pc + m)) 23 a b n size = ⟨0, ad, v1, r⟩)) (hst : (st == 0) = false) :
    Calls Try.prog 6 #[caseV c 23 a b n size m] w fun e w' => e = .returned (.bool true) ∧ Below w.heap.size w w' := by
  have heq := eq8 ⟨e0, e1, e2, e3, e4, e5, e6, e7, 0, st, tr⟩
  go_enter Try.func6, Try.ntmps6
  go_wp2_with fail
  go_region_held3 (fun w' => w'.cell? ⟨w.heap.size, 0, none⟩ = some (.int .i64 c.r0) ∧ w'.cell? ⟨w.heap.size, 1, none⟩ = some (.int .i64 c.r1) ∧ w'.cell? ⟨w.heap.size, 2, none⟩ = some (.int .i64 c.r2) ∧ w'.cell? ⟨w.heap.size, 3, none⟩ = some (.int .i64 c.r3) ∧ w'.cell? ⟨w.heap.size, 4, none⟩ = some (.int .i64 c.r4) ∧ w'.cell? ⟨w.heap.size, 5, none⟩ = some (.int .i64 c.r5) ∧ w'.cell? ⟨w.heap.size, 6, none⟩ = some (.int .i64 c.r6) ∧ w'.cell? ⟨w.heap.size, 7, none⟩ = some (.int .i64 c.r7) ∧ w'.cell? ⟨w.heap.size, 8, none⟩ = some (.int .i64 c.pc) ∧ w'.cell? ⟨w.heap.size, 9, none⟩ = some (.int .i64 c.st) ∧ w'.cell? ⟨w.heap.size, 10, none⟩ = some (.int .i64 c.tr) ∧ w'.cell? ⟨w.heap.size, 11, none⟩ = some (.int .i64 23) ∧ w'.cell? ⟨w.heap.size, 12, none⟩ = some (.int .i64 a) ∧ w'.cell? ⟨w.heap.size, 13, none⟩ = some (.int .i64 b) ∧ w'.cell? ⟨w.heap.size, 14, none⟩ = some (.int .i64 n) ∧ w'.cell? ⟨w.heap.size, 15, none⟩ = some (.int .i64 size) ∧ w'.cell? ⟨w.heap.size, 16, none⟩ = some (.int .i32 m)) ((refine ⟨?_, ?_, ?_, ?_, ?_, ?_, ?_, ?_, ?_, ?_, ?_, ?_, ?_, ?_, ?_, ?_, ?_⟩ <;> (simp (disch := (first | ((try simp only [World.size_alloc]) <;> omega) | fail)) only [World.cell?_drew, World.cell?_alloc_at, World.cell?_alloc_past] <;> rfl))) (fail)
  · go_wp2_with fail
    refine (start_any c _ a b n size _).mono ?_
    rintro e w1 ⟨rfl, hb1⟩
    rw [H1.out, H3.out]
    obtain ⟨hc1, hf1⟩ := bcell hb1
    have hs1 := hb1.size
    simp at hs1
    have zd1 : w.heap.size + 1 + 1 + 1 < w1.heap.size := by omega
    have zi1 : w.heap.size + 1 + 1 < w1.heap.size := by omega
    have kd1 : ∀ o, w1.cell? ⟨w.heap.size + 1 + 1 + 1, o, none⟩ = (#[.int .i64 c.r0, .int .i64 c.r1, .int .i64 c.r2, .int .i64 c.r3, .int .i64 c.r4, .int .i64 c.r5, .int .i64 c.r6, .int .i64 c.r7, .int .i64 (c.pc + m), .int .i64 c.st, .int .i64 c.tr] : Array Value)[o]? := fun o => by rw [hc1 _ _ (by simp)]; simp (disch := (first | ((try simp only [World.size_alloc]) <;> omega) | fail)) only [World.cell?_drew, World.cell?_alloc_at]
    have ki1 : ∀ o, w1.cell? ⟨w.heap.size + 1 + 1, o, none⟩ = (#[.int .i64 23, .int .i64 a, .int .i64 b, .int .i64 n] : Array Value)[o]? := fun o => by rw [hc1 _ _ (by first | (simp; done) | (simp; omega))]; simp (disch := (first | ((try simp only [World.size_alloc]) <;> omega) | fail)) only [World.cell?_drew, World.cell?_alloc_at, World.cell?_alloc_past]
    have q1 : Below w.heap.size w w1 := Below.trans (by first | exact (bl3 _ _ _ _).drew.alloc (by simp; omega) _ | exact (bl4 _ _ _ _ _).drew | exact bl4 _ _ _ _ _) (hb1.mono (by simp; omega))
    have q0 : w.heap.size ≤ w1.heap.size := by omega
    clear hc1 hf1 hb1 hs1
    generalize w.heap.size + 1 + 1 + 1 = bd at *
    generalize w.heap.size + 1 + 1 = bi at *
    go_wp2_with fail
    refine (start_any (c.at_ (c.pc + m)) _ a b n size _).mono ?_
    rintro e w2 ⟨rfl, hb2⟩
    rw [H2.out, H4.out]
    obtain ⟨hc2, hf2⟩ := bcell hb2
    have hs2 := hb2.size
    simp at hs2
    have zD2 : w1.heap.size < w2.heap.size := by omega
    have zQ2 : w1.heap.size + 1 < w2.heap.size := by omega
    have zi2 : bi < w2.heap.size := by omega
    have n1 : ¬ w1.heap.size = w2.heap.size := by omega
    have n2 : ¬ w2.heap.size = w1.heap.size := by omega
    have n3 : ¬ w1.heap.size = w2.heap.size + 1 := by omega
    have n4 : ¬ w1.heap.size + 1 = w2.heap.size := by omega
    have n5 : ¬ w2.heap.size = w1.heap.size + 1 := by omega
    have n6 : ¬ w2.heap.size + 1 = w1.heap.size := by omega
    have n7 : ¬ bi = w1.heap.size := by omega
    have n8 : ¬ bi = w1.heap.size + 1 := by omega
    have n9 : ¬ bi = w2.heap.size := by omega
    have n10 : ¬ bi = w2.heap.size + 1 := by omega
    have kD2 : ∀ o, w2.cell? ⟨w1.heap.size, o, none⟩ = (#[.int .i64 e0, .int .i64 e1, .int .i64 e2, .int .i64 e3, .int .i64 e4, .int .i64 e5, .int .i64 e6, .int .i64 e7, .int .i64 p1, .int .i64 st, .int .i64 tr] : Array Value)[o]? := fun o => by rw [hc2 _ _ (by simp; omega), l_one]
    have kQ2 : ∀ o, w2.cell? ⟨w1.heap.size + 1, o, none⟩ = (#[.int .i64 0, .int .i64 ad, .int .i64 v1, .int .i64 r] : Array Value)[o]? := fun o => by rw [hc2 _ _ (by simp), l_two]
    have ki2 : ∀ o, w2.cell? ⟨bi, o, none⟩ = (#[.int .i64 23, .int .i64 a, .int .i64 b, .int .i64 n] : Array Value)[o]? := fun o => by rw [hc2 _ _ (by simp; omega), l_old _ _ _ _ _ zi1, ki1 o]
    have fD2 : ∀ o, w2.frozen? ⟨w1.heap.size, o, none⟩ = false := fun o => by rw [hf2 _ _ (by simp; omega)]; simp
    have fQ2 : ∀ o, w2.frozen? ⟨w1.heap.size + 1, o, none⟩ = false := fun o => by rw [hf2 _ _ (by simp)]; simp
    have q2 : Below w.heap.size w w2 := ((q1.alloc (by omega) _).alloc (by simp; omega) _).trans (hb2.mono (by simp; omega))
    clear hc2 hf2 hb2 hs2
    go_wp2_with (go_at_call 11; refine (live_any _).mono ?_; rintro e w3 ⟨rfl, hb3⟩)
    go_ret
    refine ⟨rfl, Below.trans ?_ (hb3.mono (by simp; omega))⟩
    first | exact ((q2.setCell (by simp; omega) _).alloc (by simp; omega) _).alloc (by simp; omega) _ | exact (((q2.setCell (by simp; omega) _).setCell (by simp; omega) _).alloc (by simp; omega) _).alloc (by simp; omega) _
  · go_wp2_with fail
    refine (start_any c _ a b n size _).mono ?_
    rintro e w1 ⟨rfl, hb1⟩
    rw [H1.out, H3.out]
    obtain ⟨hc1, hf1⟩ := bcell hb1
    have hs1 := hb1.size
    simp at hs1
    have zd1 : w.heap.size + 1 + 1 + 1 < w1.heap.size := by omega
    have zi1 : w.heap.size + 1 < w1.heap.size := by omega
    have kd1 : ∀ o, w1.cell? ⟨w.heap.size + 1 + 1 + 1, o, none⟩ = (#[.int .i64 c.r0, .int .i64 c.r1, .int .i64 c.r2, .int .i64 c.r3, .int .i64 c.r4, .int .i64 c.r5, .int .i64 c.r6, .int .i64 c.r7, .int .i64 (c.pc + m), .int .i64 c.st, .int .i64 c.tr] : Array Value)[o]? := fun o => by rw [hc1 _ _ (by simp)]; simp (disch := (first | ((try simp only [World.size_alloc]) <;> omega) | fail)) only [World.cell?_drew, World.cell?_alloc_at]
    have ki1 : ∀ o, w1.cell? ⟨w.heap.size + 1, o, none⟩ = (#[.int .i64 23, .int .i64 a, .int .i64 b, .int .i64 n] : Array Value)[o]? := fun o => by rw [hc1 _ _ (by first | (simp; done) | (simp; omega))]; simp (disch := (first | ((try simp only [World.size_alloc]) <;> omega) | fail)) only [World.cell?_drew, World.cell?_alloc_at, World.cell?_alloc_past]
    have q1 : Below w.heap.size w w1 := Below.trans (by first | exact (bl3 _ _ _ _).drew.alloc (by simp; omega) _ | exact (bl4 _ _ _ _ _).drew | exact bl4 _ _ _ _ _) (hb1.mono (by simp; omega))
    have q0 : w.heap.size ≤ w1.heap.size := by omega
    clear hc1 hf1 hb1 hs1
    generalize w.heap.size + 1 + 1 + 1 = bd at *
    generalize w.heap.size + 1 = bi at *
    go_wp2_with fail
    refine (start_any (c.at_ (c.pc + m)) _ a b n size _).mono ?_
    rintro e w2 ⟨rfl, hb2⟩
    rw [H2.out, H4.out]
    obtain ⟨hc2, hf2⟩ := bcell hb2
    have hs2 := hb2.size
    simp at hs2
    have zD2 : w1.heap.size < w2.heap.size := by omega
    have zQ2 : w1.heap.size + 1 < w2.heap.size := by omega
    have zi2 : bi < w2.heap.size := by omega
    have n1 : ¬ w1.heap.size = w2.heap.size := by omega
    have n2 : ¬ w2.heap.size = w1.heap.size := by omega
    have n3 : ¬ w1.heap.size = w2.heap.size + 1 := by omega
    have n4 : ¬ w1.heap.size + 1 = w2.heap.size := by omega
    have n5 : ¬ w2.heap.size = w1.heap.size + 1 := by omega
    have n6 : ¬ w2.heap.size + 1 = w1.heap.size := by omega
    have n7 : ¬ bi = w1.heap.size := by omega
    have n8 : ¬ bi = w1.heap.size + 1 := by omega
    have n9 : ¬ bi = w2.heap.size := by omega
    have n10 : ¬ bi = w2.heap.size + 1 := by omega
    have kD2 : ∀ o, w2.cell? ⟨w1.heap.size, o, none⟩ = (#[.int .i64 e0, .int .i64 e1, .int .i64 e2, .int .i64 e3, .int .i64 e4, .int .i64 e5, .int .i64 e6, .int .i64 e7, .int .i64 p1, .int .i64 st, .int .i64 tr] : Array Value)[o]? := fun o => by rw [hc2 _ _ (by simp; omega), l_one]
    have kQ2 : ∀ o, w2.cell? ⟨w1.heap.size + 1, o, none⟩ = (#[.int .i64 0, .int .i64 ad, .int .i64 v1, .int .i64 r] : Array Value)[o]? := fun o => by rw [hc2 _ _ (by simp), l_two]
    have ki2 : ∀ o, w2.cell? ⟨bi, o, none⟩ = (#[.int .i64 23, .int .i64 a, .int .i64 b, .int .i64 n] : Array Value)[o]? := fun o => by rw [hc2 _ _ (by simp; omega), l_old _ _ _ _ _ zi1, ki1 o]
    have fD2 : ∀ o, w2.frozen? ⟨w1.heap.size, o, none⟩ = false := fun o => by rw [hf2 _ _ (by simp; omega)]; simp
    have fQ2 : ∀ o, w2.frozen? ⟨w1.heap.size + 1, o, none⟩ = false := fun o => by rw [hf2 _ _ (by simp)]; simp
    have q2 : Below w.heap.size w w2 := ((q1.alloc (by omega) _).alloc (by simp; omega) _).trans (hb2.mono (by simp; omega))
    clear hc2 hf2 hb2 hs2
    go_wp2_with (go_at_call 11; refine (live_any _).mono ?_; rintro e w3 ⟨rfl, hb3⟩)
    go_ret
    refine ⟨rfl, Below.trans ?_ (hb3.mono (by simp; omega))⟩
    first | exact ((q2.setCell (by simp; omega) _).alloc (by simp; omega) _).alloc (by simp; omega) _ | exact (((q2.setCell (by simp; omega) _).setCell (by simp; omega) _).alloc (by simp; omega) _).alloc (by simp; omega) _

set_option maxRecDepth 100000 in
set_option maxHeartbeats 16000000 in
theorem s_a2b3 (c : S.C) (op a b n size m : Int) (w : World) (g1 : 0 ≤ c.pc) (g2 : c.pc ≤ 1099511627776) (m1 : -2147483648 ≤ m) (m2 : m ≤ 2147483647) (e0 e1 e2 e3 e4 e5 e6 e7 st tr p1 p2 k ad v1 r : Int) (H1 : Hid (S.startC c op a b n size = ⟨e0, e1, e2, e3, e4, e5, e6, e7, p1, st, tr⟩)) (H2 : Hid (S.startC (c.at_ (c.pc + m)) op a b n size = ⟨e0, e1, e2, e3, e4, e5, e6, e7, p2, st, tr⟩)) (H3 : Hid (S.startQ c op a b n size = ⟨k, ad, v1, r⟩)) (H4 : Hid (S.startQ (c.at_ (c.pc + m)) op a b n size = ⟨k, ad, v1, r⟩)) (hst : (st == 0) = false) (h23 : (op == 23) = false) :
    Calls Try.prog 6 #[caseV c op a b n size m] w fun e w' => e = .returned (.bool true) ∧ Below w.heap.size w w' := by
  have heq := eq8 ⟨e0, e1, e2, e3, e4, e5, e6, e7, 0, st, tr⟩
  go_enter Try.func6, Try.ntmps6
  go_wp2_with fail
  go_region_held3 (fun w' => w'.cell? ⟨w.heap.size, 0, none⟩ = some (.int .i64 c.r0) ∧ w'.cell? ⟨w.heap.size, 1, none⟩ = some (.int .i64 c.r1) ∧ w'.cell? ⟨w.heap.size, 2, none⟩ = some (.int .i64 c.r2) ∧ w'.cell? ⟨w.heap.size, 3, none⟩ = some (.int .i64 c.r3) ∧ w'.cell? ⟨w.heap.size, 4, none⟩ = some (.int .i64 c.r4) ∧ w'.cell? ⟨w.heap.size, 5, none⟩ = some (.int .i64 c.r5) ∧ w'.cell? ⟨w.heap.size, 6, none⟩ = some (.int .i64 c.r6) ∧ w'.cell? ⟨w.heap.size, 7, none⟩ = some (.int .i64 c.r7) ∧ w'.cell? ⟨w.heap.size, 8, none⟩ = some (.int .i64 c.pc) ∧ w'.cell? ⟨w.heap.size, 9, none⟩ = some (.int .i64 c.st) ∧ w'.cell? ⟨w.heap.size, 10, none⟩ = some (.int .i64 c.tr) ∧ w'.cell? ⟨w.heap.size, 11, none⟩ = some (.int .i64 op) ∧ w'.cell? ⟨w.heap.size, 12, none⟩ = some (.int .i64 a) ∧ w'.cell? ⟨w.heap.size, 13, none⟩ = some (.int .i64 b) ∧ w'.cell? ⟨w.heap.size, 14, none⟩ = some (.int .i64 n) ∧ w'.cell? ⟨w.heap.size, 15, none⟩ = some (.int .i64 size) ∧ w'.cell? ⟨w.heap.size, 16, none⟩ = some (.int .i32 m)) ((refine ⟨?_, ?_, ?_, ?_, ?_, ?_, ?_, ?_, ?_, ?_, ?_, ?_, ?_, ?_, ?_, ?_, ?_⟩ <;> (simp (disch := (first | ((try simp only [World.size_alloc]) <;> omega) | fail)) only [World.cell?_drew, World.cell?_alloc_at, World.cell?_alloc_past] <;> rfl))) (fail)
  · go_wp2_with fail
    refine (start_any c _ a b n size _).mono ?_
    rintro e w1 ⟨rfl, hb1⟩
    rw [H1.out, H3.out]
    obtain ⟨hc1, hf1⟩ := bcell hb1
    have hs1 := hb1.size
    simp at hs1
    have zd1 : w.heap.size + 1 + 1 + 1 < w1.heap.size := by omega
    have zi1 : w.heap.size + 1 + 1 < w1.heap.size := by omega
    have kd1 : ∀ o, w1.cell? ⟨w.heap.size + 1 + 1 + 1, o, none⟩ = (#[.int .i64 c.r0, .int .i64 c.r1, .int .i64 c.r2, .int .i64 c.r3, .int .i64 c.r4, .int .i64 c.r5, .int .i64 c.r6, .int .i64 c.r7, .int .i64 (c.pc + m), .int .i64 c.st, .int .i64 c.tr] : Array Value)[o]? := fun o => by rw [hc1 _ _ (by simp)]; simp (disch := (first | ((try simp only [World.size_alloc]) <;> omega) | fail)) only [World.cell?_drew, World.cell?_alloc_at]
    have ki1 : ∀ o, w1.cell? ⟨w.heap.size + 1 + 1, o, none⟩ = (#[.int .i64 op, .int .i64 a, .int .i64 b, .int .i64 n] : Array Value)[o]? := fun o => by rw [hc1 _ _ (by first | (simp; done) | (simp; omega))]; simp (disch := (first | ((try simp only [World.size_alloc]) <;> omega) | fail)) only [World.cell?_drew, World.cell?_alloc_at, World.cell?_alloc_past]
    have q1 : Below w.heap.size w w1 := Below.trans (by first | exact (bl3 _ _ _ _).drew.alloc (by simp; omega) _ | exact (bl4 _ _ _ _ _).drew | exact bl4 _ _ _ _ _) (hb1.mono (by simp; omega))
    have q0 : w.heap.size ≤ w1.heap.size := by omega
    clear hc1 hf1 hb1 hs1
    generalize w.heap.size + 1 + 1 + 1 = bd at *
    generalize w.heap.size + 1 + 1 = bi at *
    go_wp2_with fail
    refine (start_any (c.at_ (c.pc + m)) _ a b n size _).mono ?_
    rintro e w2 ⟨rfl, hb2⟩
    rw [H2.out, H4.out]
    obtain ⟨hc2, hf2⟩ := bcell hb2
    have hs2 := hb2.size
    simp at hs2
    have zD2 : w1.heap.size < w2.heap.size := by omega
    have zQ2 : w1.heap.size + 1 < w2.heap.size := by omega
    have zi2 : bi < w2.heap.size := by omega
    have n1 : ¬ w1.heap.size = w2.heap.size := by omega
    have n2 : ¬ w2.heap.size = w1.heap.size := by omega
    have n3 : ¬ w1.heap.size = w2.heap.size + 1 := by omega
    have n4 : ¬ w1.heap.size + 1 = w2.heap.size := by omega
    have n5 : ¬ w2.heap.size = w1.heap.size + 1 := by omega
    have n6 : ¬ w2.heap.size + 1 = w1.heap.size := by omega
    have n7 : ¬ bi = w1.heap.size := by omega
    have n8 : ¬ bi = w1.heap.size + 1 := by omega
    have n9 : ¬ bi = w2.heap.size := by omega
    have n10 : ¬ bi = w2.heap.size + 1 := by omega
    have kD2 : ∀ o, w2.cell? ⟨w1.heap.size, o, none⟩ = (#[.int .i64 e0, .int .i64 e1, .int .i64 e2, .int .i64 e3, .int .i64 e4, .int .i64 e5, .int .i64 e6, .int .i64 e7, .int .i64 p1, .int .i64 st, .int .i64 tr] : Array Value)[o]? := fun o => by rw [hc2 _ _ (by simp; omega), l_one]
    have kQ2 : ∀ o, w2.cell? ⟨w1.heap.size + 1, o, none⟩ = (#[.int .i64 k, .int .i64 ad, .int .i64 v1, .int .i64 r] : Array Value)[o]? := fun o => by rw [hc2 _ _ (by simp), l_two]
    have ki2 : ∀ o, w2.cell? ⟨bi, o, none⟩ = (#[.int .i64 op, .int .i64 a, .int .i64 b, .int .i64 n] : Array Value)[o]? := fun o => by rw [hc2 _ _ (by simp; omega), l_old _ _ _ _ _ zi1, ki1 o]
    have fD2 : ∀ o, w2.frozen? ⟨w1.heap.size, o, none⟩ = false := fun o => by rw [hf2 _ _ (by simp; omega)]; simp
    have fQ2 : ∀ o, w2.frozen? ⟨w1.heap.size + 1, o, none⟩ = false := fun o => by rw [hf2 _ _ (by simp)]; simp
    have q2 : Below w.heap.size w w2 := ((q1.alloc (by omega) _).alloc (by simp; omega) _).trans (hb2.mono (by simp; omega))
    clear hc2 hf2 hb2 hs2
    go_wp2_with (go_at_call 11; refine (live_any _).mono ?_; rintro e w3 ⟨rfl, hb3⟩)
    go_ret
    refine ⟨rfl, Below.trans ?_ (hb3.mono (by simp; omega))⟩
    first | exact ((q2.setCell (by simp; omega) _).alloc (by simp; omega) _).alloc (by simp; omega) _ | exact (((q2.setCell (by simp; omega) _).setCell (by simp; omega) _).alloc (by simp; omega) _).alloc (by simp; omega) _
  · go_wp2_with fail
    refine (start_any c _ a b n size _).mono ?_
    rintro e w1 ⟨rfl, hb1⟩
    rw [H1.out, H3.out]
    obtain ⟨hc1, hf1⟩ := bcell hb1
    have hs1 := hb1.size
    simp at hs1
    have zd1 : w.heap.size + 1 + 1 + 1 < w1.heap.size := by omega
    have zi1 : w.heap.size + 1 < w1.heap.size := by omega
    have kd1 : ∀ o, w1.cell? ⟨w.heap.size + 1 + 1 + 1, o, none⟩ = (#[.int .i64 c.r0, .int .i64 c.r1, .int .i64 c.r2, .int .i64 c.r3, .int .i64 c.r4, .int .i64 c.r5, .int .i64 c.r6, .int .i64 c.r7, .int .i64 (c.pc + m), .int .i64 c.st, .int .i64 c.tr] : Array Value)[o]? := fun o => by rw [hc1 _ _ (by simp)]; simp (disch := (first | ((try simp only [World.size_alloc]) <;> omega) | fail)) only [World.cell?_drew, World.cell?_alloc_at]
    have ki1 : ∀ o, w1.cell? ⟨w.heap.size + 1, o, none⟩ = (#[.int .i64 op, .int .i64 a, .int .i64 b, .int .i64 n] : Array Value)[o]? := fun o => by rw [hc1 _ _ (by first | (simp; done) | (simp; omega))]; simp (disch := (first | ((try simp only [World.size_alloc]) <;> omega) | fail)) only [World.cell?_drew, World.cell?_alloc_at, World.cell?_alloc_past]
    have q1 : Below w.heap.size w w1 := Below.trans (by first | exact (bl3 _ _ _ _).drew.alloc (by simp; omega) _ | exact (bl4 _ _ _ _ _).drew | exact bl4 _ _ _ _ _) (hb1.mono (by simp; omega))
    have q0 : w.heap.size ≤ w1.heap.size := by omega
    clear hc1 hf1 hb1 hs1
    generalize w.heap.size + 1 + 1 + 1 = bd at *
    generalize w.heap.size + 1 = bi at *
    go_wp2_with fail
    refine (start_any (c.at_ (c.pc + m)) _ a b n size _).mono ?_
    rintro e w2 ⟨rfl, hb2⟩
    rw [H2.out, H4.out]
    obtain ⟨hc2, hf2⟩ := bcell hb2
    have hs2 := hb2.size
    simp at hs2
    have zD2 : w1.heap.size < w2.heap.size := by omega
    have zQ2 : w1.heap.size + 1 < w2.heap.size := by omega
    have zi2 : bi < w2.heap.size := by omega
    have n1 : ¬ w1.heap.size = w2.heap.size := by omega
    have n2 : ¬ w2.heap.size = w1.heap.size := by omega
    have n3 : ¬ w1.heap.size = w2.heap.size + 1 := by omega
    have n4 : ¬ w1.heap.size + 1 = w2.heap.size := by omega
    have n5 : ¬ w2.heap.size = w1.heap.size + 1 := by omega
    have n6 : ¬ w2.heap.size + 1 = w1.heap.size := by omega
    have n7 : ¬ bi = w1.heap.size := by omega
    have n8 : ¬ bi = w1.heap.size + 1 := by omega
    have n9 : ¬ bi = w2.heap.size := by omega
    have n10 : ¬ bi = w2.heap.size + 1 := by omega
    have kD2 : ∀ o, w2.cell? ⟨w1.heap.size, o, none⟩ = (#[.int .i64 e0, .int .i64 e1, .int .i64 e2, .int .i64 e3, .int .i64 e4, .int .i64 e5, .int .i64 e6, .int .i64 e7, .int .i64 p1, .int .i64 st, .int .i64 tr] : Array Value)[o]? := fun o => by rw [hc2 _ _ (by simp; omega), l_one]
    have kQ2 : ∀ o, w2.cell? ⟨w1.heap.size + 1, o, none⟩ = (#[.int .i64 k, .int .i64 ad, .int .i64 v1, .int .i64 r] : Array Value)[o]? := fun o => by rw [hc2 _ _ (by simp), l_two]
    have ki2 : ∀ o, w2.cell? ⟨bi, o, none⟩ = (#[.int .i64 op, .int .i64 a, .int .i64 b, .int .i64 n] : Array Value)[o]? := fun o => by rw [hc2 _ _ (by simp; omega), l_old _ _ _ _ _ zi1, ki1 o]
    have fD2 : ∀ o, w2.frozen? ⟨w1.heap.size, o, none⟩ = false := fun o => by rw [hf2 _ _ (by simp; omega)]; simp
    have fQ2 : ∀ o, w2.frozen? ⟨w1.heap.size + 1, o, none⟩ = false := fun o => by rw [hf2 _ _ (by simp)]; simp
    have q2 : Below w.heap.size w w2 := ((q1.alloc (by omega) _).alloc (by simp; omega) _).trans (hb2.mono (by simp; omega))
    clear hc2 hf2 hb2 hs2
    go_wp2_with (go_at_call 11; refine (live_any _).mono ?_; rintro e w3 ⟨rfl, hb3⟩)
    go_ret
    refine ⟨rfl, Below.trans ?_ (hb3.mono (by simp; omega))⟩
    first | exact ((q2.setCell (by simp; omega) _).alloc (by simp; omega) _).alloc (by simp; omega) _ | exact (((q2.setCell (by simp; omega) _).setCell (by simp; omega) _).alloc (by simp; omega) _).alloc (by simp; omega) _

set_option maxRecDepth 100000 in
set_option maxHeartbeats 16000000 in
theorem s_a3 (c : S.C) (a b n size m : Int) (w : World) (g1 : 0 ≤ c.pc) (g2 : c.pc ≤ 1099511627776) (m1 : -2147483648 ≤ m) (m2 : m ≤ 2147483647) (e0 e1 e2 e3 e4 e5 e6 e7 st tr p1 p2 k ad v1 r : Int) (H1 : Hid (S.startC c 24 a b n size = ⟨e0, e1, e2, e3, e4, e5, e6, e7, p1, st, tr⟩)) (H2 : Hid (S.startC (c.at_ (c.pc + m)) 24 a b n size = ⟨e0, e1, e2, e3, e4, e5, e6, e7, p2, st, tr⟩)) (H3 : Hid (S.startQ c 24 a b n size = ⟨k, ad, v1, r⟩)) (H4 : Hid (S.startQ (c.at_ (c.pc + m)) 24 a b n size = ⟨k, ad, v1, r⟩)) (hst : (st == 0) = true) :
    Calls Try.prog 6 #[caseV c 24 a b n size m] w fun e w' => e = .returned (.bool true) ∧ Below w.heap.size w w' := by
  have heq := eq8 ⟨e0, e1, e2, e3, e4, e5, e6, e7, 0, st, tr⟩
  go_enter Try.func6, Try.ntmps6
  go_wp2_with fail
  go_region_held3 (fun w' => w'.cell? ⟨w.heap.size, 0, none⟩ = some (.int .i64 c.r0) ∧ w'.cell? ⟨w.heap.size, 1, none⟩ = some (.int .i64 c.r1) ∧ w'.cell? ⟨w.heap.size, 2, none⟩ = some (.int .i64 c.r2) ∧ w'.cell? ⟨w.heap.size, 3, none⟩ = some (.int .i64 c.r3) ∧ w'.cell? ⟨w.heap.size, 4, none⟩ = some (.int .i64 c.r4) ∧ w'.cell? ⟨w.heap.size, 5, none⟩ = some (.int .i64 c.r5) ∧ w'.cell? ⟨w.heap.size, 6, none⟩ = some (.int .i64 c.r6) ∧ w'.cell? ⟨w.heap.size, 7, none⟩ = some (.int .i64 c.r7) ∧ w'.cell? ⟨w.heap.size, 8, none⟩ = some (.int .i64 c.pc) ∧ w'.cell? ⟨w.heap.size, 9, none⟩ = some (.int .i64 c.st) ∧ w'.cell? ⟨w.heap.size, 10, none⟩ = some (.int .i64 c.tr) ∧ w'.cell? ⟨w.heap.size, 11, none⟩ = some (.int .i64 24) ∧ w'.cell? ⟨w.heap.size, 12, none⟩ = some (.int .i64 a) ∧ w'.cell? ⟨w.heap.size, 13, none⟩ = some (.int .i64 b) ∧ w'.cell? ⟨w.heap.size, 14, none⟩ = some (.int .i64 n) ∧ w'.cell? ⟨w.heap.size, 15, none⟩ = some (.int .i64 size) ∧ w'.cell? ⟨w.heap.size, 16, none⟩ = some (.int .i32 m)) ((refine ⟨?_, ?_, ?_, ?_, ?_, ?_, ?_, ?_, ?_, ?_, ?_, ?_, ?_, ?_, ?_, ?_, ?_⟩ <;> (simp (disch := (first | ((try simp only [World.size_alloc]) <;> omega) | fail)) only [World.cell?_drew, World.cell?_alloc_at, World.cell?_alloc_past] <;> rfl))) (fail)
  · go_wp2_with fail
    refine (start_any c _ a b n size _).mono ?_
    rintro e w1 ⟨rfl, hb1⟩
    rw [H1.out, H3.out]
    obtain ⟨hc1, hf1⟩ := bcell hb1
    have hs1 := hb1.size
    simp at hs1
    have zd1 : w.heap.size + 1 + 1 + 1 < w1.heap.size := by omega
    have zi1 : w.heap.size + 1 + 1 < w1.heap.size := by omega
    have kd1 : ∀ o, w1.cell? ⟨w.heap.size + 1 + 1 + 1, o, none⟩ = (#[.int .i64 c.r0, .int .i64 c.r1, .int .i64 c.r2, .int .i64 c.r3, .int .i64 c.r4, .int .i64 c.r5, .int .i64 c.r6, .int .i64 c.r7, .int .i64 (c.pc + m), .int .i64 c.st, .int .i64 c.tr] : Array Value)[o]? := fun o => by rw [hc1 _ _ (by simp)]; simp (disch := (first | ((try simp only [World.size_alloc]) <;> omega) | fail)) only [World.cell?_drew, World.cell?_alloc_at]
    have ki1 : ∀ o, w1.cell? ⟨w.heap.size + 1 + 1, o, none⟩ = (#[.int .i64 24, .int .i64 a, .int .i64 b, .int .i64 n] : Array Value)[o]? := fun o => by rw [hc1 _ _ (by first | (simp; done) | (simp; omega))]; simp (disch := (first | ((try simp only [World.size_alloc]) <;> omega) | fail)) only [World.cell?_drew, World.cell?_alloc_at, World.cell?_alloc_past]
    have q1 : Below w.heap.size w w1 := Below.trans (by first | exact (bl3 _ _ _ _).drew.alloc (by simp; omega) _ | exact (bl4 _ _ _ _ _).drew | exact bl4 _ _ _ _ _) (hb1.mono (by simp; omega))
    have q0 : w.heap.size ≤ w1.heap.size := by omega
    clear hc1 hf1 hb1 hs1
    generalize w.heap.size + 1 + 1 + 1 = bd at *
    generalize w.heap.size + 1 + 1 = bi at *
    go_wp2_with fail
    refine (start_any (c.at_ (c.pc + m)) _ a b n size _).mono ?_
    rintro e w2 ⟨rfl, hb2⟩
    rw [H2.out, H4.out]
    obtain ⟨hc2, hf2⟩ := bcell hb2
    have hs2 := hb2.size
    simp at hs2
    have zD2 : w1.heap.size < w2.heap.size := by omega
    have zQ2 : w1.heap.size + 1 < w2.heap.size := by omega
    have zi2 : bi < w2.heap.size := by omega
    have n1 : ¬ w1.heap.size = w2.heap.size := by omega
    have n2 : ¬ w2.heap.size = w1.heap.size := by omega
    have n3 : ¬ w1.heap.size = w2.heap.size + 1 := by omega
    have n4 : ¬ w1.heap.size + 1 = w2.heap.size := by omega
    have n5 : ¬ w2.heap.size = w1.heap.size + 1 := by omega
    have n6 : ¬ w2.heap.size + 1 = w1.heap.size := by omega
    have n7 : ¬ bi = w1.heap.size := by omega
    have n8 : ¬ bi = w1.heap.size + 1 := by omega
    have n9 : ¬ bi = w2.heap.size := by omega
    have n10 : ¬ bi = w2.heap.size + 1 := by omega
    have kD2 : ∀ o, w2.cell? ⟨w1.heap.size, o, none⟩ = (#[.int .i64 e0, .int .i64 e1, .int .i64 e2, .int .i64 e3, .int .i64 e4, .int .i64 e5, .int .i64 e6, .int .i64 e7, .int .i64 p1, .int .i64 st, .int .i64 tr] : Array Value)[o]? := fun o => by rw [hc2 _ _ (by simp; omega), l_one]
    have kQ2 : ∀ o, w2.cell? ⟨w1.heap.size + 1, o, none⟩ = (#[.int .i64 k, .int .i64 ad, .int .i64 v1, .int .i64 r] : Array Value)[o]? := fun o => by rw [hc2 _ _ (by simp), l_two]
    have ki2 : ∀ o, w2.cell? ⟨bi, o, none⟩ = (#[.int .i64 24, .int .i64 a, .int .i64 b, .int .i64 n] : Array Value)[o]? := fun o => by rw [hc2 _ _ (by simp; omega), l_old _ _ _ _ _ zi1, ki1 o]
    have fD2 : ∀ o, w2.frozen? ⟨w1.heap.size, o, none⟩ = false := fun o => by rw [hf2 _ _ (by simp; omega)]; simp
    have fQ2 : ∀ o, w2.frozen? ⟨w1.heap.size + 1, o, none⟩ = false := fun o => by rw [hf2 _ _ (by simp)]; simp
    have q2 : Below w.heap.size w w2 := ((q1.alloc (by omega) _).alloc (by simp; omega) _).trans (hb2.mono (by simp; omega))
    clear hc2 hf2 hb2 hs2
    go_wp2_with (go_at_call 11; refine (live_any _).mono ?_; rintro e w3 ⟨rfl, hb3⟩)
    go_ret
    refine ⟨rfl, Below.trans ?_ (hb3.mono (by simp; omega))⟩
    first | exact ((q2.setCell (by simp; omega) _).alloc (by simp; omega) _).alloc (by simp; omega) _ | exact (((q2.setCell (by simp; omega) _).setCell (by simp; omega) _).alloc (by simp; omega) _).alloc (by simp; omega) _
  · go_wp2_with fail
    refine (start_any c _ a b n size _).mono ?_
    rintro e w1 ⟨rfl, hb1⟩
    rw [H1.out, H3.out]
    obtain ⟨hc1, hf1⟩ := bcell hb1
    have hs1 := hb1.size
    simp at hs1
    have zd1 : w.heap.size + 1 + 1 + 1 < w1.heap.size := by omega
    have zi1 : w.heap.size + 1 < w1.heap.size := by omega
    have kd1 : ∀ o, w1.cell? ⟨w.heap.size + 1 + 1 + 1, o, none⟩ = (#[.int .i64 c.r0, .int .i64 c.r1, .int .i64 c.r2, .int .i64 c.r3, .int .i64 c.r4, .int .i64 c.r5, .int .i64 c.r6, .int .i64 c.r7, .int .i64 (c.pc + m), .int .i64 c.st, .int .i64 c.tr] : Array Value)[o]? := fun o => by rw [hc1 _ _ (by simp)]; simp (disch := (first | ((try simp only [World.size_alloc]) <;> omega) | fail)) only [World.cell?_drew, World.cell?_alloc_at]
    have ki1 : ∀ o, w1.cell? ⟨w.heap.size + 1, o, none⟩ = (#[.int .i64 24, .int .i64 a, .int .i64 b, .int .i64 n] : Array Value)[o]? := fun o => by rw [hc1 _ _ (by first | (simp; done) | (simp; omega))]; simp (disch := (first | ((try simp only [World.size_alloc]) <;> omega) | fail)) only [World.cell?_drew, World.cell?_alloc_at, World.cell?_alloc_past]
    have q1 : Below w.heap.size w w1 := Below.trans (by first | exact (bl3 _ _ _ _).drew.alloc (by simp; omega) _ | exact (bl4 _ _ _ _ _).drew | exact bl4 _ _ _ _ _) (hb1.mono (by simp; omega))
    have q0 : w.heap.size ≤ w1.heap.size := by omega
    clear hc1 hf1 hb1 hs1
    generalize w.heap.size + 1 + 1 + 1 = bd at *
    generalize w.heap.size + 1 = bi at *
    go_wp2_with fail
    refine (start_any (c.at_ (c.pc + m)) _ a b n size _).mono ?_
    rintro e w2 ⟨rfl, hb2⟩
    rw [H2.out, H4.out]
    obtain ⟨hc2, hf2⟩ := bcell hb2
    have hs2 := hb2.size
    simp at hs2
    have zD2 : w1.heap.size < w2.heap.size := by omega
    have zQ2 : w1.heap.size + 1 < w2.heap.size := by omega
    have zi2 : bi < w2.heap.size := by omega
    have n1 : ¬ w1.heap.size = w2.heap.size := by omega
    have n2 : ¬ w2.heap.size = w1.heap.size := by omega
    have n3 : ¬ w1.heap.size = w2.heap.size + 1 := by omega
    have n4 : ¬ w1.heap.size + 1 = w2.heap.size := by omega
    have n5 : ¬ w2.heap.size = w1.heap.size + 1 := by omega
    have n6 : ¬ w2.heap.size + 1 = w1.heap.size := by omega
    have n7 : ¬ bi = w1.heap.size := by omega
    have n8 : ¬ bi = w1.heap.size + 1 := by omega
    have n9 : ¬ bi = w2.heap.size := by omega
    have n10 : ¬ bi = w2.heap.size + 1 := by omega
    have kD2 : ∀ o, w2.cell? ⟨w1.heap.size, o, none⟩ = (#[.int .i64 e0, .int .i64 e1, .int .i64 e2, .int .i64 e3, .int .i64 e4, .int .i64 e5, .int .i64 e6, .int .i64 e7, .int .i64 p1, .int .i64 st, .int .i64 tr] : Array Value)[o]? := fun o => by rw [hc2 _ _ (by simp; omega), l_one]
    have kQ2 : ∀ o, w2.cell? ⟨w1.heap.size + 1, o, none⟩ = (#[.int .i64 k, .int .i64 ad, .int .i64 v1, .int .i64 r] : Array Value)[o]? := fun o => by rw [hc2 _ _ (by simp), l_two]
    have ki2 : ∀ o, w2.cell? ⟨bi, o, none⟩ = (#[.int .i64 24, .int .i64 a, .int .i64 b, .int .i64 n] : Array Value)[o]? := fun o => by rw [hc2 _ _ (by simp; omega), l_old _ _ _ _ _ zi1, ki1 o]
    have fD2 : ∀ o, w2.frozen? ⟨w1.heap.size, o, none⟩ = false := fun o => by rw [hf2 _ _ (by simp; omega)]; simp
    have fQ2 : ∀ o, w2.frozen? ⟨w1.heap.size + 1, o, none⟩ = false := fun o => by rw [hf2 _ _ (by simp)]; simp
    have q2 : Below w.heap.size w w2 := ((q1.alloc (by omega) _).alloc (by simp; omega) _).trans (hb2.mono (by simp; omega))
    clear hc2 hf2 hb2 hs2
    go_wp2_with (go_at_call 11; refine (live_any _).mono ?_; rintro e w3 ⟨rfl, hb3⟩)
    go_ret
    refine ⟨rfl, Below.trans ?_ (hb3.mono (by simp; omega))⟩
    first | exact ((q2.setCell (by simp; omega) _).alloc (by simp; omega) _).alloc (by simp; omega) _ | exact (((q2.setCell (by simp; omega) _).setCell (by simp; omega) _).alloc (by simp; omega) _).alloc (by simp; omega) _

set_option maxRecDepth 100000 in
set_option maxHeartbeats 16000000 in
theorem calm (c : S.C) (op a b n size m : Int) (w : World) (h : (c.pc < 0) ∨ (0 ≤ c.pc ∧ 1099511627776 < c.pc)) :
    Calls Try.prog 6 #[caseV c op a b n size m] w fun e w' => e = .returned (.bool true) ∧ Below w.heap.size w w' := by
  rcases h with h1 | ⟨h1, h2⟩
  all_goals
    go_enter Try.func6, Try.ntmps6
    go_wp2_with fail
    go_region_held3 (fun w' => w'.cell? ⟨w.heap.size, 0, none⟩ = some (.int .i64 c.r0) ∧ w'.cell? ⟨w.heap.size, 1, none⟩ = some (.int .i64 c.r1) ∧ w'.cell? ⟨w.heap.size, 2, none⟩ = some (.int .i64 c.r2) ∧ w'.cell? ⟨w.heap.size, 3, none⟩ = some (.int .i64 c.r3) ∧ w'.cell? ⟨w.heap.size, 4, none⟩ = some (.int .i64 c.r4) ∧ w'.cell? ⟨w.heap.size, 5, none⟩ = some (.int .i64 c.r5) ∧ w'.cell? ⟨w.heap.size, 6, none⟩ = some (.int .i64 c.r6) ∧ w'.cell? ⟨w.heap.size, 7, none⟩ = some (.int .i64 c.r7) ∧ w'.cell? ⟨w.heap.size, 8, none⟩ = some (.int .i64 c.pc) ∧ w'.cell? ⟨w.heap.size, 9, none⟩ = some (.int .i64 c.st) ∧ w'.cell? ⟨w.heap.size, 10, none⟩ = some (.int .i64 c.tr) ∧ w'.cell? ⟨w.heap.size, 11, none⟩ = some (.int .i64 op) ∧ w'.cell? ⟨w.heap.size, 12, none⟩ = some (.int .i64 a) ∧ w'.cell? ⟨w.heap.size, 13, none⟩ = some (.int .i64 b) ∧ w'.cell? ⟨w.heap.size, 14, none⟩ = some (.int .i64 n) ∧ w'.cell? ⟨w.heap.size, 15, none⟩ = some (.int .i64 size) ∧ w'.cell? ⟨w.heap.size, 16, none⟩ = some (.int .i32 m)) ((refine ⟨?_, ?_, ?_, ?_, ?_, ?_, ?_, ?_, ?_, ?_, ?_, ?_, ?_, ?_, ?_, ?_, ?_⟩ <;> (simp (disch := (first | ((try simp only [World.size_alloc]) <;> omega) | fail)) only [World.cell?_drew, World.cell?_alloc_at, World.cell?_alloc_past] <;> rfl))) (fail)
    all_goals
      go_wp2_with (go_at_call 11; refine (live_any _).mono ?_; rintro e w3 ⟨rfl, hb3⟩)
      go_ret
      exact ⟨rfl, (bl3 _ _ _ _).drew.trans (hb3.mono (by simp; omega))⟩

theorem walk (c : S.C) (hok : c.ok) (op a b n size m : Int) (m1 : -2147483648 ≤ m) (m2 : m ≤ 2147483647) (w : World) :
    Calls Try.prog 6 #[caseV c op a b n size m] w fun e w' => e = .returned (.bool true) ∧ Below w.heap.size w w' := by
  by_cases g : 0 ≤ c.pc ∧ c.pc ≤ 1099511627776
  · obtain ⟨g1, g2⟩ := g
    obtain ⟨x, p1, p2, k, ad, v1, v2, r, h1, h2, h3, h4, h5, h6, h7, h8⟩ := S.start_shift c op a b n size m ⟨m1, m2⟩
    obtain ⟨e0, e1, e2, e3, e4, e5, e6, e7, xp, st, tr⟩ := x
    simp only at h5
    by_cases hst : st = 0
    · have hst' : (st == 0) = true := by simp [hst]
      by_cases h23 : op = 23
      · subst h23
        rcases h8 rfl with rfl | rfl
        · exact s_a1b1 c a b n size m w g1 g2 m1 m2 e0 e1 e2 e3 e4 e5 e6 e7 st tr p1 p2 ad v1 v2 r h1 h2 h3 h4 hst' (h5 hst) (h6 rfl rfl)
        · obtain rfl := h7 (.inr (by decide))
          exact s_a1b2 c a b n size m w g1 g2 m1 m2 e0 e1 e2 e3 e4 e5 e6 e7 st tr p1 p2 ad v1 r h1 h2 h3 h4 hst' (h5 hst)
      · obtain rfl := h7 (.inl h23)
        by_cases h24 : op = 24
        · subst h24
          exact s_a3 c a b n size m w g1 g2 m1 m2 e0 e1 e2 e3 e4 e5 e6 e7 st tr p1 p2 k ad v1 r h1 h2 h3 h4 hst'
        · exact s_a1b3 c op a b n size m w g1 g2 m1 m2 e0 e1 e2 e3 e4 e5 e6 e7 st tr p1 p2 k ad v1 r h1 h2 h3 h4 hst' (by simpa using h24) (h5 hst) (by simpa using h23)
    · have hst' : (st == 0) = false := by simpa using hst
      by_cases h23 : op = 23
      · subst h23
        rcases h8 rfl with rfl | rfl
        · exact s_a2b1 c a b n size m w g1 g2 m1 m2 e0 e1 e2 e3 e4 e5 e6 e7 st tr p1 p2 ad v1 v2 r h1 h2 h3 h4 hst' (h6 rfl rfl)
        · obtain rfl := h7 (.inr (by decide))
          exact s_a2b2 c a b n size m w g1 g2 m1 m2 e0 e1 e2 e3 e4 e5 e6 e7 st tr p1 p2 ad v1 r h1 h2 h3 h4 hst'
      · obtain rfl := h7 (.inl h23)
        exact s_a2b3 c op a b n size m w g1 g2 m1 m2 e0 e1 e2 e3 e4 e5 e6 e7 st tr p1 p2 k ad v1 r h1 h2 h3 h4 hst' (by simpa using h23)
  · exact calm c op a b n size m w (by omega)

/-! ### The row -/
set_option maxRecDepth 100000 in
theorem lifted (os : Os) (started : os.Started) (H : Type) (enc : TypeId × Value → H) :
    ReturnsInHanded {} Try.checked os 6 .any (Rows.stepShiftedSpec.pre6 enc Try.prog Try.f6 Rows.stepShiftedRow.domain false) (Rows.stepShiftedSpec.post enc Try.prog Try.f6 false true false false) := by
  refine returnsInHanded_of_change (C := Try.checked) own started (by kernel_rfl) Try.func6
    (ChangeSpec.witness6 (enc := enc) (C := Try.checked) false ⟨#[], #[.agg #[.int .i64 0, .int .i64 0, .int .i64 0, .int .i64 0, .int .i64 0, .int .i64 0, .int .i64 0, .int .i64 0, .int .i64 0, .int .i64 0, .int .i64 0, .int .i64 0, .int .i64 0, .int .i64 0, .int .i64 0, .int .i64 0, .int .i32 0]], []⟩ 8 (by kernel_rfl) (by kernel_rfl) (by kernel_rfl) (by kernel_rfl)) ?_
  intro W base args ds gs before hval0 hW hcnd _
  have hval : ∀ (j : Nat) t v, Try.f6.params[j]? = some t → args[j]? = some v → Value.okWide Try.prog W .any base t v := hval0
  have hW' := hW
  obtain ⟨p, q, hA0, hV, rfl, hfz, hnd⟩ := hW
  have hA : DataW.TrodAll enc Try.prog W 0 (fun _ => true) true Try.f6.params.toList args.toList ds p := hA0
  have hlt := hA.lt
  rw [Try.params6] at hA hval
  obtain ⟨v0, vs0, d0, ds0, p0, q0, hargs, rfl, rfl, h0, r0⟩ := trodAll_cons hA
  obtain ⟨rfl, rfl, rfl⟩ := trodAll_nil r0
  obtain rfl : args = #[v0] := by cases args; simp_all
  obtain ⟨rfl, rfl⟩ := trodVars_none hV
  obtain ⟨c, op, a, b, n, size, m, rfl, hok, w0, w1, w2⟩ := open_case (hval 0 36 v0 rfl rfl) h0
  have hm := bounds_i32 w2
  clear hA0 hval0
  simp only [List.append_nil] at hW'
  refine (walk c hok op a b n size m hm.1 hm.2 W).mono fun e W' ⟨he, hg⟩ => ?_
  subst he
  exact ⟨_, rfl, _, _, _, [], _, [], hW', (trodAll_cons_mk (shut_bool Try.underlying4 _) trodAll_mk0), (trodAll_cons_mk (Below.trod laid (by kernel_rfl) (of_decide_eq_true (by kernel_rfl)) h0 hg (fun x hx => hlt x (by simp [hx]))) trodAll_mk0), rfl, hg.frame _, fun h => by cases h⟩

theorem over : Rows.stepShiftedRow.holds Try.pinned (OpenSpec.ofChange Rows.stepShiftedSpec) :=
  OpenClaim.holds_of_wide 6 Try.f6 rfl rfl rfl rfl rfl rfl rfl ⟨rfl, rfl, rfl, rfl, rfl⟩ rfl rfl rfl rfl rfl (by kernel_rfl) Try.func6 (by kernel_rfl)
    (of_decide_eq_true (by kernel_rfl)) (by unfold Func.isWrapper; first | (rw [if_pos (by decide +kernel)]; kernel_rfl) | (rw [if_neg (by decide +kernel)]; exact ⟨rfl, rfl⟩))
    (fun os started H enc _ => lifted os started H enc)

/-- The statement. -/
theorem proved : Rows.StepShiftedSaid :=
  over
#print axioms proved
end Go.Proofs.Ytnfkklpionbnoaa.stepShifted
namespace Go.Proofs.Ytnfkklpionbnoaa
/-- The statement. -/
theorem stepShifted_holds : Rows.StepShiftedSaid := stepShifted.proved
end Go.Proofs.Ytnfkklpionbnoaa

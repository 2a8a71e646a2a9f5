/- A part of StepNear. -/
import Derived.Test.YtnfkklpionbnoaaStepOpen
import Derived.Test.YtnfkklpionbnoaaStepLive
import Derived.Test.YtnfkklpionbnoaaStepEq
import Derived.Test.YtnfkklpionbnoaaStepOpen2
import Derived.Test.YtnfkklpionbnoaaStepShift
import Derived.Test.YtnfkklpionbnoaaStepSets
import Derived.Deep.RegionHeld3
import Derived.Deep.DrawnRows
import Derived.Deep.CutRange
namespace Go.Proofs.Ytnfkklpionbnoaa
open Go.ChangeShapes Go.WideShapes Go.ChangeAt Go.RowKit
set_option linter.unusedVariables false
attribute [local go_sem ↓] Go.wp_at_zero Go.wp_at_succ

set_option maxRecDepth 100000 in
set_option maxHeartbeats 32000000 in
theorem n_m (c : S.C) (m a n op ops : Int) (j : Nat) (w : World) (hm : m < 0) (hj : -((m + 1).tmod 3) = j) (hz : ¬ (j : Int) = 0) (m1 : -9223372036854775808 ≤ m) (m2 : m ≤ 9223372036854775807) (n1 : -128 ≤ n) (n2 : n ≤ 127) (j3 : (j : Int) < 3) (hL : (#[.int .i64 20, .int .i64 21, .int .i64 22] : Array Value)[j]? = some (.int .i64 op)) (hS : (#[.int .i64 25, .int .i64 26, .int .i64 27] : Array Value)[j]? = some (.int .i64 ops)) (d : S.C) (q : S.Q)
    (HD : Hid (S.startC c op a 0 n 6 = d)) (HQ : Hid (S.startQ c op a 0 n 6 = q)) (HE : Hid (S.startC c ops a 0 n 6 = d)) (HR : Hid (S.startQ c ops a 0 n 6 = q)) :
    Calls Try.prog 7 #[nearV c m a n] w fun e w' => e = .returned (.bool true) ∧ Below w.heap.size w w' := by
  have heq := eq8 d
  have hwn : IntKind.i64.wrap n = n := by rw [IntKind.wrap_i64]; omega
  have j0 : (0 : Int) ≤ (j : Int) := by omega
  go_enter Try.func7, Try.ntmps7
  go_wp2_with fail
  go_region_held3 (fun w' => w'.cell? ⟨w.heap.size, 0, none⟩ = some (.int .i64 c.r0) ∧ w'.cell? ⟨w.heap.size, 1, none⟩ = some (.int .i64 c.r1) ∧ w'.cell? ⟨w.heap.size, 2, none⟩ = some (.int .i64 c.r2) ∧ w'.cell? ⟨w.heap.size, 3, none⟩ = some (.int .i64 c.r3) ∧ w'.cell? ⟨w.heap.size, 4, none⟩ = some (.int .i64 c.r4) ∧ w'.cell? ⟨w.heap.size, 5, none⟩ = some (.int .i64 c.r5) ∧ w'.cell? ⟨w.heap.size, 6, none⟩ = some (.int .i64 c.r6) ∧ w'.cell? ⟨w.heap.size, 7, none⟩ = some (.int .i64 c.r7) ∧ w'.cell? ⟨w.heap.size, 8, none⟩ = some (.int .i64 c.pc) ∧ w'.cell? ⟨w.heap.size, 9, none⟩ = some (.int .i64 c.st) ∧ w'.cell? ⟨w.heap.size, 10, none⟩ = some (.int .i64 c.tr) ∧ w'.cell? ⟨w.heap.size, 11, none⟩ = some (.int .i64 m) ∧ w'.cell? ⟨w.heap.size, 12, none⟩ = some (.int .i64 a) ∧ w'.cell? ⟨w.heap.size, 13, none⟩ = some (.int .i8 n)) ((refine ⟨?_, ?_, ?_, ?_, ?_, ?_, ?_, ?_, ?_, ?_, ?_, ?_, ?_, ?_⟩ <;> (simp (disch := (first | ((try simp only [World.size_alloc]) <;> omega) | fail)) only [World.cell?_drew, World.cell?_alloc_at, World.cell?_alloc_past] <;> rfl))) (fail)
  all_goals
    go_upto_region 9 with fail
    try simp only [hj]
    go_cut [9, 10] from 31 to 44 (fun s9 s10 wx => ∃ bx br : Nat, s9 = .pointer (some ⟨bx, 0, none⟩) ∧ s10 = .pointer (some ⟨br, 0, none⟩) ∧ bx < wx.heap.size ∧ br < wx.heap.size ∧ (wx.cell? ⟨bx, 0, none⟩ = some (.int .i64 d.r0) ∧ wx.cell? ⟨bx, 1, none⟩ = some (.int .i64 d.r1) ∧ wx.cell? ⟨bx, 2, none⟩ = some (.int .i64 d.r2) ∧ wx.cell? ⟨bx, 3, none⟩ = some (.int .i64 d.r3) ∧ wx.cell? ⟨bx, 4, none⟩ = some (.int .i64 d.r4) ∧ wx.cell? ⟨bx, 5, none⟩ = some (.int .i64 d.r5) ∧ wx.cell? ⟨bx, 6, none⟩ = some (.int .i64 d.r6) ∧ wx.cell? ⟨bx, 7, none⟩ = some (.int .i64 d.r7) ∧ wx.cell? ⟨bx, 8, none⟩ = some (.int .i64 d.pc) ∧ wx.cell? ⟨bx, 9, none⟩ = some (.int .i64 d.st) ∧ wx.cell? ⟨bx, 10, none⟩ = some (.int .i64 d.tr)) ∧ (wx.cell? ⟨br, 0, none⟩ = some (.int .i64 q.k) ∧ wx.cell? ⟨br, 1, none⟩ = some (.int .i64 q.a) ∧ wx.cell? ⟨br, 2, none⟩ = some (.int .i64 q.v) ∧ wx.cell? ⟨br, 3, none⟩ = some (.int .i64 q.r)) ∧ (wx.cell? ⟨w.heap.size + 1, 0, none⟩ = some (.int .i64 c.r0) ∧ wx.cell? ⟨w.heap.size + 1, 1, none⟩ = some (.int .i64 c.r1) ∧ wx.cell? ⟨w.heap.size + 1, 2, none⟩ = some (.int .i64 c.r2) ∧ wx.cell? ⟨w.heap.size + 1, 3, none⟩ = some (.int .i64 c.r3) ∧ wx.cell? ⟨w.heap.size + 1, 4, none⟩ = some (.int .i64 c.r4) ∧ wx.cell? ⟨w.heap.size + 1, 5, none⟩ = some (.int .i64 c.r5) ∧ wx.cell? ⟨w.heap.size + 1, 6, none⟩ = some (.int .i64 c.r6) ∧ wx.cell? ⟨w.heap.size + 1, 7, none⟩ = some (.int .i64 c.r7) ∧ wx.cell? ⟨w.heap.size + 1, 8, none⟩ = some (.int .i64 c.pc) ∧ wx.cell? ⟨w.heap.size + 1, 9, none⟩ = some (.int .i64 c.st) ∧ wx.cell? ⟨w.heap.size + 1, 10, none⟩ = some (.int .i64 c.tr)) ∧ wx.cell? ⟨w.heap.size + 1 + 1 + 1, j, none⟩ = some (.int .i64 ops) ∧ w.heap.size + 1 + 1 + 1 < wx.heap.size ∧ Below w.heap.size w wx)
    case first =>
      go_region_held3 (fun w' => w'.cell? ⟨w.heap.size + 1, 0, none⟩ = some (.int .i64 c.r0) ∧ w'.cell? ⟨w.heap.size + 1, 1, none⟩ = some (.int .i64 c.r1) ∧ w'.cell? ⟨w.heap.size + 1, 2, none⟩ = some (.int .i64 c.r2) ∧ w'.cell? ⟨w.heap.size + 1, 3, none⟩ = some (.int .i64 c.r3) ∧ w'.cell? ⟨w.heap.size + 1, 4, none⟩ = some (.int .i64 c.r4) ∧ w'.cell? ⟨w.heap.size + 1, 5, none⟩ = some (.int .i64 c.r5) ∧ w'.cell? ⟨w.heap.size + 1, 6, none⟩ = some (.int .i64 c.r6) ∧ w'.cell? ⟨w.heap.size + 1, 7, none⟩ = some (.int .i64 c.r7) ∧ w'.cell? ⟨w.heap.size + 1, 8, none⟩ = some (.int .i64 c.pc) ∧ w'.cell? ⟨w.heap.size + 1, 9, none⟩ = some (.int .i64 c.st) ∧ w'.cell? ⟨w.heap.size + 1, 10, none⟩ = some (.int .i64 c.tr) ∧ w'.cell? ⟨w.heap.size + 1 + 1, j, none⟩ = some (.int .i64 op) ∧ w'.cell? ⟨w.heap.size + 1 + 1 + 1, j, none⟩ = some (.int .i64 ops)) (first | (refine ⟨?_, ?_, ?_, ?_, ?_, ?_, ?_, ?_, ?_, ?_, ?_, ?_, ?_⟩ <;> (simp (disch := (first | ((try simp) <;> omega) | fail)) only [World.cell?_drew, World.cell?_alloc_at, World.cell?_alloc_past, hL, hS] <;> rfl)) | (refine ⟨?_, ?_, ?_, ?_, ?_, ?_, ?_, ?_, ?_, ?_, ?_, ?_, ?_⟩ <;> (simp (disch := (first | ((try simp) <;> omega) | fail)) only [hc1, World.cell?_drew, World.cell?_alloc_at, World.cell?_alloc_past, hL, hS] <;> rfl)) | (refine ⟨?_, ?_, ?_, ?_, ?_, ?_, ?_, ?_, ?_, ?_, ?_, ?_, ?_⟩ <;> (simp (disch := (first | ((try simp) <;> omega) | fail)) only [k_far, hc1, World.cell?_drew, World.cell?_alloc_at, World.cell?_alloc_past, hL, hS] <;> rfl))) (first | (go_at_call 9; refine (start_any c _ _ _ _ _ _).mono ?_; rintro e w1 ⟨rfl, hb1⟩; rw [HD.out, HQ.out]; obtain ⟨hc1, hf1⟩ := bcell hb1; have hz1 := hb1.size; simp at hz1; obtain ⟨hca, hfa⟩ := a_old hb1))
      · go_wp2_with fail
        go_meet
        case rel =>
          have hh := (‹_ ∧ _ ∧ _ ∧ _ ∧ _ ∧ _ ∧ _ ∧ _ ∧ _ ∧ _ ∧ _ ∧ _ ∧ _›)
          obtain ⟨y0, y1, y2, y3, y4, y5, y6, y7, y8, y9, ya, yb, yc⟩ := hh
          refine ⟨_, _, rfl, rfl, (by first | (simp; done) | (simp; omega) | omega), (by first | (simp; done) | (simp; omega) | omega), (two_1 _ d q _ _).1, (two_1 _ d q _ _).2, ⟨y0, y1, y2, y3, y4, y5, y6, y7, y8, y9, ya⟩, yc, (by first | (simp; done) | (simp; omega) | omega), ?_⟩
          repeat (first | refine Below.setCell ?_ (by first | (simp; done) | (simp; omega) | omega) _ | refine Below.alloc ?_ (by first | (simp; done) | (simp; omega) | omega) _)
          refine Below.trans ?_ (hb1.mono (by first | (simp; done) | (simp; omega) | omega))
          repeat (first | refine Below.drew ?_ | refine Below.alloc ?_ (by first | (simp; done) | (simp; omega) | omega) _)
          exact Below.refl _ _
      · go_wp2_with fail
        go_meet
        case rel =>
          have hh := (‹_ ∧ _ ∧ _ ∧ _ ∧ _ ∧ _ ∧ _ ∧ _ ∧ _ ∧ _ ∧ _ ∧ _ ∧ _›)
          obtain ⟨y0, y1, y2, y3, y4, y5, y6, y7, y8, y9, ya, yb, yc⟩ := hh
          refine ⟨_, _, rfl, rfl, (by first | (simp; done) | (simp; omega) | omega), (by first | (simp; done) | (simp; omega) | omega), (two_2 _ d q _ _).1, (two_2 _ d q _ _).2, ⟨y0, y1, y2, y3, y4, y5, y6, y7, y8, y9, ya⟩, yc, (by first | (simp; done) | (simp; omega) | omega), ?_⟩
          repeat (first | refine Below.setCell ?_ (by first | (simp; done) | (simp; omega) | omega) _ | refine Below.alloc ?_ (by first | (simp; done) | (simp; omega) | omega) _)
          refine Below.trans ?_ (hb1.mono (by first | (simp; done) | (simp; omega) | omega))
          repeat (first | refine Below.drew ?_ | refine Below.alloc ?_ (by first | (simp; done) | (simp; omega) | omega) _)
          exact Below.refl _ _
      · go_wp2_with fail
        go_meet
        case rel =>
          have hh := (‹_ ∧ _ ∧ _ ∧ _ ∧ _ ∧ _ ∧ _ ∧ _ ∧ _ ∧ _ ∧ _ ∧ _ ∧ _›)
          obtain ⟨y0, y1, y2, y3, y4, y5, y6, y7, y8, y9, ya, yb, yc⟩ := hh
          refine ⟨_, _, rfl, rfl, (by first | (simp; done) | (simp; omega) | omega), (by first | (simp; done) | (simp; omega) | omega), (two_c (w1.alloc _) d q (w.heap.size + 1 + 1 + 1 + 1) w1.heap.size (by omega) (some_a hb1 _ _ 11 (by simp) (some_k (cs := (#[.int .i64 0, .int .i64 0, .int .i64 0, .int .i64 0, .int .i64 0, .int .i64 0, .int .i64 0, .int .i64 0, .int .i64 0, .int .i64 0, .int .i64 0] : Array Value)) (fun o => by simp (disch := (first | ((try simp only [World.size_alloc]) <;> omega) | fail)) only [World.cell?_drew, World.cell?_alloc_at]) (by decide))) (some_n w1 _ _ 4 (by simp))).1, (two_c (w1.alloc _) d q (w.heap.size + 1 + 1 + 1 + 1) w1.heap.size (by omega) (some_a hb1 _ _ 11 (by simp) (some_k (cs := (#[.int .i64 0, .int .i64 0, .int .i64 0, .int .i64 0, .int .i64 0, .int .i64 0, .int .i64 0, .int .i64 0, .int .i64 0, .int .i64 0, .int .i64 0] : Array Value)) (fun o => by simp (disch := (first | ((try simp only [World.size_alloc]) <;> omega) | fail)) only [World.cell?_drew, World.cell?_alloc_at]) (by decide))) (some_n w1 _ _ 4 (by simp))).2, ⟨y0, y1, y2, y3, y4, y5, y6, y7, y8, y9, ya⟩, yc, (by first | (simp; done) | (simp; omega) | omega), ?_⟩
          repeat (first | refine Below.setCell ?_ (by first | (simp; done) | (simp; omega) | omega) _ | refine Below.alloc ?_ (by first | (simp; done) | (simp; omega) | omega) _)
          refine Below.trans ?_ (hb1.mono (by first | (simp; done) | (simp; omega) | omega))
          repeat (first | refine Below.drew ?_ | refine Below.alloc ?_ (by first | (simp; done) | (simp; omega) | omega) _)
          exact Below.refl _ _
      · go_wp2_with fail
        go_meet
        case rel =>
          have hh := (‹_ ∧ _ ∧ _ ∧ _ ∧ _ ∧ _ ∧ _ ∧ _ ∧ _ ∧ _ ∧ _ ∧ _ ∧ _›)
          obtain ⟨y0, y1, y2, y3, y4, y5, y6, y7, y8, y9, ya, yb, yc⟩ := hh
          refine ⟨_, _, rfl, rfl, (by first | (simp; done) | (simp; omega) | omega), (by first | (simp; done) | (simp; omega) | omega), (two_c w1 d q (w.heap.size + 1 + 1 + 1 + 1) (w.heap.size + 1 + 1 + 1 + 1 + 1) (by omega) (some_c hb1 _ 11 (by simp) (some_k (cs := (#[.int .i64 0, .int .i64 0, .int .i64 0, .int .i64 0, .int .i64 0, .int .i64 0, .int .i64 0, .int .i64 0, .int .i64 0, .int .i64 0, .int .i64 0] : Array Value)) (fun o => by simp (disch := (first | ((try simp only [World.size_alloc]) <;> omega) | fail)) only [World.cell?_drew, World.cell?_alloc_at, World.cell?_alloc_past]) (by decide))) (some_c hb1 _ 4 (by simp) (some_k (cs := (#[.int .i64 0, .int .i64 0, .int .i64 0, .int .i64 0] : Array Value)) (fun o => by simp (disch := (first | ((try simp only [World.size_alloc]) <;> omega) | fail)) only [World.cell?_drew, World.cell?_alloc_at]) (by decide)))).1, (two_c w1 d q (w.heap.size + 1 + 1 + 1 + 1) (w.heap.size + 1 + 1 + 1 + 1 + 1) (by omega) (some_c hb1 _ 11 (by simp) (some_k (cs := (#[.int .i64 0, .int .i64 0, .int .i64 0, .int .i64 0, .int .i64 0, .int .i64 0, .int .i64 0, .int .i64 0, .int .i64 0, .int .i64 0, .int .i64 0] : Array Value)) (fun o => by simp (disch := (first | ((try simp only [World.size_alloc]) <;> omega) | fail)) only [World.cell?_drew, World.cell?_alloc_at, World.cell?_alloc_past]) (by decide))) (some_c hb1 _ 4 (by simp) (some_k (cs := (#[.int .i64 0, .int .i64 0, .int .i64 0, .int .i64 0] : Array Value)) (fun o => by simp (disch := (first | ((try simp only [World.size_alloc]) <;> omega) | fail)) only [World.cell?_drew, World.cell?_alloc_at]) (by decide)))).2, ⟨y0, y1, y2, y3, y4, y5, y6, y7, y8, y9, ya⟩, yc, (by first | (simp; done) | (simp; omega) | omega), ?_⟩
          repeat (first | refine Below.setCell ?_ (by first | (simp; done) | (simp; omega) | omega) _ | refine Below.alloc ?_ (by first | (simp; done) | (simp; omega) | omega) _)
          refine Below.trans ?_ (hb1.mono (by first | (simp; done) | (simp; omega) | omega))
          repeat (first | refine Below.drew ?_ | refine Below.alloc ?_ (by first | (simp; done) | (simp; omega) | omega) _)
          exact Below.refl _ _
      · go_wp2_with fail
        go_meet
        case rel =>
          have hh := (‹_ ∧ _ ∧ _ ∧ _ ∧ _ ∧ _ ∧ _ ∧ _ ∧ _ ∧ _ ∧ _ ∧ _ ∧ _›)
          obtain ⟨y0, y1, y2, y3, y4, y5, y6, y7, y8, y9, ya, yb, yc⟩ := hh
          refine ⟨_, _, rfl, rfl, (by first | (simp; done) | (simp; omega) | omega), (by first | (simp; done) | (simp; omega) | omega), (two_5 w1 d q _ (w.heap.size + 1 + 1 + 1 + 1) (by omega) (some_a hb1 _ _ 4 (by simp) (some_k (cs := (#[.int .i64 0, .int .i64 0, .int .i64 0, .int .i64 0] : Array Value)) (fun o => by simp (disch := (first | ((try simp only [World.size_alloc]) <;> omega) | fail)) only [World.cell?_drew, World.cell?_alloc_at]) (by decide)))).1, (two_5 w1 d q _ (w.heap.size + 1 + 1 + 1 + 1) (by omega) (some_a hb1 _ _ 4 (by simp) (some_k (cs := (#[.int .i64 0, .int .i64 0, .int .i64 0, .int .i64 0] : Array Value)) (fun o => by simp (disch := (first | ((try simp only [World.size_alloc]) <;> omega) | fail)) only [World.cell?_drew, World.cell?_alloc_at]) (by decide)))).2, ⟨y0, y1, y2, y3, y4, y5, y6, y7, y8, y9, ya⟩, yc, (by first | (simp; done) | (simp; omega) | omega), ?_⟩
          repeat (first | refine Below.setCell ?_ (by first | (simp; done) | (simp; omega) | omega) _ | refine Below.alloc ?_ (by first | (simp; done) | (simp; omega) | omega) _)
          refine Below.trans ?_ (hb1.mono (by first | (simp; done) | (simp; omega) | omega))
          repeat (first | refine Below.drew ?_ | refine Below.alloc ?_ (by first | (simp; done) | (simp; omega) | omega) _)
          exact Below.refl _ _
      · go_wp2_with fail
        go_meet
        case rel =>
          have hh := (‹_ ∧ _ ∧ _ ∧ _ ∧ _ ∧ _ ∧ _ ∧ _ ∧ _ ∧ _ ∧ _ ∧ _ ∧ _›)
          obtain ⟨y0, y1, y2, y3, y4, y5, y6, y7, y8, y9, ya, yb, yc⟩ := hh
          refine ⟨_, _, rfl, rfl, (by first | (simp; done) | (simp; omega) | omega), (by first | (simp; done) | (simp; omega) | omega), (two_c w1 d q (w.heap.size + 1 + 1 + 1 + 1 + 1) (w.heap.size + 1 + 1 + 1 + 1) (by omega) (some_c hb1 _ 11 (by simp) (some_k (cs := (#[.int .i64 0, .int .i64 0, .int .i64 0, .int .i64 0, .int .i64 0, .int .i64 0, .int .i64 0, .int .i64 0, .int .i64 0, .int .i64 0, .int .i64 0] : Array Value)) (fun o => by simp (disch := (first | ((try simp only [World.size_alloc]) <;> omega) | fail)) only [World.cell?_drew, World.cell?_alloc_at]) (by decide))) (some_c hb1 _ 4 (by simp) (some_k (cs := (#[.int .i64 0, .int .i64 0, .int .i64 0, .int .i64 0] : Array Value)) (fun o => by simp (disch := (first | ((try simp only [World.size_alloc]) <;> omega) | fail)) only [World.cell?_drew, World.cell?_alloc_at, World.cell?_alloc_past]) (by decide)))).1, (two_c w1 d q (w.heap.size + 1 + 1 + 1 + 1 + 1) (w.heap.size + 1 + 1 + 1 + 1) (by omega) (some_c hb1 _ 11 (by simp) (some_k (cs := (#[.int .i64 0, .int .i64 0, .int .i64 0, .int .i64 0, .int .i64 0, .int .i64 0, .int .i64 0, .int .i64 0, .int .i64 0, .int .i64 0, .int .i64 0] : Array Value)) (fun o => by simp (disch := (first | ((try simp only [World.size_alloc]) <;> omega) | fail)) only [World.cell?_drew, World.cell?_alloc_at]) (by decide))) (some_c hb1 _ 4 (by simp) (some_k (cs := (#[.int .i64 0, .int .i64 0, .int .i64 0, .int .i64 0] : Array Value)) (fun o => by simp (disch := (first | ((try simp only [World.size_alloc]) <;> omega) | fail)) only [World.cell?_drew, World.cell?_alloc_at, World.cell?_alloc_past]) (by decide)))).2, ⟨y0, y1, y2, y3, y4, y5, y6, y7, y8, y9, ya⟩, yc, (by first | (simp; done) | (simp; omega) | omega), ?_⟩
          repeat (first | refine Below.setCell ?_ (by first | (simp; done) | (simp; omega) | omega) _ | refine Below.alloc ?_ (by first | (simp; done) | (simp; omega) | omega) _)
          refine Below.trans ?_ (hb1.mono (by first | (simp; done) | (simp; omega) | omega))
          repeat (first | refine Below.drew ?_ | refine Below.alloc ?_ (by first | (simp; done) | (simp; omega) | omega) _)
          exact Below.refl _ _
    case rest =>
      obtain ⟨bx, br, rfl, rfl, zx, zr, ⟨x0, x1, x2, x3, x4, x5, x6, x7, x8, x9, xa⟩, ⟨r0, r1, r2, r3⟩, ⟨c0, c1, c2, c3, c4, c5, c6, c7, c8, c9, ca⟩, ks, zs, hbl⟩ := hcut
      have zc : w.heap.size + 1 < wc.heap.size := by omega
      have z0 : w.heap.size ≤ wc.heap.size := by omega
      generalize w.heap.size + 1 + 1 + 1 = bs at *
      generalize w.heap.size + 1 = bc at *
      go_upto_region 10 with fail
      go_cut [11, 12] from 45 to 57 (fun s11 s12 wy => ∃ bp bq : Nat, s11 = .pointer (some ⟨bp, 0, none⟩) ∧ s12 = .pointer (some ⟨bq, 0, none⟩) ∧ bp < wy.heap.size ∧ bq < wy.heap.size ∧ (wy.cell? ⟨bp, 0, none⟩ = some (.int .i64 d.r0) ∧ wy.cell? ⟨bp, 1, none⟩ = some (.int .i64 d.r1) ∧ wy.cell? ⟨bp, 2, none⟩ = some (.int .i64 d.r2) ∧ wy.cell? ⟨bp, 3, none⟩ = some (.int .i64 d.r3) ∧ wy.cell? ⟨bp, 4, none⟩ = some (.int .i64 d.r4) ∧ wy.cell? ⟨bp, 5, none⟩ = some (.int .i64 d.r5) ∧ wy.cell? ⟨bp, 6, none⟩ = some (.int .i64 d.r6) ∧ wy.cell? ⟨bp, 7, none⟩ = some (.int .i64 d.r7) ∧ wy.cell? ⟨bp, 8, none⟩ = some (.int .i64 d.pc) ∧ wy.cell? ⟨bp, 9, none⟩ = some (.int .i64 d.st) ∧ wy.cell? ⟨bp, 10, none⟩ = some (.int .i64 d.tr)) ∧ (wy.cell? ⟨bq, 0, none⟩ = some (.int .i64 q.k) ∧ wy.cell? ⟨bq, 1, none⟩ = some (.int .i64 q.a) ∧ wy.cell? ⟨bq, 2, none⟩ = some (.int .i64 q.v) ∧ wy.cell? ⟨bq, 3, none⟩ = some (.int .i64 q.r)) ∧ (wy.cell? ⟨bx, 0, none⟩ = some (.int .i64 d.r0) ∧ wy.cell? ⟨bx, 1, none⟩ = some (.int .i64 d.r1) ∧ wy.cell? ⟨bx, 2, none⟩ = some (.int .i64 d.r2) ∧ wy.cell? ⟨bx, 3, none⟩ = some (.int .i64 d.r3) ∧ wy.cell? ⟨bx, 4, none⟩ = some (.int .i64 d.r4) ∧ wy.cell? ⟨bx, 5, none⟩ = some (.int .i64 d.r5) ∧ wy.cell? ⟨bx, 6, none⟩ = some (.int .i64 d.r6) ∧ wy.cell? ⟨bx, 7, none⟩ = some (.int .i64 d.r7) ∧ wy.cell? ⟨bx, 8, none⟩ = some (.int .i64 d.pc) ∧ wy.cell? ⟨bx, 9, none⟩ = some (.int .i64 d.st) ∧ wy.cell? ⟨bx, 10, none⟩ = some (.int .i64 d.tr)) ∧ (wy.cell? ⟨br, 0, none⟩ = some (.int .i64 q.k) ∧ wy.cell? ⟨br, 1, none⟩ = some (.int .i64 q.a) ∧ wy.cell? ⟨br, 2, none⟩ = some (.int .i64 q.v) ∧ wy.cell? ⟨br, 3, none⟩ = some (.int .i64 q.r)) ∧ w.heap.size ≤ wy.heap.size ∧ Below w.heap.size w wy)
      case first =>
        go_region_held3 (fun w' => w'.cell? ⟨bc, 0, none⟩ = some (.int .i64 c.r0) ∧ w'.cell? ⟨bc, 1, none⟩ = some (.int .i64 c.r1) ∧ w'.cell? ⟨bc, 2, none⟩ = some (.int .i64 c.r2) ∧ w'.cell? ⟨bc, 3, none⟩ = some (.int .i64 c.r3) ∧ w'.cell? ⟨bc, 4, none⟩ = some (.int .i64 c.r4) ∧ w'.cell? ⟨bc, 5, none⟩ = some (.int .i64 c.r5) ∧ w'.cell? ⟨bc, 6, none⟩ = some (.int .i64 c.r6) ∧ w'.cell? ⟨bc, 7, none⟩ = some (.int .i64 c.r7) ∧ w'.cell? ⟨bc, 8, none⟩ = some (.int .i64 c.pc) ∧ w'.cell? ⟨bc, 9, none⟩ = some (.int .i64 c.st) ∧ w'.cell? ⟨bc, 10, none⟩ = some (.int .i64 c.tr) ∧ w'.cell? ⟨bs, j, none⟩ = some (.int .i64 ops) ∧ w'.cell? ⟨bx, 0, none⟩ = some (.int .i64 d.r0) ∧ w'.cell? ⟨bx, 1, none⟩ = some (.int .i64 d.r1) ∧ w'.cell? ⟨bx, 2, none⟩ = some (.int .i64 d.r2) ∧ w'.cell? ⟨bx, 3, none⟩ = some (.int .i64 d.r3) ∧ w'.cell? ⟨bx, 4, none⟩ = some (.int .i64 d.r4) ∧ w'.cell? ⟨bx, 5, none⟩ = some (.int .i64 d.r5) ∧ w'.cell? ⟨bx, 6, none⟩ = some (.int .i64 d.r6) ∧ w'.cell? ⟨bx, 7, none⟩ = some (.int .i64 d.r7) ∧ w'.cell? ⟨bx, 8, none⟩ = some (.int .i64 d.pc) ∧ w'.cell? ⟨bx, 9, none⟩ = some (.int .i64 d.st) ∧ w'.cell? ⟨bx, 10, none⟩ = some (.int .i64 d.tr) ∧ w'.cell? ⟨br, 0, none⟩ = some (.int .i64 q.k) ∧ w'.cell? ⟨br, 1, none⟩ = some (.int .i64 q.a) ∧ w'.cell? ⟨br, 2, none⟩ = some (.int .i64 q.v) ∧ w'.cell? ⟨br, 3, none⟩ = some (.int .i64 q.r)) (first | (refine ⟨?_, ?_, ?_, ?_, ?_, ?_, ?_, ?_, ?_, ?_, ?_, ?_, ?_, ?_, ?_, ?_, ?_, ?_, ?_, ?_, ?_, ?_, ?_, ?_, ?_, ?_, ?_⟩ <;> (simp (disch := (first | ((try simp) <;> omega) | fail)) only [World.cell?_drew] <;> assumption)) | (refine ⟨?_, ?_, ?_, ?_, ?_, ?_, ?_, ?_, ?_, ?_, ?_, ?_, ?_, ?_, ?_, ?_, ?_, ?_, ?_, ?_, ?_, ?_, ?_, ?_, ?_, ?_, ?_⟩ <;> (simp (disch := (first | ((try simp) <;> omega) | fail)) only [World.cell?_drew, World.cell?_alloc_past] <;> assumption)) | (refine ⟨?_, ?_, ?_, ?_, ?_, ?_, ?_, ?_, ?_, ?_, ?_, ?_, ?_, ?_, ?_, ?_, ?_, ?_, ?_, ?_, ?_, ?_, ?_, ?_, ?_, ?_, ?_⟩ <;> (simp (disch := (first | ((try simp) <;> omega) | fail)) only [hc1, World.cell?_drew, World.cell?_alloc_past] <;> assumption)) | (refine ⟨?_, ?_, ?_, ?_, ?_, ?_, ?_, ?_, ?_, ?_, ?_, ?_, ?_, ?_, ?_, ?_, ?_, ?_, ?_, ?_, ?_, ?_, ?_, ?_, ?_, ?_, ?_⟩ <;> (simp (disch := (first | ((try simp) <;> omega) | fail)) only [k_far, hc1, World.cell?_drew, World.cell?_alloc_past] <;> assumption))) (first | (go_at_call 9; refine (start_any c _ _ _ _ _ _).mono ?_; rintro e w1 ⟨rfl, hb1⟩; rw [HE.out, HR.out]; obtain ⟨hc1, hf1⟩ := bcell hb1; have hz1 := hb1.size; simp at hz1; obtain ⟨hca, hfa⟩ := a_old hb1))
        · go_wp2_with fail
          go_meet
          case rel =>
            have hh := (‹_ ∧ _ ∧ _ ∧ _ ∧ _ ∧ _ ∧ _ ∧ _ ∧ _ ∧ _ ∧ _ ∧ _ ∧ _ ∧ _ ∧ _ ∧ _ ∧ _ ∧ _ ∧ _ ∧ _ ∧ _ ∧ _ ∧ _ ∧ _ ∧ _ ∧ _ ∧ _›)
            obtain ⟨y0, y1, y2, y3, y4, y5, y6, y7, y8, y9, y10, y11, y12, y13, y14, y15, y16, y17, y18, y19, y20, y21, y22, y23, y24, y25, y26⟩ := hh
            refine ⟨_, _, rfl, rfl, (by first | (simp; done) | (simp; omega) | omega), (by first | (simp; done) | (simp; omega) | omega), (two_1 _ d q _ _).1, (two_1 _ d q _ _).2, ⟨y12, y13, y14, y15, y16, y17, y18, y19, y20, y21, y22⟩, ⟨y23, y24, y25, y26⟩, (by first | (simp; done) | (simp; omega) | omega), ?_⟩
            repeat (first | refine Below.setCell ?_ (by first | (simp; done) | (simp; omega) | omega) _ | refine Below.alloc ?_ (by first | (simp; done) | (simp; omega) | omega) _)
            refine Below.trans ?_ (hb1.mono (by first | (simp; done) | (simp; omega) | omega))
            repeat (first | refine Below.drew ?_ | refine Below.alloc ?_ (by first | (simp; done) | (simp; omega) | omega) _)
            exact hbl
        · go_wp2_with fail
          go_meet
          case rel =>
            have hh := (‹_ ∧ _ ∧ _ ∧ _ ∧ _ ∧ _ ∧ _ ∧ _ ∧ _ ∧ _ ∧ _ ∧ _ ∧ _ ∧ _ ∧ _ ∧ _ ∧ _ ∧ _ ∧ _ ∧ _ ∧ _ ∧ _ ∧ _ ∧ _ ∧ _ ∧ _ ∧ _›)
            obtain ⟨y0, y1, y2, y3, y4, y5, y6, y7, y8, y9, y10, y11, y12, y13, y14, y15, y16, y17, y18, y19, y20, y21, y22, y23, y24, y25, y26⟩ := hh
            refine ⟨_, _, rfl, rfl, (by first | (simp; done) | (simp; omega) | omega), (by first | (simp; done) | (simp; omega) | omega), (two_2 _ d q _ _).1, (two_2 _ d q _ _).2, ⟨y12, y13, y14, y15, y16, y17, y18, y19, y20, y21, y22⟩, ⟨y23, y24, y25, y26⟩, (by first | (simp; done) | (simp; omega) | omega), ?_⟩
            repeat (first | refine Below.setCell ?_ (by first | (simp; done) | (simp; omega) | omega) _ | refine Below.alloc ?_ (by first | (simp; done) | (simp; omega) | omega) _)
            refine Below.trans ?_ (hb1.mono (by first | (simp; done) | (simp; omega) | omega))
            repeat (first | refine Below.drew ?_ | refine Below.alloc ?_ (by first | (simp; done) | (simp; omega) | omega) _)
            exact hbl
        · go_wp2_with fail
          go_meet
          case rel =>
            have hh := (‹_ ∧ _ ∧ _ ∧ _ ∧ _ ∧ _ ∧ _ ∧ _ ∧ _ ∧ _ ∧ _ ∧ _ ∧ _ ∧ _ ∧ _ ∧ _ ∧ _ ∧ _ ∧ _ ∧ _ ∧ _ ∧ _ ∧ _ ∧ _ ∧ _ ∧ _ ∧ _›)
            obtain ⟨y0, y1, y2, y3, y4, y5, y6, y7, y8, y9, y10, y11, y12, y13, y14, y15, y16, y17, y18, y19, y20, y21, y22, y23, y24, y25, y26⟩ := hh
            refine ⟨_, _, rfl, rfl, (by first | (simp; done) | (simp; omega) | omega), (by first | (simp; done) | (simp; omega) | omega), (two_c (w1.alloc _) d q wc.heap.size w1.heap.size (by omega) (some_a hb1 _ _ 11 (by first | (simp; done) | (simp; omega) | omega) (some_k (cs := (#[.int .i64 0, .int .i64 0, .int .i64 0, .int .i64 0, .int .i64 0, .int .i64 0, .int .i64 0, .int .i64 0, .int .i64 0, .int .i64 0, .int .i64 0] : Array Value)) (fun o => by simp (disch := (first | ((try simp only [World.size_alloc]) <;> omega) | fail)) only [World.cell?_drew, World.cell?_alloc_at]) (by decide))) (some_n w1 _ _ 4 (by first | (simp; done) | (simp; omega) | omega))).1, (two_c (w1.alloc _) d q wc.heap.size w1.heap.size (by omega) (some_a hb1 _ _ 11 (by first | (simp; done) | (simp; omega) | omega) (some_k (cs := (#[.int .i64 0, .int .i64 0, .int .i64 0, .int .i64 0, .int .i64 0, .int .i64 0, .int .i64 0, .int .i64 0, .int .i64 0, .int .i64 0, .int .i64 0] : Array Value)) (fun o => by simp (disch := (first | ((try simp only [World.size_alloc]) <;> omega) | fail)) only [World.cell?_drew, World.cell?_alloc_at]) (by decide))) (some_n w1 _ _ 4 (by first | (simp; done) | (simp; omega) | omega))).2, ⟨y12, y13, y14, y15, y16, y17, y18, y19, y20, y21, y22⟩, ⟨y23, y24, y25, y26⟩, (by first | (simp; done) | (simp; omega) | omega), ?_⟩
            repeat (first | refine Below.setCell ?_ (by first | (simp; done) | (simp; omega) | omega) _ | refine Below.alloc ?_ (by first | (simp; done) | (simp; omega) | omega) _)
            refine Below.trans ?_ (hb1.mono (by first | (simp; done) | (simp; omega) | omega))
            repeat (first | refine Below.drew ?_ | refine Below.alloc ?_ (by first | (simp; done) | (simp; omega) | omega) _)
            exact hbl
        · go_wp2_with fail
          go_meet
          case rel =>
            have hh := (‹_ ∧ _ ∧ _ ∧ _ ∧ _ ∧ _ ∧ _ ∧ _ ∧ _ ∧ _ ∧ _ ∧ _ ∧ _ ∧ _ ∧ _ ∧ _ ∧ _ ∧ _ ∧ _ ∧ _ ∧ _ ∧ _ ∧ _ ∧ _ ∧ _ ∧ _ ∧ _›)
            obtain ⟨y0, y1, y2, y3, y4, y5, y6, y7, y8, y9, y10, y11, y12, y13, y14, y15, y16, y17, y18, y19, y20, y21, y22, y23, y24, y25, y26⟩ := hh
            refine ⟨_, _, rfl, rfl, (by first | (simp; done) | (simp; omega) | omega), (by first | (simp; done) | (simp; omega) | omega), (two_c w1 d q wc.heap.size (wc.heap.size + 1) (by omega) (some_c hb1 _ 11 (by first | (simp; done) | (simp; omega) | omega) (some_k (cs := (#[.int .i64 0, .int .i64 0, .int .i64 0, .int .i64 0, .int .i64 0, .int .i64 0, .int .i64 0, .int .i64 0, .int .i64 0, .int .i64 0, .int .i64 0] : Array Value)) (fun o => by simp (disch := (first | ((try simp only [World.size_alloc]) <;> omega) | fail)) only [World.cell?_drew, World.cell?_alloc_at, World.cell?_alloc_past]) (by decide))) (some_c hb1 _ 4 (by first | (simp; done) | (simp; omega) | omega) (some_k (cs := (#[.int .i64 0, .int .i64 0, .int .i64 0, .int .i64 0] : Array Value)) (fun o => by simp (disch := (first | ((try simp only [World.size_alloc]) <;> omega) | fail)) only [World.cell?_drew, World.cell?_alloc_at]) (by decide)))).1, (two_c w1 d q wc.heap.size (wc.heap.size + 1) (by omega) (some_c hb1 _ 11 (by first | (simp; done) | (simp; omega) | omega) (some_k (cs := (#[.int .i64 0, .int .i64 0, .int .i64 0, .int .i64 0, .int .i64 0, .int .i64 0, .int .i64 0, .int .i64 0, .int .i64 0, .int .i64 0, .int .i64 0] : Array Value)) (fun o => by simp (disch := (first | ((try simp only [World.size_alloc]) <;> omega) | fail)) only [World.cell?_drew, World.cell?_alloc_at, World.cell?_alloc_past]) (by decide))) (some_c hb1 _ 4 (by first | (simp; done) | (simp; omega) | omega) (some_k (cs := (#[.int .i64 0, .int .i64 0, .int .i64 0, .int .i64 0] : Array Value)) (fun o => by simp (disch := (first | ((try simp only [World.size_alloc]) <;> omega) | fail)) only [World.cell?_drew, World.cell?_alloc_at]) (by decide)))).2, ⟨y12, y13, y14, y15, y16, y17, y18, y19, y20, y21, y22⟩, ⟨y23, y24, y25, y26⟩, (by first | (simp; done) | (simp; omega) | omega), ?_⟩
            repeat (first | refine Below.setCell ?_ (by first | (simp; done) | (simp; omega) | omega) _ | refine Below.alloc ?_ (by first | (simp; done) | (simp; omega) | omega) _)
            refine Below.trans ?_ (hb1.mono (by first | (simp; done) | (simp; omega) | omega))
            repeat (first | refine Below.drew ?_ | refine Below.alloc ?_ (by first | (simp; done) | (simp; omega) | omega) _)
            exact hbl
        · go_wp2_with fail
          go_meet
          case rel =>
            have hh := (‹_ ∧ _ ∧ _ ∧ _ ∧ _ ∧ _ ∧ _ ∧ _ ∧ _ ∧ _ ∧ _ ∧ _ ∧ _ ∧ _ ∧ _ ∧ _ ∧ _ ∧ _ ∧ _ ∧ _ ∧ _ ∧ _ ∧ _ ∧ _ ∧ _ ∧ _ ∧ _›)
            obtain ⟨y0, y1, y2, y3, y4, y5, y6, y7, y8, y9, y10, y11, y12, y13, y14, y15, y16, y17, y18, y19, y20, y21, y22, y23, y24, y25, y26⟩ := hh
            refine ⟨_, _, rfl, rfl, (by first | (simp; done) | (simp; omega) | omega), (by first | (simp; done) | (simp; omega) | omega), (two_5 w1 d q _ wc.heap.size (by omega) (some_a hb1 _ _ 4 (by first | (simp; done) | (simp; omega) | omega) (some_k (cs := (#[.int .i64 0, .int .i64 0, .int .i64 0, .int .i64 0] : Array Value)) (fun o => by simp (disch := (first | ((try simp only [World.size_alloc]) <;> omega) | fail)) only [World.cell?_drew, World.cell?_alloc_at]) (by decide)))).1, (two_5 w1 d q _ wc.heap.size (by omega) (some_a hb1 _ _ 4 (by first | (simp; done) | (simp; omega) | omega) (some_k (cs := (#[.int .i64 0, .int .i64 0, .int .i64 0, .int .i64 0] : Array Value)) (fun o => by simp (disch := (first | ((try simp only [World.size_alloc]) <;> omega) | fail)) only [World.cell?_drew, World.cell?_alloc_at]) (by decide)))).2, ⟨y12, y13, y14, y15, y16, y17, y18, y19, y20, y21, y22⟩, ⟨y23, y24, y25, y26⟩, (by first | (simp; done) | (simp; omega) | omega), ?_⟩
            repeat (first | refine Below.setCell ?_ (by first | (simp; done) | (simp; omega) | omega) _ | refine Below.alloc ?_ (by first | (simp; done) | (simp; omega) | omega) _)
            refine Below.trans ?_ (hb1.mono (by first | (simp; done) | (simp; omega) | omega))
            repeat (first | refine Below.drew ?_ | refine Below.alloc ?_ (by first | (simp; done) | (simp; omega) | omega) _)
            exact hbl
        · go_wp2_with fail
          go_meet
          case rel =>
            have hh := (‹_ ∧ _ ∧ _ ∧ _ ∧ _ ∧ _ ∧ _ ∧ _ ∧ _ ∧ _ ∧ _ ∧ _ ∧ _ ∧ _ ∧ _ ∧ _ ∧ _ ∧ _ ∧ _ ∧ _ ∧ _ ∧ _ ∧ _ ∧ _ ∧ _ ∧ _ ∧ _›)
            obtain ⟨y0, y1, y2, y3, y4, y5, y6, y7, y8, y9, y10, y11, y12, y13, y14, y15, y16, y17, y18, y19, y20, y21, y22, y23, y24, y25, y26⟩ := hh
            refine ⟨_, _, rfl, rfl, (by first | (simp; done) | (simp; omega) | omega), (by first | (simp; done) | (simp; omega) | omega), (two_c w1 d q (wc.heap.size + 1) wc.heap.size (by omega) (some_c hb1 _ 11 (by first | (simp; done) | (simp; omega) | omega) (some_k (cs := (#[.int .i64 0, .int .i64 0, .int .i64 0, .int .i64 0, .int .i64 0, .int .i64 0, .int .i64 0, .int .i64 0, .int .i64 0, .int .i64 0, .int .i64 0] : Array Value)) (fun o => by simp (disch := (first | ((try simp only [World.size_alloc]) <;> omega) | fail)) only [World.cell?_drew, World.cell?_alloc_at]) (by decide))) (some_c hb1 _ 4 (by first | (simp; done) | (simp; omega) | omega) (some_k (cs := (#[.int .i64 0, .int .i64 0, .int .i64 0, .int .i64 0] : Array Value)) (fun o => by simp (disch := (first | ((try simp only [World.size_alloc]) <;> omega) | fail)) only [World.cell?_drew, World.cell?_alloc_at, World.cell?_alloc_past]) (by decide)))).1, (two_c w1 d q (wc.heap.size + 1) wc.heap.size (by omega) (some_c hb1 _ 11 (by first | (simp; done) | (simp; omega) | omega) (some_k (cs := (#[.int .i64 0, .int .i64 0, .int .i64 0, .int .i64 0, .int .i64 0, .int .i64 0, .int .i64 0, .int .i64 0, .int .i64 0, .int .i64 0, .int .i64 0] : Array Value)) (fun o => by simp (disch := (first | ((try simp only [World.size_alloc]) <;> omega) | fail)) only [World.cell?_drew, World.cell?_alloc_at]) (by decide))) (some_c hb1 _ 4 (by first | (simp; done) | (simp; omega) | omega) (some_k (cs := (#[.int .i64 0, .int .i64 0, .int .i64 0, .int .i64 0] : Array Value)) (fun o => by simp (disch := (first | ((try simp only [World.size_alloc]) <;> omega) | fail)) only [World.cell?_drew, World.cell?_alloc_at, World.cell?_alloc_past]) (by decide)))).2, ⟨y12, y13, y14, y15, y16, y17, y18, y19, y20, y21, y22⟩, ⟨y23, y24, y25, y26⟩, (by first | (simp; done) | (simp; omega) | omega), ?_⟩
            repeat (first | refine Below.setCell ?_ (by first | (simp; done) | (simp; omega) | omega) _ | refine Below.alloc ?_ (by first | (simp; done) | (simp; omega) | omega) _)
            refine Below.trans ?_ (hb1.mono (by first | (simp; done) | (simp; omega) | omega))
            repeat (first | refine Below.drew ?_ | refine Below.alloc ?_ (by first | (simp; done) | (simp; omega) | omega) _)
            exact hbl
      case rest =>
        obtain ⟨bp, bq, rfl, rfl, zp, zq, ⟨p0, p1, p2, p3, p4, p5, p6, p7, p8, p9, pa⟩, ⟨q0, q1, q2, q3⟩, ⟨u0, u1, u2, u3, u4, u5, u6, u7, u8, u9, ua⟩, ⟨t0, t1, t2, t3⟩, z1, hbl2⟩ := hcut
        clear x0 x1 x2 x3 x4 x5 x6 x7 x8 x9 xa r0 r1 r2 r3 c0 c1 c2 c3 c4 c5 c6 c7 c8 c9 ca ks
        go_wp2_with (go_at_call 11; refine (live_any _).mono ?_; rintro e w3 ⟨rfl, hb3⟩)
        go_ret
        exact ⟨rfl, hbl2.trans (hb3.mono (by first | (simp; done) | (simp; omega) | omega))⟩

end Go.Proofs.Ytnfkklpionbnoaa

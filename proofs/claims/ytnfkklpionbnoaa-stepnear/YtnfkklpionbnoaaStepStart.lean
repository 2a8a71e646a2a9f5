/- Start. -/
import Derived.Test.YtnfkklpionbnoaaStepAsked
import Derived.Test.YtnfkklpionbnoaaStepTurned
import Derived.Test.YtnfkklpionbnoaaStepTurnedB
import Derived.Test.YtnfkklpionbnoaaStepTurnedC
import Derived.Test.YtnfkklpionbnoaaStepTurnedD
import Derived.Test.YtnfkklpionbnoaaStepTurnedE
namespace Go.Proofs.Ytnfkklpionbnoaa
open Go.RowKit
set_option linter.unusedVariables false
attribute [local go_sem ↓] Go.wp_at_zero Go.wp_at_succ

theorem turned_2 (c : S.C) (a b : Nat) (ha : a < 8) (hb : b < 8) (n next : Int) (w : World) :
    Calls Try.prog 16 #[c.v, S.insV 2 a b n, .int .i64 next, .func (.func 15) #[.agg c.regs] #[]] w fun e w' => e = .returned (S.turned c 2 a b n next).v ∧ Below w.heap.size w w' := by
  have hj : S.jumps c 2 a = false := S.jumps_no (by omega) (by omega) (by omega)
  rw [S.turned_stay (by omega) (by omega) hj]
  rcases (show a = 0 ∨ a = 1 ∨ a = 2 ∨ a = 3 ∨ a = 4 ∨ a = 5 ∨ a = 6 ∨ a = 7 by omega) with rfl | rfl | rfl | rfl | rfl | rfl | rfl | rfl
  · exact turned_2_0 c b hb n next w
  · exact turned_2_1 c b hb n next w
  · exact turned_2_2 c b hb n next w
  · exact turned_2_3 c b hb n next w
  · exact turned_2_4 c b hb n next w
  · exact turned_2_5 c b hb n next w
  · exact turned_2_6 c b hb n next w
  · exact turned_2_7 c b hb n next w

theorem turned_any (c : S.C) (op : Int) (a b : Nat) (ha : a < 8) (hb : b < 8) (n next : Int) (w : World) :
    Calls Try.prog 16 #[c.v, S.insV op a b n, .int .i64 next, .func (.func 15) #[.agg c.regs] #[]] w fun e w' => e = .returned (S.turned c op a b n next).v ∧ Below w.heap.size w w' := by
  by_cases h33 : op = 33
  · subst h33; exact turned_33 c a b ha hb n next w
  by_cases hc : 3 ≤ op ∧ op ≤ 16
  · exact turned_comp c op hc a b ha hb n next w
  by_cases h1 : op = 1
  · subst h1; exact turned_1 c a b ha hb n next w
  by_cases h19 : op = 19
  · subst h19; exact turned_19 c a b ha hb n next w
  by_cases h2 : op = 2
  · subst h2; exact turned_2 c a b ha hb n next w
  by_cases h23 : op = 23
  · subst h23; exact turned_23 c a b ha hb n next w
  by_cases h24 : op = 24
  · subst h24; exact turned_24 c a b ha hb n next w
  by_cases h32 : op = 32
  · subst h32; exact turned_32 c a b ha hb n next w
  exact turned_no c op (by omega) h33 hc a b ha hb n next w

set_option maxHeartbeats 4000000 in
theorem start_not (c : S.C) (op a b n size : Int) (h : ¬ c.st = 0) (w : World) :
    Calls Try.prog 9 #[c.v, S.insV op a b n, .int .i64 size] w fun e w' => e = .returned (.tuple #[c.v, S.Q.w ⟨0, 0, 0, 0⟩]) ∧ Below w.heap.size w w' := by
  go_enter Try.func9, Try.ntmps9
  go_wp2
  exact bodyPost_ret (v := .tuple #[c.v, S.Q.w ⟨0, 0, 0, 0⟩]) (by simp [results, Try.results9, go_sem]) rfl ⟨rfl, bl4 _ _ _ _ _⟩

set_option maxHeartbeats 4000000 in
theorem start_unknown (c : S.C) (op a b n size : Int) (h : (c.st != 0) = false) (hk : S.known op a b = false) (w : World) :
    Calls Try.prog 9 #[c.v, S.insV op a b n, .int .i64 size] w fun e w' => e = .returned (.tuple #[c.v, S.Q.w ⟨0, 0, 0, 0⟩]) ∧ Below w.heap.size w w' := by
  go_enter Try.func9, Try.ntmps9
  go_wp2_with (go_at_call 14; refine (known_any _ _ _ _ _).mono ?_; rintro e w' ⟨rfl, rfl⟩)
  refine bodyPost_ret (v := .tuple #[c.v, S.Q.w ⟨0, 0, 0, 0⟩]) (by simp [results, Try.results9, go_sem]) rfl ⟨rfl, ?_⟩
  first | exact bl5 _ _ _ _ _ _ | exact (bl4 _ _ _ _ _).drew | exact (bl5 _ _ _ _ _ _).drew

theorem S.known_b {op a b : Int} (h : S.known op a b = true) : 0 ≤ a ∧ a < 8 ∧ 0 ≤ b ∧ b < 8 := by
  have := of_decide_eq_true h; omega

theorem k_far (w : World) (b o b' o' : Nat) (u : Value) (h : b ≠ b') : (w.setCell ⟨b, o, none⟩ u).cell? ⟨b', o', none⟩ = w.cell? ⟨b', o', none⟩ :=
  World.cell?_of_block (w := w) (Below.heap_setCell w ⟨b, o, none⟩ u b' (Ne.symm h))

set_option maxHeartbeats 8000000 in
theorem start_known (c : S.C) (op : Int) (a b : Nat) (ha : a < 8) (hb : b < 8) (n size : Int) (h : (c.st != 0) = false) (hk : S.known op a b = true) (w : World) :
    Calls Try.prog 9 #[c.v, S.insV op a b n, .int .i64 size] w fun e w' => e = .returned (.tuple #[(S.turned c op a b n (wrap64 (c.pc + size))).v, (S.asked c op a b n (wrap64 (c.pc + size))).w]) ∧ Below w.heap.size w w' := by
  obtain ⟨d, hd⟩ : ∃ d, S.turned c op a b n (wrap64 (c.pc + size)) = d := ⟨_, rfl⟩
  have HD : Hid (S.turned c op a b n (wrap64 (c.pc + size)) = d) := hd
  obtain ⟨q, hq⟩ : ∃ q, S.asked c op a b n (wrap64 (c.pc + size)) = q := ⟨_, rfl⟩
  have HQ : Hid (S.asked c op a b n (wrap64 (c.pc + size)) = q) := hq
  rw [hd, hq]
  clear hd hq
  have hmf : ∀ (fn : Fn) (first cap : Array Value) (w : World), (Instr.makeFunc fn first cap).run Try.prog w = .ok (.func fn first cap) w := fun _ _ _ _ => rfl
  go_enter Try.func9, Try.ntmps9
  go_wp2_with (go_at_call 14; refine (known_any _ _ _ _ _).mono ?_; rintro e w' ⟨rfl, rfl⟩)
  go_region_held3 (fun w' => w'.cell? ⟨w.heap.size, 0, none⟩ = some (.int .i64 c.r0) ∧ w'.cell? ⟨w.heap.size, 1, none⟩ = some (.int .i64 c.r1) ∧ w'.cell? ⟨w.heap.size, 2, none⟩ = some (.int .i64 c.r2) ∧ w'.cell? ⟨w.heap.size, 3, none⟩ = some (.int .i64 c.r3) ∧ w'.cell? ⟨w.heap.size, 4, none⟩ = some (.int .i64 c.r4) ∧ w'.cell? ⟨w.heap.size, 5, none⟩ = some (.int .i64 c.r5) ∧ w'.cell? ⟨w.heap.size, 6, none⟩ = some (.int .i64 c.r6) ∧ w'.cell? ⟨w.heap.size, 7, none⟩ = some (.int .i64 c.r7) ∧ w'.cell? ⟨w.heap.size, 8, none⟩ = some (.int .i64 c.pc) ∧ w'.cell? ⟨w.heap.size, 9, none⟩ = some (.int .i64 c.st) ∧ w'.cell? ⟨w.heap.size, 10, none⟩ = some (.int .i64 c.tr) ∧ w'.cell? ⟨w.heap.size + 1, 0, none⟩ = some (.int .i64 op) ∧ w'.cell? ⟨w.heap.size + 1, 1, none⟩ = some (.int .i64 a) ∧ w'.cell? ⟨w.heap.size + 1, 2, none⟩ = some (.int .i64 b) ∧ w'.cell? ⟨w.heap.size + 1, 3, none⟩ = some (.int .i64 n)) (first | (refine ⟨?_, ?_, ?_, ?_, ?_, ?_, ?_, ?_, ?_, ?_, ?_, ?_, ?_, ?_, ?_⟩ <;> (simp (disch := (first | ((try simp) <;> omega) | fail)) only [World.cell?_drew, World.cell?_alloc_at, World.cell?_alloc_past] <;> rfl)) | (refine ⟨?_, ?_, ?_, ?_, ?_, ?_, ?_, ?_, ?_, ?_, ?_, ?_, ?_, ?_, ?_⟩ <;> (simp (disch := (first | ((try simp) <;> omega) | fail)) only [hc1, World.cell?_drew, World.cell?_alloc_at, World.cell?_alloc_past] <;> rfl)) | (refine ⟨?_, ?_, ?_, ?_, ?_, ?_, ?_, ?_, ?_, ?_, ?_, ?_, ?_, ?_, ?_⟩ <;> (simp (disch := (first | ((try simp) <;> omega) | fail)) only [hc2, hc1, World.cell?_drew, World.cell?_alloc_at, World.cell?_alloc_past] <;> rfl)) | (refine ⟨?_, ?_, ?_, ?_, ?_, ?_, ?_, ?_, ?_, ?_, ?_, ?_, ?_, ?_, ?_⟩ <;> (simp (disch := (first | ((try simp) <;> omega) | fail)) only [k_far, hc2, hc1, World.cell?_drew, World.cell?_alloc_at, World.cell?_alloc_past] <;> rfl))) (first | (go_at_call 16; refine (turned_any c _ _ _ ?_ ?_ _ _ _).mono ?_; assumption; assumption; rintro e w1 ⟨rfl, hb1⟩; rw [HD.out]; obtain ⟨hc1, hf1⟩ := bcell hb1; have hz1 := hb1.size; simp at hz1) | (go_at_call 17; refine (asked_any c _ _ _ ?_ ?_ _ _ _).mono ?_; assumption; assumption; rintro e w2 ⟨rfl, hb2⟩; rw [HQ.out]; obtain ⟨hc2, hf2⟩ := bcell hb2; have hz2 := hb2.size; have k2 := fun o => (hc2 (w.heap.size + 1 + 1) o (by omega)).trans (hc1 (w.heap.size + 1 + 1) o (by simp)); have f2 := fun o => (hf2 (w.heap.size + 1 + 1) o (by omega)).trans (hf1 (w.heap.size + 1 + 1) o (by simp)); have k3 := fun o => (hc2 (w.heap.size + 1 + 1 + 1) o (by omega)).trans (hc1 (w.heap.size + 1 + 1 + 1) o (by simp)); have f3 := fun o => (hf2 (w.heap.size + 1 + 1 + 1) o (by omega)).trans (hf1 (w.heap.size + 1 + 1 + 1) o (by simp))))
  all_goals
    go_wp2
    refine bodyPost_ret (v := .tuple #[d.v, q.w]) (by simp [results, Try.results9, go_sem, k2, k3]) rfl ⟨rfl, ?_⟩
    repeat (refine Below.setCell ?_ (by simp; omega) _)
    exact ((bl5 _ _ _ _ _ _).drew.trans (hb1.mono (by simp; omega))).trans (hb2.mono (by omega))

theorem start_any (c : S.C) (op a b n size : Int) (w : World) :
    Calls Try.prog 9 #[c.v, S.insV op a b n, .int .i64 size] w fun e w' => e = .returned (.tuple #[(S.startC c op a b n size).v, (S.startQ c op a b n size).w]) ∧ Below w.heap.size w w' := by
  by_cases hs : c.st = 0
  · cases hk : S.known op a b with
    | false =>
      have hd : S.does c op a b = false := by unfold S.does; rw [hk]; simp
      unfold S.startC S.startQ
      rw [if_neg (by rw [hd]; decide), if_neg (by rw [hd]; decide)]
      exact start_unknown c op a b n size (by simp [hs]) hk w
    | true =>
      have hd : S.does c op a b = true := by unfold S.does; rw [hk, decide_eq_true hs]; rfl
      have hb := S.known_b hk
      unfold S.startC S.startQ
      rw [if_pos hd, if_pos hd]
      obtain ⟨x, rfl⟩ : ∃ x : Nat, a = x := ⟨a.toNat, by omega⟩
      obtain ⟨y, rfl⟩ : ∃ y : Nat, b = y := ⟨b.toNat, by omega⟩
      exact start_known c op x y (by omega) (by omega) n size (by simp [hs]) hk w
  · have hd : S.does c op a b = false := by unfold S.does; rw [decide_eq_false hs]; rfl
    unfold S.startC S.startQ
    rw [if_neg (by rw [hd]; decide), if_neg (by rw [hd]; decide)]
    exact start_not c op a b n size hs w

end Go.Proofs.Ytnfkklpionbnoaa

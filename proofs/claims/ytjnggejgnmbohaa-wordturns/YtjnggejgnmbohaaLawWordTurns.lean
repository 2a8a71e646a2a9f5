/- Proved: WordTurns answers true for every two numbers (no condition): sums, products and the like are the same in either order, a difference and a sum turn each other back, less and not above are each other's opposite; and the given answers of the layer stand. -/
import Derived.Test.YtjnggejgnmbohaaRows
import Derived.WalkKit
import Derived.ProofKit
import Derived.OpenShut
import Derived.ShutString
import Derived.ChangeOld
import Derived.Below
import Derived.Test.YtjnggejgnmbohaaWordLive
namespace Go.Proofs.Ytjnggejgnmbohaa.wordTurns
open Go.ChangeShapes Go.WideShapes Go.ChangeAt Go.RowKit
open Go.ChangeMaps (open_string shut_string)
set_option linter.unusedVariables false      -- a walk need not use every 'w<i>' (that an integer argument fits its kind)

theorem own : ownKnob Try.prog.godebug = none := by kernel_rfl

theorem turns (op a b : Int) (h : op = 3 ∨ op = 5 ∨ op = 8 ∨ op = 9 ∨ op = 10 ∨ op = 13 ∨ op = 14) : W.bin op a b = W.bin op b a ∧ W.binE op b = 0 ∧ W.binE op a = 0 := by
  rcases h with rfl | rfl | rfl | rfl | rfl | rfl | rfl
  · refine ⟨?_, by simp [W.binE], by simp [W.binE]⟩; simp [W.bin, Int.add_comm]
  · refine ⟨?_, by simp [W.binE], by simp [W.binE]⟩; simp [W.bin, Int.mul_comm]
  · refine ⟨?_, by simp [W.binE], by simp [W.binE]⟩; simp [W.bin, W.bits_comm_and a b]
  · refine ⟨?_, by simp [W.binE], by simp [W.binE]⟩; simp [W.bin, W.bits_comm_or a b]
  · refine ⟨?_, by simp [W.binE], by simp [W.binE]⟩; simp [W.bin, W.bits_comm_xor a b]
  · refine ⟨?_, by simp [W.binE], by simp [W.binE]⟩
    simp only [W.bin]
    simp
    rw [show (a == b) = (b == a) by rw [Bool.eq_iff_iff]; simp; omega]
  · refine ⟨?_, by simp [W.binE], by simp [W.binE]⟩
    simp only [W.bin]
    simp
    rw [show (a != b) = (b != a) by rw [Bool.eq_iff_iff]; simp; omega]

/-- The seven instructions. -/
def opsL : List Int := [3, 5, 8, 9, 10, 13, 14]
theorem opsL_at (k : Nat) (h : k < 7) : ∃ op : Int, opsL.getD k 0 = op ∧ (op = 3 ∨ op = 5 ∨ op = 8 ∨ op = 9 ∨ op = 10 ∨ op = 13 ∨ op = 14) := by
  rcases (show k = 0 ∨ k = 1 ∨ k = 2 ∨ k = 3 ∨ k = 4 ∨ k = 5 ∨ k = 6 by omega) with rfl | rfl | rfl | rfl | rfl | rfl | rfl <;> exact ⟨_, rfl, by decide⟩

theorem cells7 (w : World) (k : Nat) (h : k < 7) : (w.alloc (.cells #[.int .i64 3, .int .i64 5, .int .i64 8, .int .i64 9, .int .i64 10, .int .i64 13, .int .i64 14] 3)).cell? ⟨w.heap.size, k, none⟩ = some (.int .i64 (opsL.getD k 0)) := by
  rcases (show k = 0 ∨ k = 1 ∨ k = 2 ∨ k = 3 ∨ k = 4 ∨ k = 5 ∨ k = 6 by omega) with rfl | rfl | rfl | rfl | rfl | rfl | rfl <;> simp [opsL]

theorem sub_add (a b : Int) (ha : (Lit.int .i64 a).wf = true) : W.bin 3 (W.bin 4 a b) b = a := by
  simp [Lit.wf, IntKind.min, IntKind.max, IntKind.signed, IntKind.bits] at ha
  simp [W.bin]
  unfold wrap64
  omega

theorem lt_le (a b : Int) : W.bin 15 a b + W.bin 16 b a = 1 := by
  by_cases h : a < b
  · have : ¬ b ≤ a := by omega
    simp [W.bin, W.tr, h, this]
  · have : b ≤ a := by omega
    simp [W.bin, W.tr, h, this]
theorem tr_bd (a b : Int) : 0 ≤ W.bin 15 a b ∧ W.bin 15 a b ≤ 1 ∧ 0 ≤ W.bin 16 a b ∧ W.bin 16 a b ≤ 1 := by
  simp only [W.bin, W.tr]
  simp
  omega

/-! ### THE WALK: the Go text returns true. 'Grown w w'': the world has at most new blocks (Derived/RowKit3.lean). Part the cases AHEAD of 'go_enter' where a test parts the walk; take each callee by a contract of your own. -/
set_option maxRecDepth 100000 in
set_option maxHeartbeats 1000000 in
theorem walk (a0 : Int) (a1 : Int) (w0 : (Lit.int .i64 a0).wf = true) (w1 : (Lit.int .i64 a1).wf = true) (w : World) :
    Calls Try.prog 3 #[.int .i64 a0, .int .i64 a1] w fun e w' => e = .returned (.bool true) ∧ Below w.heap.size w w' := by
  go_enter Try.func3, Try.ntmps3
  go_wp2
  go_loopw [6] (fun i wr => ∃ k : Nat, k ≤ 7 ∧ i = .int .i64 k ∧ (∀ j, j < 7 → wr.cell? ⟨w.heap.size, j, none⟩ = some (.int .i64 (opsL.getD j 0))) ∧ Below w.heap.size w wr) (fun i _ => 7 - (intOf i).toNat)
  case atStart => exact ⟨0, by omega, rfl, fun j hj => cells7 w j hj, (Below.refl _ _).alloc (Nat.le_refl _) _⟩
  case round =>
    obtain ⟨k, hk, rfl, hc, hb⟩ := hrel
    by_cases hlt : k < 7
    · obtain ⟨op, hop, hin⟩ := opsL_at k hlt
      have hck := hc k hlt
      rw [hop] at hck
      have HC : Hid _ := hc
      have HT : Hid _ := turns op a0 a1 hin
      clear hc hin hop
      go_wp2_with fail
      refine (bin_any op a0 a1 _).mono ?_
      rintro e x1 ⟨rfl, rfl⟩
      rw [HT.out.2.1]
      go_wp2_with fail
      refine (bin_any op a1 a0 _).mono ?_
      rintro e x2 ⟨rfl, rfl⟩
      rw [HT.out.2.2, ← HT.out.1]
      go_wp2
      go_roundw
      case rel => exact ⟨k + 1, by omega, by go_num, HC.out, hb⟩
      case measure => simp [intOf]; omega
    · clear hc
      have HS : Hid _ := sub_add a0 a1 w0
      have HL : Hid _ := lt_le a0 a1
      go_wp2_with fail
      refine (bin_any 4 a0 a1 _).mono ?_
      rintro e x1 ⟨rfl, rfl⟩
      rw [show W.binE 4 a1 = 0 by simp [W.binE]]
      go_wp2_with fail
      refine (bin_any 3 _ a1 _).mono ?_
      rintro e x2 ⟨rfl, rfl⟩
      rw [show W.binE 3 a1 = 0 by simp [W.binE], HS.out]
      go_wp2_with fail
      refine (bin_any 15 a0 a1 _).mono ?_
      rintro e x3 ⟨rfl, rfl⟩
      rw [show W.binE 15 a1 = 0 by simp [W.binE]]
      go_wp2_with fail
      refine (bin_any 16 a1 a0 _).mono ?_
      rintro e x4 ⟨rfl, rfl⟩
      rw [show W.binE 16 a0 = 0 by simp [W.binE]]
      have hl := lt_le a0 a1
      have hb1 := tr_bd a0 a1
      have hb2 := tr_bd a1 a0
      generalize W.bin 15 a0 a1 = p at *
      generalize W.bin 16 a1 a0 = q at *
      go_wp2_with fail
      refine (live_any _).mono ?_
      rintro e x5 ⟨rfl, h5⟩
      go_wp2
      go_ret
      exact ⟨rfl, hb.trans (h5.mono hb.size)⟩

/-! ### THE ROW's STEP: WRITTEN OUT: LEAVE IT -/
set_option maxRecDepth 100000 in
theorem lifted (os : Os) (started : os.Started) (H : Type) (enc : TypeId × Value → H) :
    ReturnsInHanded {} Try.checked os 3 .any (Rows.wordTurnsSpec.pre6 enc Try.prog Try.f3 Rows.wordTurnsRow.domain false) (Rows.wordTurnsSpec.post enc Try.prog Try.f3 false true false false) := by
  refine returnsInHanded_of_change (C := Try.checked) own started (by kernel_rfl) Try.func3
    (ChangeSpec.witness6 (enc := enc) (C := Try.checked) false ⟨#[], #[.int .i64 0, .int .i64 0], []⟩ 8 (by kernel_rfl) (by kernel_rfl) (by kernel_rfl) (by kernel_rfl)) ?_
  intro W base args ds gs before hval0 hW hcnd _
  have hval : ∀ (j : Nat) t v, Try.f3.params[j]? = some t → args[j]? = some v → Value.okWide Try.prog W .any base t v := hval0
  have hW' := hW
  obtain ⟨p, q, hA0, hV, rfl, hfz, hnd⟩ := hW
  have hA : DataW.TrodAll enc Try.prog W 0 (fun _ => true) true Try.f3.params.toList args.toList ds p := hA0
  rw [Try.params3] at hA hval
  obtain ⟨v0, vs0, d0, ds0, p0, q0, hargs, rfl, rfl, h0, r0⟩ := trodAll_cons hA
  obtain ⟨v1, vs1, d1, ds1, p1, q1, rfl, rfl, rfl, h1, r1⟩ := trodAll_cons r0
  obtain ⟨rfl, rfl, rfl⟩ := trodAll_nil r1
  obtain rfl : args = #[v0, v1] := by cases args; simp_all
  obtain ⟨rfl, rfl⟩ := trodVars_none hV
  obtain ⟨a0, rfl, rfl, rfl, w0⟩ := open_int Try.underlying2 (hval 0 2 v0 rfl rfl) h0
  obtain ⟨a1, rfl, rfl, rfl, w1⟩ := open_int Try.underlying2 (hval 1 2 v1 rfl rfl) h1
  clear hA0 hval0
  simp only [List.append_nil] at hW'
  refine (walk a0 a1 w0 w1 W).mono fun e W' ⟨he, hg⟩ => ?_
  subst he
  exact ⟨_, rfl, _, _, _, [], _, [], hW', (trodAll_cons_mk (shut_bool Try.underlying4 _) trodAll_mk0), (trodAll_cons_mk (shut_int Try.underlying2 w0) (trodAll_cons_mk (shut_int Try.underlying2 w1) trodAll_mk0)), rfl, hg.frame _, fun h => by cases h⟩

theorem over : Rows.wordTurnsRow.holds Try.pinned (OpenSpec.ofChange Rows.wordTurnsSpec) :=
  OpenClaim.holds_of_wide 3 Try.f3 rfl rfl rfl rfl rfl rfl rfl ⟨rfl, rfl, rfl, rfl, rfl⟩ rfl rfl rfl rfl rfl (by kernel_rfl) Try.func3 (by kernel_rfl)
    (of_decide_eq_true (by kernel_rfl)) (by unfold Func.isWrapper; first | (rw [if_pos (by decide +kernel)]; kernel_rfl) | (rw [if_neg (by decide +kernel)]; exact ⟨rfl, rfl⟩))
    (fun os started H enc _ => lifted os started H enc)

/-- ████ THE STATEMENT ████ -/
theorem proved : Rows.WordTurnsSaid :=
  over
#print axioms proved
end Go.Proofs.Ytjnggejgnmbohaa.wordTurns
namespace Go.Proofs.Ytjnggejgnmbohaa
/-- The statement. -/
theorem wordTurns_holds : Rows.WordTurnsSaid := wordTurns.proved
end Go.Proofs.Ytjnggejgnmbohaa

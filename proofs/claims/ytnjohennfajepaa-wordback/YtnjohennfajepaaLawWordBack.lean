/- Proved: WordBack answers true for every int64 and every uint64 (no condition): word.Number reads what word.Bytes wrote in eight bytes, word.Take reads what word.Put wrote, as it was, and the given answers of the layer stand. -/
import Derived.Test.YtnjohennfajepaaRows
import Derived.WalkKit
import Derived.ProofKit
import Derived.OpenShut
import Derived.ShutString
import Derived.ChangeOld
import Derived.Below
import Derived.Test.YtnjohennfajepaaWordLive
import Derived.Test.YtnjohennfajepaaWordNum
import Derived.Test.YtnjohennfajepaaWordBackMath
namespace Go.Proofs.Ytnjohennfajepaa.wordBack
open Go.ChangeShapes Go.WideShapes Go.ChangeAt Go.RowKit
open Go.ChangeMaps (open_string shut_string)
set_option linter.unusedVariables false      -- a walk need not use every 'w<i>' (that an integer argument fits its kind)

theorem own : ownKnob Try.prog.godebug = none := by kernel_rfl

/-! ### THE WALK: the Go text returns true. 'Grown w w'': the world has at most new blocks (Derived/RowKit3.lean). Part the cases AHEAD of 'go_enter' where a test parts the walk; take each callee by a contract of your own. -/
set_option maxRecDepth 100000 in
set_option maxHeartbeats 1000000 in
theorem walk (a0 : Int) (a1 : Int) (w0 : (Lit.int .i64 a0).wf = true) (w1 : (Lit.int .u64 a1).wf = true) (w : World) :
    Calls Try.prog 7 #[.int .i64 a0, .int .u64 a1] w fun e w' => e = .returned (.bool true) ∧ Below w.heap.size w w' := by
  have hu : 0 ≤ a1 ∧ a1 ≤ 18446744073709551615 := by
    have h := w1
    simp [Lit.wf, IntKind.min, IntKind.max, IntKind.signed, IntKind.bits] at h
    omega
  have HU : Hid (0 ≤ a1 ∧ a1 ≤ 18446744073709551615) := hu
  have hb := W.num_back a0 w0
  have hpl := W.put_length a1
  have ht := W.take_put [] a1 [] hu.1 hu.2 (by simpa using W.put_bd a1 hu.1 hu.2)
  simp only [List.nil_append, List.append_nil, List.length_nil, Nat.zero_add] at ht
  have hsz : (strOfNums (W.put a1)).size = (W.put a1).length := strOfNums_size _
  obtain ⟨s1, hs1⟩ : ∃ s1, s1 = strOfNums (W.bytesV a0 8) := ⟨_, rfl⟩
  obtain ⟨s2, hs2⟩ : ∃ s2, s2 = strOfNums (W.put a1) := ⟨_, rfl⟩
  rw [← hs1] at hb
  rw [← hs2] at ht hsz
  have HB : Hid _ := hb
  have HT : Hid _ := ht
  have HS1 : Hid _ := hs1
  have HS2 : Hid _ := hs2
  have HZ : Hid _ := hsz
  clear hu hb ht hs1 hs2 hsz
  go_enter Try.func7, Try.ntmps7
  go_wp2_with fail
  refine (bytes_any a0 8 _).mono ?_
  rintro e x1 ⟨rfl, h1⟩
  rw [HB.out.1, ← HS1.out]
  go_wp2_with fail
  refine (number_any s1 _).mono ?_
  rintro e x2 ⟨rfl, rfl⟩
  rw [HB.out.2.1, HB.out.2.2]
  go_wp2_with fail
  refine (put_any a1 HU.out.1 HU.out.2 _).mono ?_
  rintro e x3 ⟨rfl, h3⟩
  rw [← HS2.out]
  go_wp2_with fail
  refine (take_any s2 0 (by unfold maxLen; have := HZ.out; omega) _).mono ?_
  rintro e x4 ⟨rfl, h4⟩
  rw [show W.take s2 0 = _ from HT.out]
  have hz := HZ.out
  go_wp2_with fail
  refine (live_any _).mono ?_
  rintro e x5 ⟨rfl, h5⟩
  go_wp2
  go_ret
  exact ⟨rfl, ((h1.trans (h3.mono h1.size)).trans (h4.mono (Nat.le_trans h1.size h3.size))).trans (h5.mono (Nat.le_trans h1.size (Nat.le_trans h3.size h4.size)))⟩

/-! ### THE ROW's STEP: WRITTEN OUT: LEAVE IT -/
set_option maxRecDepth 100000 in
theorem lifted (os : Os) (started : os.Started) (H : Type) (enc : TypeId × Value → H) :
    ReturnsInHanded {} Try.checked os 7 .any (Rows.wordBackSpec.pre6 enc Try.prog Try.f7 Rows.wordBackRow.domain false) (Rows.wordBackSpec.post enc Try.prog Try.f7 false true false false) := by
  refine returnsInHanded_of_change (C := Try.checked) own started (by kernel_rfl) Try.func7
    (ChangeSpec.witness6 (enc := enc) (C := Try.checked) false ⟨#[], #[.int .i64 0, .int .u64 0], []⟩ 8 (by kernel_rfl) (by kernel_rfl) (by kernel_rfl) (by kernel_rfl)) ?_
  intro W base args ds gs before hval0 hW hcnd _
  have hval : ∀ (j : Nat) t v, Try.f7.params[j]? = some t → args[j]? = some v → Value.okWide Try.prog W .any base t v := hval0
  have hW' := hW
  obtain ⟨p, q, hA0, hV, rfl, hfz, hnd⟩ := hW
  have hA : DataW.TrodAll enc Try.prog W 0 (fun _ => true) true Try.f7.params.toList args.toList ds p := hA0
  rw [Try.params7] at hA hval
  obtain ⟨v0, vs0, d0, ds0, p0, q0, hargs, rfl, rfl, h0, r0⟩ := trodAll_cons hA
  obtain ⟨v1, vs1, d1, ds1, p1, q1, rfl, rfl, rfl, h1, r1⟩ := trodAll_cons r0
  obtain ⟨rfl, rfl, rfl⟩ := trodAll_nil r1
  obtain rfl : args = #[v0, v1] := by cases args; simp_all
  obtain ⟨rfl, rfl⟩ := trodVars_none hV
  obtain ⟨a0, rfl, rfl, rfl, w0⟩ := open_int Try.underlying2 (hval 0 2 v0 rfl rfl) h0
  obtain ⟨a1, rfl, rfl, rfl, w1⟩ := open_int Try.underlying31 (hval 1 31 v1 rfl rfl) h1
  clear hA0 hval0
  simp only [List.append_nil] at hW'
  refine (walk a0 a1 w0 w1 W).mono fun e W' ⟨he, hg⟩ => ?_
  subst he
  exact ⟨_, rfl, _, _, _, [], _, [], hW', (trodAll_cons_mk (shut_bool Try.underlying4 _) trodAll_mk0), (trodAll_cons_mk (shut_int Try.underlying2 w0) (trodAll_cons_mk (shut_int Try.underlying31 w1) trodAll_mk0)), rfl, hg.frame _, fun h => by cases h⟩

theorem over : Rows.wordBackRow.holds Try.pinned (OpenSpec.ofChange Rows.wordBackSpec) :=
  OpenClaim.holds_of_wide 7 Try.f7 rfl rfl rfl rfl rfl rfl rfl ⟨rfl, rfl, rfl, rfl, rfl⟩ rfl rfl rfl rfl rfl (by kernel_rfl) Try.func7 (by kernel_rfl)
    (of_decide_eq_true (by kernel_rfl)) (by unfold Func.isWrapper; first | (rw [if_pos (by decide +kernel)]; kernel_rfl) | (rw [if_neg (by decide +kernel)]; exact ⟨rfl, rfl⟩))
    (fun os started H enc _ => lifted os started H enc)

/-- ████ THE STATEMENT ████ -/
theorem proved : Rows.WordBackSaid :=
  over
#print axioms proved
end Go.Proofs.Ytnjohennfajepaa.wordBack
namespace Go.Proofs.Ytnjohennfajepaa
/-- The statement. -/
theorem wordBack_holds : Rows.WordBackSaid := wordBack.proved
end Go.Proofs.Ytnjohennfajepaa

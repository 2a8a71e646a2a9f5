/- Proved: MemScripts answers true for all regions and calls whose reading is of bulk at most 1048576 (that bound is its only condition): every answer of the memory is the document's, whatever is written into what was handed in, and out. -/
import Derived.Test.YtlbofiaikhcheaaMemScripts
import Derived.Test.YtlbofiaikhcheaaMemOpenO
import Derived.JoinedCond
namespace Go.Proofs.Ytlbofiaikhcheaa.memScripts
open Go.ChangeShapes Go.WideShapes Go.ChangeAt Go.RowKit Go.Joins
set_option linter.unusedVariables false

theorem own : ownKnob Try.prog.godebug = none := by kernel_rfl
theorem laidO : laidOutB Try.prog = true := by kernel_rfl

/-! ### The row -/
set_option maxRecDepth 100000 in
theorem lifted (os : Os) (started : os.Started) (H : Type) (enc : TypeId × Value → H) (F : Stop.Interp) :
    ReturnsInHanded {} Try.checked os 3 .any ((Rows.OpenSpec.upto Rows.memScriptsSpec).pre6 enc Try.prog Try.f3 Rows.memScriptsUptoRow.domain false) (((Rows.OpenSpec.upto Rows.memScriptsSpec).at F).post enc Try.prog Try.f3 false true false false) := by
  refine returnsInHanded_of_cond (C := Try.checked) (s := Rows.OpenSpec.upto Rows.memScriptsSpec) (k := Rows.uptoSmall) rfl own started (by kernel_rfl) Try.func3
    (OpenSpec.witness (enc := enc) (C := Try.checked) (s := Rows.OpenSpec.upto Rows.memScriptsSpec) (k := Rows.uptoSmall) rfl false ⟨#[], #[.slice none 0 0, .slice none 0 0], []⟩ 8 (by kernel_rfl) (by kernel_rfl) (by kernel_rfl)
      (x := ([.nil, .nil], [], [])) (by kernel_rfl) rfl (by kernel_rfl)) ?_
  intro W base args ds gs before hval0 hW hcnd hk _
  have hval : ∀ (j : Nat) t v, Try.f3.params[j]? = some t → args[j]? = some v → Value.okWide Try.prog W .any base t v := hval0
  have hW' := hW
  obtain ⟨p, q, hA0, hV, rfl, hfz, hnd⟩ := hW
  have hA : DataW.TrodAll enc Try.prog W 0 (fun _ => true) true Try.f3.params.toList args.toList ds p := hA0
  have hlt := hA.lt
  rw [Try.params3] at hA hval
  obtain ⟨v0, vs0, d0, ds0, p0, q0, hargs, rfl, rfl, h0, r0⟩ := trodAll_cons hA
  obtain ⟨v1, vs1, d1, ds1, p1, q1, rfl, rfl, rfl, h1, r1⟩ := trodAll_cons r0
  obtain ⟨rfl, rfl, rfl⟩ := trodAll_nil r1
  obtain rfl : args = #[v0, v1] := by cases args; simp_all
  obtain ⟨rfl, rfl⟩ := trodVars_none hV
  have hk1 := bulks.bound hk
  obtain ⟨a0, l0, c0, rfl⟩ := okWide_slice Try.underlying22 (hval 0 22 v0 rfl rfl)
  have h0' := h0
  obtain ⟨fuel, g0⟩ := h0'
  obtain ⟨a, len, cap, rs, e0, RV, RF⟩ := open_regs (v := .slice a0 l0 c0) (fun _ => rfl) g0
  cases e0
  have hlb : l0 ≤ Rows.uptoBulk d0 := slice_bulk Try.underlying22 g0
  have hl0 : l0 ≤ 1048576 := by
    simp only [Rows.uptoBulkAll, List.append_nil] at hk1
    omega
  obtain ⟨b0, m0, d0', rfl⟩ := okWide_slice Try.underlying23 (hval 1 23 v1 rfl rfl)
  have h1' := h1
  obtain ⟨fuel1, g1⟩ := h1'
  obtain ⟨oa, olen, ocap, os', e1, OV⟩ := open_ops (v := .slice b0 m0 d0') (fun _ => rfl) g1
  cases e1
  clear hA0 hval0
  simp only [List.append_nil] at hW'
  refine (scripts_any RV RF OV hl0).mono fun e W' ⟨he, hg⟩ => ?_
  subst he
  exact ⟨_, rfl, _, _, _, [], _, [], hW', (trodAll_cons_mk (shut_bool Try.underlying4 _) trodAll_mk0), (trodAll_cons_mk (Below.trod laidO (by kernel_rfl) (of_decide_eq_true (by kernel_rfl)) h0 hg (fun x hx => hlt x (by simp [hx]))) (trodAll_cons_mk (Below.trod laidO (by kernel_rfl) (of_decide_eq_true (by kernel_rfl)) h1 hg (fun x hx => hlt x (by simp [hx]))) trodAll_mk0)), rfl, hg.frame _, fun h => by cases h⟩

theorem over : Rows.memScriptsUptoRow.holds Try.pinned (Rows.OpenSpec.upto Rows.memScriptsSpec) :=
  OpenClaim.holds_of_cond 3 Try.f3 rfl rfl rfl rfl rfl rfl rfl ⟨rfl, rfl, rfl, rfl, rfl⟩ rfl rfl rfl rfl rfl (by kernel_rfl) Try.func3 (by kernel_rfl)
    (of_decide_eq_true (by kernel_rfl)) (by unfold Func.isWrapper; first | (rw [if_pos (by decide +kernel)]; kernel_rfl) | (rw [if_neg (by decide +kernel)]; exact ⟨rfl, rfl⟩))
    (fun os started H enc _ F => lifted os started H enc F)

end Go.Proofs.Ytlbofiaikhcheaa.memScripts
namespace Go.Proofs.Ytlbofiaikhcheaa
/-- The statement. -/
theorem memScriptsUpto_holds : Rows.MemScriptsUptoSaid := memScripts.over
#print axioms memScriptsUpto_holds
end Go.Proofs.Ytlbofiaikhcheaa

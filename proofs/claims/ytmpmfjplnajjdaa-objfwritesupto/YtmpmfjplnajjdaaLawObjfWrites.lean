/- Proved: ObjfWrites answers true for every object whose reading is of bulk at most 1048576 (that bound is its only condition): Write and Check answer what the document does, and the object is as it was. -/
import Derived.Test.YtmpmfjplnajjdaaObjWrites
import Derived.Test.YtmpmfjplnajjdaaObjOpen
import Derived.Test.YtmpmfjplnajjdaaObjBulk
import Derived.JoinedCond
import Derived.Test.YtmpmfjplnajjdaaBulk
namespace Go.Proofs.Ytmpmfjplnajjdaa.objfWrites
open Go.ChangeShapes Go.WideShapes Go.ChangeAt Go.RowKit
open Go.ChangeMaps (open_string)
set_option linter.unusedVariables false

theorem own : ownKnob Try.prog.godebug = none := by kernel_rfl
theorem laidO : laidOutB Try.prog = true := by kernel_rfl

/-! ### The row -/
set_option maxRecDepth 100000 in
theorem lifted (os : Os) (started : os.Started) (H : Type) (enc : TypeId × Value → H) (F : Stop.Interp) :
    ReturnsInHanded {} Try.checked os 3 .any ((Rows.OpenSpec.upto Rows.objfWritesSpec).pre6 enc Try.prog Try.f3 Rows.objfWritesUptoRow.domain false) (((Rows.OpenSpec.upto Rows.objfWritesSpec).at F).post enc Try.prog Try.f3 false true false false) := by
  refine returnsInHanded_of_cond (C := Try.checked) (s := Rows.OpenSpec.upto Rows.objfWritesSpec) (k := Rows.uptoSmall) rfl own started (by kernel_rfl) Try.func3
    (OpenSpec.witness (enc := enc) (C := Try.checked) (s := Rows.OpenSpec.upto Rows.objfWritesSpec) (k := Rows.uptoSmall) rfl false ⟨#[], #[.agg #[.string { data := #[] }, .slice none 0 0, .slice none 0 0, .slice none 0 0]], []⟩ 8 (by kernel_rfl) (by kernel_rfl) (by kernel_rfl)
      (x := ([.agg [.lit (.string []), .nil, .nil, .nil]], [], [])) (by kernel_rfl) rfl (by kernel_rfl)) ?_
  intro W base args ds gs before hval0 hW hcnd hk _
  have hval : ∀ (j : Nat) t v, Try.f3.params[j]? = some t → args[j]? = some v → Value.okWide Try.prog W .any base t v := hval0
  have hW' := hW
  obtain ⟨p, q, hA0, hV, rfl, hfz, hnd⟩ := hW
  have hA : DataW.TrodAll enc Try.prog W 0 (fun _ => true) true Try.f3.params.toList args.toList ds p := hA0
  have hlt := hA.lt
  rw [Try.params3] at hA hval
  obtain ⟨v0, vs0, d0, ds0, p0, q0, hargs, rfl, rfl, h0, r0⟩ := trodAll_cons hA
  obtain ⟨rfl, rfl, rfl⟩ := trodAll_nil r0
  obtain rfl : args = #[v0] := by cases args; simp_all
  obtain ⟨rfl, rfl⟩ := trodVars_none hV
  have hk1 := bulks.bound hk
  obtain ⟨o0, V0, L0⟩ := open_obj (fun _ => rfl) (hval 0 26 v0 rfl rfl) h0
  have hlens : o0.data.length ≤ 1048576 ∧ o0.syms.length ≤ 1048576 ∧ o0.rels.length ≤ 1048576 := by
    have hb := obj_bulk (hval 0 26 v0 rfl rfl) h0 V0
    simp only [Rows.uptoBulkAll, List.append_nil] at hk1
    omega
  clear hA0 hval0
  simp only [List.append_nil] at hW'
  refine (writes_any V0 hlens).mono fun e W' ⟨he, hg⟩ => ?_
  subst he
  exact ⟨_, rfl, _, _, _, [], _, [], hW', (trodAll_cons_mk (shut_bool Try.underlying4 _) trodAll_mk0), (trodAll_cons_mk (Below.trod laidO (by kernel_rfl) (of_decide_eq_true (by kernel_rfl)) h0 hg (fun x hx => hlt x (by simp [hx]))) trodAll_mk0), rfl, hg.frame _, fun h => by cases h⟩

theorem over : Rows.objfWritesUptoRow.holds Try.pinned (Rows.OpenSpec.upto Rows.objfWritesSpec) :=
  OpenClaim.holds_of_cond 3 Try.f3 rfl rfl rfl rfl rfl rfl rfl ⟨rfl, rfl, rfl, rfl, rfl⟩ rfl rfl rfl rfl rfl (by kernel_rfl) Try.func3 (by kernel_rfl)
    (of_decide_eq_true (by kernel_rfl)) (by unfold Func.isWrapper; first | (rw [if_pos (by decide +kernel)]; kernel_rfl) | (rw [if_neg (by decide +kernel)]; exact ⟨rfl, rfl⟩))
    (fun os started H enc _ F => lifted os started H enc F)

end Go.Proofs.Ytmpmfjplnajjdaa.objfWrites
namespace Go.Proofs.Ytmpmfjplnajjdaa
/-- The statement. -/
theorem objfWritesUpto_holds : Rows.ObjfWritesUptoSaid := objfWrites.over
#print axioms objfWritesUpto_holds
end Go.Proofs.Ytmpmfjplnajjdaa

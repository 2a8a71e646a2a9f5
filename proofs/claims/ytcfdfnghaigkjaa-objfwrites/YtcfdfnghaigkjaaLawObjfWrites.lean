/- Proved: ObjfWrites answers true for every object (the reach that the form gives is the only bound): Write and Check answer what the document does, and the object is as it was. -/
import Derived.Test.YtcfdfnghaigkjaaObjWrites
import Derived.Test.YtcfdfnghaigkjaaObjOpen
import Derived.Test.YtcfdfnghaigkjaaObjSized
namespace Go.Proofs.Ytcfdfnghaigkjaa.objfWrites
open Go.ChangeShapes Go.WideShapes Go.ChangeAt Go.RowKit
open Go.ChangeMaps (open_string)
set_option linter.unusedVariables false

theorem own : ownKnob Try.prog.godebug = none := by kernel_rfl
theorem laidO : laidOutB Try.prog = true := by kernel_rfl

/-! ### The row -/
set_option maxRecDepth 100000 in
theorem lifted (os : Os) (started : os.Started) (H : Type) (enc : TypeId × Value → H) :
    ReturnsInHanded {} Try.checked os 3 .any (Rows.objfWritesSpec.pre6 enc Try.prog Try.f3 Rows.objfWritesRow.domain false) (Rows.objfWritesSpec.post enc Try.prog Try.f3 false true false false) := by
  refine returnsInHanded_of_change_sized (C := Try.checked) own started (by kernel_rfl) Try.func3
    (ChangeSpec.witness6 (enc := enc) (C := Try.checked) false ⟨#[], #[.agg #[.string { data := #[] }, .slice none 0 0, .slice none 0 0, .slice none 0 0]], []⟩ 8 (by kernel_rfl) (by kernel_rfl) (by kernel_rfl) (by kernel_rfl)) ?_
  intro W base args ds gs before hval0 hW hcnd hsz0 _
  have hval : ∀ (j : Nat) t v, Try.f3.params[j]? = some t → args[j]? = some v → Value.okWide Try.prog W .any base t v := hval0
  have hsz : (DataW.weightsEach Try.prog (Try.f3.params.toList ++ Rows.objfWritesSpec.plain.varTypes Try.prog) (ds ++ gs)).all (· ≤ reachBytes) = true := hsz0
  have hW' := hW
  obtain ⟨p, q, hA0, hV, rfl, hfz, hnd⟩ := hW
  have hA : DataW.TrodAll enc Try.prog W 0 (fun _ => true) true Try.f3.params.toList args.toList ds p := hA0
  have hlt := hA.lt
  rw [Try.params3] at hA hval hsz
  obtain ⟨v0, vs0, d0, ds0, p0, q0, hargs, rfl, rfl, h0, r0⟩ := trodAll_cons hA
  obtain ⟨rfl, rfl, rfl⟩ := trodAll_nil r0
  obtain rfl : args = #[v0] := by cases args; simp_all
  obtain ⟨rfl, rfl⟩ := trodVars_none hV
  obtain ⟨o0, V0, L0⟩ := open_obj (fun _ => rfl) (hval 0 26 v0 rfl rfl) h0
  have hlens : o0.data.length * 8 ≤ 140737488355328 ∧ o0.syms.length * 32 ≤ 140737488355328 ∧ o0.rels.length * 40 ≤ 140737488355328 := by
    have h1 := obj_sized (hval 0 26 v0 rfl rfl) h0 V0 (R := reachBytes) (fun n hn => by
      have h2 := List.all_eq_true.1 hsz n (DataW.weights_mem_each (j := 0) rfl rfl n hn)
      simpa using h2)
    have h3 : reachBytes = 140737488351232 := rfl
    omega
  clear hA0 hval0
  simp only [List.append_nil] at hW'
  refine (writes_any V0 hlens).mono fun e W' ⟨he, hg⟩ => ?_
  subst he
  exact ⟨_, rfl, _, _, _, [], _, [], hW', (trodAll_cons_mk (shut_bool Try.underlying4 _) trodAll_mk0), (trodAll_cons_mk (Below.trod laidO (by kernel_rfl) (of_decide_eq_true (by kernel_rfl)) h0 hg (fun x hx => hlt x (by simp [hx]))) trodAll_mk0), rfl, hg.frame _, fun h => by cases h⟩

theorem over : Rows.objfWritesRow.holds Try.pinned (OpenSpec.ofChange Rows.objfWritesSpec) :=
  OpenClaim.holds_of_wide 3 Try.f3 rfl rfl rfl rfl rfl rfl rfl ⟨rfl, rfl, rfl, rfl, rfl⟩ rfl rfl rfl rfl rfl (by kernel_rfl) Try.func3 (by kernel_rfl)
    (of_decide_eq_true (by kernel_rfl)) (by unfold Func.isWrapper; first | (rw [if_pos (by decide +kernel)]; kernel_rfl) | (rw [if_neg (by decide +kernel)]; exact ⟨rfl, rfl⟩))
    (fun os started H enc _ => lifted os started H enc)

end Go.Proofs.Ytcfdfnghaigkjaa.objfWrites
namespace Go.Proofs.Ytcfdfnghaigkjaa
/-- The statement. -/
theorem objfWrites_holds : Rows.ObjfWritesSaid := objfWrites.over
#print axioms objfWrites_holds
end Go.Proofs.Ytcfdfnghaigkjaa

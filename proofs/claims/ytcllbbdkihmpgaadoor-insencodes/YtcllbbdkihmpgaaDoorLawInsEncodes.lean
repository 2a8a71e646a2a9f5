/- Proved: InsEncodes answers true for every instruction (no condition; the two tables of package ins hold what the program text lays in them, which the card ties): ins.Encode and ins.Size answer what the document says, and the given answers of the layer stand. -/
import Derived.Test.YtcllbbdkihmpgaaDoorInsOpen
import Derived.Test.YtcllbbdkihmpgaaDoorInsLive
import Derived.Test.YtcllbbdkihmpgaaDoorInsRefAll
import Derived.Deep.RegionHeld3
import Derived.Deep.DrawnRows
namespace Go.Proofs.YtcllbbdkihmpgaaDoor.insEncodes
open Go.ChangeShapes Go.WideShapes Go.ChangeAt Go.RowKit
open Go.ChangeMaps (open_string shut_string)
set_option linter.unusedVariables false
attribute [local go_sem ↓] Go.wp_at_zero Go.wp_at_succ

theorem own : ownKnob Tryd.prog.godebug = none := by kernel_rfl
theorem laidO : laidOutB Tryd.prog = true := by kernel_rfl

theorem ret_b {a b : Bool} (h : a = b) : Ending.returned (.bool a) = .returned (.bool b) := by rw [h]

set_option maxRecDepth 100000 in
set_option maxHeartbeats 8000000 in
theorem walk (op a b n : Int) (wo : (Lit.int .i64 op).wf = true) (wa : (Lit.int .i64 a).wf = true) (wb : (Lit.int .i64 b).wf = true) (wn : (Lit.int .i64 n).wf = true) (w : World) (ht : Tab w) :
    Calls Tryd.prog 3 #[.agg #[.int .i64 op, .int .i64 a, .int .i64 b, .int .i64 n]] w fun e w' => e = .returned (.bool true) ∧ Below w.heap.size w w' := by
  generalize hv : strOfNums (I.encV op a b n) = v
  generalize he : I.encE op a b n = ee
  generalize hz : I.size op = z
  have HV : Hid (strOfNums (I.encV op a b n) = v) := hv
  have HE : Hid (I.encE op a b n = ee) := he
  have HZ : Hid (I.size op = z) := hz
  clear hv he hz
  go_enter Tryd.func3, Tryd.ntmps3
  go_wp2_with fail
  refine (encode_any op a b n _ (ht.alloc _)).mono ?_
  rintro e w1 ⟨rfl, hb1⟩
  rw [HV.out, HE.out]
  obtain ⟨hc1, hf1⟩ := bcell hb1
  have hz1 := hb1.size
  simp at hz1
  have ki : ∀ o, w1.cell? ⟨w.heap.size, o, none⟩ = (#[.int .i64 op, .int .i64 a, .int .i64 b, .int .i64 n] : Array Value)[o]? := fun o => by rw [hc1 _ _ (by simp)]; simp
  have t1 := (ht.alloc _).below hb1
  have q1 : Below w.heap.size w w1 := (bl1 _ _).trans (hb1.mono (by simp))
  clear hc1 hf1 hb1
  go_wp2_with fail
  refine (rencode_any op a b n wn _).mono ?_
  rintro e w2 ⟨rfl, hb2⟩
  rw [HV.out, HE.out]
  have hz2 := hb2.size
  have ki2 : ∀ o, w2.cell? ⟨w.heap.size, o, none⟩ = (#[.int .i64 op, .int .i64 a, .int .i64 b, .int .i64 n] : Array Value)[o]? := fun o => (hb2.cell (p := ⟨w.heap.size, o, none⟩) (by simp; omega)).trans (ki o)
  have t2 := t1.below hb2
  have q2 : Below w.heap.size w w2 := q1.trans (hb2.mono (by omega))
  have i0 : w2.cell? ⟨w.heap.size, 0, none⟩ = some (.int .i64 op) := ki2 0
  have zi : w.heap.size < w2.heap.size := by omega
  clear hb2 ki t1 q1 ki2
  go_wp2_with fail
  go_region_held3 (fun w' => w'.cell? ⟨w.heap.size, 0, none⟩ = some (.int .i64 op) ∧ Tab w') (first | (exact ⟨i0, t2.drew⟩) | (exact ⟨i03, t3⟩) | (exact ⟨i04, t4⟩)) (first | (go_at_call 11; refine (size_any _ _ t2.drew).mono ?_; rintro e w3 ⟨rfl, hb3⟩; rw [HZ.out]; have i03 := cell_thru hb3 i0; have t3 := t2.drew.below hb3) | (go_at_call 12; refine (rsize_any _ _).mono ?_; rintro e w' ⟨rfl, rfl⟩; rw [HZ.out]) | (go_at_call 13; refine (live_any _ t3).mono ?_; rintro e w4 ⟨rfl, hb4⟩; have i04 := cell_thru hb4 i03; have t4 := t3.below hb4))
  all_goals
    go_wp2
    go_ret
    exact ⟨rfl, (q2.drew.trans (hb3.mono (by show w.heap.size ≤ w2.heap.size; omega))).trans (hb4.mono (Nat.le_trans (Nat.le_of_lt zi) hb3.size))⟩

/-! ### The row -/
theorem contract (H : Type) (enc : TypeId × Value → H) (W : World) (base : Nat) (args : Array Value) (ds gs : List (DataW H)) (before : List MemPlace)
    (hval : ∀ (j : Nat) t v, Tryd.f3.params[j]? = some t → args[j]? = some v → Value.okWide Tryd.prog W .any base t v)
    (hW : DataW.Whole enc Tryd.prog Tryd.f3.params.toList Rows.insEncodesSpec.vars false W args.toList ds gs before) (hT : Tab W) :
    Calls Tryd.prog 3 args W fun e W' => ∃ v, e = .returned v ∧ Rows.insEncodesSpec.post enc Tryd.prog Tryd.f3 false true false false W args v W' := by
  have hW' := hW
  obtain ⟨p, q, hA0, hV, rfl, hfz, hnd⟩ := hW
  have hA : DataW.TrodAll enc Tryd.prog W 0 (fun _ => true) true Tryd.f3.params.toList args.toList ds p := hA0
  have hlt := hA.lt
  rw [Tryd.params3] at hA hval
  obtain ⟨v0, vs0, d0, ds0, p0, q0, hargs, rfl, rfl, h0, r0⟩ := trodAll_cons hA
  obtain ⟨rfl, rfl, rfl⟩ := trodAll_nil r0
  obtain rfl : args = #[v0] := by cases args; simp_all
  obtain ⟨rfl, rfl⟩ := trodVars_none hV
  obtain ⟨op0, a0, b0, n0, rfl, wo0, wa0, wb0, wn0⟩ := open_ins (hval 0 23 v0 rfl rfl) h0
  clear hA0
  simp only [List.append_nil] at hW'
  refine (walk op0 a0 b0 n0 wo0 wa0 wb0 wn0 W hT).mono fun e W' ⟨he, hg⟩ => ?_
  subst he
  exact ⟨_, rfl, _, _, _, [], _, [], hW', (trodAll_cons_mk (shut_bool Tryd.underlying4 _) trodAll_mk0), (trodAll_cons_mk (Below.trod laidO (by kernel_rfl) (of_decide_eq_true (by kernel_rfl)) h0 hg (fun x hx => hlt x (by simp [hx]))) trodAll_mk0), rfl, hg.frame _, fun h => by cases h⟩

theorem laid_met (os : Os) : laidMet Tryd.prog Rows.insEncodesRow.laid ((laidWorld os).forCall (fun _ _ => 0) ⟨#[], #[.agg #[.int .i64 0, .int .i64 0, .int .i64 0, .int .i64 0]], []⟩).memory :=
  laidMet_of_run' 8 (by kernel_rfl) (by kernel_rfl)
theorem reads (os : Os) {H : Type} (enc : TypeId × Value → H) : ∃ places, DataW.whole enc Tryd.prog ((laidWorld os).forCall (fun _ _ => 0) ⟨#[], #[.agg #[.int .i64 0, .int .i64 0, .int .i64 0, .int .i64 0]], []⟩).memory Tryd.f3.params.toList Rows.insEncodesSpec.vars false (#[.agg #[.int .i64 0, .int .i64 0, .int .i64 0, .int .i64 0]] : Array Value).toList 8 = some ([.agg [.lit (.int .i64 0), .lit (.int .i64 0), .lit (.int .i64 0), .lit (.int .i64 0)]], [], places) :=
  ⟨[], by kernel_rfl⟩

set_option maxRecDepth 100000 in
theorem lifted (os : Os) (started : os.Started) (H : Type) (enc : TypeId × Value → H) (F : Stop.Interp) :
    ReturnsInHanded {} Tryd.checked os 3 .any ((OpenSpec.ofChange Rows.insEncodesSpec).preRow enc Tryd.prog Tryd.f3 Rows.insEncodesRow.domain false Rows.insEncodesRow.laid) (((OpenSpec.ofChange Rows.insEncodesSpec).at F).post enc Tryd.prog Tryd.f3 false true false false) := by
  obtain ⟨places, hx⟩ := reads os enc
  refine returnsInHanded_of_row (C := Tryd.checked) (s := OpenSpec.ofChange Rows.insEncodesSpec) own started (by kernel_rfl) Tryd.func3
    (witness_row_at (enc := enc) (C := Tryd.checked) false (laidWorld os) #[.agg #[.int .i64 0, .int .i64 0, .int .i64 0, .int .i64 0]] rfl (by kernel_rfl) (by kernel_rfl) (by kernel_rfl)
      (OpenSpec.preRow_of_cond 8 hx (by kernel_rfl) (fun k hk => by cases hk) (by kernel_rfl) (laid_met os))) ?_
  intro W base args ds gs before hval hW _ hcond _ hL _ _
  exact contract H enc W base args ds gs before hval hW (tab_of_laid hL)

theorem said : Rows.InsEncodesSaid :=
  OpenClaim.holds_of_cond 3 Tryd.f3 rfl rfl rfl rfl rfl rfl rfl ⟨rfl, rfl, rfl, rfl, rfl⟩ rfl rfl rfl rfl rfl (by kernel_rfl) Tryd.func3 (by kernel_rfl)
    (of_decide_eq_true (by kernel_rfl)) (by unfold Func.isWrapper; first | (rw [if_pos (by decide +kernel)]; kernel_rfl) | (rw [if_neg (by decide +kernel)]; exact ⟨rfl, rfl⟩))
    (fun os started H enc _ F => by rw [OpenClaim.pre_eq_preRow]; exact lifted os started H enc F)

/-- No parameter wants a stand-in; the program's own looks are off: what the card asks. -/
theorem plain (f : FuncId) (fn : Func) (hf : Tryd.pinned.checked.prog.funcNamed "cotter/cotterlaw03.InsEncodes" = some f) (hfn : Tryd.pinned.checked.prog.funcs[f]? = some fn) :
    false = Tryd.pinned.checked.prog.looks [] ∧ ∀ (j : Nat) t, fn.params[j]? = some t → Tryd.pinned.checked.prog.wantsStandIn t = false := by
  obtain rfl : f = 3 := Option.some.inj ((show Tryd.prog.funcNamed "cotter/cotterlaw03.InsEncodes" = some 3 by kernel_rfl).symm.trans hf) |>.symm
  obtain rfl : fn = Tryd.f3 := (Option.some.inj (Tryd.func3.symm.trans hfn)).symm
  refine ⟨by kernel_rfl, fun j t ht => ?_⟩
  rw [Tryd.params3] at ht
  have hm : t ∈ [23] := by simpa using Array.mem_of_getElem? ht
  have hall : ([23].all fun u => !Tryd.prog.wantsStandIn u) = true := by kernel_rfl
  exact (show Tryd.prog.wantsStandIn t = false by simpa using List.all_eq_true.1 hall t hm)

theorem card : Rows.InsEncodesCardSaid :=
  Claim7.holds_tied_plain_at .later [] _ _ _ _ said (fun _ h => by cases h) (by kernel_rfl) (fun _ h => by cases h) insEncodes_row_tie rfl ⟨rfl, rfl⟩ (by kernel_rfl) rfl plain (by kernel_rfl)
end Go.Proofs.YtcllbbdkihmpgaaDoor.insEncodes
namespace Go.Proofs.YtcllbbdkihmpgaaDoor
/-- The statement. -/
theorem insEncodes_holds : Rows.InsEncodesCardSaid := insEncodes.card
#print axioms insEncodes_holds
end Go.Proofs.YtcllbbdkihmpgaaDoor

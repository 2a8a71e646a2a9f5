/- Proved: InsDecodes answers true for every string of bytes and every place (its second form: at most 1048576 values and letters; the two tables of package ins hold what the program text lays in them, which the card ties): ins.Decode and ins.All answer what the document says, with its errors, and the given answers of the layer stand. -/
import Derived.Test.YtcllbbdkihmpgaaDoorInsOpen
import Derived.Test.YtcllbbdkihmpgaaDoorInsLive
import Derived.Test.YtcllbbdkihmpgaaDoorInsEq
import Derived.Test.YtcllbbdkihmpgaaDoorInsSame
import Derived.Test.YtcllbbdkihmpgaaDoorInsRefDecAll
import Derived.Test.YtcllbbdkihmpgaaDoorBulk
import Derived.Deep.RegionHeld3
import Derived.Deep.DrawnRows
namespace Go.Proofs.YtcllbbdkihmpgaaDoor.insDecodes
open Go.ChangeShapes Go.WideShapes Go.ChangeAt Go.RowKit
open Go.ChangeMaps (open_string shut_string)
set_option linter.unusedVariables false
attribute [local go_sem ↓] Go.wp_at_zero Go.wp_at_succ
attribute [local go_sem high] eqIns

theorem own : ownKnob Tryd.prog.godebug = none := by kernel_rfl
theorem laidO : laidOutB Tryd.prog = true := by kernel_rfl

theorem decR_form (s : ByteArray) (z : Int) : ∃ o a b n m ee, I.decR s z = decV (insW o a b n) m ee := by
  unfold I.decR
  split
  · exact ⟨_, _, _, _, _, _, rfl⟩
  · split
    · exact ⟨_, _, _, _, _, _, rfl⟩
    · exact ⟨_, _, _, _, _, _, rfl⟩
/-- A list of instructions, or none and an error: as All answers it. -/
theorem allPost_view {s : ByteArray} {B : Nat} {e : Ending} {w : World} (h : I.allPost s B e w) : ∃ v, e = .returned (.tuple #[v, .int .i64 (if (I.allI s).isSome = true then 0 else 9)]) ∧ IView w v ((I.allI s).getD []) := by
  unfold I.allPost at h
  split at h
  · rename_i l hl
    obtain ⟨v, rfl, ho⟩ := h
    rw [hl]
    exact ⟨v, rfl, IView.of_own ho⟩
  · rename_i hl
    rw [hl]
    exact ⟨_, h, IView.nil _⟩
theorem all_getD (s : ByteArray) : ((I.allI s).getD []).length ≤ s.size := by
  cases h : I.allI s with
  | none => simp
  | some l => exact I.all_len h

set_option maxRecDepth 100000 in
set_option maxHeartbeats 16000000 in
theorem walk (s : ByteArray) (ws : s.size ≤ maxLen) (us : s.size ≤ 1048576) (z : Int) (wz : (Lit.int .i64 z).wf = true) (w : World) (ht : Tab w) :
    Calls Tryd.prog 4 #[.string s, .int .i64 z] w fun e w' => e = .returned (.bool true) ∧ Below w.heap.size w w' := by
  obtain ⟨o, a, b, n, m, ee, hdr⟩ := decR_form s z
  have HD : Hid (I.decR s z = decV (insW o a b n) m ee) := hdr
  have hln := all_getD s
  clear hdr
  generalize hal : (if (I.allI s).isSome = true then (0 : Int) else 9) = ae
  generalize hll : (I.allI s).getD [] = l at *
  have HAL : Hid ((if (I.allI s).isSome = true then (0 : Int) else 9) = ae) := hal
  have HLL : Hid ((I.allI s).getD [] = l) := hll
  clear hal hll
  have sm := I.same_self o a b n
  go_enter Tryd.func4, Tryd.ntmps4
  go_wp2_with fail
  refine (decode_any s z (by omega) _ ht).mono ?_
  rintro e w1 ⟨rfl, hb1⟩
  rw [HD.out]
  have t1 := ht.below hb1
  go_wp2_with fail
  refine (rdecode_any s z (by omega) _).mono ?_
  rintro e w2 ⟨rfl, hb2⟩
  rw [HD.out]
  have t2 := (t1.alloc _).below hb2
  have k2 : ∀ o', w2.cell? ⟨w1.heap.size, o', none⟩ = (#[.int .i64 o, .int .i64 a, .int .i64 b, .int .i64 n] : Array Value)[o']? := arr_thru hb2 (fun o => by simp)
  have z1 : w1.heap.size < w2.heap.size := World.block_lt_of_cell? w2 ⟨w1.heap.size, 0, none⟩ (k2 0)
  have q2 : Below w.heap.size w w2 := (hb1.alloc hb1.size _).trans (hb2.mono (by have := hb1.size; simp; omega))
  clear hb1 hb2 t1
  go_wp2_with fail
  refine (all_any s (by omega) _ (t2.alloc _)).mono ?_
  rintro e w3 ⟨hpost, hb3⟩
  obtain ⟨v3, rfl, i3⟩ := allPost_view hpost
  rw [HAL.out]
  rw [HLL.out] at i3
  have t3 := (t2.alloc _).below hb3
  have k3 : ∀ o', w3.cell? ⟨w1.heap.size, o', none⟩ = (#[.int .i64 o, .int .i64 a, .int .i64 b, .int .i64 n] : Array Value)[o']? := arr_thru hb3 (fun x => by rw [World.cell?_alloc_past _ _ _ z1]; exact k2 x)
  have r3 : ∀ o', w3.cell? ⟨w2.heap.size, o', none⟩ = (#[.int .i64 o, .int .i64 a, .int .i64 b, .int .i64 n] : Array Value)[o']? := arr_thru hb3 (fun o => by simp)
  have q3 : Below w.heap.size w w3 := (q2.alloc q2.size _).trans (hb3.mono (by have := q2.size; simp; omega))
  have I3 : Hid (IView w3 v3 l) := i3
  clear hb3 k2 q2 t2 i3 hpost
  go_wp2_with fail
  refine (rall_any s (by omega) _).mono ?_
  rintro e w4 ⟨hpost, hb4⟩
  obtain ⟨v4, rfl, i4⟩ := allPost_view hpost
  rw [HAL.out]
  rw [HLL.out] at i4
  have t4 := t3.below hb4
  have k4 := arr_thru hb4 k3
  have r4 := arr_thru hb4 r3
  have q4 : Below w.heap.size w w4 := q3.trans (hb4.mono q3.size)
  have J3 : Hid (IView w4 v3 l) := I3.out.below hb4
  have J4 : Hid (IView w4 v4 l) := i4
  clear hb4 k3 r3 q3 t3 i4 hpost I3
  have hm4 : l.length ≤ 9223372036854775000 := by omega
  go_wp2_with (first | (go_at_call 18; refine (same_views J3.out J4.out hm4).mono ?_; rintro e w6 ⟨rfl, hb6⟩; have t6 := t4.below hb6) | (go_at_call 13; refine (live_any _ t6).mono ?_; rintro e w7 ⟨rfl, hb7⟩))
  go_ret
  exact ⟨rfl, (q4.trans (hb6.mono q4.size)).trans (hb7.mono (Nat.le_trans q4.size hb6.size))⟩

/-! ### The row -/
theorem contract (H : Type) (enc : TypeId × Value → H) (W : World) (base : Nat) (args : Array Value) (ds gs : List (DataW H)) (before : List MemPlace)
    (hval : ∀ (j : Nat) t v, Tryd.f4.params[j]? = some t → args[j]? = some v → Value.okWide Tryd.prog W .any base t v)
    (hW : DataW.Whole enc Tryd.prog Tryd.f4.params.toList Rows.insDecodesSpec.vars false W args.toList ds gs before) (hk : Rows.uptoSmall H (ds ++ gs) = true) (hT : Tab W) :
    Calls Tryd.prog 4 args W fun e W' => ∃ v, e = .returned v ∧ Rows.insDecodesSpec.post enc Tryd.prog Tryd.f4 false true false false W args v W' := by
  have hW' := hW
  obtain ⟨p, q, hA0, hV, rfl, hfz, hnd⟩ := hW
  have hA : DataW.TrodAll enc Tryd.prog W 0 (fun _ => true) true Tryd.f4.params.toList args.toList ds p := hA0
  have hlt := hA.lt
  rw [Tryd.params4] at hA hval
  obtain ⟨v0, vs0, d0, ds0, p0, q0, hargs, rfl, rfl, h0, r0⟩ := trodAll_cons hA
  obtain ⟨v1, vs1, d1, ds1, p1, q1, rfl, rfl, rfl, h1, r1⟩ := trodAll_cons r0
  obtain ⟨rfl, rfl, rfl⟩ := trodAll_nil r1
  obtain rfl : args = #[v0, v1] := by cases args; simp_all
  obtain ⟨rfl, rfl⟩ := trodVars_none hV
  rw [List.append_nil] at hk
  have hk1 := bulks.bound hk
  simp only [Rows.uptoBulkAll] at hk1
  obtain ⟨s0, rfl, rfl, rfl, ws0⟩ := open_string Tryd.underlying9 (hval 0 9 v0 rfl rfl) h0
  have us0 : s0.size ≤ 1048576 := by simp only [Rows.uptoBulk] at hk1; simp at hk1; omega
  obtain ⟨z1, rfl, rfl, rfl, wz1⟩ := open_int Tryd.underlying3 (hval 1 3 v1 rfl rfl) h1
  clear hA0
  simp only [List.append_nil] at hW'
  refine (walk s0 ws0 us0 z1 wz1 W hT).mono fun e W' ⟨he, hg⟩ => ?_
  subst he
  exact ⟨_, rfl, _, _, _, [], _, [], hW', (trodAll_cons_mk (shut_bool Tryd.underlying4 _) trodAll_mk0), (trodAll_cons_mk (shut_string Tryd.underlying9 ws0) (trodAll_cons_mk (shut_int Tryd.underlying3 wz1) trodAll_mk0)), rfl, hg.frame _, fun h => by cases h⟩

theorem laid_met (os : Os) : laidMet Tryd.prog Rows.insDecodesUptoRow.laid ((laidWorld os).forCall (fun _ _ => 0) ⟨#[], #[.string ByteArray.empty, .int .i64 0], []⟩).memory :=
  laidMet_of_run' 8 (by kernel_rfl) (by kernel_rfl)
theorem reads (os : Os) {H : Type} (enc : TypeId × Value → H) : ∃ places, DataW.whole enc Tryd.prog ((laidWorld os).forCall (fun _ _ => 0) ⟨#[], #[.string ByteArray.empty, .int .i64 0], []⟩).memory Tryd.f4.params.toList Rows.insDecodesSpec.vars false (#[.string ByteArray.empty, .int .i64 0] : Array Value).toList 8 = some ([.lit (.string []), .lit (.int .i64 0)], [], places) :=
  ⟨[], by kernel_rfl⟩

set_option maxRecDepth 100000 in
theorem lifted (os : Os) (started : os.Started) (H : Type) (enc : TypeId × Value → H) (F : Stop.Interp) :
    ReturnsInHanded {} Tryd.checked os 4 .any ((Rows.OpenSpec.upto Rows.insDecodesSpec).preRow enc Tryd.prog Tryd.f4 Rows.insDecodesUptoRow.domain false Rows.insDecodesUptoRow.laid) (((Rows.OpenSpec.upto Rows.insDecodesSpec).at F).post enc Tryd.prog Tryd.f4 false true false false) := by
  obtain ⟨places, hx⟩ := reads os enc
  refine returnsInHanded_of_row (C := Tryd.checked) (s := Rows.OpenSpec.upto Rows.insDecodesSpec) own started (by kernel_rfl) Tryd.func4
    (witness_row_at (enc := enc) (C := Tryd.checked) false (laidWorld os) #[.string ByteArray.empty, .int .i64 0] rfl (by kernel_rfl) (by kernel_rfl) (by kernel_rfl)
      (OpenSpec.preRow_of_cond 8 hx (by kernel_rfl) (fun k hk => by cases hk; kernel_rfl) (by kernel_rfl) (laid_met os))) ?_
  intro W base args ds gs before hval hW _ hcond _ hL _ _
  exact contract H enc W base args ds gs before hval hW (hcond _ rfl) (tab_of_laid hL)

theorem said : Rows.InsDecodesUptoSaid :=
  OpenClaim.holds_of_cond 4 Tryd.f4 rfl rfl rfl rfl rfl rfl rfl ⟨rfl, rfl, rfl, rfl, rfl⟩ rfl rfl rfl rfl rfl (by kernel_rfl) Tryd.func4 (by kernel_rfl)
    (of_decide_eq_true (by kernel_rfl)) (by unfold Func.isWrapper; first | (rw [if_pos (by decide +kernel)]; kernel_rfl) | (rw [if_neg (by decide +kernel)]; exact ⟨rfl, rfl⟩))
    (fun os started H enc _ F => by rw [OpenClaim.pre_eq_preRow]; exact lifted os started H enc F)

/-- No parameter wants a stand-in; the program's own looks are off: what the card asks. -/
theorem plain (f : FuncId) (fn : Func) (hf : Tryd.pinned.checked.prog.funcNamed "cotter/cotterlaw03.InsDecodes" = some f) (hfn : Tryd.pinned.checked.prog.funcs[f]? = some fn) :
    false = Tryd.pinned.checked.prog.looks [] ∧ ∀ (j : Nat) t, fn.params[j]? = some t → Tryd.pinned.checked.prog.wantsStandIn t = false := by
  obtain rfl : f = 4 := Option.some.inj ((show Tryd.prog.funcNamed "cotter/cotterlaw03.InsDecodes" = some 4 by kernel_rfl).symm.trans hf) |>.symm
  obtain rfl : fn = Tryd.f4 := (Option.some.inj (Tryd.func4.symm.trans hfn)).symm
  refine ⟨by kernel_rfl, fun j t ht => ?_⟩
  rw [Tryd.params4] at ht
  have hm : t ∈ [9, 3] := by simpa using Array.mem_of_getElem? ht
  have hall : ([9, 3].all fun u => !Tryd.prog.wantsStandIn u) = true := by kernel_rfl
  exact (show Tryd.prog.wantsStandIn t = false by simpa using List.all_eq_true.1 hall t hm)

theorem card : Rows.InsDecodesUptoCardSaid :=
  Claim7.holds_tied_plain_at .later [] _ _ _ _ said (fun _ h => by cases h) (by kernel_rfl) (fun _ h => by cases h) insDecodesUpto_row_tie rfl ⟨rfl, rfl⟩ (by kernel_rfl) rfl plain (by kernel_rfl)
end Go.Proofs.YtcllbbdkihmpgaaDoor.insDecodes
namespace Go.Proofs.YtcllbbdkihmpgaaDoor
/-- The statement. -/
theorem insDecodesUpto_holds : Rows.InsDecodesUptoCardSaid := insDecodes.card
#print axioms insDecodesUpto_holds
end Go.Proofs.YtcllbbdkihmpgaaDoor

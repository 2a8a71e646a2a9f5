/- TsoRuns, walked. -/
import Derived.Test.YtneclfaamgfoeaaDoorEBx
import Derived.Test.YtneclfaamgfoeaaDoorEAy
namespace Go.Proofs.YtneclfaamgfoeaaDoor
open Go.RowKit Go.Maps
set_option linter.unusedVariables false
set_option linter.unusedSimpArgs false

set_option maxRecDepth 100000 in
set_option maxHeartbeats 8000000 in
theorem runs_any {w : World} {v : Value} {m : ImgD} (h : ImgV w v m) (hl : m.syms.length ≤ 8796093022208) {a : Option Addr} {l c : Nat} {ps0 : List Int} (hp : IntsV w a l c ps0) (ht : Tab w) :
    Calls Tryd.prog 4 #[v, .slice a l c] w fun e w' => e = .returned (.bool true) ∧ Below w.heap.size w w' := by
  obtain ⟨a1, l1, c1, a2, l2, c2, rfl, hs, h1, h2⟩ := h.form
  obtain ⟨W1, hW1⟩ : ∃ W1, w.alloc (.cells #[.string m.code, .slice a1 l1 c1, .slice a2 l2 c2] 25) = W1 := ⟨_, rfl⟩
  have b1 : Below w.heap.size w W1 := by subst hW1; exact bl_one _ _
  have v0 : W1.cell? ⟨w.heap.size, 0, none⟩ = some (.string m.code) := by subst hW1; exact cell_last _ _ _ _ _ rfl rfl
  have v1 : W1.cell? ⟨w.heap.size, 1, none⟩ = some (.slice a1 l1 c1) := by subst hW1; exact cell_last _ _ _ _ _ rfl rfl
  have v2 : W1.cell? ⟨w.heap.size, 2, none⟩ = some (.slice a2 l2 c2) := by subst hW1; exact cell_last _ _ _ _ _ rfl rfl
  have HB1 : Hid (Below w.heap.size w W1) := b1
  have HI : Hid (ImgV W1 (.agg #[.string m.code, .slice a1 l1 c1, .slice a2 l2 c2]) m) := h.below b1
  have HLS : Hid (m.syms.length ≤ 8796093022208) := hl
  have HT1 : Hid (Tab W1) := ht.below b1
  have HFW : Hid (Calls Tryd.prog 13 #[.slice a l c, .int .i64 400] W1 fun e w' => (∃ l', e = .returned (.slice a l' c) ∧ IntsV W1 a l' c (ps0.take 400) ∧ l' ≤ 400) ∧ w' = W1) := few_any (hp.below b1) 400 (by decide)
  clear h h1 h2 hl b1 hp ht
  go_enter Tryd.func4, Tryd.ntmps4
  go_wp2_with fail
  refine HFW.out.mono ?_
  rintro e y1 ⟨⟨l', rfl, hp', hl'⟩, rfl⟩
  obtain ⟨ps, hps⟩ : ∃ ps, ps0.take 400 = ps := ⟨_, rfl⟩
  rw [hps] at hp'
  have HP : Hid (IntsV y1 a l' c ps) := hp'
  clear hp' hps
  cases hm : m.may with
  | false =>
    have HRN : Hid (∀ (y : World) p, Below y1.heap.size y1 y → Calls Tryd.prog 23 #[.agg #[.string m.code, .slice a1 l1 c1, .slice a2 l2 c2], p] y fun e w' => e = .returned (.tuple #[.slice none 0 0, .int .i64 1]) ∧ Below y.heap.size y w') := fun y p hy => run_no (HI.out.below hy) HLS.out hm
    have HXN : Hid (∀ (y : World) p, Below y1.heap.size y1 y → Calls Tryd.prog 24 #[.agg #[.string m.code, .slice a1 l1 c1, .slice a2 l2 c2], p] y fun e w' => e = .returned (.tuple #[.slice none 0 0, .int .i64 1]) ∧ Below y.heap.size y w') := fun y p hy => xrun_no (HI.out.below hy) HLS.out hm
    clear hm
    go_wp2_with fail
    refine (HRN.out _ _ (Below.refl _ _)).mono ?_
    rintro e y2 ⟨rfl, hb2⟩
    have v0 := cell_up hb2 v0
    have v1 := cell_up hb2 v1
    have v2 := cell_up hb2 v2
    have HB2 : Hid (Below y1.heap.size y1 y2) := hb2
    clear hb2
    go_wp2_with fail
    refine (HXN.out _ _ HB2.out).mono ?_
    rintro e y3 ⟨rfl, hb3⟩
    have HB3 : Hid (Below y1.heap.size y1 y3) := HB2.out.trans (hb3.mono HB2.out.size)
    have HSE : Hid (Calls Tryd.prog 21 #[.slice none 0 0, .slice none 0 0] y3 fun e w' => e = .returned (.bool true) ∧ Below y3.heap.size y3 w') := sameE_any (B := 0) (B' := 0) (es := []) (World.ownsRow_nil _ _ _ _) (World.ownsRow_nil _ _ _ _)
    clear hb3 v0 v1 v2
    go_wp2_with fail
    refine HSE.out.mono ?_
    rintro e y4 ⟨rfl, hb4⟩
    have HB4 : Hid (Below y1.heap.size y1 y4) := HB3.out.trans (hb4.mono HB3.out.size)
    have HLV : Hid (Calls Tryd.prog 12 #[] y4 fun e w' => e = .returned (.bool true) ∧ Below y4.heap.size y4 w') := live_any y4 (HT1.out.below HB4.out)
    clear hb4
    go_wp2_with fail
    refine HLV.out.mono ?_
    rintro e y5 ⟨rfl, hb5⟩
    have HB5 : Hid (Below w.heap.size w y5) := HB1.out.trans ((HB4.out.trans (hb5.mono HB4.out.size)).mono HB1.out.size)
    clear hb5
    go_wp2
    go_ret
    exact ⟨rfl, HB5.out⟩
  | true =>
    have HR1 : Hid (Calls Tryd.prog 23 #[.agg #[.string m.code, .slice a1 l1 c1, .slice a2 l2 c2], .slice a l' c] y1 fun e w' => RunIs y1.heap.size e w' (T.runs m.mach ps).es ∧ Below y1.heap.size y1 w') := run_yes HI.out HLS.out hm HP.out (by omega) HT1.out
    have HR2 : Hid (∀ y, Below y1.heap.size y1 y → Calls Tryd.prog 24 #[.agg #[.string m.code, .slice a1 l1 c1, .slice a2 l2 c2], .slice a l' c] y fun e w' => RunIs y.heap.size e w' (T.runs m.mach ps).es ∧ Below y.heap.size y w') := fun y hy => xrun_yes (HI.out.below hy) HLS.out hm (HP.out.below hy) (by omega)
    obtain ⟨es, hes⟩ : ∃ es, (T.runs m.mach ps).es = es := ⟨_, rfl⟩
    rw [hes] at HR1 HR2
    clear hm hes
    go_wp2_with fail
    refine HR1.out.mono ?_
    rintro e y2 ⟨⟨va, rfl, hoa⟩, hb2⟩
    have v0 := cell_up hb2 v0
    have v1 := cell_up hb2 v1
    have v2 := cell_up hb2 v2
    have HB2 : Hid (Below y1.heap.size y1 y2) := hb2
    have HOA : Hid (y2.ownsRow y1.heap.size 81 3 va es.length (es.flatMap eC)) := hoa
    clear hb2 hoa
    go_wp2_with fail
    refine (HR2.out _ HB2.out).mono ?_
    rintro e y3 ⟨⟨vb, rfl, hob⟩, hb3⟩
    have HB3 : Hid (Below y1.heap.size y1 y3) := HB2.out.trans (hb3.mono HB2.out.size)
    have HSE : Hid (Calls Tryd.prog 21 #[va, vb] y3 fun e w' => e = .returned (.bool true) ∧ Below y3.heap.size y3 w') := sameE_any (own_below HOA.out hb3) hob
    clear hb3 hob v0 v1 v2
    go_wp2_with fail
    refine HSE.out.mono ?_
    rintro e y4 ⟨rfl, hb4⟩
    have HB4 : Hid (Below y1.heap.size y1 y4) := HB3.out.trans (hb4.mono HB3.out.size)
    have HLV : Hid (Calls Tryd.prog 12 #[] y4 fun e w' => e = .returned (.bool true) ∧ Below y4.heap.size y4 w') := live_any y4 (HT1.out.below HB4.out)
    clear hb4
    go_wp2_with fail
    refine HLV.out.mono ?_
    rintro e y5 ⟨rfl, hb5⟩
    have HB5 : Hid (Below w.heap.size w y5) := HB1.out.trans ((HB4.out.trans (hb5.mono HB4.out.size)).mono HB1.out.size)
    clear hb5
    go_wp2
    go_ret
    exact ⟨rfl, HB5.out⟩

end Go.Proofs.YtneclfaamgfoeaaDoor

/- Proved: TsoRuns answers true for every image and every picks (the reach that the form gives is the only bound), where the tables of instructions are what their initialisers lay (the card ties that to the program): the events of any picks are those of the document's machine that does them. -/
namespace Go.Proofs.YtneclfaamgfoeaaDoor.tsoRuns
open Go.ChangeShapes Go.WideShapes Go.ChangeAt Go.RowKit
open Go.ChangeMaps (open_string shut_string)
set_option linter.unusedVariables false
set_option maxRecDepth 100000

theorem own : ownKnob Tryd.prog.godebug = none := by kernel_rfl
theorem laidO : laidOutB Tryd.prog = true := by kernel_rfl

/-! ### The row -/
theorem contract (H : Type) (enc : TypeId × Value → H) (W : World) (base : Nat) (args : Array Value) (ds gs : List (DataW H)) (before : List MemPlace)
    (hval : ∀ (j : Nat) t v, Tryd.f4.params[j]? = some t → args[j]? = some v → Value.okWide Tryd.prog W .any base t v)
    (hW : DataW.Whole enc Tryd.prog Tryd.f4.params.toList Rows.tsoRunsSpec.vars false W args.toList ds gs before) (hsz : (DataW.weightsEach Tryd.prog (Tryd.f4.params.toList ++ Rows.tsoRunsSpec.plain.varTypes Tryd.prog) (ds ++ gs)).all (· ≤ reachBytes) = true) (hT : Tab W) :
    Calls Tryd.prog 4 args W fun e W' => ∃ v, e = .returned v ∧ Rows.tsoRunsSpec.post enc Tryd.prog Tryd.f4 false true false false W args v W' := by
  have hW' := hW
  obtain ⟨p, q, hA0, hV, rfl, hfz, hnd⟩ := hW
  have hA : DataW.TrodAll enc Tryd.prog W 0 (fun _ => true) true Tryd.f4.params.toList args.toList ds p := hA0
  have hlt := hA.lt
  rw [Tryd.params4] at hA hval hsz
  obtain ⟨v0, vs0, d0, ds0, p0, q0, hargs, rfl, rfl, h0, r0⟩ := trodAll_cons hA
  obtain ⟨v1, vs1, d1, ds1, p1, q1, rfl, rfl, rfl, h1, r1⟩ := trodAll_cons r0
  obtain ⟨rfl, rfl, rfl⟩ := trodAll_nil r1
  obtain rfl : args = #[v0, v1] := by cases args; simp_all
  obtain ⟨rfl, rfl⟩ := trodVars_none hV
  obtain ⟨m0, V0⟩ := open_img (fun _ => rfl) (hval 0 25 v0 rfl rfl) h0
  have hl0 : m0.syms.length ≤ 8796093022208 := by
    have h1 := (img_sized (hval 0 25 v0 rfl rfl) h0 V0 (R := reachBytes) (fun n hn => by
      have h2 := List.all_eq_true.1 hsz n (DataW.weights_mem_each (j := 0) rfl rfl n hn)
      simpa using h2)).2
    have h3 : reachBytes = 140737488351232 := rfl
    omega
  obtain ⟨x1, y1, t1, rfl⟩ := okWide_slice Tryd.underlying26 (hval 1 26 v1 rfl rfl)
  have hh1 := h1
  obtain ⟨fuel1, g1⟩ := hh1
  obtain ⟨a1, l1, c1, zs1, e1, V1, -⟩ := open_N (v := .slice x1 y1 t1) (fun _ => rfl) g1
  cases e1
  clear hA0
  simp only [List.append_nil] at hW'
  refine (runs_any V0 hl0 V1 hT).mono fun e W' ⟨he, hg⟩ => ?_
  subst he
  exact ⟨_, rfl, _, _, _, [], _, [], hW', (trodAll_cons_mk (shut_bool Tryd.underlying4 _) trodAll_mk0), (trodAll_cons_mk (Below.trod laidO (by kernel_rfl) (of_decide_eq_true (by kernel_rfl)) h0 hg (fun x hx => hlt x (by simp [hx]))) (trodAll_cons_mk (Below.trod laidO (by kernel_rfl) (of_decide_eq_true (by kernel_rfl)) h1 hg (fun x hx => hlt x (by simp [hx]))) trodAll_mk0)), rfl, hg.frame _, fun h => by cases h⟩

theorem laid_met (os : Os) : laidMet Tryd.prog Rows.tsoRunsRow.laid ((laidWorld os).forCall (fun _ _ => 0) ⟨#[], #[.agg #[.string { data := #[] }, .slice none 0 0, .slice none 0 0], .slice none 0 0], []⟩).memory :=
  laidMet_of_run' 8 (by kernel_rfl) (by kernel_rfl)
theorem reads (os : Os) {H : Type} (enc : TypeId × Value → H) : ∃ places, DataW.whole enc Tryd.prog ((laidWorld os).forCall (fun _ _ => 0) ⟨#[], #[.agg #[.string { data := #[] }, .slice none 0 0, .slice none 0 0], .slice none 0 0], []⟩).memory Tryd.f4.params.toList Rows.tsoRunsSpec.vars false (#[.agg #[.string { data := #[] }, .slice none 0 0, .slice none 0 0], .slice none 0 0] : Array Value).toList 8 = some ([.agg [.lit (.string []), .nil, .nil], .nil], [], places) :=
  ⟨[], by kernel_rfl⟩

set_option maxRecDepth 100000 in
theorem lifted (os : Os) (started : os.Started) (H : Type) (enc : TypeId × Value → H) (F : Stop.Interp) :
    ReturnsInHanded {} Tryd.checked os 4 .any ((OpenSpec.ofChange Rows.tsoRunsSpec).preRow enc Tryd.prog Tryd.f4 Rows.tsoRunsRow.domain false Rows.tsoRunsRow.laid) (((OpenSpec.ofChange Rows.tsoRunsSpec).at F).post enc Tryd.prog Tryd.f4 false true false false) := by
  obtain ⟨places, hx⟩ := reads os enc
  refine returnsInHanded_of_row (C := Tryd.checked) (s := OpenSpec.ofChange Rows.tsoRunsSpec) own started (by kernel_rfl) Tryd.func4
    (witness_row_at (enc := enc) (C := Tryd.checked) false (laidWorld os) #[.agg #[.string { data := #[] }, .slice none 0 0, .slice none 0 0], .slice none 0 0] rfl (by kernel_rfl) (by kernel_rfl) (by kernel_rfl)
      (OpenSpec.preRow_of_cond 8 hx (by kernel_rfl) (fun k hk => by cases hk) (by kernel_rfl) (laid_met os))) ?_
  intro W base args ds gs before hval hW _ hcond hsz hL _ _
  exact contract H enc W base args ds gs before hval hW hsz (tab_of_laid hL)

theorem said : Rows.TsoRunsSaid :=
  OpenClaim.holds_of_cond 4 Tryd.f4 rfl rfl rfl rfl rfl rfl rfl ⟨rfl, rfl, rfl, rfl, rfl⟩ rfl rfl rfl rfl rfl (by kernel_rfl) Tryd.func4 (by kernel_rfl)
    (of_decide_eq_true (by kernel_rfl)) (by unfold Func.isWrapper; first | (rw [if_pos (by decide +kernel)]; kernel_rfl) | (rw [if_neg (by decide +kernel)]; exact ⟨rfl, rfl⟩))
    (fun os started H enc _ F => by rw [OpenClaim.pre_eq_preRow]; exact lifted os started H enc F)

/-- No parameter wants a stand-in; the program's own looks are off: what the card asks. -/
theorem plain (f : FuncId) (fn : Func) (hf : Tryd.pinned.checked.prog.funcNamed "cotter/cotterlaw05.TsoRuns" = some f) (hfn : Tryd.pinned.checked.prog.funcs[f]? = some fn) :
    false = Tryd.pinned.checked.prog.looks [] ∧ ∀ (j : Nat) t, fn.params[j]? = some t → Tryd.pinned.checked.prog.wantsStandIn t = false := by
  obtain rfl : f = 4 := Option.some.inj ((show Tryd.prog.funcNamed "cotter/cotterlaw05.TsoRuns" = some 4 by kernel_rfl).symm.trans hf) |>.symm
  obtain rfl : fn = Tryd.f4 := (Option.some.inj (Tryd.func4.symm.trans hfn)).symm
  refine ⟨by kernel_rfl, fun j t ht => ?_⟩
  rw [Tryd.params4] at ht
  have hm : t ∈ [25, 26] := by simpa using Array.mem_of_getElem? ht
  have hall : ([25, 26].all fun u => !Tryd.prog.wantsStandIn u) = true := by kernel_rfl
  exact (show Tryd.prog.wantsStandIn t = false by simpa using List.all_eq_true.1 hall t hm)

theorem card : Rows.TsoRunsCardSaid :=
  Claim7.holds_tied_plain_at .later [] _ _ _ _ said (fun _ h => by cases h) (by kernel_rfl) (fun _ h => by cases h) tsoRuns_row_tie rfl ⟨rfl, rfl⟩ (by kernel_rfl) rfl plain (by kernel_rfl)
end Go.Proofs.YtneclfaamgfoeaaDoor.tsoRuns
namespace Go.Proofs.YtneclfaamgfoeaaDoor
/-- The statement. -/
theorem tsoRuns_holds : Rows.TsoRunsCardSaid := tsoRuns.card
#print axioms tsoRuns_holds
end Go.Proofs.YtneclfaamgfoeaaDoor

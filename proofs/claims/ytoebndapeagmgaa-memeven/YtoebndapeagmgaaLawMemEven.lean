/- Proved: MemEven answers true for every three footprints (no condition): who races with whom is so in either order, what reads alone races with nothing that reads alone, what is put together races with whom one of them does, and the given answers of the layer stand. -/
import Derived.Test.YtoebndapeagmgaaMemEven
import Derived.Test.YtoebndapeagmgaaMemOpen
namespace Go.Proofs.Ytoebndapeagmgaa.memEven
open Go.ChangeShapes Go.WideShapes Go.ChangeAt Go.RowKit
set_option linter.unusedVariables false

theorem own : ownKnob Try.prog.godebug = none := by kernel_rfl
theorem laidO : laidOutB Try.prog = true := by kernel_rfl

set_option maxRecDepth 100000 in
set_option maxHeartbeats 8000000 in
theorem even_few {w : World} {a1 a2 b1 b2 k1 k2 : Option Addr} {l1 c1 l2 c2 m1 d1 m2 d2 n1 e1 n2 e2 : Nat} {ra wa rb wb rc wc : List Int}
    (hA1 : View w a1 l1 c1 ra) (hA2 : View w a2 l2 c2 wa) (hB1 : View w b1 m1 d1 rb) (hB2 : View w b2 m2 d2 wb) (hC1 : View w k1 n1 e1 rc) (hC2 : View w k2 n2 e2 wc)
    (hs : ((decide (ra.length ≤ 40) && decide (wa.length ≤ 40)) && ((decide (rb.length ≤ 40) && decide (wb.length ≤ 40)) && (decide (rc.length ≤ 40) && decide (wc.length ≤ 40)))) = false) :
    Calls Try.prog 6 #[.agg #[.slice a1 l1 c1, .slice a2 l2 c2], .agg #[.slice b1 m1 d1, .slice b2 m2 d2], .agg #[.slice k1 n1 e1, .slice k2 n2 e2]] w fun e w' => e = .returned (.bool true) ∧ Below w.heap.size w w' := by
  have FA : Hid (∀ {x : World}, Below w.heap.size w x → FootV x (.agg #[.slice a1 l1 c1, .slice a2 l2 c2]) ra wa) := fun hb => ⟨⟨_, _, _, _, _, _, rfl, hA1.below hb, hA2.below hb⟩⟩
  have FB : Hid (∀ {x : World}, Below w.heap.size w x → FootV x (.agg #[.slice b1 m1 d1, .slice b2 m2 d2]) rb wb) := fun hb => ⟨⟨_, _, _, _, _, _, rfl, hB1.below hb, hB2.below hb⟩⟩
  have FC : Hid (∀ {x : World}, Below w.heap.size w x → FootV x (.agg #[.slice k1 n1 e1, .slice k2 n2 e2]) rc wc) := fun hb => ⟨⟨_, _, _, _, _, _, rfl, hC1.below hb, hC2.below hb⟩⟩
  clear hA1 hA2 hB1 hB2 hC1 hC2
  generalize hfa : (decide (ra.length ≤ 40) && decide (wa.length ≤ 40)) = fa at *
  generalize hfb : (decide (rb.length ≤ 40) && decide (wb.length ≤ 40)) = fb at *
  generalize hfc : (decide (rc.length ≤ 40) && decide (wc.length ≤ 40)) = fc at *
  have HFA : Hid _ := hfa
  have HFB : Hid _ := hfb
  have HFC : Hid _ := hfc
  clear hfa hfb hfc
  have bl3 : Below w.heap.size w (((w.alloc (.cells #[.slice a1 l1 c1, .slice a2 l2 c2] 40)).alloc (.cells #[.slice b1 m1 d1, .slice b2 m2 d2] 40)).alloc (.cells #[.slice k1 n1 e1, .slice k2 n2 e2] 40)) := ((bl_one w _).alloc (by simp) _).alloc (by simp; omega) _
  go_enter Try.func6, Try.ntmps6
  go_wp2_with fail
  refine (few_any (FA.out bl3)).mono ?_
  rintro e x1 ⟨rfl, hb1⟩
  rw [HFA.out]
  have q1 : Below w.heap.size w x1 := bl3.trans (hb1.mono (by simp; omega))
  cases fa with
  | false =>
    clear hb1
    go_wp2_with (go_at_call 8; refine (live_any _).mono ?_; rintro e y ⟨rfl, hb⟩)
    go_ret
    exact ⟨rfl, q1.trans (hb.mono q1.size)⟩
  | true =>
    have c10 : x1.cell? ⟨w.heap.size + 1, 0, none⟩ = some (.slice b1 m1 d1) := (hb1.cell (p := ⟨w.heap.size + 1, 0, none⟩) (by simp)).trans (cB _ _ _ _ _ _ _ rfl)
    have c11 : x1.cell? ⟨w.heap.size + 1, 1, none⟩ = some (.slice b2 m2 d2) := (hb1.cell (p := ⟨w.heap.size + 1, 1, none⟩) (by simp)).trans (cB _ _ _ _ _ _ _ rfl)
    have c20 : x1.cell? ⟨w.heap.size + 1 + 1, 0, none⟩ = some (.slice k1 n1 e1) := (hb1.cell (p := ⟨w.heap.size + 1 + 1, 0, none⟩) (by simp)).trans (cC _ _ _ _ _ _ _ rfl)
    have c21 : x1.cell? ⟨w.heap.size + 1 + 1, 1, none⟩ = some (.slice k2 n2 e2) := (hb1.cell (p := ⟨w.heap.size + 1 + 1, 1, none⟩) (by simp)).trans (cC _ _ _ _ _ _ _ rfl)
    clear hb1
    generalize w.heap.size + 1 + 1 = gc at *
    go_wp2_with fail
    refine (few_any (FB.out q1)).mono ?_
    rintro e x2 ⟨rfl, hb2⟩
    rw [HFB.out]
    have q2 : Below w.heap.size w x2 := q1.trans (hb2.mono q1.size)
    cases fb with
    | false =>
      clear hb2
      go_wp2_with (go_at_call 8; refine (live_any _).mono ?_; rintro e y ⟨rfl, hb⟩)
      go_ret
      exact ⟨rfl, q2.trans (hb.mono q2.size)⟩
    | true =>
      obtain rfl : fc = false := by simpa using hs
      have d20 := cell_thru' hb2 c20
      have d21 := cell_thru' hb2 c21
      clear hb2
      go_wp2_with (first | (go_at_call 22; refine (few_any (FC.out q2)).mono ?_; rintro e x3 ⟨rfl, hb3⟩; rw [HFC.out]) | (go_at_call 8; refine (live_any _).mono ?_; rintro e y ⟨rfl, hb⟩))
      go_ret
      exact ⟨rfl, (q2.trans (hb3.mono q2.size)).trans (hb.mono (Nat.le_trans q2.size hb3.size))⟩

theorem walk {w : World} {a1 a2 b1 b2 k1 k2 : Option Addr} {l1 c1 l2 c2 m1 d1 m2 d2 n1 e1 n2 e2 : Nat} {ra wa rb wb rc wc : List Int}
    (hA1 : View w a1 l1 c1 ra) (hA2 : View w a2 l2 c2 wa) (hB1 : View w b1 m1 d1 rb) (hB2 : View w b2 m2 d2 wb) (hC1 : View w k1 n1 e1 rc) (hC2 : View w k2 n2 e2 wc) :
    Calls Try.prog 6 #[.agg #[.slice a1 l1 c1, .slice a2 l2 c2], .agg #[.slice b1 m1 d1, .slice b2 m2 d2], .agg #[.slice k1 n1 e1, .slice k2 n2 e2]] w fun e w' => e = .returned (.bool true) ∧ Below w.heap.size w w' := by
  cases h : ((decide (ra.length ≤ 40) && decide (wa.length ≤ 40)) && ((decide (rb.length ≤ 40) && decide (wb.length ≤ 40)) && (decide (rc.length ≤ 40) && decide (wc.length ≤ 40)))) with
  | false => exact even_few hA1 hA2 hB1 hB2 hC1 hC2 h
  | true =>
    simp only [Bool.and_eq_true, decide_eq_true_eq] at h
    exact even_all hA1 hA2 hB1 hB2 hC1 hC2 h.1.1 h.1.2 h.2.1.1 h.2.1.2 h.2.2.1 h.2.2.2

/-! ### The row -/
set_option maxRecDepth 100000 in
theorem lifted (os : Os) (started : os.Started) (H : Type) (enc : TypeId × Value → H) :
    ReturnsInHanded {} Try.checked os 6 .any (Rows.memEvenSpec.pre6 enc Try.prog Try.f6 Rows.memEvenRow.domain false) (Rows.memEvenSpec.post enc Try.prog Try.f6 false true false false) := by
  refine returnsInHanded_of_change (C := Try.checked) own started (by kernel_rfl) Try.func6
    (ChangeSpec.witness6 (enc := enc) (C := Try.checked) false ⟨#[], #[.agg #[.slice none 0 0, .slice none 0 0], .agg #[.slice none 0 0, .slice none 0 0], .agg #[.slice none 0 0, .slice none 0 0]], []⟩ 8 (by kernel_rfl) (by kernel_rfl) (by kernel_rfl) (by kernel_rfl)) ?_
  intro W base args ds gs before hval0 hW hcnd _
  have hval : ∀ (j : Nat) t v, Try.f6.params[j]? = some t → args[j]? = some v → Value.okWide Try.prog W .any base t v := hval0
  have hW' := hW
  obtain ⟨p, q, hA0, hV, rfl, hfz, hnd⟩ := hW
  have hA : DataW.TrodAll enc Try.prog W 0 (fun _ => true) true Try.f6.params.toList args.toList ds p := hA0
  have hlt := hA.lt
  rw [Try.params6] at hA hval
  obtain ⟨v0, vs0, d0, ds0, p0, q0, hargs, rfl, rfl, h0, r0⟩ := trodAll_cons hA
  obtain ⟨v1, vs1, d1, ds1, p1, q1, rfl, rfl, rfl, h1, r1⟩ := trodAll_cons r0
  obtain ⟨v2, vs2, d2, ds2, p2, q2, rfl, rfl, rfl, h2, r2⟩ := trodAll_cons r1
  obtain ⟨rfl, rfl, rfl⟩ := trodAll_nil r2
  obtain rfl : args = #[v0, v1, v2] := by cases args; simp_all
  obtain ⟨rfl, rfl⟩ := trodVars_none hV
  obtain ⟨_, _, _, _, _, _, _, _, rfl, A1, A2⟩ := open_foot (fun _ => rfl) (hval 0 40 v0 rfl rfl) h0
  obtain ⟨_, _, _, _, _, _, _, _, rfl, B1, B2⟩ := open_foot (fun _ => rfl) (hval 1 40 v1 rfl rfl) h1
  obtain ⟨_, _, _, _, _, _, _, _, rfl, C1, C2⟩ := open_foot (fun _ => rfl) (hval 2 40 v2 rfl rfl) h2
  clear hA0 hval0
  simp only [List.append_nil] at hW'
  refine (walk A1 A2 B1 B2 C1 C2).mono fun e W' ⟨he, hg⟩ => ?_
  subst he
  exact ⟨_, rfl, _, _, _, [], _, [], hW', (trodAll_cons_mk (shut_bool Try.underlying4 _) trodAll_mk0), (trodAll_cons_mk (Below.trod laidO (by kernel_rfl) (of_decide_eq_true (by kernel_rfl)) h0 hg (fun x hx => hlt x (by simp [hx]))) (trodAll_cons_mk (Below.trod laidO (by kernel_rfl) (of_decide_eq_true (by kernel_rfl)) h1 hg (fun x hx => hlt x (by simp [hx]))) (trodAll_cons_mk (Below.trod laidO (by kernel_rfl) (of_decide_eq_true (by kernel_rfl)) h2 hg (fun x hx => hlt x (by simp [hx]))) trodAll_mk0))), rfl, hg.frame _, fun h => by cases h⟩

theorem over : Rows.memEvenRow.holds Try.pinned (OpenSpec.ofChange Rows.memEvenSpec) :=
  OpenClaim.holds_of_wide 6 Try.f6 rfl rfl rfl rfl rfl rfl rfl ⟨rfl, rfl, rfl, rfl, rfl⟩ rfl rfl rfl rfl rfl (by kernel_rfl) Try.func6 (by kernel_rfl)
    (of_decide_eq_true (by kernel_rfl)) (by unfold Func.isWrapper; first | (rw [if_pos (by decide +kernel)]; kernel_rfl) | (rw [if_neg (by decide +kernel)]; exact ⟨rfl, rfl⟩))
    (fun os started H enc _ => lifted os started H enc)

end Go.Proofs.Ytoebndapeagmgaa.memEven
namespace Go.Proofs.Ytoebndapeagmgaa
/-- The statement. -/
theorem memEven_holds : Rows.MemEvenSaid := memEven.over
#print axioms memEven_holds
end Go.Proofs.Ytoebndapeagmgaa

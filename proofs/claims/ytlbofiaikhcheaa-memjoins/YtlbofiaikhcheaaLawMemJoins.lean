/- Proved: MemJoins answers true for every list of footprints and every two footprints (no condition): what Join answers is what the document puts together, Clash answers as the document does, and the footprints are as they were. -/
import Derived.Test.YtlbofiaikhcheaaMemJoins
import Derived.Test.YtlbofiaikhcheaaMemOpenF
namespace Go.Proofs.Ytlbofiaikhcheaa.memJoins
open Go.ChangeShapes Go.WideShapes Go.ChangeAt Go.RowKit
set_option linter.unusedVariables false

theorem own : ownKnob Try.prog.godebug = none := by kernel_rfl
theorem laidO : laidOutB Try.prog = true := by kernel_rfl

set_option maxRecDepth 100000 in
set_option maxHeartbeats 8000000 in
theorem joins_many {w : World} {a a1 a2 b1 b2 : Option Addr} {len cap l1 c1 l2 c2 m1 d1 m2 d2 : Nat} (h8 : 8 < len) :
    Calls Try.prog 5 #[.slice a len cap, .agg #[.slice a1 l1 c1, .slice a2 l2 c2], .agg #[.slice b1 m1 d1, .slice b2 m2 d2]] w fun e w' => e = .returned (.bool true) ∧ Below w.heap.size w w' := by
  have bl2 : Below w.heap.size w ((w.alloc (.cells #[.slice a1 l1 c1, .slice a2 l2 c2] 40)).alloc (.cells #[.slice b1 m1 d1, .slice b2 m2 d2] 40)) := (bl_one w _).alloc (by simp) _
  have hl8 : decide ((8 : Int) < len) = true := by simp; omega
  go_enter Try.func5, Try.ntmps5
  go_wp2_with (go_at_call 8; refine (live_any _).mono ?_; rintro e y ⟨rfl, hb⟩)
  go_ret
  exact ⟨rfl, bl2.trans (hb.mono (by simp; omega))⟩

set_option maxRecDepth 100000 in
set_option maxHeartbeats 8000000 in
theorem joins_few {w : World} {a a1 a2 b1 b2 : Option Addr} {len cap l1 c1 l2 c2 m1 d1 m2 d2 : Nat} {fs : List (List Int × List Int)} {ra wa rb wb : List Int} (h : FootsV w a len fs) (hA1 : View w a1 l1 c1 ra) (hA2 : View w a2 l2 c2 wa) (hB1 : View w b1 m1 d1 rb) (hB2 : View w b2 m2 d2 wb) (h8 : len ≤ 8) (hs : ((decide (ra.length ≤ 40) && decide (wa.length ≤ 40)) && (decide (rb.length ≤ 40) && decide (wb.length ≤ 40))) = false) :
    Calls Try.prog 5 #[.slice a len cap, .agg #[.slice a1 l1 c1, .slice a2 l2 c2], .agg #[.slice b1 m1 d1, .slice b2 m2 d2]] w fun e w' => e = .returned (.bool true) ∧ Below w.heap.size w w' := by
  have FA : Hid (∀ {x : World}, Below w.heap.size w x → FootV x (.agg #[.slice a1 l1 c1, .slice a2 l2 c2]) ra wa) := fun hb => ⟨⟨_, _, _, _, _, _, rfl, hA1.below hb, hA2.below hb⟩⟩
  have FB : Hid (∀ {x : World}, Below w.heap.size w x → FootV x (.agg #[.slice b1 m1 d1, .slice b2 m2 d2]) rb wb) := fun hb => ⟨⟨_, _, _, _, _, _, rfl, hB1.below hb, hB2.below hb⟩⟩
  clear hA1 hA2 hB1 hB2 h
  generalize hfa : (decide (ra.length ≤ 40) && decide (wa.length ≤ 40)) = fa at *
  generalize hfb : (decide (rb.length ≤ 40) && decide (wb.length ≤ 40)) = fb at *
  have HFA : Hid _ := hfa
  have HFB : Hid _ := hfb
  have hl8 : decide ((8 : Int) < len) = false := by simp; omega
  clear hfa hfb
  obtain ⟨W2, hW2⟩ : ∃ W2, (w.alloc (.cells #[.slice a1 l1 c1, .slice a2 l2 c2] 40)).alloc (.cells #[.slice b1 m1 d1, .slice b2 m2 d2] 40) = W2 := ⟨_, rfl⟩
  have bl2 : Below w.heap.size w W2 := by subst hW2; exact (bl_one w _).alloc (by simp) _
  have cA0 : W2.cell? ⟨w.heap.size, 0, none⟩ = some (.slice a1 l1 c1) := by subst hW2; rw [World.cell?_alloc_past _ _ _ (by simp)]; simp
  have cA1 : W2.cell? ⟨w.heap.size, 1, none⟩ = some (.slice a2 l2 c2) := by subst hW2; rw [World.cell?_alloc_past _ _ _ (by simp)]; simp
  have cB0 : W2.cell? ⟨w.heap.size + 1, 0, none⟩ = some (.slice b1 m1 d1) := by subst hW2; exact cell_last _ _ _ _ _ (by simp) rfl
  have cB1 : W2.cell? ⟨w.heap.size + 1, 1, none⟩ = some (.slice b2 m2 d2) := by subst hW2; exact cell_last _ _ _ _ _ (by simp) rfl
  go_enter Try.func5, Try.ntmps5
  go_wp2_with fail
  refine (few_any (FA.out bl2)).mono ?_
  rintro e x1 ⟨rfl, hx1⟩
  rw [HFA.out]
  have q1 : Below w.heap.size w x1 := bl2.trans (hx1.mono bl2.size)
  cases fa with
  | false =>
    clear hx1
    go_wp2_with (go_at_call 8; refine (live_any _).mono ?_; rintro e y ⟨rfl, hb⟩)
    go_ret
    exact ⟨rfl, q1.trans (hb.mono q1.size)⟩
  | true =>
    obtain rfl : fb = false := by simpa using hs
    have d0 := cell_thruJ hx1 cB0
    have d1' := cell_thruJ hx1 cB1
    clear hx1
    go_wp2_with fail
    refine (few_any (FB.out q1)).mono ?_
    rintro e x2 ⟨rfl, hx2⟩
    rw [HFB.out]
    have q2 : Below w.heap.size w x2 := q1.trans (hx2.mono q1.size)
    clear hx2
    go_wp2_with (go_at_call 8; refine (live_any _).mono ?_; rintro e y ⟨rfl, hb⟩)
    go_ret
    exact ⟨rfl, q2.trans (hb.mono q2.size)⟩

theorem walk {w : World} {a a1 a2 b1 b2 : Option Addr} {len cap l1 c1 l2 c2 m1 d1 m2 d2 : Nat} {fs : List (List Int × List Int)} {ra wa rb wb : List Int} (h : FootsV w a len fs) (hA1 : View w a1 l1 c1 ra) (hA2 : View w a2 l2 c2 wa) (hB1 : View w b1 m1 d1 rb) (hB2 : View w b2 m2 d2 wb) :
    Calls Try.prog 5 #[.slice a len cap, .agg #[.slice a1 l1 c1, .slice a2 l2 c2], .agg #[.slice b1 m1 d1, .slice b2 m2 d2]] w fun e w' => e = .returned (.bool true) ∧ Below w.heap.size w w' := by
  by_cases h8 : len ≤ 8
  · cases hs : ((decide (ra.length ≤ 40) && decide (wa.length ≤ 40)) && (decide (rb.length ≤ 40) && decide (wb.length ≤ 40))) with
    | false => exact joins_few h hA1 hA2 hB1 hB2 h8 hs
    | true =>
      simp only [Bool.and_eq_true, decide_eq_true_eq] at hs
      exact joins_all h hA1 hA2 hB1 hB2 h8 hs.1.1 hs.1.2 hs.2.1 hs.2.2
  · exact joins_many (by omega)

/-! ### The row -/
set_option maxRecDepth 100000 in
theorem lifted (os : Os) (started : os.Started) (H : Type) (enc : TypeId × Value → H) :
    ReturnsInHanded {} Try.checked os 5 .any (Rows.memJoinsSpec.pre6 enc Try.prog Try.f5 Rows.memJoinsRow.domain false) (Rows.memJoinsSpec.post enc Try.prog Try.f5 false true false false) := by
  refine returnsInHanded_of_change (C := Try.checked) own started (by kernel_rfl) Try.func5
    (ChangeSpec.witness6 (enc := enc) (C := Try.checked) false ⟨#[], #[.slice none 0 0, .agg #[.slice none 0 0, .slice none 0 0], .agg #[.slice none 0 0, .slice none 0 0]], []⟩ 8 (by kernel_rfl) (by kernel_rfl) (by kernel_rfl) (by kernel_rfl)) ?_
  intro W base args ds gs before hval0 hW hcnd _
  have hval : ∀ (j : Nat) t v, Try.f5.params[j]? = some t → args[j]? = some v → Value.okWide Try.prog W .any base t v := hval0
  have hW' := hW
  obtain ⟨p, q, hA0, hV, rfl, hfz, hnd⟩ := hW
  have hA : DataW.TrodAll enc Try.prog W 0 (fun _ => true) true Try.f5.params.toList args.toList ds p := hA0
  have hlt := hA.lt
  rw [Try.params5] at hA hval
  obtain ⟨v0, vs0, d0, ds0, p0, q0, hargs, rfl, rfl, h0, r0⟩ := trodAll_cons hA
  obtain ⟨v1, vs1, d1, ds1, p1, q1, rfl, rfl, rfl, h1, r1⟩ := trodAll_cons r0
  obtain ⟨v2, vs2, d2, ds2, p2, q2, rfl, rfl, rfl, h2, r2⟩ := trodAll_cons r1
  obtain ⟨rfl, rfl, rfl⟩ := trodAll_nil r2
  obtain rfl : args = #[v0, v1, v2] := by cases args; simp_all
  obtain ⟨rfl, rfl⟩ := trodVars_none hV
  obtain ⟨a0, l0, c0, rfl⟩ := okWide_slice Try.underlying51 (hval 0 51 v0 rfl rfl)
  have h0' := h0
  obtain ⟨fuel, g0⟩ := h0'
  obtain ⟨a, len, cap, fs, e0, FV, -, -⟩ := open_foots (v := .slice a0 l0 c0) (fun _ => rfl) g0
  cases e0
  obtain ⟨_, _, _, _, _, _, _, _, rfl, B1, B2⟩ := open_foot (fun _ => rfl) (hval 1 40 v1 rfl rfl) h1
  obtain ⟨_, _, _, _, _, _, _, _, rfl, C1, C2⟩ := open_foot (fun _ => rfl) (hval 2 40 v2 rfl rfl) h2
  clear hA0 hval0
  simp only [List.append_nil] at hW'
  refine (walk FV B1 B2 C1 C2).mono fun e W' ⟨he, hg⟩ => ?_
  subst he
  exact ⟨_, rfl, _, _, _, [], _, [], hW', (trodAll_cons_mk (shut_bool Try.underlying4 _) trodAll_mk0), (trodAll_cons_mk (Below.trod laidO (by kernel_rfl) (of_decide_eq_true (by kernel_rfl)) h0 hg (fun x hx => hlt x (by simp [hx]))) (trodAll_cons_mk (Below.trod laidO (by kernel_rfl) (of_decide_eq_true (by kernel_rfl)) h1 hg (fun x hx => hlt x (by simp [hx]))) (trodAll_cons_mk (Below.trod laidO (by kernel_rfl) (of_decide_eq_true (by kernel_rfl)) h2 hg (fun x hx => hlt x (by simp [hx]))) trodAll_mk0))), rfl, hg.frame _, fun h => by cases h⟩

theorem over : Rows.memJoinsRow.holds Try.pinned (OpenSpec.ofChange Rows.memJoinsSpec) :=
  OpenClaim.holds_of_wide 5 Try.f5 rfl rfl rfl rfl rfl rfl rfl ⟨rfl, rfl, rfl, rfl, rfl⟩ rfl rfl rfl rfl rfl (by kernel_rfl) Try.func5 (by kernel_rfl)
    (of_decide_eq_true (by kernel_rfl)) (by unfold Func.isWrapper; first | (rw [if_pos (by decide +kernel)]; kernel_rfl) | (rw [if_neg (by decide +kernel)]; exact ⟨rfl, rfl⟩))
    (fun os started H enc _ => lifted os started H enc)

end Go.Proofs.Ytlbofiaikhcheaa.memJoins
namespace Go.Proofs.Ytlbofiaikhcheaa
/-- The statement. -/
theorem memJoins_holds : Rows.MemJoinsSaid := memJoins.over
#print axioms memJoins_holds
end Go.Proofs.Ytlbofiaikhcheaa

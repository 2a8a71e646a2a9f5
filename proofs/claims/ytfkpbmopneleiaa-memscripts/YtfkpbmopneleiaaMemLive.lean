/- The layer's given answers stand. -/
import Derived.Test.YtfkpbmopneleiaaMemFoot
namespace Go.Proofs.Ytfkpbmopneleiaa
open Go.RowKit Go.Maps
set_option linter.unusedVariables false

def lrs : List Reg := [⟨0, [5, 6], true⟩, ⟨64, [7], false⟩]
theorem lrs_may : may lrs = true := by decide
theorem lrs_ok : AllOk lrs := by
  intro i hi
  rcases (show i = 0 ∨ i = 1 by simp [lrs] at hi; omega) with rfl | rfl <;> decide
theorem lrs_fits : ∀ r ∈ lrs, ∀ n ∈ r.words, (Lit.int .i64 n).wf = true := by
  intro r hr n hn
  simp [lrs] at hr
  rcases hr with rfl | rfl
  · simp at hn; rcases hn with rfl | rfl <;> decide
  · simp at hn; subst hn; decide
theorem l8 {i j : Nat} (h : Loc lrs 8 i j) : wordAt lrs i j = 6 := by
  obtain ⟨-, hi, hr, -, hj, -⟩ := h
  rcases (show i = 0 ∨ i = 1 by simp [lrs] at hi; omega) with rfl | rfl
  · have : j = 1 := by simp [lrs] at hj; omega
    subst this
    rfl
  · exact absurd hr (by decide)
theorem l8n : ¬ NoLoc lrs 8 := by
  rintro (h | h)
  · exact h (by decide)
  · exact absurd (h 0 (by decide)) (by decide)
theorem l16 {i j : Nat} : ¬ Loc lrs 16 i j := by
  rintro ⟨-, hi, hr, -⟩
  rcases (show i = 0 ∨ i = 1 by simp [lrs] at hi; omega) with rfl | rfl
  · exact absurd hr (by decide)
  · exact absurd hr (by decide)
theorem l64 {i j : Nat} (h : Loc lrs 64 i j) : (lrs.getD i noReg).write = false := by
  obtain ⟨-, hi, hr, -⟩ := h
  rcases (show i = 0 ∨ i = 1 by simp [lrs] at hi; omega) with rfl | rfl
  · exact absurd hr (by decide)
  · rfl
theorem ris_one {L : List Int} {R : List Int} (h : M.Ris L (· ∈ R)) {x : Int} (hR : ∀ y, y ∈ R ↔ y = x) : L = [x] := by
  refine M.ris_unique h (K := [x]) (q := fun y => y = x) ⟨by simp, by simp⟩ hR
theorem ris_none {L : List Int} (h : M.Ris L (· ∈ ([] : List Int))) : L = [] := by
  refine M.ris_unique h (K := []) (q := fun y => False) ⟨by simp, by simp⟩ (by simp)

theorem view_lit (w : World) (zs : List Int) (b : Nat) (hc : ∀ i, i < zs.length → w.cell? ⟨b, i, none⟩ = some (.int .i64 (zs.getD i 0))) (hf : ∀ n ∈ zs, (Lit.int .i64 n).wf = true) : View w (some ⟨b, 0, none⟩) zs.length zs.length zs :=
  ⟨rfl, hf, by simp, .inr ⟨b, 0, rfl, fun i hi => by rw [Nat.zero_add]; exact hc i hi⟩⟩

theorem live_regs (w : World) : RegsV (((w.alloc (.cells #[.int .i64 5, .int .i64 6] 2)).alloc (.cells #[.int .i64 7] 2)).alloc (.cells #[.int .i64 0, .slice (some ⟨w.heap.size, 0, none⟩) 2 2, .bool true, .int .i64 64, .slice (some ⟨w.heap.size + 1, 0, none⟩) 1 1, .bool false] 26)) (some ⟨w.heap.size + 1 + 1, 0, none⟩) 2 2 lrs := by
  have d : ∀ (n : Nat) (x : World), n = x.heap.size → ∀ c t i, (x.alloc (.cells c t)).cell? ⟨n, i, none⟩ = c[i]? := fun n x h c t i => by subst h; simp
  have c2 : ∀ i, (((w.alloc (.cells #[.int .i64 5, .int .i64 6] 2)).alloc (.cells #[.int .i64 7] 2)).alloc (.cells #[.int .i64 0, .slice (some ⟨w.heap.size, 0, none⟩) 2 2, .bool true, .int .i64 64, .slice (some ⟨w.heap.size + 1, 0, none⟩) 1 1, .bool false] 26)).cell? ⟨w.heap.size + 1 + 1, i, none⟩ = (#[.int .i64 0, .slice (some ⟨w.heap.size, 0, none⟩) 2 2, .bool true, .int .i64 64, .slice (some ⟨w.heap.size + 1, 0, none⟩) 1 1, .bool false] : Array Value)[i]? := fun i => d _ _ (by simp) _ _ i
  have c1 : ∀ i, (((w.alloc (.cells #[.int .i64 5, .int .i64 6] 2)).alloc (.cells #[.int .i64 7] 2)).alloc (.cells #[.int .i64 0, .slice (some ⟨w.heap.size, 0, none⟩) 2 2, .bool true, .int .i64 64, .slice (some ⟨w.heap.size + 1, 0, none⟩) 1 1, .bool false] 26)).cell? ⟨w.heap.size + 1, i, none⟩ = (#[.int .i64 7] : Array Value)[i]? := fun i => by
    rw [World.cell?_alloc_past _ _ _ (by simp)]; exact d _ _ (by simp) _ _ i
  have c0 : ∀ i, (((w.alloc (.cells #[.int .i64 5, .int .i64 6] 2)).alloc (.cells #[.int .i64 7] 2)).alloc (.cells #[.int .i64 0, .slice (some ⟨w.heap.size, 0, none⟩) 2 2, .bool true, .int .i64 64, .slice (some ⟨w.heap.size + 1, 0, none⟩) 1 1, .bool false] 26)).cell? ⟨w.heap.size, i, none⟩ = (#[.int .i64 5, .int .i64 6] : Array Value)[i]? := fun i => by
    rw [World.cell?_alloc_past _ _ _ (by simp; omega), World.cell?_alloc_past _ _ _ (by simp)]; exact d _ _ rfl _ _ i
  refine ⟨rfl, Nat.le_refl _, by decide, ?_, .inr ⟨_, 0, rfl, fun i hi => ?_⟩⟩
  · intro r hr
    simp [lrs] at hr
    rcases hr with rfl | rfl <;> decide
  · rcases (show i = 0 ∨ i = 1 by omega) with rfl | rfl
    · refine ⟨_, _, _, c2 0, c2 1, c2 2, view_lit _ [5, 6] _ ?_ ?_⟩
      · intro i hi
        rcases (show i = 0 ∨ i = 1 by simp at hi; omega) with rfl | rfl
        · exact c0 0
        · exact c0 1
      · exact lrs_fits ⟨0, [5, 6], true⟩ (by simp [lrs])
    · refine ⟨_, _, _, c2 3, c2 4, c2 5, view_lit _ [7] _ ?_ ?_⟩
      · intro i hi
        obtain rfl : i = 0 := by simp at hi; omega
        exact c1 0
      · exact lrs_fits ⟨64, [7], false⟩ (by simp [lrs])

theorem live_foot (w : World) : FootV (w.alloc (.cells #[.int .i64 8] 2)) (.agg #[.slice (some ⟨w.heap.size, 0, none⟩) 1 1, .slice none 0 0]) [8] [] := by
  refine ⟨⟨_, _, _, _, _, _, rfl, view_lit _ [8] _ ?_ ?_, view_nil _⟩⟩
  · intro i hi
    obtain rfl : i = 0 := by simp at hi; omega
    simp
  · intro n hn
    simp at hn
    subst hn
    decide

set_option maxRecDepth 100000 in
set_option maxHeartbeats 4000000 in
theorem live_any (w : World) : Calls Try.prog 8 #[] w fun e w' => e = .returned (.bool true) ∧ Below w.heap.size w w' := by
  have HV : Hid _ := live_regs w
  go_enter Try.func8, Try.ntmps8
  go_wp2_with fail
  refine (new_yes HV.out lrs_may (by decide) (by intro i hi; rcases (show i = 0 ∨ i = 1 by omega) with rfl | rfl <;> decide) lrs_fits).mono ?_
  rintro e w1 ⟨bm, br, bw, lv, bs, rfl, hm, hb1⟩
  have H1 : Hid _ := hm
  have q1 : Below w.heap.size w w1 := (((bl_one w _).alloc (by simp) _).alloc (by simp; omega) _).trans (hb1.mono (by simp; omega))
  have z1 := hb1.size
  simp at z1
  clear hb1 hm HV
  go_wp2_with fail
  refine (load_any H1.out lrs_ok 8 (by decide) (by decide) (by simp; omega)).mono ?_
  rintro e w2 ⟨hb2, ⟨i, j, hl, rfl, hm⟩ | ⟨hl, -⟩⟩
  case inr => exact absurd hl l8n
  rw [l8 hl]
  have H2 : Hid _ := hm
  have q2 : Below w.heap.size w w2 := q1.trans (hb2.mono (by simp; omega))
  have z2 := hb2.size
  clear hb2 hm H1 hl
  go_wp2_with fail
  refine (load_any H2.out lrs_ok 16 (by decide) (by decide) (by simp; omega)).mono ?_
  rintro e w3 ⟨hb3, ⟨i', j', hl, -⟩ | ⟨-, rfl, hm⟩⟩
  case inl => exact absurd hl l16
  have H3 : Hid _ := hm
  have q3 : Below w.heap.size w w3 := q2.trans (hb3.mono (by simp; omega))
  have z3 := hb3.size
  clear hb3 hm H2
  go_wp2_with fail
  refine (store_any H3.out lrs_ok 64 1 (by decide) (by decide) (by decide) (by simp; omega)).mono ?_
  rintro e w4 ⟨hb4, ⟨i', j', hl, hwr, -⟩ | ⟨-, rfl, hm⟩⟩
  case inl => rw [l64 hl] at hwr; cases hwr
  have H4 : Hid _ := hm
  have q4 : Below w.heap.size w w4 := q3.trans (hb4.mono (by simp; omega))
  have z4 := hb4.size
  clear hb4 hm H3
  go_wp2_with fail
  refine (foot_any H4.out (by simp; omega) (by decide) (by decide)).mono ?_
  rintro e w5 ⟨a, c, L, a', c', L', x, y, rfl, r1, r2, f1, f2, o1, o2, hm, hb5⟩
  have hL : L = [8] := ris_one r1 (by simp)
  have hL' : L' = [] := ris_none r2
  subst hL hL'
  have q5 : Below w.heap.size w w5 := q4.trans (hb5.mono (by simp; omega))
  obtain ⟨_, _, e1, v1⟩ := view_own f1 o1
  obtain ⟨_, _, e2, v2⟩ := view_own f2 o2
  simp only [Value.slice.injEq, true_and] at e1 e2
  obtain ⟨rfl, rfl⟩ := e1
  obtain ⟨rfl, rfl⟩ := e2
  have FV1 : Hid (FootV w5 (.agg #[.slice a 1 c, .slice a' 0 c']) [8] []) := ⟨⟨a, 1, c, a', 0, c', rfl, v1, v2⟩⟩
  have FV2 : Hid (FootV (w5.alloc (.cells #[.int .i64 8] 2)) (.agg #[.slice (some ⟨w5.heap.size, 0, none⟩) 1 1, .slice none 0 0]) [8] []) := live_foot w5
  clear hb5 hm H4 o1 o2 v1 v2 r1 r2 f1 f2
  go_wp2_with (go_at_call 15; refine (samefoot_any (FV1.out.below (bl_one _ _)) FV2.out (by decide) (by decide) (by decide) (by decide)).mono ?_; rintro e w6 ⟨rfl, hb6⟩)
  go_ret
  exact ⟨rfl, (q5.alloc q5.size _).trans (hb6.mono (by have := q5.size; simp; omega))⟩

end Go.Proofs.Ytfkpbmopneleiaa

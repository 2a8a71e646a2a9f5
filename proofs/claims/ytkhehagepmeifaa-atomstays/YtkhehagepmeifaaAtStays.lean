/- Objects that may be still may be, and an operation turns no other. (Written by gen_stays.py.) -/
import Derived.Test.YtkhehagepmeifaaAtLive
import Derived.Test.YtkhehagepmeifaaAtMay
import Derived.Test.YtkhehagepmeifaaAtOpen
namespace Go.Proofs.Ytkhehagepmeifaa
open Go.RowKit Go.Maps Go.Lib
set_option linter.unusedVariables false
set_option linter.unusedSimpArgs false

theorem may_at {os : List At} (h : mayAll os = true) {k : Nat} (hk : k < os.length) : atOk os k = true := by
  unfold mayAll at h
  rw [List.all_eq_true] at h
  exact h k (List.mem_range.2 hk)
theorem step_kind {x : At} {own d arg : Int} (h : kindOk x = true) (o1 : 1 ≤ own) (o4 : own ≤ 4) (hd : decide (x.cap = 0) = decide (d ≤ 2)) (d1 : 1 ≤ d) (d4 : d ≤ 4) : kindOk (stepA x own d arg).1 = true := by
  unfold stepA
  by_cases e1 : d = 1
  · rw [if_pos e1]
    split
    · exact h
    · have hc : x.cap = 0 := by rw [e1] at hd; simpa using hd
      unfold kindOk at h ⊢
      simp only [hc, if_true, Bool.and_eq_true, decide_eq_true_eq] at h ⊢
      omega
  rw [if_neg e1]
  by_cases e2 : d = 2
  · rw [if_pos e2]
    split
    · exact h
    · have hc : x.cap = 0 := by rw [e2] at hd; simpa using hd
      unfold kindOk at h ⊢
      simp only [hc, if_true, Bool.and_eq_true, decide_eq_true_eq] at h ⊢
      omega
  rw [if_neg e2]
  have hc : ¬ x.cap = 0 := by
    intro hc
    rw [decide_eq_true hc] at hd
    have : d ≤ 2 := by simpa using hd.symm
    omega
  unfold kindOk at h
  simp only [if_neg hc, Bool.and_eq_true, decide_eq_true_eq, List.all_eq_true] at h
  by_cases e3 : d = 3
  · rw [if_pos e3]
    split
    · unfold kindOk
      simp only [if_neg hc, Bool.and_eq_true, decide_eq_true_eq, List.all_eq_true]
      exact h
    · rename_i hn
      unfold kindOk
      simp only [if_neg hc, Bool.and_eq_true, decide_eq_true_eq, List.all_eq_true, List.length_append, List.length_singleton]
      refine ⟨h.1, h.2.1, by omega, fun n hnm => ?_⟩
      rcases List.mem_append.1 hnm with hm | hm
      · exact h.2.2.2 n hm
      · simp at hm; subst hm; omega
  · rw [if_neg e3]
    split
    · unfold kindOk
      simp only [if_neg hc, Bool.and_eq_true, decide_eq_true_eq, List.all_eq_true]
      exact h
    · unfold kindOk
      simp only [if_neg hc, Bool.and_eq_true, decide_eq_true_eq, List.all_eq_true, List.length_drop]
      exact ⟨h.1, h.2.1, by omega, fun n hnm => h.2.2.2 n (List.mem_of_mem_drop hnm)⟩
theorem step_name (x : At) (own d arg : Int) : (stepA x own d arg).1.name = x.name := by
  unfold stepA
  split
  · split <;> rfl
  split
  · split <;> rfl
  split
  · split <;> rfl
  · split <;> rfl
theorem step_came (x : At) (own d arg : Int) (h : (stepA x own d arg).2.2 ≠ 0) : (stepA x own d arg).1 = x := by
  unfold stepA at h ⊢
  split at h
  · rename_i e; rw [if_pos e]; split at h
    · rename_i e2; rw [if_pos e2]
    · exact absurd rfl h
  rename_i e; rw [if_neg e]
  split at h
  · rename_i e2; rw [if_pos e2]; split at h
    · rename_i e3; rw [if_pos e3]
    · exact absurd rfl h
  rename_i e2; rw [if_neg e2]
  split at h
  · split at h <;> exact absurd rfl h
  · split at h <;> exact absurd rfl h
theorem doA_cases (os : List At) (th d : Int) (nm : ByteArray) (arg : Int) : ((doA os th d nm arg).1 = os) ∨ (badA os th d = false ∧ ¬ d = 5 ∧ whereA os nm < os.length ∧ decide ((os.getD (whereA os nm) noAt).cap = 0) = decide (d ≤ 2) ∧ doA os th d nm arg = (os.set (whereA os nm) (stepA (os.getD (whereA os nm) noAt) (th + 1) d arg).1, (stepA (os.getD (whereA os nm) noAt) (th + 1) d arg).2)) := by
  unfold doA
  by_cases hb : badA os th d = true
  · rw [if_pos hb]; exact .inl rfl
  rw [if_neg hb]
  by_cases h5 : d = 5
  · rw [if_pos h5]; exact .inl rfl
  rw [if_neg h5]
  by_cases hw : whereA os nm < os.length
  · rw [if_neg (by simpa using hw)]
    by_cases hc : decide ((os.getD (whereA os nm) noAt).cap = 0) = decide (d ≤ 2)
    · rw [if_neg (by simpa using hc)]
      exact .inr ⟨by simpa using hb, h5, hw, hc, rfl⟩
    · rw [if_pos hc]; exact .inl rfl
  · rw [if_pos hw]; exact .inl rfl
theorem set_may {os : List At} {k : Nat} {x : At} (h : mayAll os = true) (hk : k < os.length) (hn : x.name = (os.getD k noAt).name) (hx : kindOk x = true) : mayAll (os.set k x) = true := by
  have nameEq : ∀ i, i < os.length → ((os.set k x).getD i noAt).name = (os.getD i noAt).name := by
    intro i hi
    by_cases e : k = i
    · subst e; rw [getD_set_eq _ _ _ hk, hn]
    · rw [getD_set_ne _ _ _ e]
  refine all_range_yes (fun i hi => ?_)
  rw [List.length_set] at hi
  have hi0 := may_at h hi
  unfold atOk at hi0 ⊢
  rw [Bool.and_eq_true] at hi0 ⊢
  refine ⟨all_range_yes (fun j hj => ?_), ?_⟩
  · rw [nameEq i hi, nameEq j (by omega)]
    unfold freeName at hi0
    rw [List.all_eq_true] at hi0
    exact hi0.1 j (List.mem_range.2 hj)
  · unfold oneOk at hi0 ⊢
    rw [nameEq i hi, Bool.and_eq_true]
    rw [Bool.and_eq_true] at hi0
    refine ⟨hi0.2.1, ?_⟩
    by_cases e : k = i
    · subst e; rw [getD_set_eq _ _ _ hk]; exact hx
    · rw [getD_set_ne _ _ _ e]; exact hi0.2.2
theorem doA_may {os : List At} {th d : Int} {nm : ByteArray} {arg : Int} (h : mayAll os = true) : mayAll (doA os th d nm arg).1 = true := by
  rcases doA_cases os th d nm arg with e | ⟨hb, h5, hw, hc, e⟩
  · rw [e]; exact h
  · rw [e]
    unfold badA at hb
    simp only [Bool.or_eq_false_iff, decide_eq_false_iff_not] at hb
    refine set_may h hw (step_name _ _ _ _) (step_kind ?_ (by omega) (by omega) hc (by omega) (by omega))
    have := may_at h hw
    unfold atOk oneOk at this
    simp only [Bool.and_eq_true] at this
    exact this.2.2
theorem doA_other {os : List At} {th d : Int} {nm : ByteArray} {arg : Int} {k : Nat} (h : (os.getD k noAt).name ≠ nm ∨ (doA os th d nm arg).2.2 ≠ 0) : (doA os th d nm arg).1.getD k noAt = os.getD k noAt := by
  rcases doA_cases os th d nm arg with e | ⟨hb, h5, hw, hc, e⟩
  · rw [e]
  · rw [e] at h ⊢
    rcases h with h | h
    · refine getD_set_ne _ _ _ (fun e2 => h ?_)
      rw [← e2]; exact where_eq hw
    · show (os.set _ _).getD k noAt = _
      rw [step_came _ _ _ _ h, set_same]
theorem AtsV.one {w : World} {b off l c : Nat} {os : List At} (h : AtsV w (some ⟨b, off, none⟩) l c os) {k : Nat} (hk : k < l) : AtsV w (some ⟨b, off + k * 4, none⟩) 1 (c - k) [os.getD k noAt] := by
  have hr := h.room
  refine ⟨rfl, fun x hx => by simp at hx; subst hx; exact h.fit hk, fun e => (by cases e), ⟨by omega, by omega⟩, .inr ⟨b, off + k * 4, rfl, fun i hi => ?_⟩⟩
  obtain rfl : i = 0 := by omega
  rcases h.cells with h0 | ⟨b', off', ha, hc⟩
  · omega
  · cases ha
    simpa using hc k hk
theorem AtsV.drewA {w : World} {a : Option Addr} {l c : Nat} {os : List At} (h : AtsV w a l c os) : AtsV w.drew a l c os := h.below (Below.refl _ _).drew
theorem may_items {os : List At} (h : mayAll os = true) : ∀ x ∈ os, x.items.length * 8 ≤ 140737488355328 := fun x hx => by
  obtain ⟨i, hi, rfl⟩ := List.getElem_of_mem hx
  have := may_item h hi
  simp [List.getD, hi] at this
  omega

set_option maxRecDepth 100000 in
set_option maxHeartbeats 8000000 in
theorem stays_any {w : World} {a : Option Addr} {l c : Nat} {os : List At} (h : AtsV w a l c os) {a2 : Option Addr} {l2 c2 : Nat} {ss : List Stp} (h2 : StpsV w a2 l2 c2 ss) :
    Calls Try.prog 4 #[.slice a l c, .slice a2 l2 c2] w fun e w' => e = .returned (.bool true) ∧ Below w.heap.size w w' := by
  have HV : Hid _ := h
  have HS : Hid _ := h2
  have hrm := h2.room
  have hmax : maxLen = 9223372036854775807 := rfl
  clear h h2
  by_cases h60 : l ≤ 60
  rotate_left
  · go_enter Try.func4, Try.ntmps4
    go_wp2_with fail
    refine (few_any _).mono ?_
    rintro e y ⟨rfl, rfl⟩
    rw [decide_eq_false h60]
    go_wp2_with fail
    refine (live_any _).mono ?_
    rintro e y7 ⟨rfl, g7⟩
    have B7 : Hid _ := g7
    clear g7
    go_wp2
    go_ret
    exact ⟨rfl, B7.out⟩
  go_enter Try.func4, Try.ntmps4
  go_wp2_with fail
  refine (few_any _).mono ?_
  rintro e y ⟨rfl, rfl⟩
  rw [decide_eq_true h60]
  go_wp2_with fail
  refine (rmay_any HV.out).mono ?_
  rintro e x0 ⟨rfl, g0⟩
  have B0 : Hid _ := g0
  clear g0
  cases hm : mayAll os with
  | false =>
    go_wp2_with fail
    refine (live_any _).mono ?_
    rintro e y7 ⟨rfl, g7⟩
    have B7 : Hid _ := B0.out.trans (g7.mono B0.out.size)
    clear g7
    go_wp2
    go_ret
    exact ⟨rfl, B7.out⟩
  | true =>
    have HV0 : Hid _ := HV.out.below B0.out
    have HM0 : Hid _ := hm
    clear hm
    go_wp2_with fail
    go_loopg [5, 6] l2 (fun r nv iv wq => ∃ (k cn : Nat) (an : Option Addr) (os1 : List At), nv = .slice an l cn ∧ iv = .int .i64 k ∧ k ≤ l2 ∧ k ≤ 60 ∧ l2 - k ≤ r ∧ Hid (AtsV wq an l cn os1 ∧ mayAll os1 = true) ∧ Hid (Below y.heap.size y wq))
    case atStart => exact ⟨0, c, a, os, rfl, rfl, Nat.zero_le _, by omega, by omega, ⟨HV0.out, HM0.out⟩, B0.out⟩
    case round =>
      obtain ⟨k, cn, an, os1, rfl, rfl, hk, hk60, hr, HA1, HBL⟩ := hrel
      by_cases hlt : k < l2 ∧ k < 60
      rotate_left
      · have key : (k : Int) < l2 ∧ ¬ (k : Int) < 60 ∨ ¬ (k : Int) < l2 := by omega
        clear hlt
        rcases key with ⟨hs1, hs2⟩ | hs1
        all_goals
          go_wp2_with fail
          refine (live_any _).mono ?_
          rintro e y7 ⟨rfl, g7⟩
          have B7 : Hid _ := HBL.out.trans (g7.mono HBL.out.size)
          clear g7
          go_wp2
          go_ret
          exact ⟨rfl, B7.out⟩
      obtain ⟨hlt, hlt60⟩ := hlt
      rcases HS.out.cells with h0 | ⟨b, off, hA, hc⟩
      · omega
      obtain ⟨q0, q1, q2, q3⟩ := hc k hlt
      have q0 := cell_thru HBL.out q0
      have q1 := cell_thru HBL.out q1
      have q2 := cell_thru HBL.out q2
      have q3 := cell_thru HBL.out q3
      have HFS : Hid _ := HS.out.fits (ss.getD k noStp) (by have := HS.out.count; simp [List.getD, show k < ss.length by omega])
      obtain ⟨⟨st, sd, sn, sa⟩, hs⟩ : ∃ s, ss.getD k noStp = s := ⟨_, rfl⟩
      rw [hs] at q0 q1 q2 q3 HFS
      simp only at q0 q1 q2 q3 HFS
      cases hA
      have hii : (k : Int) < l2 := by omega
      have hi60 : (k : Int) < 60 := by omega
      have hin : 0 ≤ (k : Int) := by omega
      clear hc hs
      obtain ⟨Y1, hY1⟩ : ∃ Y1, wr.alloc (.cells #[.int .i64 st, .int .i64 sd, .string sn, .int .i64 sa] 24) = Y1 := ⟨_, rfl⟩
      have bY : Below wr.heap.size wr Y1 := by subst hY1; exact bl_one _ _
      have g0 : Y1.cell? ⟨wr.heap.size, 0, none⟩ = some (.int .i64 st) := by subst hY1; exact cell_last rfl rfl
      have g1 : Y1.cell? ⟨wr.heap.size, 1, none⟩ = some (.int .i64 sd) := by subst hY1; exact cell_last rfl rfl
      have g2 : Y1.cell? ⟨wr.heap.size, 2, none⟩ = some (.string sn) := by subst hY1; exact cell_last rfl rfl
      have g3 : Y1.cell? ⟨wr.heap.size, 3, none⟩ = some (.int .i64 sa) := by subst hY1; exact cell_last rfl rfl
      have HAY : Hid _ := HA1.out.1.below bY
      have BY : Hid (Below y.heap.size y Y1) := HBL.out.trans (bY.mono HBL.out.size)
      have HG2 : Hid _ := g2
      clear bY
      go_wp2_with fail
      refine (do_any HAY.out (by omega) (may_items HA1.out.2) st sd sn sa HFS.out.2.2.2).mono ?_
      rintro e y1 ⟨rfl, h1, gg⟩
      have hf1 := doA_fit (th := st) (d := sd) (nm := sn) (arg := sa) HAY.out.fits HFS.out.2.2.2
      have A1 : Hid _ := h1.ats hf1
      have N1 : Hid _ := HAY.out.below gg
      have B1 : Hid (Below y.heap.size y y1) := BY.out.trans (gg.mono BY.out.size)
      have HM1 : Hid (mayAll (doA os1 st sd sn sa).1 = true) := doA_may HA1.out.2
      have HOT : Hid (∀ j, ((os1.getD j noAt).name ≠ sn ∨ (doA os1 st sd sn sa).2.2 ≠ 0) → (doA os1 st sd sn sa).1.getD j noAt = os1.getD j noAt) := fun j hj => doA_other hj
      have G2 : Hid _ := cell_thru gg g2
      generalize (doA os1 st sd sn sa).1 = os2 at A1 HM1 HOT
      generalize (doA os1 st sd sn sa).2.1 = n1 at *
      generalize (doA os1 st sd sn sa).2.2 = n2 at *
      clear h1 gg hf1 g0 g1 g2 g3 q0 q1 q2 q3
      have hdl : ((l : Int) != (l : Int)) = false := by simp
      obtain ⟨gq, hgq⟩ : ∃ gq, Y1.heap.size + 1 = gq := ⟨_, rfl⟩
      rw [hgq] at A1 ⊢
      clear hgq
      go_wp2_with fail
      refine (rmay_any A1.out).mono ?_
      rintro e y2 ⟨rfl, g2⟩
      rw [HM1.out]
      have A2 : Hid _ := A1.out.below g2
      have N2 : Hid _ := N1.out.below g2
      have G3 : Hid _ := cell_thru g2 G2.out
      have B2 : Hid (Below y.heap.size y y2) := B1.out.trans (g2.mono B1.out.size)
      obtain ⟨bx, hbx⟩ : ∃ bx, wr.heap.size = bx := ⟨_, rfl⟩
      rw [hbx] at G3 ⊢
      clear g2 A1 N1 G2 HG2 HAY BY hY1 HBL hbx
      have HA0 : Hid _ := HA1.out.2
      clear HA1
      generalize wr = wo at *
      go_wp2_with fail
      go_loopg [11] l (fun r jv wq => ∃ (j : Nat), jv = .int .i64 j ∧ j ≤ l ∧ l - j ≤ r ∧ Hid (Below y2.heap.size y2 wq))
      case atStart => exact ⟨0, rfl, Nat.zero_le _, by omega, Below.refl _ _⟩
      case round =>
        obtain ⟨j, rfl, hj, hr2, HBI⟩ := hrel
        by_cases hltj : j < l
        · rcases N2.out.cells with h0 | ⟨b', off', hAn, hcn⟩
          · omega
          have t0 := cell_thru HBI.out (hcn j hltj).1
          have t2 := cell_thru HBI.out G3.out
          cases hAn
          have N3 : Hid _ := (N2.out.one hltj).below HBI.out
          have A3 : Hid (AtsV wr (some ⟨gq, j * 4, none⟩) 1 (l - j) [os2.getD j noAt]) := by have := (A2.out.one hltj).below HBI.out; rw [Nat.zero_add] at this; exact this
          have HOJ : Hid _ := HOT.out j
          have hroomN := N2.out.room
          obtain ⟨xj, hxj⟩ : ∃ x, os1.getD j noAt = x := ⟨_, rfl⟩
          rw [hxj] at t0 N3 HOJ
          clear hcn hxj
          have hji : (j : Int) < l := by omega
          have hjn : 0 ≤ (j : Int) := by omega
          have hjc : (j : Int) + 1 ≤ cn := by omega
          have hjl : (j : Int) + 1 ≤ l := by omega
          have hcj : ¬ cn = j := by omega
          have hlj : ¬ l = j := by omega
          have hwr : IntKind.i64.wrap ((j : Int) + 1) = (j : Int) + 1 := by rw [IntKind.wrap_i64]; omega
          have hto : ((j : Int) + 1).toNat = j + 1 := by omega
          have hj1 : j ≤ j + 1 := by omega
          have hjs : j + 1 - j = 1 := by omega
          have hj0 : 0 ≤ (j : Int) + 1 := by omega
          obtain ⟨xn, hxn⟩ : ∃ n, xj.name = n := ⟨_, rfl⟩
          rw [hxn] at t0 HOJ
          clear hxn
          by_cases hne : xn = sn
          · subst hne
            by_cases hn2 : n2 = 0
            · subst hn2
              go_wp2_with fail
              go_quiet (fail)
              go_wp2_with fail
              go_roundg (l - (j + 1))
              case measure => omega
              case rel => exact ⟨j + 1, by first | rfl | (congr 1; omega), by omega, Nat.le_refl _, bl_drewN HBI.out _⟩
            · have HEQ : Hid (os2.getD j noAt = xj) := HOJ.out (Or.inr hn2)
              have hdn : (n2 != 0) = true := by simpa using hn2
              clear hn2
              go_wp2_with fail
              refine wp_region_held_drew (S := (fun w' : World => w'.cell? ⟨b', off' + j * 4, none⟩ = some (.string xn) ∧ w'.cell? ⟨bx, 2, none⟩ = some (.string xn))) (by kernel_rfl) ⟨t0, t2⟩ (fun hHeld => ?_)
              refine wpAnyH_take (i := 0) (v := ?_) (get0 _ _) (by kernel_rfl) (by kernel_rfl) (by kernel_rfl) (fun _ _ _ h => h) (Or.inl ⟨by rfl, ?_⟩) (by assumption) ?_
              rotate_left
              · (intro w hSw; (try dsimp only at hSw); go_simp <;> with_reducible rfl)
              simp only [Act.put, List.setIfInBounds_toArray, List.set_cons_zero, List.set_cons_succ]
              refine wpAnyH_take (i := 1) (v := ?_) (get1 (get0 _ _)) (by kernel_rfl) (by kernel_rfl) (by kernel_rfl) (fun _ _ _ h => h) (Or.inl ⟨by rfl, ?_⟩) (by assumption) ?_
              rotate_left
              · (intro w hSw; (try dsimp only at hSw); go_simp <;> with_reducible rfl)
              simp only [Act.put, List.setIfInBounds_toArray, List.set_cons_zero, List.set_cons_succ]
              refine wpAnyH_take (i := 2) (v := ?_) (get1 (get1 (get0 _ _))) (by kernel_rfl) (by kernel_rfl) (by kernel_rfl) (fun _ _ _ h => h) (Or.inl ⟨by rfl, ?_⟩) (by assumption) ?_
              rotate_left
              · (intro w hSw; (try dsimp only at hSw); go_simp <;> with_reducible rfl)
              simp only [Act.put, List.setIfInBounds_toArray, List.set_cons_zero, List.set_cons_succ]
              refine wpAnyH_take (i := 3) (v := ?_) (get1 (get1 (get1 (get0 _ _)))) (by kernel_rfl) (by kernel_rfl) (by kernel_rfl) (fun _ _ _ h => h) (Or.inl ⟨by rfl, ?_⟩) (by assumption) ?_
              rotate_left
              · (intro w hSw; (try dsimp only at hSw); go_simp <;> with_reducible rfl)
              simp only [Act.put, List.setIfInBounds_toArray, List.set_cons_zero, List.set_cons_succ]
              refine wpAnyH_take (i := 4) (v := ?_) (get1 (get1 (get1 (get1 (get0 _ _))))) (by kernel_rfl) (by kernel_rfl) (by kernel_rfl) (fun _ _ _ h => h) (Or.inl ⟨by rfl, ?_⟩) (by assumption) ?_
              rotate_left
              · (intro w hSw; (try dsimp only at hSw); go_simp <;> with_reducible rfl)
              simp only [Act.put, List.setIfInBounds_toArray, List.set_cons_zero, List.set_cons_succ]
              refine wpAnyH_take (i := 5) (v := ?_) (get1 (get1 (get1 (get1 (get1 (get0 _ _)))))) (by kernel_rfl) (by kernel_rfl) (by kernel_rfl) (fun _ _ _ h => h) (Or.inl ⟨by rfl, ?_⟩) (by assumption) ?_
              rotate_left
              · (intro w hSw; (try dsimp only at hSw); go_simp <;> with_reducible rfl)
              simp only [Act.put, List.setIfInBounds_toArray, List.set_cons_zero, List.set_cons_succ]
              refine wpAnyH_take (i := 6) (v := ?_) (get1 (get1 (get1 (get1 (get1 (get1 (get0 _ _))))))) (by kernel_rfl) (by kernel_rfl) (by kernel_rfl) (fun _ _ _ h => h) (Or.inl ⟨by rfl, ?_⟩) (by assumption) ?_
              rotate_left
              · (intro w hSw; (try dsimp only at hSw); go_simp <;> with_reducible rfl)
              simp only [Act.put, List.setIfInBounds_toArray, List.set_cons_zero, List.set_cons_succ]
              refine wpAnyH_take (i := 7) (v := ?_) (get1 (get1 (get1 (get1 (get1 (get1 (get1 (get0 _ _)))))))) (by kernel_rfl) (by kernel_rfl) (by kernel_rfl) (fun _ _ _ h => h) (Or.inl ⟨by rfl, ?_⟩) (by assumption) ?_
              rotate_left
              · (intro w hSw; (try dsimp only at hSw); go_simp <;> with_reducible rfl)
              simp only [Act.put, List.setIfInBounds_toArray, List.set_cons_zero, List.set_cons_succ]
              refine wpAnyH_take (i := 8) (v := ?_) (get1 (get1 (get1 (get1 (get1 (get1 (get1 (get1 (get0 _ _))))))))) (by kernel_rfl) (by kernel_rfl) (by kernel_rfl) (fun _ _ _ h => h) (Or.inl ⟨by rfl, ?_⟩) (by assumption) ?_
              rotate_left
              · (intro w hSw; (try dsimp only at hSw); go_simp <;> with_reducible rfl)
              simp only [Act.put, List.setIfInBounds_toArray, List.set_cons_zero, List.set_cons_succ]
              refine wpAnyH_take (i := 9) (v := ?_) (get1 (get1 (get1 (get1 (get1 (get1 (get1 (get1 (get1 (get0 _ _)))))))))) (by kernel_rfl) (by kernel_rfl) (by kernel_rfl) (fun _ _ _ h => h) (Or.inl ⟨by rfl, ?_⟩) (by assumption) ?_
              rotate_left
              · (intro w hSw; (try dsimp only at hSw); go_simp <;> with_reducible rfl)
              simp only [Act.put, List.setIfInBounds_toArray, List.set_cons_zero, List.set_cons_succ]
              refine wpAnyH_take (i := 10) (v := ?_) (get1 (get1 (get1 (get1 (get1 (get1 (get1 (get1 (get1 (get1 (get0 _ _))))))))))) (by kernel_rfl) (by kernel_rfl) (by kernel_rfl) (fun _ _ _ h => h) (Or.inl ⟨by rfl, ?_⟩) (by assumption) ?_
              rotate_left
              · (intro w hSw; (try dsimp only at hSw); go_simp <;> with_reducible rfl)
              simp only [Act.put, List.setIfInBounds_toArray, List.set_cons_zero, List.set_cons_succ]
              refine wpAnyH_take (i := 11) (v := ?_) (get1 (get1 (get1 (get1 (get1 (get1 (get1 (get1 (get1 (get1 (get1 (get0 _ _)))))))))))) (by kernel_rfl) (by kernel_rfl) (by kernel_rfl) (fun _ _ _ h => h) (Or.inl ⟨by rfl, ?_⟩) (by assumption) ?_
              rotate_left
              · (intro w hSw; (try dsimp only at hSw); go_simp <;> with_reducible rfl)
              simp only [Act.put, List.setIfInBounds_toArray, List.set_cons_zero, List.set_cons_succ]
              refine wpAnyH_take (i := 12) (v := ?_) (get1 (get1 (get1 (get1 (get1 (get1 (get1 (get1 (get1 (get1 (get1 (get1 (get0 _ _))))))))))))) (by kernel_rfl) (by kernel_rfl) (by kernel_rfl) (fun _ _ _ h => h) (Or.inl ⟨by rfl, ?_⟩) (by assumption) ?_
              rotate_left
              · (intro w hSw; (try dsimp only at hSw); go_simp <;> with_reducible rfl)
              simp only [Act.put, List.setIfInBounds_toArray, List.set_cons_zero, List.set_cons_succ]
              refine wpAnyH_take (i := 13) (v := ?_) (get1 (get1 (get1 (get1 (get1 (get1 (get1 (get1 (get1 (get1 (get1 (get1 (get1 (get0 _ _)))))))))))))) (by kernel_rfl) (by kernel_rfl) (by kernel_rfl) (fun _ _ _ h => h) (Or.inl ⟨by rfl, ?_⟩) (by assumption) ?_
              rotate_left
              · (intro w hSw; (try dsimp only at hSw); go_simp <;> with_reducible rfl)
              simp only [Act.put, List.setIfInBounds_toArray, List.set_cons_zero, List.set_cons_succ]
              refine wpAnyH_take (i := 14) (v := ?_) (get1 (get1 (get1 (get1 (get1 (get1 (get1 (get1 (get1 (get1 (get1 (get1 (get1 (get1 (get0 _ _))))))))))))))) (by kernel_rfl) (by kernel_rfl) (by kernel_rfl) (fun _ _ _ h => h) (Or.inl ⟨by rfl, ?_⟩) (by assumption) ?_
              rotate_left
              · (intro w hSw; (try dsimp only at hSw); go_simp <;> with_reducible rfl)
              simp only [Act.put, List.setIfInBounds_toArray, List.set_cons_zero, List.set_cons_succ]
              refine wpAnyH_take (i := 15) (v := ?_) (get1 (get1 (get1 (get1 (get1 (get1 (get1 (get1 (get1 (get1 (get1 (get1 (get1 (get1 (get1 (get0 _ _)))))))))))))))) (by kernel_rfl) (by kernel_rfl) (by kernel_rfl) (fun _ _ _ h => h) (Or.inl ⟨by rfl, ?_⟩) (by assumption) ?_
              rotate_left
              · (intro w hSw; (try dsimp only at hSw); go_simp <;> with_reducible rfl)
              simp only [Act.put, List.setIfInBounds_toArray, List.set_cons_zero, List.set_cons_succ]
              refine wpAnyH_take (i := 16) (v := ?_) (get1 (get1 (get1 (get1 (get1 (get1 (get1 (get1 (get1 (get1 (get1 (get1 (get1 (get1 (get1 (get1 (get0 _ _))))))))))))))))) (by kernel_rfl) (by kernel_rfl) (by kernel_rfl) (fun _ _ _ h => h) (Or.inl ⟨by rfl, ?_⟩) (by assumption) ?_
              rotate_left
              · (intro w hSw; (try dsimp only at hSw); go_simp <;> with_reducible rfl)
              simp only [Act.put, List.setIfInBounds_toArray, List.set_cons_zero, List.set_cons_succ]
              refine wpAnyH_take (i := 17) (v := ?_) (get1 (get1 (get1 (get1 (get1 (get1 (get1 (get1 (get1 (get1 (get1 (get1 (get1 (get1 (get1 (get1 (get1 (get0 _ _)))))))))))))))))) (by kernel_rfl) (by kernel_rfl) (by kernel_rfl) (fun _ _ _ h => h) (Or.inl ⟨by rfl, ?_⟩) (by assumption) ?_
              rotate_left
              · (intro w hSw; (try dsimp only at hSw); go_simp <;> with_reducible rfl)
              simp only [Act.put, List.setIfInBounds_toArray, List.set_cons_zero, List.set_cons_succ]
              refine wpAnyH_take (i := 18) (v := ?_) (get1 (get1 (get1 (get1 (get1 (get1 (get1 (get1 (get1 (get1 (get1 (get1 (get1 (get1 (get1 (get1 (get1 (get1 (get0 _ _))))))))))))))))))) (by kernel_rfl) (by kernel_rfl) (by kernel_rfl) (fun _ _ _ h => h) (Or.inl ⟨by rfl, ?_⟩) (by assumption) ?_
              rotate_left
              · (intro w hSw; (try dsimp only at hSw); go_simp <;> with_reducible rfl)
              simp only [Act.put, List.setIfInBounds_toArray, List.set_cons_zero, List.set_cons_succ]
              refine wpAnyH_take (i := 19) (v := ?_) (get1 (get1 (get1 (get1 (get1 (get1 (get1 (get1 (get1 (get1 (get1 (get1 (get1 (get1 (get1 (get1 (get1 (get1 (get1 (get0 _ _)))))))))))))))))))) (by kernel_rfl) (by kernel_rfl) (by kernel_rfl) (fun _ _ _ h => h) (Or.inl ⟨by rfl, ?_⟩) (by assumption) ?_
              rotate_left
              · (intro w hSw; (try dsimp only at hSw); go_simp <;> with_reducible rfl)
              simp only [Act.put, List.setIfInBounds_toArray, List.set_cons_zero, List.set_cons_succ]
              refine wpAnyH_take (i := 20) (v := ?_) (get1 (get1 (get1 (get1 (get1 (get1 (get1 (get1 (get1 (get1 (get1 (get1 (get1 (get1 (get1 (get1 (get1 (get1 (get1 (get1 (get0 _ _))))))))))))))))))))) (by kernel_rfl) (by kernel_rfl) (by kernel_rfl) (fun _ _ _ h => h) (Or.inl ⟨by rfl, ?_⟩) (by assumption) ?_
              rotate_left
              · (intro w hSw; (try dsimp only at hSw); go_simp <;> with_reducible rfl)
              simp only [Act.put, List.setIfInBounds_toArray, List.set_cons_zero, List.set_cons_succ]
              refine wpAnyH_take (i := 21) (v := ?_) (get1 (get1 (get1 (get1 (get1 (get1 (get1 (get1 (get1 (get1 (get1 (get1 (get1 (get1 (get1 (get1 (get1 (get1 (get1 (get1 (get1 (get0 _ _)))))))))))))))))))))) (by kernel_rfl) (by kernel_rfl) (by kernel_rfl) (fun _ _ _ h => h) (Or.inl ⟨by rfl, ?_⟩) (by assumption) ?_
              rotate_left
              · (intro w hSw; (try dsimp only at hSw); go_simp <;> with_reducible rfl)
              simp only [Act.put, List.setIfInBounds_toArray, List.set_cons_zero, List.set_cons_succ]
              refine wpAnyH_take (i := 22) (v := ?_) (get1 (get1 (get1 (get1 (get1 (get1 (get1 (get1 (get1 (get1 (get1 (get1 (get1 (get1 (get1 (get1 (get1 (get1 (get1 (get1 (get1 (get1 (get0 _ _))))))))))))))))))))))) (by kernel_rfl) (by kernel_rfl) (by kernel_rfl) (fun _ _ _ h => h) (Or.inl ⟨by rfl, ?_⟩) (by assumption) ?_
              rotate_left
              · (intro w hSw; (try dsimp only at hSw); go_simp <;> with_reducible rfl)
              simp only [Act.put, List.setIfInBounds_toArray, List.set_cons_zero, List.set_cons_succ]
              refine wpAnyH_ready (rs := [23]) (by kernel_rfl) (by simp) ?_
              refine AllReadyH.cons (get1 (get1 (get1 (get1 (get1 (get1 (get1 (get1 (get1 (get1 (get1 (get1 (get1 (get1 (get1 (get1 (get1 (get1 (get1 (get1 (get1 (get1 (get1 (get0 _ _)))))))))))))))))))))))) (fun K hK => ?_) AllReadyH.nil
              go_simp
              refine (same_any N3.out.drewA A3.out.drewA true (by rw [HEQ.out]; simp)).mono ?_
              rintro e y5 ⟨rfl, g5⟩
              have sy : y5.cell? ⟨b', off' + j * 4, none⟩ = some (.string xn) ∧ y5.cell? ⟨bx, 2, none⟩ = some (.string xn) := ⟨cell_thru g5 hHeld.1, cell_thru g5 hHeld.2⟩
              have B5 : Hid (Below y2.heap.size y2 y5) := HBI.out.drew.trans (g5.mono HBI.out.size)
              clear hHeld g5
              try go_wp2_with fail
              refine hK.out _ _ sy (fun hHeld => ?_)
              clear hK K
              try simp only [Act.put, List.setIfInBounds_toArray, List.set_cons_zero, List.set_cons_succ]
              refine wpAnyH_take (i := 24) (v := ?_) (get1 (get1 (get1 (get1 (get1 (get1 (get1 (get1 (get1 (get1 (get1 (get1 (get1 (get1 (get1 (get1 (get1 (get1 (get1 (get1 (get1 (get1 (get1 (get1 (get0 _ _))))))))))))))))))))))))) (by kernel_rfl) (by kernel_rfl) (by kernel_rfl) (fun _ _ _ h => h) (Or.inl ⟨by rfl, ?_⟩) (by assumption) ?_
              rotate_left
              · (intro w hSw; (try dsimp only at hSw); go_simp <;> with_reducible rfl)
              simp only [Act.put, List.setIfInBounds_toArray, List.set_cons_zero, List.set_cons_succ]
              refine wpAnyH_take (i := 25) (v := ?_) (get1 (get1 (get1 (get1 (get1 (get1 (get1 (get1 (get1 (get1 (get1 (get1 (get1 (get1 (get1 (get1 (get1 (get1 (get1 (get1 (get1 (get1 (get1 (get1 (get1 (get0 _ _)))))))))))))))))))))))))) (by kernel_rfl) (by kernel_rfl) (by kernel_rfl) (fun _ _ _ h => h) (Or.inl ⟨by rfl, ?_⟩) (by assumption) ?_
              rotate_left
              · (intro w hSw; (try dsimp only at hSw); go_simp <;> with_reducible rfl)
              simp only [Act.put, List.setIfInBounds_toArray, List.set_cons_zero, List.set_cons_succ]
              refine wpAnyH_done (by kernel_rfl) ?_ _
              clear hHeld sy
              go_wp2_with fail
              go_roundg (l - (j + 1))
              case measure => omega
              case rel => exact ⟨j + 1, by first | rfl | (congr 1; omega), by omega, Nat.le_refl _, B5.out⟩
          · have HEQ : Hid (os2.getD j noAt = xj) := HOJ.out (Or.inl hne)
            have hde := toList_ne hne
            clear hne
            go_wp2_with fail
            refine wp_region_held_drew (S := (fun w' : World => w'.cell? ⟨b', off' + j * 4, none⟩ = some (.string xn) ∧ w'.cell? ⟨bx, 2, none⟩ = some (.string sn))) (by kernel_rfl) ⟨t0, t2⟩ (fun hHeld => ?_)
            refine wpAnyH_take (i := 0) (v := ?_) (get0 _ _) (by kernel_rfl) (by kernel_rfl) (by kernel_rfl) (fun _ _ _ h => h) (Or.inl ⟨by rfl, ?_⟩) (by assumption) ?_
            rotate_left
            · (intro w hSw; (try dsimp only at hSw); go_simp <;> with_reducible rfl)
            simp only [Act.put, List.setIfInBounds_toArray, List.set_cons_zero, List.set_cons_succ]
            refine wpAnyH_take (i := 1) (v := ?_) (get1 (get0 _ _)) (by kernel_rfl) (by kernel_rfl) (by kernel_rfl) (fun _ _ _ h => h) (Or.inl ⟨by rfl, ?_⟩) (by assumption) ?_
            rotate_left
            · (intro w hSw; (try dsimp only at hSw); go_simp <;> with_reducible rfl)
            simp only [Act.put, List.setIfInBounds_toArray, List.set_cons_zero, List.set_cons_succ]
            refine wpAnyH_take (i := 2) (v := ?_) (get1 (get1 (get0 _ _))) (by kernel_rfl) (by kernel_rfl) (by kernel_rfl) (fun _ _ _ h => h) (Or.inl ⟨by rfl, ?_⟩) (by assumption) ?_
            rotate_left
            · (intro w hSw; (try dsimp only at hSw); go_simp <;> with_reducible rfl)
            simp only [Act.put, List.setIfInBounds_toArray, List.set_cons_zero, List.set_cons_succ]
            refine wpAnyH_take (i := 3) (v := ?_) (get1 (get1 (get1 (get0 _ _)))) (by kernel_rfl) (by kernel_rfl) (by kernel_rfl) (fun _ _ _ h => h) (Or.inl ⟨by rfl, ?_⟩) (by assumption) ?_
            rotate_left
            · (intro w hSw; (try dsimp only at hSw); go_simp <;> with_reducible rfl)
            simp only [Act.put, List.setIfInBounds_toArray, List.set_cons_zero, List.set_cons_succ]
            refine wpAnyH_take (i := 4) (v := ?_) (get1 (get1 (get1 (get1 (get0 _ _))))) (by kernel_rfl) (by kernel_rfl) (by kernel_rfl) (fun _ _ _ h => h) (Or.inl ⟨by rfl, ?_⟩) (by assumption) ?_
            rotate_left
            · (intro w hSw; (try dsimp only at hSw); go_simp <;> with_reducible rfl)
            simp only [Act.put, List.setIfInBounds_toArray, List.set_cons_zero, List.set_cons_succ]
            refine wpAnyH_take (i := 5) (v := ?_) (get1 (get1 (get1 (get1 (get1 (get0 _ _)))))) (by kernel_rfl) (by kernel_rfl) (by kernel_rfl) (fun _ _ _ h => h) (Or.inl ⟨by rfl, ?_⟩) (by assumption) ?_
            rotate_left
            · (intro w hSw; (try dsimp only at hSw); go_simp <;> with_reducible rfl)
            simp only [Act.put, List.setIfInBounds_toArray, List.set_cons_zero, List.set_cons_succ]
            refine wpAnyH_take (i := 6) (v := ?_) (get1 (get1 (get1 (get1 (get1 (get1 (get0 _ _))))))) (by kernel_rfl) (by kernel_rfl) (by kernel_rfl) (fun _ _ _ h => h) (Or.inl ⟨by rfl, ?_⟩) (by assumption) ?_
            rotate_left
            · (intro w hSw; (try dsimp only at hSw); go_simp <;> with_reducible rfl)
            simp only [Act.put, List.setIfInBounds_toArray, List.set_cons_zero, List.set_cons_succ]
            refine wpAnyH_take (i := 7) (v := ?_) (get1 (get1 (get1 (get1 (get1 (get1 (get1 (get0 _ _)))))))) (by kernel_rfl) (by kernel_rfl) (by kernel_rfl) (fun _ _ _ h => h) (Or.inl ⟨by rfl, ?_⟩) (by assumption) ?_
            rotate_left
            · (intro w hSw; (try dsimp only at hSw); go_simp <;> with_reducible rfl)
            simp only [Act.put, List.setIfInBounds_toArray, List.set_cons_zero, List.set_cons_succ]
            refine wpAnyH_take (i := 8) (v := ?_) (get1 (get1 (get1 (get1 (get1 (get1 (get1 (get1 (get0 _ _))))))))) (by kernel_rfl) (by kernel_rfl) (by kernel_rfl) (fun _ _ _ h => h) (Or.inl ⟨by rfl, ?_⟩) (by assumption) ?_
            rotate_left
            · (intro w hSw; (try dsimp only at hSw); go_simp <;> with_reducible rfl)
            simp only [Act.put, List.setIfInBounds_toArray, List.set_cons_zero, List.set_cons_succ]
            refine wpAnyH_take (i := 9) (v := undef) (get1 (get1 (get1 (get1 (get1 (get1 (get1 (get1 (get1 (get0 _ _)))))))))) (by kernel_rfl) (by kernel_rfl) (by kernel_rfl) (fun _ _ _ h => h) (Or.inr ⟨by rfl, rfl⟩) (by assumption) ?_
            simp only [Act.put, List.setIfInBounds_toArray, List.set_cons_zero, List.set_cons_succ]
            refine wpAnyH_take (i := 10) (v := undef) (get1 (get1 (get1 (get1 (get1 (get1 (get1 (get1 (get1 (get1 (get0 _ _))))))))))) (by kernel_rfl) (by kernel_rfl) (by kernel_rfl) (fun _ _ _ h => h) (Or.inr ⟨by rfl, rfl⟩) (by assumption) ?_
            simp only [Act.put, List.setIfInBounds_toArray, List.set_cons_zero, List.set_cons_succ]
            refine wpAnyH_take (i := 11) (v := ?_) (get1 (get1 (get1 (get1 (get1 (get1 (get1 (get1 (get1 (get1 (get1 (get0 _ _)))))))))))) (by kernel_rfl) (by kernel_rfl) (by kernel_rfl) (fun _ _ _ h => h) (Or.inl ⟨by rfl, ?_⟩) (by assumption) ?_
            rotate_left
            · (intro w hSw; (try dsimp only at hSw); go_simp <;> with_reducible rfl)
            simp only [Act.put, List.setIfInBounds_toArray, List.set_cons_zero, List.set_cons_succ]
            refine wpAnyH_take (i := 12) (v := ?_) (get1 (get1 (get1 (get1 (get1 (get1 (get1 (get1 (get1 (get1 (get1 (get1 (get0 _ _))))))))))))) (by kernel_rfl) (by kernel_rfl) (by kernel_rfl) (fun _ _ _ h => h) (Or.inl ⟨by rfl, ?_⟩) (by assumption) ?_
            rotate_left
            · (intro w hSw; (try dsimp only at hSw); go_simp <;> with_reducible rfl)
            simp only [Act.put, List.setIfInBounds_toArray, List.set_cons_zero, List.set_cons_succ]
            refine wpAnyH_take (i := 13) (v := ?_) (get1 (get1 (get1 (get1 (get1 (get1 (get1 (get1 (get1 (get1 (get1 (get1 (get1 (get0 _ _)))))))))))))) (by kernel_rfl) (by kernel_rfl) (by kernel_rfl) (fun _ _ _ h => h) (Or.inl ⟨by rfl, ?_⟩) (by assumption) ?_
            rotate_left
            · (intro w hSw; (try dsimp only at hSw); go_simp <;> with_reducible rfl)
            simp only [Act.put, List.setIfInBounds_toArray, List.set_cons_zero, List.set_cons_succ]
            refine wpAnyH_take (i := 14) (v := ?_) (get1 (get1 (get1 (get1 (get1 (get1 (get1 (get1 (get1 (get1 (get1 (get1 (get1 (get1 (get0 _ _))))))))))))))) (by kernel_rfl) (by kernel_rfl) (by kernel_rfl) (fun _ _ _ h => h) (Or.inl ⟨by rfl, ?_⟩) (by assumption) ?_
            rotate_left
            · (intro w hSw; (try dsimp only at hSw); go_simp <;> with_reducible rfl)
            simp only [Act.put, List.setIfInBounds_toArray, List.set_cons_zero, List.set_cons_succ]
            refine wpAnyH_take (i := 15) (v := ?_) (get1 (get1 (get1 (get1 (get1 (get1 (get1 (get1 (get1 (get1 (get1 (get1 (get1 (get1 (get1 (get0 _ _)))))))))))))))) (by kernel_rfl) (by kernel_rfl) (by kernel_rfl) (fun _ _ _ h => h) (Or.inl ⟨by rfl, ?_⟩) (by assumption) ?_
            rotate_left
            · (intro w hSw; (try dsimp only at hSw); go_simp <;> with_reducible rfl)
            simp only [Act.put, List.setIfInBounds_toArray, List.set_cons_zero, List.set_cons_succ]
            refine wpAnyH_take (i := 16) (v := ?_) (get1 (get1 (get1 (get1 (get1 (get1 (get1 (get1 (get1 (get1 (get1 (get1 (get1 (get1 (get1 (get1 (get0 _ _))))))))))))))))) (by kernel_rfl) (by kernel_rfl) (by kernel_rfl) (fun _ _ _ h => h) (Or.inl ⟨by rfl, ?_⟩) (by assumption) ?_
            rotate_left
            · (intro w hSw; (try dsimp only at hSw); go_simp <;> with_reducible rfl)
            simp only [Act.put, List.setIfInBounds_toArray, List.set_cons_zero, List.set_cons_succ]
            refine wpAnyH_take (i := 17) (v := ?_) (get1 (get1 (get1 (get1 (get1 (get1 (get1 (get1 (get1 (get1 (get1 (get1 (get1 (get1 (get1 (get1 (get1 (get0 _ _)))))))))))))))))) (by kernel_rfl) (by kernel_rfl) (by kernel_rfl) (fun _ _ _ h => h) (Or.inl ⟨by rfl, ?_⟩) (by assumption) ?_
            rotate_left
            · (intro w hSw; (try dsimp only at hSw); go_simp <;> with_reducible rfl)
            simp only [Act.put, List.setIfInBounds_toArray, List.set_cons_zero, List.set_cons_succ]
            refine wpAnyH_take (i := 18) (v := ?_) (get1 (get1 (get1 (get1 (get1 (get1 (get1 (get1 (get1 (get1 (get1 (get1 (get1 (get1 (get1 (get1 (get1 (get1 (get0 _ _))))))))))))))))))) (by kernel_rfl) (by kernel_rfl) (by kernel_rfl) (fun _ _ _ h => h) (Or.inl ⟨by rfl, ?_⟩) (by assumption) ?_
            rotate_left
            · (intro w hSw; (try dsimp only at hSw); go_simp <;> with_reducible rfl)
            simp only [Act.put, List.setIfInBounds_toArray, List.set_cons_zero, List.set_cons_succ]
            refine wpAnyH_take (i := 19) (v := ?_) (get1 (get1 (get1 (get1 (get1 (get1 (get1 (get1 (get1 (get1 (get1 (get1 (get1 (get1 (get1 (get1 (get1 (get1 (get1 (get0 _ _)))))))))))))))))))) (by kernel_rfl) (by kernel_rfl) (by kernel_rfl) (fun _ _ _ h => h) (Or.inl ⟨by rfl, ?_⟩) (by assumption) ?_
            rotate_left
            · (intro w hSw; (try dsimp only at hSw); go_simp <;> with_reducible rfl)
            simp only [Act.put, List.setIfInBounds_toArray, List.set_cons_zero, List.set_cons_succ]
            refine wpAnyH_take (i := 20) (v := ?_) (get1 (get1 (get1 (get1 (get1 (get1 (get1 (get1 (get1 (get1 (get1 (get1 (get1 (get1 (get1 (get1 (get1 (get1 (get1 (get1 (get0 _ _))))))))))))))))))))) (by kernel_rfl) (by kernel_rfl) (by kernel_rfl) (fun _ _ _ h => h) (Or.inl ⟨by rfl, ?_⟩) (by assumption) ?_
            rotate_left
            · (intro w hSw; (try dsimp only at hSw); go_simp <;> with_reducible rfl)
            simp only [Act.put, List.setIfInBounds_toArray, List.set_cons_zero, List.set_cons_succ]
            refine wpAnyH_take (i := 21) (v := ?_) (get1 (get1 (get1 (get1 (get1 (get1 (get1 (get1 (get1 (get1 (get1 (get1 (get1 (get1 (get1 (get1 (get1 (get1 (get1 (get1 (get1 (get0 _ _)))))))))))))))))))))) (by kernel_rfl) (by kernel_rfl) (by kernel_rfl) (fun _ _ _ h => h) (Or.inl ⟨by rfl, ?_⟩) (by assumption) ?_
            rotate_left
            · (intro w hSw; (try dsimp only at hSw); go_simp <;> with_reducible rfl)
            simp only [Act.put, List.setIfInBounds_toArray, List.set_cons_zero, List.set_cons_succ]
            refine wpAnyH_take (i := 22) (v := ?_) (get1 (get1 (get1 (get1 (get1 (get1 (get1 (get1 (get1 (get1 (get1 (get1 (get1 (get1 (get1 (get1 (get1 (get1 (get1 (get1 (get1 (get1 (get0 _ _))))))))))))))))))))))) (by kernel_rfl) (by kernel_rfl) (by kernel_rfl) (fun _ _ _ h => h) (Or.inl ⟨by rfl, ?_⟩) (by assumption) ?_
            rotate_left
            · (intro w hSw; (try dsimp only at hSw); go_simp <;> with_reducible rfl)
            simp only [Act.put, List.setIfInBounds_toArray, List.set_cons_zero, List.set_cons_succ]
            refine wpAnyH_ready (rs := [23]) (by kernel_rfl) (by simp) ?_
            refine AllReadyH.cons (get1 (get1 (get1 (get1 (get1 (get1 (get1 (get1 (get1 (get1 (get1 (get1 (get1 (get1 (get1 (get1 (get1 (get1 (get1 (get1 (get1 (get1 (get1 (get0 _ _)))))))))))))))))))))))) (fun K hK => ?_) AllReadyH.nil
            go_simp
            refine (same_any N3.out.drewA A3.out.drewA true (by rw [HEQ.out]; simp)).mono ?_
            rintro e y5 ⟨rfl, g5⟩
            have sy : y5.cell? ⟨b', off' + j * 4, none⟩ = some (.string xn) ∧ y5.cell? ⟨bx, 2, none⟩ = some (.string sn) := ⟨cell_thru g5 hHeld.1, cell_thru g5 hHeld.2⟩
            have B5 : Hid (Below y2.heap.size y2 y5) := HBI.out.drew.trans (g5.mono HBI.out.size)
            clear hHeld g5
            try go_wp2_with fail
            refine hK.out _ _ sy (fun hHeld => ?_)
            clear hK K
            try simp only [Act.put, List.setIfInBounds_toArray, List.set_cons_zero, List.set_cons_succ]
            refine wpAnyH_take (i := 24) (v := ?_) (get1 (get1 (get1 (get1 (get1 (get1 (get1 (get1 (get1 (get1 (get1 (get1 (get1 (get1 (get1 (get1 (get1 (get1 (get1 (get1 (get1 (get1 (get1 (get1 (get0 _ _))))))))))))))))))))))))) (by kernel_rfl) (by kernel_rfl) (by kernel_rfl) (fun _ _ _ h => h) (Or.inl ⟨by rfl, ?_⟩) (by assumption) ?_
            rotate_left
            · (intro w hSw; (try dsimp only at hSw); go_simp <;> with_reducible rfl)
            simp only [Act.put, List.setIfInBounds_toArray, List.set_cons_zero, List.set_cons_succ]
            refine wpAnyH_take (i := 25) (v := ?_) (get1 (get1 (get1 (get1 (get1 (get1 (get1 (get1 (get1 (get1 (get1 (get1 (get1 (get1 (get1 (get1 (get1 (get1 (get1 (get1 (get1 (get1 (get1 (get1 (get1 (get0 _ _)))))))))))))))))))))))))) (by kernel_rfl) (by kernel_rfl) (by kernel_rfl) (fun _ _ _ h => h) (Or.inl ⟨by rfl, ?_⟩) (by assumption) ?_
            rotate_left
            · (intro w hSw; (try dsimp only at hSw); go_simp <;> with_reducible rfl)
            simp only [Act.put, List.setIfInBounds_toArray, List.set_cons_zero, List.set_cons_succ]
            refine wpAnyH_done (by kernel_rfl) ?_ _
            clear hHeld sy
            go_wp2_with fail
            go_roundg (l - (j + 1))
            case measure => omega
            case rel => exact ⟨j + 1, by first | rfl | (congr 1; omega), by omega, Nat.le_refl _, B5.out⟩
        · obtain rfl : j = l := by omega
          have hji : ¬ (j : Int) < j := by omega
          have B3 : Hid (Below y.heap.size y wr) := B2.out.trans (HBI.out.mono B2.out.size)
          have A3 : Hid _ := A2.out.below HBI.out
          go_wp2_with fail
          go_roundg (l2 - (k + 1))
          case measure => omega
          case rel => exact ⟨k + 1, _, _, os2, rfl, by first | rfl | (congr 1; omega), by omega, by omega, Nat.le_refl _, ⟨A3.out, HM1.out⟩, B3.out⟩
end Go.Proofs.Ytkhehagepmeifaa

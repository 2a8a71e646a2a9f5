/- What atom.Do comes to. -/
import Derived.Test.YtafdjmccgijmnaaAtOp
namespace Go.Proofs.Ytafdjmccgijmnaa.A
open Go.RowKit Go.Maps Go.Lib
set_option linter.unusedVariables false
set_option linter.unusedSimpArgs false

theorem stepA_fit {x : At} {own d arg : Int} (h : AtFit x) (ho : (Lit.int .i64 own).wf = true) (ha : (Lit.int .i64 arg).wf = true) : AtFit (stepA x own d arg).1 := by
  obtain ⟨h1, h2, h3, h4⟩ := h
  unfold stepA
  split
  · split
    · exact ⟨h1, h2, h3, h4⟩
    · exact ⟨h1, h2, ho, h4⟩
  · split
    · split
      · exact ⟨h1, h2, h3, h4⟩
      · exact ⟨h1, h2, (by decide : (Lit.int .i64 0).wf = true), h4⟩
    · split
      · split
        · exact ⟨h1, h2, h3, h4⟩
        · refine ⟨h1, h2, h3, fun n hn => ?_⟩
          rcases List.mem_append.1 hn with h | h
          · exact h4 n h
          · simp at h; subst h; exact ha
      · split
        · exact ⟨h1, h2, h3, h4⟩
        · exact ⟨h1, h2, h3, fun n hn => h4 n (List.mem_of_mem_drop hn)⟩
theorem wf_own {th : Int} (h : 0 ≤ th) (h' : th ≤ 3) : (Lit.int .i64 (th + 1)).wf = true := by
  obtain rfl | rfl | rfl | rfl : th = 0 ∨ th = 1 ∨ th = 2 ∨ th = 3 := by omega
  all_goals decide
theorem doA_len (os : List At) (th d : Int) (nm : ByteArray) (arg : Int) : (doA os th d nm arg).1.length = os.length := by
  unfold doA
  split
  · rfl
  split
  · rfl
  split
  · rfl
  split
  · rfl
  · simp
theorem doA_fit {os : List At} {th d : Int} {nm : ByteArray} {arg : Int} (h : ∀ x ∈ os, AtFit x) (ha : (Lit.int .i64 arg).wf = true) : ∀ x ∈ (doA os th d nm arg).1, AtFit x := by
  unfold doA
  by_cases hb : badA os th d = true
  · rw [if_pos hb]; exact h
  rw [if_neg hb]
  by_cases h5 : d = 5
  · rw [if_pos h5]; exact h
  rw [if_neg h5]
  by_cases hw : whereA os nm < os.length
  · rw [if_neg (by simpa using hw)]
    split
    · exact h
    · intro x hx
      rcases List.mem_or_eq_of_mem_set hx with hx | rfl
      · exact h x hx
      · refine stepA_fit (h _ (by simp [List.getD, hw])) ?_ ha
        have hb' : badA os th d = false := by simpa using hb
        unfold badA at hb'
        simp only [Bool.or_eq_false_iff, decide_eq_false_iff_not] at hb'
        exact wf_own (by omega) (by omega)
  · rw [if_pos hw]; exact h
theorem Res.ats {B : Nat} {w : World} {g n : Nat} {os : List At} (h : Res B w g n os) (hf : ∀ x ∈ os, AtFit x) : AtsV w (some ⟨g, 0, none⟩) n n os := by
  obtain ⟨xs, hx⟩ := h.row
  refine ⟨h.len, hf, fun e => (by cases e), own_room hx, .inr ⟨g, 0, rfl, fun i hi => ?_⟩⟩
  obtain ⟨c0, c1, c2, a1, l1, c1', c3, V, -⟩ := h.cell i hi
  simp only [Nat.zero_add]
  exact ⟨c0, c1, c2, a1, l1, c1', c3, V⟩
theorem ints_lt {w : World} {a : Option Addr} {l c : Nat} {zs : List Int} (h : IntsV w a l c zs) (h0 : 0 < l) : ∀ ad, a = some ad → ad.block < w.heap.size := by
  intro ad ha
  rcases h.cells with h1 | ⟨b, off, hA, hc⟩
  · omega
  · rw [hA] at ha; cases ha
    exact World.block_lt_of_cell? w ⟨b, off + 0, none⟩ (hc 0 h0)
theorem may_item {os : List At} (h : mayAll os = true) {k : Nat} (hk : k < os.length) : (os.getD k noAt).items.length ≤ 8 := by
  unfold mayAll at h
  rw [List.all_eq_true] at h
  have := h k (List.mem_range.2 hk)
  unfold atOk oneOk kindOk at this
  simp only [Bool.and_eq_true] at this
  obtain ⟨-, -, h2⟩ := this
  split at h2
  · simp only [Bool.and_eq_true, decide_eq_true_eq] at h2; omega
  · simp only [Bool.and_eq_true, decide_eq_true_eq] at h2; omega

set_option maxRecDepth 100000 in
set_option maxHeartbeats 8000000 in
theorem do_any {w : World} {a : Option Addr} {l c : Nat} {os : List At} (h : AtsV w a l c os) (hl : l ≤ 1048576) (hi : ∀ x ∈ os, x.items.length * 8 ≤ 140737488355328) (th d : Int) (nm : ByteArray) (arg : Int) (ha : (Lit.int .i64 arg).wf = true) :
    Calls Try.prog 59 #[.slice a l c, .int .i64 th, .int .i64 d, .string nm, .int .i64 arg] w fun e w' => e = .returned (.tuple #[.slice (some ⟨w.heap.size + 1, 0, none⟩) l l, .int .i64 (doA os th d nm arg).2.1, .int .i64 (doA os th d nm arg).2.2]) ∧ Res (w.heap.size + 1) w' (w.heap.size + 1) l (doA os th d nm arg).1 ∧ Below w.heap.size w w' := by
  have hmf : ∀ (fn : Fn) (first cap : Array Value) (w : World), (Instr.makeFunc fn first cap).run Try.prog w = .ok (.func fn first cap) w := fun _ _ _ _ => rfl
  have HV : Hid _ := h
  have HI : Hid _ := hi
  have HA : Hid _ := ha
  have hc := h.count
  have hf := h.fits
  have HF : Hid _ := hf
  obtain ⟨n1, hn1⟩ : ∃ n1, (doA os th d nm arg).2.1 = n1 := ⟨_, rfl⟩
  obtain ⟨n2, hn2⟩ : ∃ n2, (doA os th d nm arg).2.2 = n2 := ⟨_, rfl⟩
  obtain ⟨n3, hn3⟩ : ∃ n3, (doA os th d nm arg).1 = n3 := ⟨_, rfl⟩
  rw [hn1, hn2, hn3]
  have HD : Hid (doA os th d nm arg = (n3, n1, n2)) := by show _ = _; rw [← hn1, ← hn2, ← hn3]
  obtain ⟨W1, hW1⟩ : ∃ W1, w.alloc (.cells #[.string nm] 9) = W1 := ⟨_, rfl⟩
  have b1 : Below w.heap.size w W1 := by subst hW1; exact bl_one _ _
  have s1 : Hid (W1.heap.size = w.heap.size + 1) := by show _ = _; subst hW1; simp
  have cn : W1.cell? ⟨w.heap.size, 0, none⟩ = some (.string nm) := by subst hW1; exact cell_last rfl rfl
  have HC : Hid _ := hc
  clear h hi ha hf hn1 hn2 hn3 hc
  go_enter Try.func59, Try.ntmps59
  go_wp2_with fail
  refine (clone_any (HV.out.below b1) hl HI.out).mono ?_
  rintro e y1 ⟨rfl, ⟨vs, hN⟩, hb1⟩
  have HN : Hid (Nx (w.heap.size + 1) y1 (w.heap.size + 1) l os vs l) := by have := hN; rw [s1.out] at this; exact this
  have B1 : Hid (Below w.heap.size w y1) := b1.trans (hb1.mono (by rw [s1.out]; omega))
  have HR1 : Hid (Res (w.heap.size + 1) y1 (w.heap.size + 1) l os) := HN.out.res HC.out HF.out
  have cn1 := cell_thru hb1 cn
  rw [s1.out]
  clear hN hb1 cn hW1 b1
  go_wp2_with fail
  refine (check_any (HV.out.below B1.out)).mono ?_
  rintro e y2 ⟨rfl, hb2⟩
  have B2 : Hid (Below w.heap.size w y2) := B1.out.trans (hb2.mono B1.out.size)
  have cn2 := cell_thru hb2 cn1
  have HN2 : Hid _ := HN.out.below hb2
  have HR2 : Hid (Res (w.heap.size + 1) y2 (w.heap.size + 1) l os) := HN2.out.res HC.out HF.out
  clear hb2 cn1 HR1
  cases hm : mayAll os with
  | false =>
    have HE : Hid ((n3, n1, n2) = (os, 0, 2)) := HD.out.symm.trans (by unfold doA badA; rw [hm]; rfl)
    rw [if_neg (by decide)]
    go_wp2
    go_ret3
    have E := HE.out
    simp only [Prod.mk.injEq] at E
    obtain ⟨rfl, rfl, rfl⟩ := E
    exact ⟨rfl, HR2.out, B2.out⟩
  | true =>
    rw [if_pos rfl]
    by_cases hbad : th < 0 ∨ 4 ≤ th ∨ d < 1 ∨ 5 < d
    · have HE : Hid ((n3, n1, n2) = (os, 0, 2)) := HD.out.symm.trans (by
        unfold doA
        rw [if_pos]
        unfold badA
        rw [hm]
        simp only [Bool.not_true, Bool.false_or, Bool.or_eq_true, decide_eq_true_eq]
        exact hbad)
      clear HD
      rcases hbad with h1 | h1 | h1 | h1
      · go_wp2
        go_ret3
        have E := HE.out
        simp only [Prod.mk.injEq] at E
        obtain ⟨rfl, rfl, rfl⟩ := E
        exact ⟨rfl, HR2.out, B2.out⟩
      · rcases (show th < 0 ∨ ¬ th < 0 by omega) with h0 | h0
        all_goals
          go_wp2
          go_ret3
          have E := HE.out
          simp only [Prod.mk.injEq] at E
          obtain ⟨rfl, rfl, rfl⟩ := E
          exact ⟨rfl, HR2.out, B2.out⟩
      · rcases (show th < 0 ∨ 4 ≤ th ∨ (¬ th < 0 ∧ ¬ 4 ≤ th) by omega) with h0 | h0 | ⟨h0, h0'⟩
        all_goals
          go_wp2
          go_ret3
          have E := HE.out
          simp only [Prod.mk.injEq] at E
          obtain ⟨rfl, rfl, rfl⟩ := E
          exact ⟨rfl, HR2.out, B2.out⟩
      · rcases (show th < 0 ∨ 4 ≤ th ∨ (¬ th < 0 ∧ ¬ 4 ≤ th) by omega) with h0 | h0 | ⟨h0, h0'⟩
        all_goals
          go_wp2
          go_ret3
          have E := HE.out
          simp only [Prod.mk.injEq] at E
          obtain ⟨rfl, rfl, rfl⟩ := E
          exact ⟨rfl, HR2.out, B2.out⟩
    · have t0 : 0 ≤ th := by omega
      have t3 : ¬ 4 ≤ th := by omega
      have d1 : 1 ≤ d := by omega
      have d5 : d ≤ 5 := by omega
      have HB : Hid (badA os th d = false) := by
        show _ = _
        unfold badA
        rw [hm]
        simp only [Bool.not_true, Bool.false_or, Bool.or_eq_false_iff, decide_eq_false_iff_not]
        omega
      by_cases hd5 : d = 5
      · have HE : Hid ((n3, n1, n2) = (os, 0, 0)) := HD.out.symm.trans (by unfold doA; rw [HB.out, if_neg (by decide), if_pos hd5])
        subst hd5
        go_wp2
        go_ret3
        have E := HE.out
        simp only [Prod.mk.injEq] at E
        obtain ⟨rfl, rfl, rfl⟩ := E
        exact ⟨rfl, HR2.out, B2.out⟩
      · have HM : Hid _ := hm
        clear hm hbad
        go_wp2_with fail
        refine (idxA_any (HR2.out.ats HF.out) nm w.heap.size cn2).mono ?_
        rintro e y3 ⟨rfl, hb3⟩
        have B3 : Hid (Below w.heap.size w y3) := B2.out.trans (hb3.mono B2.out.size)
        have HN3 : Hid _ := HN2.out.below hb3
        have HR3 : Hid (Res (w.heap.size + 1) y3 (w.heap.size + 1) l os) := HN3.out.res HC.out HF.out
        clear hb3 cn2
        by_cases hw : whereA os nm < os.length
        · rw [if_pos hw]
          obtain ⟨k, hk⟩ : ∃ k, whereA os nm = k := ⟨_, rfl⟩
          rw [hk] at hw ⊢
          have hkl : k < l := by have := HC.out; omega
          obtain ⟨q0, q1, q2, a1, l1, c1, q3, V⟩ := HR3.out.cell k hkl
          obtain ⟨x, hx⟩ : ∃ x, os.getD k noAt = x := ⟨_, rfl⟩
          have HX : Hid _ := hx
          have HD2 : Hid ((n3, n1, n2) = if decide (x.cap = 0) ≠ decide (d ≤ 2) then (os, 0, 2) else (os.set k (stepA x (th + 1) d arg).1, (stepA x (th + 1) d arg).2)) := HD.out.symm.trans (by unfold doA; rw [HB.out, if_neg (by decide), if_neg hd5, hk, if_neg (by simpa using hw), hx])
          rw [hx] at q0 q1 q2 V
          have hii : (k : Int) < l := by omega
          have hin : ¬ (k : Int) < 0 := by omega
          have HK : Hid _ := hk
          have HWL : Hid _ := hw
          clear hw hk hx V
          go_wp2_with fail
          refine (lock_any x _).mono ?_
          rintro e y4 ⟨rfl, hb4⟩
          have B4 : Hid (Below w.heap.size w y4) := B3.out.trans (hb4.mono B3.out.size)
          have HN4 : Hid _ := HN3.out.below hb4
          clear hb4 q0 q1 q2 q3
          generalize hlk : decide (x.cap = 0) = lk at HD2 ⊢
          clear hlk
          go_wp2_with fail
          refine (locks_any d d1 _).mono ?_
          rintro e y5 ⟨rfl, rfl⟩
          have HR4 : Hid (Res (w.heap.size + 1) y5 (w.heap.size + 1) l os) := HN4.out.res HC.out HF.out
          generalize decide (d ≤ 2) = dk at HD2 ⊢
          by_cases hne : lk = dk
          · subst hne
            have HE0 : Hid ((n3, n1, n2) = (os.set k (stepA x (th + 1) d arg).1, (stepA x (th + 1) d arg).2)) := HD2.out.trans (if_neg (by simp))
            clear HD2 HD
            go_wp2_with fail
            refine (op_any HN4.out HC.out HF.out hkl (Nat.le_refl _) (th + 1) d arg HA.out (by have := may_item HM.out HWL.out; omega)).mono ?_
            rintro e y6 ⟨rfl, hr, hb⟩
            have R6 : Hid _ := hr
            have B6 : Hid (Below w.heap.size w y6) := B4.out.trans (hb.mono (Nat.le_succ _))
            have E1 : Hid ((stepA (os.getD k noAt) (th + 1) d arg).2.1 = n1 ∧ (stepA (os.getD k noAt) (th + 1) d arg).2.2 = n2 ∧ os.set k (stepA (os.getD k noAt) (th + 1) d arg).1 = n3) := by
              have E := HE0.out
              rw [← HX.out] at E
              injection E with e1 e2
              rw [← e2, ← e1]
              exact ⟨rfl, rfl, rfl⟩
            rw [E1.out.1, E1.out.2.1]
            clear hr hb
            go_wp2
            go_ret3
            exact ⟨rfl, by rw [← E1.out.2.2]; exact R6.out, B6.out⟩
          · have HE : Hid ((n3, n1, n2) = (os, 0, 2)) := HD2.out.trans (if_pos hne)
            have hlk : (lk = true ∧ dk = false) ∨ (lk = false ∧ dk = true) := by cases lk <;> cases dk <;> simp at hne ⊢
            clear HD2 HD hne
            rcases hlk with ⟨rfl, rfl⟩ | ⟨rfl, rfl⟩
            all_goals
              go_wp2
              go_ret3
              have E := HE.out
              simp only [Prod.mk.injEq] at E
              obtain ⟨rfl, rfl, rfl⟩ := E
              exact ⟨rfl, HR4.out, B4.out⟩
        · rw [if_neg hw]
          have HE : Hid ((n3, n1, n2) = (os, 0, 2)) := HD.out.symm.trans (by unfold doA; rw [HB.out, if_neg (by decide), if_neg hd5, if_pos hw])
          clear HD hw
          go_wp2
          go_ret3
          have E := HE.out
          simp only [Prod.mk.injEq] at E
          obtain ⟨rfl, rfl, rfl⟩ := E
          exact ⟨rfl, HR3.out, B3.out⟩
end Go.Proofs.Ytafdjmccgijmnaa.A

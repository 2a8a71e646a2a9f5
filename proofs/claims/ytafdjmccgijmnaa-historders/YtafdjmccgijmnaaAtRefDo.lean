/- What the document's Do comes to. -/
import Derived.Test.YtafdjmccgijmnaaAtCopy
import Derived.Test.YtafdjmccgijmnaaAtMay
namespace Go.Proofs.Ytafdjmccgijmnaa.A
open Go.RowKit Go.Maps Go.Lib
set_option linter.unusedVariables false
set_option linter.unusedSimpArgs false

theorem where_le {os : List At} {nm : ByteArray} {k : Nat} (hk : k < os.length) (h : (os.getD k noAt).name = nm) : whereA os nm ≤ k := by
  rcases Nat.lt_or_ge k (whereA os nm) with h1 | h1
  · have := List.not_of_lt_findIdx (p := fun x : At => decide (x.name = nm)) (xs := os) h1
    simp [List.getD, hk] at h
    simp [h] at this
  · exact h1
theorem where_iff {os : List At} {nm : ByteArray} (hm : mayAll os = true) {k : Nat} (hk : k < os.length) : (os.getD k noAt).name = nm ↔ whereA os nm = k := by
  constructor
  · intro h
    have hle := where_le hk h
    rcases Nat.lt_or_ge (whereA os nm) k with h1 | h1
    · exfalso
      unfold mayAll at hm
      rw [List.all_eq_true] at hm
      have := hm k (List.mem_range.2 hk)
      unfold atOk freeName at this
      rw [Bool.and_eq_true, List.all_eq_true] at this
      have h2 := this.1 (whereA os nm) (List.mem_range.2 h1)
      rw [decide_eq_true_eq] at h2
      exact h2 ((where_eq (by omega)).trans h.symm)
    · omega
  · intro h
    rw [← h]; exact where_eq (by omega)
def atv (os : List At) (nm : ByteArray) (k : Nat) : Int := if whereA os nm < k then (whereA os nm : Int) else -1

theorem st1w {x : At} {own arg : Int} (h : ¬ x.owner = 0) : stepA x own 1 arg = (x, 0, 1) := by unfold stepA; rw [if_pos rfl, if_pos h]
theorem st1d {x : At} {own arg : Int} (h : x.owner = 0) : stepA x own 1 arg = ({ x with owner := own }, 0, 0) := by unfold stepA; rw [if_pos rfl, if_neg (by simpa using h)]
theorem st2b {x : At} {own arg : Int} (h : ¬ x.owner = own) : stepA x own 2 arg = (x, 0, 2) := by unfold stepA; rw [if_neg (by decide), if_pos rfl, if_pos h]
theorem st2d {x : At} {own arg : Int} (h : x.owner = own) : stepA x own 2 arg = ({ x with owner := 0 }, 0, 0) := by unfold stepA; rw [if_neg (by decide), if_pos rfl, if_neg (by simpa using h)]
theorem st3n {x : At} {own arg : Int} (h : arg < 0 ∨ (x.items.length : Int) = x.cap) : stepA x own 3 arg = (x, 0, 0) := by unfold stepA; rw [if_neg (by decide), if_neg (by decide), if_pos rfl, if_pos h]
theorem st3y {x : At} {own arg : Int} (h : ¬ (arg < 0 ∨ (x.items.length : Int) = x.cap)) : stepA x own 3 arg = ({ x with items := x.items ++ [arg] }, 1, 0) := by unfold stepA; rw [if_neg (by decide), if_neg (by decide), if_pos rfl, if_neg h]
theorem st4n {x : At} {own arg : Int} (h : x.items.length = 0) : stepA x own 4 arg = (x, -1, 0) := by unfold stepA; rw [if_neg (by decide), if_neg (by decide), if_neg (by decide), if_pos h]
theorem st4y {x : At} {own arg : Int} (h : ¬ x.items.length = 0) : stepA x own 4 arg = ({ x with items := x.items.drop 1 }, x.items.getD 0 0, 0) := by unfold stepA; rw [if_neg (by decide), if_neg (by decide), if_neg (by decide), if_neg h]

/-- What it hands back. -/
def DoIs (w w' : World) (e : Ending) (l : Nat) (os' : List At) (n1 n2 : Int) : Prop := (∃ a' c', e = .returned (.tuple #[.slice a' l c', .int .i64 n1, .int .i64 n2]) ∧ AtsV w' a' l c' os') ∧ Below w.heap.size w w'

set_option maxRecDepth 100000 in
set_option maxHeartbeats 8000000 in
theorem rdo_any {w : World} {a : Option Addr} {l c : Nat} {os : List At} (h : AtsV w a l c os) (hl : l ≤ 1048576) (hi : ∀ x ∈ os, x.items.length * 8 ≤ 140737488355328) (th d : Int) (nm : ByteArray) (arg : Int) (ha : (Lit.int .i64 arg).wf = true) :
    Calls Try.prog 20 #[.slice a l c, .int .i64 th, .int .i64 d, .string nm, .int .i64 arg] w fun e w' => DoIs w w' e l (doA os th d nm arg).1 (doA os th d nm arg).2.1 (doA os th d nm arg).2.2 := by
  obtain ⟨i1, hi1, hz10, hz11, hz12⟩ := info_parts infoI
  have HV : Hid _ := h
  have HI : Hid _ := hi
  have HA : Hid _ := ha
  have HC : Hid _ := h.count
  have HF : Hid _ := h.fits
  have hm9 := h.room
  have hmax : maxLen = 9223372036854775807 := rfl
  obtain ⟨n1, hn1⟩ : ∃ n1, (doA os th d nm arg).2.1 = n1 := ⟨_, rfl⟩
  obtain ⟨n2, hn2⟩ : ∃ n2, (doA os th d nm arg).2.2 = n2 := ⟨_, rfl⟩
  obtain ⟨n3, hn3⟩ : ∃ n3, (doA os th d nm arg).1 = n3 := ⟨_, rfl⟩
  rw [hn1, hn2, hn3]
  have HD : Hid (doA os th d nm arg = (n3, n1, n2)) := by show _ = _; rw [← hn1, ← hn2, ← hn3]
  clear h hi ha hn1 hn2 hn3
  go_enter Try.func20, Try.ntmps20
  go_wp2_with fail
  refine (rcopy_any HV.out hl HI.out).mono ?_
  rintro e y1 ⟨⟨lv, rfl, vs, hN⟩, hb1⟩
  have HX0 : Hid (∃ ao co, lv = .slice ao l co) := by
    rcases hN.form with ⟨rfl, h0⟩ | ⟨g, cp, rfl⟩
    · exact ⟨none, 0, by rw [h0]⟩
    · exact ⟨_, cp, rfl⟩
  obtain ⟨ao, co, rfl⟩ := HX0.out
  have HN : Hid _ := hN
  have B1 : Hid (Below w.heap.size w y1) := hb1
  clear hN hb1 HX0
  go_wp2_with fail
  refine (rmay_any (HV.out.below B1.out)).mono ?_
  rintro e y2 ⟨rfl, hb2⟩
  have B2 : Hid (Below w.heap.size w y2) := B1.out.trans (hb2.mono B1.out.size)
  have HN2 : Hid (Cx w.heap.size y2 (.slice ao l co) os vs l) := HN.out.below hb2
  have HR2 : Hid (AtsV y2 ao l co os) := by
    have h1 := HN2.out
    have h2 := HC.out
    subst h2
    obtain ⟨a', c', e, h3⟩ := h1.ats HF.out
    cases e
    exact h3
  clear hb2 HN
  have FIN : Hid ((n3, n1, n2) = (os, 0, 2) → n1 = 0 ∧ n2 = 2 ∧ AtsV y2 ao l co n3) := fun E => by
    simp only [Prod.mk.injEq] at E
    obtain ⟨rfl, rfl, rfl⟩ := E
    exact ⟨rfl, rfl, HR2.out⟩
  cases hm : mayAll os with
  | false =>
    have HE : Hid _ := FIN.out (HD.out.symm.trans (by unfold doA badA; rw [hm]; rfl))
    go_wp2
    go_ret3
    exact ⟨⟨_, _, by rw [HE.out.1, HE.out.2.1]; rfl, HE.out.2.2⟩, B2.out⟩
  | true =>
    by_cases hbad : th < 0 ∨ 4 ≤ th ∨ d < 1 ∨ 5 < d
    · have HE : Hid _ := FIN.out (HD.out.symm.trans (by
        unfold doA
        rw [if_pos]
        unfold badA
        rw [hm]
        simp only [Bool.not_true, Bool.false_or, Bool.or_eq_true, decide_eq_true_eq]
        exact hbad))
      clear HD FIN
      rcases (show th < 0 ∨ (¬ th < 0 ∧ 3 < th) ∨ (¬ th < 0 ∧ ¬ 3 < th ∧ d < 1) ∨ (¬ th < 0 ∧ ¬ 3 < th ∧ ¬ d < 1 ∧ 5 < d) by omega) with h1 | ⟨h1, h2⟩ | ⟨h1, h2, h3⟩ | ⟨h1, h2, h3, h4⟩
      all_goals
        clear hbad
        go_wp2
        go_ret3
        exact ⟨⟨_, _, by rw [HE.out.1, HE.out.2.1]; rfl, HE.out.2.2⟩, B2.out⟩
    · have t0 : ¬ th < 0 := by omega
      have t3 : ¬ 3 < th := by omega
      have d1 : ¬ d < 1 := by omega
      have d5 : ¬ 5 < d := by omega
      have HB : Hid (badA os th d = false) := by
        show _ = _
        unfold badA
        rw [hm]
        simp only [Bool.not_true, Bool.false_or, Bool.or_eq_false_iff, decide_eq_false_iff_not]
        omega
      have HM : Hid _ := hm
      clear hm hbad
      by_cases hd5 : d = 5
      · have HE : Hid ((n3, n1, n2) = (os, 0, 0)) := HD.out.symm.trans (by unfold doA; rw [HB.out, if_neg (by decide), if_pos hd5])
        subst hd5
        clear HD FIN
        go_wp2
        go_ret3
        have E := HE.out
        simp only [Prod.mk.injEq] at E
        obtain ⟨rfl, rfl, rfl⟩ := E
        exact ⟨⟨_, _, rfl, HR2.out⟩, B2.out⟩
      · go_wp2_with fail
        go_loopg [14, 15] l (fun r av iv wq => ∃ (k : Nat) (z : Int), av = .int .i64 z ∧ iv = .int .i64 k ∧ k ≤ l ∧ l - k ≤ r ∧ Hid (z = atv os nm k) ∧ wq = y2)
        case atStart => exact ⟨0, _, rfl, rfl, Nat.zero_le _, by omega, rfl, rfl⟩
        case round =>
          obtain ⟨k, z, rfl, rfl, hk, hr, HAT, rfl⟩ := hrel
          by_cases hlt : k < l
          · rcases HV.out.cells with h0 | ⟨b, off, hA, hcl⟩
            · omega
            have q0 := cell_thru B2.out (hcl k hlt).1
            have HIF : Hid ((os.getD k noAt).name = nm ↔ whereA os nm = k) := where_iff HM.out (by have := HC.out; omega)
            generalize (os.getD k noAt).name = xn at q0 HIF
            cases hA
            have hii : (k : Int) < l := by omega
            have hin : 0 ≤ (k : Int) := by omega
            clear hcl
            by_cases he : xn = nm
            · have HA2 : Hid ((k : Int) = atv os nm (k + 1)) := by show _ = _; unfold atv; rw [HIF.out.1 he, if_pos (by omega)]
              have hde : (xn.toList == nm.toList) = true := by rw [toList_dec]; exact decide_eq_true he
              clear he
              go_wp2_with fail
              go_roundg (l - (k + 1))
              case measure => omega
              case rel => exact ⟨k + 1, _, rfl, by first | rfl | (congr 1; omega), by omega, Nat.le_refl _, HA2.out, rfl⟩
            · have HA2 : Hid (z = atv os nm (k + 1)) := by
                show _ = _
                have hne : ¬ whereA os nm = k := fun e => he (HIF.out.2 e)
                rw [HAT.out]; unfold atv
                by_cases h1 : whereA os nm < k
                · rw [if_pos h1, if_pos (by omega)]
                · rw [if_neg h1, if_neg (by omega)]
              have hde : (xn.toList == nm.toList) = false := toList_ne he
              clear he
              go_wp2_with fail
              go_roundg (l - (k + 1))
              case measure => omega
              case rel => exact ⟨k + 1, _, rfl, by first | rfl | (congr 1; omega), by omega, Nat.le_refl _, HA2.out, rfl⟩
          · obtain rfl : k = l := by omega
            have hii : ¬ (k : Int) < k := by omega
            have hHC := HC.out
            by_cases hw : whereA os nm < os.length
            rotate_left
            · have hz : z = -1 := by rw [HAT.out]; unfold atv; rw [if_neg (by omega)]
              have HE : Hid _ := FIN.out (HD.out.symm.trans (by unfold doA; rw [HB.out, if_neg (by decide), if_neg hd5, if_pos hw]))
              subst hz
              clear HD FIN hHC
              go_wp2
              go_ret3
              exact ⟨⟨_, _, by rw [HE.out.1, HE.out.2.1]; rfl, HE.out.2.2⟩, B2.out⟩
            obtain ⟨m, hmw⟩ : ∃ m, whereA os nm = m := ⟨_, rfl⟩
            have hz : z = m := by rw [HAT.out]; unfold atv; rw [hmw, if_pos (by omega)]
            subst hz
            rw [hmw] at hw
            have hml : m < k := by omega
            have HD2 : Hid ((n3, n1, n2) = if decide ((os.getD m noAt).cap = 0) ≠ decide (d ≤ 2) then (os, 0, 2) else (os.set m (stepA (os.getD m noAt) (th + 1) d arg).1, (stepA (os.getD m noAt) (th + 1) d arg).2)) := HD.out.symm.trans (by unfold doA; rw [HB.out, if_neg (by decide), if_neg hd5, hmw, if_neg (by simpa using hw)])
            have hmi : (m : Int) < k := by omega
            have hmn : ¬ (m : Int) < 0 := by omega
            have hmn' : 0 ≤ (m : Int) := by omega
            have HML : Hid _ := hml
            clear hmw hHC HAT
            obtain ⟨g, cp, hgc⟩ : ∃ g cp, (Value.slice ao k co) = .slice (some ⟨g, 0, none⟩) k cp := by
              rcases HN2.out.form with ⟨-, h0⟩ | h1
              · omega
              · exact h1
            cases hgc
            have HNC : Hid _ := HN2.out.nc
            have hgw := HNC.out.lt
            have hgB : w.heap.size ≤ g := (HN2.out.row.lt g rfl).1
            rcases HV.out.cells with h0 | ⟨b, off, hA, hcl⟩
            · omega
            have q1 := cell_thru B2.out (hcl m hml).2.1
            cases hA
            clear hcl
            obtain ⟨o0, o1, o2, o3⟩ := HNC.out.cell m hml
            have HOW : Hid _ := HNC.out.own m hml
            have HFAR : Hid _ := HNC.out.far m hml
            have HXF : Hid _ := HF.out (os.getD m noAt) (by simp [List.getD, hw])
            obtain ⟨x, hx⟩ : ∃ x, os.getD m noAt = x := ⟨_, rfl⟩
            have HX : Hid _ := hx
            have HI8 : Hid _ := may_item HM.out hw
            rw [hx] at q1 o0 o1 o2 HOW HD2 HXF HI8
            obtain ⟨a1, c1, hva⟩ := own_form HOW.out
            have HVA : Hid _ := hva
            obtain ⟨l1, hl1⟩ : ∃ l1, x.items.length = l1 := ⟨_, rfl⟩
            have HL1 : Hid _ := hl1
            rw [hl1] at hva
            rw [hva] at o3 HOW HFAR
            rw [hl1] at HOW HI8
            have HV1 : Hid _ := intsV_own HXF.out.2.2.2 hl1 HOW.out
            have fz := fun j => HN2.out.row.frozenAt j
            have hHC := HC.out
            have HOL : Hid _ := hHC
            clear hx hva hl1 hHC hw
            have hl18 : l1 ≤ 8 := HI8.out
            by_cases hmis : decide (x.cap = 0) = decide (d ≤ 2)
            rotate_left
            · have HE : Hid _ := FIN.out (HD2.out.trans (if_pos hmis))
              have hlk : (¬ x.cap = 0 ∧ d ≤ 2) ∨ (x.cap = 0 ∧ ¬ d ≤ 2) := by
                by_cases e1 : x.cap = 0 <;> by_cases e2 : d ≤ 2 <;> simp [e1, e2] at hmis ⊢
              generalize x.cap = xc at q1 hlk
              clear HD2 HD FIN hmis o0 o1 o2 o3
              rcases hlk with ⟨e1, e2⟩ | ⟨e1, e2⟩
              · have hdc : (xc == 0) = false := by simpa using e1
                go_wp2
                go_ret3
                exact ⟨⟨_, _, by rw [HE.out.1, HE.out.2.1]; rfl, HE.out.2.2⟩, B2.out⟩
              · subst e1
                go_wp2
                go_ret3
                exact ⟨⟨_, _, by rw [HE.out.1, HE.out.2.1]; rfl, HE.out.2.2⟩, B2.out⟩
            have HD3 : Hid ((n3, n1, n2) = (os.set m (stepA x (th + 1) d arg).1, (stepA x (th + 1) d arg).2)) := HD2.out.trans (if_neg (by simpa using hmis))
            have HMIS : Hid _ := hmis
            clear HD2 HD FIN hmis
            obtain ⟨Y1, hY1⟩ : ∃ Y1, wr.alloc (.cells #[.string x.name, .int .i64 x.cap, .int .i64 x.owner, .slice a1 l1 c1] 49) = Y1 := ⟨_, rfl⟩
            have bY : Below wr.heap.size wr Y1 := by subst hY1; exact bl_one _ _
            have SY : Hid (Y1.heap.size = wr.heap.size + 1) := by show _ = _; subst hY1; simp
            have g0 : Y1.cell? ⟨wr.heap.size, 0, none⟩ = some (.string x.name) := by subst hY1; exact cell_last rfl rfl
            have g1 : Y1.cell? ⟨wr.heap.size, 1, none⟩ = some (.int .i64 x.cap) := by subst hY1; exact cell_last rfl rfl
            have g2 : Y1.cell? ⟨wr.heap.size, 2, none⟩ = some (.int .i64 x.owner) := by subst hY1; exact cell_last rfl rfl
            have g3 : Y1.cell? ⟨wr.heap.size, 3, none⟩ = some (.slice a1 l1 c1) := by subst hY1; exact cell_last rfl rfl
            have HNY : Hid (Nc w.heap.size Y1 g k co os vs k) := HNC.out.below bY
            have HRY : Hid (Rc w.heap.size Y1 g k co os) := HNY.out.res HOL.out HF.out
            have BY : Hid (Below w.heap.size w Y1) := B2.out.trans (bY.mono B2.out.size)
            have HFY : Hid (∀ j, Y1.frozen? ⟨g, j, none⟩ = false) := fun j => by
              obtain ⟨xs, hx⟩ := HNY.out.row
              exact hx.frozenAt j
            have O2 := cell_thru bY o2
            have O3 := cell_thru bY o3
            have HAY : Hid (AtsV Y1 (some ⟨g, 0, none⟩) k co os) := HRY.out.ats HF.out
            rcases (show d = 1 ∨ d = 2 ∨ d = 3 ∨ d = 4 by omega) with rfl | rfl | rfl | rfl
            · have hc0 : x.cap = 0 := by have := HMIS.out; simpa using this
              by_cases how : x.owner = 0
              · have HE : Hid (n3 = os.set m { x with owner := th + 1 } ∧ n1 = 0 ∧ n2 = 0) := by
                  have := HD3.out; rw [st1d how] at this; simp only [Prod.mk.injEq] at this; exact this
                have RY : Hid (AtsV (Y1.setCell ⟨g, m * 4 + 2, none⟩ (.int .i64 (th + 1))) (some ⟨g, 0, none⟩) k co n3) := by
                  have := HRY.out.owner HML.out (th + 1)
                  rw [HX.out] at this
                  rw [HE.out.1]
                  refine this.ats (fun y hy => ?_)
                  rcases List.mem_or_eq_of_mem_set hy with h1 | rfl
                  · exact HF.out y h1
                  · exact ⟨HXF.out.1, HXF.out.2.1, wf_own (by omega) (by omega), HXF.out.2.2.2⟩
                have BY2 : Hid (Below w.heap.size w (Y1.setCell ⟨g, m * 4 + 2, none⟩ (.int .i64 (th + 1)))) := BY.out.setCell hgB _
                have fz2 := HFY.out (m * 4 + 2)
                rw [hc0] at q1 o1 g1 hY1
                rw [how] at o2 O2 g2 hY1
                clear how hc0 HD3 fz bY
                go_wp2_with fail
                go_ret3
                exact ⟨⟨_, _, by rw [HE.out.2.1, HE.out.2.2]; rfl, RY.out⟩, BY2.out⟩
              · have HE : Hid (n3 = os ∧ n1 = 0 ∧ n2 = 1) := by
                  have := HD3.out; rw [st1w how] at this
                  have e := set_same os m
                  rw [HX.out] at e
                  rw [e] at this
                  simp only [Prod.mk.injEq] at this; exact this
                have RY : Hid (AtsV Y1 (some ⟨g, 0, none⟩) k co n3) := by show AtsV _ _ _ _ _; rw [HE.out.1]; exact HAY.out
                have hdo : (x.owner != 0) = true := by simpa using how
                generalize x.owner = xo at o2 O2 g2 hY1 hdo
                rw [hc0] at q1 o1 g1 hY1
                clear how hc0 HD3 fz bY
                go_wp2_with fail
                go_ret3
                exact ⟨⟨_, _, by rw [HE.out.2.1, HE.out.2.2]; rfl, RY.out⟩, BY.out⟩
            · have hc0 : x.cap = 0 := by have := HMIS.out; simpa using this
              by_cases how : x.owner = th + 1
              · have HE : Hid (n3 = os.set m { x with owner := 0 } ∧ n1 = 0 ∧ n2 = 0) := by
                  have := HD3.out; rw [st2d how] at this; simp only [Prod.mk.injEq] at this; exact this
                have RY : Hid (AtsV (Y1.setCell ⟨g, m * 4 + 2, none⟩ (.int .i64 0)) (some ⟨g, 0, none⟩) k co n3) := by
                  have := HRY.out.owner HML.out 0
                  rw [HX.out] at this
                  rw [HE.out.1]
                  refine this.ats (fun y hy => ?_)
                  rcases List.mem_or_eq_of_mem_set hy with h1 | rfl
                  · exact HF.out y h1
                  · exact ⟨HXF.out.1, HXF.out.2.1, (by decide : (Lit.int .i64 0).wf = true), HXF.out.2.2.2⟩
                have BY2 : Hid (Below w.heap.size w (Y1.setCell ⟨g, m * 4 + 2, none⟩ (.int .i64 0))) := BY.out.setCell hgB _
                have fz2 := HFY.out (m * 4 + 2)
                rw [hc0] at q1 o1 g1 hY1
                rw [how] at o2 O2 g2 hY1
                clear how hc0 HD3 fz bY
                go_wp2_with fail
                go_ret3
                exact ⟨⟨_, _, by rw [HE.out.2.1, HE.out.2.2]; rfl, RY.out⟩, BY2.out⟩
              · have HE : Hid (n3 = os ∧ n1 = 0 ∧ n2 = 2) := by
                  have := HD3.out; rw [st2b how] at this
                  have e := set_same os m
                  rw [HX.out] at e
                  rw [e] at this
                  simp only [Prod.mk.injEq] at this; exact this
                have RY : Hid (AtsV Y1 (some ⟨g, 0, none⟩) k co n3) := by show AtsV _ _ _ _ _; rw [HE.out.1]; exact HAY.out
                have hdo : (x.owner != th + 1) = true := by simpa using how
                generalize x.owner = xo at o2 O2 g2 hY1 hdo
                rw [hc0] at q1 o1 g1 hY1
                clear how hc0 HD3 fz bY
                go_wp2_with fail
                go_ret3
                exact ⟨⟨_, _, by rw [HE.out.2.1, HE.out.2.2]; rfl, RY.out⟩, BY.out⟩
            · have hcn : ¬ x.cap = 0 := by
                intro e
                have := HMIS.out
                rw [decide_eq_true e] at this
                exact absurd this (by decide)
              by_cases hno : arg < 0 ∨ (x.items.length : Int) = x.cap
              · have HE : Hid (n3 = os ∧ n1 = 0 ∧ n2 = 0) := by
                  have := HD3.out; rw [st3n hno] at this
                  have e := set_same os m
                  rw [HX.out] at e
                  rw [e] at this
                  simp only [Prod.mk.injEq] at this; exact this
                have RY : Hid (AtsV Y1 (some ⟨g, 0, none⟩) k co n3) := by show AtsV _ _ _ _ _; rw [HE.out.1]; exact HAY.out
                rw [HL1.out] at hno
                have hdc : (x.cap == 0) = false := by simpa using hcn
                generalize x.cap = xc at q1 o1 g1 hY1 hdc hno
                clear hcn HD3 fz bY
                rcases (show arg < 0 ∨ (¬ arg < 0 ∧ (l1 : Int) = xc) by omega) with h1 | ⟨h1, h2⟩
                · go_wp2_with fail
                  go_ret3
                  exact ⟨⟨_, _, by rw [HE.out.2.1, HE.out.2.2]; rfl, RY.out⟩, BY.out⟩
                · subst h2
                  clear hno
                  go_wp2_with fail
                  go_ret3
                  exact ⟨⟨_, _, by rw [HE.out.2.1, HE.out.2.2]; rfl, RY.out⟩, BY.out⟩
              · have HE : Hid (n3 = os.set m { x with items := x.items ++ [arg] } ∧ n1 = 1 ∧ n2 = 0) := by
                  have := HD3.out; rw [st3y hno] at this
                  simp only [Prod.mk.injEq] at this; exact this
                rw [HL1.out] at hno
                have hdc : (x.cap == 0) = false := by simpa using hcn
                have hd1 : ¬ arg < 0 := fun h => hno (Or.inl h)
                have hd2 : ((l1 : Int) == x.cap) = false := by have : ¬ (l1 : Int) = x.cap := fun h => hno (Or.inr h); simpa using this
                generalize hxc : x.cap = xc at q1 o1 g1 hY1 hdc hd2
                obtain ⟨Z, hZ⟩ : ∃ Z, Y1.alloc (.cells #[.int .i64 arg] 2) = Z := ⟨_, rfl⟩
                have bZ : Below Y1.heap.size Y1 Z := by subst hZ; exact bl_one _ _
                have SZ : Hid (Z.heap.size = Y1.heap.size + 1) := by show _ = _; subst hZ; simp
                have HBZ : Hid (Below w.heap.size w Z) := BY.out.trans (bZ.mono BY.out.size)
                have HNZ : Hid (Nc w.heap.size Z g k co os vs k) := HNY.out.below bZ
                have HOZ : Hid (Z.ownsRow w.heap.size 2 1 (.slice a1 l1 c1) l1 (x.items.flatMap intC)) := row_thru (row_thru HOW.out bY) bZ
                have HZB : Hid (w.heap.size ≤ Z.heap.size) := HBZ.out.size
                have HGZ : Hid (g < Z.heap.size) := HNZ.out.lt
                have HNCC : Hid (∀ j u, ([.int .i64 arg] : List Value)[j]? = some u → Z.cell? ((⟨Y1.heap.size, 0, none⟩ : Addr).add j) = some u) := by
                  intro j u hu
                  match j, hu with
                  | 0, hu => subst hZ; simp at hu; subst hu; exact cell_last (by simp) (by simp)
                  | j + 1, hu => simp at hu
                have Q3 := cell_thru bZ O3
                have HFZ : Hid (∀ j, Z.frozen? ⟨g, j, none⟩ = false) := fun j => by
                  obtain ⟨xs, hx⟩ := HNZ.out.row
                  exact hx.frozenAt j
                clear hcn HD3 fz bY bZ hno hxc
                go_wp2_with (first | (at_builtin; refine wpList_append_lies _ rfl _ _ 47 rfl w.heap.size 2 i1 _ 1 8 Try.underlying47 hi1 hz10 hz11 hz12 rfl (by decide) (.slice a1 l1 c1) l1 (x.items.flatMap intC) rfl HOZ.out ⟨Y1.heap.size, 0, none⟩ 1 1 [.int .i64 arg] rfl rfl HNCC.out (by intro u hu; simp at hu; subst hu; rfl) (by decide) (by omega) (by omega) HZB.out Z.heap.size rfl ?_; intro ga ca w1 ho1 hg1 hat1 hlt1; have Q4 := hg1.cell Q3 (fun e => HFAR.out e.symm); have F4 := (hg1.frozen_far ⟨g, m * 4 + 3, none⟩ HGZ.out (fun e => HFAR.out e.symm)).trans (HFZ.out _); have HO1 : Hid _ := ho1; have HG1 : Hid _ := hg1; have HAT1 : Hid _ := hat1; clear ho1 hg1 hat1) | fail)
                go_ret3
                have hx1 : (x.items ++ [arg]).flatMap intC = x.items.flatMap intC ++ [.int .i64 arg] := by simp [intC]
                have HOV : w1.ownsRow w.heap.size 2 1 (.slice (some ⟨ga, 0, none⟩) (l1 + 1) ca) (l1 + 1) ((x.items ++ [arg]).flatMap intC) := by rw [hx1]; exact HO1.out
                have hgag : (Value.slice (some ⟨ga, 0, none⟩) (l1 + 1) ca).ownBlock ≠ some g := by
                  rcases HAT1.out with e | e
                  · intro e2; simp [Value.ownBlock] at e2; subst e2; exact HFAR.out e
                  · intro e2; simp [Value.ownBlock] at e2; have := HGZ.out; omega
                have V0 : IntsV w1 (some ⟨ga, 0, none⟩) (l1 + 1) ca (x.items ++ [arg]) := intsV_own (fun z hz => by
                  rcases List.mem_append.1 hz with h | h
                  · exact HXF.out.2.2.2 z h
                  · simp at h; subst h; exact HA.out) (by rw [List.length_append, HL1.out]; rfl) HOV
                have N0 := own_new HOV hgag
                have R := HNZ.out.grow HOL.out HF.out HML.out (by rw [HVA.out, HL1.out]; exact HG1.out) V0 N0
                rw [HX.out] at R
                refine ⟨⟨_, _, by rw [HE.out.2.1, HE.out.2.2]; rfl, ?_⟩, ?_⟩
                · rw [HE.out.1]
                  refine R.ats (fun y hy => ?_)
                  rcases List.mem_or_eq_of_mem_set hy with h1 | rfl
                  · exact HF.out y h1
                  · exact ⟨HXF.out.1, HXF.out.2.1, HXF.out.2.2.1, V0.fits⟩
                · refine Below.setCell ?_ hgB _
                  have hb := HBZ.out
                  refine ⟨HG1.out.os.trans hb.os, HG1.out.tape.trans hb.tape, HG1.out.output.trans hb.output, Nat.le_trans hb.size HG1.out.size, fun i hi => (HG1.out.block i (by have := hb.size; omega) ?_).trans (hb.block i hi)⟩
                  intro e
                  have := ((show Z.ownsRow w.heap.size 2 1 (.slice a1 l1 c1) l1 (x.items.flatMap intC) from HOZ.out).lt i e.symm).1
                  omega
            · have hcn : ¬ x.cap = 0 := by
                intro e
                have := HMIS.out
                rw [decide_eq_true e] at this
                exact absurd this (by decide)
              have hdc : (x.cap == 0) = false := by simpa using hcn
              by_cases hno : l1 = 0
              · have HE : Hid (n3 = os ∧ n1 = -1 ∧ n2 = 0) := by
                  have := HD3.out; rw [st4n (HL1.out.trans hno)] at this
                  have e := set_same os m
                  rw [HX.out] at e
                  rw [e] at this
                  simp only [Prod.mk.injEq] at this; exact this
                have RY : Hid (AtsV Y1 (some ⟨g, 0, none⟩) k co n3) := by show AtsV _ _ _ _ _; rw [HE.out.1]; exact HAY.out
                generalize x.cap = xc at q1 o1 g1 hY1 hdc
                clear hcn HD3 fz bY HL1 HVA HOW HFAR HV1 HI8
                subst hno
                go_wp2_with fail
                go_ret3
                exact ⟨⟨_, _, by rw [HE.out.2.1, HE.out.2.2]; rfl, RY.out⟩, BY.out⟩
              · have HE : Hid (n3 = os.set m { x with items := x.items.drop 1 } ∧ n1 = x.items.getD 0 0 ∧ n2 = 0) := by
                  have := HD3.out; rw [st4y (by rw [HL1.out]; exact hno)] at this
                  simp only [Prod.mk.injEq] at this; exact this
                have HVY : Hid _ := HV1.out.below bY
                rcases HVY.out.cells with h0 | ⟨b1, off1, ha1, hc1⟩
                · omega
                have t0 := hc1 0 (by omega)
                rw [Nat.add_zero] at t0
                have HC1 : Hid _ := hc1
                have hrm1 := HVY.out.room
                obtain ⟨z, hz⟩ : ∃ z, x.items.getD 0 0 = z := ⟨_, rfl⟩
                rw [hz] at t0 HE
                have hp : 0 < l1 := by omega
                have HBY1 : Hid _ := bY
                generalize x.cap = xc at q1 o1 g1 hY1 hdc
                cases ha1
                clear hcn HD3 fz bY hz hc1
                have HDR : Hid ((x.items.drop 1).length = l1 - 1) := by show _ = _; rw [List.length_drop, HL1.out]
                by_cases hc1' : c1 = 1
                · have e1 : l1 = 1 := by omega
                  have HSV : Hid (IntsV Y1 (some ⟨b1, off1, none⟩) 0 0 (x.items.drop 1)) := ⟨by rw [HDR.out, e1], fun y hy => HXF.out.2.2.2 y (List.mem_of_mem_drop hy), fun e => (by cases e), ⟨Nat.le_refl _, Nat.zero_le _⟩, .inl rfl⟩
                  have HSR : Hid _ := HSV.out.src
                  subst hc1' e1
                  go_wp2_with (first | (at_builtin; refine wpList_append_copy rfl _ _ 47 rfl 2 i1 _ 1 8 Try.underlying47 hi1 hz10 hz11 hz12 rfl (by decide) (a := some ⟨b1, off1, none⟩) (l := 0) (c := 0) (cs := (x.items.drop 1).flatMap intC) rfl rfl HSV.out.nilOf HSR.out.1 HSR.out.2.1 HSR.out.2.2 (by omega) (by omega) ?_; intro e5 f5 x5 ho5 hb5; have Q5 := cell_thru hb5 O3; have F5 := (hb5.frozen (p := ⟨g, m * 4 + 3, none⟩) (by show g < Y1.heap.size; rw [SY.out]; omega)).trans (HFY.out (m * 4 + 3)); have G5 := cell_thru hb5 g3; have T5 := cell_thru hb5 t0; have HO5 : Hid _ := ho5; have HB5 : Hid _ := hb5; clear ho5 hb5) | fail)
                  have HXY : Hid (g ≠ wr.heap.size ∧ b1 ≠ g) := ⟨by omega, fun e => HFAR.out (by rw [e]; rfl)⟩
                  obtain ⟨X6, hX6⟩ : ∃ X6, x5.setCell ⟨g, m * 4 + 3, none⟩ (.slice e5 0 f5) = X6 := ⟨_, rfl⟩
                  rw [hX6]
                  have G6 : X6.cell? ⟨wr.heap.size, 3, none⟩ = some (.slice (some ⟨b1, off1, none⟩) 1 1) := by
                    subst hX6
                    rw [World.cell?_setCell_far _ _ _ _ (show g ≠ wr.heap.size from HXY.out.1)]
                    exact G5
                  have T6 : X6.cell? ⟨b1, off1, none⟩ = some (.int .i64 z) := by
                    subst hX6
                    rw [World.cell?_setCell_far _ _ _ _ (show g ≠ b1 from fun e => HXY.out.2 e.symm)]
                    exact T5
                  have HO5' : Hid (x5.ownsRow Y1.heap.size 2 1 (.slice e5 0 f5) 0 ((x.items.drop 1).flatMap intC)) := ⟨HO5.out.1, HO5.out.2.imp (fun y => ⟨y.1, rfl⟩) id⟩
                  have V5 : Hid (IntsV x5 e5 0 f5 (x.items.drop 1)) := intsV_own (fun y hy => HXF.out.2.2.2 y (List.mem_of_mem_drop hy)) HSV.out.count HO5'.out
                  have N5 : Hid (New w.heap.size g x5 e5) := own_new (own_base HO5'.out BY.out.size) (fun e => by have := (HO5'.out.lt g e).1; rw [SY.out] at this; omega)
                  have R5 := ((HNY.out.below HB5.out).res HOL.out HF.out).items HML.out V5.out N5.out
                  rw [HX.out, hX6] at R5
                  have A6 : Hid (AtsV X6 (some ⟨g, 0, none⟩) k co n3) := by
                    show AtsV _ _ _ _ _
                    rw [HE.out.1]
                    refine R5.ats (fun y hy => ?_)
                    rcases List.mem_or_eq_of_mem_set hy with h1 | rfl
                    · exact HF.out y h1
                    · exact ⟨HXF.out.1, HXF.out.2.1, HXF.out.2.2.1, V5.out.fits⟩
                  have B6 : Hid (Below w.heap.size w X6) := by
                    show Below _ _ _
                    subst hX6
                    exact (BY.out.trans (HB5.out.mono BY.out.size)).setCell hgB _
                  clear R5 Q5 F5 G5 T5 hX6
                  go_quiet (fail)
                  go_wp2
                  go_ret3
                  exact ⟨⟨_, _, by rw [HE.out.2.1, HE.out.2.2]; rfl, A6.out.below (bl_drewN (Below.refl _ _) _)⟩, bl_drewN B6.out _⟩
                · have HSV : Hid (IntsV Y1 (some ⟨b1, off1 + 1, none⟩) (l1 - 1) (c1 - 1) (x.items.drop 1)) := ⟨HDR.out, fun y hy => HXF.out.2.2.2 y (List.mem_of_mem_drop hy), fun e => (by cases e), ⟨by omega, by omega⟩, .inr ⟨b1, off1 + 1, rfl, fun i hi => by
                    rw [show off1 + 1 + i = off1 + (1 + i) by omega, HC1.out (1 + i) (by omega)]
                    simp [List.getD, Nat.add_comm]⟩⟩
                  have HSR : Hid _ := HSV.out.src
                  go_wp2_with (first | (at_builtin; refine wpList_append_copy rfl _ _ 47 rfl 2 i1 _ 1 8 Try.underlying47 hi1 hz10 hz11 hz12 rfl (by decide) (a := some ⟨b1, off1 + 1, none⟩) (l := (l1 - 1)) (c := (c1 - 1)) (cs := (x.items.drop 1).flatMap intC) rfl rfl HSV.out.nilOf HSR.out.1 HSR.out.2.1 HSR.out.2.2 (by omega) (by omega) ?_; intro e5 f5 x5 ho5 hb5; have Q5 := cell_thru hb5 O3; have F5 := (hb5.frozen (p := ⟨g, m * 4 + 3, none⟩) (by show g < Y1.heap.size; rw [SY.out]; omega)).trans (HFY.out (m * 4 + 3)); have G5 := cell_thru hb5 g3; have T5 := cell_thru hb5 t0; have HO5 : Hid _ := ho5; have HB5 : Hid _ := hb5; clear ho5 hb5) | fail)
                  have HXY : Hid (g ≠ wr.heap.size ∧ b1 ≠ g) := ⟨by omega, fun e => HFAR.out (by rw [e]; rfl)⟩
                  obtain ⟨X6, hX6⟩ : ∃ X6, x5.setCell ⟨g, m * 4 + 3, none⟩ (.slice e5 (l1 - 1) f5) = X6 := ⟨_, rfl⟩
                  rw [hX6]
                  have G6 : X6.cell? ⟨wr.heap.size, 3, none⟩ = some (.slice (some ⟨b1, off1, none⟩) l1 c1) := by
                    subst hX6
                    rw [World.cell?_setCell_far _ _ _ _ (show g ≠ wr.heap.size from HXY.out.1)]
                    exact G5
                  have T6 : X6.cell? ⟨b1, off1, none⟩ = some (.int .i64 z) := by
                    subst hX6
                    rw [World.cell?_setCell_far _ _ _ _ (show g ≠ b1 from fun e => HXY.out.2 e.symm)]
                    exact T5
                  have HO5' : Hid (x5.ownsRow Y1.heap.size 2 1 (.slice e5 (l1 - 1) f5) (l1 - 1) ((x.items.drop 1).flatMap intC)) := HO5.out
                  have V5 : Hid (IntsV x5 e5 (l1 - 1) f5 (x.items.drop 1)) := intsV_own (fun y hy => HXF.out.2.2.2 y (List.mem_of_mem_drop hy)) HSV.out.count HO5'.out
                  have N5 : Hid (New w.heap.size g x5 e5) := own_new (own_base HO5'.out BY.out.size) (fun e => by have := (HO5'.out.lt g e).1; rw [SY.out] at this; omega)
                  have R5 := ((HNY.out.below HB5.out).res HOL.out HF.out).items HML.out V5.out N5.out
                  rw [HX.out, hX6] at R5
                  have A6 : Hid (AtsV X6 (some ⟨g, 0, none⟩) k co n3) := by
                    show AtsV _ _ _ _ _
                    rw [HE.out.1]
                    refine R5.ats (fun y hy => ?_)
                    rcases List.mem_or_eq_of_mem_set hy with h1 | rfl
                    · exact HF.out y h1
                    · exact ⟨HXF.out.1, HXF.out.2.1, HXF.out.2.2.1, V5.out.fits⟩
                  have B6 : Hid (Below w.heap.size w X6) := by
                    show Below _ _ _
                    subst hX6
                    exact (BY.out.trans (HB5.out.mono BY.out.size)).setCell hgB _
                  clear R5 Q5 F5 G5 T5 hX6
                  go_quiet (fail)
                  go_wp2
                  go_ret3
                  exact ⟨⟨_, _, by rw [HE.out.2.1, HE.out.2.2]; rfl, A6.out.below (bl_drewN (Below.refl _ _) _)⟩, bl_drewN B6.out _⟩
end Go.Proofs.Ytafdjmccgijmnaa.A

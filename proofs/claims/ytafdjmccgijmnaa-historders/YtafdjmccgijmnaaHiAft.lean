/- HistAfter: the objects behind any order, or that it is none. -/
import Derived.Test.YtafdjmccgijmnaaHiRefAfter
import Derived.Test.YtafdjmccgijmnaaHiAfterW
import Derived.Test.YtafdjmccgijmnaaHiPend
namespace Go.Proofs.Ytafdjmccgijmnaa
open Go.RowKit A Go.Maps
set_option linter.unusedVariables false
set_option linter.unusedSimpArgs false
set_option maxRecDepth 100000 in
theorem r13After_any {w : World} {v0 v1 v2 : Value} {lo : Nat} {r : Option (List At)} (h : Calls Try.prog 32 #[v0, v1, v2] w (RAftOut w lo r)) :
    Calls Try.prog 17 #[v0, v1, v2] w (RAftOut w lo r) := by
  go_enter Try.func17, Try.ntmps17
  go_wp2_with fail
  refine h.mono ?_
  rintro e y ⟨hb, hr⟩
  have HB : Hid (Below w.heap.size w y) := hb
  clear hb h
  cases r with
  | none =>
    have hr : e = .returned (.tuple #[.slice none 0 0, .bool false]) := hr
    subst hr
    go_wp2_with fail
    go_ret2
    exact ⟨HB.out, rfl⟩
  | some s =>
    obtain ⟨a, c, he, hs⟩ := hr
    subst he
    have HS : Hid _ := hs
    clear hs
    go_wp2_with fail
    go_ret2
    exact ⟨HB.out, a, c, rfl, HS.out⟩
theorem H.aft_eq {os : List At} {ts : List H.Ac} {ks : List Int} (hl : ts.length ≤ 60) : H.aftD os ts ks = H.aft os ts ks := by
  unfold H.aftD H.aft
  rw [H.after_same hl]
set_option maxRecDepth 100000 in
set_option maxHeartbeats 16000000 in
theorem aftL_any {w : World} {a aa an : Option Addr} {lo c l cc m cn : Nat} {os : List At} {ts : List H.Ac} {ks : List Int} (hO : AtsV w a lo c os) (hA : ActsV w aa l cc ts) (hf : ∀ r ∈ ts, AcFit r) (hN : NumsV w an m cn ks) :
    Calls Try.prog 4 #[.slice a lo c, .slice aa l cc, .slice an m cn] w fun e w' => e = .returned (.bool true) ∧ Below w.heap.size w w' := by
  have HO : Hid (AtsV w a lo c os) := hO
  have HA : Hid (ActsV w aa l cc ts) := hA
  have HN : Hid (NumsV w an m cn ks) := hN
  have HTC : Hid (ts.length = l) := hA.count
  have HARG : Hid (∀ r ∈ ts, (Lit.int .i64 r.arg).wf = true) := fun r hr => (hf r hr).2.2.2.1
  have hmx := hA.room
  have hmn := hN.room
  have hmax : maxLen = 9223372036854775807 := rfl
  have HL : Hid (∀ W, Calls Try.prog 9 #[] W fun e w' => e = .returned (.bool true) ∧ Below W.heap.size W w') := fun W => live_any W
  clear hO hA hf hN
  have hfew := few_any (w := w) (a := a) (aa := aa) (lo := lo) (c := c) (l := l) (cc := cc)
  by_cases hsm : lo ≤ 10 ∧ l ≤ 12
  rotate_left
  · have e1 : (decide (lo ≤ 10) && decide (l ≤ 12)) = false := by
      rw [Bool.and_eq_false_iff, decide_eq_false_iff_not, decide_eq_false_iff_not]
      omega
    rw [e1] at hfew
    clear hsm e1
    go_enter Try.func4, Try.ntmps4
    go_wp2_with fail
    refine hfew.mono ?_
    rintro e y ⟨rfl, hy⟩
    rw [hy]
    clear hy hfew
    go_wp2_with fail
    refine (HL.out _).mono ?_
    rintro e y ⟨rfl, hy⟩
    have HY : Hid (Below w.heap.size w y) := hy
    clear hy
    go_wp2_with fail
    go_ret
    exact ⟨rfl, HY.out⟩
  rw [decide_eq_true hsm.1, decide_eq_true hsm.2] at hfew
  have hl12 : l ≤ 12 := hsm.2
  have hlo10 : lo ≤ 10 := hsm.1
  by_cases hm100 : m ≤ 100
  rotate_left
  · have hgt : (100 : Int) < m := by omega
    clear hsm
    go_enter Try.func4, Try.ntmps4
    go_wp2_with fail
    refine hfew.mono ?_
    rintro e y ⟨rfl, hy⟩
    rw [hy]
    clear hy hfew
    go_wp2_with fail
    refine (HL.out _).mono ?_
    rintro e y ⟨rfl, hy⟩
    have HY : Hid (Below w.heap.size w y) := hy
    clear hy
    go_wp2_with fail
    go_ret
    exact ⟨rfl, HY.out⟩
  have hgt : ¬ (100 : Int) < m := by omega
  have ho := after_any HO.out (by omega) HA.out (by omega) HN.out HARG.out
  have HD : Hid (∀ W, Below w.heap.size w W → Calls Try.prog 17 #[.slice a lo c, .slice aa l cc, .slice an m cn] W (RAftOut W lo (H.aft os ts ks))) := fun W hW => by
    rw [← H.aft_eq (by rw [HTC.out]; omega)]
    exact r13After_any (rafter_any (HO.out.below hW) (by omega) (HA.out.below hW) (HN.out.below hW) HARG.out)
  obtain ⟨R, hR⟩ : ∃ R, H.aft os ts ks = R := ⟨_, rfl⟩
  rw [hR] at ho HD
  clear hsm hR
  go_enter Try.func4, Try.ntmps4
  go_wp2_with fail
  refine hfew.mono ?_
  rintro e y ⟨rfl, hy⟩
  rw [hy]
  clear hy hfew
  go_wp2_with fail
  refine ho.mono ?_
  rintro e y1 ⟨hb1, hr1⟩
  have HB1 : Hid (Below w.heap.size w y1) := hb1
  have hd := HD.out y1 hb1
  clear ho hb1
  cases R with
  | none =>
    have hr1 : e = .returned (.tuple #[.slice none 0 0, .int .i64 1]) := hr1
    subst hr1
    go_wp2_with fail
    refine hd.mono ?_
    rintro e y2 ⟨hb2, hr2⟩
    have hr2 : e = .returned (.tuple #[.slice none 0 0, .bool false]) := hr2
    subst hr2
    have HB2 : Hid (Below w.heap.size w y2) := HB1.out.trans (hb2.mono HB1.out.size)
    have hNil : AtsV y2 none 0 0 [] := ⟨rfl, by simp, fun _ => ⟨rfl, rfl⟩, ⟨Nat.le_refl _, Nat.zero_le _⟩, .inl rfl⟩
    have hsame := A.same_any hNil hNil true (by simp)
    clear hd hb2 hNil HD
    go_wp2_with fail
    refine hsame.mono ?_
    rintro e y3 ⟨rfl, hb3⟩
    have HB3 : Hid (Below w.heap.size w y3) := HB2.out.trans (hb3.mono HB2.out.size)
    clear hsame hb3
    go_wp2_with fail
    refine (HL.out _).mono ?_
    rintro e y4 ⟨rfl, hb4⟩
    have HB4 : Hid (Below w.heap.size w y4) := HB3.out.trans (hb4.mono HB3.out.size)
    clear hb4
    go_wp2_with fail
    go_ret
    exact ⟨rfl, HB4.out⟩
  | some s =>
    obtain ⟨g, hr1, hs1⟩ := hr1
    subst hr1
    have HS1 : Hid _ := hs1
    clear hs1
    go_wp2_with fail
    refine hd.mono ?_
    rintro e y2 ⟨hb2, a2, c2, hr2, hs2⟩
    subst hr2
    have HB2 : Hid (Below w.heap.size w y2) := HB1.out.trans (hb2.mono HB1.out.size)
    have hsame := A.same_any ((A.Stay.ats HS1.out).below hb2) (A.Stay.ats hs2) true (by simp)
    clear hd hb2 hs2 HD
    go_wp2_with fail
    refine hsame.mono ?_
    rintro e y3 ⟨rfl, hb3⟩
    have HB3 : Hid (Below w.heap.size w y3) := HB2.out.trans (hb3.mono HB2.out.size)
    clear hsame hb3
    go_wp2_with fail
    refine (HL.out _).mono ?_
    rintro e y4 ⟨rfl, hb4⟩
    have HB4 : Hid (Below w.heap.size w y4) := HB3.out.trans (hb4.mono HB3.out.size)
    clear hb4
    go_wp2_with fail
    go_ret
    exact ⟨rfl, HB4.out⟩
end Go.Proofs.Ytafdjmccgijmnaa

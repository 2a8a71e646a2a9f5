/- Any text's items are the document's, and the caller's own. -/
import Derived.Test.YtbkjiipelmfbjaaGreatDoorAsRefO
import Derived.Laws.Rows
namespace Go.Proofs.YtbkjiipelmfbjaaGreatDoor
open Go.RowKit Go.Maps Go.Lib
set_option linter.unusedVariables false
set_option linter.unusedSimpArgs false

/-- A row of words that was made between two worlds, whatever it holds. -/
def WRow (W : World) (lo hi : Nat) (v : Value) : Prop :=
  v = .slice none 0 0 ∨ ∃ g n cap cur, v = .slice (some ⟨g, 0, none⟩) n cap ∧ lo ≤ g ∧ g < hi ∧ W.heap[g]? = some (.cells cur 2 (0, 0)) ∧ n ≤ cur.size ∧ n ≤ maxLen
/-- What is kept while the first items' words are stored over. -/
structure RS (w w1 W : World) (tv : List (X.It × Value)) (va : Value) (tb : List (X.It × Value)) (vb : Value) : Prop where
  low : Below w.heap.size w W
  own : W.ownsRow w.heap.size 32 7 va tv.length (tv.flatMap itF)
  ws : ∀ p ∈ tv, WRow W w.heap.size w1.heap.size p.2
  ob : W.ownsRow w1.heap.size 32 7 vb tb.length (tb.flatMap itF)
  ib : ItO w1.heap.size W tb
theorem WRow.set {W : World} {lo hi g : Nat} {v : Value} {cur : Array Value} (h : WRow W lo hi v) (hg : W.heap[g]? = some (.cells cur 2 (0, 0))) (k : Nat) (u : Value) : WRow (W.setCell ⟨g, k, none⟩ u) lo hi v := by
  rcases h with h | ⟨g', n, cap, cur', e, h1, h2, h3, h4⟩
  · exact .inl h
  · by_cases eg : g' = g
    · subst eg
      exact .inr ⟨g', n, cap, _, e, h1, h2, heap_setCell_same W g' k cur' _ u h3, by simpa using h4.1, h4.2⟩
    · exact .inr ⟨g', n, cap, cur', e, h1, h2, (Below.heap_setCell _ _ _ _ eg).trans h3, h4⟩
theorem RS.set {w w1 W : World} {tv tb : List (X.It × Value)} {va vb : Value} (h : RS w w1 W tv va tb vb) {g : Nat} {cur : Array Value} (h1 : w.heap.size ≤ g) (h2 : g < w1.heap.size) (hg : W.heap[g]? = some (.cells cur 2 (0, 0))) (k : Nat) (u : Value) : RS w w1 (W.setCell ⟨g, k, none⟩ u) tv va tb vb := by
  refine ⟨h.low.setCell h1 _, ?_, fun p hp => (h.ws p hp).set hg k u, ?_, h.ib.keptB (gb_set W ⟨g, k, none⟩ u) h2⟩
  · refine h.own.kept (gb_set W ⟨g, k, none⟩ u) (.inr fun e => ?_)
    obtain ⟨-, cur', e2⟩ := own_cells h.own g _ e hg
    injection e2 with e3 e4
    exact absurd e4 (by decide)
  · exact h.ob.kept (gb_set W ⟨g, k, none⟩ u) (.inr fun e => by have := (h.ob.lt g e).1; omega)
theorem RS.below {w w1 W W' : World} {tv tb : List (X.It × Value)} {va vb : Value} (h : RS w w1 W tv va tb vb) (hb : Below W.heap.size W W') : RS w w1 W' tv va tb vb := by
  refine ⟨h.low.trans (hb.mono h.low.size), own_thru h.own hb, fun p hp => ?_, own_thru h.ob hb, h.ib.below hb⟩
  rcases h.ws p hp with e | ⟨g, n, cap, cur, e, h1, h2, h3, h4⟩
  · exact .inl e
  · exact .inr ⟨g, n, cap, cur, e, h1, h2, (hb.block g (Array.getElem?_eq_some_iff.1 h3).1).trans h3, h4⟩
theorem RS.row {w w1 W : World} {tv tb : List (X.It × Value)} {a : Option Addr} {n c : Nat} {vb : Value} (h : RS w w1 W tv (.slice a n c) tb vb) {i : Nat} (hi : i < tv.length) : ∃ gA off aw lw cw, a = some ⟨gA, off, none⟩ ∧ W.cell? ⟨gA, off + i * 7 + 6, none⟩ = some (.slice aw lw cw) ∧ WRow W w.heap.size w1.heap.size (.slice aw lw cw) ∧ (tv.getD i (X.noIt, .slice none 0 0)).2 = .slice aw lw cw ∧ gA < W.heap.size := by
  rcases h.own.2 with ⟨e1, e2⟩ | ⟨g, cap, cur, e1, hb, hh, h1, h2, -⟩
  · omega
  · injection e1 with e1 e2 e3
    have hm : tv.getD i (X.noIt, .slice none 0 0) ∈ tv := by simp [List.getD, hi]
    have hw := h.ws _ hm
    have hc : W.cell? ⟨g, i * 7 + 6, none⟩ = some (tv.getD i (X.noIt, .slice none 0 0)).2 := by
      have ho := h.own
      rw [e1, e2] at ho
      rw [ho.cellAt (i * 7 + 6) (show i * 7 + 6 < tv.length * 7 by omega), flat_at itF 7 (X.noIt, .slice none 0 0) itF_len tv i 6 hi (by omega)]
      rfl
    have hs : ∃ aw lw cw, (tv.getD i (X.noIt, .slice none 0 0)).2 = .slice aw lw cw := by
      rcases hw with e | ⟨_, _, _, _, e, _⟩
      · exact ⟨_, _, _, e⟩
      · exact ⟨_, _, _, e⟩
    obtain ⟨aw, lw, cw, e⟩ := hs
    rw [e] at hc hw
    exact ⟨g, 0, aw, lw, cw, e1, by rw [Nat.zero_add]; exact hc, hw, e, (Array.getElem?_eq_some_iff.1 hh).1⟩
theorem ws_of {w w1 : World} {tv : List (X.It × Value)} (h : ItO w.heap.size w1 tv) : ∀ p ∈ tv, WRow w1 w.heap.size w1.heap.size p.2 := by
  intro p hp
  obtain ⟨-, aw, lw, cw, e, ho⟩ := h p hp
  rcases ho.2 with ⟨e1, -⟩ | ⟨g, cap, cur, e1, hb, hh, h1, h2, h3, -⟩
  · exact .inl (e.trans e1)
  · exact .inr ⟨g, lw, cap, cur, e.trans e1, hb, (Array.getElem?_eq_some_iff.1 hh).1, hh, by omega, by omega⟩
theorem WRow.at {W : World} {lo hi : Nat} {aw : Option Addr} {lw cw : Nat} (h : WRow W lo hi (.slice aw lw cw)) {m : Nat} (hm : m < lw) : ∃ g cur v, aw = some ⟨g, 0, none⟩ ∧ lo ≤ g ∧ g < hi ∧ W.heap[g]? = some (.cells cur 2 (0, 0)) ∧ W.cell? ⟨g, m, none⟩ = some v ∧ W.frozen? ⟨g, m, none⟩ = false := by
  rcases h with e | ⟨g, n, cap, cur, e, h1, h2, h3, h4⟩
  · injection e with _ e _; omega
  · injection e with e1 e2 e3
    have hlt : m < cur.size := by omega
    refine ⟨g, cur, cur[m], e1, h1, h2, h3, ?_, ?_⟩
    · unfold World.cell?
      simp only [h3]
      simp [hlt]
    · unfold World.frozen?
      simp only [h3]
      simp
set_option maxRecDepth 100000 in
set_option maxHeartbeats 8000000 in
theorem reads_any (s : ByteArray) (hs : s.size ≤ maxLen) (w : World) (ht : Tab w) :
    Calls Tryz.prog 3 #[.string s] w fun e w' => e = .returned (.bool true) ∧ Below w.heap.size w w' := by
  have HT : Hid _ := ht
  have hs2 := hs
  unfold maxLen at hs2
  clear ht
  by_cases h1 : 20000 < s.size
  · go_enter Tryz.func3, Tryz.ntmps3
    go_wp2_with fail
    refine (live_any _ HT.out).mono ?_
    rintro e y ⟨rfl, hb⟩
    have HB : Hid _ := hb
    clear hb
    go_wp2_with fail
    go_ret
    exact ⟨rfl, HB.out⟩
  have d1 : ¬ (20000 : Int) < s.size := by omega
  have hp1 := parse_any s hs
  have hp2 := rparse_any s hs
  obtain ⟨⟨l, z⟩, hr⟩ : ∃ r, X.parse s.data.toList = r := ⟨_, rfl⟩
  obtain ⟨-, -, hl20, -, hfit⟩ := X.parse_ok hr
  rw [hr] at hp1 hp2
  have HFIT : Hid _ := hfit
  have HP1 : Hid _ := hp1
  have HP2 : Hid _ := hp2
  have hzz : ((z : Int) != (z : Int)) = false := by simp
  clear h1 hr hfit hp1 hp2 hs
  go_enter Tryz.func3, Tryz.ntmps3
  go_wp2_with fail
  refine (HP1.out w HT.out).mono ?_
  rintro e w1 ⟨tv, a, c, rfl, htv, ho1, hi1, hb1⟩
  have HB1 : Hid (Below w.heap.size w w1) := hb1
  have HO1 : Hid _ := ho1
  have HI1 : Hid (ItO w.heap.size w1 tv) := hi1
  have HTV : Hid (tv.map (·.1) = l) := htv
  have hn : tv.length ≤ 20000 := by have := congrArg List.length htv; rw [List.length_map] at this; simp only at this; omega
  clear ho1 hi1 hb1 htv
  go_wp2_with fail
  refine (HP2.out w1).mono ?_
  rintro e w2 ⟨tb, b, cb, rfl, htb, ho2, hi2, hb2⟩
  have HB2 : Hid (Below w1.heap.size w1 w2) := hb2
  have HO2 : Hid _ := ho2
  have HI2 : Hid _ := hi2
  have HTB : Hid (tb.map (·.1) = l) := htb
  have HRS : Hid (RS w w1 w2 tv (.slice a tv.length c) tb (.slice b tb.length cb)) := by
    refine ⟨HB1.out.trans (hb2.mono HB1.out.size), own_thru HO1.out hb2, fun p hp => ?_, ho2, hi2⟩
    rcases ws_of HI1.out p hp with e | ⟨g, n, cap, cur, e, h1, h2, h3, h4⟩
    · exact .inl e
    · exact .inr ⟨g, n, cap, cur, e, h1, h2, (hb2.block g h2).trans h3, h4⟩
  have HV1 : Hid (ItsV w2 a tv.length c l) := by
    have := its_of_own (own_thru HO1.out hb2) (ItO.below HI1.out hb2) (fun t ht => HFIT.out t (by rw [HTV.out] at ht; exact ht))
    rw [HTV.out] at this
    exact this
  have HV2 : Hid (∀ W, RS w w1 W tv (.slice a tv.length c) tb (.slice b tb.length cb) → ItsV W b tb.length cb l) := fun W h => by
    have := its_of_own h.ob h.ib (fun t ht => HFIT.out t (by rw [HTB.out] at ht; exact ht))
    rw [HTB.out] at this
    exact this
  clear ho2 hi2 hb2 htb HO1 HI1 HO2 HI2
  go_wp2_with fail
  refine (same_any HV1.out (HV2.out _ HRS.out) true (by simp)).mono ?_
  rintro e w3 ⟨rfl, hb3⟩
  have HRS3 : Hid _ := HRS.out.below hb3
  have HLW : Hid (∀ p ∈ tv, ∃ aw lw cw, p.2 = .slice aw lw cw ∧ lw ≤ 9223372036854775807) := fun p hp => by
    rcases HRS.out.ws p hp with e | ⟨g, n, cap, cur, e, h1, h2, h3, h4⟩
    · exact ⟨_, _, _, e, by omega⟩
    · exact ⟨_, _, _, e, by have := h4.2; unfold maxLen at this; exact this⟩
  clear hb3 HV1 HRS
  go_wp2_with fail
  go_loopg [7] tv.length (fun r iv wq => ∃ (k : Nat), iv = .int .i64 k ∧ k ≤ tv.length ∧ tv.length - k ≤ r ∧ Hid (RS w w1 wq tv (.slice a tv.length c) tb (.slice b tb.length cb)))
  case atStart => exact ⟨0, rfl, Nat.zero_le _, by omega, HRS3.out⟩
  case round =>
    obtain ⟨k, rfl, hk, hrr, HRW⟩ := hrel
    by_cases hlt : k < tv.length
    · have hii : (k : Int) < tv.length := by omega
      have hin : 0 ≤ (k : Int) := by omega
      obtain ⟨gA, off, aw, lw, cw, rfl, c6, hwr, hsl, hgA⟩ := HRW.out.row hlt
      have HSL : Hid _ := hsl
      have hlw : lw ≤ 9223372036854775807 := by
        obtain ⟨aw', lw', cw', e, h⟩ := HLW.out _ (by simp [List.getD, hlt] : tv.getD k (X.noIt, .slice none 0 0) ∈ tv)
        rw [hsl] at e
        cases e
        exact h
      generalize wr = wo at *
      clear c6 hwr hsl hgA
      go_wp2_with fail
      go_loopg [8] lw (fun r jv wq => ∃ (m : Nat), jv = .int .i64 m ∧ m ≤ lw ∧ lw - m ≤ r ∧ Hid (RS w w1 wq tv (.slice (some ⟨gA, off, none⟩) tv.length c) tb (.slice b tb.length cb)))
      case atStart => exact ⟨0, rfl, Nat.zero_le _, by omega, HRW.out⟩
      case round =>
        obtain ⟨m, rfl, hm, hr2, HRI⟩ := hrel
        have hcw : wr.cell? ⟨gA, off + k * 7 + 6, none⟩ = some (.slice aw lw cw) ∧ WRow wr w.heap.size w1.heap.size (.slice aw lw cw) := by
          obtain ⟨gA', off', aw', lw', cw', e, c6, hwr, hsl, hgA⟩ := HRI.out.row hlt
          cases e
          rw [HSL.out] at hsl
          cases hsl
          exact ⟨c6, hwr⟩
        obtain ⟨c6, hwr⟩ := hcw
        by_cases hlt2 : m < lw
        · have hmi : (m : Int) < lw := by omega
          have hmn : 0 ≤ (m : Int) := by omega
          obtain ⟨g, cur, v, rfl, hg1, hg2, hg3, hcell, hfz⟩ := hwr.at hlt2
          have HRN : Hid _ := HRI.out.set hg1 hg2 hg3 m (.int .i64 (-7))
          clear hwr hg3
          go_wp2_with fail
          go_roundg (lw - (m + 1))
          case measure => omega
          case rel => exact ⟨m + 1, by go_num, by omega, Nat.le_refl _, HRN.out⟩
        · obtain rfl : m = lw := by omega
          have hmi : ¬ (m : Int) < m := by omega
          clear hwr
          go_wp2_with fail
          go_roundg (tv.length - (k + 1))
          case measure => omega
          case rel => exact ⟨k + 1, by go_num, by omega, Nat.le_refl _, HRI.out⟩
    · obtain rfl : k = tv.length := by omega
      have hii : ¬ (tv.length : Int) < tv.length := by omega
      go_wp2_with fail
      refine (HP1.out wr (HT.out.below HRW.out.low)).mono ?_
      rintro e w4 ⟨tc, a4, c4, rfl, htc, ho4, hi4, hb4⟩
      have HTC : Hid (tc.map (·.1) = l) := htc
      have HV4 : Hid (ItsV w4 a4 tc.length c4 l) := by
        have := its_of_own ho4 hi4 (fun t ht => HFIT.out t (by rw [HTC.out] at ht; exact ht))
        rw [HTC.out] at this
        exact this
      have HR4 : Hid _ := HRW.out.below hb4
      clear htc ho4 hi4 hb4
      go_wp2_with fail
      refine (same_any HV4.out (HV2.out _ HR4.out) true (by simp)).mono ?_
      rintro e w5 ⟨rfl, hb5⟩
      have HR5 : Hid _ := HR4.out.low.trans (hb5.mono HR4.out.low.size)
      clear hb5
      go_wp2_with fail
      refine (live_any _ (HT.out.below HR5.out)).mono ?_
      rintro e y ⟨rfl, hb⟩
      have HB : Hid _ := hb
      clear hb
      go_wp2_with fail
      go_ret
      exact ⟨rfl, HR5.out.trans (HB.out.mono HR5.out.size)⟩

end Go.Proofs.YtbkjiipelmfbjaaGreatDoor

/- Texts there and back. -/
import Derived.Test.YteakimepdnojdaaDoorAsLive
namespace Go.Proofs.YteakimepdnojdaaDoor
open Go.RowKit Go.Maps Go.Lib
set_option linter.unusedVariables false
set_option linter.unusedSimpArgs false

theorem parse_len0 {s : X.By} (h : (X.parse s).2 ≠ 0) : (X.parse s).1 = [] := by
  obtain ⟨h1, -⟩ := X.parse_ok (s := s) (l := (X.parse s).1) (z := (X.parse s).2) rfl
  exact h1.resolve_left h
theorem str_max {l : X.By} (h : l.length ≤ 200000) : (X.str l).size ≤ maxLen := by rw [str_size]; unfold maxLen; omega
theorem print_len {xs : List X.It} {s : X.By} (h : X.print xs = (s, 0)) : s.length ≤ 200000 := by
  unfold X.print at h
  split at h
  · split at h
    · cases h
    · cases h; omega
  · cases h

set_option maxRecDepth 100000 in
set_option maxHeartbeats 8000000 in
/-- The second half: a text that is read, printed, and read again. -/
theorem back_any {w : World} {a1 : Option Addr} {l1 c1 : Nat} {xs : List X.It} (h1 : ItsV w a1 l1 c1 xs) (s : ByteArray) (hs : s.size ≤ maxLen) (ht : Tab w) :
    Calls Tryd.prog 3 #[.slice a1 l1 c1, .string s] w fun e w' => e = .returned (.bool true) ∧ Below w.heap.size w w' := by
  have H1 : Hid _ := h1
  have HT : Hid _ := ht
  have hsm := hs
  unfold maxLen at hsm
  clear h1 ht
  by_cases hb1 : 300 < l1
  · go_enter Tryd.func3, Tryd.ntmps3
    go_wp2_with fail
    refine (live_any _ HT.out).mono ?_
    rintro e y ⟨rfl, hb⟩
    have HB : Hid _ := hb
    clear hb
    go_wp2_with fail
    go_ret
    exact ⟨rfl, HB.out⟩
  have hd1 : ¬ (300 : Int) < l1 := by omega
  by_cases hb2 : 20000 < s.size
  · go_enter Tryd.func3, Tryd.ntmps3
    go_wp2_with fail
    refine (live_any _ HT.out).mono ?_
    rintro e y ⟨rfl, hb⟩
    have HB : Hid _ := hb
    clear hb
    go_wp2_with fail
    go_ret
    exact ⟨rfl, HB.out⟩
  have hd2 : ¬ (20000 : Int) < s.size := by omega
  have HSS : Hid (s.size ≤ 20000) := by show _ ≤ _; omega
  have hp1 := print_any H1.out HT.out
  obtain ⟨r1, hr1⟩ : ∃ r, X.print xs = r := ⟨_, rfl⟩
  rw [hr1] at hp1
  have HR1 : Hid (X.print xs = r1) := hr1
  clear hr1 hb1 hb2
  obtain ⟨t1, z1⟩ := r1
  have HPS : Hid (∀ y, Tab y → _) := fun y hy => parse_v s hs y hy
  obtain ⟨⟨bl, bz⟩, hrb⟩ : ∃ r, X.parse s.data.toList = r := ⟨_, rfl⟩
  have HRB : Hid (X.parse s.data.toList = (bl, bz)) := hrb
  rw [hrb] at HPS
  have HBZ : Hid (bz ≠ 0 → bl = []) := fun h => by have := parse_len0 (s := s.data.toList) (by rw [hrb]; exact h); rw [hrb] at this; exact this
  have HBK : Hid (bz = 0 → X.print bl = (X.text bl, 0) ∧ X.parse (X.text bl) = (bl, 0) ∧ (X.text bl).length ≤ 200000) := fun h => by
    subst h
    obtain ⟨q1, q2⟩ := X.print_parse (by rw [len_list]; have := HSS.out; omega) hrb
    exact ⟨q1, q2, print_len q1⟩
  clear hrb hs
  go_enter Tryd.func3, Tryd.ntmps3
  go_wp2_with fail
  refine hp1.mono ?_
  rintro e w1 ⟨rfl, hb⟩
  have HB1 : Hid (Below w.heap.size w w1) := hb
  clear hb hp1
  have key : ∀ (K : Act → World → Prop), True := fun _ => trivial
  clear key
  by_cases hz1 : z1 = 0
  rotate_left
  · have hz1' : ((z1 : Int) == 0) = false := by simp; omega
    clear hz1
    go_wp2_with fail
    refine (HPS.out w1 (HT.out.below HB1.out)).mono ?_
    rintro e w4 ⟨a4, c4, rfl, hv4, hb⟩
    have HB4 : Hid (Below w.heap.size w w4) := HB1.out.trans (hb.mono HB1.out.size)
    simp only at hv4
    have HV4 : Hid (ItsV w4 a4 bl.length c4 bl) := hv4
    have HT4 : Hid (Tab w4) := HT.out.below HB4.out
    clear hb hv4 HPS
    by_cases hbz : bz = 0
    rotate_left
    · have hbz' : ((bz : Int) != 0) = true := by simp; omega
      have hl0 : bl = [] := HBZ.out hbz
      subst hl0
      clear hbz
      go_wp2_with fail
      refine (live_any _ HT4.out).mono ?_
      rintro e y ⟨rfl, hb⟩
      have HB : Hid _ := hb
      clear hb
      go_wp2_with fail
      go_ret
      exact ⟨rfl, HB4.out.trans (HB.out.mono HB4.out.size)⟩
    obtain ⟨q1, q2, q3⟩ := HBK.out hbz
    have hbz' : ((bz : Int) != 0) = false := by simp; omega
    have hpr := print_any HV4.out HT4.out
    rw [q1] at hpr
    have HQ2 : Hid (∀ y, Tab y → _) := fun y hy => parse_v (X.str (X.text bl)) (str_max q3) y hy
    rw [str_list, q2] at HQ2
    clear hbz q1 q2 q3 HBK HBZ HRB
    generalize X.text bl = tx at *
    go_wp2_with fail
    refine hpr.mono ?_
    rintro e w5 ⟨rfl, hb⟩
    have HB5 : Hid (Below w4.heap.size w4 w5) := hb
    have HW5 : Hid (Below w.heap.size w w5) := HB4.out.trans (hb.mono HB4.out.size)
    clear hb hpr
    simp only at HQ2 ⊢
    generalize X.str tx = su at *
    go_wp2_with fail
    refine (HQ2.out w5 (HT.out.below HW5.out)).mono ?_
    rintro e w6 ⟨a6, c6, rfl, hv6, hb⟩
    have HB6 : Hid (Below w4.heap.size w4 w6) := HB5.out.trans (hb.mono HB5.out.size)
    have HW6 : Hid (Below w.heap.size w w6) := HW5.out.trans (hb.mono HW5.out.size)
    simp only at hv6
    have hs2 := same_any (HV4.out.below HB6.out) hv6 true (by simp)
    clear hb hv6 HQ2
    go_wp2_with fail
    refine hs2.mono ?_
    rintro e w7 ⟨rfl, hb⟩
    have HW7 : Hid (Below w.heap.size w w7) := HW6.out.trans (hb.mono HW6.out.size)
    clear hb hs2
    go_wp2_with fail
    refine (live_any _ (HT.out.below HW7.out)).mono ?_
    rintro e y ⟨rfl, hb⟩
    have HB : Hid _ := hb
    clear hb
    go_wp2_with fail
    go_ret
    exact ⟨rfl, HW7.out.trans (HB.out.mono HW7.out.size)⟩
  subst hz1
  have hpp := X.parse_print (fun t ht => (H1.out.fit t ht).2) HR1.out
  have htl := print_len HR1.out
  have hpt := parse_v (X.str t1) (str_max htl) w1 (HT.out.below HB1.out)
  rw [str_list, hpp] at hpt
  clear hpp htl
  generalize X.str t1 = u1 at *
  go_wp2_with fail
  refine hpt.mono ?_
  rintro e w2 ⟨a2, c2, rfl, hv2, hb⟩
  simp only at hv2
  have HB2 : Hid (Below w.heap.size w w2) := HB1.out.trans (hb.mono HB1.out.size)
  have hsm1 := same_any hv2 (H1.out.below HB2.out) true (by simp)
  clear hb hpt hv2
  go_wp2_with fail
  refine hsm1.mono ?_
  rintro e w3 ⟨rfl, hb⟩
  have HB3 : Hid (Below w.heap.size w w3) := HB2.out.trans (hb.mono HB2.out.size)
  clear hb hsm1 HB1 HB2
  generalize w3 = w1 at *
  have HB1 : Hid (Below w.heap.size w w1) := HB3.out
  clear HB3
  go_wp2_with fail
  refine (HPS.out w1 (HT.out.below HB1.out)).mono ?_
  rintro e w4 ⟨a4, c4, rfl, hv4, hb⟩
  have HB4 : Hid (Below w.heap.size w w4) := HB1.out.trans (hb.mono HB1.out.size)
  simp only at hv4
  have HV4 : Hid (ItsV w4 a4 bl.length c4 bl) := hv4
  have HT4 : Hid (Tab w4) := HT.out.below HB4.out
  clear hb hv4 HPS
  by_cases hbz : bz = 0
  rotate_left
  · have hbz' : ((bz : Int) != 0) = true := by simp; omega
    have hl0 : bl = [] := HBZ.out hbz
    subst hl0
    clear hbz
    go_wp2_with fail
    refine (live_any _ HT4.out).mono ?_
    rintro e y ⟨rfl, hb⟩
    have HB : Hid _ := hb
    clear hb
    go_wp2_with fail
    go_ret
    exact ⟨rfl, HB4.out.trans (HB.out.mono HB4.out.size)⟩
  obtain ⟨q1, q2, q3⟩ := HBK.out hbz
  have hbz' : ((bz : Int) != 0) = false := by simp; omega
  have hpr := print_any HV4.out HT4.out
  rw [q1] at hpr
  have HQ2 : Hid (∀ y, Tab y → _) := fun y hy => parse_v (X.str (X.text bl)) (str_max q3) y hy
  rw [str_list, q2] at HQ2
  clear hbz q1 q2 q3 HBK HBZ HRB
  generalize X.text bl = tx at *
  go_wp2_with fail
  refine hpr.mono ?_
  rintro e w5 ⟨rfl, hb⟩
  have HB5 : Hid (Below w4.heap.size w4 w5) := hb
  have HW5 : Hid (Below w.heap.size w w5) := HB4.out.trans (hb.mono HB4.out.size)
  clear hb hpr
  simp only at HQ2 ⊢
  generalize X.str tx = su at *
  go_wp2_with fail
  refine (HQ2.out w5 (HT.out.below HW5.out)).mono ?_
  rintro e w6 ⟨a6, c6, rfl, hv6, hb⟩
  have HB6 : Hid (Below w4.heap.size w4 w6) := HB5.out.trans (hb.mono HB5.out.size)
  have HW6 : Hid (Below w.heap.size w w6) := HW5.out.trans (hb.mono HW5.out.size)
  simp only at hv6
  have hs2 := same_any (HV4.out.below HB6.out) hv6 true (by simp)
  clear hb hv6 HQ2
  go_wp2_with fail
  refine hs2.mono ?_
  rintro e w7 ⟨rfl, hb⟩
  have HW7 : Hid (Below w.heap.size w w7) := HW6.out.trans (hb.mono HW6.out.size)
  clear hb hs2
  go_wp2_with fail
  refine (live_any _ (HT.out.below HW7.out)).mono ?_
  rintro e y ⟨rfl, hb⟩
  have HB : Hid _ := hb
  clear hb
  go_wp2_with fail
  go_ret
  exact ⟨rfl, HW7.out.trans (HB.out.mono HW7.out.size)⟩

end Go.Proofs.YteakimepdnojdaaDoor

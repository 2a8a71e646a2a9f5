/- Unlike items have unlike texts. -/
import Derived.Test.YteakimepdnojdaaDoorAsLive
namespace Go.Proofs.YteakimepdnojdaaDoor
open Go.RowKit Go.Maps Go.Lib
set_option linter.unusedVariables false
set_option linter.unusedSimpArgs false

theorem print_inj {xs ys : List X.It} {s : X.By} (hx : ∀ t ∈ xs, X.fitsIt t) (hy : ∀ t ∈ ys, X.fitsIt t) (h1 : X.print xs = (s, 0)) (h2 : X.print ys = (s, 0)) : xs = ys := by
  have e1 := X.parse_print hx h1
  have e2 := X.parse_print hy h2
  rw [e1] at e2
  exact (Prod.mk.inj e2).1
theorem print_code (xs : List X.It) : ((X.print xs).2 : Int) = 0 ∨ ((X.print xs).2 : Int) = 1 ∨ ((X.print xs).2 : Int) = 8 := by
  unfold X.print
  split
  · split <;> simp
  · simp

set_option maxRecDepth 100000 in
set_option maxHeartbeats 8000000 in
theorem apart_any {w : World} {a1 a2 : Option Addr} {l1 c1 l2 c2 : Nat} {xs ys : List X.It} (h1 : ItsV w a1 l1 c1 xs) (h2 : ItsV w a2 l2 c2 ys) (ht : Tab w) :
    Calls Tryd.prog 6 #[.slice a1 l1 c1, .slice a2 l2 c2] w fun e w' => e = .returned (.bool true) ∧ Below w.heap.size w w' := by
  have H1 : Hid _ := h1
  have H2 : Hid _ := h2
  have HT : Hid _ := ht
  clear h1 h2 ht
  by_cases hb1 : 300 < l1
  · go_enter Tryd.func6, Tryd.ntmps6
    go_wp2_with fail
    refine (live_any _ HT.out).mono ?_
    rintro e y ⟨rfl, hb⟩
    have HB : Hid _ := hb
    clear hb
    go_wp2_with fail
    go_ret
    exact ⟨rfl, HB.out⟩
  have hd1 : ¬ (300 : Int) < l1 := by omega
  by_cases hb2 : 300 < l2
  · go_enter Tryd.func6, Tryd.ntmps6
    go_wp2_with fail
    refine (live_any _ HT.out).mono ?_
    rintro e y ⟨rfl, hb⟩
    have HB : Hid _ := hb
    clear hb
    go_wp2_with fail
    go_ret
    exact ⟨rfl, HB.out⟩
  have hd2 : ¬ (300 : Int) < l2 := by omega
  have hp1 := print_any H1.out HT.out
  have HP2 : Hid (∀ y, Below w.heap.size w y → _) := fun y hy => print_any (H2.out.below hy) (HT.out.below hy)
  have HC1 : Hid _ := print_code xs
  have HC2 : Hid _ := print_code ys
  obtain ⟨r1, hr1⟩ : ∃ r, X.print xs = r := ⟨_, rfl⟩
  obtain ⟨r2, hr2⟩ : ∃ r, X.print ys = r := ⟨_, rfl⟩
  rw [hr1] at hp1 HC1
  rw [hr2] at HP2 HC2
  have HR1 : Hid _ := hr1
  have HR2 : Hid _ := hr2
  clear hr1 hr2 hb1 hb2
  obtain ⟨t1, z1⟩ := r1
  obtain ⟨t2, z2⟩ := r2
  go_enter Tryd.func6, Tryd.ntmps6
  go_wp2_with fail
  refine hp1.mono ?_
  rintro e w1 ⟨rfl, hb⟩
  have HB1 : Hid (Below w.heap.size w w1) := hb
  clear hb hp1
  go_wp2_with fail
  refine (HP2.out w1 HB1.out).mono ?_
  rintro e w2 ⟨rfl, hb⟩
  have HB2 : Hid (Below w.heap.size w w2) := HB1.out.trans (hb.mono HB1.out.size)
  clear hb HP2
  have HT2 : Hid (Tab w2) := HT.out.below HB2.out
  by_cases hz1 : z1 = 0
  rotate_left
  · have hz1' : ((z1 : Int) != 0) = true := by simp; omega
    clear hz1
    go_wp2_with fail
    refine (live_any _ HT2.out).mono ?_
    rintro e y ⟨rfl, hb⟩
    have HB : Hid _ := hb
    clear hb
    go_wp2_with fail
    go_ret
    exact ⟨rfl, HB2.out.trans (HB.out.mono HB2.out.size)⟩
  by_cases hz2 : z2 = 0
  rotate_left
  · have hz1' : ((z1 : Int) != 0) = false := by simp; omega
    have hz2' : ((z2 : Int) != 0) = true := by simp; omega
    clear hz1 hz2
    go_wp2_with fail
    refine (live_any _ HT2.out).mono ?_
    rintro e y ⟨rfl, hb⟩
    have HB : Hid _ := hb
    clear hb
    go_wp2_with fail
    go_ret
    exact ⟨rfl, HB2.out.trans (HB.out.mono HB2.out.size)⟩
  have hz1' : ((z1 : Int) != 0) = false := by simp; omega
  have hz2' : ((z2 : Int) != 0) = false := by simp; omega
  obtain ⟨bb, hbb⟩ := bool_of (xs = ys)
  have hsame := same_any (H1.out.below HB2.out) (H2.out.below HB2.out) bb hbb
  have hst : ((X.str t1).toList == (X.str t2).toList) = bb := by
    rw [ByteArray.toList_eq, ByteArray.toList_eq, str_list, str_list, Bool.eq_iff_iff, beq_iff_eq, hbb]
    constructor
    · intro e
      subst hz1 hz2 e
      exact print_inj (fun t ht => (H1.out.fit t ht).2) (fun t ht => (H2.out.fit t ht).2) HR1.out HR2.out
    · intro e
      have := HR1.out.symm.trans ((congrArg X.print e).trans HR2.out)
      exact (Prod.mk.inj this).1
  clear hz1 hz2 hbb HR1 HR2 HC1 HC2
  generalize X.str t1 = u1 at *
  generalize X.str t2 = u2 at *
  cases bb
  · go_wp2_with fail
    refine hsame.mono ?_
    rintro e w3 ⟨rfl, hb⟩
    have HB3 : Hid (Below w.heap.size w w3) := HB2.out.trans (hb.mono HB2.out.size)
    clear hb hsame
    go_wp2_with fail
    refine (live_any _ (HT.out.below HB3.out)).mono ?_
    rintro e y ⟨rfl, hb⟩
    have HB : Hid _ := hb
    clear hb
    go_wp2_with fail
    go_ret
    exact ⟨rfl, HB3.out.trans (HB.out.mono HB3.out.size)⟩
  · go_wp2_with fail
    refine hsame.mono ?_
    rintro e w3 ⟨rfl, hb⟩
    have HB3 : Hid (Below w.heap.size w w3) := HB2.out.trans (hb.mono HB2.out.size)
    clear hb hsame
    go_wp2_with fail
    refine (live_any _ (HT.out.below HB3.out)).mono ?_
    rintro e y ⟨rfl, hb⟩
    have HB : Hid _ := hb
    clear hb
    go_wp2_with fail
    go_ret
    exact ⟨rfl, HB3.out.trans (HB.out.mono HB3.out.size)⟩

end Go.Proofs.YteakimepdnojdaaDoor

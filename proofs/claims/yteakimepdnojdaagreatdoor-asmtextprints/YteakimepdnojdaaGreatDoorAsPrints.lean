/- Any items' text is the document's. -/
import Derived.Test.YteakimepdnojdaaGreatDoorAsCopy
import Derived.Test.YteakimepdnojdaaGreatDoorAsRefG
namespace Go.Proofs.YteakimepdnojdaaGreatDoor
open Go.RowKit Go.Maps Go.Lib
set_option linter.unusedVariables false
set_option linter.unusedSimpArgs false

set_option maxRecDepth 100000 in
set_option maxHeartbeats 8000000 in
theorem prints_any {w : World} {a1 : Option Addr} {l1 c1 : Nat} {xs : List X.It} (h1 : ItsV w a1 l1 c1 xs) (hi : ∀ x ∈ xs, x.words.length * 8 ≤ 140737488355328) (ht : Tab w) :
    Calls Tryz.prog 4 #[.slice a1 l1 c1] w fun e w' => e = .returned (.bool true) ∧ Below w.heap.size w w' := by
  have H1 : Hid _ := h1
  have HT : Hid _ := ht
  have HI : Hid _ := hi
  clear h1 ht hi
  by_cases hb1 : 300 < l1
  · go_enter Tryz.func4, Tryz.ntmps4
    go_wp2_with fail
    refine (live_any _ HT.out).mono ?_
    rintro e y ⟨rfl, hb⟩
    have HB : Hid _ := hb
    clear hb
    go_wp2_with fail
    go_ret
    exact ⟨rfl, HB.out⟩
  have hd1 : ¬ (300 : Int) < l1 := by omega
  have hcp := rcopy_any H1.out (by omega) HI.out
  obtain ⟨r1, hr1⟩ : ∃ r, X.print xs = r := ⟨_, rfl⟩
  have HP1 : Hid (∀ y a c, ItsV y a l1 c xs → Tab y → Calls Tryz.prog 10 #[.slice a l1 c] y (PrintOut y r1)) := fun y a c hy hT => by rw [← hr1]; exact print_any hy hT
  have HP2 : Hid (∀ y, Below w.heap.size w y → Calls Tryz.prog 11 #[.slice a1 l1 c1] y (PrintOut y r1)) := fun y hy => by rw [← hr1]; exact rprint_any (H1.out.below hy)
  obtain ⟨r2, hr2⟩ : ∃ r : Int, (if X.itsOk xs = true then (0 : Int) else 1) = r := ⟨_, rfl⟩
  have HC1 : Hid (∀ y a c, ItsV y a l1 c xs → Tab y → Calls Tryz.prog 12 #[.slice a l1 c] y fun e w' => e = .returned (.int .i64 r2) ∧ Below y.heap.size y w') := fun y a c hy hT => by rw [← hr2]; exact check_any hy hT
  have HC2 : Hid (∀ y, Below w.heap.size w y → Calls Tryz.prog 13 #[.slice a1 l1 c1] y fun e w' => e = .returned (.int .i64 r2) ∧ Below y.heap.size y w') := fun y hy => by rw [← hr2]; exact rcheck_any (H1.out.below hy)
  clear hb1 hr1 hr2
  obtain ⟨t1, z1⟩ := r1
  have hst : ((X.str t1).toList == (X.str t1).toList) = true := by simp
  go_enter Tryz.func4, Tryz.ntmps4
  go_wp2_with fail
  refine hcp.mono ?_
  rintro e w1 ⟨⟨lv, tv, rfl, htv, ho, hic⟩, hb⟩
  have HB1 : Hid (Below w.heap.size w w1) := hb
  obtain ⟨ao, co, rfl⟩ := own_slice ho
  have hn : tv.length = l1 := by have := congrArg List.length htv; rw [List.length_map, H1.out.count] at this; exact this
  have hv := its_of_ownC (a := ao) (c := co) (by rw [hn]; exact ho) hic (fun t ht => by rw [htv] at ht; exact H1.out.fit t ht)
  rw [htv, hn] at hv
  have HV : Hid (ItsV w1 ao l1 co xs) := hv
  have HT1 : Hid (Tab w1) := HT.out.below HB1.out
  clear hb hcp ho hic htv hn hv
  go_wp2_with fail
  refine (HP1.out w1 _ _ HV.out HT1.out).mono ?_
  rintro e w2 ⟨rfl, hb⟩
  have HB2 : Hid (Below w1.heap.size w1 w2) := hb
  have HW2 : Hid (Below w.heap.size w w2) := HB1.out.trans (hb.mono HB1.out.size)
  clear hb
  go_wp2_with fail
  refine (HP2.out w2 HW2.out).mono ?_
  rintro e w3 ⟨rfl, hb⟩
  have HB3 : Hid (Below w1.heap.size w1 w3) := HB2.out.trans (hb.mono HB2.out.size)
  have HW3 : Hid (Below w.heap.size w w3) := HW2.out.trans (hb.mono HW2.out.size)
  clear hb
  generalize X.str t1 = u1 at *
  go_wp2_with fail
  refine (HC1.out w3 _ _ (HV.out.below HB3.out) (HT.out.below HW3.out)).mono ?_
  rintro e w4 ⟨rfl, hb⟩
  have HB4 : Hid (Below w1.heap.size w1 w4) := HB3.out.trans (hb.mono HB3.out.size)
  have HW4 : Hid (Below w.heap.size w w4) := HW3.out.trans (hb.mono HW3.out.size)
  clear hb
  go_wp2_with fail
  refine (HC2.out w4 HW4.out).mono ?_
  rintro e w5 ⟨rfl, hb⟩
  have HB5 : Hid (Below w1.heap.size w1 w5) := HB4.out.trans (hb.mono HB4.out.size)
  have HW5 : Hid (Below w.heap.size w w5) := HW4.out.trans (hb.mono HW4.out.size)
  clear hb
  go_wp2_with fail
  refine (same_any (HV.out.below HB5.out) (H1.out.below HW5.out) true (by simp)).mono ?_
  rintro e w6 ⟨rfl, hb⟩
  have HW6 : Hid (Below w.heap.size w w6) := HW5.out.trans (hb.mono HW5.out.size)
  clear hb
  go_wp2_with fail
  refine (live_any _ (HT.out.below HW6.out)).mono ?_
  rintro e y ⟨rfl, hb⟩
  have HB : Hid _ := hb
  clear hb
  go_wp2_with fail
  go_ret
  exact ⟨rfl, HW6.out.trans (HB.out.mono HW6.out.size)⟩

end Go.Proofs.YteakimepdnojdaaGreatDoor

/- The layer's given answers stand. -/
import Derived.Test.YtcllbbdkihmpgaaDoorInsDecode
import Derived.Test.YtcllbbdkihmpgaaDoorInsEncAll
namespace Go.Proofs.YtcllbbdkihmpgaaDoor
open Go.RowKit
set_option linter.unusedVariables false
attribute [local go_sem ↓] Go.wp_at_zero Go.wp_at_succ

theorem lv1 : strOfNums (I.encV 2 1 2 0) = { data := #[2, 18] } := by kernel_rfl
theorem lv2 : I.encE 2 1 2 0 = 0 := by kernel_rfl
theorem lv3 : I.encE 25 0 0 128 = 7 := by kernel_rfl
theorem lv4 : I.decR { data := #[2, 18] } 0 = decV (insW 2 1 2 0) 2 0 := by kernel_rfl
theorem lv5 : I.decR { data := #[2, 136] } 0 = decV (insW 0 0 0 0) 0 9 := by kernel_rfl
theorem lv6 : I.size 1 = 10 := by kernel_rfl

set_option maxRecDepth 100000 in
set_option maxHeartbeats 8000000 in
theorem live_any (w : World) (ht : Tab w) :
    Calls Tryd.prog 13 #[] w fun e w' => e = .returned (.bool true) ∧ Below w.heap.size w w' := by
  go_enter Tryd.func13, Tryd.ntmps13
  go_wp2_with fail
  refine (encode_any 2 1 2 0 _ ht).mono ?_
  rintro e w1 ⟨rfl, hb1⟩
  rw [lv1, lv2]
  have t1 := ht.below hb1
  go_wp2_with fail
  refine (encode_any 25 0 0 128 _ t1).mono ?_
  rintro e w2 ⟨rfl, hb2⟩
  rw [lv3]
  have t2 := t1.below hb2
  have q2 : Below w.heap.size w w2 := hb1.trans (hb2.mono hb1.size)
  clear hb1 hb2 t1
  go_wp2_with fail
  refine (decode_any _ _ (by decide) _ t2).mono ?_
  rintro e w3 ⟨rfl, hb3⟩
  rw [lv4]
  have t3 := t2.below hb3
  have q3 : Below w.heap.size w w3 := q2.trans (hb3.mono q2.size)
  clear hb3 t2 q2
  go_wp2_with fail
  refine (decode_any _ _ (by decide) _ (t3.alloc _)).mono ?_
  rintro e w4 ⟨rfl, hb4⟩
  rw [lv5]
  have t4 := (t3.alloc _).below hb4
  obtain ⟨hc4, hf4⟩ := bcell hb4
  have hz4 := hb4.size
  simp at hz4
  have ki : ∀ o, w4.cell? ⟨w3.heap.size, o, none⟩ = (#[.int .i64 2, .int .i64 1, .int .i64 2, .int .i64 0] : Array Value)[o]? := fun o => by rw [hc4 _ _ (by simp)]; simp
  have zi : w3.heap.size < w4.heap.size := by omega
  have q4 : Below w.heap.size w w4 := (q3.alloc q3.size _).trans (hb4.mono (by have := q3.size; simp; omega))
  clear hc4 hf4 hb4 t3
  go_wp2_with (go_at_call 11; refine (size_any _ _ (t4.alloc _)).mono ?_; rintro e w5 ⟨rfl, hb5⟩; rw [lv6])
  go_ret
  exact ⟨rfl, (q4.alloc q4.size _).trans (hb5.mono (by have := q4.size; simp; omega))⟩

end Go.Proofs.YtcllbbdkihmpgaaDoor

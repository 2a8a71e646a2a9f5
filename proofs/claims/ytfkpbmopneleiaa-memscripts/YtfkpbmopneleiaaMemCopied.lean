/- What mem.copied comes to. -/
import Derived.Test.YtfkpbmopneleiaaMemMeet
import Derived.Laws.CopyOwn
namespace Go.Proofs.Ytfkpbmopneleiaa
open Go.RowKit Go.Maps

theorem infoI : (Try.prog.info? 2).map (fun i => (i.zero, i.size, i.bytes)) = some (some (.int .i64 0), 1, 8) := by kernel_rfl

theorem row_whole {w : World} {B g n : Nat} {e : TypeId} {xs : List Value} (h : w.ownsRow B e 1 (.slice (some ⟨g, 0, none⟩) n n) n xs) : w.heap[g]? = some (.cells xs.toArray e (0, 0)) := by
  rcases h.2 with ⟨h', _⟩ | ⟨g', cap, cur, hv, _, hg, _, _, hcs, ht⟩
  · simp at h'
  · simp only [Value.slice.injEq, Option.some.injEq, Addr.mk.injEq, and_true, true_and] at hv
    obtain ⟨rfl, rfl⟩ := hv
    rw [hg]
    have : cur.toList = xs := by rw [← ht]; exact (List.take_of_length_le (by simp; omega)).symm
    rw [← this]

set_option maxRecDepth 100000 in
set_option maxHeartbeats 1000000 in
theorem copied_any {w : World} {a : Option Addr} {l c : Nat} {zs : List Int} (h : View w a l c zs) (hl : l * 8 ≤ 140737488355328) :
    Calls Try.prog 29 #[.slice a l c] w fun e w' => e = .returned (.slice (some ⟨w.heap.size, 0, none⟩) l l) ∧ w'.heap[w.heap.size]? = some (.cells (zs.map (Value.int .i64)).toArray 2 (0, 0)) ∧ w.heap.size < w'.heap.size ∧ Below w.heap.size w w' := by
  obtain ⟨i0, hi, hz0, hz1, hz2⟩ := info_parts infoI
  have hcnt := h.count
  have HV : Hid _ := h
  clear h
  go_enter Try.func29, Try.ntmps29
  go_wp2_with (first | (at_make; refine wpList_make_full _ rfl _ _ 24 rfl w.heap.size 2 i0 (.int .i64 0) 1 Try.underlying24 hi hz0 hz1 _ _ _ _ l rfl rfl rfl rfl (by rw [hz2]; omega) (by unfold maxLen; omega) (Nat.le_refl _) ?_) | go_in)
  intro w1 hown hgrow
  have hb1 : Below w.heap.size w w1 := (Below.refl _ _).grown hgrow (Nat.le_refl _) (by intro k hk; cases hk)
  obtain ⟨xs0, ho0⟩ : ∃ xs0, w1.ownsRow w.heap.size 2 1 (.slice (some ⟨w.heap.size, 0, none⟩) l l) l xs0 := ⟨_, hown⟩
  have hg := row_whole ho0
  have hlt : w.heap.size < w1.heap.size := (Array.getElem?_eq_some_iff.1 hg).1
  have hml : xs0.length = l := by simpa using ho0.1
  have HG : Hid _ := hg
  have hv1 : Hid _ := HV.out.below hb1
  clear hown hgrow hg ho0
  go_wp2_with (first | (refine wpList_copy_splice rfl _ _ _ _ rfl 2 Try.underlying24 (by kernel_rfl) _ _ _ _ _ _ rfl rfl w.heap.size 0 _ 2 HG.out (zs.map (Value.int .i64)) (by simp [hcnt]) ?_ (by simp only [List.length_map]; omega) (ints_oneCell _ _) w.heap.size w hb1 (Nat.le_refl _) ?_))
  · intro h0
    rcases hv1.out.cells with hz | ⟨b, off, rfl, hc⟩
    · omega
    · refine ⟨_, rfl, fun j x hx => ?_⟩
      have hj : j < zs.length := (List.getElem?_eq_some_iff.1 hx).1
      rw [Addr.add_lit, hc j (by omega)]
      simp [List.getD, hx]
  · intro w2 HG2 hB2
    have hsp : splice xs0 0 (zs.map (Value.int .i64)) = zs.map (Value.int .i64) := by
      unfold splice
      simp only [List.take_zero, List.nil_append, Nat.zero_add]
      rw [List.drop_eq_nil_of_le (by simp; omega), List.append_nil]
    have hg2 := HG2.out
    rw [hsp] at hg2
    have HH : Hid _ := hg2
    clear HG2 hsp hg2 HG hv1
    go_wp2
    go_ret
    exact ⟨rfl, HH.out, (Array.getElem?_eq_some_iff.1 HH.out).1, hB2⟩

end Go.Proofs.Ytfkpbmopneleiaa

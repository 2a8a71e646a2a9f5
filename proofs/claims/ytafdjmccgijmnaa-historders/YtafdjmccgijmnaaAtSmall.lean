/- What the small functions of package atom come to. -/
import Derived.Test.YtafdjmccgijmnaaAtMath
namespace Go.Proofs.Ytafdjmccgijmnaa.A
open Go.RowKit Go.Maps
set_option linter.unusedVariables false

theorem toList_dec (a b : ByteArray) : (a.toList == b.toList) = decide (a = b) := by
  rw [ByteArray.toList_eq, ByteArray.toList_eq]
  by_cases e : a = b
  · subst e; simp
  · rw [decide_eq_false e]; exact beq_eq_false_iff_ne.2 (fun h => e (bytes_ext h))
theorem toList_nil (a : ByteArray) : a.toList.isEmpty = decide (a.size = 0) := by
  rw [ByteArray.toList_eq]
  by_cases e : a.size = 0
  · rw [decide_eq_true e, List.isEmpty_iff, ← List.length_eq_zero_iff]; simpa using e
  · rw [decide_eq_false e, List.isEmpty_eq_false_iff, ← List.length_pos_iff]; rw [Array.length_toList]; exact Nat.pos_of_ne_zero e

theorem lock_any (x : At) {a : Option Addr} {l c : Nat} (w : World) : Calls Try.prog 61 #[.agg #[.string x.name, .int .i64 x.cap, .int .i64 x.owner, .slice a l c]] w fun e w' => e = .returned (.bool (decide (x.cap = 0))) ∧ Below w.heap.size w w' := by
  have hb : Below w.heap.size w (w.alloc (.cells #[.string x.name, .int .i64 x.cap, .int .i64 x.owner, .slice a l c] 49)) := bl_one _ _
  go_enter Try.func61, Try.ntmps61
  go_wp2
  go_ret
  exact ⟨rfl, hb⟩

theorem below_any (n : Int) (w : World) : Calls Try.prog 63 #[.int .i64 n] w fun e w' => e = .returned (.bool (decide (n < 0))) ∧ w' = w := by
  go_enter Try.func63, Try.ntmps63
  go_wp2
  go_ret
  exact ⟨rfl, rfl⟩

theorem locks_any (d : Int) (hd : 1 ≤ d) (w : World) : Calls Try.prog 73 #[.int .i64 d] w fun e w' => e = .returned (.bool (decide (d ≤ 2))) ∧ w' = w := by
  rcases (show d = 1 ∨ d = 2 ∨ (¬ d = 1 ∧ ¬ d = 2 ∧ ¬ d ≤ 2) by omega) with rfl | rfl | ⟨h1, h2, h3⟩
  all_goals
    go_enter Try.func73, Try.ntmps73
    go_wp2
    go_ret
    refine ⟨?_, rfl⟩
    first | (rw [decide_eq_false (by omega)]; simp [h1, h2]; done) | simp

theorem name_any (x : At) {a : Option Addr} {l c : Nat} (nm : ByteArray) (bn : Nat) (w : World) (h : w.cell? ⟨bn, 0, none⟩ = some (.string nm)) :
    Calls Try.prog 72 #[.agg #[.string x.name, .int .i64 x.cap, .int .i64 x.owner, .slice a l c], .pointer (some ⟨bn, 0, none⟩)] w fun e w' => e = .returned (.bool (decide (x.name = nm))) ∧ Below w.heap.size w w' := by
  have hb : Below w.heap.size w (w.alloc (.cells #[.string x.name, .int .i64 x.cap, .int .i64 x.owner, .slice a l c] 49)) := bl_one _ _
  have hc := cell_thru hb h
  go_enter Try.func72, Try.ntmps72
  go_wp2
  go_ret
  exact ⟨by rw [← toList_dec]; rfl, hb⟩

/-- Where the first number below 0 stands, or -1. -/
def firstNeg (zs : List Int) : Int := if zs.findIdx (fun n => decide (n < 0)) < zs.length then (zs.findIdx (fun n => decide (n < 0)) : Int) else -1
theorem firstNeg_at {zs : List Int} {k : Nat} (hk : k < zs.length) (hz : zs.getD k 0 < 0) (hall : ∀ i, i < k → ¬ zs.getD i 0 < 0) : firstNeg zs = k := by
  have e : zs.findIdx (fun n => decide (n < 0)) = k := by
    rw [List.findIdx_eq hk]
    refine ⟨?_, fun j hj => ?_⟩
    · simpa [List.getD, hk] using hz
    · have := hall j hj
      simpa [List.getD, show j < zs.length by omega] using this
  unfold firstNeg
  rw [e, if_pos hk]
theorem firstNeg_no {zs : List Int} (hall : ∀ i, i < zs.length → ¬ zs.getD i 0 < 0) : firstNeg zs = -1 := by
  unfold firstNeg
  rw [if_neg]
  intro h
  have h' := h
  rw [List.findIdx_lt_length] at h
  obtain ⟨x, hx, hn⟩ := h
  obtain ⟨i, hi, rfl⟩ := List.getElem_of_mem hx
  have := hall i hi
  simp [List.getD, hi] at this
  simp at hn
  omega
theorem firstNeg_all (zs : List Int) : decide (0 ≤ firstNeg zs) = !(zs.all fun n => decide (0 ≤ n)) := by
  unfold firstNeg
  by_cases h : zs.findIdx (fun n => decide (n < 0)) < zs.length
  · rw [if_pos h]
    have h2 := h
    rw [List.findIdx_lt_length] at h2
    obtain ⟨x, hx, hn⟩ := h2
    have : (zs.all fun n => decide (0 ≤ n)) = false := by
      rw [← Bool.not_eq_true, List.all_eq_true]
      intro h'
      have := h' x hx
      simp at this hn
      omega
    rw [this]
    simp
  · rw [if_neg h]
    have : (zs.all fun n => decide (0 ≤ n)) = true := by
      rw [List.all_eq_true]
      intro x hx
      rw [List.findIdx_lt_length] at h
      simp at h ⊢
      exact h x hx
    rw [this]
    rfl

set_option maxRecDepth 100000 in
set_option maxHeartbeats 8000000 in
theorem idxI_any {w : World} {a : Option Addr} {l c : Nat} {zs : List Int} (h : IntsV w a l c zs) :
    Calls Try.prog 75 #[.slice a l c, .func (.func 63) #[] #[]] w fun e w' => e = .returned (.int .i64 (firstNeg zs)) ∧ w' = w := by
  have HV : Hid _ := h
  have hc := h.count
  have hm := h.room
  have hmax : maxLen = 9223372036854775807 := rfl
  clear h
  go_enter Try.func75, Try.ntmps75
  go_wp2_with fail
  go_loopg [8] l (fun r iv wq => ∃ (k : Nat), iv = .int .i64 k ∧ k ≤ l ∧ l - k ≤ r ∧ Hid (∀ i, i < k → 0 ≤ zs.getD i 0) ∧ wq = w)
  case atStart => exact ⟨0, rfl, Nat.zero_le _, by omega, (fun i hi => by omega : ∀ i, i < 0 → 0 ≤ zs.getD i 0), rfl⟩
  case round =>
    obtain ⟨k, rfl, hk, hr, HAL, rfl⟩ := hrel
    by_cases hlt : k < l
    · rcases HV.out.cells with h0 | ⟨b, off, hA, hcl⟩
      · omega
      have q := hcl k hlt
      have HYES : Hid (zs.getD k 0 < 0 → firstNeg zs = k) := fun hz => firstNeg_at (by omega) hz (fun i hi => by have := HAL.out i hi; omega)
      obtain ⟨z, hz⟩ : ∃ z, zs.getD k 0 = z := ⟨_, rfl⟩
      have HZ : Hid _ := hz
      rw [hz] at q HYES
      subst hA
      have hii : (k : Int) < l := by omega
      have hin : 0 ≤ (k : Int) := by omega
      clear hcl hz
      by_cases hneg : z < 0
      · go_wp2_with (go_at_call 63; refine (below_any _ _).mono ?_; rintro e y ⟨rfl, rfl⟩)
        go_ret
        exact ⟨by rw [HYES.out hneg]; rfl, rfl⟩
      · go_wp2_with (go_at_call 63; refine (below_any _ _).mono ?_; rintro e y ⟨rfl, rfl⟩)
        go_roundg (l - (k + 1))
        case measure => omega
        case rel => exact ⟨k + 1, by first | rfl | (congr 1; omega), by omega, Nat.le_refl _, (fun i hi => by
          by_cases e : i = k
          · subst e; rw [HZ.out]; omega
          · exact HAL.out i (by omega) : ∀ i, i < k + 1 → 0 ≤ zs.getD i 0), rfl⟩
    · have hii : ¬ (k : Int) < l := by omega
      have HNO : Hid (firstNeg zs = -1) := firstNeg_no (fun i hi => by have := HAL.out i (by omega); omega)
      go_wp2
      go_ret
      exact ⟨by rw [HNO.out]; rfl, rfl⟩

theorem has_any {w : World} {a : Option Addr} {l c : Nat} {zs : List Int} (h : IntsV w a l c zs) :
    Calls Try.prog 62 #[.slice a l c, .func (.func 63) #[] #[]] w fun e w' => e = .returned (.bool (!(zs.all fun n => decide (0 ≤ n)))) ∧ w' = w := by
  have HV : Hid _ := h
  clear h
  have HF : Hid _ := firstNeg_all zs
  go_enter Try.func62, Try.ntmps62
  go_wp2_with fail
  refine (idxI_any HV.out).mono ?_
  rintro e y ⟨rfl, rfl⟩
  go_wp2
  go_ret
  exact ⟨by rw [← HF.out]; rfl, rfl⟩

theorem where_at {os : List At} {nm : ByteArray} {k : Nat} (hk : k < os.length) (hz : (os.getD k noAt).name = nm) (hall : ∀ i, i < k → ¬ (os.getD i noAt).name = nm) : whereA os nm = k := by
  unfold whereA
  rw [List.findIdx_eq hk]
  refine ⟨?_, fun j hj => ?_⟩
  · simpa [List.getD, hk] using hz
  · have := hall j hj
    simpa [List.getD, show j < os.length by omega] using this
theorem where_no {os : List At} {nm : ByteArray} (hall : ∀ i, i < os.length → ¬ (os.getD i noAt).name = nm) : ¬ whereA os nm < os.length := by
  intro h
  unfold whereA at h
  rw [List.findIdx_lt_length] at h
  obtain ⟨x, hx, hn⟩ := h
  obtain ⟨i, hi, rfl⟩ := List.getElem_of_mem hx
  have := hall i hi
  simp [List.getD, hi] at this
  simp at hn
  exact this hn
theorem where_eq {os : List At} {nm : ByteArray} (h : whereA os nm < os.length) : (os.getD (whereA os nm) noAt).name = nm := by
  have := List.findIdx_getElem (p := fun x : At => decide (x.name = nm)) (xs := os) (w := h)
  simp only [decide_eq_true_eq] at this
  unfold whereA at h ⊢
  simpa [List.getD, h] using this

set_option maxRecDepth 100000 in
set_option maxHeartbeats 8000000 in
theorem idxA_any {w : World} {a : Option Addr} {l c : Nat} {os : List At} (h : AtsV w a l c os) (nm : ByteArray) (bn : Nat) (hn : w.cell? ⟨bn, 0, none⟩ = some (.string nm)) :
    Calls Try.prog 57 #[.slice a l c, .func (.func 72) #[] #[.pointer (some ⟨bn, 0, none⟩)]] w fun e w' => e = .returned (.int .i64 (if whereA os nm < os.length then (whereA os nm : Int) else -1)) ∧ Below w.heap.size w w' := by
  have HV : Hid _ := h
  have hc := h.count
  have hm := h.room
  have hmax : maxLen = 9223372036854775807 := rfl
  clear h
  generalize hR : (if whereA os nm < os.length then (whereA os nm : Int) else -1) = R
  have HR : Hid _ := hR
  clear hR
  go_enter Try.func57, Try.ntmps57
  go_wp2_with fail
  go_loopg [8] l (fun r iv wq => ∃ (k : Nat), iv = .int .i64 k ∧ k ≤ l ∧ l - k ≤ r ∧ Hid (∀ i, i < k → ¬ (os.getD i noAt).name = nm) ∧ Hid (Below w.heap.size w wq))
  case atStart => exact ⟨0, rfl, Nat.zero_le _, by omega, (fun i hi => by omega : ∀ i, i < 0 → ¬ (os.getD i noAt).name = nm), Below.refl _ _⟩
  case round =>
    obtain ⟨k, rfl, hk, hr, HAL, HB⟩ := hrel
    by_cases hlt : k < l
    · rcases HV.out.cells with h0 | ⟨b, off, hA, hcl⟩
      · omega
      obtain ⟨q0, q1, q2, a1, l1, c1, q3, -⟩ := hcl k hlt
      have q0 := cell_thru HB.out q0
      have q1 := cell_thru HB.out q1
      have q2 := cell_thru HB.out q2
      have q3 := cell_thru HB.out q3
      have HN : Hid _ := cell_thru HB.out hn
      have HYES : Hid ((os.getD k noAt).name = nm → R = k) := fun hz => by
        have e := where_at (by omega) hz HAL.out
        rw [← HR.out, e, if_pos (by omega)]
      obtain ⟨x, hx⟩ : ∃ x, os.getD k noAt = x := ⟨_, rfl⟩
      have HX : Hid _ := hx
      rw [hx] at q0 q1 q2 HYES
      subst hA
      have hii : (k : Int) < l := by omega
      have hin : 0 ≤ (k : Int) := by omega
      clear hcl hx hn
      go_wp2_with fail
      refine (name_any x nm bn _ HN.out).mono ?_
      rintro e y ⟨rfl, hy⟩
      have HBY : Hid (Below w.heap.size w y) := HB.out.trans (hy.mono HB.out.size)
      by_cases hnm : x.name = nm
      · rw [decide_eq_true hnm]
        clear hy
        go_wp2
        go_ret
        exact ⟨by rw [HYES.out hnm]; rfl, HBY.out⟩
      · rw [decide_eq_false hnm]
        clear hy
        go_wp2_with fail
        go_roundg (l - (k + 1))
        case measure => omega
        case rel => exact ⟨k + 1, by first | rfl | (congr 1; omega), by omega, Nat.le_refl _, (fun i hi => by
          by_cases e : i = k
          · subst e; rw [HX.out]; exact hnm
          · exact HAL.out i (by omega) : ∀ i, i < k + 1 → ¬ (os.getD i noAt).name = nm), HBY.out⟩
    · have hii : ¬ (k : Int) < l := by omega
      have HNO : Hid (R = -1) := HR.out.symm.trans (if_neg (where_no (fun i hi => HAL.out i (by omega))))
      go_wp2
      go_ret
      exact ⟨by rw [HNO.out]; rfl, HB.out⟩

set_option maxRecDepth 100000 in
set_option maxHeartbeats 8000000 in
/-- mayBe, which leaves the name open. -/
theorem kind_any {w : World} (x : At) {a : Option Addr} {l c : Nat} (h : IntsV w a l c x.items) :
    Calls Try.prog 39 #[.agg #[.string x.name, .int .i64 x.cap, .int .i64 x.owner, .slice a l c]] w fun e w' => e = .returned (.bool (kindOk x)) ∧ Below w.heap.size w w' := by
  obtain ⟨nm, cp, ow, zs⟩ := x
  simp only at h ⊢
  have HV : Hid _ := h
  have hc := h.count
  clear h
  obtain ⟨W1, hW1⟩ : ∃ W1, w.alloc (.cells #[.string nm, .int .i64 cp, .int .i64 ow, .slice a l c] 49) = W1 := ⟨_, rfl⟩
  have b1 : Below w.heap.size w W1 := by subst hW1; exact bl_one _ _
  have v0 : W1.cell? ⟨w.heap.size, 0, none⟩ = some (.string nm) := by subst hW1; exact cell_last rfl rfl
  have v1 : W1.cell? ⟨w.heap.size, 1, none⟩ = some (.int .i64 cp) := by subst hW1; exact cell_last rfl rfl
  have v2 : W1.cell? ⟨w.heap.size, 2, none⟩ = some (.int .i64 ow) := by subst hW1; exact cell_last rfl rfl
  have v3 : W1.cell? ⟨w.heap.size, 3, none⟩ = some (.slice a l c) := by subst hW1; exact cell_last rfl rfl
  have HK : Hid (kindOk ⟨nm, cp, ow, zs⟩ = (if cp = 0 then decide (l = 0) && (decide (0 ≤ ow) && decide (ow ≤ 4)) else (decide (1 ≤ cp) && decide (cp ≤ 8)) && (decide (ow = 0) && (decide ((l : Int) ≤ cp) && zs.all (fun n => decide (0 ≤ n)))))) := by rw [← hc]; rfl
  generalize kindOk ⟨nm, cp, ow, zs⟩ = R at HK ⊢
  generalize hA : (zs.all fun n => decide (0 ≤ n)) = A at HK
  have HA : Hid _ := hA
  clear hc hA
  go_enter Try.func39, Try.ntmps39
  go_wp2_with fail
  refine (lock_any ⟨nm, cp, ow, zs⟩ _).mono ?_
  rintro e y ⟨rfl, hy⟩
  have q0 := cell_thru hy v0
  have q1 := cell_thru hy v1
  have q2 := cell_thru hy v2
  have q3 := cell_thru hy v3
  have B1 : Hid (Below w.heap.size w y) := b1.trans (hy.mono b1.size)
  have HVY : Hid _ := HV.out.below B1.out
  clear v0 v1 v2 v3 hy hW1 b1 HV
  simp only
  by_cases h0 : cp = 0
  · rw [decide_eq_true h0]
    rcases (show ¬ l = 0 ∨ (l = 0 ∧ ¬ 0 ≤ ow) ∨ (l = 0 ∧ 0 ≤ ow ∧ ¬ ow ≤ 4) ∨ (l = 0 ∧ 0 ≤ ow ∧ ow ≤ 4) by omega) with g1 | ⟨g1, g2⟩ | ⟨g1, g2, g3⟩ | ⟨g1, g2, g3⟩
    all_goals
      go_wp2
      go_ret
      refine ⟨?_, B1.out⟩
      have := HK.out
      simp [*] at this
      first | (rw [this]; simp [*]; done) | (rw [this]; simp [*]; omega)
  · rw [decide_eq_false h0]
    rcases (show ¬ 1 ≤ cp ∨ (1 ≤ cp ∧ ¬ cp ≤ 8) ∨ (1 ≤ cp ∧ cp ≤ 8 ∧ ¬ ow = 0) ∨ (1 ≤ cp ∧ cp ≤ 8 ∧ ow = 0 ∧ ¬ (l : Int) ≤ cp) ∨ (1 ≤ cp ∧ cp ≤ 8 ∧ ow = 0 ∧ (l : Int) ≤ cp) by omega) with g1 | ⟨g1, g2⟩ | ⟨g1, g2, g3⟩ | ⟨g1, g2, g3, g4⟩ | ⟨g1, g2, g3, g4⟩
    all_goals
      go_wp2_with (go_at_call 62; refine (has_any HVY.out).mono ?_; rintro e y ⟨rfl, rfl⟩; rw [HA.out])
      go_ret
      refine ⟨?_, B1.out⟩
      have := HK.out
      simp [*] at this
      first | (rw [this]; simp [*]; done) | (rw [this]; simp [*]; omega)
end Go.Proofs.Ytafdjmccgijmnaa.A

/- Objects that lie where others are not turned; objects that may be. (Out of AtOrder and AtStays.) -/
import Derived.Test.YtafdjmccgijmnaaAtDo
namespace Go.Proofs.Ytafdjmccgijmnaa.A
open Go.RowKit Go.Maps Go.Lib
set_option linter.unusedVariables false
set_option linter.unusedSimpArgs false
/-- Objects that lie as they are wherever the cells from block B on are as they are. -/
def Stay (B : Nat) (w : World) (a : Option Addr) (l c : Nat) (os : List At) : Prop := ∀ w1 : World, (∀ b o v, B ≤ b → w.cell? ⟨b, o, none⟩ = some v → w1.cell? ⟨b, o, none⟩ = some v) → AtsV w1 a l c os
theorem Res.stay {B : Nat} {w : World} {g n : Nat} {os : List At} (h : Res B w g n os) (hf : ∀ x ∈ os, AtFit x) (hB : B ≤ g) : Stay B w (some ⟨g, 0, none⟩) n n os := by
  intro w1 hk
  obtain ⟨xs, hx⟩ := h.row
  refine ⟨h.len, hf, fun e => (by cases e), own_room hx, .inr ⟨g, 0, rfl, fun i hi => ?_⟩⟩
  obtain ⟨c0, c1, c2, a1, l1, c1', c3, V, N⟩ := h.cell i hi
  simp only [Nat.zero_add]
  refine ⟨hk _ _ _ hB c0, hk _ _ _ hB c1, hk _ _ _ hB c2, a1, l1, c1', hk _ _ _ hB c3, ⟨V.count, V.fits, V.nilOf, V.room, ?_⟩⟩
  rcases V.cells with h0 | ⟨b, off, ha, hc⟩
  · exact .inl h0
  · exact .inr ⟨b, off, ha, fun j hj => hk _ _ _ (N _ ha).1 (hc j hj)⟩
theorem do_stay {w : World} {a : Option Addr} {l c : Nat} {os : List At} (h : AtsV w a l c os) (hl : l ≤ 1048576) (hi : ∀ x ∈ os, x.items.length * 8 ≤ 140737488355328) {th d : Int} {nm : ByteArray} {arg : Int} (ha : (Lit.int .i64 arg).wf = true) {os' : List At} {n1 n2 : Int} (hdo : doA os th d nm arg = (os', n1, n2)) :
    Calls Try.prog 59 #[.slice a l c, .int .i64 th, .int .i64 d, .string nm, .int .i64 arg] w fun e w' => e = .returned (.tuple #[.slice (some ⟨w.heap.size + 1, 0, none⟩) l l, .int .i64 n1, .int .i64 n2]) ∧ Stay (w.heap.size + 1) w' (some ⟨w.heap.size + 1, 0, none⟩) l l os' ∧ Below w.heap.size w w' := by
  refine (do_any h hl hi th d nm arg ha).mono ?_
  rintro e y ⟨rfl, hr, hb⟩
  have hf := doA_fit (th := th) (d := d) (nm := nm) (arg := arg) h.fits ha
  rw [hdo] at hr hf ⊢
  exact ⟨rfl, hr.stay hf (Nat.le_refl _), hb⟩
theorem Stay.ats {B : Nat} {w : World} {a : Option Addr} {l c : Nat} {os : List At} (h : Stay B w a l c os) : AtsV w a l c os := h w (fun _ _ _ _ h => h)
theorem may_at {os : List At} (h : mayAll os = true) {k : Nat} (hk : k < os.length) : atOk os k = true := by
  unfold mayAll at h
  rw [List.all_eq_true] at h
  exact h k (List.mem_range.2 hk)
theorem step_kind {x : At} {own d arg : Int} (h : kindOk x = true) (o1 : 1 ≤ own) (o4 : own ≤ 4) (hd : decide (x.cap = 0) = decide (d ≤ 2)) (d1 : 1 ≤ d) (d4 : d ≤ 4) : kindOk (stepA x own d arg).1 = true := by
  unfold stepA
  by_cases e1 : d = 1
  · rw [if_pos e1]
    split
    · exact h
    · have hc : x.cap = 0 := by rw [e1] at hd; simpa using hd
      unfold kindOk at h ⊢
      simp only [hc, if_true, Bool.and_eq_true, decide_eq_true_eq] at h ⊢
      omega
  rw [if_neg e1]
  by_cases e2 : d = 2
  · rw [if_pos e2]
    split
    · exact h
    · have hc : x.cap = 0 := by rw [e2] at hd; simpa using hd
      unfold kindOk at h ⊢
      simp only [hc, if_true, Bool.and_eq_true, decide_eq_true_eq] at h ⊢
      omega
  rw [if_neg e2]
  have hc : ¬ x.cap = 0 := by
    intro hc
    rw [decide_eq_true hc] at hd
    have : d ≤ 2 := by simpa using hd.symm
    omega
  unfold kindOk at h
  simp only [if_neg hc, Bool.and_eq_true, decide_eq_true_eq, List.all_eq_true] at h
  by_cases e3 : d = 3
  · rw [if_pos e3]
    split
    · unfold kindOk
      simp only [if_neg hc, Bool.and_eq_true, decide_eq_true_eq, List.all_eq_true]
      exact h
    · rename_i hn
      unfold kindOk
      simp only [if_neg hc, Bool.and_eq_true, decide_eq_true_eq, List.all_eq_true, List.length_append, List.length_singleton]
      refine ⟨h.1, h.2.1, by omega, fun n hnm => ?_⟩
      rcases List.mem_append.1 hnm with hm | hm
      · exact h.2.2.2 n hm
      · simp at hm; subst hm; omega
  · rw [if_neg e3]
    split
    · unfold kindOk
      simp only [if_neg hc, Bool.and_eq_true, decide_eq_true_eq, List.all_eq_true]
      exact h
    · unfold kindOk
      simp only [if_neg hc, Bool.and_eq_true, decide_eq_true_eq, List.all_eq_true, List.length_drop]
      exact ⟨h.1, h.2.1, by omega, fun n hnm => h.2.2.2 n (List.mem_of_mem_drop hnm)⟩
theorem step_name (x : At) (own d arg : Int) : (stepA x own d arg).1.name = x.name := by
  unfold stepA
  split
  · split <;> rfl
  split
  · split <;> rfl
  split
  · split <;> rfl
  · split <;> rfl
theorem step_came (x : At) (own d arg : Int) (h : (stepA x own d arg).2.2 ≠ 0) : (stepA x own d arg).1 = x := by
  unfold stepA at h ⊢
  split at h
  · rename_i e; rw [if_pos e]; split at h
    · rename_i e2; rw [if_pos e2]
    · exact absurd rfl h
  rename_i e; rw [if_neg e]
  split at h
  · rename_i e2; rw [if_pos e2]; split at h
    · rename_i e3; rw [if_pos e3]
    · exact absurd rfl h
  rename_i e2; rw [if_neg e2]
  split at h
  · split at h <;> exact absurd rfl h
  · split at h <;> exact absurd rfl h
theorem doA_cases (os : List At) (th d : Int) (nm : ByteArray) (arg : Int) : ((doA os th d nm arg).1 = os) ∨ (badA os th d = false ∧ ¬ d = 5 ∧ whereA os nm < os.length ∧ decide ((os.getD (whereA os nm) noAt).cap = 0) = decide (d ≤ 2) ∧ doA os th d nm arg = (os.set (whereA os nm) (stepA (os.getD (whereA os nm) noAt) (th + 1) d arg).1, (stepA (os.getD (whereA os nm) noAt) (th + 1) d arg).2)) := by
  unfold doA
  by_cases hb : badA os th d = true
  · rw [if_pos hb]; exact .inl rfl
  rw [if_neg hb]
  by_cases h5 : d = 5
  · rw [if_pos h5]; exact .inl rfl
  rw [if_neg h5]
  by_cases hw : whereA os nm < os.length
  · rw [if_neg (by simpa using hw)]
    by_cases hc : decide ((os.getD (whereA os nm) noAt).cap = 0) = decide (d ≤ 2)
    · rw [if_neg (by simpa using hc)]
      exact .inr ⟨by simpa using hb, h5, hw, hc, rfl⟩
    · rw [if_pos hc]; exact .inl rfl
  · rw [if_pos hw]; exact .inl rfl
theorem set_may {os : List At} {k : Nat} {x : At} (h : mayAll os = true) (hk : k < os.length) (hn : x.name = (os.getD k noAt).name) (hx : kindOk x = true) : mayAll (os.set k x) = true := by
  have nameEq : ∀ i, i < os.length → ((os.set k x).getD i noAt).name = (os.getD i noAt).name := by
    intro i hi
    by_cases e : k = i
    · subst e; rw [getD_set_eq _ _ _ hk, hn]
    · rw [getD_set_ne _ _ _ e]
  refine all_range_yes (fun i hi => ?_)
  rw [List.length_set] at hi
  have hi0 := may_at h hi
  unfold atOk at hi0 ⊢
  rw [Bool.and_eq_true] at hi0 ⊢
  refine ⟨all_range_yes (fun j hj => ?_), ?_⟩
  · rw [nameEq i hi, nameEq j (by omega)]
    unfold freeName at hi0
    rw [List.all_eq_true] at hi0
    exact hi0.1 j (List.mem_range.2 hj)
  · unfold oneOk at hi0 ⊢
    rw [nameEq i hi, Bool.and_eq_true]
    rw [Bool.and_eq_true] at hi0
    refine ⟨hi0.2.1, ?_⟩
    by_cases e : k = i
    · subst e; rw [getD_set_eq _ _ _ hk]; exact hx
    · rw [getD_set_ne _ _ _ e]; exact hi0.2.2
theorem doA_may {os : List At} {th d : Int} {nm : ByteArray} {arg : Int} (h : mayAll os = true) : mayAll (doA os th d nm arg).1 = true := by
  rcases doA_cases os th d nm arg with e | ⟨hb, h5, hw, hc, e⟩
  · rw [e]; exact h
  · rw [e]
    unfold badA at hb
    simp only [Bool.or_eq_false_iff, decide_eq_false_iff_not] at hb
    refine set_may h hw (step_name _ _ _ _) (step_kind ?_ (by omega) (by omega) hc (by omega) (by omega))
    have := may_at h hw
    unfold atOk oneOk at this
    simp only [Bool.and_eq_true] at this
    exact this.2.2
theorem doA_other {os : List At} {th d : Int} {nm : ByteArray} {arg : Int} {k : Nat} (h : (os.getD k noAt).name ≠ nm ∨ (doA os th d nm arg).2.2 ≠ 0) : (doA os th d nm arg).1.getD k noAt = os.getD k noAt := by
  rcases doA_cases os th d nm arg with e | ⟨hb, h5, hw, hc, e⟩
  · rw [e]
  · rw [e] at h ⊢
    rcases h with h | h
    · refine getD_set_ne _ _ _ (fun e2 => h ?_)
      rw [← e2]; exact where_eq hw
    · show (os.set _ _).getD k noAt = _
      rw [step_came _ _ _ _ h, set_same]
theorem may_items {os : List At} (h : mayAll os = true) : ∀ x ∈ os, x.items.length * 8 ≤ 140737488355328 := fun x hx => by
  obtain ⟨i, hi, rfl⟩ := List.getElem_of_mem hx
  have := may_item h hi
  simp [List.getD, hi] at this
  omega
end Go.Proofs.Ytafdjmccgijmnaa.A

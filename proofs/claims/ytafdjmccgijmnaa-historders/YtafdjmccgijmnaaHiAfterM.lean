/- The objects behind an order: the program's way and the document's. No walk. -/
import Derived.Test.YtafdjmccgijmnaaHiKeeps
import Derived.Test.YtafdjmccgijmnaaHiWhole
namespace Go.Proofs.Ytafdjmccgijmnaa
open Go.RowKit A Go.Maps
set_option linter.unusedVariables false
set_option linter.unusedSimpArgs false
namespace H
/-- The objects behind the first so many of an order; none: one of them can't be done. -/
def nowA (os : List At) (ts : List Ac) (ks : List Int) : Nat → Option (List At)
  | 0 => some os
  | k + 1 => match nowA os ts ks k with
    | none => none
    | some s => if goes s (ts.getD (ks.getD k 0).toNat noAc) = true then some (made s (ts.getD (ks.getD k 0).toNat noAc)).1 else none
def afterA (os : List At) (ts : List Ac) (ks : List Int) : Option (List At) := if hasAllB ts ks = true ∧ keepsB ts (ks.map Int.toNat) = true then nowA os ts ks ks.length else none
/-- No act that was not done is ahead of this one. -/
def firstB (ts : List Ac) (d q : Nat) : Bool := (List.range ts.length).all fun j => d.testBit j || (decide (j = q) || !((ts.getD j noAc).ahead (ts.getD q noAc)))
def stepD (os : List At) (ts : List Ac) (ks : List Int) : Nat → Option (Nat × List At)
  | 0 => some (0, os)
  | k + 1 => match stepD os ts ks k with
    | none => none
    | some (d, s) => if ks.getD k 0 < 0 ∨ (ts.length : Int) ≤ ks.getD k 0 ∨ d.testBit (ks.getD k 0).toNat = true then none else if firstB ts d (ks.getD k 0).toNat = true then (if goes s (ts.getD (ks.getD k 0).toNat noAc) = true then some (wth d (ks.getD k 0).toNat, (made s (ts.getD (ks.getD k 0).toNat noAc)).1) else none) else none
def backB (ts : List Ac) (d : Nat) : Bool := (List.range ts.length).all fun k => !((ts.getD k noAc).isBack) || d.testBit k
def afterD (os : List At) (ts : List Ac) (ks : List Int) : Option (List At) := if ks.length ≤ ts.length then (match stepD os ts ks ks.length with
    | none => none
    | some (d, s) => if backB ts d = true then some s else none) else none
theorem took_succ {n : Nat} {ks : List Int} {k d' : Nat} (h : took n ks (k + 1) = some d') : ∃ d, took n ks k = some d ∧ 0 ≤ ks.getD k 0 ∧ ks.getD k 0 < n ∧ d.testBit (ks.getD k 0).toNat = false ∧ d' = wth d (ks.getD k 0).toNat := by
  rw [took] at h
  cases hk : took n ks k with
  | none => rw [hk] at h; cases h
  | some d =>
    rw [hk] at h
    simp only at h
    split at h
    · cases h
    · next hc =>
      cases h
      refine ⟨d, rfl, by omega, by omega, ?_, rfl⟩
      cases hb : d.testBit (ks.getD k 0).toNat with
      | false => rfl
      | true => exact absurd (.inr (.inr hb)) hc
theorem took_pre {n : Nat} {ks : List Int} : ∀ {k d : Nat}, took n ks k = some d → ∀ {i : Nat}, i ≤ k → ∃ di, took n ks i = some di
  | 0, d, h, i, hi => by obtain rfl : i = 0 := by omega
                         exact ⟨d, h⟩
  | k + 1, d, h, i, hi => by
    by_cases e : i = k + 1
    · rw [e]; exact ⟨d, h⟩
    · obtain ⟨d1, h1, _⟩ := took_succ h
      exact took_pre h1 (by omega)
theorem took_has {n : Nat} {ks : List Int} : ∀ {k d : Nat}, took n ks k = some d → ∀ j, d.testBit j = true ↔ ∃ m, m < k ∧ (ks.getD m 0).toNat = j
  | 0, d, h, j => by
    cases h
    constructor
    · intro e; rw [Nat.zero_testBit] at e; cases e
    · rintro ⟨m, hm, _⟩; omega
  | k + 1, d, h, j => by
    obtain ⟨d1, h1, h2, h3, h4, rfl⟩ := took_succ h
    rw [has_wth]
    have ih := took_has h1 j
    constructor
    · intro e
      rw [Bool.or_eq_true, decide_eq_true_eq] at e
      rcases e with e | e
      · obtain ⟨m, hm, hj⟩ := ih.1 e
        exact ⟨m, by omega, hj⟩
      · exact ⟨k, by omega, e⟩
    · rintro ⟨m, hm, hj⟩
      rw [Bool.or_eq_true, decide_eq_true_eq]
      by_cases e : m = k
      · subst e; exact .inr hj
      · exact .inl (ih.2 ⟨m, by omega, hj⟩)
theorem took_in {n : Nat} {ks : List Int} {k d : Nat} (h : took n ks k = some d) {i : Nat} (hi : i < k) : 0 ≤ ks.getD i 0 ∧ ks.getD i 0 < n := by
  obtain ⟨di, hd⟩ := took_pre h (Nat.succ_le_of_lt hi)
  obtain ⟨_, _, h2, h3, _⟩ := took_succ hd
  exact ⟨h2, h3⟩
/-- An order has no more numbers than there are acts. -/
theorem took_few {n : Nat} {ks : List Int} : ∀ {k d : Nat}, took n ks k = some d → k + ((List.range n).filter fun j => !(d.testBit j)).length ≤ n
  | 0, d, h => by
    have := List.length_filter_le (fun j => !(d.testBit j)) (List.range n)
    rw [List.length_range] at this
    omega
  | k + 1, d, h => by
    obtain ⟨d1, h1, h2, h3, h4, rfl⟩ := took_succ h
    have ih := took_few h1
    have := filter_lt (l := List.range n) (f := fun j => !(d1.testBit j)) (g := fun j => !((wth d1 (ks.getD k 0).toNat).testBit j)) (fun x _ hx => by
      rw [has_wth] at hx
      cases hb : d1.testBit x with
      | false => rfl
      | true => rw [hb] at hx; simp at hx) (x := (ks.getD k 0).toNat) (List.mem_range.2 (by omega)) (by simp only [h4]; rfl) (by simp only [has_wth]; simp)
    omega
theorem firstB_iff {ts : List Ac} {d q : Nat} : firstB ts d q = true ↔ ∀ j, j < ts.length → (ts.getD j noAc).ahead (ts.getD q noAc) = true → j ≠ q → d.testBit j = true := by
  unfold firstB
  rw [List.all_eq_true]
  constructor
  · intro h j hj ha hn
    have := h j (List.mem_range.2 hj)
    rw [ha] at this
    simpa [hn] using this
  · intro h j hj
    have hj := List.mem_range.1 hj
    by_cases hn : j = q
    · simp [hn]
    · cases ha : (ts.getD j noAc).ahead (ts.getD q noAc) with
      | false => simp
      | true => rw [h j hj ha hn]; rfl
theorem backB_iff {ts : List Ac} {d : Nat} : backB ts d = true ↔ ∀ j, j < ts.length → (ts.getD j noAc).isBack = true → d.testBit j = true := by
  unfold backB
  rw [List.all_eq_true]
  constructor
  · intro h j hj ha
    have := h j (List.mem_range.2 hj)
    rw [ha] at this
    simpa using this
  · intro h j hj
    have hj := List.mem_range.1 hj
    cases ha : (ts.getD j noAc).isBack with
    | false => simp
    | true => rw [h j hj ha]; rfl
/-- The document's steps, taken apart. -/
theorem stepD_iff {os : List At} {ts : List Ac} {ks : List Int} : ∀ (k d : Nat) (s : List At), stepD os ts ks k = some (d, s) ↔ took ts.length ks k = some d ∧ nowA os ts ks k = some s ∧ ∀ i, i < k → ∀ di, took ts.length ks i = some di → firstB ts di (ks.getD i 0).toNat = true
  | 0, d, s => by
    constructor
    · intro h; cases h; exact ⟨rfl, rfl, fun i hi => by omega⟩
    · rintro ⟨h1, h2, _⟩; cases h1; cases h2; rfl
  | k + 1, d, s => by
    constructor
    · intro h
      rw [stepD] at h
      cases hk : stepD os ts ks k with
      | none => rw [hk] at h; cases h
      | some ds =>
        obtain ⟨d1, s1⟩ := ds
        rw [hk] at h
        obtain ⟨i1, i2, i3⟩ := (stepD_iff k d1 s1).1 hk
        simp only at h
        split at h
        · cases h
        · next hc =>
          split at h
          · next hf =>
            split at h
            · next hg =>
              cases h
              refine ⟨?_, ?_, fun i hi di hd => ?_⟩
              · rw [took, i1]; simp only; rw [if_neg hc]
              · rw [nowA, i2]; simp only; rw [if_pos hg]
              · by_cases e : i = k
                · subst e; rw [i1] at hd; cases hd; exact hf
                · exact i3 i (by omega) di hd
            · cases h
          · cases h
    · rintro ⟨h1, h2, h3⟩
      obtain ⟨d1, t1, t2, t3, t4, rfl⟩ := took_succ h1
      rw [nowA] at h2
      cases hn : nowA os ts ks k with
      | none => rw [hn] at h2; cases h2
      | some s1 =>
        rw [hn] at h2
        simp only at h2
        split at h2
        · next hg =>
          cases h2
          rw [stepD, (stepD_iff k d1 s1).2 ⟨t1, hn, fun i hi => h3 i (by omega)⟩]
          simp only
          rw [if_neg (by rintro (e | e | e); · omega
                         · omega
                         · rw [t4] at e; cases e), if_pos (h3 k (by omega) d1 t1), if_pos hg]
        · cases h2
theorem back_sub {ts : List Ac} (hl : ts.length ≤ 60) {d : Nat} (hd : d < 2 ^ 60) : sub (backs ts ts.length) d = backB ts d := by
  have hb : backs ts ts.length < 18446744073709551616 := by
    refine Nat.lt_pow_two_of_testBit (n := 64) _ (fun j hj => ?_)
    rw [backs_has]
    simp; omega
  have h1 := sub_iff (k := backs ts ts.length) (d := d) (by have : (2:Nat) ^ 60 < 18446744073709551616 := by decide
                                                            omega) hb
  have h2 := backB_iff (ts := ts) (d := d)
  have : sub (backs ts ts.length) d = true ↔ backB ts d = true := by
    rw [h1, h2]
    constructor
    · intro h j hj hb; exact h j (by rw [backs_has, hb]; simpa using hj)
    · intro h j hj
      rw [backs_has, Bool.and_eq_true, decide_eq_true_eq] at hj
      exact h j hj.1 hj.2
  cases h3 : sub (backs ts ts.length) d <;> cases h4 : backB ts d <;> simp_all
theorem keeps_iff {ts : List Ac} {ns : List Nat} : keepsB ts ns = true ↔ ∀ i, i < ns.length → ∀ j, j < i → (ts.getD (ns.getD i 0) noAc).ahead (ts.getD (ns.getD j 0) noAc) = false := by
  constructor
  · intro h i hi j hj
    cases ha : (ts.getD (ns.getD i 0) noAc).ahead (ts.getD (ns.getD j 0) noAc) with
    | false => rfl
    | true => rw [keeps_no hi hj ha] at h; cases h
  · exact keeps_yes
theorem map_toNat (ks : List Int) (i : Nat) : (ks.map Int.toNat).getD i 0 = (ks.getD i 0).toNat := by
  simp only [List.getD, List.getElem?_map]
  cases ks[i]? <;> rfl
/-- Both ways come to the same. -/
theorem after_same {os : List At} {ts : List Ac} {ks : List Int} (hl : ts.length ≤ 60) : afterD os ts ks = afterA os ts ks := by
  have key : ∀ s, afterD os ts ks = some s ↔ afterA os ts ks = some s := fun s => by
    unfold afterD afterA
    constructor
    · intro h
      split at h
      · split at h
        · cases h
        · next d s' hs =>
          split at h
          · next hb =>
            cases h
            obtain ⟨h1, h2, h3⟩ := (stepD_iff _ _ _).1 hs
            have hha : hasAllB ts ks = true := by
              unfold hasAllB
              rw [h1]
              simp only
              rw [back_sub hl (took_lt hl _ _ h1)]; exact hb
            have hkk : keepsB ts (ks.map Int.toNat) = true := by
              refine keeps_iff.2 fun i hi j hj => ?_
              rw [List.length_map] at hi
              rw [map_toNat, map_toNat]
              cases ha : (ts.getD (ks.getD i 0).toNat noAc).ahead (ts.getD (ks.getD j 0).toNat noAc) with
              | false => rfl
              | true =>
                obtain ⟨dj, hdj⟩ := took_pre h1 (i := j) (by omega)
                obtain ⟨di', hdi'⟩ := took_pre h1 (i := i + 1) (by omega)
                obtain ⟨di, hdi, q2, q3, q4, _⟩ := took_succ hdi'
                have hno := took_has hdi
                have hne : (ks.getD i 0).toNat ≠ (ks.getD j 0).toNat := fun e => by
                  have := (hno (ks.getD i 0).toNat).2 ⟨j, hj, e.symm⟩
                  rw [q4] at this; cases this
                have := firstB_iff.1 (h3 j (by omega) dj hdj) _ (by omega) ha hne
                obtain ⟨m, hm, e⟩ := (took_has hdj _).1 this
                have := (hno (ks.getD i 0).toNat).2 ⟨m, by omega, e⟩
                rw [q4] at this; cases this
            rw [if_pos ⟨hha, hkk⟩]
            exact h2
          · cases h
      · cases h
    · intro h
      split at h
      · next hc =>
        obtain ⟨hc1, hc2⟩ := hc
        unfold hasAllB at hc1
        cases ht : took ts.length ks ks.length with
        | none => rw [ht] at hc1; cases hc1
        | some d =>
          rw [ht] at hc1
          simp only at hc1
          rw [back_sub hl (took_lt hl _ _ ht)] at hc1
          have hf : ∀ i, i < ks.length → ∀ di, took ts.length ks i = some di → firstB ts di (ks.getD i 0).toNat = true := by
            intro i hi di hdi
            refine firstB_iff.2 fun j hj ha hne => ?_
            have hback : (ts.getD j noAc).isBack = true := by
              unfold Ac.ahead at ha; rw [Bool.and_eq_true] at ha; exact ha.1
            obtain ⟨m, hm, e⟩ := (took_has ht j).1 (backB_iff.1 hc1 j hj hback)
            by_cases e1 : m < i
            · exact (took_has hdi j).2 ⟨m, e1, e⟩
            · by_cases e2 : m = i
              · subst e2; exact absurd e.symm hne
              · have := keeps_iff.1 hc2 m (by rw [List.length_map]; exact hm) i (by omega)
                rw [map_toNat, map_toNat, e, ha] at this
                cases this
          rw [if_pos (by have := took_few ht; omega), (stepD_iff ks.length d s).2 ⟨ht, h, hf⟩]
          simp only
          rw [if_pos hc1]
      · cases h
  cases h1 : afterD os ts ks with
  | some s => exact ((key s).1 h1).symm
  | none =>
    cases h2 : afterA os ts ks with
    | none => rfl
    | some s => have := (key s).2 h2; rw [h1] at this; cases this
end H
end Go.Proofs.Ytafdjmccgijmnaa

/- Orders of single objects go together into one: no walk. -/
import Derived.Below
namespace Go.Proofs.Ytafdjmccgijmnaa
namespace H
set_option linter.unusedVariables false
set_option linter.unusedSimpArgs false
section
variable (call back : Nat → Int)
/-- One act is ahead of another. -/
def ahd (a b : Nat) : Bool := decide (0 ≤ back a) && decide (back a < call b)
/-- Whether one of the acts that are still to be merged is ahead of an act. -/
def waits (os : List (List Nat)) (k : Nat) : Bool := os.any fun o => o.any fun a => ahd call back a k
def mayGo (os : List (List Nat)) : List Nat → Bool
  | [] => false
  | k :: _ => !(waits call back os k)
def pick (os : List (List Nat)) : Option Nat := os.findIdx? (mayGo call back os)
def merge : Nat → List (List Nat) → List Nat
  | 0, _ => []
  | n + 1, os => match pick call back os with
    | none => []
    | some i => match os.getD i [] with
      | [] => []
      | k :: r => k :: merge n (os.set i r)
/-- An order keeps time. -/
def Kept (o : List Nat) : Prop := o.Pairwise fun x y => ahd call back y x = false
end
section
variable {call back : Nat → Int}
theorem waits_no {os : List (List Nat)} {k : Nat} (h : waits call back os k = false) {o : List Nat} (ho : o ∈ os) {a : Nat} (ha : a ∈ o) : ahd call back a k = false := by
  unfold waits at h
  rw [List.any_eq_false] at h
  have h1 := h o ho
  simp only [Bool.not_eq_true, List.any_eq_false] at h1
  simpa using h1 a ha
theorem head_goes (hc : ∀ a, 0 ≤ call a) (hb : ∀ a, 0 ≤ back a → call a < back a) {os : List (List Nat)} (hk : ∀ o ∈ os, Kept call back o) : ∀ (m : Nat) (k : Nat) (r : List Nat), (k :: r) ∈ os → (call k).toNat ≤ m → ∃ k' r', (k' :: r') ∈ os ∧ waits call back os k' = false := by
  intro m
  induction m with
  | zero =>
    intro k r ho hm
    refine ⟨k, r, ho, ?_⟩
    cases hw : waits call back os k with
    | false => rfl
    | true =>
      unfold waits at hw
      obtain ⟨o2, ho2, h2⟩ := List.any_eq_true.1 hw
      obtain ⟨a, ha, e⟩ := List.any_eq_true.1 h2
      unfold ahd at e
      simp only [Bool.and_eq_true, decide_eq_true_eq] at e
      have := hc k
      omega
  | succ m ih =>
    intro k r ho hm
    cases hw : waits call back os k with
    | false => exact ⟨k, r, ho, hw⟩
    | true =>
      unfold waits at hw
      obtain ⟨o2, ho2, h2⟩ := List.any_eq_true.1 hw
      obtain ⟨a, ha, e⟩ := List.any_eq_true.1 h2
      unfold ahd at e
      simp only [Bool.and_eq_true, decide_eq_true_eq] at e
      cases o2 with
      | nil => cases ha
      | cons h r2 =>
        refine ih h r2 ho2 ?_
        have hlt : call h < call k := by
          rcases List.mem_cons.1 ha with rfl | ha
          · have := hb a e.1; omega
          · have h3 := (List.pairwise_cons.1 (hk _ ho2)).1 a ha
            unfold ahd at h3
            rw [decide_eq_true e.1, Bool.true_and, decide_eq_false_iff_not] at h3
            omega
        have := hc h
        omega
theorem pick_none (hc : ∀ a, 0 ≤ call a) (hb : ∀ a, 0 ≤ back a → call a < back a) {os : List (List Nat)} (hk : ∀ o ∈ os, Kept call back o) (h : pick call back os = none) : ∀ o ∈ os, o = [] := by
  intro o ho
  cases o with
  | nil => rfl
  | cons k r =>
    obtain ⟨k', r', h1, h2⟩ := head_goes hc hb hk _ k r ho (Nat.le_refl _)
    unfold pick at h
    have := List.findIdx?_eq_none_iff.1 h _ h1
    simp [mayGo, h2] at this
theorem pick_some {os : List (List Nat)} {i : Nat} (h : pick call back os = some i) : i < os.length ∧ ∃ k r, os.getD i [] = k :: r ∧ os[i]? = some (k :: r) ∧ waits call back os k = false := by
  unfold pick at h
  obtain ⟨h1, h2, -⟩ := List.findIdx?_eq_some_iff_getElem.1 h
  refine ⟨h1, ?_⟩
  cases e : os[i] with
  | nil => rw [e] at h2; cases h2
  | cons k r =>
    rw [e] at h2
    refine ⟨k, r, by simp [List.getD, h1, e], by simp [h1, e], ?_⟩
    simpa [mayGo] using h2
theorem set_mem {os : List (List Nat)} {i k : Nat} {r o : List Nat} (h : os[i]? = some (k :: r)) (ho : o ∈ os.set i r) {a : Nat} (ha : a ∈ o) : ∃ o' ∈ os, a ∈ o' := by
  rcases List.mem_or_eq_of_mem_set ho with ho | rfl
  · exact ⟨o, ho, ha⟩
  · exact ⟨k :: o, List.mem_of_getElem? h, List.mem_cons_of_mem _ ha⟩
theorem set_kept {os : List (List Nat)} {i k : Nat} {r : List Nat} (hk : ∀ o ∈ os, Kept call back o) (h : os[i]? = some (k :: r)) : ∀ o ∈ os.set i r, Kept call back o := by
  intro o ho
  rcases List.mem_or_eq_of_mem_set ho with ho | rfl
  · exact hk o ho
  · exact (List.pairwise_cons.1 (hk _ (List.mem_of_getElem? h))).2
theorem merge_mem : ∀ (n : Nat) (os : List (List Nat)) {a : Nat}, a ∈ merge call back n os → ∃ o ∈ os, a ∈ o
  | 0, os, a, h => by cases h
  | n + 1, os, a, h => by
    rw [merge] at h
    cases hp : pick call back os with
    | none => rw [hp] at h; cases h
    | some i =>
      obtain ⟨h1, k, r, e1, e2, -⟩ := pick_some hp
      rw [hp] at h
      simp only [e1] at h
      rcases List.mem_cons.1 h with rfl | h
      · exact ⟨_, List.mem_of_getElem? e2, List.mem_cons_self⟩
      · obtain ⟨o, ho, ha⟩ := merge_mem n _ h
        exact set_mem e2 ho ha
/-- What is merged keeps time. -/
theorem merge_kept : ∀ (n : Nat) (os : List (List Nat)), Kept call back (merge call back n os)
  | 0, os => List.Pairwise.nil
  | n + 1, os => by
    rw [merge]
    cases hp : pick call back os with
    | none => exact List.Pairwise.nil
    | some i =>
      obtain ⟨h1, k, r, e1, e2, hw⟩ := pick_some hp
      simp only [e1]
      refine List.pairwise_cons.2 ⟨fun y hy => ?_, merge_kept n _⟩
      obtain ⟨o, ho, ha⟩ := merge_mem n _ hy
      obtain ⟨o', ho', ha'⟩ := set_mem e2 ho ha
      exact waits_no hw ho' ha'
/-- How many acts there are to be merged. -/
def tot (os : List (List Nat)) : Nat := (os.map List.length).sum
theorem tot_set : ∀ {os : List (List Nat)} {i k : Nat} {r : List Nat}, os[i]? = some (k :: r) → tot (os.set i r) + 1 = tot os
  | [], i, k, r, h => by simp at h
  | o :: os, 0, k, r, h => by
    simp at h
    subst h
    simp [tot]
    omega
  | o :: os, i + 1, k, r, h => by
    simp at h
    have := tot_set h
    simp [tot] at this ⊢
    omega
theorem tot_zero {os : List (List Nat)} (h : ∀ o ∈ os, o = []) : tot os = 0 := by
  unfold tot
  induction os with
  | nil => rfl
  | cons o os ih =>
    rw [List.map_cons, List.sum_cons, h o List.mem_cons_self, ih fun x hx => h x (List.mem_cons_of_mem _ hx)]
    rfl
/-- Of each object's acts, what is merged has their order, whole. -/
theorem merge_part (hc : ∀ a, 0 ≤ call a) (hb : ∀ a, 0 ≤ back a → call a < back a) (part : Nat → Nat) (j : Nat) : ∀ (n : Nat) (os : List (List Nat)), tot os = n → (∀ o ∈ os, Kept call back o) → (∀ i, ∀ a ∈ os.getD i [], part a = i) → (merge call back n os).filter (fun a => decide (part a = j)) = os.getD j []
  | 0, os, hn, hk, hpart => by
    have : os.getD j [] = [] := by
      cases e : os.getD j [] with
      | nil => rfl
      | cons k r =>
        have hj : j < os.length := by
          by_cases hj : j < os.length
          · exact hj
          · simp [List.getD, hj] at e
        have e2 : os[j]? = some (k :: r) := by simp [List.getD, hj] at e; simp [hj, e]
        have := tot_set e2
        omega
    rw [this]
    rfl
  | n + 1, os, hn, hk, hpart => by
    rw [merge]
    cases hp : pick call back os with
    | none =>
      have := tot_zero (pick_none hc hb hk hp)
      omega
    | some i =>
      obtain ⟨h1, k, r, e1, e2, hw⟩ := pick_some hp
      simp only [e1]
      have hset : ∀ q, (os.set i r).getD q [] = if q = i then r else os.getD q [] := fun q => by
        by_cases e : q = i
        · subst e; rw [if_pos rfl]; simp [List.getD, h1]
        · rw [if_neg e]; simp only [List.getD]; rw [List.getElem?_set_ne (fun e' => e e'.symm)]
      have ih := merge_part hc hb part j n (os.set i r) (by have := tot_set e2; omega) (set_kept hk e2) (fun q a ha => by
        rw [hset] at ha
        split at ha
        · next e => subst e; exact hpart q a (by rw [e1]; exact List.mem_cons_of_mem _ ha)
        · exact hpart q a ha)
      have hki := hpart i k (by rw [e1]; exact List.mem_cons_self)
      by_cases e : i = j
      · subst e
        rw [List.filter_cons_of_pos (by simpa using hki), ih, hset, if_pos rfl, e1]
      · rw [List.filter_cons_of_neg (by simp [hki, e]), ih, hset, if_neg (fun e' => e e'.symm)]
end
end H
end Go.Proofs.Ytafdjmccgijmnaa

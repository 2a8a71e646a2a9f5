/- Whether there is an order can be asked of each object alone. No walk. -/
import Derived.Test.YtafdjmccgijmnaaHiMerge
import Derived.Test.YtafdjmccgijmnaaHiFind
namespace Go.Proofs.Ytafdjmccgijmnaa
namespace H
set_option linter.unusedVariables false
set_option linter.unusedSimpArgs false
/-- A history: how many acts, when each was called and came back, which object's it is, and what it makes of that object. -/
structure Hs (σ : Type) where
  n : Nat
  call : Nat → Int
  back : Nat → Int
  part : Nat → Nat
  step : σ → Nat → Option σ
section
variable {σ : Type} (h : Hs σ)
/-- The whole. -/
def putAt (f : Nat → σ) (i : Nat) (s : σ) : Nat → σ := fun j => if j = i then s else f j
def Hs.whole : Pb (Nat → σ) := ⟨h.n, fun k => decide (0 ≤ h.back k), fun j k => ahd h.call h.back j k, fun f k => (h.step (f (h.part k)) k).map (putAt f (h.part k))⟩
/-- One object's acts. -/
def Hs.of (i : Nat) : Pb σ := ⟨h.n, fun k => decide (0 ≤ h.back k) && decide (h.part k = i), fun j k => ahd h.call h.back j k && decide (h.part j = i), fun s k => if h.part k = i then h.step s k else none⟩
end
section
variable {σ : Type} {h : Hs σ}
theorem all_iff {τ : Type} {p : Pb τ} {d : Nat} : p.all d = true ↔ ∀ k, k < p.n → p.must k = true → d.testBit k = true := by
  unfold Pb.all
  rw [List.all_eq_true]
  constructor
  · intro e k hk hm
    have := e k (List.mem_range.2 hk)
    rw [hm] at this
    simpa using this
  · intro e k hk
    cases hm : p.must k with
    | false => rfl
    | true => rw [e k (List.mem_range.1 hk) hm]; rfl
theorem free_iff {τ : Type} {p : Pb τ} {d k : Nat} : p.free d k = true ↔ d.testBit k = false ∧ ∀ j, j < p.n → p.early j k = true → d.testBit j = true := by
  unfold Pb.free
  rw [Bool.and_eq_true, List.all_eq_true, Bool.not_eq_true']
  refine and_congr_right fun _ => ⟨fun e j hj hm => ?_, fun e j hj => ?_⟩
  · have := e j (List.mem_range.2 hj)
    rw [hm] at this
    simpa using this
  · cases hm : p.early j k with
    | false => rfl
    | true => rw [e j (List.mem_range.1 hj) hm]; rfl
theorem of_part {i : Nat} : ∀ (o : List Nat) (d : Nat) (s : σ), (h.of i).Ok d s o → ∀ k ∈ o, h.part k = i
  | [], d, s, _, k, hk => by cases hk
  | q :: o, d, s, hok, k, hk => by
    obtain ⟨-, -, s', hs, hr⟩ := hok
    rcases List.mem_cons.1 hk with rfl | hk
    · by_cases e : h.part k = i
      · exact e
      · have : (h.of i).step s k = none := if_neg e
        rw [this] at hs
        cases hs
    · exact of_part o _ _ hr k hk
/-- An act of another object is nothing to this one. -/
theorem of_other {i q : Nat} (hq : h.part q ≠ i) : ∀ (o : List Nat) (d d' : Nat) (s : σ), (∀ k, h.part k = i → d'.testBit k = d.testBit k) → (h.of i).Ok d s o → (h.of i).Ok d' s o
  | [], d, d', s, hd, hok => by
    have hok' : (h.of i).all d = true := hok
    show (h.of i).all d' = true
    rw [all_iff] at hok' ⊢
    intro k hk hm
    have hp : h.part k = i := by
      have := (Bool.and_eq_true_iff.1 hm).2
      simpa using this
    rw [hd k hp]
    exact hok' k hk hm
  | k :: o, d, d', s, hd, hok => by
    have hp := of_part _ _ _ hok k List.mem_cons_self
    obtain ⟨hk, hf, s', hs, hr⟩ := hok
    refine ⟨hk, ?_, s', hs, of_other hq o (wth d k) (wth d' k) s' (fun j hj => by rw [has_wth, has_wth, hd j hj]) hr⟩
    rw [free_iff] at hf ⊢
    refine ⟨by rw [hd k hp]; exact hf.1, fun j hj he => ?_⟩
    have hpj : h.part j = i := by
      have := (Bool.and_eq_true_iff.1 he).2
      simpa using this
    rw [hd j hpj]
    exact hf.2 j hj he
theorem whole_part (i : Nat) : ∀ (o : List Nat) (d : Nat) (f : Nat → σ), h.whole.Ok d f o → (h.of i).Ok d (f i) (o.filter fun k => decide (h.part k = i))
  | [], d, f, hok => by
    have hok' : h.whole.all d = true := hok
    show (h.of i).all d = true
    rw [all_iff] at hok' ⊢
    intro k hk hm
    exact hok' k hk (Bool.and_eq_true_iff.1 hm).1
  | k :: o, d, f, hok => by
    obtain ⟨hk, hf, f', hs, hr⟩ := hok
    have hs' : (h.step (f (h.part k)) k).map (putAt f (h.part k)) = some f' := hs
    obtain ⟨s', e1, rfl⟩ := Option.map_eq_some_iff.1 hs'
    have ih := whole_part i o _ _ hr
    by_cases e : h.part k = i
    · rw [List.filter_cons_of_pos (by simpa using e)]
      refine ⟨hk, ?_, s', ?_, ?_⟩
      · rw [free_iff] at hf ⊢
        exact ⟨hf.1, fun j hj he => hf.2 j hj (Bool.and_eq_true_iff.1 he).1⟩
      · show (if h.part k = i then h.step (f i) k else none) = some s'
        rw [if_pos e, ← e]
        exact e1
      · have : putAt f (h.part k) s' i = s' := by unfold putAt; rw [if_pos e.symm]
        rw [this] at ih
        exact ih
    · rw [List.filter_cons_of_neg (by simpa using e)]
      have : putAt f (h.part k) s' i = f i := by unfold putAt; rw [if_neg (fun e' => e e'.symm)]
      rw [this] at ih
      exact of_other e _ _ _ _ (fun j hj => by rw [has_wth]; have : k ≠ j := fun e' => e (by rw [e']; exact hj); simp [this]) ih
theorem ok_new {τ : Type} {p : Pb τ} : ∀ (o : List Nat) (d : Nat) (s : τ), p.Ok d s o → ∀ y ∈ o, d.testBit y = false ∧ y < p.n
  | [], d, s, _, y, hy => by cases hy
  | k :: o, d, s, hok, y, hy => by
    obtain ⟨hk, hf, s', -, hr⟩ := hok
    rcases List.mem_cons.1 hy with rfl | hy
    · exact ⟨(free_iff.1 hf).1, hk⟩
    · have := ok_new o _ _ hr y hy
      rw [has_wth, Bool.or_eq_false_iff] at this
      exact ⟨this.1.1, this.2⟩
theorem ok_must {τ : Type} {p : Pb τ} {k : Nat} (hk : k < p.n) (hm : p.must k = true) : ∀ (o : List Nat) (d : Nat) (s : τ), p.Ok d s o → d.testBit k = false → k ∈ o
  | [], d, s, hok, hd => by
    have := (all_iff.1 hok) k hk hm
    rw [hd] at this
    cases this
  | q :: o, d, s, hok, hd => by
    obtain ⟨-, -, s', -, hr⟩ := hok
    by_cases e : q = k
    · subst e; exact List.mem_cons_self
    · exact List.mem_cons_of_mem _ (ok_must hk hm o _ _ hr (by rw [has_wth, hd, decide_eq_false e]; rfl))
theorem of_kept {i : Nat} : ∀ (o : List Nat) (d : Nat) (s : σ), (h.of i).Ok d s o → Kept h.call h.back o
  | [], d, s, _ => List.Pairwise.nil
  | k :: o, d, s, hok => by
    have hpt := of_part _ _ _ hok
    have hnew := ok_new _ _ _ hok
    obtain ⟨hk, hf, s', hs, hr⟩ := hok
    refine List.pairwise_cons.2 ⟨fun y hy => ?_, of_kept o _ _ hr⟩
    cases ha : ahd h.call h.back y k with
    | false => rfl
    | true =>
      have hn := hnew y (List.mem_cons_of_mem _ hy)
      have h1 := (free_iff.1 hf).2 y hn.2 (by
        show (ahd h.call h.back y k && decide (h.part y = i)) = true
        rw [ha, hpt y (List.mem_cons_of_mem _ hy)]
        simp)
      rw [hn.1] at h1
      cases h1
/-- Orders of the objects, merged, are one of the whole. -/
theorem merge_whole (hc : ∀ a, 0 ≤ h.call a) (hb : ∀ a, 0 ≤ h.back a → h.call a < h.back a) : ∀ (n : Nat) (os : List (List Nat)) (d : Nat) (f : Nat → σ), tot os = n → (∀ k, k < h.n → h.part k < os.length) → (∀ i, i < os.length → (h.of i).Ok d (f i) (os.getD i [])) → h.whole.Ok d f (merge h.call h.back n os)
  | 0, os, d, f, hn, hp, hok => by
    have hempty : ∀ i, i < os.length → os.getD i [] = [] := fun i hi => by
      cases e : os.getD i [] with
      | nil => rfl
      | cons k r =>
        have e2 : os[i]? = some (k :: r) := by simp [List.getD, hi] at e; simp [hi, e]
        have := tot_set e2
        omega
    show h.whole.all d = true
    rw [all_iff]
    intro k hk hm
    have hi := hp k hk
    have h1 := hok _ hi
    rw [hempty _ hi] at h1
    exact (all_iff.1 h1) k hk (by show (decide (0 ≤ h.back k) && decide (h.part k = h.part k)) = true; rw [show decide (0 ≤ h.back k) = true from hm]; simp)
  | n + 1, os, d, f, hn, hp, hok => by
    have hkept : ∀ o ∈ os, Kept h.call h.back o := fun o ho => by
      obtain ⟨i, hi, rfl⟩ := List.getElem_of_mem ho
      have := hok i hi
      rw [show os.getD i [] = os[i] by simp [List.getD, hi]] at this
      exact of_kept _ _ _ this
    rw [merge]
    cases hpk : pick h.call h.back os with
    | none =>
      have := tot_zero (pick_none hc hb hkept hpk)
      omega
    | some i =>
      obtain ⟨hi, k, r, e1, e2, hw⟩ := pick_some hpk
      simp only [e1]
      have hoki := hok i hi
      rw [e1] at hoki
      have hpk2 : h.part k = i := of_part _ _ _ hoki k List.mem_cons_self
      obtain ⟨hk, hf, s', hs, hr⟩ := hoki
      have hs2 : h.step (f i) k = some s' := by
        have : (if h.part k = i then h.step (f i) k else none) = some s' := hs
        rwa [if_pos hpk2] at this
      refine ⟨hk, ?_, putAt f i s', ?_, merge_whole hc hb n (os.set i r) _ _ (by have := tot_set e2; omega) (by rw [List.length_set]; exact hp) (fun j hj => ?_)⟩
      · rw [free_iff]
        refine ⟨(free_iff.1 hf).1, fun j hj he => ?_⟩
        have he' : ahd h.call h.back j k = true := he
        cases hd : d.testBit j with
        | true => rfl
        | false =>
          have hpj := hp j hj
          have hmust : (h.of (h.part j)).must j = true := by
            show (decide (0 ≤ h.back j) && decide (h.part j = h.part j)) = true
            unfold ahd at he'
            rw [(Bool.and_eq_true_iff.1 he').1]
            simp
          have hin := ok_must (p := h.of (h.part j)) hj hmust _ _ _ (hok _ hpj) hd
          have hmem : os.getD (h.part j) [] ∈ os := by simp [List.getD, hpj]
          rw [waits_no hw hmem hin] at he'
          cases he'
      · show (h.step (f (h.part k)) k).map (putAt f (h.part k)) = some (putAt f i s')
        rw [hpk2, hs2]
        rfl
      · rw [List.length_set] at hj
        by_cases e : j = i
        · subst e
          have a1 : (os.set j r).getD j [] = r := by simp [List.getD, hi]
          have a2 : putAt f j s' j = s' := by unfold putAt; rw [if_pos rfl]
          rw [a1, a2]
          exact hr
        · have a1 : (os.set i r).getD j [] = os.getD j [] := by simp only [List.getD]; rw [List.getElem?_set_ne (fun e' => e e'.symm)]
          have a2 : putAt f i s' j = f j := by unfold putAt; rw [if_neg e]
          rw [a1, a2]
          exact of_other (q := k) (by rw [hpk2]; exact fun e' => e e'.symm) _ _ _ _ (fun q hq => by
            rw [has_wth]
            have : k ≠ q := fun e' => e (by rw [← hq, ← e', hpk2])
            simp [this]) (hok j hj)
end
end H
end Go.Proofs.Ytafdjmccgijmnaa

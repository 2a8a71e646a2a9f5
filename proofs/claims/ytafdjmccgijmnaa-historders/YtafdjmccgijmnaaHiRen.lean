/- The parts' orders make the whole's. No walk. -/
import Derived.Test.YtafdjmccgijmnaaHiWhole
namespace Go.Proofs.Ytafdjmccgijmnaa
open Go.RowKit A Go.Maps
set_option linter.unusedVariables false
set_option linter.unusedSimpArgs false
namespace H
def acts (ts : List Ac) (ns : List Nat) : List Ac := ns.map fun k => ts.getD k noAc
theorem acts_at {ts : List Ac} {ns : List Nat} {j : Nat} (hj : j < ns.length) : (acts ts ns).getD j noAc = ts.getD (ns.getD j 0) noAc := by
  simp [acts, List.getD, hj]
theorem nd_at {ns : List Nat} (h : ns.Nodup) {i j : Nat} (hi : i < ns.length) (hj : j < ns.length) (e : ns.getD i 0 = ns.getD j 0) : i = j := by
  simp only [List.getD, List.getElem?_eq_getElem hi, List.getElem?_eq_getElem hj, Option.getD_some] at e
  have hp := List.pairwise_iff_getElem.1 h
  rcases Nat.lt_trichotomy i j with h1 | h1 | h1
  · exact absurd e (hp i j hi hj h1)
  · exact h1
  · exact absurd e.symm (hp j i hj hi h1)
theorem in_at {ns : List Nat} {k : Nat} (h : k ∈ ns) : ∃ j, j < ns.length ∧ ns.getD j 0 = k := by
  obtain ⟨j, hj, rfl⟩ := List.getElem_of_mem h
  exact ⟨j, hj, by simp [List.getD, hj]⟩
theorem ren_ok {os : List At} {ts : List Ac} {part : Nat → Nat} {i : Nat} {ns : List Nat} (hmem : ∀ k, k ∈ ns ↔ k < ts.length ∧ part k = i) (hnd : ns.Nodup) : ∀ (o : List Nat) (d D : Nat) (s : List At), (∀ j, j < ns.length → D.testBit (ns.getD j 0) = d.testBit j) → (∀ j ∈ o, j < ns.length) → ((Pf (acts ts ns)).Ok d s o ↔ ((hs os ts part).of i).Ok D s (o.map fun j => ns.getD j 0))
  | [], d, D, s, hb, _ => by
    show (Pf (acts ts ns)).all d = true ↔ ((hs os ts part).of i).all D = true
    rw [all_iff, all_iff]
    constructor
    · intro h k hk hm
      have hm' : (decide (0 ≤ bak ts k) && decide (part k = i)) = true := hm
      rw [Bool.and_eq_true, decide_eq_true_eq, decide_eq_true_eq] at hm'
      obtain ⟨j, hj, rfl⟩ := in_at ((hmem k).2 ⟨hk, hm'.2⟩)
      rw [hb j hj]
      refine h j (by show j < (acts ts ns).length; simpa [acts] using hj) ?_
      show ((acts ts ns).getD j noAc).isBack = true
      rw [acts_at hj]
      exact decide_eq_true hm'.1
    · intro h j hj hm
      have hj' : j < ns.length := by have : j < (acts ts ns).length := hj; simpa [acts] using this
      rw [← hb j hj']
      have hin := (hmem (ns.getD j 0)).1 (getD_mem hj')
      refine h _ hin.1 ?_
      show (decide (0 ≤ bak ts (ns.getD j 0)) && decide (part (ns.getD j 0) = i)) = true
      have hm' : ((acts ts ns).getD j noAc).isBack = true := hm
      rw [acts_at hj'] at hm'
      rw [Bool.and_eq_true]
      exact ⟨hm', decide_eq_true hin.2⟩
  | j :: o, d, D, s, hb, ho => by
    have hj : j < ns.length := ho j List.mem_cons_self
    have hin := (hmem (ns.getD j 0)).1 (getD_mem hj)
    have hfree : (Pf (acts ts ns)).free d j = true ↔ ((hs os ts part).of i).free D (ns.getD j 0) = true := by
      rw [free_iff, free_iff, hb j hj]
      refine and_congr_right fun _ => ⟨fun h q hq he => ?_, fun h q hq he => ?_⟩
      · have he' : (ahd (cal ts) (bak ts) q (ns.getD j 0) && decide (part q = i)) = true := he
        rw [Bool.and_eq_true, decide_eq_true_eq] at he'
        obtain ⟨r, hr, rfl⟩ := in_at ((hmem q).2 ⟨hq, he'.2⟩)
        rw [hb r hr]
        refine h r (by show r < (acts ts ns).length; simpa [acts] using hr) ?_
        show ((acts ts ns).getD r noAc).ahead ((acts ts ns).getD j noAc) = true
        rw [acts_at hr, acts_at hj]
        exact he'.1
      · have hq' : q < ns.length := by have : q < (acts ts ns).length := hq; simpa [acts] using this
        have hqin := (hmem (ns.getD q 0)).1 (getD_mem hq')
        rw [← hb q hq']
        refine h _ hqin.1 ?_
        have he' : ((acts ts ns).getD q noAc).ahead ((acts ts ns).getD j noAc) = true := he
        rw [acts_at hq', acts_at hj] at he'
        show (ahd (cal ts) (bak ts) (ns.getD q 0) (ns.getD j 0) && decide (part (ns.getD q 0) = i)) = true
        rw [Bool.and_eq_true]
        exact ⟨he', decide_eq_true hqin.2⟩
    have hstep : ∀ s', (Pf (acts ts ns)).step s j = some s' ↔ ((hs os ts part).of i).step s (ns.getD j 0) = some s' := fun s' => by
      show stp (acts ts ns) s j = some s' ↔ (if part (ns.getD j 0) = i then stp ts s (ns.getD j 0) else none) = some s'
      rw [if_pos hin.2]
      unfold stp
      rw [acts_at hj]
    have hrest : ∀ s', (Pf (acts ts ns)).Ok (wth d j) s' o ↔ ((hs os ts part).of i).Ok (wth D (ns.getD j 0)) s' (o.map fun j => ns.getD j 0) := fun s' => ren_ok hmem hnd o _ _ s' (fun q hq => by
      rw [has_wth, has_wth, hb q hq]
      congr 1
      rw [decide_eq_decide]
      exact ⟨fun e => nd_at hnd hj hq e, fun e => by rw [e]⟩) (fun q hq => ho q (List.mem_cons_of_mem _ hq))
    constructor
    · rintro ⟨-, hfr, s', hs', hr⟩
      exact ⟨hin.1, hfree.1 hfr, s', (hstep s').1 hs', (hrest s').1 hr⟩
    · rintro ⟨-, hfr, s', hs', hr⟩
      exact ⟨by show j < (acts ts ns).length; simpa [acts] using hj, hfree.2 hfr, s', (hstep s').2 hs', (hrest s').2 hr⟩
/-- What the parts are. -/
structure PI (os : List At) (ts : List Ac) (n : Nat) (gs : List (Option Nat × List Nat)) : Prop where
  nd : ∀ i j, i < gs.length → j < gs.length → (gs.getD i (none, [])).1 = (gs.getD j (none, [])).1 → i = j
  ns : ∀ i, i < gs.length → (gs.getD i (none, [])).2 = (List.range n).filter fun k => decide (key os ts k = (gs.getD i (none, [])).1)
  all : ∀ k, k < n → ∃ i, i < gs.length ∧ (gs.getD i (none, [])).1 = key os ts k
theorem parts_pi (os : List At) (ts : List Ac) : ∀ n, PI os ts n (parts os ts n)
  | 0 => ⟨fun i j hi => by simp [parts] at hi, fun i hi => by simp [parts] at hi, fun k hk => by omega⟩
  | n + 1 => by
    have ih := parts_pi os ts n
    have hfil : ∀ q, (List.range (n + 1)).filter (fun k => decide (key os ts k = q)) = (List.range n).filter (fun k => decide (key os ts k = q)) ++ if key os ts n = q then [n] else [] := fun q => by
      rw [List.range_succ, List.filter_append]
      congr 1
      by_cases e : key os ts n = q
      · rw [if_pos e]; simp [e]
      · rw [if_neg e]; simp [e]
    rw [parts]
    unfold addTo
    cases hf : (parts os ts n).findIdx? (fun g => decide (g.1 = key os ts n)) with
    | some i =>
      simp only
      rw [List.findIdx?_eq_some_iff_getElem] at hf
      obtain ⟨hi, h1, -⟩ := hf
      have h1' : ((parts os ts n).getD i (none, [])).1 = key os ts n := by
        have := of_decide_eq_true h1
        simpa [List.getD, hi] using this
      have hk1 : ∀ j, (((parts os ts n).set i (key os ts n, ((parts os ts n).getD i (none, [])).2 ++ [n])).getD j (none, [])).1 = ((parts os ts n).getD j (none, [])).1 := fun j => by
        by_cases e : i = j
        · subst e; rw [A.getD_set_eq _ _ _ hi]; exact h1'.symm
        · rw [A.getD_set_ne _ _ _ e]
      refine ⟨fun j j' hj hj' e => ?_, fun j hj => ?_, fun k hk => ?_⟩
      · rw [List.length_set] at hj hj'
        rw [hk1, hk1] at e
        exact ih.nd j j' hj hj' e
      · rw [List.length_set] at hj
        rw [hk1, hfil, ← ih.ns j hj]
        by_cases e : i = j
        · subst e
          rw [A.getD_set_eq _ _ _ hi, if_pos h1'.symm]
        · rw [A.getD_set_ne _ _ _ e, if_neg, List.append_nil]
          intro e2
          exact e (ih.nd i j hi hj (by rw [h1', e2]))
      · by_cases e : k = n
        · subst e
          exact ⟨i, by rw [List.length_set]; exact hi, by rw [hk1]; exact h1'⟩
        · obtain ⟨j, hj, h2⟩ := ih.all k (by omega)
          exact ⟨j, by rw [List.length_set]; exact hj, by rw [hk1]; exact h2⟩
    | none =>
      simp only
      rw [List.findIdx?_eq_none_iff] at hf
      have hne : ∀ j, j < (parts os ts n).length → ((parts os ts n).getD j (none, [])).1 ≠ key os ts n := fun j hj e => by
        have := hf (parts os ts n)[j] (List.getElem_mem _)
        simp only [decide_eq_false_iff_not] at this
        apply this
        simpa [List.getD, hj] using e
      have hold : ∀ j, j < (parts os ts n).length → (parts os ts n ++ [(key os ts n, [n])]).getD j (none, []) = (parts os ts n).getD j (none, []) := fun j hj => by simp only [List.getD]; rw [List.getElem?_append_left hj]
      have hnew : (parts os ts n ++ [(key os ts n, [n])]).getD (parts os ts n).length (none, []) = (key os ts n, [n]) := by simp [List.getD]
      refine ⟨fun j j' hj hj' e => ?_, fun j hj => ?_, fun k hk => ?_⟩
      · rw [List.length_append, List.length_cons, List.length_nil] at hj hj'
        by_cases e1 : j < (parts os ts n).length
        · by_cases e2 : j' < (parts os ts n).length
          · rw [hold j e1, hold j' e2] at e; exact ih.nd j j' e1 e2 e
          · obtain rfl : j' = (parts os ts n).length := by omega
            rw [hold j e1, hnew] at e
            exact absurd e (hne j e1)
        · obtain rfl : j = (parts os ts n).length := by omega
          by_cases e2 : j' < (parts os ts n).length
          · rw [hold j' e2, hnew] at e
            exact absurd e.symm (hne j' e2)
          · omega
      · rw [List.length_append, List.length_cons, List.length_nil] at hj
        by_cases e1 : j < (parts os ts n).length
        · rw [hold j e1, hfil, ← ih.ns j e1, if_neg (fun e => hne j e1 e.symm), List.append_nil]
        · obtain rfl : j = (parts os ts n).length := by omega
          rw [hnew, hfil, if_pos rfl]
          have : (List.range n).filter (fun k => decide (key os ts k = key os ts n)) = [] := by
            rw [List.filter_eq_nil_iff]
            intro k hk
            simp only [decide_eq_true_eq]
            intro e
            obtain ⟨i, hi, h2⟩ := ih.all k (List.mem_range.1 hk)
            exact hne i hi (by rw [h2, e])
          rw [this]
          rfl
      · rw [List.length_append, List.length_cons, List.length_nil]
        by_cases e : k = n
        · subst e
          exact ⟨_, Nat.lt_succ_self _, by rw [hnew]⟩
        · obtain ⟨j, hj, h2⟩ := ih.all k (by omega)
          exact ⟨j, by omega, by rw [hold j hj]; exact h2⟩
/-- Which part an act is in. -/
def partOf (os : List At) (ts : List Ac) (k : Nat) : Nat := (parts os ts ts.length).findIdx fun g => decide (g.1 = key os ts k)
theorem part_at {os : List At} {ts : List Ac} {k : Nat} (hk : k < ts.length) : partOf os ts k < (parts os ts ts.length).length ∧ ((parts os ts ts.length).getD (partOf os ts k) (none, [])).1 = key os ts k := by
  obtain ⟨i, hi, h1⟩ := (parts_pi os ts ts.length).all k hk
  have hlt : partOf os ts k < (parts os ts ts.length).length := by
    unfold partOf
    rw [List.findIdx_lt_length]
    exact ⟨(parts os ts ts.length).getD i (none, []), by simp [List.getD, hi], by simpa using h1⟩
  refine ⟨hlt, ?_⟩
  have := List.findIdx_getElem (p := fun g : Option Nat × List Nat => decide (g.1 = key os ts k)) (xs := parts os ts ts.length) (w := hlt)
  simp only [decide_eq_true_eq] at this
  unfold partOf at hlt ⊢
  simpa [List.getD, hlt] using this
theorem part_mem {os : List At} {ts : List Ac} {i : Nat} (hi : i < (parts os ts ts.length).length) (k : Nat) : k ∈ ((parts os ts ts.length).getD i (none, [])).2 ↔ k < ts.length ∧ partOf os ts k = i := by
  rw [(parts_pi os ts ts.length).ns i hi, List.mem_filter, List.mem_range, decide_eq_true_eq]
  refine and_congr_right fun hk => ?_
  obtain ⟨h1, h2⟩ := part_at (os := os) hk
  constructor
  · intro e
    exact (parts_pi os ts ts.length).nd _ _ h1 hi (by rw [h2, e])
  · intro e
    rw [← e, h2]
theorem part_nd {os : List At} {ts : List Ac} {i : Nat} (hi : i < (parts os ts ts.length).length) : ((parts os ts ts.length).getD i (none, [])).2.Nodup := by
  rw [(parts_pi os ts ts.length).ns i hi]
  exact List.nodup_range.filter _
theorem cal_ok {ts : List Ac} (h : mayH ts = true) : (∀ a, 0 ≤ cal ts a) ∧ ∀ a, 0 ≤ bak ts a → cal ts a < bak ts a := by
  unfold mayH at h
  rw [Bool.and_eq_true, List.all_eq_true] at h
  have hin : ∀ a, a < ts.length → (ts.getD a noAc).may = true := fun a ha => by
    have := h.2 a (List.mem_range.2 ha)
    unfold okAt at this
    exact (Bool.and_eq_true_iff.1 this).1
  have hout : ∀ a, ¬ a < ts.length → ts.getD a noAc = noAc := fun a ha => by simp [List.getD, ha]
  constructor
  · intro a
    unfold cal
    by_cases ha : a < ts.length
    · have := hin a ha
      unfold Ac.may at this
      simp only [Bool.and_eq_true, decide_eq_true_eq] at this
      exact this.2.2.1
    · rw [hout a ha]; exact Int.le_refl _
  · intro a hb
    unfold bak at hb
    unfold cal bak
    by_cases ha : a < ts.length
    · have := hin a ha
      unfold Ac.may at this
      simp only [Bool.and_eq_true, Bool.or_eq_true, decide_eq_true_eq] at this
      omega
    · rw [hout a ha] at hb
      exact absurd hb (by decide)
theorem keys_map (gs : List (Option Nat × List Nat)) (i : Nat) : (gs.map (·.1)).getD i none = (gs.getD i (none, [])).1 := by
  by_cases hi : i < gs.length
  · simp [List.getD, hi]
  · simp [List.getD, hi]
/-- The parts' orders go together into one of the whole. -/
theorem parts_sound {os : List At} {ts : List Ac} (hm : mayAll os = true) (hh : mayH ts = true) {oss : List (List Nat)} (hlen : oss.length = (parts os ts ts.length).length) (h : ∀ i, i < oss.length → ∃ o, oss.getD i [] = o.map (fun j => ((parts os ts ts.length).getD i (none, [])).2.getD j 0) ∧ (Pf (acts ts ((parts os ts ts.length).getD i (none, [])).2)).Ok 0 (obK os ((parts os ts ts.length).getD i (none, [])).1) o) : (Pf ts).Ok 0 os (merge (cal ts) (bak ts) (tot oss) oss) := by
  obtain ⟨hc, hb⟩ := cal_ok hh
  refine (whole_iff (os := os) (ks := (parts os ts ts.length).map (·.1)) (part := partOf os ts) ?_ ?_ ?_ _ 0 os (fun i => obK os ((parts os ts ts.length).getD i (none, [])).1) (Like.refl _) hm (fun i _ => by rw [keys_map])).2 ?_
  · intro i j hi hj e
    rw [List.length_map] at hi hj
    rw [keys_map, keys_map] at e
    exact (parts_pi os ts ts.length).nd i j hi hj e
  · intro i j e
    rw [keys_map] at e
    by_cases hi : i < (parts os ts ts.length).length
    · exact parts_ks (ts := ts) ts.length ((parts os ts ts.length).getD i (none, [])) (by simp [List.getD, hi]) j e
    · simp [List.getD, hi] at e
  · intro k hk
    rw [List.length_map, keys_map]
    exact part_at hk
  · refine merge_whole (h := hs os ts (partOf os ts)) hc hb _ oss 0 _ rfl (fun k hk => by rw [hlen]; exact (part_at hk).1) (fun i hi => ?_)
    obtain ⟨o, ho, hok⟩ := h i hi
    have hi' : i < (parts os ts ts.length).length := by rw [← hlen]; exact hi
    rw [ho]
    refine (ren_ok (part_mem hi') (part_nd hi') o 0 0 _ (fun j hj => by simp) (fun j hj => ?_)).1 hok
    have := (ok_new _ _ _ hok j hj).2
    have h2 : j < (acts ts ((parts os ts ts.length).getD i (none, [])).2).length := this
    simpa [acts] using h2
/-- If a part has none, the whole has none. -/
theorem parts_bad {os : List At} {ts : List Ac} (hm : mayAll os = true) {i : Nat} (hi : i < (parts os ts ts.length).length) (h : (Pf (acts ts ((parts os ts ts.length).getD i (none, [])).2)).Bad 0 (obK os ((parts os ts ts.length).getD i (none, [])).1)) : (Pf ts).Bad 0 os := fun o ho => by
  have hw := (whole_iff (os := os) (ks := (parts os ts ts.length).map (·.1)) (part := partOf os ts) (fun i j hi hj e => by
    rw [List.length_map] at hi hj
    rw [keys_map, keys_map] at e
    exact (parts_pi os ts ts.length).nd i j hi hj e) (fun i j e => by
    rw [keys_map] at e
    by_cases hi : i < (parts os ts ts.length).length
    · exact parts_ks (ts := ts) ts.length ((parts os ts ts.length).getD i (none, [])) (by simp [List.getD, hi]) j e
    · simp [List.getD, hi] at e) (fun k hk => by rw [List.length_map, keys_map]; exact part_at hk) o 0 os (fun i => obK os ((parts os ts ts.length).getD i (none, [])).1) (Like.refl _) hm (fun i _ => by rw [keys_map])).1 ho
  have hp := whole_part i o 0 _ hw
  have hall : ∀ k ∈ o.filter (fun k => decide ((hs os ts (partOf os ts)).part k = i)), k ∈ ((parts os ts ts.length).getD i (none, [])).2 := fun k hk => by
    rw [List.mem_filter, decide_eq_true_eq] at hk
    refine (part_mem hi k).2 ⟨(ok_new _ _ _ ho k hk.1).2, hk.2⟩
  obtain ⟨o', ho', hlt⟩ : ∃ o' : List Nat, o.filter (fun k => decide ((hs os ts (partOf os ts)).part k = i)) = o'.map (fun j => ((parts os ts ts.length).getD i (none, [])).2.getD j 0) ∧ ∀ j ∈ o', j < ((parts os ts ts.length).getD i (none, [])).2.length := by
    generalize o.filter (fun k => decide ((hs os ts (partOf os ts)).part k = i)) = f at hall
    induction f with
    | nil => exact ⟨[], rfl, fun j hj => by cases hj⟩
    | cons k f ih =>
      obtain ⟨o', h1, h2⟩ := ih (fun q hq => hall q (List.mem_cons_of_mem _ hq))
      obtain ⟨j, hj, e⟩ := in_at (hall k List.mem_cons_self)
      refine ⟨j :: o', by rw [List.map_cons, ← h1, e], fun q hq => ?_⟩
      rcases List.mem_cons.1 hq with rfl | hq
      · exact hj
      · exact h2 q hq
  rw [ho'] at hp
  exact h o' ((ren_ok (part_mem hi) (part_nd hi) o' 0 0 _ (fun j hj => by simp) hlt).2 hp)
end H
end Go.Proofs.Ytafdjmccgijmnaa

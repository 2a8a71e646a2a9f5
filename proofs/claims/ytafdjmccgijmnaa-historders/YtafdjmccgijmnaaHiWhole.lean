/- An order of the whole, and orders of the parts. No walk. -/
import Derived.Test.YtafdjmccgijmnaaHiPartsW
import Derived.Test.YtafdjmccgijmnaaHiCheck
import Derived.Test.YtafdjmccgijmnaaAtRefDo
import Derived.Test.YtafdjmccgijmnaaHiLocal
namespace Go.Proofs.Ytafdjmccgijmnaa
open Go.RowKit A Go.Maps
set_option linter.unusedVariables false
set_option linter.unusedSimpArgs false
namespace H
/-- What an act makes of all objects, it makes of its own one. -/
theorem one_may {os : List At} (hm : mayAll os = true) {j : Nat} (hj : j < os.length) : mayAll [os.getD j noAt] = true := by
  have h1 := may_at hm hj
  unfold atOk at h1
  rw [Bool.and_eq_true] at h1
  unfold mayAll
  refine all_range_yes (fun i hi => ?_)
  obtain rfl : i = 0 := by simp at hi; omega
  unfold atOk freeName
  simpa using h1.2
theorem obK_may {os : List At} (hm : mayAll os = true) {q : Option Nat} (hq : ∀ j, q = some j → j < os.length) : mayAll (obK os q) = true := by
  cases q with
  | none => rfl
  | some j => exact one_may hm (hq j rfl)
theorem do_local {os : List At} (hm : mayAll os = true) (a : Ac) : (made os a).2 = (made (obK os (obAt os a)) a).2 ∧ (made os a).1 = match obAt os a with
    | none => os
    | some j => os.set j ((made (obK os (obAt os a)) a).1.getD 0 noAt) := by
  have hqv : ∀ j, obAt os a = some j → j < os.length := fun j hj => by
    unfold obAt at hj
    split at hj
    · next hh => cases hj; exact hh.1
    · cases hj
  have hmk := obK_may hm hqv
  unfold made
  have hbad : badA (obK os (obAt os a)) a.th a.dd = badA os a.th a.dd := by unfold badA; rw [hm, hmk]
  by_cases hb : badA os a.th a.dd = true
  · have e1 : doA os a.th a.dd a.nm a.arg = (os, 0, 2) := by unfold doA; rw [if_pos hb]
    have e2 : doA (obK os (obAt os a)) a.th a.dd a.nm a.arg = (obK os (obAt os a), 0, 2) := by unfold doA; rw [if_pos (by rw [hbad]; exact hb)]
    rw [e1, e2]
    refine ⟨rfl, ?_⟩
    cases hq : obAt os a with
    | none => rfl
    | some j => exact (A.set_same os j).symm
  · by_cases h5 : a.dd = 5
    · have hq : obAt os a = none := by unfold obAt; rw [if_neg (fun h => h.2 h5)]
      have e1 : doA os a.th a.dd a.nm a.arg = (os, 0, 0) := by unfold doA; rw [if_neg hb, if_pos h5]
      have e2 : doA (obK os (obAt os a)) a.th a.dd a.nm a.arg = (obK os (obAt os a), 0, 0) := by unfold doA; rw [if_neg (by rw [hbad]; exact hb), if_pos h5]
      rw [e1, e2, hq]
      exact ⟨rfl, rfl⟩
    · by_cases hw : whereA os a.nm < os.length
      · have hq : obAt os a = some (whereA os a.nm) := by unfold obAt; rw [if_pos ⟨hw, h5⟩]
        have hnm := where_eq hw
        have hw0 : whereA [os.getD (whereA os a.nm) noAt] a.nm = 0 := A.where_at (k := 0) (by simp) (by simpa using hnm) (fun i hi => by omega)
        have hK : obK os (obAt os a) = [os.getD (whereA os a.nm) noAt] := by rw [hq]; rfl
        rw [hK] at hbad ⊢
        by_cases hc : decide ((os.getD (whereA os a.nm) noAt).cap = 0) = decide (a.dd ≤ 2)
        · have e1 : doA os a.th a.dd a.nm a.arg = (os.set (whereA os a.nm) (stepA (os.getD (whereA os a.nm) noAt) (a.th + 1) a.dd a.arg).1, (stepA (os.getD (whereA os a.nm) noAt) (a.th + 1) a.dd a.arg).2) := by
            unfold doA
            rw [if_neg hb, if_neg h5, if_neg (by simpa using hw), if_neg (by simpa using hc)]
          have e2 : doA [os.getD (whereA os a.nm) noAt] a.th a.dd a.nm a.arg = ([(stepA (os.getD (whereA os a.nm) noAt) (a.th + 1) a.dd a.arg).1], (stepA (os.getD (whereA os a.nm) noAt) (a.th + 1) a.dd a.arg).2) := by
            unfold doA
            rw [if_neg (by rw [hbad]; exact hb), if_neg h5, hw0, if_neg (by simp), if_neg (by simpa using hc)]
            rfl
          rw [e1, e2, hq]
          exact ⟨rfl, rfl⟩
        · have e1 : doA os a.th a.dd a.nm a.arg = (os, 0, 2) := by
            unfold doA
            rw [if_neg hb, if_neg h5, if_neg (by simpa using hw), if_pos hc]
          have e2 : doA [os.getD (whereA os a.nm) noAt] a.th a.dd a.nm a.arg = ([os.getD (whereA os a.nm) noAt], 0, 2) := by
            unfold doA
            rw [if_neg (by rw [hbad]; exact hb), if_neg h5, hw0, if_neg (by simp), if_pos (by simpa using hc)]
          rw [e1, e2, hq]
          exact ⟨rfl, (A.set_same os _).symm⟩
      · have hq : obAt os a = none := by unfold obAt; rw [if_neg (fun h => hw h.1)]
        have e1 : doA os a.th a.dd a.nm a.arg = (os, 0, 2) := by unfold doA; rw [if_neg hb, if_neg h5, if_pos (by simpa using hw)]
        have hK : obK os (obAt os a) = [] := by rw [hq]; rfl
        have e2 : doA [] a.th a.dd a.nm a.arg = ([], 0, 2) := by
          rw [hK] at hbad
          unfold doA
          rw [if_neg (by rw [hbad]; exact hb), if_neg h5, if_pos (by simp)]
        rw [hK, e1, e2, hq]
        exact ⟨rfl, rfl⟩
theorem goes_local {os : List At} (hm : mayAll os = true) (a : Ac) : goes os a = goes (obK os (obAt os a)) a := by
  unfold goes
  rw [(do_local hm a).1]
theorem like_where {os os' : List At} (h : Like os os') (nm : ByteArray) : whereA os' nm = whereA os nm := by
  by_cases hw : whereA os nm < os.length
  · have h1 := where_eq hw
    refine A.where_at (by rw [h.len]; exact hw) (by rw [h.name]; exact h1) (fun i hi => ?_)
    rw [h.name]
    intro e
    have := A.where_le (k := i) (by omega) e
    omega
  · have hle : ∀ (l : List At), whereA l nm ≤ l.length := fun l => List.findIdx_le_length
    have h1 := hle os
    have h2 := hle os'
    have hno : ¬ whereA os' nm < os'.length := fun hlt => by
      have h3 := where_eq hlt
      rw [h.name] at h3
      have := A.where_le (os := os) (k := whereA os' nm) (by have := h.len; omega) h3
      have := h.len
      omega
    have := h.len
    omega
theorem like_key {os os' : List At} (h : Like os os') (ts : List Ac) (k : Nat) : key os' ts k = key os ts k := by
  unfold key obAt
  rw [like_where h, h.len]
/-- The history as parts. -/
def hs (os : List At) (ts : List Ac) (part : Nat → Nat) : Hs (List At) := ⟨ts.length, cal ts, bak ts, part, stp ts⟩
/-- The whole of parts, and the whole. -/
theorem whole_iff {os : List At} {ts : List Ac} {part : Nat → Nat} {ks : List (Option Nat)} (hnd : ∀ i j, i < ks.length → j < ks.length → ks.getD i none = ks.getD j none → i = j) (hkv : ∀ i j, ks.getD i none = some j → j < os.length) (hpart : ∀ k, k < ts.length → part k < ks.length ∧ ks.getD (part k) none = key os ts k) :
    ∀ (o : List Nat) (d : Nat) (s : List At) (f : Nat → List At), Like os s → mayAll s = true → (∀ i, i < ks.length → f i = obK s (ks.getD i none)) → ((Pf ts).Ok d s o ↔ (hs os ts part).whole.Ok d f o)
  | [], d, s, f, _, _, _ => Iff.rfl
  | k :: o, d, s, f, hlk, hm, hf => by
    have hkey : ∀ q, q = k → k < ts.length → key s ts k = ks.getD (part k) none := fun q _ hk => by rw [like_key hlk, (hpart k hk).2]
    constructor
    · rintro ⟨hk, hfr, s', hs', hr⟩
      have hk' : k < ts.length := hk
      have hst : (if goes s (ts.getD k noAc) = true then some (made s (ts.getD k noAc)).1 else none) = some s' := hs'
      have hgo : goes s (ts.getD k noAc) = true := by
        cases hg : goes s (ts.getD k noAc) with
        | true => rfl
        | false => rw [hg] at hst; cases hst
      rw [hgo] at hst
      simp only [if_true, Option.some.injEq] at hst
      have hq : obAt s (ts.getD k noAc) = ks.getD (part k) none := hkey k rfl hk'
      have hfp := hf (part k) (hpart k hk').1
      have hgl : goes (f (part k)) (ts.getD k noAc) = true := by rw [hfp, ← hq, ← goes_local hm]; exact hgo
      refine ⟨hk, hfr, putAt f (part k) (made (f (part k)) (ts.getD k noAc)).1, ?_, ?_⟩
      · show (stp ts (f (part k)) k).map (putAt f (part k)) = _
        unfold stp
        rw [hgl]
        rfl
      · refine (whole_iff hnd hkv hpart o (wth d k) s' _ ?_ ?_ (fun i hi => ?_)).1 hr
        · rw [← hst]; exact hlk.made _
        · rw [← hst]; exact made_may hm _
        · have hloc := (do_local hm (ts.getD k noAc)).2
          rw [hq, hst] at hloc
          unfold putAt
          by_cases e : i = part k
          · rw [if_pos e, hfp, e]
            cases hkq : ks.getD (part k) none with
            | none => exact List.length_eq_zero_iff.1 ((Like.refl (obK s none)).made (ts.getD k noAc)).len
            | some j =>
              rw [hkq] at hloc
              simp only at hloc
              have hjl : j < s.length := by rw [hlk.len]; exact hkv _ _ hkq
              have hlen : (made (obK s (some j)) (ts.getD k noAc)).1.length = 1 := by
                have := (Like.refl (obK s (some j))).made (ts.getD k noAc)
                rw [this.len]; rfl
              show _ = [s'.getD j noAt]
              rw [hloc, A.getD_set_eq _ _ _ hjl]
              match hx : (made (obK s (some j)) (ts.getD k noAc)).1, hlen with
              | [x], _ => rfl
          · rw [if_neg e, hf i hi]
            cases hkq : ks.getD (part k) none with
            | none =>
              rw [hkq] at hloc
              simp only at hloc
              rw [hloc]
            | some j =>
              rw [hkq] at hloc
              simp only at hloc
              cases hki : ks.getD i none with
              | none => rfl
              | some j' =>
                have hne : j ≠ j' := fun e2 => e (hnd i (part k) hi (hpart k hk').1 (by rw [hki, hkq, e2]))
                show [s.getD j' noAt] = [s'.getD j' noAt]
                rw [hloc, A.getD_set_ne _ _ _ hne]
    · rintro ⟨hk, hfr, f', hs', hr⟩
      have hk' : k < ts.length := hk
      have hst : (stp ts (f (part k)) k).map (putAt f (part k)) = some f' := hs'
      have hq : obAt s (ts.getD k noAc) = ks.getD (part k) none := hkey k rfl hk'
      have hfp := hf (part k) (hpart k hk').1
      have hgo : goes (f (part k)) (ts.getD k noAc) = true := by
        unfold stp at hst
        cases hg : goes (f (part k)) (ts.getD k noAc) with
        | true => rfl
        | false => rw [hg] at hst; cases hst
      have hgl : goes s (ts.getD k noAc) = true := by rw [goes_local hm, hq, ← hfp]; exact hgo
      unfold stp at hst
      rw [hgo] at hst
      simp only [if_true, Option.map_some, Option.some.injEq] at hst
      refine ⟨hk, hfr, (made s (ts.getD k noAc)).1, ?_, ?_⟩
      · show stp ts s k = _
        unfold stp
        rw [hgl]
        rfl
      · refine (whole_iff hnd hkv hpart o (wth d k) _ f' (hlk.made _) (made_may hm _) (fun i hi => ?_)).2 hr
        have hloc := (do_local hm (ts.getD k noAc)).2
        rw [hq] at hloc
        rw [← hst]
        unfold putAt
        by_cases e : i = part k
        · rw [if_pos e, hfp, e]
          cases hkq : ks.getD (part k) none with
          | none => exact List.length_eq_zero_iff.1 ((Like.refl (obK s none)).made (ts.getD k noAc)).len
          | some j =>
            rw [hkq] at hloc
            simp only at hloc
            have hjl : j < s.length := by rw [hlk.len]; exact hkv _ _ hkq
            have hlen : (made (obK s (some j)) (ts.getD k noAc)).1.length = 1 := by
              have := (Like.refl (obK s (some j))).made (ts.getD k noAc)
              rw [this.len]; rfl
            show _ = [(made s (ts.getD k noAc)).1.getD j noAt]
            rw [hloc, A.getD_set_eq _ _ _ hjl]
            match hx : (made (obK s (some j)) (ts.getD k noAc)).1, hlen with
            | [x], _ => rfl
        · rw [if_neg e, hf i hi]
          cases hkq : ks.getD (part k) none with
          | none =>
            rw [hkq] at hloc
            simp only at hloc
            rw [hloc]
          | some j =>
            rw [hkq] at hloc
            simp only at hloc
            cases hki : ks.getD i none with
            | none => rfl
            | some j' =>
              have hne : j ≠ j' := fun e2 => e (hnd i (part k) hi (hpart k hk').1 (by rw [hki, hkq, e2]))
              show [s.getD j' noAt] = [(made s (ts.getD k noAc)).1.getD j' noAt]
              rw [hloc, A.getD_set_ne _ _ _ hne]
end H
end Go.Proofs.Ytafdjmccgijmnaa

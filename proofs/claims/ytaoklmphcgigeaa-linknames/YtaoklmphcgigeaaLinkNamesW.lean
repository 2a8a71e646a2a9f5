/- The walk of LinkNames. (Written by gen_names.py.) -/
import Derived.Test.YtaoklmphcgigeaaLinkNamesS
import Derived.Deep.RegionHeld3
namespace Go.Proofs.Ytaoklmphcgigeaa
open Go.RowKit Go.Lib
set_option linter.unusedVariables false
set_option linter.unusedSimpArgs false

theorem some_bytes {a : ByteArray} (h : ¬ a = { data := #[] }) : a.toList.isEmpty = false := by
  have h1 := toList_ne h
  have h2 : ({ data := #[] } : ByteArray).toList = [] := by first | rfl | (decide +kernel) | simp
  rw [h2] at h1
  cases e : a.toList with
  | nil => rw [e] at h1; cases h1
  | cons x l => rfl
theorem renS_old {old new : ByteArray} {y : Sym} (h : y.name = old) : renS old new y = ⟨new, y.kind, y.pos⟩ := by unfold renS ren; rw [if_pos h]
theorem renS_not {old new : ByteArray} {y : Sym} (h : ¬ y.name = old) : renS old new y = y := by unfold renS ren; rw [if_neg h]
theorem renR_old {old new : ByteArray} {y : Rel} (h : y.name = old) : renR old new y = ⟨y.pos, y.kind, new, y.add⟩ := by unfold renR ren; rw [if_pos h]
theorem renR_not {old new : ByteArray} {y : Rel} (h : ¬ y.name = old) : renR old new y = y := by unfold renR ren; rw [if_neg h]
theorem set_self {α : Type} {l : List α} {i : Nat} {x : α} (h : l[i]? = some x) : l.set i x = l := by
  obtain ⟨hk, e⟩ := List.getElem?_eq_some_iff.1 h
  rw [← e]
  simp
theorem set_at {α : Type} {l : List α} {i : Nat} {x y : α} (h : l[i]? = some x) : (l.set i y)[i]? = some y := by
  have hk := (List.getElem?_eq_some_iff.1 h).1
  rw [List.getElem?_set_self hk]
theorem FitO.ren {old new : ByteArray} {o : ObjD} (h : FitO o) (hn : new.size ≤ maxLen) : FitO (renO old new o) := by
  have hr : ∀ a : ByteArray, a.size ≤ maxLen → (Go.Proofs.Ytaoklmphcgigeaa.ren old new a).size ≤ maxLen := fun a ha => by unfold Go.Proofs.Ytaoklmphcgigeaa.ren; split <;> assumption
  refine ⟨h.code, h.data, fun s hs => ?_, fun r hs => ?_⟩
  · obtain ⟨y, hy, rfl⟩ := List.mem_map.1 hs
    have := h.syms y hy
    exact ⟨hr _ this.1, this.2⟩
  · obtain ⟨y, hy, rfl⟩ := List.mem_map.1 hs
    have := h.rels y hy
    exact ⟨hr _ this.1, this.2⟩

set_option maxRecDepth 100000 in
set_option maxHeartbeats 8000000 in
theorem names_any {w : World} {a : Option Addr} {l c : Nat} {os : List ObjD} (h : ObjsV w a l c os) (hL : ∀ o ∈ os, Len 140737488351232 o) {old new : ByteArray} (ho : old.size ≤ maxLen) (hn : new.size ≤ maxLen) :
    Calls Try.prog 7 #[.slice a l c, .string old, .string new] w fun e w' => e = .returned (.bool true) ∧ Below w.heap.size w w' := by
  have HV : Hid _ := h
  have hcnt := h.count
  have HFT : Hid (∀ o ∈ os, FitO o) := fun o ho => by
    obtain ⟨pl, rfl, hP⟩ := objs_p h
    obtain ⟨p, hp, rfl⟩ := List.mem_map.1 ho
    exact (hP.ov p hp).fit
  have HLM : Hid (∀ p ∈ os, Len 140737488355328 p) := fun p hp => by
    have h1 := hL p hp
    unfold Len at *
    omega
  have HHO : Hid _ := ho
  have HHN : Hid _ := hn
  have hmx : maxLen = 9223372036854775807 := rfl
  clear h hL
  go_enter Try.func7, Try.ntmps7
  go_wp2_with fail
  refine (small_any HV.out HLM.out).mono ?_
  rintro e x1 ⟨rfl, b1⟩
  cases hsm : smallB os with
  | false =>
    clear hsm
    go_wp2_with (go_at_call 10; refine (live_any _).mono ?_; rintro e y ⟨rfl, hb⟩)
    go_ret
    exact ⟨rfl, b1.trans (hb.mono b1.size)⟩
  | true =>
    have hl20 : l ≤ 20 := by have := (smallB_each hsm).1; omega
    have HS3 : Hid _ := (smallB_each hsm).2
    clear hsm
    by_cases hn0 : new = { data := #[] }
    · subst hn0
      go_wp2_with (go_at_call 10; refine (live_any _).mono ?_; rintro e y ⟨rfl, hb⟩)
      go_ret
      exact ⟨rfl, b1.trans (hb.mono b1.size)⟩
    have hnn := some_bytes hn0
    by_cases hn28 : (28 : Int) < new.size
    · go_wp2_with (go_at_call 10; refine (live_any _).mono ?_; rintro e y ⟨rfl, hb⟩)
      go_ret
      exact ⟨rfl, b1.trans (hb.mono b1.size)⟩
    by_cases ho0 : old = { data := #[] }
    · subst ho0
      go_wp2_with (go_at_call 10; refine (live_any _).mono ?_; rintro e y ⟨rfl, hb⟩)
      go_ret
      exact ⟨rfl, b1.trans (hb.mono b1.size)⟩
    have hoo := some_bytes ho0
    go_wp2_with fail
    refine (copies_any (HV.out.below b1) hl20 HLM.out).mono ?_
    rintro e x2 ⟨v, pl, rfl, hpl, hbs⟩
    have hpn : pl.length = l := by rw [← hcnt, ← hpl, List.length_map]
    have hOS : OwnSt x1 x2 v os := ⟨pl, hpl, hbs⟩
    have hrow := hbs.own 0 _ rfl
    simp only [hpn] at hrow
    obtain ⟨e0, f0, hv⟩ := own_slice hrow
    have HG : Hid (0 < l → ∃ g, e0 = some ⟨g, 0, none⟩) := fun h0 => by
      obtain ⟨g, cap, e, -⟩ := hrow.form h0
      rw [hv] at e
      simp only [Value.slice.injEq] at e
      exact ⟨g, e.1⟩
    subst hv
    have HOS : Hid _ := hOS
    clear hOS hbs hpl hrow hpn
    go_wp2_with fail
    go_loopg [8] l (fun r iv wq => ∃ (i : Nat), iv = .int .i64 i ∧ i ≤ l ∧ l - i ≤ r ∧ Hid (OwnSt x1 wq (.slice e0 l f0) (upto (renO old new) os i)) ∧ Hid (∀ j d, j < i → os[j]? = some d → fresh new d))
    case atStart => exact ⟨0, rfl, Nat.zero_le _, by omega, (by rw [upto_none]; exact HOS.out : OwnSt x1 x2 (.slice e0 l f0) (upto (renO old new) os 0)), (fun j d hj => by omega : ∀ j d, j < 0 → os[j]? = some d → fresh new d)⟩
    case round =>
      obtain ⟨i, rfl, hi, hr, HO, HF⟩ := hrel
      have hlow : Below x1.heap.size x1 wr := HO.out.low
      have bw3 : Below w.heap.size w wr := b1.trans (hlow.mono b1.size)
      by_cases hil : i < l
      · obtain ⟨g, hg⟩ := HG.out (by omega)
        subst hg
        obtain ⟨d, hd⟩ : ∃ d, os[i]? = some d := ⟨os[i]'(by omega), by simp⟩
        have hdm := HS3.out d (List.mem_of_getElem? hd)
        obtain ⟨cur, hcur⟩ : ∃ cur, upto (renO old new) os i = cur := ⟨_, rfl⟩
        have hci : cur[i]? = some d := by rw [← hcur]; exact upto_at hd
        have HCN : Hid (cur.set i (renO old new d) = upto (renO old new) os (i + 1)) := by show _ = _; rw [← hcur]; exact upto_set hd
        rw [hcur] at HO
        have HCI : Hid _ := hci
        have HD : Hid _ := hd
        have hii : (i : Int) < l := by omega
        have hin : 0 ≤ (i : Int) := by omega
        obtain ⟨n2, hn2⟩ : ∃ n2, d.syms.length = n2 := ⟨_, rfl⟩
        obtain ⟨n3, hn3⟩ : ∃ n3, d.rels.length = n3 := ⟨_, rfl⟩
        rw [hn2, hn3] at hdm
        have HO2 : Hid (OwnSt x1 wr (.slice (some ⟨g, 0, none⟩) l f0) (cur.set i ⟨d.code, d.data, upto (renS old new) d.syms 0, d.rels⟩)) := by
          rw [upto_none]
          show OwnSt _ _ _ _
          rw [set_self hci]
          exact HO.out
        clear hcur hci hd
        generalize wr = U at *
        go_wp2_with fail
        go_loopg [9] n2 (fun r kv wq => ∃ (k : Nat), kv = .int .i64 k ∧ k ≤ n2 ∧ n2 - k ≤ r ∧ Hid (OwnSt x1 wq (.slice (some ⟨g, 0, none⟩) l f0) (cur.set i ⟨d.code, d.data, upto (renS old new) d.syms k, d.rels⟩)) ∧ Hid (∀ j y, j < k → d.syms[j]? = some y → y.name ≠ new))
        case atStart => exact ⟨0, rfl, Nat.zero_le _, by omega, HO2.out, (fun j y hj => by omega : ∀ j y, j < 0 → d.syms[j]? = some y → y.name ≠ new)⟩
        case round =>
          obtain ⟨k, rfl, hk, hr2, HOk, HFk⟩ := hrel
          obtain ⟨s, hsee⟩ := HOk.out.see (set_at HCI.out)
          have q2 := hsee.c2
          have hsl2 := hsee.n2
          simp only [upto_len, hn2] at hsl2
          rw [hsl2] at q2
          by_cases hkl : k < n2
          · obtain ⟨y, hy⟩ : ∃ y, d.syms[k]? = some y := ⟨d.syms[k]'(by omega), by simp⟩
            obtain ⟨sb, hsb, n0, fz0, hset⟩ := hsee.sym k y (upto_at hy)
            rw [hsb] at q2
            have HST : Hid _ := hset
            have HY : Hid _ := hy
            have hkk : (k : Int) < n2 := by omega
            have hkn : 0 ≤ (k : Int) := by omega
            have bw4 : Below w.heap.size w wr := b1.trans (HOk.out.low.mono b1.size)
            clear hset hsee hy hsb hsl2
            by_cases h1 : y.name = new
            · rw [h1] at n0
              go_wp2_with (go_at_call 10; refine (live_any _).mono ?_; rintro e y ⟨rfl, hb⟩)
              go_ret
              exact ⟨rfl, bw4.trans (hb.mono bw4.size)⟩
            · have h1b := toList_ne h1
              by_cases h2 : y.name = old
              · have HON : Hid (OwnSt x1 (wr.setCell ⟨sb, k * 3, none⟩ (.string new)) (.slice (some ⟨g, 0, none⟩) l f0) (cur.set i ⟨d.code, d.data, upto (renS old new) d.syms (k + 1), d.rels⟩)) := by
                  have := HST.out new
                  rw [List.set_set, ← renS_old h2, upto_set HY.out] at this
                  exact this
                have HFn : Hid (∀ j y, j < k + 1 → d.syms[j]? = some y → y.name ≠ new) := fun j u hj hu => by
                  by_cases e : j = k
                  · subst e; rw [HY.out] at hu; cases hu; exact h1
                  · exact HFk.out j u (by omega) hu
                rw [h2] at n0 h1b
                clear HST HY
                go_wp2_with fail
                go_roundg (n2 - (k + 1))
                case measure => omega
                case rel => exact ⟨k + 1, by go_num, by omega, Nat.le_refl _, HON.out, HFn.out⟩
              · have h2b := toList_ne h2
                have HON : Hid (OwnSt x1 wr (.slice (some ⟨g, 0, none⟩) l f0) (cur.set i ⟨d.code, d.data, upto (renS old new) d.syms (k + 1), d.rels⟩)) := by
                  show OwnSt _ _ _ _
                  rw [← upto_same HY.out (renS_not h2)]
                  exact HOk.out
                have HFn : Hid (∀ j y, j < k + 1 → d.syms[j]? = some y → y.name ≠ new) := fun j u hj hu => by
                  by_cases e : j = k
                  · subst e; rw [HY.out] at hu; cases hu; exact h1
                  · exact HFk.out j u (by omega) hu
                clear HST HY
                go_wp2_with fail
                go_roundg (n2 - (k + 1))
                case measure => omega
                case rel => exact ⟨k + 1, by go_num, by omega, Nat.le_refl _, HON.out, HFn.out⟩
          · obtain rfl : k = n2 := by omega
            have hkk : ¬ (k : Int) < k := by omega
            have HO3 : Hid (OwnSt x1 wr (.slice (some ⟨g, 0, none⟩) l f0) (cur.set i ⟨d.code, d.data, d.syms.map (renS old new), upto (renR old new) d.rels 0⟩)) := by
              have := HOk.out
              rw [← hn2, upto_all] at this
              rw [upto_none]
              exact this
            have HFS : Hid (∀ y ∈ d.syms, y.name ≠ new) := fun y hy => by
              obtain ⟨j, hj, rfl⟩ := List.getElem_of_mem hy
              exact HFk.out j _ (by omega) (by simp [hj])
            clear HOk HFk hsee hsl2
            go_wp2_with fail
            clear q2
            generalize wr = V at *
            go_loopg [10] n3 (fun r kv wq => ∃ (k : Nat), kv = .int .i64 k ∧ k ≤ n3 ∧ n3 - k ≤ r ∧ Hid (OwnSt x1 wq (.slice (some ⟨g, 0, none⟩) l f0) (cur.set i ⟨d.code, d.data, d.syms.map (renS old new), upto (renR old new) d.rels k⟩)) ∧ Hid (∀ j y, j < k → d.rels[j]? = some y → y.name ≠ new))
            case atStart => exact ⟨0, rfl, Nat.zero_le _, by omega, HO3.out, (fun j y hj => by omega : ∀ j y, j < 0 → d.rels[j]? = some y → y.name ≠ new)⟩
            case round =>
              obtain ⟨q, rfl, hq, hr3, HOq, HFq⟩ := hrel
              obtain ⟨s, hsee⟩ := HOq.out.see (set_at HCI.out)
              have q3 := hsee.c3
              have hsl3 := hsee.n3
              simp only [upto_len, hn3] at hsl3
              rw [hsl3] at q3
              by_cases hql : q < n3
              · obtain ⟨y, hy⟩ : ∃ y, d.rels[q]? = some y := ⟨d.rels[q]'(by omega), by simp⟩
                obtain ⟨sb, hsb, n0, fz0, hset⟩ := hsee.rel q y (upto_at hy)
                rw [hsb] at q3
                have HST : Hid _ := hset
                have HY : Hid _ := hy
                have hqq : (q : Int) < n3 := by omega
                have hqn : 0 ≤ (q : Int) := by omega
                have bw4 : Below w.heap.size w wr := b1.trans (HOq.out.low.mono b1.size)
                clear hset hsee hy hsb hsl3
                by_cases h1 : y.name = new
                · rw [h1] at n0
                  go_wp2_with (go_at_call 10; refine (live_any _).mono ?_; rintro e y ⟨rfl, hb⟩)
                  go_ret
                  exact ⟨rfl, bw4.trans (hb.mono bw4.size)⟩
                · have h1b := toList_ne h1
                  by_cases h2 : y.name = old
                  · have HON : Hid (OwnSt x1 (wr.setCell ⟨sb, q * 4 + 2, none⟩ (.string new)) (.slice (some ⟨g, 0, none⟩) l f0) (cur.set i ⟨d.code, d.data, d.syms.map (renS old new), upto (renR old new) d.rels (q + 1)⟩)) := by
                      have := HST.out new
                      rw [List.set_set, ← renR_old h2, upto_set HY.out] at this
                      exact this
                    have HFn : Hid (∀ j y, j < q + 1 → d.rels[j]? = some y → y.name ≠ new) := fun j u hj hu => by
                      by_cases e : j = q
                      · subst e; rw [HY.out] at hu; cases hu; exact h1
                      · exact HFq.out j u (by omega) hu
                    rw [h2] at n0 h1b
                    clear HST HY
                    go_wp2_with fail
                    go_roundg (n3 - (q + 1))
                    case measure => omega
                    case rel => exact ⟨q + 1, by go_num, by omega, Nat.le_refl _, HON.out, HFn.out⟩
                  · have h2b := toList_ne h2
                    have HON : Hid (OwnSt x1 wr (.slice (some ⟨g, 0, none⟩) l f0) (cur.set i ⟨d.code, d.data, d.syms.map (renS old new), upto (renR old new) d.rels (q + 1)⟩)) := by
                      show OwnSt _ _ _ _
                      rw [← upto_same HY.out (renR_not h2)]
                      exact HOq.out
                    have HFn : Hid (∀ j y, j < q + 1 → d.rels[j]? = some y → y.name ≠ new) := fun j u hj hu => by
                      by_cases e : j = q
                      · subst e; rw [HY.out] at hu; cases hu; exact h1
                      · exact HFq.out j u (by omega) hu
                    clear HST HY
                    go_wp2_with fail
                    go_roundg (n3 - (q + 1))
                    case measure => omega
                    case rel => exact ⟨q + 1, by go_num, by omega, Nat.le_refl _, HON.out, HFn.out⟩
              · obtain rfl : q = n3 := by omega
                have hqq : ¬ (q : Int) < q := by omega
                have HO4 : Hid (OwnSt x1 wr (.slice (some ⟨g, 0, none⟩) l f0) (upto (renO old new) os (i + 1))) := by
                  have := HOq.out
                  rw [← hn3, upto_all] at this
                  show OwnSt _ _ _ _
                  rw [← HCN.out]
                  exact this
                have HF4 : Hid (∀ j d, j < i + 1 → os[j]? = some d → fresh new d) := fun j u hj hu => by
                  by_cases e : j = i
                  · subst e
                    rw [HD.out] at hu
                    cases hu
                    refine ⟨HFS.out, fun y hy => ?_⟩
                    obtain ⟨p, hp, rfl⟩ := List.getElem_of_mem hy
                    exact HFq.out p _ (by omega) (by simp [hp])
                  · exact HF.out j u (by omega) hu
                clear HOq HFq hsee hsl3
                go_wp2_with fail
                go_roundg (l - (i + 1))
                case measure => omega
                case rel => exact ⟨i + 1, by go_num, by omega, Nat.le_refl _, HO4.out, HF4.out⟩
      · obtain rfl : i = l := by omega
        have hii : ¬ (i : Int) < i := by omega
        generalize wr = U at *
        have HOW : Hid (OwnSt x1 U (.slice e0 i f0) (os.map (renO old new))) := by
          have := HO.out
          rw [← hcnt, upto_all] at this
          rw [← hcnt]
          exact this
        have HFR : Hid (∀ o ∈ os, fresh new o) := fun o ho => by
          obtain ⟨j, hj, rfl⟩ := List.getElem_of_mem ho
          exact HF.out j _ (by omega) (by simp [hj])
        clear HO HF
        by_cases ho28 : (28 : Int) < old.size
        · go_wp2_with (go_at_call 10; refine (live_any _).mono ?_; rintro e y ⟨rfl, hb⟩)
          go_ret
          exact ⟨rfl, bw3.trans (hb.mono bw3.size)⟩
        have hok1 : nameOk old = true := by
          unfold nameOk
          have : old.size ≠ 0 := fun e => ho0 (bytes_ext (List.eq_nil_of_length_eq_zero e))
          simp
          omega
        have hok2 : nameOk new = true := by
          unfold nameOk
          have : new.size ≠ 0 := fun e => hn0 (bytes_ext (List.eq_nil_of_length_eq_zero e))
          simp
          omega
        obtain ⟨k1, k2, k3, k4⟩ := link_ren hok1 hok2 HFR.out
        obtain ⟨ot, hot⟩ : ∃ ot, os.map (renO old new) = ot := ⟨_, rfl⟩
        have hotl : ot.length = i := by rw [← hot, List.length_map]; exact hcnt
        obtain ⟨e0', f0', he, hVo⟩ := HOW.out.objs (fun p hp => by
          obtain ⟨q, hq, rfl⟩ := List.mem_map.1 hp
          exact (HFT.out q hq).ren HHN.out) (by rw [List.length_map]; omega)
        simp only [Value.slice.injEq] at he
        obtain ⟨rfl, -, rfl⟩ := he
        rw [hot] at hVo k1 k2 k3 k4
        rw [hotl] at hVo
        have HVo : Hid (ObjsV U e0 i f0 ot) := hVo
        have HK4 : Hid _ := k4
        clear hVo hok1 hok2 HOW k4 hot
        go_wp2_with fail
        refine (link_any (HV.out.below bw3)).mono ?_
        rintro e x4 ⟨v1, v2, rfl, hR4⟩
        obtain ⟨p1, q1, p2, q2, rfl, rfl, hI4, hS4⟩ := imgR_view hR4 (link_fits HV.out).1 (link_fits HV.out).2
        have hb4 := hR4.low
        clear hR4
        obtain ⟨CA, hCA⟩ : ∃ CA : ByteArray, (⟨(linkC os).toArray⟩ : ByteArray) = CA := ⟨_, rfl⟩
        obtain ⟨EA, hEA⟩ : ∃ EA, linkE os = EA := ⟨_, rfl⟩
        obtain ⟨na, hna⟩ : ∃ na, (linkD os).length = na := ⟨_, rfl⟩
        obtain ⟨ma, hma⟩ : ∃ ma, (linkS os).length = ma := ⟨_, rfl⟩
        rw [hma] at hS4
        rw [hna] at hI4
        rw [hCA, hEA, hna, hma]
        have HS4 : Hid (SymsV x4 p2 ma q2 (linkS os)) := hS4
        have HI4 : Hid (IntsV x4 p1 na q1 (linkD os)) := hI4
        clear hS4 hI4
        obtain ⟨Y4, hY4⟩ : ∃ Y, x4.alloc (.cells #[.string CA, .slice p1 na q1, .slice p2 ma q2] 29) = Y := ⟨_, rfl⟩
        have bY4 : Below x4.heap.size x4 Y4 := by subst hY4; exact bl_one _ _
        have HA4 : Hid (∀ y : World, Below Y4.heap.size Y4 y → y.cell? ⟨x4.heap.size, 0, none⟩ = some (.string CA) ∧ y.cell? ⟨x4.heap.size, 1, none⟩ = some (.slice p1 na q1) ∧ y.cell? ⟨x4.heap.size, 2, none⟩ = some (.slice p2 ma q2)) := fun y hb => by
          refine ⟨cell_thru hb ?_, cell_thru hb ?_, cell_thru hb ?_⟩
          all_goals
            subst hY4
            exact cell_last rfl rfl
        have b34 : Below U.heap.size U Y4 := hb4.trans (bY4.mono hb4.size)
        have bw4 : Below w.heap.size w Y4 := bw3.trans (b34.mono bw3.size)
        have HV4 : Hid (ObjsV Y4 e0 i f0 ot) := HVo.out.below b34
        go_wp2_with fail
        refine (link_any HV4.out).mono ?_
        rintro e x5 ⟨v1, v2, rfl, hR5⟩
        obtain ⟨r1, t1, r2, t2, rfl, rfl, hI5, hS5⟩ := imgR_view hR5 (link_fits HV4.out).1 (link_fits HV4.out).2
        have hb5 := hR5.low
        clear hR5
        have k5 : (linkS ot).length = ma := by rw [HK4.out, List.length_map]; exact hma
        rw [k5] at hS5
        rw [k3, hna] at hI5
        rw [k1, k2, k3, hCA, hEA, hna, k5]
        have HS5 : Hid (SymsV x5 r2 ma t2 (linkS ot)) := hS5
        have HI5 : Hid (IntsV x5 r1 na t1 (linkD os)) := hI5
        clear hS5 hI5 k1 k2 k3
        obtain ⟨Y5, hY5⟩ : ∃ Y, x5.alloc (.cells #[.string CA, .slice r1 na t1, .slice r2 ma t2] 29) = Y := ⟨_, rfl⟩
        have bY5 : Below x5.heap.size x5 Y5 := by subst hY5; exact bl_one _ _
        have HA5 : Hid (∀ y : World, Below Y5.heap.size Y5 y → y.cell? ⟨x5.heap.size, 0, none⟩ = some (.string CA) ∧ y.cell? ⟨x5.heap.size, 1, none⟩ = some (.slice r1 na t1) ∧ y.cell? ⟨x5.heap.size, 2, none⟩ = some (.slice r2 ma t2)) := fun y hb => by
          refine ⟨cell_thru hb ?_, cell_thru hb ?_, cell_thru hb ?_⟩
          all_goals
            subst hY5
            exact cell_last rfl rfl
        have b45 : Below Y4.heap.size Y4 Y5 := hb5.trans (bY5.mono hb5.size)
        have bw5 : Below w.heap.size w Y5 := bw4.trans (b45.mono bw4.size)
        have hm5 : ma ≤ 1000 ∧ na ≤ 4096 := by
          by_cases h0 : linkE os = 0
          · have := link_sizes h0
            omega
          · have := link_bad h0
            rw [this.2.2] at hma
            rw [this.2.1] at hna
            simp at hma hna
            omega
        have g0 := (HA4.out Y5 b45).1
        have g1 := (HA4.out Y5 b45).2.1
        have g3 := (HA5.out Y5 (Below.refl _ _)).1
        have g4 := (HA5.out Y5 (Below.refl _ _)).2.1
        have HD1 : Hid (IntsV Y5 p1 na q1 (linkD os)) := by
          have h1 := HI4.out.below bY4
          exact h1.below b45
        have HD2 : Hid (IntsV Y5 r1 na t1 (linkD os)) := HI5.out.below bY5
        have hna' : na ≤ maxLen := by omega
        clear hEA hCA hna
        go_wp2_with (go_at_call 16; refine (samedata_any HD1.out HD2.out hna' true (by simp)).mono ?_; rintro e y1 ⟨rfl, hb1⟩; have j2 := (HA4.out y1 (b45.trans (hb1.mono b45.size))).2.2; have j5 := (HA5.out y1 hb1).2.2)
        have b56 : Below Y5.heap.size Y5 y1 := hb1
        have bw6 : Below w.heap.size w y1 := bw5.trans (hb1.mono bw5.size)
        clear hY5 g0 g1 g3 g4 j2 j5 hb1
        go_loopg [15] ma (fun r jv wq => ∃ (j : Nat), jv = .int .i64 j ∧ j ≤ ma ∧ ma - j ≤ r ∧ Hid (Below y1.heap.size y1 wq))
        case atStart => exact ⟨0, rfl, Nat.zero_le _, by omega, Below.refl _ _⟩
        case round =>
          obtain ⟨j, rfl, hj, hr2, HB⟩ := hrel
          have HB5 : Hid (Below Y5.heap.size Y5 wr) := b56.trans (HB.out.mono b56.size)
          have HB4 : Hid (Below Y4.heap.size Y4 wr) := b45.trans (HB5.out.mono b45.size)
          have e2 := (HA4.out wr HB4.out).2.2
          have e5 := (HA5.out wr HB5.out).2.2
          have hlw : Below w.heap.size w wr := bw6.trans (HB.out.mono bw6.size)
          by_cases hjl : j < ma
          · have hjj : (j : Int) < ma := by omega
            have hjn : 0 ≤ (j : Int) := by omega
            rcases HS4.out.cells with hx | ⟨sb, so, hA4, hc4⟩
            · omega
            rcases HS5.out.cells with hx | ⟨tb, tf, hA5, hc5⟩
            · omega
            obtain ⟨n0, n1, n2⟩ := hc4 j hjl
            obtain ⟨m0, m1, m2⟩ := hc5 j hjl
            have hren : (linkS ot).getD j noSym = renS old new ((linkS os).getD j noSym) := by rw [HK4.out]; exact getD_map (by omega)
            rw [hren] at m0 m1 m2
            obtain ⟨y, hy⟩ : ∃ y, (linkS os).getD j noSym = y := ⟨_, rfl⟩
            rw [hy] at n0 n1 n2 m0 m1 m2
            have n0 := cell_thru HB4.out (cell_thru bY4 n0)
            have n1 := cell_thru HB4.out (cell_thru bY4 n1)
            have n2 := cell_thru HB4.out (cell_thru bY4 n2)
            have m0 := cell_thru HB5.out (cell_thru bY5 m0)
            have m1 := cell_thru HB5.out (cell_thru bY5 m1)
            have m2 := cell_thru HB5.out (cell_thru bY5 m2)
            obtain ⟨an, ak, ap⟩ := y
            subst hA4 hA5
            have HBd : Hid (Below y1.heap.size y1 wr.drew) := HB.out.drew
            clear hc4 hc5 hy hren
            by_cases hnm : an = old
            · rw [renS_old (y := ⟨an, ak, ap⟩) hnm] at m0 m1 m2
              simp only at n0 n1 n2 m0 m1 m2
              subst hnm
              by_cases hon : an = new
              · subst hon
                go_wp2_with fail
                go_region
                go_wp2_with fail
                go_roundg (ma - (j + 1))
                case measure => omega
                case rel => exact ⟨j + 1, by go_num, by omega, Nat.le_refl _, HBd.out⟩
              · have hne := toList_ne hon
                go_wp2_with fail
                go_region
                go_wp2_with fail
                go_roundg (ma - (j + 1))
                case measure => omega
                case rel => exact ⟨j + 1, by go_num, by omega, Nat.le_refl _, HBd.out⟩
            · rw [renS_not (y := ⟨an, ak, ap⟩) hnm] at m0 m1 m2
              simp only at n0 n1 n2 m0 m1 m2
              go_wp2_with fail
              go_region
              go_wp2_with fail
              go_roundg (ma - (j + 1))
              case measure => omega
              case rel => exact ⟨j + 1, by go_num, by omega, Nat.le_refl _, HBd.out⟩
          · obtain rfl : j = ma := by omega
            have hjj : ¬ (j : Int) < j := by omega
            go_wp2_with (go_at_call 10; refine (live_any _).mono ?_; rintro e y ⟨rfl, hb⟩)
            go_ret
            exact ⟨rfl, hlw.trans (hb.mono hlw.size)⟩
end Go.Proofs.Ytaoklmphcgigeaa

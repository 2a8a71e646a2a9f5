/- A thread's step; a pick. -/
import Derived.Test.YtdcdmlboilojmabDoorQAo
import Derived.Test.YtdcdmlboilojmabDoorQAm
import Derived.Deep.OwnRows
namespace Go.Proofs.YtdcdmlboilojmabDoor
open Go.RowKit Go.Maps
set_option linter.unusedVariables false
set_option linter.unusedSimpArgs false

theorem T.len_setC (M : T.Mach) (k : Nat) (c : S.C) : (T.setC M k c).ts.length = M.ts.length := T.len_put _ _ _ _
theorem T.doIns_len (M : T.Mach) (k : Nat) : (T.doIns M k).ts.length = M.ts.length := by
  unfold T.doIns
  repeat' split
  · exact (T.len_setC _ _ _).trans (T.ansM_len _ _ _)
  · exact T.len_setC _ _ _
  · exact T.len_setC _ _ _
theorem T.es_put (M : T.Mach) (k : Nat) (m : T.Memo) (h : T.Th) : (M.put k m h).es = M.es := rfl
theorem T.es_leave (M : T.Mach) (k : Nat) : (T.leave M k).es = M.es := by
  unfold T.leave
  split <;> rfl
theorem T.es_full (M : T.Mach) (k : Nat) : (T.full M k).es = M.es := by
  unfold T.full
  split
  · exact T.es_leave M k
  · rfl
theorem T.ansM_es (M : T.Mach) (k : Nat) (q : S.Q) : (T.ansM M k q).es = if q.k = 6 then M.es ++ [((k : Int), 1, q.v)] else M.es := by
  unfold T.ansM
  by_cases h6 : q.k = 6
  · rw [if_pos h6, if_neg (by omega), if_neg (by omega), if_neg (by omega), if_neg (by omega), if_pos h6]
    rfl
  · rw [if_neg h6]
    cases M.mem q.a with
    | none =>
      simp only [T.has]
      repeat' split
      all_goals first | rfl | omega
    | some v =>
      simp only [T.has]
      repeat' split
      all_goals first | rfl | omega | exact T.es_full M k
theorem T.doIns_es (M : T.Mach) (k : Nat) : (T.doIns M k).es.length ≤ M.es.length + 1 := by
  unfold T.doIns
  repeat' split
  · show (T.ansM M k _).es.length ≤ _
    rw [T.ansM_es]
    split
    · simp
    · omega
  · show M.es.length ≤ _; omega
  · show M.es.length ≤ _; omega

set_option maxRecDepth 100000 in
set_option maxHeartbeats 4000000 in
theorem goon_no {B : Nat} {w : World} {b : Nat} {M : T.Mach} {K : Nat} {t : Nat → Nat} {bm g cap : Nat} {ev : Value} {us : List Value} (h : TV B w b M K t bm g cap ev us) {k p : Nat} (hk : k < M.ts.length) (hq : p = k * 13) (hs : ¬ (M.th k).c.st = 0) :
    Calls Tryd.prog 18 #[.pointer (some ⟨b, 0, none⟩), .pointer (some ⟨g, p, none⟩)] w fun e w' => e = .returned (.bool false) ∧ w' = w := by
  obtain ⟨u, hu⟩ := h.u hk
  have d9 : w.cell? ⟨g, p + 9, none⟩ = some (.int .i64 (M.th k).c.st) := by rw [hq]; exact h.cell hk hu 9 _ rfl
  clear h hq hu
  go_enter Tryd.func18, Tryd.ntmps18
  go_wp2
  go_ret
  exact ⟨rfl, rfl⟩

set_option maxRecDepth 100000 in
set_option maxHeartbeats 4000000 in
theorem goon_yes {B : Nat} {w : World} {b : Nat} {M : T.Mach} {K : Nat} {t : Nat → Nat} {bm g cap : Nat} {ev : Value} {us : List Value} (h : TV B w b M K t bm g cap ev us) {k p : Nat} (hk : k < M.ts.length) (hq : p = k * 13) (hok : WsOk (M.th k).ws) (h8 : (M.th k).ws.length ≤ 8) (hes : M.es.length ≤ 900000) (hK : K + 3000 < maxLen) (ht : Tab w) (hB2 : 2 ≤ B) (hcode : M.code.size ≤ 65536) (hs : (M.th k).c.st = 0) :
    Calls Tryd.prog 18 #[.pointer (some ⟨b, 0, none⟩), .pointer (some ⟨g, p, none⟩)] w fun e w' => e = .returned (.bool true) ∧ Gone B w w' b (T.seen (T.doIns M k) k) (K + 11) t bm g cap := by
  obtain ⟨u, hu⟩ := h.u hk
  have d9 : w.cell? ⟨g, p + 9, none⟩ = some (.int .i64 0) := by rw [hq, ← hs]; exact h.cell hk hu 9 _ rfl
  have h0 := doins_any h hk hq hok h8 (by omega) hK ht hB2 hcode
  have hes2 := T.doIns_es M k
  have hk2 : k < (T.doIns M k).ts.length := by rw [T.doIns_len]; exact hk
  obtain ⟨M2, hM2⟩ : ∃ M2, T.doIns M k = M2 := ⟨_, rfl⟩
  rw [hM2] at h0 hes2 hk2
  rw [hM2]
  have HI : Hid (Calls Tryd.prog 26 #[.pointer (some ⟨b, 0, none⟩), .pointer (some ⟨g, p, none⟩)] w fun e w' => e = .returned (.tuple #[]) ∧ Gone B w w' b M2 (K + 11) t bm g cap) := h0
  have HQP : Hid (p = k * 13) := hq
  clear h hq hu h0 hM2 hok hs
  go_enter Tryd.func18, Tryd.ntmps18
  go_wp2_with fail
  refine HI.out.mono ?_
  rintro e y1 ⟨rfl, t1, ev1, us1, hv1, hs1⟩
  obtain ⟨u1, hu1⟩ := hv1.u hk2
  have e9 : y1.cell? ⟨g, p + 9, none⟩ = some (.int .i64 (M2.th k).c.st) := by rw [HQP.out]; exact hv1.cell hk2 hu1 9 _ rfl
  have e10 : y1.cell? ⟨g, p + 10, none⟩ = some (.int .i64 (M2.th k).c.tr) := by rw [HQP.out]; exact hv1.cell hk2 hu1 10 _ rfl
  have HV1 : Hid (TV B y1 b M2 (K + 11) t1 bm g cap ev1 us1) := hv1
  have HS1 : Hid (St t t1 w y1) := hs1
  have HSE : Hid (∀ a n, Calls Tryd.prog 27 #[.pointer (some ⟨b, 0, none⟩), .pointer (some ⟨g, p, none⟩), .int .i64 a, .int .i64 n] y1 fun e w' => e = .returned (.tuple #[]) ∧ Gone B y1 w' b (M2.see k a n) (K + 11) t1 bm g cap) := fun a n => by
    refine (see_any hv1 hk2 HQP.out a n (by omega)).mono ?_
    rintro e w' ⟨rfl, t', ev', h1, h2⟩
    exact ⟨rfl, t', ev', us1, h1, h2⟩
  have HSN : Hid (∀ z, (M2.th k).c.st = z → T.seen M2 k = if z = 1 then M2.see k 2 0 else if z = 2 then M2.see k 3 (M2.th k).c.tr else M2) := fun z hz => by unfold T.seen; rw [hz]
  obtain ⟨s1, hs1'⟩ : ∃ s1, (M2.th k).c.st = s1 := ⟨_, rfl⟩
  obtain ⟨r1, hr1'⟩ : ∃ r1, (M2.th k).c.tr = r1 := ⟨_, rfl⟩
  have h2 := HSN.out s1 hs1'
  rw [hr1'] at h2
  rw [hs1'] at e9
  rw [hr1'] at e10
  have HSN2 : Hid (T.seen M2 k = if s1 = 1 then M2.see k 2 0 else if s1 = 2 then M2.see k 3 r1 else M2) := h2
  clear hv1 hs1 hu1 d9 HSN hs1' hr1' h2
  by_cases e1 : s1 = 1
  · subst e1
    go_wp2_with fail
    refine (HSE.out 2 0).mono ?_
    rintro e y2 ⟨rfl, t2, ev2, us2, hv2, hs2⟩
    have HV2 : Hid (TV B y2 b (M2.see k 2 0) (K + 11) t2 bm g cap ev2 us2) := hv2
    have HS2 : Hid (St t1 t2 y1 y2) := hs2
    clear hv2 hs2
    go_wp2
    go_ret
    refine ⟨rfl, t2, ev2, us2, ?_, HS1.out.trans HS2.out⟩
    rw [HSN2.out, if_pos trivial]
    exact HV2.out
  · by_cases e2 : s1 = 2
    · subst e2
      go_wp2_with fail
      refine (HSE.out 3 r1).mono ?_
      rintro e y2 ⟨rfl, t2, ev2, us2, hv2, hs2⟩
      have HV2 : Hid (TV B y2 b (M2.see k 3 r1) (K + 11) t2 bm g cap ev2 us2) := hv2
      have HS2 : Hid (St t1 t2 y1 y2) := hs2
      clear hv2 hs2
      go_wp2
      go_ret
      refine ⟨rfl, t2, ev2, us2, ?_, HS1.out.trans HS2.out⟩
      rw [HSN2.out, if_neg e1, if_pos trivial]
      exact HV2.out
    · go_wp2
      go_ret
      refine ⟨rfl, t1, ev1, us1, ?_, HS1.out⟩
      rw [HSN2.out, if_neg e1, if_neg e2]
      exact HV1.out

/-- What is asked of a machine's threads. -/
def MOk (M : T.Mach) : Prop := ∀ k, k < M.ts.length → WsOk (M.th k).ws ∧ (M.th k).ws.length ≤ 8

theorem goon_any {B : Nat} {w : World} {b : Nat} {M : T.Mach} {K : Nat} {t : Nat → Nat} {bm g cap : Nat} {ev : Value} {us : List Value} (h : TV B w b M K t bm g cap ev us) {k p : Nat} (hk : k < M.ts.length) (hq : p = k * 13) (hok : MOk M) (hes : M.es.length ≤ 900000) (hK : K + 3000 < maxLen) (ht : Tab w) (hB2 : 2 ≤ B) (hcode : M.code.size ≤ 65536) :
    Calls Tryd.prog 18 #[.pointer (some ⟨b, 0, none⟩), .pointer (some ⟨g, p, none⟩)] w fun e w' => e = .returned (.bool (T.went M k)) ∧ Gone B w w' b (T.goOn M k) (K + 11) t bm g cap := by
  unfold T.went T.goOn
  by_cases hs : (M.th k).c.st = 0
  · rw [decide_eq_true hs, if_pos hs]
    exact goon_yes h hk hq (hok k hk).1 (hok k hk).2 hes hK ht hB2 hcode hs
  · rw [decide_eq_false hs, if_neg hs]
    refine (goon_no h hk hq hs).mono ?_
    rintro e w' ⟨rfl, rfl⟩
    exact ⟨rfl, t, ev, us, h.mono (by omega), St.refl _ _⟩

theorem leave_any {B : Nat} {w : World} {b : Nat} {M : T.Mach} {K : Nat} {t : Nat → Nat} {bm g cap : Nat} {ev : Value} {us : List Value} (h : TV B w b M K t bm g cap ev us) {k p : Nat} (hk : k < M.ts.length) (hq : p = k * 13) (hok : MOk M) (hK : K + 3000 < maxLen) :
    Calls Tryd.prog 19 #[.pointer (some ⟨b, 0, none⟩), .pointer (some ⟨g, p, none⟩)] w fun e w' => e = .returned (.bool (T.leaves M k)) ∧ Gone B w w' b (T.leave M k) (K + 11) t bm g cap := by
  unfold T.leaves T.leave
  cases e : (M.th k).ws with
  | nil =>
    refine (leave_no h hk hq e).mono ?_
    rintro e w' ⟨rfl, rfl⟩
    exact ⟨rfl, t, ev, us, h.mono (by omega), St.refl _ _⟩
  | cons p' r =>
    obtain ⟨y, v⟩ := p'
    have h1 := (hok k hk).1.2 (y, v) (by rw [e]; exact List.mem_cons_self)
    have h2 := (hok k hk).2
    rw [e] at h2
    refine (leave_yes h hk hq e h1.1 h1.2 (by omega) (by simp at h2; omega)).mono ?_
    rintro e w' ⟨rfl, t', us', h3, h4⟩
    exact ⟨rfl, t', ev, us', h3.mono (by omega), h4⟩

set_option maxRecDepth 100000 in
set_option maxHeartbeats 4000000 in
theorem threads_any {B : Nat} {w : World} {b : Nat} {M : T.Mach} {K : Nat} {t : Nat → Nat} {bm g cap : Nat} {ev : Value} {us : List Value} (h : TV B w b M K t bm g cap ev us) :
    Calls Tryd.prog 17 #[.pointer (some ⟨b, 0, none⟩)] w fun e w' => e = .returned (.int .i64 M.ts.length) ∧ w' = w := by
  have c2 := h.c2
  obtain ⟨n, hn⟩ : ∃ n, M.ts.length = n := ⟨_, rfl⟩
  have hr := h.room
  rw [hn] at c2 hr
  rw [hn]
  unfold maxLen at hr
  clear h hn
  go_enter Tryd.func17, Tryd.ntmps17
  go_wp2
  go_ret
  exact ⟨rfl, rfl⟩

theorem Gone.drew {B : Nat} {w w' : World} {b : Nat} {M : T.Mach} {K : Nat} {t : Nat → Nat} {bm g cap : Nat} (h : Gone B w.drew w' b M K t bm g cap) : Gone B w w' b M K t bm g cap := by
  obtain ⟨t', ev', us', h1, h2⟩ := h
  exact ⟨t', ev', us', h1, (St.ofBelow t (Below.refl _ _).drew).trans h2⟩

set_option maxRecDepth 100000 in
set_option maxHeartbeats 4000000 in
theorem do_any {B : Nat} {w : World} {b : Nat} {M : T.Mach} {K : Nat} {t : Nat → Nat} {bm g cap : Nat} {ev : Value} {us : List Value} (h : TV B w b M K t bm g cap ev us) (hok : MOk M) (hes : M.es.length ≤ 900000) (hK : K + 3000 < maxLen) (ht : Tab w) (hB2 : 2 ≤ B) (hcode : M.code.size ≤ 65536) (h4 : M.ts.length ≤ 4) (pick : Int) (hp : (Lit.int .i64 pick).wf = true) :
    Calls Tryd.prog 9 #[.pointer (some ⟨b, 0, none⟩), .int .i64 pick] w fun e w' => e = .returned (.bool (T.did M pick)) ∧ Gone B w w' b (T.act M pick) (K + 11) t bm g cap := by
  have hr := h.room
  have c2 := h.c2
  have HT : Hid (Calls Tryd.prog 17 #[.pointer (some ⟨b, 0, none⟩)] w fun e w' => e = .returned (.int .i64 M.ts.length) ∧ w' = w) := threads_any h
  have hw : -9223372036854775808 ≤ pick ∧ pick ≤ 9223372036854775807 := by
    have := hp
    simp [Lit.wf, IntKind.min, IntKind.max, IntKind.signed, IntKind.bits] at this
    omega
  have hpk : 0 ≤ T.pk pick ∧ T.pk pick ≤ 9223372036854775807 := by unfold T.pk; split <;> omega
  obtain ⟨k, hk0⟩ : ∃ k, T.who M pick = k := ⟨_, rfl⟩
  have hki : (k : Int) = T.pk pick / 2 % (M.ts.length : Int) := by
    rw [← hk0]
    unfold T.who
    have := Int.emod_nonneg (T.pk pick / 2) (b := (M.ts.length : Int)) (by omega)
    omega
  have hk : k < M.ts.length := by
    have := Int.emod_lt_of_pos (T.pk pick / 2) (b := (M.ts.length : Int)) (by omega)
    omega
  have HG := goon_any (h.below (Below.refl _ _).drew) hk rfl hok hes hK ht.drew hB2 hcode
  have HL := leave_any (h.below (Below.refl _ _).drew) hk rfl hok hK
  have hdid : T.did M pick = if T.pk pick % 2 = 0 then T.went M k else T.leaves M k := by unfold T.did; rw [hk0]
  have hact : T.act M pick = if T.pk pick % 2 = 0 then T.goOn M k else T.leave M k := by unfold T.act; rw [hk0]
  rw [hdid, hact]
  have hneg : pick < 0 → IntKind.i64.wrap (-1 - pick) = T.pk pick := fun h1 => by unfold T.pk; rw [if_pos h1, IntKind.wrap_i64]; omega
  have hpos : ¬ pick < 0 → pick = T.pk pick := fun h1 => by unfold T.pk; rw [if_neg h1]
  obtain ⟨n, hn⟩ : ∃ n, M.ts.length = n := ⟨_, rfl⟩
  rw [hn] at hr c2 HT hki hk h4
  obtain ⟨P, hP⟩ : ∃ P, T.pk pick = P := ⟨_, rfl⟩
  rw [hP] at hpk hki hneg hpos
  rw [hP]
  have q1 : P.tdiv 2 = P / 2 := Int.tdiv_eq_ediv_of_nonneg hpk.1
  have q2 : (P / 2).tmod (n : Int) = k := by rw [Int.tmod_eq_emod_of_nonneg (by omega)]; exact hki.symm
  have q3 : P / 2 % (n : Int) = k := hki.symm
  have q4 : P.tmod 2 = P % 2 := Int.tmod_eq_emod_of_nonneg hpk.1
  have hn0 : ¬ (n : Int) = 0 := by omega
  have hkn : (k : Int) < (n : Int) := by omega
  unfold maxLen at hr
  have HG2 : Hid (Calls Tryd.prog 18 #[.pointer (some ⟨b, 0, none⟩), .pointer (some ⟨g, k * 13, none⟩)] w.drew fun e w' => e = .returned (.bool (T.went M k)) ∧ Gone B w.drew w' b (T.goOn M k) (K + 11) t bm g cap) := HG
  have HL2 : Hid (Calls Tryd.prog 19 #[.pointer (some ⟨b, 0, none⟩), .pointer (some ⟨g, k * 13, none⟩)] w.drew fun e w' => e = .returned (.bool (T.leaves M k)) ∧ Gone B w.drew w' b (T.leave M k) (K + 11) t bm g cap) := HL
  clear HG HL h hdid hact hn hP hki hk0 hok hp
  by_cases hpar : P % 2 = 0
  · rw [if_pos hpar, if_pos hpar]
    rw [hpar] at q4
    by_cases hs : pick < 0
    · have hwr := hneg hs
      clear hneg hpos
      go_enter Tryd.func9, Tryd.ntmps9
      go_wp2_with fail
      refine HT.out.mono ?_
      rintro e y ⟨rfl, rfl⟩
      go_wp2_with fail
      go_region
      go_wp2_with fail
      refine HG2.out.mono ?_
      rintro e y2 ⟨rfl, hg⟩
      have HGo : Hid (Gone B y.drew y2 b (T.goOn M k) (K + 11) t bm g cap) := hg
      clear hg
      go_wp2
      go_ret
      exact ⟨rfl, HGo.out.drew⟩
    · obtain rfl := hpos hs
      clear hneg hpos
      go_enter Tryd.func9, Tryd.ntmps9
      go_wp2_with fail
      refine HT.out.mono ?_
      rintro e y ⟨rfl, rfl⟩
      go_wp2_with fail
      go_region
      go_wp2_with fail
      refine HG2.out.mono ?_
      rintro e y2 ⟨rfl, hg⟩
      have HGo : Hid (Gone B y.drew y2 b (T.goOn M k) (K + 11) t bm g cap) := hg
      clear hg
      go_wp2
      go_ret
      exact ⟨rfl, HGo.out.drew⟩
  · rw [if_neg hpar, if_neg hpar]
    have hpar1 : P % 2 = 1 := by omega
    rw [hpar1] at q4
    clear hpar
    by_cases hs : pick < 0
    · have hwr := hneg hs
      clear hneg hpos
      go_enter Tryd.func9, Tryd.ntmps9
      go_wp2_with fail
      refine HT.out.mono ?_
      rintro e y ⟨rfl, rfl⟩
      go_wp2_with fail
      go_region
      go_wp2_with fail
      refine HL2.out.mono ?_
      rintro e y2 ⟨rfl, hg⟩
      have HGo : Hid (Gone B y.drew y2 b (T.leave M k) (K + 11) t bm g cap) := hg
      clear hg
      go_wp2
      go_ret
      exact ⟨rfl, HGo.out.drew⟩
    · obtain rfl := hpos hs
      clear hneg hpos
      go_enter Tryd.func9, Tryd.ntmps9
      go_wp2_with fail
      refine HT.out.mono ?_
      rintro e y ⟨rfl, rfl⟩
      go_wp2_with fail
      go_region
      go_wp2_with fail
      refine HL2.out.mono ?_
      rintro e y2 ⟨rfl, hg⟩
      have HGo : Hid (Gone B y.drew y2 b (T.leave M k) (K + 11) t bm g cap) := hg
      clear hg
      go_wp2
      go_ret
      exact ⟨rfl, HGo.out.drew⟩

end Go.Proofs.YtdcdmlboilojmabDoor

/- What a machine shows: a thread, a word, its events. (Written by gen_view.py.) -/
namespace Go.Proofs.YtdcdmlboilojmabDoor
open Go.RowKit Go.Maps
set_option linter.unusedVariables false
set_option linter.unusedSimpArgs false

/-- What comes back is a row of one's own. -/
def RowIs (B : Nat) (ty : TypeId) (m : Nat) (e : Ending) (w' : World) (n : Nat) (cs : List Value) : Prop := ∃ v', e = .returned v' ∧ w'.ownsRow B ty m v' n cs
theorem cell_new0 (w : World) (ty : TypeId) : (w.alloc (.cells #[] ty)).heap[w.heap.size]? = some (.cells #[] ty) := by rw [← World.alloc_eq]; simp
theorem own_new0 (w : World) (ty : TypeId) (m : Nat) : (w.alloc (.cells #[] ty)).ownsRow w.heap.size ty m (.slice (some ⟨w.heap.size, 0, none⟩) 0 0) 0 [] :=
  ⟨by simp, .inr ⟨w.heap.size, 0, #[], rfl, Nat.le_refl _, cell_new0 w ty, Nat.zero_le _, Nat.zero_le _, by simp, by simp⟩⟩
theorem own_mono {w : World} {B B' : Nat} {ty : TypeId} {m n : Nat} {v : Value} {cs : List Value} (h : w.ownsRow B ty m v n cs) (hl : B' ≤ B) : w.ownsRow B' ty m v n cs := by
  refine ⟨h.1, ?_⟩
  rcases h.2 with h0 | ⟨g, cap, cur, e, h1, h2⟩
  · exact .inl h0
  · exact .inr ⟨g, cap, cur, e, Nat.le_trans hl h1, h2⟩
theorem below_new {w x y : World} {v : Value} (hb : Below w.heap.size w x) (hg : x.grownBy y v.ownBlock) (hv : ∀ g, v.ownBlock = some g → w.heap.size ≤ g) : Below w.heap.size w y :=
  ⟨hg.os.trans hb.os, hg.tape.trans hb.tape, hg.output.trans hb.output, Nat.le_trans hb.size hg.size, fun k hk => (hg.block k (Nat.lt_of_lt_of_le hk hb.size) (fun e => by have := hv k e.symm; omega)).trans (hb.block k hk)⟩

set_option maxRecDepth 100000 in
set_option maxHeartbeats 4000000 in
theorem cloneE_any {B : Nat} {w : World} {u : Value} {ws : List T.Ev} (ho : w.ownsRow B 41 3 u ws.length (ws.flatMap eC)) (hn : ws.length ≤ 1000000) :
    Calls Tryd.prog 20 #[u] w fun e w' => RowIs w.heap.size 41 3 e w' ws.length (ws.flatMap eC) ∧ Below w.heap.size w w' := by
  obtain ⟨a, c, rfl, hnil, hat⟩ := row_at (m := 3) (f := eC) (0, 0, 0) (fun _ => rfl) ho rfl
  obtain ⟨hnc, hcm⟩ : ws.length ≤ c ∧ c ≤ maxLen := by obtain ⟨a', c', e, h1, h2⟩ := own_sl ho; cases e; exact ⟨h1, h2⟩
  have HLN : Hid ((ws.flatMap eC).length = ws.length * 3) := flat_len' (m := 3) (fun _ => rfl) ws
  have HON : Hid (∀ u ∈ ws.flatMap eC, u.oneCell' = true) := fun u hu => by
    obtain ⟨p, -, hp⟩ := List.mem_flatMap.1 hu
    simp [eC] at hp
    rcases hp with rfl | rfl | rfl <;> rfl
  have HC : Hid (∀ ad, a = some ad → ∀ j u, (ws.flatMap eC)[j]? = some u → w.cell? (ad.add j) = some u) := fun ad had j u hu => by
    rcases hat with h0 | ⟨g, off, rfl, hc⟩
    · have : ws = [] := List.eq_nil_of_length_eq_zero h0
      rw [this] at hu
      simp at hu
    · cases had
      rw [Addr.add_lit]
      exact flat_cells (m := 3) (d := (0, 0, 0)) (fun _ => rfl) (by decide) hc j u hu
  obtain ⟨iw, hiw, hp0, hp1, hp2⟩ := info_partsL infoE
  unfold maxLen at hcm
  obtain ⟨n, hN⟩ : ∃ n, ws.length = n := ⟨_, rfl⟩
  obtain ⟨cs, hcs⟩ : ∃ cs, ws.flatMap eC = cs := ⟨_, rfl⟩
  rw [hcs] at HLN HON HC
  rw [hN] at HLN hnc hn hnil
  rw [hcs, hN]
  have heq : ∀ (x : Option Addr) (l c : Nat) (w : World), (binOp .eql 28 (.slice x l c) (.slice none 0 0)).run Tryd.prog w = .ok (.bool x.isNone) w := fun x l c w => Lib.run_eql_slice_nil w 28 41 x l c 0 0 Tryd.underlying28
  clear ho hat hN hcs
  cases a with
  | none =>
    obtain ⟨rfl, rfl⟩ := hnil rfl
    obtain rfl : cs = [] := List.eq_nil_of_length_eq_zero (by have := HLN.out; omega)
    clear HC HON HLN hnil
    go_enter Tryd.func20, Tryd.ntmps20
    go_wp2
    go_ret
    exact ⟨⟨_, rfl, World.ownsRow_nil _ _ _ _⟩, Below.refl _ _⟩
  | some ad =>
    clear hnil
    have HB1 : Hid (Below w.heap.size w (w.alloc (.cells #[] 41))) := bl_one _ _
    have HW1 : Hid ((w.alloc (.cells #[] 41)).ownsRow w.heap.size 41 3 (.slice (some ⟨w.heap.size, 0, none⟩) 0 0) 0 []) := own_new0 _ _ _
    have HC1 : Hid (∀ ad', some ad = some ad' → ∀ j u, cs[j]? = some u → (w.alloc (.cells #[] 41)).cell? (ad'.add j) = some u) := fun ad' h j u hu => cell_up HB1.out (HC.out ad' h j u hu)
    go_enter Tryd.func20, Tryd.ntmps20
    go_wp2_with (first | (at_builtin; refine wpList_append_more rfl _ _ 28 rfl w.heap.size 41 iw _ 3 24 Tryd.underlying28 hiw hp0 hp1 hp2 rfl (by decide) rfl HW1.out HB1.out.size rfl (fun e => by cases e) HLN.out HC1.out HON.out (by omega) (by omega) ?_) | go_in)
    intro v' Y ho hg hat
    have HY : Hid (Below w.heap.size w Y) := below_new HB1.out hg (fun g hg => by cases hg; exact Nat.le_refl _)
    have HO : Hid (Y.ownsRow w.heap.size 41 3 v' n cs) := ho
    clear ho hg hat
    go_wp2
    go_ret
    exact ⟨⟨_, rfl, HO.out⟩, HY.out⟩

set_option maxRecDepth 100000 in
set_option maxHeartbeats 4000000 in
theorem events_any {B : Nat} {w : World} {b : Nat} {M : T.Mach} {K : Nat} {t : Nat → Nat} {bm g cap : Nat} {ev : Value} {us : List Value} (h : TV B w b M K t bm g cap ev us) (hes : M.es.length ≤ 1000000) :
    Calls Tryd.prog 10 #[.pointer (some ⟨b, 0, none⟩)] w fun e w' => RowIs w.heap.size 41 3 e w' M.es.length (M.es.flatMap eC) ∧ Below w.heap.size w w' := by
  have c3 := h.c3
  have HC : Hid (Calls Tryd.prog 20 #[ev] w fun e w' => RowIs w.heap.size 41 3 e w' M.es.length (M.es.flatMap eC) ∧ Below w.heap.size w w') := cloneE_any h.evs hes
  obtain ⟨n, hn⟩ : ∃ n, M.es.length = n := ⟨_, rfl⟩
  obtain ⟨cs, hcs⟩ : ∃ cs, M.es.flatMap eC = cs := ⟨_, rfl⟩
  rw [hn, hcs] at HC
  rw [hn, hcs]
  clear h hn hcs
  go_enter Tryd.func10, Tryd.ntmps10
  go_wp2_with fail
  refine HC.out.mono ?_
  rintro e y2 ⟨⟨v', rfl, ho⟩, hb⟩
  have HO : Hid (y2.ownsRow w.heap.size 41 3 v' n cs) := ho
  have HB : Hid (Below w.heap.size w y2) := hb
  clear ho hb
  go_wp2
  go_ret
  exact ⟨⟨_, rfl, HO.out⟩, HB.out⟩

theorem ch_below {w z : World} {B q : Nat} (h : Below B w z) (hq : B ≤ q) (c : S.C) : Below B w (((((((((((z.setCell ⟨q, 0, none⟩ (.int .i64 c.r0)).setCell ⟨q, 1, none⟩ (.int .i64 c.r1)).setCell ⟨q, 2, none⟩ (.int .i64 c.r2)).setCell ⟨q, 3, none⟩ (.int .i64 c.r3)).setCell ⟨q, 4, none⟩ (.int .i64 c.r4)).setCell ⟨q, 5, none⟩ (.int .i64 c.r5)).setCell ⟨q, 6, none⟩ (.int .i64 c.r6)).setCell ⟨q, 7, none⟩ (.int .i64 c.r7)).setCell ⟨q, 8, none⟩ (.int .i64 c.pc)).setCell ⟨q, 9, none⟩ (.int .i64 c.st)).setCell ⟨q, 10, none⟩ (.int .i64 c.tr)) :=
  ((((((((((h.setCell hq _).setCell hq _).setCell hq _).setCell hq _).setCell hq _).setCell hq _).setCell hq _).setCell hq _).setCell hq _).setCell hq _).setCell hq _
theorem ch1_own {z : World} {B q o : Nat} {ty : TypeId} {m n : Nat} {v u : Value} {cs : List Value} (h : z.ownsRow B ty m v n cs) (hq : q < B) : (z.setCell ⟨q, o, none⟩ u).ownsRow B ty m v n cs :=
  h.kept (gb_set _ ⟨q, o, none⟩ _) (.inr fun e => by have := (h.lt _ e).1; simp only at this; omega)
theorem ch_own {z : World} {B q : Nat} {ty : TypeId} {m n : Nat} {v : Value} {cs : List Value} (h : z.ownsRow B ty m v n cs) (hq : q < B) (c : S.C) : ((((((((((((z.setCell ⟨q, 0, none⟩ (.int .i64 c.r0)).setCell ⟨q, 1, none⟩ (.int .i64 c.r1)).setCell ⟨q, 2, none⟩ (.int .i64 c.r2)).setCell ⟨q, 3, none⟩ (.int .i64 c.r3)).setCell ⟨q, 4, none⟩ (.int .i64 c.r4)).setCell ⟨q, 5, none⟩ (.int .i64 c.r5)).setCell ⟨q, 6, none⟩ (.int .i64 c.r6)).setCell ⟨q, 7, none⟩ (.int .i64 c.r7)).setCell ⟨q, 8, none⟩ (.int .i64 c.pc)).setCell ⟨q, 9, none⟩ (.int .i64 c.st)).setCell ⟨q, 10, none⟩ (.int .i64 c.tr))).ownsRow B ty m v n cs :=
  ch1_own (ch1_own (ch1_own (ch1_own (ch1_own (ch1_own (ch1_own (ch1_own (ch1_own (ch1_own (ch1_own h hq) hq) hq) hq) hq) hq) hq) hq) hq) hq) hq

/-- A thread, as Thread tells it. -/
def ThIs (B : Nat) (e : Ending) (w' : World) (h : T.Th) : Prop := ∃ v', e = .returned (.tuple #[h.c.v, v']) ∧ w'.ownsRow B 84 2 v' h.ws.length (h.ws.flatMap wC)
end Go.Proofs.YtdcdmlboilojmabDoor

/- An image as it is handed over; where its threads begin; whether it may run. -/
namespace Go.Proofs.YtdcdmlboilojmabDoor
open Go.RowKit Go.Maps
set_option linter.unusedVariables false
set_option linter.unusedSimpArgs false

structure Sym where
  name : ByteArray
  kind : Int
  pos : Int
def noSym : Sym := ⟨{ data := #[] }, 0, 0⟩
/-- Lists as they lie. -/
structure IntsV (w : World) (a : Option Addr) (len cap : Nat) (zs : List Int) : Prop where
  count : zs.length = len
  fits : ∀ n ∈ zs, (Lit.int .i64 n).wf = true
  nilOf : a = none → len = 0 ∧ cap = 0
  room : len ≤ cap ∧ cap ≤ maxLen
  cells : len = 0 ∨ ∃ b off, a = some ⟨b, off, none⟩ ∧ ∀ i, i < len → w.cell? ⟨b, off + i, none⟩ = some (.int .i64 (zs.getD i 0))
structure SymsV (w : World) (a : Option Addr) (len cap : Nat) (ss : List Sym) : Prop where
  count : ss.length = len
  fits : ∀ s ∈ ss, s.name.size ≤ maxLen ∧ (Lit.int .i64 s.kind).wf = true ∧ (Lit.int .i64 s.pos).wf = true
  nilOf : a = none → len = 0 ∧ cap = 0
  room : len ≤ cap ∧ cap ≤ maxLen
  cells : len = 0 ∨ ∃ b off, a = some ⟨b, off, none⟩ ∧ ∀ i, i < len → w.cell? ⟨b, off + i * 3, none⟩ = some (.string (ss.getD i noSym).name) ∧ w.cell? ⟨b, off + i * 3 + 1, none⟩ = some (.int .i64 (ss.getD i noSym).kind) ∧ w.cell? ⟨b, off + i * 3 + 2, none⟩ = some (.int .i64 (ss.getD i noSym).pos)
theorem IntsV.below {w w1 : World} {a : Option Addr} {len cap : Nat} {zs : List Int} (h : IntsV w a len cap zs) (hb : Below w.heap.size w w1) : IntsV w1 a len cap zs := by
  refine ⟨h.count, h.fits, h.nilOf, h.room, ?_⟩
  rcases h.cells with h0 | ⟨b, off, ha, hc⟩
  · exact .inl h0
  · exact .inr ⟨b, off, ha, fun i hi => (hb.cell (p := ⟨b, off + i, none⟩) (World.block_lt_of_cell? w ⟨b, off + i, none⟩ (hc i hi))).trans (hc i hi)⟩
theorem SymsV.below {w w1 : World} {a : Option Addr} {len cap : Nat} {ss : List Sym} (h : SymsV w a len cap ss) (hb : Below w.heap.size w w1) : SymsV w1 a len cap ss := by
  refine ⟨h.count, h.fits, h.nilOf, h.room, ?_⟩
  rcases h.cells with h0 | ⟨b, off, ha, hc⟩
  · exact .inl h0
  · refine .inr ⟨b, off, ha, fun i hi => ?_⟩
    obtain ⟨k0, k1, k2⟩ := hc i hi
    have hbl : b < w.heap.size := World.block_lt_of_cell? w ⟨b, off + i * 3, none⟩ k0
    exact ⟨(hb.cell (p := ⟨b, off + i * 3, none⟩) hbl).trans k0, (hb.cell (p := ⟨b, off + i * 3 + 1, none⟩) hbl).trans k1, (hb.cell (p := ⟨b, off + i * 3 + 2, none⟩) hbl).trans k2⟩
/-- An image. -/
structure ImgD where
  code : ByteArray
  data : List Int
  syms : List Sym
structure ImgV (w : World) (v : Value) (m : ImgD) : Prop where
  form : ∃ a1 l1 c1 a2 l2 c2, v = .agg #[.string m.code, .slice a1 l1 c1, .slice a2 l2 c2] ∧ m.code.size ≤ maxLen ∧ IntsV w a1 l1 c1 m.data ∧ SymsV w a2 l2 c2 m.syms
theorem ImgV.below {w w1 : World} {v : Value} {m : ImgD} (h : ImgV w v m) (hb : Below w.heap.size w w1) : ImgV w1 v m := by
  obtain ⟨a1, l1, c1, a2, l2, c2, e, hs, h1, h2⟩ := h.form
  exact ⟨⟨a1, l1, c1, a2, l2, c2, e, hs, h1.below hb, h2.below hb⟩⟩
def intC (n : Int) : List Value := [.int .i64 n]
theorem infoN : (Tryd.prog.info? 3).map (fun i => (i.zero, i.size, i.bytes)) = some (some (.int .i64 0), 1, 8) := by kernel_rfl
/-- Where the threads begin. -/
def strt (ss : List Sym) : List Int := (ss.filter fun s => decide (s.kind = 3)).map Sym.pos
theorem strt_snoc (ss : List Sym) {k : Nat} (h : k < ss.length) : strt (ss.take (k + 1)) = strt (ss.take k) ++ (if (ss.getD k noSym).kind = 3 then [(ss.getD k noSym).pos] else []) := by
  rw [List.take_succ_eq_append_getElem h]
  have e : ss.getD k noSym = ss[k] := by simp [List.getD, h]
  rw [e]
  unfold strt
  rw [List.filter_append, List.map_append]
  congr 1
  by_cases hk : ss[k].kind = 3 <;> simp [hk]
theorem strt_len (ss : List Sym) : (strt ss).length ≤ ss.length := by
  unfold strt; rw [List.length_map]; exact List.length_filter_le _ _
theorem own_below {w w' : World} {B : Nat} {ty : TypeId} {m n : Nat} {v : Value} {cs : List Value} (h : w.ownsRow B ty m v n cs) (hb : Below w.heap.size w w') : w'.ownsRow B ty m v n cs :=
  row_cong h (fun g hg => hb.block g (own_lt h hg))
theorem ints_own {w : World} {B : Nat} {v : Value} {n : Nat} {zs : List Int} {ty : TypeId} (h : w.ownsRow B ty 1 v n (zs.flatMap intC)) (hn : zs.length = n) (hf : ∀ z ∈ zs, (Lit.int .i64 z).wf = true) : ∃ a c, v = .slice a n c ∧ IntsV w a n c zs := by
  obtain ⟨a, c, rfl, h1, h2⟩ := row_at (m := 1) (f := intC) 0 (fun _ => rfl) h hn
  obtain ⟨a', c', e, h3, h4⟩ := own_sl h
  cases e
  refine ⟨a, c, rfl, ⟨hn, hf, h1, ⟨h3, h4⟩, ?_⟩⟩
  rcases h2 with h2 | ⟨b, off, rfl, h2⟩
  · exact .inl h2
  · refine .inr ⟨b, off, rfl, fun i hi => ?_⟩
    have := h2 i hi 0 _ (by decide) rfl
    simpa using this

set_option maxRecDepth 100000 in
set_option maxHeartbeats 8000000 in
theorem starts_any {w : World} {a : Option Addr} {l c : Nat} {ss : List Sym} (h : SymsV w a l c ss) (hl : l ≤ 8796093022208) :
    Calls Tryd.prog 12 #[.slice a l c] w fun e w' => RowIs w.heap.size 3 1 e w' (strt ss).length ((strt ss).flatMap intC) ∧ Below w.heap.size w w' := by
  obtain ⟨i1, hi1, hz10, hz11, hz12⟩ := info_partsL infoN
  have HV : Hid (SymsV w a l c ss) := h
  have HC : Hid (ss.length = l) := h.count
  have hro := h.room
  unfold maxLen at hro
  have HN0 : Hid (w.ownsRow w.heap.size 3 1 (.slice none 0 0) (strt (ss.take 0)).length ((strt (ss.take 0)).flatMap intC)) := World.ownsRow_nil _ _ _ _
  clear h
  go_enter Tryd.func12, Tryd.ntmps12
  go_wp2_with fail
  go_loopg [3, 8] l (fun r lv iv wq => ∃ (k : Nat), iv = .int .i64 k ∧ k ≤ l ∧ l - k ≤ r ∧ Hid (wq.ownsRow w.heap.size 3 1 lv (strt (ss.take k)).length ((strt (ss.take k)).flatMap intC)) ∧ Hid (Below w.heap.size w wq))
  case atStart => exact ⟨0, rfl, Nat.zero_le _, by omega, HN0.out, Below.refl _ _⟩
  case round =>
    obtain ⟨k, rfl, hk, hr, HRW, HBL⟩ := hrel
    by_cases hlt : k < l
    · rcases HV.out.cells with h0 | ⟨b, off, hA, hcl⟩
      · omega
      obtain ⟨q0, q1, q2⟩ := hcl k hlt
      have q0 := cell_up HBL.out q0
      have q1 := cell_up HBL.out q1
      have q2 := cell_up HBL.out q2
      have HSN : Hid _ := strt_snoc ss (k := k) (by have := HC.out; omega)
      have HTL : Hid ((strt (ss.take k)).length ≤ k) := by show _ ≤ _; have := strt_len (ss.take k); rw [List.length_take] at this; omega
      obtain ⟨⟨nm, kd, ps⟩, hx⟩ : ∃ x, ss.getD k noSym = x := ⟨_, rfl⟩
      rw [hx] at q0 q1 q2 HSN
      simp only at q0 q1 q2 HSN
      cases hA
      have hii : (k : Int) < l := by omega
      have hin : 0 ≤ (k : Int) := by omega
      clear hcl hx
      obtain ⟨Y1, hY1⟩ : ∃ Y1, wr.alloc (.cells #[.string nm, .int .i64 kd, .int .i64 ps] 66) = Y1 := ⟨_, rfl⟩
      have bY : Below wr.heap.size wr Y1 := by subst hY1; exact bl_one _ _
      have g0 : Y1.cell? ⟨wr.heap.size, 0, none⟩ = some (.string nm) := by subst hY1; exact cell_last _ _ _ _ _ rfl rfl
      have g1 : Y1.cell? ⟨wr.heap.size, 1, none⟩ = some (.int .i64 kd) := by subst hY1; exact cell_last _ _ _ _ _ rfl rfl
      have g2 : Y1.cell? ⟨wr.heap.size, 2, none⟩ = some (.int .i64 ps) := by subst hY1; exact cell_last _ _ _ _ _ rfl rfl
      have HBY : Hid (Below w.heap.size w Y1) := HBL.out.trans (bY.mono HBL.out.size)
      by_cases hkd : kd = 3
      · subst hkd
        rw [if_pos rfl] at HSN
        obtain ⟨Z, hZ⟩ : ∃ Z, Y1.alloc (.cells #[.int .i64 ps] 3) = Z := ⟨_, rfl⟩
        have bZ : Below Y1.heap.size Y1 Z := by subst hZ; exact bl_one _ _
        obtain ⟨tn, htn⟩ : ∃ tn, (strt (ss.take k)).length = tn := ⟨_, rfl⟩
        have htl : tn ≤ k := by rw [← htn]; exact HTL.out
        have HTN : Hid _ := htn
        have HRZ : Hid (Z.ownsRow w.heap.size 3 1 u3 tn ((strt (ss.take k)).flatMap intC)) := by
          show World.ownsRow _ _ _ _ _ _ _
          rw [← htn]
          exact own_below (own_below HRW.out bY) bZ
        have HBZ : Hid (Below w.heap.size w Z) := HBY.out.trans (bZ.mono HBY.out.size)
        have HZB : Hid (w.heap.size ≤ Z.heap.size) := HBZ.out.size
        have HNCC : Hid (∀ j u, (intC ps)[j]? = some u → Z.cell? ((⟨Y1.heap.size, 0, none⟩ : Addr).add j) = some u) := by
          intro j u hu
          match j, hu with
          | 0, hu => subst hZ; simp [intC] at hu; subst hu; exact cell_last _ _ _ _ _ (by simp) (by simp)
          | j + 1, hu => simp [intC] at hu
        clear bY bZ htn
        go_wp2_with (first | (at_builtin; refine wpList_append_lies _ rfl _ _ 26 rfl w.heap.size 3 i1 _ 1 8 Tryd.underlying26 hi1 hz10 hz11 hz12 rfl (by decide) u3 tn _ rfl HRZ.out ⟨Y1.heap.size, 0, none⟩ 1 1 (intC ps) rfl rfl HNCC.out (by intro u hu; simp [intC] at hu; subst hu; rfl) (by decide) (by unfold maxLen; omega) (by omega) HZB.out Z.heap.size rfl ?_; intro ga ca w1 ho1 hg1 hat1 hlt1) | go_in)
        have HR1 : Hid (w1.ownsRow w.heap.size 3 1 (.slice (some ⟨ga, 0, none⟩) (tn + 1) ca) (strt (ss.take (k + 1))).length ((strt (ss.take (k + 1))).flatMap intC)) := by
          show World.ownsRow _ _ _ _ _ _ _
          rw [HSN.out, List.length_append, HTN.out, List.flatMap_append]
          have : ([ps].flatMap intC) = intC ps := by simp [intC]
          rw [this]
          exact ho1
        have HB1 : Hid (Below w.heap.size w w1) := below_new HBZ.out hg1 (fun g hg => (HRZ.out.lt g hg).1)
        clear ho1 hg1 hat1
        go_wp2
        go_roundg (l - (k + 1))
        · exact ⟨k + 1, rfl, by omega, Nat.le_refl _, HR1, HB1⟩
        · omega
      · rw [if_neg hkd, List.append_nil] at HSN
        have HR1 : Hid (Y1.ownsRow w.heap.size 3 1 u3 (strt (ss.take (k + 1))).length ((strt (ss.take (k + 1))).flatMap intC)) := by
          show World.ownsRow _ _ _ _ _ _ _
          rw [HSN.out]
          exact own_below HRW.out bY
        clear bY
        go_wp2
        go_roundg (l - (k + 1))
        · exact ⟨k + 1, rfl, by omega, Nat.le_refl _, HR1, HBY⟩
        · omega
    · obtain rfl : k = l := by omega
      have HE : Hid (wr.ownsRow w.heap.size 3 1 u3 (strt ss).length ((strt ss).flatMap intC)) := by
        have h1 := HRW.out
        rw [← HC.out, List.take_length] at h1
        exact h1
      go_wp2
      go_ret
      exact ⟨⟨_, rfl, HE.out⟩, HBL.out⟩

end Go.Proofs.YtdcdmlboilojmabDoor

/- A new thread; whether an image may run. -/
namespace Go.Proofs.YtdcdmlboilojmabDoor
open Go.RowKit Go.Maps
set_option linter.unusedVariables false
set_option linter.unusedSimpArgs false

theorem stackBase_any (n : Nat) (hn : n ≤ 100) (w : World) :
    Calls Tryd.prog 25 #[.int .i64 n] w fun e w' => e = .returned (.int .i64 (2097152 + 65536 * n)) ∧ w' = w := by
  have h1 : IntKind.i64.wrap (65536 * (n : Int)) = 65536 * n := by rw [IntKind.wrap_i64]; omega
  have h2 : IntKind.i64.wrap (2097152 + 65536 * (n : Int)) = 2097152 + 65536 * n := by rw [IntKind.wrap_i64]; omega
  go_enter Tryd.func25, Tryd.ntmps25
  go_wp2
  go_ret
  exact ⟨rfl, rfl⟩

abbrev thV (k : Nat) (h : T.Th) (u : Value) : Value := .agg (thC k h u).toArray

set_option maxRecDepth 100000 in
set_option maxHeartbeats 8000000 in
theorem newThread_any (k : Nat) (hk : k ≤ 50) (a : Int) (ha : 0 ≤ a ∧ a ≤ 65536) (w : World) :
    Calls Tryd.prog 16 #[.int .i64 k, .int .i64 a] w fun e w' => e = .returned (thV k (T.th0 k a) (.slice none 0 0)) ∧ Below w.heap.size w w' := by
  have h1 : IntKind.i64.wrap (4096 + a) = 4096 + a := by rw [IntKind.wrap_i64]; omega
  have h1' : wrap64 (4096 + a) = 4096 + a := by unfold wrap64; omega
  have h2 : IntKind.i64.wrap ((k : Int) + 1) = ((k + 1 : Nat) : Int) := by rw [IntKind.wrap_i64]; omega
  have h3 : thV k (T.th0 k a) (.slice none 0 0) = .agg #[.int .i64 0, .int .i64 0, .int .i64 0, .int .i64 0, .int .i64 0, .int .i64 0, .int .i64 0, .int .i64 (2097152 + 65536 * ((k + 1 : Nat) : Int)), .int .i64 (4096 + a), .int .i64 0, .int .i64 0, .int .i64 k, .slice none 0 0] := by
    unfold thV thC T.th0 T.noC
    rw [h1', show ((k + 1 : Nat) : Int) = (k : Int) + 1 by omega]
  rw [h3]
  have HS : Hid (∀ w, Calls Tryd.prog 25 #[.int .i64 (k + 1 : Nat)] w fun e w' => e = .returned (.int .i64 (2097152 + 65536 * (k + 1 : Nat))) ∧ w' = w) := fun w => stackBase_any (k + 1) (by omega) w
  clear h3 h1'
  generalize k + 1 = k1 at *
  generalize (2097152 + 65536 * (k1 : Int)) = sb at *
  go_enter Tryd.func16, Tryd.ntmps16
  go_wp2_with fail
  refine (HS.out _).mono ?_
  rintro e y ⟨rfl, rfl⟩
  go_wp2
  refine bodyPost_ret (v := .agg #[.int .i64 0, .int .i64 0, .int .i64 0, .int .i64 0, .int .i64 0, .int .i64 0, .int .i64 0, .int .i64 sb, .int .i64 (4096 + a), .int .i64 0, .int .i64 0, .int .i64 k, .slice none 0 0]) (by simp [results, Tryd.results16, go_sem]) rfl ⟨rfl, ?_⟩
  exact bl2 _ _ _

/-- What mayRun asks ahead of its loop. -/
def T.mayA (code : ByteArray) (dlen n : Nat) : Prop := 1 ≤ n ∧ n ≤ 4 ∧ code.size ≤ 65536 ∧ dlen ≤ 4096
theorem T.mayRun_no {code : ByteArray} {dlen : Nat} {zs : List Int} (h : ¬ (1 ≤ zs.length ∧ zs.length ≤ 4 ∧ code.size ≤ 65536 ∧ dlen ≤ 4096)) : T.mayRun code dlen zs = false := by
  unfold T.mayRun; rw [decide_eq_false h]; rfl
theorem T.mayRun_bad {code : ByteArray} {dlen : Nat} {zs : List Int} {k : Nat} (hk : k < zs.length) (h : ¬ (0 ≤ zs.getD k 0 ∧ zs.getD k 0 < (code.size : Int))) : T.mayRun code dlen zs = false := by
  unfold T.mayRun
  rw [Bool.and_eq_false_iff]
  right
  rw [List.all_eq_false]
  refine ⟨zs.getD k 0, by simp [List.getD, hk], ?_⟩
  rw [decide_eq_false h]
  decide
theorem T.mayRun_yes {code : ByteArray} {dlen : Nat} {zs : List Int} (h : 1 ≤ zs.length ∧ zs.length ≤ 4 ∧ code.size ≤ 65536 ∧ dlen ≤ 4096) (h2 : ∀ k, k < zs.length → 0 ≤ zs.getD k 0 ∧ zs.getD k 0 < (code.size : Int)) : T.mayRun code dlen zs = true := by
  unfold T.mayRun
  rw [decide_eq_true h, Bool.true_and, List.all_eq_true]
  intro a ha
  obtain ⟨k, hk, rfl⟩ := List.mem_iff_getElem.1 ha
  have := h2 k hk
  simp only [List.getD, List.getElem?_eq_getElem hk, Option.getD_some] at this
  exact decide_eq_true this

set_option maxRecDepth 100000 in
set_option maxHeartbeats 8000000 in
theorem mayRun_any {w : World} {v : Value} {m : ImgD} (h : ImgV w v m) {a : Option Addr} {n c : Nat} {zs : List Int} (hz : IntsV w a n c zs) :
    Calls Tryd.prog 13 #[v, .slice a n c] w fun e w' => e = .returned (.bool (T.mayRun m.code m.data.length zs)) ∧ Below w.heap.size w w' := by
  obtain ⟨a1, l1, c1, a2, l2, c2, rfl, hs, h1, h2⟩ := h.form
  obtain ⟨code, data, ss⟩ := m
  simp only at hs h1 h2 ⊢
  obtain ⟨W1, hW1⟩ : ∃ W1, w.alloc (.cells #[.string code, .slice a1 l1 c1, .slice a2 l2 c2] 25) = W1 := ⟨_, rfl⟩
  have HB : Hid (Below w.heap.size w W1) := by subst hW1; exact bl_one _ _
  have v0 : W1.cell? ⟨w.heap.size, 0, none⟩ = some (.string code) := by subst hW1; exact cell_last _ _ _ _ _ rfl rfl
  have v1 : W1.cell? ⟨w.heap.size, 1, none⟩ = some (.slice a1 l1 c1) := by subst hW1; exact cell_last _ _ _ _ _ rfl rfl
  have hl1 := h1.room
  have hln := hz.room
  have HZ : Hid (IntsV W1 a n c zs) := hz.below HB.out
  have HN : Hid (zs.length = n) := hz.count
  obtain ⟨r, hr⟩ : ∃ r, T.mayRun code data.length zs = r := ⟨_, rfl⟩
  have HNO : Hid (¬ (1 ≤ n ∧ n ≤ 4 ∧ code.size ≤ 65536 ∧ l1 ≤ 4096) → r = false) := fun e => by rw [← hr]; refine T.mayRun_no ?_; rw [hz.count, h1.count]; exact e
  have HBD : Hid (∀ k, k < n → ¬ (0 ≤ zs.getD k 0 ∧ zs.getD k 0 < (code.size : Int)) → r = false) := fun k hk e => by rw [← hr]; exact T.mayRun_bad (by rw [hz.count]; exact hk) e
  have HYE : Hid ((1 ≤ n ∧ n ≤ 4 ∧ code.size ≤ 65536 ∧ l1 ≤ 4096) → (∀ k, k < n → 0 ≤ zs.getD k 0 ∧ zs.getD k 0 < (code.size : Int)) → r = true) := fun e1 e2 => by rw [← hr]; refine T.mayRun_yes ?_ (by rw [hz.count]; exact e2); rw [hz.count, h1.count]; exact e1
  rw [hr]
  unfold maxLen at hs hl1 hln
  clear h h1 h2 hz hr
  by_cases n1 : n < 1
  · obtain rfl := HNO.out (by omega)
    have hd : decide ((n : Int) < 1) = true := decide_eq_true (by omega)
    go_enter Tryd.func13, Tryd.ntmps13
    go_wp2
    go_ret
    exact ⟨rfl, HB.out⟩
  have hd1 : decide ((n : Int) < 1) = false := decide_eq_false (by omega)
  by_cases n2 : 4 < n
  · obtain rfl := HNO.out (by omega)
    have hd2 : decide ((4 : Int) < n) = true := decide_eq_true (by omega)
    go_enter Tryd.func13, Tryd.ntmps13
    go_wp2
    go_ret
    exact ⟨rfl, HB.out⟩
  have hd2 : decide ((4 : Int) < n) = false := decide_eq_false (by omega)
  by_cases n3 : 65536 < code.size
  · obtain rfl := HNO.out (by omega)
    have hd3 : decide ((65536 : Int) < code.size) = true := decide_eq_true (by omega)
    go_enter Tryd.func13, Tryd.ntmps13
    go_wp2
    go_ret
    exact ⟨rfl, HB.out⟩
  have hd3 : decide ((65536 : Int) < code.size) = false := decide_eq_false (by omega)
  by_cases n4 : 4096 < l1
  · obtain rfl := HNO.out (by omega)
    have hd4 : decide ((4096 : Int) < l1) = true := decide_eq_true (by omega)
    go_enter Tryd.func13, Tryd.ntmps13
    go_wp2
    go_ret
    exact ⟨rfl, HB.out⟩
  have hd4 : decide ((4096 : Int) < l1) = false := decide_eq_false (by omega)
  go_enter Tryd.func13, Tryd.ntmps13
  go_wp2_with fail
  go_loopg [29] n (fun rr iv wq => ∃ (k : Nat), iv = .int .i64 k ∧ k ≤ n ∧ n - k ≤ rr ∧ Hid (∀ i, i < k → 0 ≤ zs.getD i 0 ∧ zs.getD i 0 < (code.size : Int)) ∧ wq = W1)
  case atStart => exact ⟨0, rfl, Nat.zero_le _, by omega, (fun i hi => absurd hi (by omega) : ∀ i, i < 0 → _), rfl⟩
  case round =>
    obtain ⟨k, rfl, hk, hrr, HA, rfl⟩ := hrel
    by_cases hlt : k < n
    · rcases HZ.out.cells with h0 | ⟨b, off, hA, hcl⟩
      · omega
      have q0 := hcl k hlt
      have HBK : Hid _ := HBD.out k hlt
      have HSN : Hid (∀ z, zs.getD k 0 = z → 0 ≤ z ∧ z < (code.size : Int) → ∀ i, i < k + 1 → 0 ≤ zs.getD i 0 ∧ zs.getD i 0 < (code.size : Int)) := fun z hz h2 i hi => by
        by_cases e : i = k
        · subst e; rw [hz]; exact h2
        · exact HA.out i (by omega)
      obtain ⟨z, hz⟩ : ∃ z, zs.getD k 0 = z := ⟨_, rfl⟩
      rw [hz] at q0 HBK
      have HSN2 : Hid _ := HSN.out z hz
      cases hA
      have hii : (k : Int) < n := by omega
      have hin : 0 ≤ (k : Int) := by omega
      clear hcl hz HSN
      by_cases z1 : z < 0
      · obtain rfl := HBK.out (by omega)
        have hz1 : decide (z < 0) = true := decide_eq_true z1
        go_wp2
        go_ret
        exact ⟨rfl, HB.out⟩
      have hz1 : decide (z < 0) = false := decide_eq_false z1
      by_cases z2 : (code.size : Int) ≤ z
      · obtain rfl := HBK.out (by omega)
        have hz2 : decide ((code.size : Int) ≤ z) = true := decide_eq_true z2
        go_wp2
        go_ret
        exact ⟨rfl, HB.out⟩
      have hz2 : decide ((code.size : Int) ≤ z) = false := decide_eq_false z2
      have HA2 : Hid (∀ i, i < k + 1 → 0 ≤ zs.getD i 0 ∧ zs.getD i 0 < (code.size : Int)) := HSN2.out (by omega)
      clear HA HSN2 HBK
      go_wp2
      go_roundg (n - (k + 1))
      · exact ⟨k + 1, rfl, by omega, Nat.le_refl _, HA2, rfl⟩
      · omega
    · obtain rfl : k = n := by omega
      obtain rfl := HYE.out (by omega) HA.out
      go_wp2
      go_ret
      exact ⟨rfl, HB.out⟩

end Go.Proofs.YtdcdmlboilojmabDoor

/- A machine's regions: its data, and a stack for each thread. -/
namespace Go.Proofs.YtdcdmlboilojmabDoor
open Go.RowKit Go.Maps
set_option linter.unusedVariables false
set_option linter.unusedSimpArgs false

def regR (base : Int) (v : Value) : List Value := [.int .i64 base, v, .bool true]
def stR : Nat → List Nat → List Value
  | _, [] => []
  | i, b :: r => regR (2097152 + 65536 * (i : Int)) (.slice (some ⟨b, 0, none⟩) 8192 8192) ++ stR (i + 1) r
theorem stR_snoc : ∀ (bs : List Nat) (i b : Nat), stR i (bs ++ [b]) = stR i bs ++ regR (2097152 + 65536 * ((i + bs.length : Nat) : Int)) (.slice (some ⟨b, 0, none⟩) 8192 8192)
  | [], i, b => by simp [stR]
  | c :: r, i, b => by
    rw [List.cons_append, stR, stR_snoc r (i + 1) b, stR, List.append_assoc, List.length_cons, show i + 1 + r.length = i + (r.length + 1) by omega]
theorem stR_at : ∀ (bs : List Nat) (i j q : Nat), j < bs.length → q < 3 → (stR i bs)[j * 3 + q]? = (regR (2097152 + 65536 * ((i + j : Nat) : Int)) (.slice (some ⟨bs.getD j 0, 0, none⟩) 8192 8192))[q]?
  | [], i, j, q, hj, _ => by simp at hj
  | b :: r, i, 0, q, hj, hq => by
    rw [stR, Nat.zero_mul, Nat.zero_add, List.getElem?_append_left (by simp [regR]; omega)]
    rfl
  | b :: r, i, j + 1, q, hj, hq => by
    rw [stR, List.getElem?_append_right (by simp [regR]; omega), show (j + 1) * 3 + q - (regR (2097152 + 65536 * (i : Int)) (.slice (some ⟨b, 0, none⟩) 8192 8192)).length = j * 3 + q by simp [regR]; omega, stR_at r (i + 1) j q (by simpa using hj) hq, show i + 1 + j = i + (j + 1) by omega]
    rfl
def zeros : List Int := List.replicate 8192 0
def regs0 (zs : List Int) (n : Nat) : List Reg := ⟨1048576, zs, true⟩ :: (List.range n).map fun i : Nat => ⟨2097152 + 65536 * (i : Int), zeros, true⟩
def RegsIs (e : Ending) (w' : World) (rs : List Reg) : Prop := ∃ a cap, e = .returned (.slice a rs.length cap) ∧ RegsV w' a rs.length cap rs
theorem made_n (n : Nat) : madeCells #[.int .i64 0] n = ((List.replicate n (0 : Int)).map (Value.int .i64)).toArray := by
  apply Array.ext
  · simp [madeCells]
  · intro i h1 h2
    simp [madeCells, Nat.mod_one]
theorem made_zero : madeCells #[.int .i64 0] 8192 = (zeros.map (Value.int .i64)).toArray := made_n 8192
theorem infoL : (Tryd.prog.info? 2).map (fun i => (i.zero, i.size, i.bytes)) = some (some (.int .i64 0), 1, 8) := by kernel_rfl
theorem zeros_fit : ∀ n ∈ zeros, (Lit.int .i64 n).wf = true := fun n hn => by
  obtain rfl := List.eq_of_mem_replicate hn
  rfl
theorem zeros_len : zeros.length = 8192 := List.length_replicate

theorem cell_newA (w : World) (A : Array Value) (ty : TypeId) : (w.alloc (.cells A ty)).heap[w.heap.size]? = some (.cells A ty) := by rw [← World.alloc_eq]; simp
theorem own_new (w : World) (A : Array Value) (ty : TypeId) (n m : Nat) (h : A.size = n * m) (hn : n ≤ maxLen) : (w.alloc (.cells A ty)).ownsRow w.heap.size ty m (.slice (some ⟨w.heap.size, 0, none⟩) n n) n A.toList :=
  ⟨by simpa using h, .inr ⟨w.heap.size, n, A, rfl, Nat.le_refl _, cell_newA w A ty, Nat.le_refl _, hn, h, by rw [← h]; first | exact List.take_of_length_le (Nat.le_of_eq Array.length_toList) | exact (List.take_of_length_le (Nat.le_of_eq Array.length_toList)).symm⟩⟩
/-- Regions that are being laid: the data's, then stacks, each in a block of its own. -/
structure RB (B : Nat) (w : World) (v : Value) (ds : Value) (bs : List Nat) : Prop where
  row : w.ownsRow B 78 3 v (bs.length + 1) (regR 1048576 ds ++ stR 0 bs)
  st : ∀ b ∈ bs, w.heap[b]? = some (.cells (zeros.map (Value.int .i64)).toArray 2 (0, 0)) ∧ v.ownBlock ≠ some b
theorem RB.regs {B : Nat} {w : World} {v : Value} {a : Option Addr} {l c : Nat} {zs : List Int} {bs : List Nat} (h : RB B w v (.slice a l c) bs) (hv : View w a l c zs) (h4 : bs.length ≤ 1000) : ∃ a' cap, v = .slice a' (bs.length + 1) cap ∧ RegsV w a' (bs.length + 1) cap (regs0 zs bs.length) := by
  obtain ⟨a', cap, rfl, hnc, hcm⟩ := own_sl h.row
  refine ⟨a', cap, rfl, ⟨by simp [regs0], hnc, hcm, fun r hr => ?_, ?_⟩⟩
  · simp only [regs0, List.mem_cons, List.mem_map, List.mem_range] at hr
    rcases hr with rfl | ⟨i, hi, rfl⟩
    · rfl
    · show (Lit.int .i64 (2097152 + 65536 * (i : Int))).wf = true
      simp [Lit.wf, IntKind.min, IntKind.max, IntKind.signed, IntKind.bits]
      omega
  · rcases h.row.2 with ⟨h0, -⟩ | ⟨g, cap', cur, e, -⟩
    · cases h0
    cases e
    have hcell : ∀ i, i < (bs.length + 1) * 3 → w.cell? ⟨g, i, none⟩ = (regR 1048576 (.slice a l c) ++ stR 0 bs)[i]? := fun i hi => h.row.cellAt i hi
    refine .inr ⟨g, 0, rfl, fun i hi => ?_⟩
    cases i with
    | zero =>
      refine ⟨a, l, c, ?_, ?_, ?_, hv⟩
      · exact (hcell 0 (by omega)).trans rfl
      · exact (hcell 1 (by omega)).trans rfl
      · exact (hcell 2 (by omega)).trans rfl
    | succ j =>
      have hj : j < bs.length := by omega
      have hmem : bs.getD j 0 ∈ bs := by simp [List.getD, hj]
      have hr : (regs0 zs bs.length).getD (j + 1) noReg = ⟨2097152 + 65536 * (j : Int), zeros, true⟩ := by simp [regs0, List.getD, hj]
      have hat : ∀ q, q < 3 → w.cell? ⟨g, 0 + (j + 1) * 3 + q, none⟩ = (regR (2097152 + 65536 * (j : Int)) (.slice (some ⟨bs.getD j 0, 0, none⟩) 8192 8192))[q]? := fun q hq => by
        rw [hcell _ (by omega), List.getElem?_append_right (by simp [regR]; omega), show 0 + (j + 1) * 3 + q - (regR 1048576 (.slice a l c)).length = j * 3 + q by simp [regR]; omega, stR_at bs 0 j q hj hq, Nat.zero_add]
      rw [hr]
      refine ⟨some ⟨bs.getD j 0, 0, none⟩, 8192, 8192, (hat 0 (by decide)).trans rfl, (hat 1 (by decide)).trans rfl, (hat 2 (by decide)).trans rfl, ?_⟩
      have hvb := view_block (h.st _ hmem).1 zeros_fit
      rw [zeros_len] at hvb
      exact hvb

set_option maxRecDepth 100000 in
set_option maxHeartbeats 8000000 in
theorem regions_any {w : World} {a : Option Addr} {l c : Nat} {zs : List Int} (h : View w a l c zs) (n : Nat) (hn : n ≤ 4) :
    Calls Tryd.prog 15 #[.slice a l c, .int .i64 n] w fun e w' => RegsIs e w' (regs0 zs n) ∧ Below w.heap.size w w' := by
  obtain ⟨ir, hir, hz0, hz1, hz2⟩ := info_partsL infoR
  obtain ⟨ST, hST⟩ : ∃ ST, (zeros.map (Value.int .i64)).toArray = ST := ⟨_, rfl⟩
  have hmk : ∀ W : World, (Instr.makeSlice 22 (.int .i64 8192) (.int .i64 8192)).run Tryd.prog W = .ok (.slice (some ⟨W.heap.size, 0, none⟩) 8192 8192) (W.alloc (.cells ST 2)) := fun W => by
    have := run_make_row' (P := Tryd.prog) 22 2 (.int .i64 0) 8 Tryd.underlying22 infoL rfl .i64 .i64 8192 (by decide) (by decide) W
    rw [made_zero, hST] at this
    exact this
  have HV : Hid (View w a l c zs) := h
  have HST : Hid ((zeros.map (Value.int .i64)).toArray = ST) := hST
  have HR0 : Hid (RB w.heap.size (w.alloc (.cells #[.int .i64 1048576, .slice a l c, .bool true] 78)) (.slice (some ⟨w.heap.size, 0, none⟩) 1 1) (.slice a l c) []) := by
    exact ⟨own_new w #[.int .i64 1048576, .slice a l c, .bool true] 78 1 3 rfl (by decide), by simp⟩
  clear h hST
  go_enter Tryd.func15, Tryd.ntmps15
  go_wp2_with fail
  go_loopg [5, 11] n (fun r lv iv wq => ∃ (k : Nat) (bs : List Nat), iv = .int .i64 k ∧ k ≤ n ∧ n - k ≤ r ∧ Hid (bs.length = k) ∧ Hid (RB w.heap.size wq lv (.slice a l c) bs) ∧ Hid (Below w.heap.size w wq))
  case atStart => exact ⟨0, [], rfl, Nat.zero_le _, by omega, rfl, HR0.out, bl_one _ _⟩
  case round =>
    obtain ⟨k, bs, rfl, hk, hr, HBL, HRB, HBW⟩ := hrel
    by_cases hlt : k < n
    · obtain ⟨sb, hsb⟩ : ∃ sb : Int, 2097152 + 65536 * (k : Int) = sb := ⟨_, rfl⟩
      have HSB : Hid (∀ w, Calls Tryd.prog 25 #[.int .i64 k] w fun e w' => e = .returned (.int .i64 sb) ∧ w' = w) := fun w => by rw [← hsb]; exact stackBase_any k (by omega) w
      have HSS : Hid (2097152 + 65536 * (k : Int) = sb) := hsb
      obtain ⟨av, cv, rfl, hnc, hcm⟩ := own_sl HRB.out.row
      have HB1 : Hid (Below wr.heap.size wr ((wr.alloc (.cells ST 2)).alloc (.cells #[.int .i64 sb, .slice (some ⟨wr.heap.size, 0, none⟩) 8192 8192, .bool true] 78)).drew) := (bl2 _ _ _).drew
      have HW1 : Hid ((((wr.alloc (.cells ST 2)).alloc (.cells #[.int .i64 sb, .slice (some ⟨wr.heap.size, 0, none⟩) 8192 8192, .bool true] 78)).drew).ownsRow w.heap.size 78 3 (.slice av (k + 1) cv) (k + 1) (regR 1048576 (.slice a l c) ++ stR 0 bs)) := by
        have := own_below HRB.out.row HB1.out
        rw [HBL.out] at this
        exact this
      have HNC : Hid (∀ j u, (regR sb (.slice (some ⟨wr.heap.size, 0, none⟩) 8192 8192))[j]? = some u → (((wr.alloc (.cells ST 2)).alloc (.cells #[.int .i64 sb, .slice (some ⟨wr.heap.size, 0, none⟩) 8192 8192, .bool true] 78)).drew).cell? ((⟨wr.heap.size + 1, 0, none⟩ : Addr).add j) = some u) := fun j u hu => by
        rw [Addr.add_lit, Nat.zero_add]
        exact cell_last _ _ _ _ _ (by simp) (by simpa [regR] using hu)
      have hws : w.heap.size ≤ wr.heap.size := HBW.out.size
      clear hsb hnc
      rw [HBL.out]
      go_wp2_with fail
      go_region_law ((first | (go_simp; go_at_call 25; refine (HSB.out _).mono ?_; rintro e y ⟨rfl, rfl⟩) | (refine step_append_lies _ (by rfl) _ _ 48 (by rfl) w.heap.size 78 ir _ 3 40 Tryd.underlying48 hir hz0 hz1 hz2 (by rfl) (by decide) (.slice av (k + 1) cv) (k + 1) _ (by rfl) HW1.out ⟨wr.heap.size + 1, 0, none⟩ 1 1 (regR sb (.slice (some ⟨wr.heap.size, 0, none⟩) 8192 8192)) (by rfl) (by rfl) HNC.out (by intro u hu; simp [regR] at hu; rcases hu with rfl | rfl | rfl <;> rfl) (by decide) (by unfold maxLen; omega) (by omega) (by simp; omega) (wr.heap.size + 1 + 1) (by simp) ?_; intro x cp Y6 ho6 hg6 hat6 hlt6)))
      all_goals
        have HBY : Hid (Below w.heap.size w Y6) := below_new (HBW.out.trans (HB1.out.mono hws)) hg6 (fun q hq => (HW1.out.lt q hq).1)
        have HLT : Hid (∀ q, (Value.slice av (k + 1) cv).ownBlock = some q → q < wr.heap.size) := fun q hq => own_lt HRB.out.row (by rw [HBL.out]; exact hq)
        have HRN : Hid (RB w.heap.size Y6 (.slice (some ⟨x, 0, none⟩) (k + 1 + 1) cp) (.slice a l c) (bs ++ [wr.heap.size])) := by
          refine ⟨?_, fun q hq => ?_⟩
          · rw [List.length_append, HBL.out, stR_snoc, HBL.out, Nat.zero_add, HSS.out, ← List.append_assoc]
            exact ho6
          · rcases List.mem_append.1 hq with hq | hq
            · obtain ⟨h1, h2⟩ := HRB.out.st q hq
              rw [HBL.out] at h2
              have hql : q < wr.heap.size := (Array.getElem?_eq_some_iff.1 h1).1
              refine ⟨(hg6.block q (Nat.lt_of_lt_of_le hql HB1.out.size) (fun e => h2 e.symm)).trans ((HB1.out.block q hql).trans h1), fun e => ?_⟩
              have hx : x = q := by simpa [Value.ownBlock] using e
              rcases hat6 with h3 | h3
              · rw [hx] at h3; exact h2 h3
              · omega
            · obtain rfl : q = wr.heap.size := by simpa using hq
              refine ⟨(hg6.block wr.heap.size (by simp; omega) (fun e => by have := HLT.out _ e.symm; omega)).trans ?_, fun e => ?_⟩
              · rw [HST.out]
                exact ((bl_one (wr.alloc (.cells ST 2)) _).block wr.heap.size (by simp)).trans (cell_newA wr ST 2)
              · have hx : x = wr.heap.size := by simpa [Value.ownBlock] using e
                rcases hat6 with h3 | h3
                · have := HLT.out _ h3; omega
                · omega
        have HBN : Hid ((bs ++ [wr.heap.size]).length = k + 1) := by show _ = _; rw [List.length_append, HBL.out]; rfl
        clear ho6 hg6 hat6 hlt6
        go_wp2
        go_roundg (n - (k + 1))
        · exact ⟨k + 1, bs ++ [wr.heap.size], rfl, by omega, Nat.le_refl _, HBN, HRN, HBY⟩
        · omega
    · obtain rfl : k = n := by omega
      obtain ⟨a', cap, rfl, hreg⟩ := HRB.out.regs (HV.out.below HBW.out) (by have := HBL.out; omega)
      rw [HBL.out] at hreg
      have HE : Hid (RegsV wr a' (k + 1) cap (regs0 zs k)) := hreg
      have HRL : Hid ((regs0 zs k).length = k + 1) := by show _ = _; simp [regs0]
      rw [HBL.out]
      clear hreg
      go_wp2
      go_ret
      refine ⟨⟨a', cap, ?_, ?_⟩, HBW.out⟩
      · rw [HRL.out]; rfl
      · rw [HRL.out]; exact HE.out

end Go.Proofs.YtdcdmlboilojmabDoor

/- A machine's regions may be; what stands in them. No walk. -/
namespace Go.Proofs.YtdcdmlboilojmabDoor
open Go.RowKit Go.Maps
set_option linter.unusedVariables false

theorem regs0_len (zs : List Int) (n : Nat) : (regs0 zs n).length = n + 1 := by simp [regs0]
theorem regs0_0 (zs : List Int) (n : Nat) : (regs0 zs n).getD 0 noReg = ⟨1048576, zs, true⟩ := rfl
theorem regs0_s (zs : List Int) (n j : Nat) (hj : j < n) : (regs0 zs n).getD (j + 1) noReg = ⟨2097152 + 65536 * (j : Int), zeros, true⟩ := by simp [regs0, List.getD, hj]
theorem regs0_ok (zs : List Int) (n : Nat) (hz : zs.length ≤ 4096) (hn : n ≤ 4) : AllOk (regs0 zs n) := by
  intro i hi
  rw [regs0_len] at hi
  cases i with
  | zero =>
    rw [regs0_0]
    simp [regOk]
    omega
  | succ j =>
    rw [regs0_s zs n j (by omega)]
    simp only [regOk, zeros_len]
    rw [show (2097152 + 65536 * (j : Int)).tmod 8 = 0 by rw [Int.tmod_eq_emod_of_nonneg (by omega)]; omega]
    simp
    omega
theorem regs0_may (zs : List Int) (n : Nat) (hz : zs.length ≤ 4096) (hn : n ≤ 4) : may (regs0 zs n) = true := by
  refine may_yes _ (by rw [regs0_len]; omega) fun i hi => okAt_yes _ _ (regs0_ok zs n hz hn i hi) fun k hk => ?_
  rw [regs0_len] at hi
  cases i with
  | zero => omega
  | succ j =>
    rw [regs0_s zs n j (by omega)]
    cases k with
    | zero =>
      rw [regs0_0]
      simp only [olap, zeros_len]
      rw [Bool.and_eq_false_iff]
      left
      exact decide_eq_false (by omega)
    | succ l =>
      rw [regs0_s zs n l (by omega)]
      simp only [olap, zeros_len]
      rw [Bool.and_eq_false_iff]
      left
      exact decide_eq_false (by omega)
theorem zeros_at (j : Nat) : zeros.getD j 0 = 0 := by
  unfold zeros
  by_cases h : j < 8192
  · simp only [List.getD, List.getElem?_replicate, if_pos h, Option.getD_some]
  · simp only [List.getD, List.getElem?_replicate, if_neg h, Option.getD_none]
theorem tmod8 (x : Int) : x.tmod 8 = 0 ↔ x % 8 = 0 := by
  constructor
  · intro h
    have := Int.dvd_of_tmod_eq_zero h
    omega
  · intro h
    exact Int.tmod_eq_zero_of_dvd (by omega)
theorem regs0_mem (zs : List Int) (n : Nat) (hz : zs.length ≤ 4096) (hn : n ≤ 4) : MemIs (regs0 zs n) (T.mem0 zs n) := by
  constructor
  · rintro x i j ⟨h8, hi, hin, hno, hj, hjl⟩
    rw [regs0_len] at hi
    rw [tmod8] at h8
    unfold T.mem0 wordAt
    rw [if_pos h8]
    cases i with
    | zero =>
      rw [regs0_0] at *
      simp only [inReg, Bool.and_eq_true, decide_eq_true_eq] at hin hj hjl ⊢
      rw [if_pos hin, ← hj, Int.toNat_natCast]
    | succ l =>
      rw [regs0_s zs n l (by omega)] at *
      simp only [inReg, Bool.and_eq_true, decide_eq_true_eq, zeros_len] at hin hj hjl ⊢
      rw [if_neg (by omega), if_pos (by omega), zeros_at]
  · rintro x (h8 | hno)
    · rw [tmod8] at h8
      unfold T.mem0
      rw [if_neg h8]
    · unfold T.mem0
      by_cases h8 : x % 8 = 0
      · rw [if_pos h8]
        have h0 := hno 0 (by rw [regs0_len]; omega)
        rw [regs0_0] at h0
        simp only [inReg, Bool.and_eq_false_iff, decide_eq_false_iff_not] at h0
        rw [if_neg (by omega), if_neg ?_]
        rintro ⟨h1, h2⟩
        have hk : ((x - 2097152) / 65536).toNat < n := by omega
        have h3 := hno (((x - 2097152) / 65536).toNat + 1) (by rw [regs0_len]; omega)
        rw [regs0_s zs n _ hk] at h3
        simp only [inReg, Bool.and_eq_false_iff, decide_eq_false_iff_not, zeros_len] at h3
        omega
      · rw [if_neg h8]
theorem regs0_write (zs : List Int) (n : Nat) : ∀ i, i < (regs0 zs n).length → ((regs0 zs n).getD i noReg).write = true := by
  intro i hi
  rw [regs0_len] at hi
  cases i with
  | zero => rfl
  | succ j => rw [regs0_s zs n j (by omega)]
theorem regs0_words (zs : List Int) (n : Nat) (hz : zs.length ≤ 4096) : ∀ i, i < n + 1 → ((regs0 zs n).getD i noReg).words.length ≤ 65536 := by
  intro i hi
  cases i with
  | zero => rw [regs0_0]; show zs.length ≤ _; omega
  | succ j => rw [regs0_s zs n j (by omega)]; show zeros.length ≤ _; rw [zeros_len]; omega
theorem regs0_fit (zs : List Int) (n : Nat) (hf : ∀ z ∈ zs, (Lit.int .i64 z).wf = true) : ∀ r ∈ regs0 zs n, ∀ z ∈ r.words, (Lit.int .i64 z).wf = true := by
  intro r hr
  simp only [regs0, List.mem_cons, List.mem_map, List.mem_range] at hr
  rcases hr with rfl | ⟨i, hi, rfl⟩
  · exact hf
  · exact zeros_fit

theorem ths0_len : ∀ (l : List Int) (i : Nat), (T.ths0 i l).length = l.length
  | [], _ => rfl
  | a :: l, i => by rw [T.ths0, List.length_cons, ths0_len l (i + 1), List.length_cons]
theorem ths0_snoc : ∀ (l : List Int) (i : Nat) (a : Int), T.ths0 i (l ++ [a]) = T.ths0 i l ++ [T.th0 (i + l.length) a]
  | [], i, a => rfl
  | b :: l, i, a => by rw [List.cons_append, T.ths0, ths0_snoc l (i + 1) a, T.ths0, List.length_cons, show i + 1 + l.length = i + (l.length + 1) by omega]; rfl
theorem ths0_ws : ∀ (l : List Int) (i : Nat) (h : T.Th), h ∈ T.ths0 i l → h.ws = []
  | [], i, h, hm => by simp [T.ths0] at hm
  | a :: l, i, h, hm => by
    rw [T.ths0, List.mem_cons] at hm
    rcases hm with rfl | hm
    · rfl
    · exact ths0_ws l (i + 1) h hm
/-- Threads, one behind the other, as they lie. -/
def thR : Nat → List T.Th → List Value
  | _, [] => []
  | i, h :: l => thC i h (.slice none 0 0) ++ thR (i + 1) l
theorem thR_snoc : ∀ (l : List T.Th) (i : Nat) (h : T.Th), thR i (l ++ [h]) = thR i l ++ thC (i + l.length) h (.slice none 0 0)
  | [], i, h => by simp [thR]
  | b :: l, i, h => by rw [List.cons_append, thR, thR_snoc l (i + 1) h, thR, List.append_assoc, List.length_cons, show i + 1 + l.length = i + (l.length + 1) by omega]
theorem thR_at : ∀ (l : List T.Th) (i k j : Nat) (h : T.Th), l[k]? = some h → j < 13 → (thR i l)[k * 13 + j]? = (thC (i + k) h (.slice none 0 0))[j]?
  | [], i, k, j, h, hk, _ => by simp at hk
  | b :: l, i, 0, j, h, hk, hj => by
    simp at hk
    subst hk
    rw [thR, Nat.zero_mul, Nat.zero_add, List.getElem?_append_left (by rw [thC_len]; omega)]
    rfl
  | b :: l, i, k + 1, j, h, hk, hj => by
    rw [thR, List.getElem?_append_right (by rw [thC_len]; omega), thC_len, show (k + 1) * 13 + j - 13 = k * 13 + j by omega, thR_at l (i + 1) k j h (by simpa using hk) hj, show i + 1 + k = i + (k + 1) by omega]

end Go.Proofs.YtdcdmlboilojmabDoor

/- A new machine. (Written by gen_new2.py.) -/
namespace Go.Proofs.YtdcdmlboilojmabDoor
open Go.RowKit Go.Maps
set_option linter.unusedVariables false
set_option linter.unusedSimpArgs false

theorem infoT : (Tryd.prog.info? 58).map (fun i => (i.zero, i.size, i.bytes)) = some (some (.agg #[.int .i64 0, .int .i64 0, .int .i64 0, .int .i64 0, .int .i64 0, .int .i64 0, .int .i64 0, .int .i64 0, .int .i64 0, .int .i64 0, .int .i64 0, .int .i64 0, .slice none 0 0]), 13, 120) := by kernel_rfl
theorem strt_fit {ss : List Sym} (h : ∀ s ∈ ss, (Lit.int .i64 s.pos).wf = true) : ∀ z ∈ strt ss, (Lit.int .i64 z).wf = true := by
  intro z hz
  unfold strt at hz
  obtain ⟨s, hs, rfl⟩ := List.mem_map.1 hz
  exact h s (List.mem_filter.1 hs).1
theorem frozen_cells {w : World} {g : Nat} {cur : Array Value} {ty : TypeId} (h : w.heap[g]? = some (.cells cur ty)) (o : Nat) : w.frozen? ⟨g, o, none⟩ = false := by
  unfold World.frozen?
  rw [h]
  rfl
/-- A machine that gets its threads. -/
structure NB (y w : World) (b : Nat) (code : ByteArray) (bm : Nat) (lv : Value) (n : Nat) (cs : List Value) : Prop where
  c0 : w.cell? ⟨b, 0, none⟩ = some (.string code)
  c1 : w.cell? ⟨b, 1, none⟩ = some (.pointer (some ⟨bm, 0, none⟩))
  c2 : w.cell? ⟨b, 2, none⟩ = some lv
  c3 : w.cell? ⟨b, 3, none⟩ = some (.slice none 0 0)
  fz : ∀ o, w.frozen? ⟨b, o, none⟩ = false
  hb : b = y.heap.size
  row : w.ownsRow (y.heap.size + 1) 58 13 lv n cs
  bl : Below y.heap.size y w
theorem NB.below {y w w' : World} {b : Nat} {code : ByteArray} {bm : Nat} {lv : Value} {n : Nat} {cs : List Value} (h : NB y w b code bm lv n cs) (hb : Below w.heap.size w w') : NB y w' b code bm lv n cs :=
  have hbl : b < w.heap.size := World.block_lt_of_cell? w ⟨b, 0, none⟩ h.c0
  ⟨cell_up hb h.c0, cell_up hb h.c1, cell_up hb h.c2, cell_up hb h.c3, fun o => (hb.frozen (p := ⟨b, o, none⟩) hbl).trans (h.fz o), h.hb, own_below h.row hb, h.bl.trans (hb.mono h.bl.size)⟩
theorem NB.push {y w Y : World} {b : Nat} {code : ByteArray} {bm : Nat} {lv lv' : Value} {n : Nat} {cs cs' : List Value} (h : NB y w b code bm lv n cs) (hg : w.grownBy Y lv.ownBlock) (ho : Y.ownsRow (y.heap.size + 1) 58 13 lv' (n + 1) cs') : NB y (Y.setCell ⟨b, 2, none⟩ lv') b code bm lv' (n + 1) cs' := by
  have hbl : b < w.heap.size := World.block_lt_of_cell? w ⟨b, 0, none⟩ h.c0
  have hlb : lv.ownBlock ≠ some b := fun e => by have := (h.row.lt b e).1; have := h.hb; omega
  have hlb' : lv'.ownBlock ≠ some b := fun e => by have := (ho.lt b e).1; have := h.hb; omega
  have eb : Y.heap[b]? = w.heap[b]? := hg.block b hbl (fun e => hlb e.symm)
  have hc : ∀ o, Y.cell? ⟨b, o, none⟩ = w.cell? ⟨b, o, none⟩ := fun o => World.cell?_of_block (a := ⟨b, o, none⟩) eb
  have far : ∀ o, o ≠ 2 → (Y.setCell ⟨b, 2, none⟩ lv').cell? ⟨b, o, none⟩ = w.cell? ⟨b, o, none⟩ := fun o ho => (World.cell?_setCell_other _ _ _ _ (off_ne (fun e => ho e.symm))).trans (hc o)
  refine ⟨(far 0 (by decide)).trans h.c0, (far 1 (by decide)).trans h.c1, World.cell?_setCell_same' _ _ _ (by rw [hc, h.c2]; rfl), (far 3 (by decide)).trans h.c3, fun o => ?_, h.hb, ho.kept (gb_set Y ⟨b, 2, none⟩ lv') (.inr hlb'), ?_⟩
  · rw [World.frozen?_setCell]
    exact blk_froz (p := ⟨b, o, none⟩) eb (h.fz o)
  · have h1 : Below y.heap.size y Y := ⟨hg.os.trans h.bl.os, hg.tape.trans h.bl.tape, hg.output.trans h.bl.output, Nat.le_trans h.bl.size hg.size, fun k hk => (hg.block k (Nat.lt_of_lt_of_le hk h.bl.size) (fun e => by have := (h.row.lt k e.symm).1; omega)).trans (h.bl.block k hk)⟩
    exact h1.setCell (by rw [h.hb]; exact Nat.le_refl _) _
/-- It is one. -/
theorem NB.tv {y w : World} {b : Nat} {code : ByteArray} {data : List Int} {zs : List Int} {bm : Nat} {lv : Value} {br bw : Nat} {mv : Value} {bs : List Nat} {B : Nat} (h : NB y w b code bm lv zs.length (thR 0 (T.ths0 0 zs))) (hm : MemV B y bm (regs0 data zs.length) [] [] br bw 0 0 mv bs) (hd : data.length ≤ 4096) (h1 : 1 ≤ zs.length) (h4 : zs.length ≤ 4) (hB : B ≤ y.heap.size) :
    ∃ t g cap us, TV B w b (T.mach0 code data zs) 0 t bm g cap (.slice none 0 0) us := by
  classical
  obtain ⟨a, cap, rfl, hnc, hcm⟩ := own_sl h.row
  rcases h.row.2 with ⟨h0, -⟩ | ⟨g, cap', cur, e, hgb, hgh, -⟩
  · injection h0 with h0 h5 h6
    omega
  obtain ⟨rfl, -, rfl⟩ : a = some ⟨g, 0, none⟩ ∧ True ∧ cap = cap' := by cases e; exact ⟨rfl, trivial, rfl⟩
  have hgl : g < w.heap.size := (Array.getElem?_eq_some_iff.1 hgh).1
  have hbl : b < w.heap.size := World.block_lt_of_cell? w ⟨b, 0, none⟩ h.c0
  have hbe := h.hb
  have hmw : MemV B w bm (regs0 data zs.length) [] [] br bw 0 0 mv bs := hm.conv (fun k hk => h.bl.block k (hm.lt k hk))
  have hlt : ∀ k, FpM bm br bw mv bs k → k < y.heap.size ∧ B ≤ k := fun k hk => ⟨hm.lt k hk, by
    rcases hk with rfl | rfl | rfl | hk | hk
    · exact hm.lo.1
    · exact hm.lo.2.1
    · exact hm.lo.2.2
    · exact (hm.row.lt _ hk).1
    · obtain ⟨i, hi, rfl⟩ := List.mem_iff_getElem.1 hk
      have := (hm.words i (by have := hm.len; omega)).2
      rw [getD_at hi] at this
      exact this⟩
  refine ⟨fun q => if q = b then 1 else if q = g then 3 else if FpM bm br bw mv bs q then 2 else 0, g, cap, List.replicate zs.length (.slice none 0 0), { c0 := h.c0, c1 := h.c1, c2 := ?_, c3 := h.c3, fz := h.fz, tb := if_pos rfl, room := ?_, mem := ?_, tg := ?_, gz := ?_, len := ?_, tc := ?_, ws := ?_, tw := ?_, evs := World.ownsRow_nil _ _ _ _, te := fun x hx => by simp [Value.ownBlock] at hx, lt := ?_ }⟩
  · show w.cell? ⟨b, 2, none⟩ = some (.slice (some ⟨g, 0, none⟩) (T.ths0 0 zs).length cap)
    rw [ths0_len]
    exact h.c2
  · show (T.ths0 0 zs).length ≤ cap ∧ cap ≤ maxLen ∧ 0 < (T.ths0 0 zs).length
    rw [ths0_len]
    exact ⟨hnc, hcm, h1⟩
  · refine ⟨_, _, _, br, bw, 0, 0, mv, bs, hmw, regs0_ok _ _ hd h4, regs0_write _ _, ?_, Nat.le_refl _, Nat.le_refl _, fun k hk => ?_⟩
    · show MemIs _ (T.mem0 data zs.length)
      exact regs0_mem _ _ hd h4
    · have := hlt k hk
      show (if k = b then 1 else if k = g then 3 else if FpM bm br bw mv bs k then 2 else 0) = 2
      rw [if_neg (by omega), if_neg (by omega), if_pos hk]
  · show (if g = b then 1 else if g = g then 3 else _) = 3
    rw [if_neg (by omega), if_pos rfl]
  · intro o
    exact frozen_cells hgh o
  · show (List.replicate zs.length _).length = (T.ths0 0 zs).length
    rw [ths0_len, List.length_replicate]
  · intro k x u hk hu j v hj
    have hj13 : j < 13 := (List.getElem?_eq_some_iff.1 hj).1
    have hkl : k < zs.length := by rw [← ths0_len zs 0]; exact (List.getElem?_eq_some_iff.1 hk).1
    rw [List.getElem?_replicate, if_pos hkl] at hu
    cases hu
    rw [h.row.cellAt (k * 13 + j) (by omega), thR_at (T.ths0 0 zs) 0 k j x hk hj13, Nat.zero_add]
    exact hj
  · intro k x u hk hu
    have hkl : k < zs.length := by rw [← ths0_len zs 0]; exact (List.getElem?_eq_some_iff.1 hk).1
    rw [List.getElem?_replicate, if_pos hkl] at hu
    cases hu
    have : x.ws = [] := ths0_ws zs 0 x (List.mem_of_getElem? hk)
    rw [this]
    exact World.ownsRow_nil _ _ _ _
  · intro k u x hu hx
    rw [List.getElem?_replicate] at hu
    split at hu
    · cases hu; simp [Value.ownBlock] at hx
    · cases hu
  · intro k hk
    change (if k = b then 1 else if k = g then 3 else if FpM bm br bw mv bs k then 2 else 0) ≠ 0 at hk
    by_cases e1 : k = b
    · subst e1; exact ⟨by omega, hbl⟩
    · rw [if_neg e1] at hk
      by_cases e2 : k = g
      · subst e2; exact ⟨by omega, hgl⟩
      · rw [if_neg e2] at hk
        by_cases e3 : FpM bm br bw mv bs k
        · have := hlt k e3
          exact ⟨this.2, Nat.lt_of_lt_of_le this.1 h.bl.size⟩
        · rw [if_neg e3] at hk; exact absurd rfl hk


end Go.Proofs.YtdcdmlboilojmabDoor

/- A new machine. -/
namespace Go.Proofs.YtdcdmlboilojmabDoor
open Go.RowKit Go.Maps
set_option linter.unusedVariables false
set_option linter.unusedSimpArgs false

def ImgD.may (m : ImgD) : Bool := T.mayRun m.code m.data.length (strt m.syms)
def ImgD.mach (m : ImgD) : T.Mach := T.mach0 m.code m.data (strt m.syms)
def NewIs (B : Nat) (e : Ending) (w' : World) (M : T.Mach) : Prop := ∃ b t bm g cap us, e = .returned (.tuple #[.pointer (some ⟨b, 0, none⟩), .int .i64 0]) ∧ TV B w' b M 0 t bm g cap (.slice none 0 0) us

theorem MemV.lower {B B' : Nat} {w : World} {bm : Nat} {rs : List Reg} {R W : List Int} {br bw nr nw : Nat} {lv : Value} {bs : List Nat} (h : MemV B w bm rs R W br bw nr nw lv bs) (hl : B' ≤ B) : MemV B' w bm rs R W br bw nr nw lv bs :=
  { h with lo := ⟨Nat.le_trans hl h.lo.1, Nat.le_trans hl h.lo.2.1, Nat.le_trans hl h.lo.2.2⟩, row := own_mono h.row hl, words := fun i hi => ⟨(h.words i hi).1, Nat.le_trans hl (h.words i hi).2⟩ }
theorem IntsV.view {w : World} {a : Option Addr} {l c : Nat} {zs : List Int} (h : IntsV w a l c zs) : View w a l c zs := ⟨h.count, h.fits, h.nilOf, h.cells⟩

set_option maxRecDepth 100000 in
set_option maxHeartbeats 8000000 in
theorem tnew_no {w : World} {v : Value} {m : ImgD} (h : ImgV w v m) (hl : m.syms.length ≤ 8796093022208) (hm : m.may = false) :
    Calls Tryd.prog 8 #[v] w fun e w' => e = .returned (.tuple #[.pointer none, .int .i64 1]) ∧ Below w.heap.size w w' := by
  obtain ⟨a1, l1, c1, a2, l2, c2, rfl, hs, h1, h2⟩ := h.form
  obtain ⟨W1, hW1⟩ : ∃ W1, w.alloc (.cells #[.string m.code, .slice a1 l1 c1, .slice a2 l2 c2] 25) = W1 := ⟨_, rfl⟩
  have b1 : Below w.heap.size w W1 := by subst hW1; exact bl_one _ _
  have v0 : W1.cell? ⟨w.heap.size, 0, none⟩ = some (.string m.code) := by subst hW1; exact cell_last _ _ _ _ _ rfl rfl
  have v1 : W1.cell? ⟨w.heap.size, 1, none⟩ = some (.slice a1 l1 c1) := by subst hW1; exact cell_last _ _ _ _ _ rfl rfl
  have v2 : W1.cell? ⟨w.heap.size, 2, none⟩ = some (.slice a2 l2 c2) := by subst hW1; exact cell_last _ _ _ _ _ rfl rfl
  have HB1 : Hid (Below w.heap.size w W1) := b1
  have HI : Hid (ImgV W1 (.agg #[.string m.code, .slice a1 l1 c1, .slice a2 l2 c2]) m) := h.below b1
  have HF : Hid (∀ z ∈ strt m.syms, (Lit.int .i64 z).wf = true) := strt_fit (fun s hs => (h2.fits s hs).2.2)
  have HS : Hid (Calls Tryd.prog 12 #[.slice a2 l2 c2] W1 fun e w' => RowIs W1.heap.size 3 1 e w' (strt m.syms).length ((strt m.syms).flatMap intC) ∧ Below W1.heap.size W1 w') := starts_any (h2.below b1) (by rw [← h2.count]; exact hl)
  have HM : Hid (m.may = false) := hm
  clear h h1 h2 hl hm b1
  go_enter Tryd.func8, Tryd.ntmps8
  go_wp2_with fail
  refine HS.out.mono ?_
  rintro e y1 ⟨⟨sv, rfl, ho1⟩, hb1⟩
  obtain ⟨a, c, rfl, hz1⟩ := ints_own ho1 rfl HF.out
  have v0 := cell_up hb1 v0
  have v1 := cell_up hb1 v1
  have v2 := cell_up hb1 v2
  have h3 := mayRun_any (HI.out.below hb1) hz1
  have hm1 : T.mayRun m.code m.data.length (strt m.syms) = false := HM.out
  rw [hm1] at h3
  obtain ⟨n, hn⟩ : ∃ n, (strt m.syms).length = n := ⟨_, rfl⟩
  rw [hn] at h3
  rw [hn]
  have HMR : Hid (Calls Tryd.prog 13 #[.agg #[.string m.code, .slice a1 l1 c1, .slice a2 l2 c2], .slice a n c] y1 fun e w' => e = .returned (.bool false) ∧ Below y1.heap.size y1 w') := h3
  have HBY : Hid (Below w.heap.size w y1) := HB1.out.trans (hb1.mono HB1.out.size)
  clear hb1 ho1 hz1 h3 hm1 hn
  go_wp2_with fail
  refine HMR.out.mono ?_
  rintro e y2 ⟨rfl, hb2⟩
  have HBZ : Hid (Below w.heap.size w y2) := HBY.out.trans (hb2.mono HBY.out.size)
  clear hb2
  go_wp2
  go_ret2
  exact ⟨rfl, HBZ.out⟩

set_option maxRecDepth 100000 in
set_option maxHeartbeats 8000000 in
theorem tnew_yes {w : World} {v : Value} {m : ImgD} (h : ImgV w v m) (hl : m.syms.length ≤ 8796093022208) (hm : m.may = true) :
    Calls Tryd.prog 8 #[v] w fun e w' => NewIs w.heap.size e w' m.mach ∧ Below w.heap.size w w' := by
  obtain ⟨a1, l1, c1, a2, l2, c2, rfl, hs, h1, h2⟩ := h.form
  obtain ⟨it, hit, hz0, hz1, hz2⟩ := info_partsL infoT
  have hmm : 1 ≤ (strt m.syms).length ∧ (strt m.syms).length ≤ 4 ∧ m.code.size ≤ 65536 ∧ m.data.length ≤ 4096 := by
    have := (Bool.and_eq_true_iff.1 hm).1
    exact of_decide_eq_true this
  have hma : ∀ z ∈ strt m.syms, 0 ≤ z ∧ z < (m.code.size : Int) := fun z hz => by
    have := (Bool.and_eq_true_iff.1 hm).2
    exact of_decide_eq_true (List.all_eq_true.1 this z hz)
  obtain ⟨W1, hW1⟩ : ∃ W1, w.alloc (.cells #[.string m.code, .slice a1 l1 c1, .slice a2 l2 c2] 25) = W1 := ⟨_, rfl⟩
  have b1 : Below w.heap.size w W1 := by subst hW1; exact bl_one _ _
  have v0 : W1.cell? ⟨w.heap.size, 0, none⟩ = some (.string m.code) := by subst hW1; exact cell_last _ _ _ _ _ rfl rfl
  have v1 : W1.cell? ⟨w.heap.size, 1, none⟩ = some (.slice a1 l1 c1) := by subst hW1; exact cell_last _ _ _ _ _ rfl rfl
  have v2 : W1.cell? ⟨w.heap.size, 2, none⟩ = some (.slice a2 l2 c2) := by subst hW1; exact cell_last _ _ _ _ _ rfl rfl
  have HB1 : Hid (Below w.heap.size w W1) := b1
  have HI : Hid (ImgV W1 (.agg #[.string m.code, .slice a1 l1 c1, .slice a2 l2 c2]) m) := h.below b1
  have HD : Hid (View W1 a1 l1 c1 m.data) := (h1.below b1).view
  have HDF : Hid (∀ z ∈ m.data, (Lit.int .i64 z).wf = true) := h1.fits
  have HF : Hid (∀ z ∈ strt m.syms, (Lit.int .i64 z).wf = true) := strt_fit (fun s hs => (h2.fits s hs).2.2)
  have HS : Hid (Calls Tryd.prog 12 #[.slice a2 l2 c2] W1 fun e w' => RowIs W1.heap.size 3 1 e w' (strt m.syms).length ((strt m.syms).flatMap intC) ∧ Below W1.heap.size W1 w') := starts_any (h2.below b1) (by rw [← h2.count]; exact hl)
  have HM : Hid (m.may = true) := hm
  have HMA : Hid _ := hma
  have HMC : Hid (m.mach = T.mach0 m.code m.data (strt m.syms)) := rfl
  clear h h1 h2 hl hm b1 hma
  go_enter Tryd.func8, Tryd.ntmps8
  go_wp2_with fail
  refine HS.out.mono ?_
  rintro e y1 ⟨⟨sv, rfl, ho1⟩, hb1⟩
  obtain ⟨a, c, rfl, hz1'⟩ := ints_own ho1 rfl HF.out
  have v0 := cell_up hb1 v0
  have v1 := cell_up hb1 v1
  have v2 := cell_up hb1 v2
  have h3 := mayRun_any (HI.out.below hb1) hz1'
  have hm1 : T.mayRun m.code m.data.length (strt m.syms) = true := HM.out
  rw [hm1] at h3
  obtain ⟨zs, hzs⟩ : ∃ zs, strt m.syms = zs := ⟨_, rfl⟩
  have HZS : Hid (strt m.syms = zs) := hzs
  rw [hzs] at h3 hz1' HMA HF HMC hmm
  rw [hzs]
  obtain ⟨n, hn⟩ : ∃ n, zs.length = n := ⟨_, rfl⟩
  have HN : Hid (zs.length = n) := hn
  rw [hn] at h3 hz1' hmm
  rw [hn]
  have HMR : Hid (Calls Tryd.prog 13 #[.agg #[.string m.code, .slice a1 l1 c1, .slice a2 l2 c2], .slice a n c] y1 fun e w' => e = .returned (.bool true) ∧ Below y1.heap.size y1 w') := h3
  have HBY : Hid (Below w.heap.size w y1) := HB1.out.trans (hb1.mono HB1.out.size)
  have HD1 : Hid (View y1 a1 l1 c1 m.data) := HD.out.below hb1
  have HZ1 : Hid (IntsV y1 a n c zs) := hz1'
  clear hb1 ho1 hz1' h3 hm1 hn hzs HD
  go_wp2_with fail
  refine HMR.out.mono ?_
  rintro e y2 ⟨rfl, hb2⟩
  have HBZ : Hid (Below w.heap.size w y2) := HBY.out.trans (hb2.mono HBY.out.size)
  have HD2 : Hid (View y2 a1 l1 c1 m.data) := HD1.out.below hb2
  have HZ2 : Hid (IntsV y2 a n c zs) := HZ1.out.below hb2
  have v0 := cell_up hb2 v0
  have v1 := cell_up hb2 v1
  have hna : n ≤ 4 := hmm.2.1
  have HRG : Hid (Calls Tryd.prog 15 #[.slice a1 l1 c1, .int .i64 n] y2 fun e w' => RegsIs e w' (regs0 m.data n) ∧ Below y2.heap.size y2 w') := regions_any HD2.out n hna
  have hro := HZ2.out.room
  unfold maxLen at hro
  clear hb2 HD1 HZ1 v2
  go_wp2_with fail
  refine HRG.out.mono ?_
  rintro e y3 ⟨⟨ra, rc, rfl, hreg⟩, hb3⟩
  have HBA : Hid (Below w.heap.size w y3) := HBZ.out.trans (hb3.mono HBZ.out.size)
  have HZ3 : Hid (IntsV y3 a n c zs) := HZ2.out.below hb3
  have v0 := cell_up hb3 v0
  rw [regs0_len] at hreg
  rw [regs0_len]
  have HNW : Hid (Calls Tryd.prog 14 #[.slice ra (n + 1) rc] y3 fun e w' => ∃ bm br bw lv bs, e = .returned (.tuple #[.pointer (some ⟨bm, 0, none⟩), .int .i64 0]) ∧ MemV y3.heap.size w' bm (regs0 m.data n) [] [] br bw 0 0 lv bs ∧ Below y3.heap.size y3 w') := new_yes hreg (regs0_may _ _ hmm.2.2.2 hna) (by omega) (regs0_words _ _ hmm.2.2.2) (regs0_fit _ _ HDF.out)
  clear hb3 HD2 HZ2 hreg v1
  go_wp2_with fail
  refine HNW.out.mono ?_
  rintro e y4 ⟨bm, br, bw, mv, bs, rfl, hmv, hb4⟩
  have HBB : Hid (Below w.heap.size w y4) := HBA.out.trans (hb4.mono HBA.out.size)
  have HZ4 : Hid (IntsV y4 a n c zs) := HZ3.out.below hb4
  have HMV : Hid (MemV y3.heap.size y4 bm (regs0 m.data n) [] [] br bw 0 0 mv bs) := hmv
  have v0 := cell_up hb4 v0
  have HB34 : Hid (w.heap.size ≤ y3.heap.size ∧ y3.heap.size ≤ y4.heap.size) := ⟨HBA.out.size, hb4.size⟩
  have HNB : Hid (NB y4 (y4.alloc (.cells #[.string m.code, .pointer (some ⟨bm, 0, none⟩), .slice none 0 0, .slice none 0 0] 52)) y4.heap.size m.code bm (.slice none 0 0) 0 (thR 0 (T.ths0 0 (zs.take 0)))) :=
    ⟨cell_last _ _ _ _ _ rfl rfl, cell_last _ _ _ _ _ rfl rfl, cell_last _ _ _ _ _ rfl rfl, cell_last _ _ _ _ _ rfl rfl, fun o => World.frozen?_alloc_at _ _ _ _ rfl, rfl, World.ownsRow_nil _ _ _ _, bl_one _ _⟩
  clear hb4 hmv HZ3
  go_wp2_with fail
  go_loopg [36] n (fun r iv wq => ∃ (k : Nat) (lv : Value), iv = .int .i64 k ∧ k ≤ n ∧ n - k ≤ r ∧ Hid (NB y4 wq y4.heap.size m.code bm lv k (thR 0 (T.ths0 0 (zs.take k)))))
  case atStart => exact ⟨0, _, rfl, Nat.zero_le _, by omega, HNB⟩
  case round =>
    obtain ⟨k, lv, rfl, hk, hr, HK⟩ := hrel
    by_cases hlt : k < n
    · rcases (HZ4.out.below HK.out.bl).cells with h0 | ⟨zb, zo, hA, hcl⟩
      · omega
      have q0 := hcl k hlt
      obtain ⟨z, hz⟩ : ∃ z, zs.getD k 0 = z := ⟨_, rfl⟩
      rw [hz] at q0
      have HTK : Hid (zs.take (k + 1) = zs.take k ++ [z]) := by
        show _ = _
        have hkl : k < zs.length := by rw [HN.out]; exact hlt
        rw [List.take_succ_eq_append_getElem hkl, ← hz]
        simp [List.getD, hkl]
      have hza := HMA.out z (by rw [← hz]; have hkl : k < zs.length := by rw [HN.out]; exact hlt
                                simp [List.getD, hkl])
      have HTL : Hid ((zs.take k).length = k) := by show _ = _; rw [List.length_take, HN.out]; omega
      subst hA
      have hii : (k : Int) < n := by omega
      have hin : 0 ≤ (k : Int) := by omega
      have hnt := newThread_any k (by omega) z (by omega)
      obtain ⟨sb, hsb⟩ : ∃ sb : Int, 2097152 + 65536 * ((k : Int) + 1) = sb := ⟨_, rfl⟩
      obtain ⟨pc, hpc⟩ : ∃ pc : Int, wrap64 (4096 + z) = pc := ⟨_, rfl⟩
      have HTC : Hid (thC k (T.th0 k z) (.slice none 0 0) = [.int .i64 0, .int .i64 0, .int .i64 0, .int .i64 0, .int .i64 0, .int .i64 0, .int .i64 0, .int .i64 sb, .int .i64 pc, .int .i64 0, .int .i64 0, .int .i64 k, .slice none 0 0]) := by
        show _ = _
        unfold thC T.th0 T.noC
        rw [hsb, hpc]
      have HNT : Hid (∀ w, Calls Tryd.prog 16 #[.int .i64 k, .int .i64 z] w fun e w' => e = .returned (.agg #[.int .i64 0, .int .i64 0, .int .i64 0, .int .i64 0, .int .i64 0, .int .i64 0, .int .i64 0, .int .i64 sb, .int .i64 pc, .int .i64 0, .int .i64 0, .int .i64 k, .slice none 0 0]) ∧ Below w.heap.size w w') := fun w => by
        have h5 := hnt w
        unfold thV at h5
        rw [HTC.out] at h5
        exact h5
      obtain ⟨av, cv, rfl, hnc, hcm⟩ := own_sl HK.out.row
      have c2 := HK.out.c2
      have hbl : y4.heap.size < wr.heap.size := World.block_lt_of_cell? wr ⟨y4.heap.size, 0, none⟩ HK.out.c0
      have HA : Hid (∀ y, Below wr.heap.size wr y → y.cell? ⟨y4.heap.size, 2, none⟩ = some (.slice av k cv) ∧ (y.alloc (.cells #[.int .i64 0, .int .i64 0, .int .i64 0, .int .i64 0, .int .i64 0, .int .i64 0, .int .i64 0, .int .i64 sb, .int .i64 pc, .int .i64 0, .int .i64 0, .int .i64 k, .slice none 0 0] 58)).cell? ⟨y4.heap.size, 2, none⟩ = some (.slice av k cv) ∧ (y.alloc (.cells #[.int .i64 0, .int .i64 0, .int .i64 0, .int .i64 0, .int .i64 0, .int .i64 0, .int .i64 0, .int .i64 sb, .int .i64 pc, .int .i64 0, .int .i64 0, .int .i64 k, .slice none 0 0] 58)).ownsRow (y4.heap.size + 1) 58 13 (.slice av k cv) k (thR 0 (T.ths0 0 (zs.take k))) ∧ (∀ j u, ([.int .i64 0, .int .i64 0, .int .i64 0, .int .i64 0, .int .i64 0, .int .i64 0, .int .i64 0, .int .i64 sb, .int .i64 pc, .int .i64 0, .int .i64 0, .int .i64 k, .slice none 0 0] : List Value)[j]? = some u → (y.alloc (.cells #[.int .i64 0, .int .i64 0, .int .i64 0, .int .i64 0, .int .i64 0, .int .i64 0, .int .i64 0, .int .i64 sb, .int .i64 pc, .int .i64 0, .int .i64 0, .int .i64 k, .slice none 0 0] 58)).cell? ((⟨y.heap.size, 0, none⟩ : Addr).add j) = some u) ∧ y4.heap.size + 1 ≤ (y.alloc (.cells #[.int .i64 0, .int .i64 0, .int .i64 0, .int .i64 0, .int .i64 0, .int .i64 0, .int .i64 0, .int .i64 sb, .int .i64 pc, .int .i64 0, .int .i64 0, .int .i64 k, .slice none 0 0] 58)).heap.size) := fun y hy => by
        have h6 : Below wr.heap.size wr (y.alloc (.cells #[.int .i64 0, .int .i64 0, .int .i64 0, .int .i64 0, .int .i64 0, .int .i64 0, .int .i64 0, .int .i64 sb, .int .i64 pc, .int .i64 0, .int .i64 0, .int .i64 k, .slice none 0 0] 58)) := hy.alloc hy.size _
        refine ⟨cell_up hy c2, cell_up h6 c2, own_below HK.out.row h6, fun j u hu => ?_, by have := h6.size; omega⟩
        rw [Addr.add_lit, Nat.zero_add]
        exact cell_last _ _ _ _ _ rfl (by simpa using hu)
      have hvb : (Value.slice av k cv).ownBlock ≠ some y4.heap.size := fun e => by have := (HK.out.row.lt _ e).1; omega
      have HFZ : Hid (wr.frozen? ⟨y4.heap.size, 2, none⟩ = false) := HK.out.fz 2
      clear hcl hz hza hnt hsb hpc hnc
      go_wp2_with fail
      go_region_law ((first | (go_simp; go_at_call 16; refine (HNT.out _).mono ?_; rintro e y ⟨rfl, hby⟩; have HBY2 : Hid (Below wr.heap.size wr y) := (Below.refl _ _).drew.trans hby; obtain ⟨m1, m2, m3, m4, m5⟩ := HA.out y ((Below.refl _ _).drew.trans hby); have HM3 : Hid _ := m3; have HM4 : Hid _ := m4; clear hby m3 m4) | (refine step_append_lies _ (by rfl) _ _ 50 (by rfl) (y4.heap.size + 1) 58 it _ 13 120 Tryd.underlying50 hit hz0 hz1 hz2 (by rfl) (by decide) (.slice av k cv) k _ (by rfl) HM3.out ⟨y.heap.size, 0, none⟩ 1 1 [.int .i64 0, .int .i64 0, .int .i64 0, .int .i64 0, .int .i64 0, .int .i64 0, .int .i64 0, .int .i64 sb, .int .i64 pc, .int .i64 0, .int .i64 0, .int .i64 k, .slice none 0 0] (by rfl) (by rfl) HM4.out (by intro u hu; simp at hu; rcases hu with rfl | rfl | rfl | rfl | rfl | rfl | rfl | rfl | rfl | rfl | rfl | rfl | rfl <;> rfl) (by decide) (by unfold maxLen; omega) (by omega) m5 (y.heap.size + 1) (by simp) ?_; intro x cp Y6 ho6 hg6 hat6 hlt6; have m6 : Y6.cell? ⟨y4.heap.size, 2, none⟩ = some (.slice av k cv) := hg6.cell m2 (fun e => hvb e.symm); have z6 : Y6.frozen? ⟨y4.heap.size, 2, none⟩ = false := (hg6.frozen_far ⟨y4.heap.size, 2, none⟩ (by show y4.heap.size < _; omega) (fun e => hvb e.symm)).trans (((HBY2.out.alloc HBY2.out.size _).frozen (p := ⟨y4.heap.size, 2, none⟩) hbl).trans HFZ.out))))
      all_goals
        have HNN : Hid (NB y4 (Y6.setCell ⟨y4.heap.size, 2, none⟩ (.slice (some ⟨x, 0, none⟩) (k + 1) cp)) y4.heap.size m.code bm (.slice (some ⟨x, 0, none⟩) (k + 1) cp) (k + 1) (thR 0 (T.ths0 0 (zs.take (k + 1))))) := by
          refine (HK.out.below (HBY2.out.alloc HBY2.out.size _)).push hg6 ?_
          rw [HTK.out, ths0_snoc, thR_snoc, ths0_len, HTL.out, Nat.zero_add, HTC.out]
          exact ho6
        clear ho6 hg6 hat6 hlt6 m6 z6 m1 m2 m5
        go_wp2
        go_roundg (n - (k + 1))
        · exact ⟨k + 1, _, rfl, by omega, Nat.le_refl _, HNN⟩
        · omega
    · obtain rfl : k = n := by omega
      have HE : Hid (NewIs w.heap.size (.returned (.tuple #[.pointer (some ⟨y4.heap.size, 0, none⟩), .int .i64 0])) wr m.mach ∧ Below w.heap.size w wr) := by
        have h7 := HK.out
        rw [← HN.out, List.take_length] at h7
        have h8 := HMV.out.lower HB34.out.1
        rw [← HN.out] at h8
        obtain ⟨t, g, cap, us, htv⟩ := h7.tv h8 hmm.2.2.2 (by rw [HN.out]; omega) (by rw [HN.out]; omega) (Nat.le_trans HB34.out.1 HB34.out.2)
        refine ⟨⟨_, t, bm, g, cap, us, rfl, ?_⟩, HBB.out.trans (h7.bl.mono HBB.out.size)⟩
        rw [HMC.out]
        exact htv
      go_wp2
      go_ret2
      exact HE.out

end Go.Proofs.YtdcdmlboilojmabDoor

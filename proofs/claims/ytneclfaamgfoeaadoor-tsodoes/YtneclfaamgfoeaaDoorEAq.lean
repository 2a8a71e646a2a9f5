/- A thread's step; a pick. -/
import Derived.Test.YtneclfaamgfoeaaDoorEAp
import Derived.Test.YtneclfaamgfoeaaDoorEAn
namespace Go.Proofs.YtneclfaamgfoeaaDoor
open Go.RowKit Go.Maps
set_option linter.unusedVariables false
set_option linter.unusedSimpArgs false

theorem T.len_setC (M : T.Mach) (k : Nat) (c : S.C) : (T.setC M k c).ts.length = M.ts.length := T.len_put _ _ _ _
theorem T.doIns_len (M : T.Mach) (k : Nat) : (T.doIns M k).ts.length = M.ts.length := by
  unfold T.doIns
  repeat' split
  · exact (T.len_setC _ _ _).trans (T.ansM_len _ _ _)
  · exact T.len_setC _ _ _
  · exact T.len_setC _ _ _
theorem T.es_leave (M : T.Mach) (k : Nat) : (T.leave M k).es = M.es := by
  unfold T.leave
  split <;> rfl
theorem T.es_full (M : T.Mach) (k : Nat) : (T.full M k).es = M.es := by
  unfold T.full
  split
  · exact T.es_leave M k
  · rfl
theorem T.ansM_es (M : T.Mach) (k : Nat) (q : S.Q) : (T.ansM M k q).es = if q.k = 6 then M.es ++ [((k : Int), 1, q.v)] else M.es := by
  unfold T.ansM
  by_cases h6 : q.k = 6
  · rw [if_pos h6, if_neg (by omega), if_neg (by omega), if_neg (by omega), if_neg (by omega), if_pos h6]
    rfl
  · rw [if_neg h6]
    cases M.mem q.a with
    | none =>
      simp only [T.has]
      repeat' split
      all_goals first | rfl | omega
    | some v =>
      simp only [T.has]
      repeat' split
      all_goals first | rfl | omega | exact T.es_full M k
theorem T.doIns_es (M : T.Mach) (k : Nat) : (T.doIns M k).es.length ≤ M.es.length + 1 := by
  unfold T.doIns
  repeat' split
  · show (T.ansM M k _).es.length ≤ _
    rw [T.ansM_es]
    split
    · simp
    · omega
  · show M.es.length ≤ _; omega
  · show M.es.length ≤ _; omega

set_option maxRecDepth 100000 in
set_option maxHeartbeats 4000000 in
theorem goon_no {B : Nat} {w : World} {b : Nat} {M : T.Mach} {K : Nat} {t : Nat → Nat} {bm g cap : Nat} {ev : Value} {us : List Value} (h : TV B w b M K t bm g cap ev us) {k p : Nat} (hk : k < M.ts.length) (hq : p = k * 13) (hs : ¬ (M.th k).c.st = 0) :
    Calls Tryd.prog 32 #[.pointer (some ⟨b, 0, none⟩), .pointer (some ⟨g, p, none⟩)] w fun e w' => e = .returned (.bool false) ∧ w' = w := by
  obtain ⟨u, hu⟩ := h.u hk
  have d9 : w.cell? ⟨g, p + 9, none⟩ = some (.int .i64 (M.th k).c.st) := by rw [hq]; exact h.cell hk hu 9 _ rfl
  clear h hq hu
  go_enter Tryd.func32, Tryd.ntmps32
  go_wp2
  go_ret
  exact ⟨rfl, rfl⟩

set_option maxRecDepth 100000 in
set_option maxHeartbeats 4000000 in
theorem goon_yes {B : Nat} {w : World} {b : Nat} {M : T.Mach} {K : Nat} {t : Nat → Nat} {bm g cap : Nat} {ev : Value} {us : List Value} (h : TV B w b M K t bm g cap ev us) {k p : Nat} (hk : k < M.ts.length) (hq : p = k * 13) (hok : WsOk (M.th k).ws) (h8 : (M.th k).ws.length ≤ 8) (hes : M.es.length ≤ 900000) (hK : K + 3000 < maxLen) (ht : Tab w) (hB2 : 2 ≤ B) (hcode : M.code.size ≤ 65536) (hs : (M.th k).c.st = 0) :
    Calls Tryd.prog 32 #[.pointer (some ⟨b, 0, none⟩), .pointer (some ⟨g, p, none⟩)] w fun e w' => e = .returned (.bool true) ∧ Gone B w w' b (T.seen (T.doIns M k) k) (K + 11) t bm g cap := by
  obtain ⟨u, hu⟩ := h.u hk
  have d9 : w.cell? ⟨g, p + 9, none⟩ = some (.int .i64 0) := by rw [hq, ← hs]; exact h.cell hk hu 9 _ rfl
  have h0 := doins_any h hk hq hok h8 (by omega) hK ht hB2 hcode
  have hes2 := T.doIns_es M k
  have hk2 : k < (T.doIns M k).ts.length := by rw [T.doIns_len]; exact hk
  obtain ⟨M2, hM2⟩ : ∃ M2, T.doIns M k = M2 := ⟨_, rfl⟩
  rw [hM2] at h0 hes2 hk2
  rw [hM2]
  have HI : Hid (Calls Tryd.prog 45 #[.pointer (some ⟨b, 0, none⟩), .pointer (some ⟨g, p, none⟩)] w fun e w' => e = .returned (.tuple #[]) ∧ Gone B w w' b M2 (K + 11) t bm g cap) := h0
  have HQP : Hid (p = k * 13) := hq
  clear h hq hu h0 hM2 hok hs
  go_enter Tryd.func32, Tryd.ntmps32
  go_wp2_with fail
  refine HI.out.mono ?_
  rintro e y1 ⟨rfl, t1, ev1, us1, hv1, hs1⟩
  obtain ⟨u1, hu1⟩ := hv1.u hk2
  have e9 : y1.cell? ⟨g, p + 9, none⟩ = some (.int .i64 (M2.th k).c.st) := by rw [HQP.out]; exact hv1.cell hk2 hu1 9 _ rfl
  have e10 : y1.cell? ⟨g, p + 10, none⟩ = some (.int .i64 (M2.th k).c.tr) := by rw [HQP.out]; exact hv1.cell hk2 hu1 10 _ rfl
  have HV1 : Hid (TV B y1 b M2 (K + 11) t1 bm g cap ev1 us1) := hv1
  have HS1 : Hid (St t t1 w y1) := hs1
  have HSE : Hid (∀ a n, Calls Tryd.prog 46 #[.pointer (some ⟨b, 0, none⟩), .pointer (some ⟨g, p, none⟩), .int .i64 a, .int .i64 n] y1 fun e w' => e = .returned (.tuple #[]) ∧ Gone B y1 w' b (M2.see k a n) (K + 11) t1 bm g cap) := fun a n => by
    refine (see_any hv1 hk2 HQP.out a n (by omega)).mono ?_
    rintro e w' ⟨rfl, t', ev', h1, h2⟩
    exact ⟨rfl, t', ev', us1, h1, h2⟩
  have HSN : Hid (∀ z, (M2.th k).c.st = z → T.seen M2 k = if z = 1 then M2.see k 2 0 else if z = 2 then M2.see k 3 (M2.th k).c.tr else M2) := fun z hz => by unfold T.seen; rw [hz]
  obtain ⟨s1, hs1'⟩ : ∃ s1, (M2.th k).c.st = s1 := ⟨_, rfl⟩
  obtain ⟨r1, hr1'⟩ : ∃ r1, (M2.th k).c.tr = r1 := ⟨_, rfl⟩
  have h2 := HSN.out s1 hs1'
  rw [hr1'] at h2
  rw [hs1'] at e9
  rw [hr1'] at e10
  have HSN2 : Hid (T.seen M2 k = if s1 = 1 then M2.see k 2 0 else if s1 = 2 then M2.see k 3 r1 else M2) := h2
  clear hv1 hs1 hu1 d9 HSN hs1' hr1' h2
  by_cases e1 : s1 = 1
  · subst e1
    go_wp2_with fail
    refine (HSE.out 2 0).mono ?_
    rintro e y2 ⟨rfl, t2, ev2, us2, hv2, hs2⟩
    have HV2 : Hid (TV B y2 b (M2.see k 2 0) (K + 11) t2 bm g cap ev2 us2) := hv2
    have HS2 : Hid (St t1 t2 y1 y2) := hs2
    clear hv2 hs2
    go_wp2
    go_ret
    refine ⟨rfl, t2, ev2, us2, ?_, HS1.out.trans HS2.out⟩
    rw [HSN2.out, if_pos trivial]
    exact HV2.out
  · by_cases e2 : s1 = 2
    · subst e2
      go_wp2_with fail
      refine (HSE.out 3 r1).mono ?_
      rintro e y2 ⟨rfl, t2, ev2, us2, hv2, hs2⟩
      have HV2 : Hid (TV B y2 b (M2.see k 3 r1) (K + 11) t2 bm g cap ev2 us2) := hv2
      have HS2 : Hid (St t1 t2 y1 y2) := hs2
      clear hv2 hs2
      go_wp2
      go_ret
      refine ⟨rfl, t2, ev2, us2, ?_, HS1.out.trans HS2.out⟩
      rw [HSN2.out, if_neg e1, if_pos trivial]
      exact HV2.out
    · go_wp2
      go_ret
      refine ⟨rfl, t1, ev1, us1, ?_, HS1.out⟩
      rw [HSN2.out, if_neg e1, if_neg e2]
      exact HV1.out

/-- What is asked of a machine's threads. -/
def MOk (M : T.Mach) : Prop := ∀ k, k < M.ts.length → WsOk (M.th k).ws ∧ (M.th k).ws.length ≤ 8

theorem goon_any {B : Nat} {w : World} {b : Nat} {M : T.Mach} {K : Nat} {t : Nat → Nat} {bm g cap : Nat} {ev : Value} {us : List Value} (h : TV B w b M K t bm g cap ev us) {k p : Nat} (hk : k < M.ts.length) (hq : p = k * 13) (hok : MOk M) (hes : M.es.length ≤ 900000) (hK : K + 3000 < maxLen) (ht : Tab w) (hB2 : 2 ≤ B) (hcode : M.code.size ≤ 65536) :
    Calls Tryd.prog 32 #[.pointer (some ⟨b, 0, none⟩), .pointer (some ⟨g, p, none⟩)] w fun e w' => e = .returned (.bool (T.went M k)) ∧ Gone B w w' b (T.goOn M k) (K + 11) t bm g cap := by
  unfold T.went T.goOn
  by_cases hs : (M.th k).c.st = 0
  · rw [decide_eq_true hs, if_pos hs]
    exact goon_yes h hk hq (hok k hk).1 (hok k hk).2 hes hK ht hB2 hcode hs
  · rw [decide_eq_false hs, if_neg hs]
    refine (goon_no h hk hq hs).mono ?_
    rintro e w' ⟨rfl, rfl⟩
    exact ⟨rfl, t, ev, us, h.mono (by omega), St.refl _ _⟩

theorem leave_any {B : Nat} {w : World} {b : Nat} {M : T.Mach} {K : Nat} {t : Nat → Nat} {bm g cap : Nat} {ev : Value} {us : List Value} (h : TV B w b M K t bm g cap ev us) {k p : Nat} (hk : k < M.ts.length) (hq : p = k * 13) (hok : MOk M) (hK : K + 3000 < maxLen) :
    Calls Tryd.prog 33 #[.pointer (some ⟨b, 0, none⟩), .pointer (some ⟨g, p, none⟩)] w fun e w' => e = .returned (.bool (T.leaves M k)) ∧ Gone B w w' b (T.leave M k) (K + 11) t bm g cap := by
  unfold T.leaves T.leave
  cases e : (M.th k).ws with
  | nil =>
    refine (leave_no h hk hq e).mono ?_
    rintro e w' ⟨rfl, rfl⟩
    exact ⟨rfl, t, ev, us, h.mono (by omega), St.refl _ _⟩
  | cons p' r =>
    obtain ⟨y, v⟩ := p'
    have h1 := (hok k hk).1.2 (y, v) (by rw [e]; exact List.mem_cons_self)
    have h2 := (hok k hk).2
    rw [e] at h2
    refine (leave_yes h hk hq e h1.1 h1.2 (by omega) (by simp at h2; omega)).mono ?_
    rintro e w' ⟨rfl, t', us', h3, h4⟩
    exact ⟨rfl, t', ev, us', h3.mono (by omega), h4⟩

set_option maxRecDepth 100000 in
set_option maxHeartbeats 4000000 in
theorem threads_any {B : Nat} {w : World} {b : Nat} {M : T.Mach} {K : Nat} {t : Nat → Nat} {bm g cap : Nat} {ev : Value} {us : List Value} (h : TV B w b M K t bm g cap ev us) :
    Calls Tryd.prog 20 #[.pointer (some ⟨b, 0, none⟩)] w fun e w' => e = .returned (.int .i64 M.ts.length) ∧ w' = w := by
  have c2 := h.c2
  obtain ⟨n, hn⟩ : ∃ n, M.ts.length = n := ⟨_, rfl⟩
  have hr := h.room
  rw [hn] at c2 hr
  rw [hn]
  unfold maxLen at hr
  clear h hn
  go_enter Tryd.func20, Tryd.ntmps20
  go_wp2
  go_ret
  exact ⟨rfl, rfl⟩

theorem Gone.drew {B : Nat} {w w' : World} {b : Nat} {M : T.Mach} {K : Nat} {t : Nat → Nat} {bm g cap : Nat} (h : Gone B w.drew w' b M K t bm g cap) : Gone B w w' b M K t bm g cap := by
  obtain ⟨t', ev', us', h1, h2⟩ := h
  exact ⟨t', ev', us', h1, (St.ofBelow t (Below.refl _ _).drew).trans h2⟩

set_option maxRecDepth 100000 in
set_option maxHeartbeats 4000000 in
theorem do_any {B : Nat} {w : World} {b : Nat} {M : T.Mach} {K : Nat} {t : Nat → Nat} {bm g cap : Nat} {ev : Value} {us : List Value} (h : TV B w b M K t bm g cap ev us) (hok : MOk M) (hes : M.es.length ≤ 900000) (hK : K + 3000 < maxLen) (ht : Tab w) (hB2 : 2 ≤ B) (hcode : M.code.size ≤ 65536) (h4 : M.ts.length ≤ 4) (pick : Int) (hp : (Lit.int .i64 pick).wf = true) :
    Calls Tryd.prog 14 #[.pointer (some ⟨b, 0, none⟩), .int .i64 pick] w fun e w' => e = .returned (.bool (T.did M pick)) ∧ Gone B w w' b (T.act M pick) (K + 11) t bm g cap := by
  have hr := h.room
  have c2 := h.c2
  have HT : Hid (Calls Tryd.prog 20 #[.pointer (some ⟨b, 0, none⟩)] w fun e w' => e = .returned (.int .i64 M.ts.length) ∧ w' = w) := threads_any h
  have hw : -9223372036854775808 ≤ pick ∧ pick ≤ 9223372036854775807 := by
    have := hp
    simp [Lit.wf, IntKind.min, IntKind.max, IntKind.signed, IntKind.bits] at this
    omega
  have hpk : 0 ≤ T.pk pick ∧ T.pk pick ≤ 9223372036854775807 := by unfold T.pk; split <;> omega
  obtain ⟨k, hk0⟩ : ∃ k, T.who M pick = k := ⟨_, rfl⟩
  have hki : (k : Int) = T.pk pick / 2 % (M.ts.length : Int) := by
    rw [← hk0]
    unfold T.who
    have := Int.emod_nonneg (T.pk pick / 2) (b := (M.ts.length : Int)) (by omega)
    omega
  have hk : k < M.ts.length := by
    have := Int.emod_lt_of_pos (T.pk pick / 2) (b := (M.ts.length : Int)) (by omega)
    omega
  have HG := goon_any (h.below (Below.refl _ _).drew) hk rfl hok hes hK ht.drew hB2 hcode
  have HL := leave_any (h.below (Below.refl _ _).drew) hk rfl hok hK
  have hdid : T.did M pick = if T.pk pick % 2 = 0 then T.went M k else T.leaves M k := by unfold T.did; rw [hk0]
  have hact : T.act M pick = if T.pk pick % 2 = 0 then T.goOn M k else T.leave M k := by unfold T.act; rw [hk0]
  rw [hdid, hact]
  have hneg : pick < 0 → IntKind.i64.wrap (-1 - pick) = T.pk pick := fun h1 => by unfold T.pk; rw [if_pos h1, IntKind.wrap_i64]; omega
  have hpos : ¬ pick < 0 → pick = T.pk pick := fun h1 => by unfold T.pk; rw [if_neg h1]
  obtain ⟨n, hn⟩ : ∃ n, M.ts.length = n := ⟨_, rfl⟩
  rw [hn] at hr c2 HT hki hk h4
  obtain ⟨P, hP⟩ : ∃ P, T.pk pick = P := ⟨_, rfl⟩
  rw [hP] at hpk hki hneg hpos
  rw [hP]
  have q1 : P.tdiv 2 = P / 2 := Int.tdiv_eq_ediv_of_nonneg hpk.1
  have q2 : (P / 2).tmod (n : Int) = k := by rw [Int.tmod_eq_emod_of_nonneg (by omega)]; exact hki.symm
  have q3 : P / 2 % (n : Int) = k := hki.symm
  have q4 : P.tmod 2 = P % 2 := Int.tmod_eq_emod_of_nonneg hpk.1
  have hn0 : ¬ (n : Int) = 0 := by omega
  have hkn : (k : Int) < (n : Int) := by omega
  unfold maxLen at hr
  have HG2 : Hid (Calls Tryd.prog 32 #[.pointer (some ⟨b, 0, none⟩), .pointer (some ⟨g, k * 13, none⟩)] w.drew fun e w' => e = .returned (.bool (T.went M k)) ∧ Gone B w.drew w' b (T.goOn M k) (K + 11) t bm g cap) := HG
  have HL2 : Hid (Calls Tryd.prog 33 #[.pointer (some ⟨b, 0, none⟩), .pointer (some ⟨g, k * 13, none⟩)] w.drew fun e w' => e = .returned (.bool (T.leaves M k)) ∧ Gone B w.drew w' b (T.leave M k) (K + 11) t bm g cap) := HL
  clear HG HL h hdid hact hn hP hki hk0 hok hp
  by_cases hpar : P % 2 = 0
  · rw [if_pos hpar, if_pos hpar]
    rw [hpar] at q4
    by_cases hs : pick < 0
    · have hwr := hneg hs
      clear hneg hpos
      go_enter Tryd.func14, Tryd.ntmps14
      go_wp2_with fail
      refine HT.out.mono ?_
      rintro e y ⟨rfl, rfl⟩
      go_wp2_with fail
      go_region
      go_wp2_with fail
      refine HG2.out.mono ?_
      rintro e y2 ⟨rfl, hg⟩
      have HGo : Hid (Gone B y.drew y2 b (T.goOn M k) (K + 11) t bm g cap) := hg
      clear hg
      go_wp2
      go_ret
      exact ⟨rfl, HGo.out.drew⟩
    · obtain rfl := hpos hs
      clear hneg hpos
      go_enter Tryd.func14, Tryd.ntmps14
      go_wp2_with fail
      refine HT.out.mono ?_
      rintro e y ⟨rfl, rfl⟩
      go_wp2_with fail
      go_region
      go_wp2_with fail
      refine HG2.out.mono ?_
      rintro e y2 ⟨rfl, hg⟩
      have HGo : Hid (Gone B y.drew y2 b (T.goOn M k) (K + 11) t bm g cap) := hg
      clear hg
      go_wp2
      go_ret
      exact ⟨rfl, HGo.out.drew⟩
  · rw [if_neg hpar, if_neg hpar]
    have hpar1 : P % 2 = 1 := by omega
    rw [hpar1] at q4
    clear hpar
    by_cases hs : pick < 0
    · have hwr := hneg hs
      clear hneg hpos
      go_enter Tryd.func14, Tryd.ntmps14
      go_wp2_with fail
      refine HT.out.mono ?_
      rintro e y ⟨rfl, rfl⟩
      go_wp2_with fail
      go_region
      go_wp2_with fail
      refine HL2.out.mono ?_
      rintro e y2 ⟨rfl, hg⟩
      have HGo : Hid (Gone B y.drew y2 b (T.leave M k) (K + 11) t bm g cap) := hg
      clear hg
      go_wp2
      go_ret
      exact ⟨rfl, HGo.out.drew⟩
    · obtain rfl := hpos hs
      clear hneg hpos
      go_enter Tryd.func14, Tryd.ntmps14
      go_wp2_with fail
      refine HT.out.mono ?_
      rintro e y ⟨rfl, rfl⟩
      go_wp2_with fail
      go_region
      go_wp2_with fail
      refine HL2.out.mono ?_
      rintro e y2 ⟨rfl, hg⟩
      have HGo : Hid (Gone B y.drew y2 b (T.leave M k) (K + 11) t bm g cap) := hg
      clear hg
      go_wp2
      go_ret
      exact ⟨rfl, HGo.out.drew⟩

end Go.Proofs.YtneclfaamgfoeaaDoor

/- What a machine shows: a thread, a word, its events. (Written by gen_view.py.) -/
namespace Go.Proofs.YtneclfaamgfoeaaDoor
open Go.RowKit Go.Maps
set_option linter.unusedVariables false
set_option linter.unusedSimpArgs false

/-- What comes back is a row of one's own. -/
def RowIs (B : Nat) (ty : TypeId) (m : Nat) (e : Ending) (w' : World) (n : Nat) (cs : List Value) : Prop := ∃ v', e = .returned v' ∧ w'.ownsRow B ty m v' n cs
theorem cell_new0 (w : World) (ty : TypeId) : (w.alloc (.cells #[] ty)).heap[w.heap.size]? = some (.cells #[] ty) := by rw [← World.alloc_eq]; simp
theorem own_new0 (w : World) (ty : TypeId) (m : Nat) : (w.alloc (.cells #[] ty)).ownsRow w.heap.size ty m (.slice (some ⟨w.heap.size, 0, none⟩) 0 0) 0 [] :=
  ⟨by simp, .inr ⟨w.heap.size, 0, #[], rfl, Nat.le_refl _, cell_new0 w ty, Nat.zero_le _, Nat.zero_le _, by simp, by simp⟩⟩
theorem own_mono {w : World} {B B' : Nat} {ty : TypeId} {m n : Nat} {v : Value} {cs : List Value} (h : w.ownsRow B ty m v n cs) (hl : B' ≤ B) : w.ownsRow B' ty m v n cs := by
  refine ⟨h.1, ?_⟩
  rcases h.2 with h0 | ⟨g, cap, cur, e, h1, h2⟩
  · exact .inl h0
  · exact .inr ⟨g, cap, cur, e, Nat.le_trans hl h1, h2⟩
theorem below_new {w x y : World} {v : Value} (hb : Below w.heap.size w x) (hg : x.grownBy y v.ownBlock) (hv : ∀ g, v.ownBlock = some g → w.heap.size ≤ g) : Below w.heap.size w y :=
  ⟨hg.os.trans hb.os, hg.tape.trans hb.tape, hg.output.trans hb.output, Nat.le_trans hb.size hg.size, fun k hk => (hg.block k (Nat.lt_of_lt_of_le hk hb.size) (fun e => by have := hv k e.symm; omega)).trans (hb.block k hk)⟩

set_option maxRecDepth 100000 in
set_option maxHeartbeats 4000000 in
theorem cloneW_any {B : Nat} {w : World} {u : Value} {ws : List T.Wait} (ho : w.ownsRow B 52 2 u ws.length (ws.flatMap wC)) (hn : ws.length ≤ 1000000) :
    Calls Tryd.prog 36 #[u] w fun e w' => RowIs w.heap.size 52 2 e w' ws.length (ws.flatMap wC) ∧ Below w.heap.size w w' := by
  obtain ⟨a, c, rfl, hnil, hat⟩ := row_at (m := 2) (f := wC) (0, 0) (fun _ => rfl) ho rfl
  obtain ⟨hnc, hcm⟩ : ws.length ≤ c ∧ c ≤ maxLen := by obtain ⟨a', c', e, h1, h2⟩ := own_sl ho; cases e; exact ⟨h1, h2⟩
  have HLN : Hid ((ws.flatMap wC).length = ws.length * 2) := flat_len' (m := 2) (fun _ => rfl) ws
  have HON : Hid (∀ u ∈ ws.flatMap wC, u.oneCell' = true) := fun u hu => by
    obtain ⟨p, -, hp⟩ := List.mem_flatMap.1 hu
    simp [wC] at hp
    rcases hp with rfl | rfl <;> rfl
  have HC : Hid (∀ ad, a = some ad → ∀ j u, (ws.flatMap wC)[j]? = some u → w.cell? (ad.add j) = some u) := fun ad had j u hu => by
    rcases hat with h0 | ⟨g, off, rfl, hc⟩
    · have : ws = [] := List.eq_nil_of_length_eq_zero h0
      rw [this] at hu
      simp at hu
    · cases had
      rw [Addr.add_lit]
      exact flat_cells (m := 2) (d := (0, 0)) (fun _ => rfl) (by decide) hc j u hu
  obtain ⟨iw, hiw, hp0, hp1, hp2⟩ := info_partsL infoW
  unfold maxLen at hcm
  obtain ⟨n, hN⟩ : ∃ n, ws.length = n := ⟨_, rfl⟩
  obtain ⟨cs, hcs⟩ : ∃ cs, ws.flatMap wC = cs := ⟨_, rfl⟩
  rw [hcs] at HLN HON HC
  rw [hN] at HLN hnc hn hnil
  rw [hcs, hN]
  have heq : ∀ (x : Option Addr) (l c : Nat) (w : World), (binOp .eql 45 (.slice x l c) (.slice none 0 0)).run Tryd.prog w = .ok (.bool x.isNone) w := fun x l c w => Lib.run_eql_slice_nil w 45 52 x l c 0 0 Tryd.underlying45
  clear ho hat hN hcs
  cases a with
  | none =>
    obtain ⟨rfl, rfl⟩ := hnil rfl
    obtain rfl : cs = [] := List.eq_nil_of_length_eq_zero (by have := HLN.out; omega)
    clear HC HON HLN hnil
    go_enter Tryd.func36, Tryd.ntmps36
    go_wp2
    go_ret
    exact ⟨⟨_, rfl, World.ownsRow_nil _ _ _ _⟩, Below.refl _ _⟩
  | some ad =>
    clear hnil
    have HB1 : Hid (Below w.heap.size w (w.alloc (.cells #[] 52))) := bl_one _ _
    have HW1 : Hid ((w.alloc (.cells #[] 52)).ownsRow w.heap.size 52 2 (.slice (some ⟨w.heap.size, 0, none⟩) 0 0) 0 []) := own_new0 _ _ _
    have HC1 : Hid (∀ ad', some ad = some ad' → ∀ j u, cs[j]? = some u → (w.alloc (.cells #[] 52)).cell? (ad'.add j) = some u) := fun ad' h j u hu => cell_up HB1.out (HC.out ad' h j u hu)
    go_enter Tryd.func36, Tryd.ntmps36
    go_wp2_with (first | (at_builtin; refine wpList_append_more rfl _ _ 45 rfl w.heap.size 52 iw _ 2 16 Tryd.underlying45 hiw hp0 hp1 hp2 rfl (by decide) rfl HW1.out HB1.out.size rfl (fun e => by cases e) HLN.out HC1.out HON.out (by omega) (by omega) ?_) | go_in)
    intro v' Y ho hg hat
    have HY : Hid (Below w.heap.size w Y) := below_new HB1.out hg (fun g hg => by cases hg; exact Nat.le_refl _)
    have HO : Hid (Y.ownsRow w.heap.size 52 2 v' n cs) := ho
    clear ho hg hat
    go_wp2
    go_ret
    exact ⟨⟨_, rfl, HO.out⟩, HY.out⟩

set_option maxRecDepth 100000 in
set_option maxHeartbeats 4000000 in
theorem cloneE_any {B : Nat} {w : World} {u : Value} {ws : List T.Ev} (ho : w.ownsRow B 81 3 u ws.length (ws.flatMap eC)) (hn : ws.length ≤ 1000000) :
    Calls Tryd.prog 39 #[u] w fun e w' => RowIs w.heap.size 81 3 e w' ws.length (ws.flatMap eC) ∧ Below w.heap.size w w' := by
  obtain ⟨a, c, rfl, hnil, hat⟩ := row_at (m := 3) (f := eC) (0, 0, 0) (fun _ => rfl) ho rfl
  obtain ⟨hnc, hcm⟩ : ws.length ≤ c ∧ c ≤ maxLen := by obtain ⟨a', c', e, h1, h2⟩ := own_sl ho; cases e; exact ⟨h1, h2⟩
  have HLN : Hid ((ws.flatMap eC).length = ws.length * 3) := flat_len' (m := 3) (fun _ => rfl) ws
  have HON : Hid (∀ u ∈ ws.flatMap eC, u.oneCell' = true) := fun u hu => by
    obtain ⟨p, -, hp⟩ := List.mem_flatMap.1 hu
    simp [eC] at hp
    rcases hp with rfl | rfl | rfl <;> rfl
  have HC : Hid (∀ ad, a = some ad → ∀ j u, (ws.flatMap eC)[j]? = some u → w.cell? (ad.add j) = some u) := fun ad had j u hu => by
    rcases hat with h0 | ⟨g, off, rfl, hc⟩
    · have : ws = [] := List.eq_nil_of_length_eq_zero h0
      rw [this] at hu
      simp at hu
    · cases had
      rw [Addr.add_lit]
      exact flat_cells (m := 3) (d := (0, 0, 0)) (fun _ => rfl) (by decide) hc j u hu
  obtain ⟨iw, hiw, hp0, hp1, hp2⟩ := info_partsL infoE
  unfold maxLen at hcm
  obtain ⟨n, hN⟩ : ∃ n, ws.length = n := ⟨_, rfl⟩
  obtain ⟨cs, hcs⟩ : ∃ cs, ws.flatMap eC = cs := ⟨_, rfl⟩
  rw [hcs] at HLN HON HC
  rw [hN] at HLN hnc hn hnil
  rw [hcs, hN]
  have heq : ∀ (x : Option Addr) (l c : Nat) (w : World), (binOp .eql 39 (.slice x l c) (.slice none 0 0)).run Tryd.prog w = .ok (.bool x.isNone) w := fun x l c w => Lib.run_eql_slice_nil w 39 81 x l c 0 0 Tryd.underlying39
  clear ho hat hN hcs
  cases a with
  | none =>
    obtain ⟨rfl, rfl⟩ := hnil rfl
    obtain rfl : cs = [] := List.eq_nil_of_length_eq_zero (by have := HLN.out; omega)
    clear HC HON HLN hnil
    go_enter Tryd.func39, Tryd.ntmps39
    go_wp2
    go_ret
    exact ⟨⟨_, rfl, World.ownsRow_nil _ _ _ _⟩, Below.refl _ _⟩
  | some ad =>
    clear hnil
    have HB1 : Hid (Below w.heap.size w (w.alloc (.cells #[] 81))) := bl_one _ _
    have HW1 : Hid ((w.alloc (.cells #[] 81)).ownsRow w.heap.size 81 3 (.slice (some ⟨w.heap.size, 0, none⟩) 0 0) 0 []) := own_new0 _ _ _
    have HC1 : Hid (∀ ad', some ad = some ad' → ∀ j u, cs[j]? = some u → (w.alloc (.cells #[] 81)).cell? (ad'.add j) = some u) := fun ad' h j u hu => cell_up HB1.out (HC.out ad' h j u hu)
    go_enter Tryd.func39, Tryd.ntmps39
    go_wp2_with (first | (at_builtin; refine wpList_append_more rfl _ _ 39 rfl w.heap.size 81 iw _ 3 24 Tryd.underlying39 hiw hp0 hp1 hp2 rfl (by decide) rfl HW1.out HB1.out.size rfl (fun e => by cases e) HLN.out HC1.out HON.out (by omega) (by omega) ?_) | go_in)
    intro v' Y ho hg hat
    have HY : Hid (Below w.heap.size w Y) := below_new HB1.out hg (fun g hg => by cases hg; exact Nat.le_refl _)
    have HO : Hid (Y.ownsRow w.heap.size 81 3 v' n cs) := ho
    clear ho hg hat
    go_wp2
    go_ret
    exact ⟨⟨_, rfl, HO.out⟩, HY.out⟩

set_option maxRecDepth 100000 in
set_option maxHeartbeats 4000000 in
theorem word_any {B : Nat} {w : World} {b : Nat} {M : T.Mach} {K : Nat} {t : Nat → Nat} {bm g cap : Nat} {ev : Value} {us : List Value} (h : TV B w b M K t bm g cap ev us) (x : Int) (hx : (Lit.int .i64 x).wf = true) (hK : K + 1000 < maxLen) :
    Calls Tryd.prog 18 #[.pointer (some ⟨b, 0, none⟩), .int .i64 x] w fun e w' => e = .returned (.tuple #[.int .i64 ((M.mem x).getD 0), .int .i64 (T.er (M.mem x))]) ∧ TV B w' b M (K + 1) t bm g cap ev us ∧ St t t w w' := by
  have c1 := h.c1
  have h0 := mp_load h.mem x hx (by omega) h.hB
  obtain ⟨z1, hz1⟩ : ∃ z1, (M.mem x).getD 0 = z1 := ⟨_, rfl⟩
  obtain ⟨z2, hz2⟩ : ∃ z2, T.er (M.mem x) = z2 := ⟨_, rfl⟩
  rw [hz1, hz2] at h0
  rw [hz1, hz2]
  have HM : Hid (Calls Tryd.prog 37 #[.pointer (some ⟨bm, 0, none⟩), .int .i64 x] w fun e w' => e = .returned (.tuple #[.int .i64 z1, .int .i64 z2]) ∧ MP B w' bm M.mem (K + 1) t ∧ On t 2 w w') := h0
  have HV : Hid (TV B w b M K t bm g cap ev us) := h
  clear h h0 hz1 hz2
  go_enter Tryd.func18, Tryd.ntmps18
  go_wp2_with fail
  refine HM.out.mono ?_
  rintro e y2 ⟨rfl, hm, hon⟩
  have HV2 : Hid (TV B y2 b M (K + 1) t bm g cap ev us) := HV.out.memop hon hm
  have HS2 : Hid (St t t w y2) := hon.st (by decide)
  clear hm hon
  go_wp2
  go_ret2
  exact ⟨rfl, HV2.out, HS2.out⟩

set_option maxRecDepth 100000 in
set_option maxHeartbeats 4000000 in
theorem events_any {B : Nat} {w : World} {b : Nat} {M : T.Mach} {K : Nat} {t : Nat → Nat} {bm g cap : Nat} {ev : Value} {us : List Value} (h : TV B w b M K t bm g cap ev us) (hes : M.es.length ≤ 1000000) :
    Calls Tryd.prog 22 #[.pointer (some ⟨b, 0, none⟩)] w fun e w' => RowIs w.heap.size 81 3 e w' M.es.length (M.es.flatMap eC) ∧ Below w.heap.size w w' := by
  have c3 := h.c3
  have HC : Hid (Calls Tryd.prog 39 #[ev] w fun e w' => RowIs w.heap.size 81 3 e w' M.es.length (M.es.flatMap eC) ∧ Below w.heap.size w w') := cloneE_any h.evs hes
  obtain ⟨n, hn⟩ : ∃ n, M.es.length = n := ⟨_, rfl⟩
  obtain ⟨cs, hcs⟩ : ∃ cs, M.es.flatMap eC = cs := ⟨_, rfl⟩
  rw [hn, hcs] at HC
  rw [hn, hcs]
  clear h hn hcs
  go_enter Tryd.func22, Tryd.ntmps22
  go_wp2_with fail
  refine HC.out.mono ?_
  rintro e y2 ⟨⟨v', rfl, ho⟩, hb⟩
  have HO : Hid (y2.ownsRow w.heap.size 81 3 v' n cs) := ho
  have HB : Hid (Below w.heap.size w y2) := hb
  clear ho hb
  go_wp2
  go_ret
  exact ⟨⟨_, rfl, HO.out⟩, HB.out⟩

theorem ch_below {w z : World} {B q : Nat} (h : Below B w z) (hq : B ≤ q) (c : S.C) : Below B w (((((((((((z.setCell ⟨q, 0, none⟩ (.int .i64 c.r0)).setCell ⟨q, 1, none⟩ (.int .i64 c.r1)).setCell ⟨q, 2, none⟩ (.int .i64 c.r2)).setCell ⟨q, 3, none⟩ (.int .i64 c.r3)).setCell ⟨q, 4, none⟩ (.int .i64 c.r4)).setCell ⟨q, 5, none⟩ (.int .i64 c.r5)).setCell ⟨q, 6, none⟩ (.int .i64 c.r6)).setCell ⟨q, 7, none⟩ (.int .i64 c.r7)).setCell ⟨q, 8, none⟩ (.int .i64 c.pc)).setCell ⟨q, 9, none⟩ (.int .i64 c.st)).setCell ⟨q, 10, none⟩ (.int .i64 c.tr)) :=
  ((((((((((h.setCell hq _).setCell hq _).setCell hq _).setCell hq _).setCell hq _).setCell hq _).setCell hq _).setCell hq _).setCell hq _).setCell hq _).setCell hq _
theorem ch1_own {z : World} {B q o : Nat} {ty : TypeId} {m n : Nat} {v u : Value} {cs : List Value} (h : z.ownsRow B ty m v n cs) (hq : q < B) : (z.setCell ⟨q, o, none⟩ u).ownsRow B ty m v n cs :=
  h.kept (gb_set _ ⟨q, o, none⟩ _) (.inr fun e => by have := (h.lt _ e).1; simp only at this; omega)
theorem ch_own {z : World} {B q : Nat} {ty : TypeId} {m n : Nat} {v : Value} {cs : List Value} (h : z.ownsRow B ty m v n cs) (hq : q < B) (c : S.C) : ((((((((((((z.setCell ⟨q, 0, none⟩ (.int .i64 c.r0)).setCell ⟨q, 1, none⟩ (.int .i64 c.r1)).setCell ⟨q, 2, none⟩ (.int .i64 c.r2)).setCell ⟨q, 3, none⟩ (.int .i64 c.r3)).setCell ⟨q, 4, none⟩ (.int .i64 c.r4)).setCell ⟨q, 5, none⟩ (.int .i64 c.r5)).setCell ⟨q, 6, none⟩ (.int .i64 c.r6)).setCell ⟨q, 7, none⟩ (.int .i64 c.r7)).setCell ⟨q, 8, none⟩ (.int .i64 c.pc)).setCell ⟨q, 9, none⟩ (.int .i64 c.st)).setCell ⟨q, 10, none⟩ (.int .i64 c.tr))).ownsRow B ty m v n cs :=
  ch1_own (ch1_own (ch1_own (ch1_own (ch1_own (ch1_own (ch1_own (ch1_own (ch1_own (ch1_own (ch1_own h hq) hq) hq) hq) hq) hq) hq) hq) hq) hq) hq

/-- A thread, as Thread tells it. -/
def ThIs (B : Nat) (e : Ending) (w' : World) (h : T.Th) : Prop := ∃ v', e = .returned (.tuple #[h.c.v, v']) ∧ w'.ownsRow B 52 2 v' h.ws.length (h.ws.flatMap wC)
set_option maxRecDepth 100000 in
set_option maxHeartbeats 8000000 in
theorem thread_any {B : Nat} {w : World} {b : Nat} {M : T.Mach} {K : Nat} {t : Nat → Nat} {bm g cap : Nat} {ev : Value} {us : List Value} (h : TV B w b M K t bm g cap ev us) {k : Nat} (hk : k < M.ts.length) (h8 : (M.th k).ws.length ≤ 1000) :
    Calls Tryd.prog 16 #[.pointer (some ⟨b, 0, none⟩), .int .i64 k] w fun e w' => ThIs w.heap.size e w' (M.th k) ∧ Below w.heap.size w w' := by
  obtain ⟨X1, hX1⟩ : ∃ X1, w.alloc (.cells #[.int .i64 0, .int .i64 0, .int .i64 0, .int .i64 0, .int .i64 0, .int .i64 0, .int .i64 0, .int .i64 0, .int .i64 0, .int .i64 0, .int .i64 0] 44) = X1 := ⟨_, rfl⟩
  have hb1 : Below w.heap.size w X1 := by subst hX1; exact bl_one _ _
  have hz1 : w.heap.size < X1.heap.size := by subst hX1; simp
  have hv1 : TV B X1 b M K t bm g cap ev us := h.below hb1
  obtain ⟨u, hu⟩ := hv1.u hk
  have d0 : X1.cell? ⟨g, k * 13, none⟩ = some (.int .i64 (M.th k).c.r0) := hv1.cell hk hu 0 _ rfl
  have d1 : X1.cell? ⟨g, k * 13 + 1, none⟩ = some (.int .i64 (M.th k).c.r1) := hv1.cell hk hu 1 _ rfl
  have d2 : X1.cell? ⟨g, k * 13 + 2, none⟩ = some (.int .i64 (M.th k).c.r2) := hv1.cell hk hu 2 _ rfl
  have d3 : X1.cell? ⟨g, k * 13 + 3, none⟩ = some (.int .i64 (M.th k).c.r3) := hv1.cell hk hu 3 _ rfl
  have d4 : X1.cell? ⟨g, k * 13 + 4, none⟩ = some (.int .i64 (M.th k).c.r4) := hv1.cell hk hu 4 _ rfl
  have d5 : X1.cell? ⟨g, k * 13 + 5, none⟩ = some (.int .i64 (M.th k).c.r5) := hv1.cell hk hu 5 _ rfl
  have d6 : X1.cell? ⟨g, k * 13 + 6, none⟩ = some (.int .i64 (M.th k).c.r6) := hv1.cell hk hu 6 _ rfl
  have d7 : X1.cell? ⟨g, k * 13 + 7, none⟩ = some (.int .i64 (M.th k).c.r7) := hv1.cell hk hu 7 _ rfl
  have d8 : X1.cell? ⟨g, k * 13 + 8, none⟩ = some (.int .i64 (M.th k).c.pc) := hv1.cell hk hu 8 _ rfl
  have d9 : X1.cell? ⟨g, k * 13 + 9, none⟩ = some (.int .i64 (M.th k).c.st) := hv1.cell hk hu 9 _ rfl
  have d10 : X1.cell? ⟨g, k * 13 + 10, none⟩ = some (.int .i64 (M.th k).c.tr) := hv1.cell hk hu 10 _ rfl
  have d11 : X1.cell? ⟨g, k * 13 + 11, none⟩ = some (.int .i64 k) := hv1.cell hk hu 11 _ rfl
  have d12 : X1.cell? ⟨g, k * 13 + 12, none⟩ = some u := hv1.cell hk hu 12 _ rfl
  have c2 := hv1.c2
  have hro := hv1.room
  have hgl := hv1.gl
  have hbl := hv1.bl
  have hwg : g < w.heap.size := h.gl
  have hwb : b < w.heap.size := h.bl
  have HZ : Hid (∀ o, X1.frozen? ⟨w.heap.size, o, none⟩ = false) := fun o => by subst hX1; exact World.frozen?_alloc_at _ _ _ _ rfl
  have o0 : X1.cell? ⟨w.heap.size, 0, none⟩ = some (.int .i64 0) := by subst hX1; exact cell_last _ _ _ _ _ rfl rfl
  have o1 : X1.cell? ⟨w.heap.size, 1, none⟩ = some (.int .i64 0) := by subst hX1; exact cell_last _ _ _ _ _ rfl rfl
  have o2 : X1.cell? ⟨w.heap.size, 2, none⟩ = some (.int .i64 0) := by subst hX1; exact cell_last _ _ _ _ _ rfl rfl
  have o3 : X1.cell? ⟨w.heap.size, 3, none⟩ = some (.int .i64 0) := by subst hX1; exact cell_last _ _ _ _ _ rfl rfl
  have o4 : X1.cell? ⟨w.heap.size, 4, none⟩ = some (.int .i64 0) := by subst hX1; exact cell_last _ _ _ _ _ rfl rfl
  have o5 : X1.cell? ⟨w.heap.size, 5, none⟩ = some (.int .i64 0) := by subst hX1; exact cell_last _ _ _ _ _ rfl rfl
  have o6 : X1.cell? ⟨w.heap.size, 6, none⟩ = some (.int .i64 0) := by subst hX1; exact cell_last _ _ _ _ _ rfl rfl
  have o7 : X1.cell? ⟨w.heap.size, 7, none⟩ = some (.int .i64 0) := by subst hX1; exact cell_last _ _ _ _ _ rfl rfl
  have o8 : X1.cell? ⟨w.heap.size, 8, none⟩ = some (.int .i64 0) := by subst hX1; exact cell_last _ _ _ _ _ rfl rfl
  have o9 : X1.cell? ⟨w.heap.size, 9, none⟩ = some (.int .i64 0) := by subst hX1; exact cell_last _ _ _ _ _ rfl rfl
  have o10 : X1.cell? ⟨w.heap.size, 10, none⟩ = some (.int .i64 0) := by subst hX1; exact cell_last _ _ _ _ _ rfl rfl
  have HT : Hid (Calls Tryd.prog 20 #[.pointer (some ⟨b, 0, none⟩)] X1 fun e w' => e = .returned (.int .i64 M.ts.length) ∧ w' = X1) := threads_any hv1
  have HC : Hid (∀ y, Below X1.heap.size X1 y → Calls Tryd.prog 36 #[u] y fun e w' => RowIs y.heap.size 52 2 e w' (M.th k).ws.length ((M.th k).ws.flatMap wC) ∧ Below y.heap.size y w') := fun y hy => cloneW_any ((hv1.below hy).ws k _ u (T.th_at hk) hu) (by omega)
  obtain ⟨a, c, rfl, hnc, hcm⟩ := own_sl (hv1.ws k _ u (T.th_at hk) hu)
  obtain ⟨n, hn⟩ : ∃ n, M.ts.length = n := ⟨_, rfl⟩
  rw [hn] at c2 hro HT hk
  obtain ⟨th, hth⟩ : ∃ th, M.th k = th := ⟨_, rfl⟩
  rw [hth] at HC d0 d1 d2 d3 d4 d5 d6 d7 d8 d9 d10 d12 hnc h8
  rw [hth]
  have hkn : (k : Int) < (n : Int) := by omega
  have hk0 : decide ((k : Int) < 0) = false := decide_eq_false (by omega)
  have hk1 : decide ((n : Int) ≤ (k : Int)) = false := decide_eq_false (by omega)
  unfold maxLen at hro hcm
  clear h hv1 hu hn hth
  go_enter Tryd.func16, Tryd.ntmps16
  go_wp2_with fail
  refine HT.out.mono ?_
  rintro e y ⟨rfl, rfl⟩
  go_wp2_with fail
  have HKK : Hid (∀ z : World, Below w.heap.size w z → (z.cell? ⟨b, 2, none⟩ = some (.slice (some ⟨g, 0, none⟩) n cap) ∧ z.cell? ⟨g, k * 13, none⟩ = some (.int .i64 th.c.r0) ∧ z.cell? ⟨g, k * 13 + 1, none⟩ = some (.int .i64 th.c.r1) ∧ z.cell? ⟨g, k * 13 + 2, none⟩ = some (.int .i64 th.c.r2) ∧ z.cell? ⟨g, k * 13 + 3, none⟩ = some (.int .i64 th.c.r3) ∧ z.cell? ⟨g, k * 13 + 4, none⟩ = some (.int .i64 th.c.r4) ∧ z.cell? ⟨g, k * 13 + 5, none⟩ = some (.int .i64 th.c.r5) ∧ z.cell? ⟨g, k * 13 + 6, none⟩ = some (.int .i64 th.c.r6) ∧ z.cell? ⟨g, k * 13 + 7, none⟩ = some (.int .i64 th.c.r7) ∧ z.cell? ⟨g, k * 13 + 8, none⟩ = some (.int .i64 th.c.pc) ∧ z.cell? ⟨g, k * 13 + 9, none⟩ = some (.int .i64 th.c.st) ∧ z.cell? ⟨g, k * 13 + 10, none⟩ = some (.int .i64 th.c.tr) ∧ z.cell? ⟨g, k * 13 + 12, none⟩ = some (.slice a th.ws.length c))) := fun z hz => ⟨(hz.cell (p := ⟨b, 2, none⟩) hwb).trans ((hb1.cell (p := ⟨b, 2, none⟩) hwb).symm.trans c2), (hz.cell (p := ⟨g, k * 13, none⟩) hwg).trans ((hb1.cell (p := ⟨g, k * 13, none⟩) hwg).symm.trans d0), (hz.cell (p := ⟨g, k * 13 + 1, none⟩) hwg).trans ((hb1.cell (p := ⟨g, k * 13 + 1, none⟩) hwg).symm.trans d1), (hz.cell (p := ⟨g, k * 13 + 2, none⟩) hwg).trans ((hb1.cell (p := ⟨g, k * 13 + 2, none⟩) hwg).symm.trans d2), (hz.cell (p := ⟨g, k * 13 + 3, none⟩) hwg).trans ((hb1.cell (p := ⟨g, k * 13 + 3, none⟩) hwg).symm.trans d3), (hz.cell (p := ⟨g, k * 13 + 4, none⟩) hwg).trans ((hb1.cell (p := ⟨g, k * 13 + 4, none⟩) hwg).symm.trans d4), (hz.cell (p := ⟨g, k * 13 + 5, none⟩) hwg).trans ((hb1.cell (p := ⟨g, k * 13 + 5, none⟩) hwg).symm.trans d5), (hz.cell (p := ⟨g, k * 13 + 6, none⟩) hwg).trans ((hb1.cell (p := ⟨g, k * 13 + 6, none⟩) hwg).symm.trans d6), (hz.cell (p := ⟨g, k * 13 + 7, none⟩) hwg).trans ((hb1.cell (p := ⟨g, k * 13 + 7, none⟩) hwg).symm.trans d7), (hz.cell (p := ⟨g, k * 13 + 8, none⟩) hwg).trans ((hb1.cell (p := ⟨g, k * 13 + 8, none⟩) hwg).symm.trans d8), (hz.cell (p := ⟨g, k * 13 + 9, none⟩) hwg).trans ((hb1.cell (p := ⟨g, k * 13 + 9, none⟩) hwg).symm.trans d9), (hz.cell (p := ⟨g, k * 13 + 10, none⟩) hwg).trans ((hb1.cell (p := ⟨g, k * 13 + 10, none⟩) hwg).symm.trans d10), (hz.cell (p := ⟨g, k * 13 + 12, none⟩) hwg).trans ((hb1.cell (p := ⟨g, k * 13 + 12, none⟩) hwg).symm.trans d12)⟩
  have HOO : Hid (∀ z : World, Below y.heap.size y z → z.cell? ⟨w.heap.size, 0, none⟩ = some (.int .i64 0) ∧ z.cell? ⟨w.heap.size, 1, none⟩ = some (.int .i64 0) ∧ z.cell? ⟨w.heap.size, 2, none⟩ = some (.int .i64 0) ∧ z.cell? ⟨w.heap.size, 3, none⟩ = some (.int .i64 0) ∧ z.cell? ⟨w.heap.size, 4, none⟩ = some (.int .i64 0) ∧ z.cell? ⟨w.heap.size, 5, none⟩ = some (.int .i64 0) ∧ z.cell? ⟨w.heap.size, 6, none⟩ = some (.int .i64 0) ∧ z.cell? ⟨w.heap.size, 7, none⟩ = some (.int .i64 0) ∧ z.cell? ⟨w.heap.size, 8, none⟩ = some (.int .i64 0) ∧ z.cell? ⟨w.heap.size, 9, none⟩ = some (.int .i64 0) ∧ z.cell? ⟨w.heap.size, 10, none⟩ = some (.int .i64 0) ∧ z.frozen? ⟨w.heap.size, 0, none⟩ = false ∧ z.frozen? ⟨w.heap.size, 1, none⟩ = false ∧ z.frozen? ⟨w.heap.size, 2, none⟩ = false ∧ z.frozen? ⟨w.heap.size, 3, none⟩ = false ∧ z.frozen? ⟨w.heap.size, 4, none⟩ = false ∧ z.frozen? ⟨w.heap.size, 5, none⟩ = false ∧ z.frozen? ⟨w.heap.size, 6, none⟩ = false ∧ z.frozen? ⟨w.heap.size, 7, none⟩ = false ∧ z.frozen? ⟨w.heap.size, 8, none⟩ = false ∧ z.frozen? ⟨w.heap.size, 9, none⟩ = false ∧ z.frozen? ⟨w.heap.size, 10, none⟩ = false) := fun z hz => ⟨cell_up hz o0, cell_up hz o1, cell_up hz o2, cell_up hz o3, cell_up hz o4, cell_up hz o5, cell_up hz o6, cell_up hz o7, cell_up hz o8, cell_up hz o9, cell_up hz o10, (hz.frozen (p := ⟨w.heap.size, 0, none⟩) hz1).trans (HZ.out 0), (hz.frozen (p := ⟨w.heap.size, 1, none⟩) hz1).trans (HZ.out 1), (hz.frozen (p := ⟨w.heap.size, 2, none⟩) hz1).trans (HZ.out 2), (hz.frozen (p := ⟨w.heap.size, 3, none⟩) hz1).trans (HZ.out 3), (hz.frozen (p := ⟨w.heap.size, 4, none⟩) hz1).trans (HZ.out 4), (hz.frozen (p := ⟨w.heap.size, 5, none⟩) hz1).trans (HZ.out 5), (hz.frozen (p := ⟨w.heap.size, 6, none⟩) hz1).trans (HZ.out 6), (hz.frozen (p := ⟨w.heap.size, 7, none⟩) hz1).trans (HZ.out 7), (hz.frozen (p := ⟨w.heap.size, 8, none⟩) hz1).trans (HZ.out 8), (hz.frozen (p := ⟨w.heap.size, 9, none⟩) hz1).trans (HZ.out 9), (hz.frozen (p := ⟨w.heap.size, 10, none⟩) hz1).trans (HZ.out 10)⟩
  clear o0 o1 o2 o3 o4 o5 o6 o7 o8 o9 o10 c2 d0 d1 d2 d3 d4 d5 d6 d7 d8 d9 d10 d12
  refine wp_region_held_drew (S := (fun w' : World => w'.cell? ⟨b, 2, none⟩ = some (.slice (some ⟨g, 0, none⟩) n cap) ∧ w'.cell? ⟨g, k * 13, none⟩ = some (.int .i64 th.c.r0) ∧ w'.cell? ⟨g, k * 13 + 1, none⟩ = some (.int .i64 th.c.r1) ∧ w'.cell? ⟨g, k * 13 + 2, none⟩ = some (.int .i64 th.c.r2) ∧ w'.cell? ⟨g, k * 13 + 3, none⟩ = some (.int .i64 th.c.r3) ∧ w'.cell? ⟨g, k * 13 + 4, none⟩ = some (.int .i64 th.c.r4) ∧ w'.cell? ⟨g, k * 13 + 5, none⟩ = some (.int .i64 th.c.r5) ∧ w'.cell? ⟨g, k * 13 + 6, none⟩ = some (.int .i64 th.c.r6) ∧ w'.cell? ⟨g, k * 13 + 7, none⟩ = some (.int .i64 th.c.r7) ∧ w'.cell? ⟨g, k * 13 + 8, none⟩ = some (.int .i64 th.c.pc) ∧ w'.cell? ⟨g, k * 13 + 9, none⟩ = some (.int .i64 th.c.st) ∧ w'.cell? ⟨g, k * 13 + 10, none⟩ = some (.int .i64 th.c.tr) ∧ w'.cell? ⟨g, k * 13 + 12, none⟩ = some (.slice a th.ws.length c))) (by kernel_rfl) (HKK.out _ hb1.drew) (fun hHeld => ?_)
  refine wpAnyH_take (i := 0) (v := ?_) (get0 _ _) (by kernel_rfl) (by kernel_rfl) (by kernel_rfl) (fun _ _ _ h => h) (Or.inl ⟨by rfl, ?_⟩) (by assumption) ?_
  rotate_left
  · (intro w hSw; (try dsimp only at hSw); go_simp <;> with_reducible rfl)
  simp only [Act.put, List.setIfInBounds_toArray, List.set_cons_zero, List.set_cons_succ]
  refine wpAnyH_take (i := 1) (v := ?_) (get1 (get0 _ _)) (by kernel_rfl) (by kernel_rfl) (by kernel_rfl) (fun _ _ _ h => h) (Or.inl ⟨by rfl, ?_⟩) (by assumption) ?_
  rotate_left
  · (intro w hSw; (try dsimp only at hSw); go_simp <;> with_reducible rfl)
  simp only [Act.put, List.setIfInBounds_toArray, List.set_cons_zero, List.set_cons_succ]
  refine wpAnyH_take (i := 2) (v := ?_) (get1 (get1 (get0 _ _))) (by kernel_rfl) (by kernel_rfl) (by kernel_rfl) (fun _ _ _ h => h) (Or.inl ⟨by rfl, ?_⟩) (by assumption) ?_
  rotate_left
  · (intro w hSw; (try dsimp only at hSw); go_simp <;> with_reducible rfl)
  simp only [Act.put, List.setIfInBounds_toArray, List.set_cons_zero, List.set_cons_succ]
  refine wpAnyH_take (i := 3) (v := ?_) (get1 (get1 (get1 (get0 _ _)))) (by kernel_rfl) (by kernel_rfl) (by kernel_rfl) (fun _ _ _ h => h) (Or.inl ⟨by rfl, ?_⟩) (by assumption) ?_
  rotate_left
  · (intro w hSw; (try dsimp only at hSw); go_simp <;> with_reducible rfl)
  simp only [Act.put, List.setIfInBounds_toArray, List.set_cons_zero, List.set_cons_succ]
  refine wpAnyH_take (i := 4) (v := ?_) (get1 (get1 (get1 (get1 (get0 _ _))))) (by kernel_rfl) (by kernel_rfl) (by kernel_rfl) (fun _ _ _ h => h) (Or.inl ⟨by rfl, ?_⟩) (by assumption) ?_
  rotate_left
  · (intro w hSw; (try dsimp only at hSw); go_simp <;> with_reducible rfl)
  simp only [Act.put, List.setIfInBounds_toArray, List.set_cons_zero, List.set_cons_succ]
  refine wpAnyH_take (i := 5) (v := ?_) (get1 (get1 (get1 (get1 (get1 (get0 _ _)))))) (by kernel_rfl) (by kernel_rfl) (by kernel_rfl) (fun _ _ _ h => h) (Or.inl ⟨by rfl, ?_⟩) (by assumption) ?_
  rotate_left
  · (intro w hSw; (try dsimp only at hSw); go_simp <;> with_reducible rfl)
  simp only [Act.put, List.setIfInBounds_toArray, List.set_cons_zero, List.set_cons_succ]
  refine wpAnyH_take (i := 6) (v := ?_) (get1 (get1 (get1 (get1 (get1 (get1 (get0 _ _))))))) (by kernel_rfl) (by kernel_rfl) (by kernel_rfl) (fun _ _ _ h => h) (Or.inl ⟨by rfl, ?_⟩) (by assumption) ?_
  rotate_left
  · (intro w hSw; (try dsimp only at hSw); go_simp <;> with_reducible rfl)
  simp only [Act.put, List.setIfInBounds_toArray, List.set_cons_zero, List.set_cons_succ]
  refine wpAnyH_take (i := 7) (v := ?_) (get1 (get1 (get1 (get1 (get1 (get1 (get1 (get0 _ _)))))))) (by kernel_rfl) (by kernel_rfl) (by kernel_rfl) (fun _ _ _ h => h) (Or.inl ⟨by rfl, ?_⟩) (by assumption) ?_
  rotate_left
  · (intro w hSw; (try dsimp only at hSw); go_simp <;> with_reducible rfl)
  simp only [Act.put, List.setIfInBounds_toArray, List.set_cons_zero, List.set_cons_succ]
  refine wpAnyH_take (i := 8) (v := ?_) (get1 (get1 (get1 (get1 (get1 (get1 (get1 (get1 (get0 _ _))))))))) (by kernel_rfl) (by kernel_rfl) (by kernel_rfl) (fun _ _ _ h => h) (Or.inl ⟨by rfl, ?_⟩) (by assumption) ?_
  rotate_left
  · (intro w hSw; (try dsimp only at hSw); go_simp <;> with_reducible rfl)
  simp only [Act.put, List.setIfInBounds_toArray, List.set_cons_zero, List.set_cons_succ]
  refine wpAnyH_take (i := 9) (v := ?_) (get1 (get1 (get1 (get1 (get1 (get1 (get1 (get1 (get1 (get0 _ _)))))))))) (by kernel_rfl) (by kernel_rfl) (by kernel_rfl) (fun _ _ _ h => h) (Or.inl ⟨by rfl, ?_⟩) (by assumption) ?_
  rotate_left
  · (intro w hSw; (try dsimp only at hSw); go_simp <;> with_reducible rfl)
  simp only [Act.put, List.setIfInBounds_toArray, List.set_cons_zero, List.set_cons_succ]
  refine wpAnyH_take (i := 10) (v := ?_) (get1 (get1 (get1 (get1 (get1 (get1 (get1 (get1 (get1 (get1 (get0 _ _))))))))))) (by kernel_rfl) (by kernel_rfl) (by kernel_rfl) (fun _ _ _ h => h) (Or.inl ⟨by rfl, ?_⟩) (by assumption) ?_
  rotate_left
  · (intro w hSw; (try dsimp only at hSw); go_simp <;> with_reducible rfl)
  simp only [Act.put, List.setIfInBounds_toArray, List.set_cons_zero, List.set_cons_succ]
  refine wpAnyH_take (i := 11) (v := ?_) (get1 (get1 (get1 (get1 (get1 (get1 (get1 (get1 (get1 (get1 (get1 (get0 _ _)))))))))))) (by kernel_rfl) (by kernel_rfl) (by kernel_rfl) (fun _ _ _ h => h) (Or.inl ⟨by rfl, ?_⟩) (by assumption) ?_
  rotate_left
  · (intro w hSw; (try dsimp only at hSw); go_simp <;> with_reducible rfl)
  simp only [Act.put, List.setIfInBounds_toArray, List.set_cons_zero, List.set_cons_succ]
  refine wpAnyH_take (i := 12) (v := ?_) (get1 (get1 (get1 (get1 (get1 (get1 (get1 (get1 (get1 (get1 (get1 (get1 (get0 _ _))))))))))))) (by kernel_rfl) (by kernel_rfl) (by kernel_rfl) (fun _ _ _ h => h) (Or.inl ⟨by rfl, ?_⟩) (by assumption) ?_
  rotate_left
  · (intro w hSw; (try dsimp only at hSw); go_simp <;> with_reducible rfl)
  simp only [Act.put, List.setIfInBounds_toArray, List.set_cons_zero, List.set_cons_succ]
  refine wpAnyH_take (i := 13) (v := ?_) (get1 (get1 (get1 (get1 (get1 (get1 (get1 (get1 (get1 (get1 (get1 (get1 (get1 (get0 _ _)))))))))))))) (by kernel_rfl) (by kernel_rfl) (by kernel_rfl) (fun _ _ _ h => h) (Or.inl ⟨by rfl, ?_⟩) (by assumption) ?_
  rotate_left
  · (intro w hSw; (try dsimp only at hSw); go_simp <;> with_reducible rfl)
  simp only [Act.put, List.setIfInBounds_toArray, List.set_cons_zero, List.set_cons_succ]
  refine wpAnyH_take (i := 14) (v := ?_) (get1 (get1 (get1 (get1 (get1 (get1 (get1 (get1 (get1 (get1 (get1 (get1 (get1 (get1 (get0 _ _))))))))))))))) (by kernel_rfl) (by kernel_rfl) (by kernel_rfl) (fun _ _ _ h => h) (Or.inl ⟨by rfl, ?_⟩) (by assumption) ?_
  rotate_left
  · (intro w hSw; (try dsimp only at hSw); go_simp <;> with_reducible rfl)
  simp only [Act.put, List.setIfInBounds_toArray, List.set_cons_zero, List.set_cons_succ]
  refine wpAnyH_take (i := 15) (v := ?_) (get1 (get1 (get1 (get1 (get1 (get1 (get1 (get1 (get1 (get1 (get1 (get1 (get1 (get1 (get1 (get0 _ _)))))))))))))))) (by kernel_rfl) (by kernel_rfl) (by kernel_rfl) (fun _ _ _ h => h) (Or.inl ⟨by rfl, ?_⟩) (by assumption) ?_
  rotate_left
  · (intro w hSw; (try dsimp only at hSw); go_simp <;> with_reducible rfl)
  simp only [Act.put, List.setIfInBounds_toArray, List.set_cons_zero, List.set_cons_succ]
  refine wpAnyH_ready (rs := [16]) (by kernel_rfl) (by simp) ?_
  refine AllReadyH.cons (get1 (get1 (get1 (get1 (get1 (get1 (get1 (get1 (get1 (get1 (get1 (get1 (get1 (get1 (get1 (get1 (get0 _ _))))))))))))))))) (fun K hK => ?_) AllReadyH.nil
  go_simp
  refine (HC.out _ (Below.refl _ _).drew).mono ?_
  rintro e z ⟨⟨v', rfl, ho⟩, hbz⟩
  have HO : Hid (z.ownsRow y.heap.size 52 2 v' th.ws.length (th.ws.flatMap wC)) := ho
  have HBZ : Hid (Below w.heap.size w z) := hb1.trans ((Below.refl _ _).drew.trans hbz |>.mono (Nat.le_of_lt hz1))
  obtain ⟨o0, o1, o2, o3, o4, o5, o6, o7, o8, o9, o10, f0, f1, f2, f3, f4, f5, f6, f7, f8, f9, f10⟩ := HOO.out z ((Below.refl _ _).drew.trans hbz)
  clear ho hbz
  try go_wp2_with fail
  refine hK.out _ _ (HKK.out _ HBZ.out) (fun hHeld => ?_)
  clear hK K
  try simp only [Act.put, List.setIfInBounds_toArray, List.set_cons_zero, List.set_cons_succ]
  refine wpAnyH_ready (rs := [17]) (by kernel_rfl) (by simp) ?_
  refine AllReadyH.cons (get1 (get1 (get1 (get1 (get1 (get1 (get1 (get1 (get1 (get1 (get1 (get1 (get1 (get1 (get1 (get1 (get1 (get0 _ _)))))))))))))))))) (fun K hK => ?_) AllReadyH.nil
  clear hHeld hX1 HOO HC HT hk0 hk1
  go_simp
  have HX := set11 z w.heap.size th.c.r0 th.c.r1 th.c.r2 th.c.r3 th.c.r4 th.c.r5 th.c.r6 th.c.r7 th.c.pc th.c.st th.c.tr (fun o ho => by
    rcases (show o = 0 ∨ o = 1 ∨ o = 2 ∨ o = 3 ∨ o = 4 ∨ o = 5 ∨ o = 6 ∨ o = 7 ∨ o = 8 ∨ o = 9 ∨ o = 10 by omega) with rfl | rfl | rfl | rfl | rfl | rfl | rfl | rfl | rfl | rfl | rfl
    · rw [o0]; rfl
    · rw [o1]; rfl
    · rw [o2]; rfl
    · rw [o3]; rfl
    · rw [o4]; rfl
    · rw [o5]; rfl
    · rw [o6]; rfl
    · rw [o7]; rfl
    · rw [o8]; rfl
    · rw [o9]; rfl
    · rw [o10]; rfl)
  have HBF : Hid (Below w.heap.size w (((((((((((z.setCell ⟨w.heap.size, 0, none⟩ (.int .i64 th.c.r0)).setCell ⟨w.heap.size, 1, none⟩ (.int .i64 th.c.r1)).setCell ⟨w.heap.size, 2, none⟩ (.int .i64 th.c.r2)).setCell ⟨w.heap.size, 3, none⟩ (.int .i64 th.c.r3)).setCell ⟨w.heap.size, 4, none⟩ (.int .i64 th.c.r4)).setCell ⟨w.heap.size, 5, none⟩ (.int .i64 th.c.r5)).setCell ⟨w.heap.size, 6, none⟩ (.int .i64 th.c.r6)).setCell ⟨w.heap.size, 7, none⟩ (.int .i64 th.c.r7)).setCell ⟨w.heap.size, 8, none⟩ (.int .i64 th.c.pc)).setCell ⟨w.heap.size, 9, none⟩ (.int .i64 th.c.st)).setCell ⟨w.heap.size, 10, none⟩ (.int .i64 th.c.tr))) := ch_below HBZ.out (Nat.le_refl _) th.c
  have HOF : Hid (((((((((((((z.setCell ⟨w.heap.size, 0, none⟩ (.int .i64 th.c.r0)).setCell ⟨w.heap.size, 1, none⟩ (.int .i64 th.c.r1)).setCell ⟨w.heap.size, 2, none⟩ (.int .i64 th.c.r2)).setCell ⟨w.heap.size, 3, none⟩ (.int .i64 th.c.r3)).setCell ⟨w.heap.size, 4, none⟩ (.int .i64 th.c.r4)).setCell ⟨w.heap.size, 5, none⟩ (.int .i64 th.c.r5)).setCell ⟨w.heap.size, 6, none⟩ (.int .i64 th.c.r6)).setCell ⟨w.heap.size, 7, none⟩ (.int .i64 th.c.r7)).setCell ⟨w.heap.size, 8, none⟩ (.int .i64 th.c.pc)).setCell ⟨w.heap.size, 9, none⟩ (.int .i64 th.c.st)).setCell ⟨w.heap.size, 10, none⟩ (.int .i64 th.c.tr))).ownsRow w.heap.size 52 2 v' th.ws.length (th.ws.flatMap wC)) := own_mono (ch_own HO.out hz1 th.c) (Nat.le_of_lt hz1)
  obtain ⟨ZZ, hZZ⟩ : ∃ ZZ, (((((((((((z.setCell ⟨w.heap.size, 0, none⟩ (.int .i64 th.c.r0)).setCell ⟨w.heap.size, 1, none⟩ (.int .i64 th.c.r1)).setCell ⟨w.heap.size, 2, none⟩ (.int .i64 th.c.r2)).setCell ⟨w.heap.size, 3, none⟩ (.int .i64 th.c.r3)).setCell ⟨w.heap.size, 4, none⟩ (.int .i64 th.c.r4)).setCell ⟨w.heap.size, 5, none⟩ (.int .i64 th.c.r5)).setCell ⟨w.heap.size, 6, none⟩ (.int .i64 th.c.r6)).setCell ⟨w.heap.size, 7, none⟩ (.int .i64 th.c.r7)).setCell ⟨w.heap.size, 8, none⟩ (.int .i64 th.c.pc)).setCell ⟨w.heap.size, 9, none⟩ (.int .i64 th.c.st)).setCell ⟨w.heap.size, 10, none⟩ (.int .i64 th.c.tr)) = ZZ := ⟨_, rfl⟩
  rw [hZZ] at HX HBF HOF
  rw [hZZ]
  clear hZZ o0 o1 o2 o3 o4 o5 o6 o7 o8 o9 o10 f0 f1 f2 f3 f4 f5 f6 f7 f8 f9 f10
  refine hK.out _ _ (HKK.out _ HBF.out) (fun hHeld => ?_)
  clear hK K
  try simp only [Act.put, List.setIfInBounds_toArray, List.set_cons_zero, List.set_cons_succ]
  refine wpAnyH_take (i := 18) (v := ?_) (get1 (get1 (get1 (get1 (get1 (get1 (get1 (get1 (get1 (get1 (get1 (get1 (get1 (get1 (get1 (get1 (get1 (get1 (get0 _ _))))))))))))))))))) (by kernel_rfl) (by kernel_rfl) (by kernel_rfl) (fun _ _ _ h => h) (Or.inl ⟨by rfl, ?_⟩) (by assumption) ?_
  rotate_left
  · (intro w hSw; (try dsimp only at hSw); go_simp <;> with_reducible rfl)
  simp only [Act.put, List.setIfInBounds_toArray, List.set_cons_zero, List.set_cons_succ]
  refine wpAnyH_done (by kernel_rfl) ?_ _
  clear hHeld HKK
  obtain ⟨e0, e1, e2, e3, e4, e5, e6, e7, e8, e9, e10⟩ := HX
  go_wp2_with fail
  exact bodyPost_ret (v := .tuple #[th.c.v, v']) (by simp [results, Tryd.results16, go_sem, e0, e1, e2, e3, e4, e5, e6, e7, e8, e9, e10]) rfl ⟨⟨_, rfl, HOF.out⟩, HBF.out⟩

end Go.Proofs.YtneclfaamgfoeaaDoor

/- An image as it is handed over; where its threads begin; whether it may run. -/
namespace Go.Proofs.YtneclfaamgfoeaaDoor
open Go.RowKit Go.Maps
set_option linter.unusedVariables false
set_option linter.unusedSimpArgs false

structure Sym where
  name : ByteArray
  kind : Int
  pos : Int
def noSym : Sym := ⟨{ data := #[] }, 0, 0⟩
/-- Lists as they lie. -/
structure IntsV (w : World) (a : Option Addr) (len cap : Nat) (zs : List Int) : Prop where
  count : zs.length = len
  fits : ∀ n ∈ zs, (Lit.int .i64 n).wf = true
  nilOf : a = none → len = 0 ∧ cap = 0
  room : len ≤ cap ∧ cap ≤ maxLen
  cells : len = 0 ∨ ∃ b off, a = some ⟨b, off, none⟩ ∧ ∀ i, i < len → w.cell? ⟨b, off + i, none⟩ = some (.int .i64 (zs.getD i 0))
structure SymsV (w : World) (a : Option Addr) (len cap : Nat) (ss : List Sym) : Prop where
  count : ss.length = len
  fits : ∀ s ∈ ss, s.name.size ≤ maxLen ∧ (Lit.int .i64 s.kind).wf = true ∧ (Lit.int .i64 s.pos).wf = true
  nilOf : a = none → len = 0 ∧ cap = 0
  room : len ≤ cap ∧ cap ≤ maxLen
  cells : len = 0 ∨ ∃ b off, a = some ⟨b, off, none⟩ ∧ ∀ i, i < len → w.cell? ⟨b, off + i * 3, none⟩ = some (.string (ss.getD i noSym).name) ∧ w.cell? ⟨b, off + i * 3 + 1, none⟩ = some (.int .i64 (ss.getD i noSym).kind) ∧ w.cell? ⟨b, off + i * 3 + 2, none⟩ = some (.int .i64 (ss.getD i noSym).pos)
theorem IntsV.below {w w1 : World} {a : Option Addr} {len cap : Nat} {zs : List Int} (h : IntsV w a len cap zs) (hb : Below w.heap.size w w1) : IntsV w1 a len cap zs := by
  refine ⟨h.count, h.fits, h.nilOf, h.room, ?_⟩
  rcases h.cells with h0 | ⟨b, off, ha, hc⟩
  · exact .inl h0
  · exact .inr ⟨b, off, ha, fun i hi => (hb.cell (p := ⟨b, off + i, none⟩) (World.block_lt_of_cell? w ⟨b, off + i, none⟩ (hc i hi))).trans (hc i hi)⟩
theorem SymsV.below {w w1 : World} {a : Option Addr} {len cap : Nat} {ss : List Sym} (h : SymsV w a len cap ss) (hb : Below w.heap.size w w1) : SymsV w1 a len cap ss := by
  refine ⟨h.count, h.fits, h.nilOf, h.room, ?_⟩
  rcases h.cells with h0 | ⟨b, off, ha, hc⟩
  · exact .inl h0
  · refine .inr ⟨b, off, ha, fun i hi => ?_⟩
    obtain ⟨k0, k1, k2⟩ := hc i hi
    have hbl : b < w.heap.size := World.block_lt_of_cell? w ⟨b, off + i * 3, none⟩ k0
    exact ⟨(hb.cell (p := ⟨b, off + i * 3, none⟩) hbl).trans k0, (hb.cell (p := ⟨b, off + i * 3 + 1, none⟩) hbl).trans k1, (hb.cell (p := ⟨b, off + i * 3 + 2, none⟩) hbl).trans k2⟩
/-- An image. -/
structure ImgD where
  code : ByteArray
  data : List Int
  syms : List Sym
structure ImgV (w : World) (v : Value) (m : ImgD) : Prop where
  form : ∃ a1 l1 c1 a2 l2 c2, v = .agg #[.string m.code, .slice a1 l1 c1, .slice a2 l2 c2] ∧ m.code.size ≤ maxLen ∧ IntsV w a1 l1 c1 m.data ∧ SymsV w a2 l2 c2 m.syms
theorem ImgV.below {w w1 : World} {v : Value} {m : ImgD} (h : ImgV w v m) (hb : Below w.heap.size w w1) : ImgV w1 v m := by
  obtain ⟨a1, l1, c1, a2, l2, c2, e, hs, h1, h2⟩ := h.form
  exact ⟨⟨a1, l1, c1, a2, l2, c2, e, hs, h1.below hb, h2.below hb⟩⟩
def intC (n : Int) : List Value := [.int .i64 n]
theorem infoN : (Tryd.prog.info? 3).map (fun i => (i.zero, i.size, i.bytes)) = some (some (.int .i64 0), 1, 8) := by kernel_rfl
/-- Where the threads begin. -/
def strt (ss : List Sym) : List Int := (ss.filter fun s => decide (s.kind = 3)).map Sym.pos
theorem strt_snoc (ss : List Sym) {k : Nat} (h : k < ss.length) : strt (ss.take (k + 1)) = strt (ss.take k) ++ (if (ss.getD k noSym).kind = 3 then [(ss.getD k noSym).pos] else []) := by
  rw [List.take_succ_eq_append_getElem h]
  have e : ss.getD k noSym = ss[k] := by simp [List.getD, h]
  rw [e]
  unfold strt
  rw [List.filter_append, List.map_append]
  congr 1
  by_cases hk : ss[k].kind = 3 <;> simp [hk]
theorem strt_len (ss : List Sym) : (strt ss).length ≤ ss.length := by
  unfold strt; rw [List.length_map]; exact List.length_filter_le _ _
theorem own_below {w w' : World} {B : Nat} {ty : TypeId} {m n : Nat} {v : Value} {cs : List Value} (h : w.ownsRow B ty m v n cs) (hb : Below w.heap.size w w') : w'.ownsRow B ty m v n cs :=
  row_cong h (fun g hg => hb.block g (own_lt h hg))
theorem ints_own {w : World} {B : Nat} {v : Value} {n : Nat} {zs : List Int} {ty : TypeId} (h : w.ownsRow B ty 1 v n (zs.flatMap intC)) (hn : zs.length = n) (hf : ∀ z ∈ zs, (Lit.int .i64 z).wf = true) : ∃ a c, v = .slice a n c ∧ IntsV w a n c zs := by
  obtain ⟨a, c, rfl, h1, h2⟩ := row_at (m := 1) (f := intC) 0 (fun _ => rfl) h hn
  obtain ⟨a', c', e, h3, h4⟩ := own_sl h
  cases e
  refine ⟨a, c, rfl, ⟨hn, hf, h1, ⟨h3, h4⟩, ?_⟩⟩
  rcases h2 with h2 | ⟨b, off, rfl, h2⟩
  · exact .inl h2
  · refine .inr ⟨b, off, rfl, fun i hi => ?_⟩
    have := h2 i hi 0 _ (by decide) rfl
    simpa using this

set_option maxRecDepth 100000 in
set_option maxHeartbeats 8000000 in
theorem starts_any {w : World} {a : Option Addr} {l c : Nat} {ss : List Sym} (h : SymsV w a l c ss) (hl : l ≤ 8796093022208) :
    Calls Tryd.prog 25 #[.slice a l c] w fun e w' => RowIs w.heap.size 3 1 e w' (strt ss).length ((strt ss).flatMap intC) ∧ Below w.heap.size w w' := by
  obtain ⟨i1, hi1, hz10, hz11, hz12⟩ := info_partsL infoN
  have HV : Hid (SymsV w a l c ss) := h
  have HC : Hid (ss.length = l) := h.count
  have hro := h.room
  unfold maxLen at hro
  have HN0 : Hid (w.ownsRow w.heap.size 3 1 (.slice none 0 0) (strt (ss.take 0)).length ((strt (ss.take 0)).flatMap intC)) := World.ownsRow_nil _ _ _ _
  clear h
  go_enter Tryd.func25, Tryd.ntmps25
  go_wp2_with fail
  go_loopg [3, 8] l (fun r lv iv wq => ∃ (k : Nat), iv = .int .i64 k ∧ k ≤ l ∧ l - k ≤ r ∧ Hid (wq.ownsRow w.heap.size 3 1 lv (strt (ss.take k)).length ((strt (ss.take k)).flatMap intC)) ∧ Hid (Below w.heap.size w wq))
  case atStart => exact ⟨0, rfl, Nat.zero_le _, by omega, HN0.out, Below.refl _ _⟩
  case round =>
    obtain ⟨k, rfl, hk, hr, HRW, HBL⟩ := hrel
    by_cases hlt : k < l
    · rcases HV.out.cells with h0 | ⟨b, off, hA, hcl⟩
      · omega
      obtain ⟨q0, q1, q2⟩ := hcl k hlt
      have q0 := cell_up HBL.out q0
      have q1 := cell_up HBL.out q1
      have q2 := cell_up HBL.out q2
      have HSN : Hid _ := strt_snoc ss (k := k) (by have := HC.out; omega)
      have HTL : Hid ((strt (ss.take k)).length ≤ k) := by show _ ≤ _; have := strt_len (ss.take k); rw [List.length_take] at this; omega
      obtain ⟨⟨nm, kd, ps⟩, hx⟩ : ∃ x, ss.getD k noSym = x := ⟨_, rfl⟩
      rw [hx] at q0 q1 q2 HSN
      simp only at q0 q1 q2 HSN
      cases hA
      have hii : (k : Int) < l := by omega
      have hin : 0 ≤ (k : Int) := by omega
      clear hcl hx
      obtain ⟨Y1, hY1⟩ : ∃ Y1, wr.alloc (.cells #[.string nm, .int .i64 kd, .int .i64 ps] 64) = Y1 := ⟨_, rfl⟩
      have bY : Below wr.heap.size wr Y1 := by subst hY1; exact bl_one _ _
      have g0 : Y1.cell? ⟨wr.heap.size, 0, none⟩ = some (.string nm) := by subst hY1; exact cell_last _ _ _ _ _ rfl rfl
      have g1 : Y1.cell? ⟨wr.heap.size, 1, none⟩ = some (.int .i64 kd) := by subst hY1; exact cell_last _ _ _ _ _ rfl rfl
      have g2 : Y1.cell? ⟨wr.heap.size, 2, none⟩ = some (.int .i64 ps) := by subst hY1; exact cell_last _ _ _ _ _ rfl rfl
      have HBY : Hid (Below w.heap.size w Y1) := HBL.out.trans (bY.mono HBL.out.size)
      by_cases hkd : kd = 3
      · subst hkd
        rw [if_pos rfl] at HSN
        obtain ⟨Z, hZ⟩ : ∃ Z, Y1.alloc (.cells #[.int .i64 ps] 3) = Z := ⟨_, rfl⟩
        have bZ : Below Y1.heap.size Y1 Z := by subst hZ; exact bl_one _ _
        obtain ⟨tn, htn⟩ : ∃ tn, (strt (ss.take k)).length = tn := ⟨_, rfl⟩
        have htl : tn ≤ k := by rw [← htn]; exact HTL.out
        have HTN : Hid _ := htn
        have HRZ : Hid (Z.ownsRow w.heap.size 3 1 u3 tn ((strt (ss.take k)).flatMap intC)) := by
          show World.ownsRow _ _ _ _ _ _ _
          rw [← htn]
          exact own_below (own_below HRW.out bY) bZ
        have HBZ : Hid (Below w.heap.size w Z) := HBY.out.trans (bZ.mono HBY.out.size)
        have HZB : Hid (w.heap.size ≤ Z.heap.size) := HBZ.out.size
        have HNCC : Hid (∀ j u, (intC ps)[j]? = some u → Z.cell? ((⟨Y1.heap.size, 0, none⟩ : Addr).add j) = some u) := by
          intro j u hu
          match j, hu with
          | 0, hu => subst hZ; simp [intC] at hu; subst hu; exact cell_last _ _ _ _ _ (by simp) (by simp)
          | j + 1, hu => simp [intC] at hu
        clear bY bZ htn
        go_wp2_with (first | (at_builtin; refine wpList_append_lies _ rfl _ _ 26 rfl w.heap.size 3 i1 _ 1 8 Tryd.underlying26 hi1 hz10 hz11 hz12 rfl (by decide) u3 tn _ rfl HRZ.out ⟨Y1.heap.size, 0, none⟩ 1 1 (intC ps) rfl rfl HNCC.out (by intro u hu; simp [intC] at hu; subst hu; rfl) (by decide) (by unfold maxLen; omega) (by omega) HZB.out Z.heap.size rfl ?_; intro ga ca w1 ho1 hg1 hat1 hlt1) | go_in)
        have HR1 : Hid (w1.ownsRow w.heap.size 3 1 (.slice (some ⟨ga, 0, none⟩) (tn + 1) ca) (strt (ss.take (k + 1))).length ((strt (ss.take (k + 1))).flatMap intC)) := by
          show World.ownsRow _ _ _ _ _ _ _
          rw [HSN.out, List.length_append, HTN.out, List.flatMap_append]
          have : ([ps].flatMap intC) = intC ps := by simp [intC]
          rw [this]
          exact ho1
        have HB1 : Hid (Below w.heap.size w w1) := below_new HBZ.out hg1 (fun g hg => (HRZ.out.lt g hg).1)
        clear ho1 hg1 hat1
        go_wp2
        go_roundg (l - (k + 1))
        · exact ⟨k + 1, rfl, by omega, Nat.le_refl _, HR1, HB1⟩
        · omega
      · rw [if_neg hkd, List.append_nil] at HSN
        have HR1 : Hid (Y1.ownsRow w.heap.size 3 1 u3 (strt (ss.take (k + 1))).length ((strt (ss.take (k + 1))).flatMap intC)) := by
          show World.ownsRow _ _ _ _ _ _ _
          rw [HSN.out]
          exact own_below HRW.out bY
        clear bY
        go_wp2
        go_roundg (l - (k + 1))
        · exact ⟨k + 1, rfl, by omega, Nat.le_refl _, HR1, HBY⟩
        · omega
    · obtain rfl : k = l := by omega
      have HE : Hid (wr.ownsRow w.heap.size 3 1 u3 (strt ss).length ((strt ss).flatMap intC)) := by
        have h1 := HRW.out
        rw [← HC.out, List.take_length] at h1
        exact h1
      go_wp2
      go_ret
      exact ⟨⟨_, rfl, HE.out⟩, HBL.out⟩

end Go.Proofs.YtneclfaamgfoeaaDoor

/- A new thread; whether an image may run. -/
namespace Go.Proofs.YtneclfaamgfoeaaDoor
open Go.RowKit Go.Maps
set_option linter.unusedVariables false
set_option linter.unusedSimpArgs false

theorem stackBase_any (n : Nat) (hn : n ≤ 100) (w : World) :
    Calls Tryd.prog 43 #[.int .i64 n] w fun e w' => e = .returned (.int .i64 (2097152 + 65536 * n)) ∧ w' = w := by
  have h1 : IntKind.i64.wrap (65536 * (n : Int)) = 65536 * n := by rw [IntKind.wrap_i64]; omega
  have h2 : IntKind.i64.wrap (2097152 + 65536 * (n : Int)) = 2097152 + 65536 * n := by rw [IntKind.wrap_i64]; omega
  go_enter Tryd.func43, Tryd.ntmps43
  go_wp2
  go_ret
  exact ⟨rfl, rfl⟩

abbrev thV (k : Nat) (h : T.Th) (u : Value) : Value := .agg (thC k h u).toArray

set_option maxRecDepth 100000 in
set_option maxHeartbeats 8000000 in
theorem newThread_any (k : Nat) (hk : k ≤ 50) (a : Int) (ha : 0 ≤ a ∧ a ≤ 65536) (w : World) :
    Calls Tryd.prog 29 #[.int .i64 k, .int .i64 a] w fun e w' => e = .returned (thV k (T.th0 k a) (.slice none 0 0)) ∧ Below w.heap.size w w' := by
  have h1 : IntKind.i64.wrap (4096 + a) = 4096 + a := by rw [IntKind.wrap_i64]; omega
  have h1' : wrap64 (4096 + a) = 4096 + a := by unfold wrap64; omega
  have h2 : IntKind.i64.wrap ((k : Int) + 1) = ((k + 1 : Nat) : Int) := by rw [IntKind.wrap_i64]; omega
  have h3 : thV k (T.th0 k a) (.slice none 0 0) = .agg #[.int .i64 0, .int .i64 0, .int .i64 0, .int .i64 0, .int .i64 0, .int .i64 0, .int .i64 0, .int .i64 (2097152 + 65536 * ((k + 1 : Nat) : Int)), .int .i64 (4096 + a), .int .i64 0, .int .i64 0, .int .i64 k, .slice none 0 0] := by
    unfold thV thC T.th0 T.noC
    rw [h1', show ((k + 1 : Nat) : Int) = (k : Int) + 1 by omega]
  rw [h3]
  have HS : Hid (∀ w, Calls Tryd.prog 43 #[.int .i64 (k + 1 : Nat)] w fun e w' => e = .returned (.int .i64 (2097152 + 65536 * (k + 1 : Nat))) ∧ w' = w) := fun w => stackBase_any (k + 1) (by omega) w
  clear h3 h1'
  generalize k + 1 = k1 at *
  generalize (2097152 + 65536 * (k1 : Int)) = sb at *
  go_enter Tryd.func29, Tryd.ntmps29
  go_wp2_with fail
  refine (HS.out _).mono ?_
  rintro e y ⟨rfl, rfl⟩
  go_wp2
  refine bodyPost_ret (v := .agg #[.int .i64 0, .int .i64 0, .int .i64 0, .int .i64 0, .int .i64 0, .int .i64 0, .int .i64 0, .int .i64 sb, .int .i64 (4096 + a), .int .i64 0, .int .i64 0, .int .i64 k, .slice none 0 0]) (by simp [results, Tryd.results29, go_sem]) rfl ⟨rfl, ?_⟩
  exact bl2 _ _ _

theorem T.mayRun_no {code : ByteArray} {dlen : Nat} {zs : List Int} (h : ¬ (1 ≤ zs.length ∧ zs.length ≤ 4 ∧ code.size ≤ 65536 ∧ dlen ≤ 4096)) : T.mayRun code dlen zs = false := by
  unfold T.mayRun; rw [decide_eq_false h]; rfl
theorem T.mayRun_bad {code : ByteArray} {dlen : Nat} {zs : List Int} {k : Nat} (hk : k < zs.length) (h : ¬ (0 ≤ zs.getD k 0 ∧ zs.getD k 0 < (code.size : Int))) : T.mayRun code dlen zs = false := by
  unfold T.mayRun
  rw [Bool.and_eq_false_iff]
  right
  rw [List.all_eq_false]
  refine ⟨zs.getD k 0, by simp [List.getD, hk], ?_⟩
  rw [decide_eq_false h]
  decide
theorem T.mayRun_yes {code : ByteArray} {dlen : Nat} {zs : List Int} (h : 1 ≤ zs.length ∧ zs.length ≤ 4 ∧ code.size ≤ 65536 ∧ dlen ≤ 4096) (h2 : ∀ k, k < zs.length → 0 ≤ zs.getD k 0 ∧ zs.getD k 0 < (code.size : Int)) : T.mayRun code dlen zs = true := by
  unfold T.mayRun
  rw [decide_eq_true h, Bool.true_and, List.all_eq_true]
  intro a ha
  obtain ⟨k, hk, rfl⟩ := List.mem_iff_getElem.1 ha
  have := h2 k hk
  simp only [List.getD, List.getElem?_eq_getElem hk, Option.getD_some] at this
  exact decide_eq_true this

set_option maxRecDepth 100000 in
set_option maxHeartbeats 8000000 in
theorem mayRun_any {w : World} {v : Value} {m : ImgD} (h : ImgV w v m) {a : Option Addr} {n c : Nat} {zs : List Int} (hz : IntsV w a n c zs) :
    Calls Tryd.prog 26 #[v, .slice a n c] w fun e w' => e = .returned (.bool (T.mayRun m.code m.data.length zs)) ∧ Below w.heap.size w w' := by
  obtain ⟨a1, l1, c1, a2, l2, c2, rfl, hs, h1, h2⟩ := h.form
  obtain ⟨code, data, ss⟩ := m
  simp only at hs h1 h2 ⊢
  obtain ⟨W1, hW1⟩ : ∃ W1, w.alloc (.cells #[.string code, .slice a1 l1 c1, .slice a2 l2 c2] 25) = W1 := ⟨_, rfl⟩
  have HB : Hid (Below w.heap.size w W1) := by subst hW1; exact bl_one _ _
  have v0 : W1.cell? ⟨w.heap.size, 0, none⟩ = some (.string code) := by subst hW1; exact cell_last _ _ _ _ _ rfl rfl
  have v1 : W1.cell? ⟨w.heap.size, 1, none⟩ = some (.slice a1 l1 c1) := by subst hW1; exact cell_last _ _ _ _ _ rfl rfl
  have hl1 := h1.room
  have hln := hz.room
  have HZ : Hid (IntsV W1 a n c zs) := hz.below HB.out
  have HN : Hid (zs.length = n) := hz.count
  obtain ⟨r, hr⟩ : ∃ r, T.mayRun code data.length zs = r := ⟨_, rfl⟩
  have HNO : Hid (¬ (1 ≤ n ∧ n ≤ 4 ∧ code.size ≤ 65536 ∧ l1 ≤ 4096) → r = false) := fun e => by rw [← hr]; refine T.mayRun_no ?_; rw [hz.count, h1.count]; exact e
  have HBD : Hid (∀ k, k < n → ¬ (0 ≤ zs.getD k 0 ∧ zs.getD k 0 < (code.size : Int)) → r = false) := fun k hk e => by rw [← hr]; exact T.mayRun_bad (by rw [hz.count]; exact hk) e
  have HYE : Hid ((1 ≤ n ∧ n ≤ 4 ∧ code.size ≤ 65536 ∧ l1 ≤ 4096) → (∀ k, k < n → 0 ≤ zs.getD k 0 ∧ zs.getD k 0 < (code.size : Int)) → r = true) := fun e1 e2 => by rw [← hr]; refine T.mayRun_yes ?_ (by rw [hz.count]; exact e2); rw [hz.count, h1.count]; exact e1
  rw [hr]
  unfold maxLen at hs hl1 hln
  clear h h1 h2 hz hr
  by_cases n1 : n < 1
  · obtain rfl := HNO.out (by omega)
    have hd : decide ((n : Int) < 1) = true := decide_eq_true (by omega)
    go_enter Tryd.func26, Tryd.ntmps26
    go_wp2
    go_ret
    exact ⟨rfl, HB.out⟩
  have hd1 : decide ((n : Int) < 1) = false := decide_eq_false (by omega)
  by_cases n2 : 4 < n
  · obtain rfl := HNO.out (by omega)
    have hd2 : decide ((4 : Int) < n) = true := decide_eq_true (by omega)
    go_enter Tryd.func26, Tryd.ntmps26
    go_wp2
    go_ret
    exact ⟨rfl, HB.out⟩
  have hd2 : decide ((4 : Int) < n) = false := decide_eq_false (by omega)
  by_cases n3 : 65536 < code.size
  · obtain rfl := HNO.out (by omega)
    have hd3 : decide ((65536 : Int) < code.size) = true := decide_eq_true (by omega)
    go_enter Tryd.func26, Tryd.ntmps26
    go_wp2
    go_ret
    exact ⟨rfl, HB.out⟩
  have hd3 : decide ((65536 : Int) < code.size) = false := decide_eq_false (by omega)
  by_cases n4 : 4096 < l1
  · obtain rfl := HNO.out (by omega)
    have hd4 : decide ((4096 : Int) < l1) = true := decide_eq_true (by omega)
    go_enter Tryd.func26, Tryd.ntmps26
    go_wp2
    go_ret
    exact ⟨rfl, HB.out⟩
  have hd4 : decide ((4096 : Int) < l1) = false := decide_eq_false (by omega)
  go_enter Tryd.func26, Tryd.ntmps26
  go_wp2_with fail
  go_loopg [29] n (fun rr iv wq => ∃ (k : Nat), iv = .int .i64 k ∧ k ≤ n ∧ n - k ≤ rr ∧ Hid (∀ i, i < k → 0 ≤ zs.getD i 0 ∧ zs.getD i 0 < (code.size : Int)) ∧ wq = W1)
  case atStart => exact ⟨0, rfl, Nat.zero_le _, by omega, (fun i hi => absurd hi (by omega) : ∀ i, i < 0 → _), rfl⟩
  case round =>
    obtain ⟨k, rfl, hk, hrr, HA, rfl⟩ := hrel
    by_cases hlt : k < n
    · rcases HZ.out.cells with h0 | ⟨b, off, hA, hcl⟩
      · omega
      have q0 := hcl k hlt
      have HBK : Hid _ := HBD.out k hlt
      have HSN : Hid (∀ z, zs.getD k 0 = z → 0 ≤ z ∧ z < (code.size : Int) → ∀ i, i < k + 1 → 0 ≤ zs.getD i 0 ∧ zs.getD i 0 < (code.size : Int)) := fun z hz h2 i hi => by
        by_cases e : i = k
        · subst e; rw [hz]; exact h2
        · exact HA.out i (by omega)
      obtain ⟨z, hz⟩ : ∃ z, zs.getD k 0 = z := ⟨_, rfl⟩
      rw [hz] at q0 HBK
      have HSN2 : Hid _ := HSN.out z hz
      cases hA
      have hii : (k : Int) < n := by omega
      have hin : 0 ≤ (k : Int) := by omega
      clear hcl hz HSN
      by_cases z1 : z < 0
      · obtain rfl := HBK.out (by omega)
        have hz1 : decide (z < 0) = true := decide_eq_true z1
        go_wp2
        go_ret
        exact ⟨rfl, HB.out⟩
      have hz1 : decide (z < 0) = false := decide_eq_false z1
      by_cases z2 : (code.size : Int) ≤ z
      · obtain rfl := HBK.out (by omega)
        have hz2 : decide ((code.size : Int) ≤ z) = true := decide_eq_true z2
        go_wp2
        go_ret
        exact ⟨rfl, HB.out⟩
      have hz2 : decide ((code.size : Int) ≤ z) = false := decide_eq_false z2
      have HA2 : Hid (∀ i, i < k + 1 → 0 ≤ zs.getD i 0 ∧ zs.getD i 0 < (code.size : Int)) := HSN2.out (by omega)
      clear HA HSN2 HBK
      go_wp2
      go_roundg (n - (k + 1))
      · exact ⟨k + 1, rfl, by omega, Nat.le_refl _, HA2, rfl⟩
      · omega
    · obtain rfl : k = n := by omega
      obtain rfl := HYE.out (by omega) HA.out
      go_wp2
      go_ret
      exact ⟨rfl, HB.out⟩

end Go.Proofs.YtneclfaamgfoeaaDoor

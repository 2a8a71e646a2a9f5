/- The document's machine: what a thread sees; all its stores leave. -/
import Derived.Test.YtneclfaamgfoeaaDoorEAz
import Derived.Test.YtneclfaamgfoeaaDoorEAf
namespace Go.Proofs.YtneclfaamgfoeaaDoor
open Go.RowKit Go.Maps
set_option linter.unusedVariables false
set_option linter.unusedSimpArgs false

section
variable {B : Nat} {w : World} {b : Nat} {M : T.Mach} {t : Nat → Nat} {D Sk : List Int} {vd vs : Value} {g cap : Nat} {ev : Value} {us : List Value}

theorem T.ld_get (M : T.Mach) (k : Nat) (a : Int) : (T.ld M k a).getD 0 = (T.newest (M.th k).ws a).getD ((M.mem a).getD 0) := by
  unfold T.ld
  cases T.newest (M.th k).ws a <;> rfl

set_option maxRecDepth 100000 in
set_option maxHeartbeats 4000000 in
theorem xload_any (h : XV B w b M t D Sk vd vs g cap ev us) {k : Nat} (hk : k < M.ts.length) {a : Int} (haw : (Lit.int .i64 a).wf = true) (h8 : (M.th k).ws.length ≤ 1000) :
    Calls Tryd.prog 68 #[.pointer (some ⟨b, 0, none⟩), .int .i64 k, .int .i64 a] w fun e w' => e = .returned (.tuple #[.int .i64 ((T.ld M k a).getD 0), .bool (M.mem a).isSome]) ∧ w' = w := by
  rw [T.ld_get]
  obtain ⟨u, hu⟩ := h.u hk
  have d11 := h.cell hk hu 11 _ rfl
  have ho := h.ws k _ u (T.th_at hk) hu
  have HW : Hid _ := xword_any h haw
  obtain ⟨ws, hws⟩ : ∃ ws, (M.th k).ws = ws := ⟨_, rfl⟩
  rw [hws] at ho h8 ⊢
  obtain ⟨z0, hz0⟩ : ∃ z0, (M.mem a).getD 0 = z0 := ⟨_, rfl⟩
  have hiS : (M.mem a).isSome = decide (T.er (M.mem a) = 0) := by cases M.mem a <;> rfl
  rw [hiS]
  obtain ⟨z1, hz1⟩ : ∃ z1, T.er (M.mem a) = z1 := ⟨_, rfl⟩
  rw [hz0, hz1] at HW
  rw [hz0, hz1]
  obtain ⟨ad, c, rfl, -, hat⟩ := row_at (m := 2) (f := wC) (0, 0) (fun _ => rfl) ho rfl
  obtain ⟨hnc, hcm⟩ : ws.length ≤ c ∧ c ≤ maxLen := by obtain ⟨a', c', e, h1, h2⟩ := own_sl ho; cases e; exact ⟨h1, h2⟩
  have c3 := h.c3
  have hro := h.room
  obtain ⟨n, hn⟩ : ∃ n, M.ts.length = n := ⟨_, rfl⟩
  rw [hn] at c3 hro hk
  obtain ⟨r1, r2, r3, r4⟩ := hro
  unfold maxLen at r2 hcm
  have i1 : (k : Int) < (n : Int) := by omega
  have i0 : (0 : Int) ≤ (k : Int) := by omega
  have HAT : Hid _ := hat
  obtain ⟨l, hl⟩ : ∃ l, ws.length = l := ⟨_, rfl⟩
  have HG : Hid (∀ i, i < l → T.newest (ws.take (i + 1)) a = if (ws.getD i (0, 0)).1 = a then some (ws.getD i (0, 0)).2 else T.newest (ws.take i) a) := fun i hi => by
    have hi' : i < ws.length := by omega
    rw [List.take_succ_eq_append_getElem hi', T.newest_snoc]
    simp [List.getD, hi']
  have HTK : Hid (ws.take l = ws) := by show _ = _; rw [← hl, List.take_length]
  have HT0 : Hid (z0 = (T.newest (ws.take 0) a).getD z0) := rfl
  rw [hl] at d11 h8 hnc HAT
  clear h ho hu hn hat hl hws hiS hz0 hz1 haw
  go_enter Tryd.func68, Tryd.ntmps68
  go_wp2_with fail
  refine Calls.mono HW.out ?_
  rintro e y ⟨rfl, rfl⟩
  go_wp2_with fail
  go_loopg [8, 11] l (fun r nv iv wq => ∃ (i : Nat) (z : Int), iv = .int .i64 i ∧ nv = .int .i64 z ∧ i ≤ l ∧ l - i ≤ r ∧ Hid (z = (T.newest (ws.take i) a).getD z0) ∧ wq = y)
  case atStart => exact ⟨0, z0, rfl, rfl, Nat.zero_le _, by omega, HT0, rfl⟩
  case round =>
    obtain ⟨i, z, rfl, rfl, hi, hr, HZ, rfl⟩ := hrel
    by_cases hlt : i < l
    · rcases HAT.out with h0 | ⟨gb, off, rfl, hc⟩
      · omega
      have q0 := hc i hlt 0 _ (by decide) rfl
      have q1 := hc i hlt 1 _ (by decide) rfl
      have HE2 : Hid _ := HG.out i hlt
      obtain ⟨x, v, hp⟩ : ∃ x v, ws.getD i (0, 0) = (x, v) := ⟨_, _, rfl⟩
      rw [hp] at q0 q1 HE2
      simp only [Nat.add_zero] at q0 q1
      have j1 : (i : Int) < (l : Int) := by omega
      have j0 : (0 : Int) ≤ (i : Int) := by omega
      clear hc hp
      by_cases e : x = a
      · subst e
        have HZ2 : Hid (v = (T.newest (ws.take (i + 1)) x).getD z0) := by show _ = _; rw [HE2.out, if_pos rfl]; rfl
        go_wp2
        go_roundg (l - (i + 1))
        · exact ⟨i + 1, v, rfl, rfl, by omega, Nat.le_refl _, HZ2, rfl⟩
        · omega
      · have HZ2 : Hid (z = (T.newest (ws.take (i + 1)) a).getD z0) := by show _ = _; rw [HE2.out, if_neg e]; exact HZ.out
        go_wp2
        go_roundg (l - (i + 1))
        · exact ⟨i + 1, z, rfl, rfl, by omega, Nat.le_refl _, HZ2, rfl⟩
        · omega
    · obtain rfl : i = l := by omega
      have HZ2 : Hid (z = (T.newest ws a).getD z0) := by have := HZ.out; rw [HTK.out] at this; exact this
      go_wp2
      go_ret2
      rw [HZ2.out]
      exact ⟨rfl, rfl⟩

set_option maxRecDepth 100000 in
set_option maxHeartbeats 4000000 in
theorem xdrain_any (h : XV B w b M t D Sk vd vs g cap ev us) {k : Nat} (hk : k < M.ts.length) (hok : WsOk (M.th k).ws) :
    Calls Tryd.prog 70 #[.pointer (some ⟨b, 0, none⟩), .int .i64 k] w fun e w' => e = .returned (.tuple #[]) ∧ XGone B w w' b (T.drain M k) t vd vs g cap := by
  obtain ⟨n, hN⟩ : ∃ n, (M.th k).ws.length = n := ⟨_, rfl⟩
  have HOK : Hid (WsOk (M.th k).ws) := hok
  have hn := hok.1
  rw [hN] at hn
  have HV : Hid (XGone B w w b (M.put k (T.upds M.mem ((M.th k).ws.take 0)) ⟨(M.th k).c, (M.th k).ws.drop 0⟩) t vd vs g cap) := ⟨t, D, Sk, ev, us, by
    have e : M.put k (T.upds M.mem ((M.th k).ws.take 0)) ⟨(M.th k).c, (M.th k).ws.drop 0⟩ = M := T.put_same hk
    rw [e]; exact h, St.refl _ _⟩
  clear h hok
  go_enter Tryd.func70, Tryd.ntmps70
  go_wp2
  go_loopg [] n (fun r wq => ∃ i : Nat, i ≤ n ∧ n - i ≤ r ∧ Hid (XGone B w wq b (M.put k (T.upds M.mem ((M.th k).ws.take i)) ⟨(M.th k).c, (M.th k).ws.drop i⟩) t vd vs g cap))
  case atStart => exact ⟨0, Nat.zero_le _, Nat.le_refl _, HV⟩
  case round =>
    obtain ⟨i, hi, hr, HW⟩ := hrel
    obtain ⟨t', D', S', ev', us', hv, hst⟩ := HW.out
    have hk1 : k < (M.put k (T.upds M.mem ((M.th k).ws.take i)) ⟨(M.th k).c, (M.th k).ws.drop i⟩).ts.length := by rw [T.len_put]; exact hk
    have e1 := T.th_put hk (T.upds M.mem ((M.th k).ws.take i)) ⟨(M.th k).c, (M.th k).ws.drop i⟩
    have HST : Hid (St t t' w wr) := hst
    obtain ⟨u, hu⟩ := hv.u hk1
    have d11 := hv.cell hk1 hu 11 _ rfl
    have ho := hv.ws k _ u (T.th_at hk1) hu
    rw [e1] at ho
    have c3 := hv.c3
    have hro := hv.room
    rw [T.len_put] at c3 hro
    obtain ⟨q, hq⟩ : ∃ q, M.ts.length = q := ⟨_, rfl⟩
    have HQ : Hid (M.ts.length = q) := hq
    rw [hq] at c3 hro
    obtain ⟨r1, r2, r3, r4⟩ := hro
    have hkq : k < q := by omega
    have i1 : (k : Int) < (q : Int) := by omega
    have i0 : (0 : Int) ≤ (k : Int) := by omega
    unfold maxLen at r2
    obtain ⟨a, c, rfl, hnc, hcm⟩ := own_sl ho
    simp only [List.length_drop, hN] at d11
    by_cases hlt : i < n
    · have hil : i < (M.th k).ws.length := by omega
      have hd : (M.th k).ws.drop i = (M.th k).ws[i] :: (M.th k).ws.drop (i + 1) := List.drop_eq_getElem_cons hil
      obtain ⟨p1, p2⟩ := HOK.out.2 (M.th k).ws[i] (List.getElem_mem _)
      have HL := xleave_yes hv hk1 (y := (M.th k).ws[i].1) (v := (M.th k).ws[i].2) (r := (M.th k).ws.drop (i + 1)) (by rw [e1]; exact hd) p1 (by rw [List.length_drop]; omega)
      rw [T.put_put, e1, show (M.put k (T.upds M.mem ((M.th k).ws.take i)) ⟨(M.th k).c, (M.th k).ws.drop i⟩).mem = T.upds M.mem ((M.th k).ws.take i) from rfl, ← T.upds_snoc, List.take_append_getElem hil] at HL
      have HLL : Hid (Calls Tryd.prog 34 #[.pointer (some ⟨b, 0, none⟩), .int .i64 k] wr fun e w' => e = .returned (.bool true) ∧ XGone B wr w' b (M.put k (T.upds M.mem ((M.th k).ws.take (i + 1))) ⟨(M.th k).c, (M.th k).ws.drop (i + 1)⟩) t' vd vs g cap) := HL
      obtain ⟨m, hm⟩ : ∃ m : Nat, n - i = m + 1 := ⟨n - i - 1, by omega⟩
      rw [hm] at d11
      have hpos : (0 : Int) < (m : Int) + 1 := by omega
      clear hv hst HW HV HL e1 hk1 p1 p2 hd ho hu hnc hcm
      go_wp2_with fail
      refine HLL.out.mono ?_
      rintro e y ⟨rfl, t'', D'', S'', ev'', us'', hv2, hs2⟩
      have HR : Hid (XGone B w y b (M.put k (T.upds M.mem ((M.th k).ws.take (i + 1))) ⟨(M.th k).c, (M.th k).ws.drop (i + 1)⟩) t vd vs g cap) := ⟨t'', D'', S'', ev'', us'', hv2, HST.out.trans hs2⟩
      clear hv2 hs2
      go_wp2
      go_roundg (n - (i + 1))
      · exact ⟨i + 1, by omega, Nat.le_refl _, HR⟩
      · omega
    · obtain rfl : i = n := by omega
      have HVE : Hid (XGone B w wr b (T.drain M k) t vd vs g cap) := by
        rw [← hN, List.take_length, List.drop_length] at hv
        exact ⟨t', D', S', ev', us', hv, hst⟩
      rw [Nat.sub_self] at d11
      clear hv hst HW HV e1 hk1 ho hu hnc hcm
      go_wp2
      go_end0
      exact ⟨rfl, HVE.out⟩

end

end Go.Proofs.YtneclfaamgfoeaaDoor

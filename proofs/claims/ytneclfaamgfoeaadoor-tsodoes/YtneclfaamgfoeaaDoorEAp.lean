/- An instruction is done, the main way. (Written by gen_ins.py.) -/
import Derived.Test.YtneclfaamgfoeaaDoorEAg
import Derived.Test.YtneclfaamgfoeaaDoorEAn
import Derived.Test.YtneclfaamgfoeaaDoorEAo
import Derived.Deep.CutRange
namespace Go.Proofs.YtneclfaamgfoeaaDoor
open Go.RowKit Go.Maps
set_option linter.unusedVariables false
set_option linter.unusedSimpArgs false

theorem T.ansM_bad {M : T.Mach} {k : Nat} {q : S.Q} (h : ¬ T.ansE M k q = 0) : T.ansM M k q = M := by
  unfold T.ansE at h
  unfold T.ansM
  by_cases h1 : q.k = 1
  · rw [if_neg (by omega), if_neg (by omega), if_neg (by omega), if_neg (by omega), if_neg (by omega)]
  · rw [if_neg h1] at h
    by_cases h2 : q.k = 2 ∨ q.k = 3 ∨ q.k = 4
    · rw [if_pos h2] at h
      cases e : M.mem q.a with
      | some v => rw [e] at h; exact absurd rfl h
      | none => simp [T.has]; omega
    · rw [if_neg h2] at h; exact absurd rfl h
theorem T.len_leave (M : T.Mach) (k : Nat) : (T.leave M k).ts.length = M.ts.length := by
  unfold T.leave
  split
  · rfl
  · exact T.len_put _ _ _ _
theorem T.len_full (M : T.Mach) (k : Nat) : (T.full M k).ts.length = M.ts.length := by
  unfold T.full
  split
  · exact T.len_leave M k
  · rfl
theorem T.ansM_len (M : T.Mach) (k : Nat) (q : S.Q) : (T.ansM M k q).ts.length = M.ts.length := by
  unfold T.ansM
  cases M.mem q.a with
  | none => simp only [T.has]; repeat' split
            all_goals first | rfl | exact T.len_put _ _ _ _
  | some v =>
    simp only [T.has]
    repeat' split
    all_goals first | rfl | exact T.len_put _ _ _ _ | exact (T.len_put _ _ _ _).trans (T.len_full M k)
theorem T.doIns_yes {M : T.Mach} {k : Nat} (h : T.decOk M.code (T.plc M k) = true) : T.doIns M k = if T.ansE M k (T.iQ (M.th k).c (I.cut M.code (T.plc M k))) = 0 then
      T.setC (T.ansM M k (T.iQ (M.th k).c (I.cut M.code (T.plc M k)))) k (S.finish (T.iC (M.th k).c (I.cut M.code (T.plc M k))) (T.iQ (M.th k).c (I.cut M.code (T.plc M k))).k (T.iQ (M.th k).c (I.cut M.code (T.plc M k))).r (T.ansN M k (T.iQ (M.th k).c (I.cut M.code (T.plc M k)))))
    else T.setC M k (T.trapC (M.th k).c 2) := if_pos h
theorem T.doIns_no {M : T.Mach} {k : Nat} (h : ¬ T.decOk M.code (T.plc M k) = true) : T.doIns M k = T.setC M k (T.trapC (M.th k).c 3) := if_neg h
theorem S.asked_wf (c : S.C) (op : Int) (a b : Nat) (n x : Int) : (Lit.int .i64 (S.asked c op a b n (wrap64 x)).a).wf = true ∧ (Lit.int .i64 (S.asked c op a b n (wrap64 x)).v).wf = true := by
  unfold S.asked
  repeat' split
  all_goals exact ⟨by first | exact wrap64_wf _ | rfl, by first | exact wrap64_wf _ | rfl⟩
theorem S.startQ_wf (c : S.C) (op a b n z : Int) : (Lit.int .i64 (S.startQ c op a b n z).a).wf = true ∧ (Lit.int .i64 (S.startQ c op a b n z).v).wf = true := by
  unfold S.startQ
  split
  · exact S.asked_wf _ _ _ _ _ _
  · exact ⟨rfl, rfl⟩

set_option maxRecDepth 100000 in
set_option maxHeartbeats 8000000 in
theorem doins_ok {B : Nat} {w : World} {b : Nat} {M : T.Mach} {K : Nat} {t : Nat → Nat} {bm g cap : Nat} {ev : Value} {us : List Value} (h : TV B w b M K t bm g cap ev us) {k p : Nat} (hk : k < M.ts.length) (hq : p = k * 13) (hok : WsOk (M.th k).ws) (h8 : (M.th k).ws.length ≤ 8) (hes : M.es.length ≤ 1000000) (hK : K + 3000 < maxLen) (ht : Tab w) (hB2 : 2 ≤ B) (hcode : M.code.size ≤ 65536) (hd : T.decOk M.code (T.plc M k) = true) :
    Calls Tryd.prog 45 #[.pointer (some ⟨b, 0, none⟩), .pointer (some ⟨g, p, none⟩)] w fun e w' => e = .returned (.tuple #[]) ∧ Gone B w w' b (T.doIns M k) (K + 11) t bm g cap := by
  obtain ⟨u, hu⟩ := h.u hk
  have HD0 : Hid (∀ j x, (thC k (M.th k) u)[j]? = some x → w.cell? ⟨g, k * 13 + j, none⟩ = some x) := fun j x hx => h.cell hk hu j x hx
  have c0 := h.c0
  have hdo := T.doIns_yes hd
  unfold T.plc at hd hdo
  unfold T.decOk at hd
  obtain ⟨c, hcc⟩ : ∃ c, (M.th k).c = c := ⟨_, rfl⟩
  rw [hcc] at hd hdo
  have HCC : Hid ((M.th k).c = c) := hcc
  obtain ⟨pl, hpl⟩ : ∃ pl, wrap64 (c.pc - 4096) = pl := ⟨_, rfl⟩
  have hw : IntKind.i64.wrap (c.pc - 4096) = pl := by have h1 := hpl; unfold wrap64 at h1; rw [IntKind.wrap_i64]; exact h1
  rw [hpl] at hd hdo
  have hd1 := of_decide_eq_true (Bool.and_eq_true_iff.1 hd).1
  have hd2 := (Bool.and_eq_true_iff.1 hd).2
  have hdec := decode_any M.code pl (by omega) w ht
  unfold I.decR at hdec
  rw [if_neg (by omega), if_pos hd2] at hdec
  have hz : 0 ≤ I.psize (I.hd (I.cut M.code pl)) ∧ I.psize (I.hd (I.cut M.code pl)) ≤ 10 := by
    unfold I.dOk at hd2
    have h1 := of_decide_eq_true (Bool.and_eq_true_iff.1 hd2).1
    have := I.psize_size _ ⟨h1.2.1, h1.2.2.1⟩
    have := I.size_pos h1.2.1 h1.2.2.1
    omega
  unfold T.iC T.iQ at hdo
  generalize I.hd (I.cut M.code pl) = op at *
  generalize I.dA (I.cut M.code pl) = a at *
  generalize I.dB (I.cut M.code pl) = b0 at *
  generalize I.dN (I.cut M.code pl) = n at *
  generalize I.psize op = z at *
  obtain ⟨d, hdd⟩ : ∃ d, S.startC c op a b0 n z = d := ⟨_, rfl⟩
  obtain ⟨q, hqq⟩ : ∃ q, S.startQ c op a b0 n z = q := ⟨_, rfl⟩
  have HQW : Hid ((Lit.int .i64 q.a).wf = true ∧ (Lit.int .i64 q.v).wf = true) := by rw [← hqq]; exact S.startQ_wf _ _ _ _ _ _
  have HDD : Hid (S.startC c op a b0 n z = d) := hdd
  have HQQ : Hid (S.startQ c op a b0 n z = q) := hqq
  rw [hdd, hqq] at hdo
  have HDO : Hid (T.doIns M k = if T.ansE M k q = 0 then T.setC (T.ansM M k q) k (S.finish d q.k q.r (T.ansN M k q)) else T.setC M k (T.trapC c 2)) := hdo
  have HD : Hid (Calls Tryd.prog 56 #[.string M.code, .int .i64 pl] w fun e w' => e = .returned (decV (insW op a b0 n) (pl + z) 0) ∧ Below w.heap.size w w') := hdec
  have HV : Hid (TV B w b M K t bm g cap ev us) := h
  have HQP : Hid (p = k * 13) := hq
  have d8 : w.cell? ⟨g, p + 8, none⟩ = some (.int .i64 c.pc) := by rw [HQP.out, ← HCC.out]; exact HD0.out 8 _ rfl
  have hws : IntKind.i64.wrap (pl + z - pl) = z := by rw [IntKind.wrap_i64]; omega
  clear h hdec hd hdo hd1 hd2 hpl hu hdd hqq hcc hq
  go_enter Tryd.func45, Tryd.ntmps45
  go_wp2_with fail
  refine HD.out.mono ?_
  rintro e y1 ⟨rfl, hb1⟩
  obtain ⟨Y2, hY2⟩ : ∃ Y2, y1.alloc (.cells #[.int .i64 op, .int .i64 a, .int .i64 b0, .int .i64 n] 101) = Y2 := ⟨_, rfl⟩
  have hb2 : Below w.heap.size w Y2 := by subst hY2; exact hb1.alloc hb1.size _
  have HV2 : Hid (TV B Y2 b M K t bm g cap ev us) := HV.out.below hb2
  have HS2 : Hid (St t t w Y2) := St.ofBelow t hb2
  have i0 : Y2.cell? ⟨y1.heap.size, 0, none⟩ = some (.int .i64 op) := by subst hY2; exact cell_last _ _ _ _ _ rfl rfl
  have i1 : Y2.cell? ⟨y1.heap.size, 1, none⟩ = some (.int .i64 a) := by subst hY2; exact cell_last _ _ _ _ _ rfl rfl
  have i2 : Y2.cell? ⟨y1.heap.size, 2, none⟩ = some (.int .i64 b0) := by subst hY2; exact cell_last _ _ _ _ _ rfl rfl
  have i3 : Y2.cell? ⟨y1.heap.size, 3, none⟩ = some (.int .i64 n) := by subst hY2; exact cell_last _ _ _ _ _ rfl rfl
  have zi : y1.heap.size < Y2.heap.size := by subst hY2; simp
  clear d8
  have d0 : Y2.cell? ⟨g, p, none⟩ = some (.int .i64 c.r0) := cell_up hb2 (by rw [HQP.out, ← HCC.out]; exact HD0.out 0 _ rfl)
  have d1 : Y2.cell? ⟨g, p + 1, none⟩ = some (.int .i64 c.r1) := cell_up hb2 (by rw [HQP.out, ← HCC.out]; exact HD0.out 1 _ rfl)
  have d2 : Y2.cell? ⟨g, p + 2, none⟩ = some (.int .i64 c.r2) := cell_up hb2 (by rw [HQP.out, ← HCC.out]; exact HD0.out 2 _ rfl)
  have d3 : Y2.cell? ⟨g, p + 3, none⟩ = some (.int .i64 c.r3) := cell_up hb2 (by rw [HQP.out, ← HCC.out]; exact HD0.out 3 _ rfl)
  have d4 : Y2.cell? ⟨g, p + 4, none⟩ = some (.int .i64 c.r4) := cell_up hb2 (by rw [HQP.out, ← HCC.out]; exact HD0.out 4 _ rfl)
  have d5 : Y2.cell? ⟨g, p + 5, none⟩ = some (.int .i64 c.r5) := cell_up hb2 (by rw [HQP.out, ← HCC.out]; exact HD0.out 5 _ rfl)
  have d6 : Y2.cell? ⟨g, p + 6, none⟩ = some (.int .i64 c.r6) := cell_up hb2 (by rw [HQP.out, ← HCC.out]; exact HD0.out 6 _ rfl)
  have d7 : Y2.cell? ⟨g, p + 7, none⟩ = some (.int .i64 c.r7) := cell_up hb2 (by rw [HQP.out, ← HCC.out]; exact HD0.out 7 _ rfl)
  have d8 : Y2.cell? ⟨g, p + 8, none⟩ = some (.int .i64 c.pc) := cell_up hb2 (by rw [HQP.out, ← HCC.out]; exact HD0.out 8 _ rfl)
  have d9 : Y2.cell? ⟨g, p + 9, none⟩ = some (.int .i64 c.st) := cell_up hb2 (by rw [HQP.out, ← HCC.out]; exact HD0.out 9 _ rfl)
  have d10 : Y2.cell? ⟨g, p + 10, none⟩ = some (.int .i64 c.tr) := cell_up hb2 (by rw [HQP.out, ← HCC.out]; exact HD0.out 10 _ rfl)
  have zg : g < Y2.heap.size := HV2.out.gl
  go_upto_region 4 with fail
  generalize y1.heap.size = bi at *
  go_cut [8, 9] from 31 to 42 (fun s8 s9 wx => ∃ bx br : Nat, s8 = .pointer (some ⟨bx, 0, none⟩) ∧ s9 = .pointer (some ⟨br, 0, none⟩) ∧ Y2.heap.size ≤ bx ∧ bx < wx.heap.size ∧ Y2.heap.size ≤ br ∧ br < wx.heap.size ∧ (wx.cell? ⟨bx, 0, none⟩ = some (.int .i64 d.r0) ∧ wx.cell? ⟨bx, 1, none⟩ = some (.int .i64 d.r1) ∧ wx.cell? ⟨bx, 2, none⟩ = some (.int .i64 d.r2) ∧ wx.cell? ⟨bx, 3, none⟩ = some (.int .i64 d.r3) ∧ wx.cell? ⟨bx, 4, none⟩ = some (.int .i64 d.r4) ∧ wx.cell? ⟨bx, 5, none⟩ = some (.int .i64 d.r5) ∧ wx.cell? ⟨bx, 6, none⟩ = some (.int .i64 d.r6) ∧ wx.cell? ⟨bx, 7, none⟩ = some (.int .i64 d.r7) ∧ wx.cell? ⟨bx, 8, none⟩ = some (.int .i64 d.pc) ∧ wx.cell? ⟨bx, 9, none⟩ = some (.int .i64 d.st) ∧ wx.cell? ⟨bx, 10, none⟩ = some (.int .i64 d.tr)) ∧ (wx.cell? ⟨br, 0, none⟩ = some (.int .i64 q.k) ∧ wx.cell? ⟨br, 1, none⟩ = some (.int .i64 q.a) ∧ wx.cell? ⟨br, 2, none⟩ = some (.int .i64 q.v) ∧ wx.cell? ⟨br, 3, none⟩ = some (.int .i64 q.r)) ∧ Below Y2.heap.size Y2 wx)
  case first =>
    go_region_held3 (fun w' => w'.cell? ⟨g, p, none⟩ = some (.int .i64 c.r0) ∧ w'.cell? ⟨g, p + 1, none⟩ = some (.int .i64 c.r1) ∧ w'.cell? ⟨g, p + 2, none⟩ = some (.int .i64 c.r2) ∧ w'.cell? ⟨g, p + 3, none⟩ = some (.int .i64 c.r3) ∧ w'.cell? ⟨g, p + 4, none⟩ = some (.int .i64 c.r4) ∧ w'.cell? ⟨g, p + 5, none⟩ = some (.int .i64 c.r5) ∧ w'.cell? ⟨g, p + 6, none⟩ = some (.int .i64 c.r6) ∧ w'.cell? ⟨g, p + 7, none⟩ = some (.int .i64 c.r7) ∧ w'.cell? ⟨g, p + 8, none⟩ = some (.int .i64 c.pc) ∧ w'.cell? ⟨g, p + 9, none⟩ = some (.int .i64 c.st) ∧ w'.cell? ⟨g, p + 10, none⟩ = some (.int .i64 c.tr) ∧ w'.cell? ⟨bi, 0, none⟩ = some (.int .i64 op) ∧ w'.cell? ⟨bi, 1, none⟩ = some (.int .i64 a) ∧ w'.cell? ⟨bi, 2, none⟩ = some (.int .i64 b0) ∧ w'.cell? ⟨bi, 3, none⟩ = some (.int .i64 n)) (first | (refine ⟨?_, ?_, ?_, ?_, ?_, ?_, ?_, ?_, ?_, ?_, ?_, ?_, ?_, ?_, ?_⟩ <;> (simp (disch := (first | ((try simp) <;> omega) | fail)) only [World.cell?_drew, World.cell?_alloc_past, d0, d1, d2, d3, d4, d5, d6, d7, d8, d9, d10, i0, i1, i2, i3] <;> rfl)) | (refine ⟨?_, ?_, ?_, ?_, ?_, ?_, ?_, ?_, ?_, ?_, ?_, ?_, ?_, ?_, ?_⟩ <;> (simp (disch := (first | ((try simp) <;> omega) | fail)) only [hc1, World.cell?_drew, World.cell?_alloc_past, d0, d1, d2, d3, d4, d5, d6, d7, d8, d9, d10, i0, i1, i2, i3] <;> rfl)) | (refine ⟨?_, ?_, ?_, ?_, ?_, ?_, ?_, ?_, ?_, ?_, ?_, ?_, ?_, ?_, ?_⟩ <;> (simp (disch := (first | ((try simp) <;> omega) | fail)) only [k_far, hc1, World.cell?_drew, World.cell?_alloc_past, d0, d1, d2, d3, d4, d5, d6, d7, d8, d9, d10, i0, i1, i2, i3] <;> rfl))) (first | (go_at_call 58; refine (start_any c _ _ _ _ _ _).mono ?_; rintro e w1 ⟨rfl, hb1⟩; rw [HDD.out, HQQ.out]; obtain ⟨hc1, hf1⟩ := bcell hb1; have hz1 := hb1.size; simp at hz1; obtain ⟨hca, hfa⟩ := a_old hb1))
    · go_wp2_with fail
      go_meet
      case rel =>
        refine ⟨_, _, rfl, rfl, (by first | (simp; done) | (simp; omega) | omega), (by first | (simp; done) | (simp; omega) | omega), (by first | (simp; done) | (simp; omega) | omega), (by first | (simp; done) | (simp; omega) | omega), (two_1 _ d q _ _).1, (two_1 _ d q _ _).2, ?_⟩
        repeat (first | refine Below.setCell ?_ (by first | (simp; done) | (simp; omega) | omega) _ | refine Below.alloc ?_ (by first | (simp; done) | (simp; omega) | omega) _)
        refine Below.trans ?_ (hb1.mono (by first | (simp; done) | (simp; omega) | omega))
        repeat (first | refine Below.drew ?_ | refine Below.alloc ?_ (by first | (simp; done) | (simp; omega) | omega) _)
        exact Below.refl _ _
    · go_wp2_with fail
      go_meet
      case rel =>
        refine ⟨_, _, rfl, rfl, (by first | (simp; done) | (simp; omega) | omega), (by first | (simp; done) | (simp; omega) | omega), (by first | (simp; done) | (simp; omega) | omega), (by first | (simp; done) | (simp; omega) | omega), (two_2 _ d q _ _).1, (two_2 _ d q _ _).2, ?_⟩
        repeat (first | refine Below.setCell ?_ (by first | (simp; done) | (simp; omega) | omega) _ | refine Below.alloc ?_ (by first | (simp; done) | (simp; omega) | omega) _)
        refine Below.trans ?_ (hb1.mono (by first | (simp; done) | (simp; omega) | omega))
        repeat (first | refine Below.drew ?_ | refine Below.alloc ?_ (by first | (simp; done) | (simp; omega) | omega) _)
        exact Below.refl _ _
    · go_wp2_with fail
      go_meet
      case rel =>
        refine ⟨_, _, rfl, rfl, (by first | (simp; done) | (simp; omega) | omega), (by first | (simp; done) | (simp; omega) | omega), (by first | (simp; done) | (simp; omega) | omega), (by first | (simp; done) | (simp; omega) | omega), (two_c (w1.alloc _) d q Y2.heap.size w1.heap.size (by omega) (some_a hb1 _ _ 11 (by first | (simp; done) | (simp; omega) | omega) (some_k (cs := (#[.int .i64 0, .int .i64 0, .int .i64 0, .int .i64 0, .int .i64 0, .int .i64 0, .int .i64 0, .int .i64 0, .int .i64 0, .int .i64 0, .int .i64 0] : Array Value)) (fun o => by simp (disch := (first | ((try simp only [World.size_alloc]) <;> omega) | fail)) only [World.cell?_drew, World.cell?_alloc_at]) (by decide))) (some_n w1 _ _ 4 (by simp))).1, (two_c (w1.alloc _) d q Y2.heap.size w1.heap.size (by omega) (some_a hb1 _ _ 11 (by first | (simp; done) | (simp; omega) | omega) (some_k (cs := (#[.int .i64 0, .int .i64 0, .int .i64 0, .int .i64 0, .int .i64 0, .int .i64 0, .int .i64 0, .int .i64 0, .int .i64 0, .int .i64 0, .int .i64 0] : Array Value)) (fun o => by simp (disch := (first | ((try simp only [World.size_alloc]) <;> omega) | fail)) only [World.cell?_drew, World.cell?_alloc_at]) (by decide))) (some_n w1 _ _ 4 (by simp))).2, ?_⟩
        repeat (first | refine Below.setCell ?_ (by first | (simp; done) | (simp; omega) | omega) _ | refine Below.alloc ?_ (by first | (simp; done) | (simp; omega) | omega) _)
        refine Below.trans ?_ (hb1.mono (by first | (simp; done) | (simp; omega) | omega))
        repeat (first | refine Below.drew ?_ | refine Below.alloc ?_ (by first | (simp; done) | (simp; omega) | omega) _)
        exact Below.refl _ _
    · go_wp2_with fail
      go_meet
      case rel =>
        refine ⟨_, _, rfl, rfl, (by first | (simp; done) | (simp; omega) | omega), (by first | (simp; done) | (simp; omega) | omega), (by first | (simp; done) | (simp; omega) | omega), (by first | (simp; done) | (simp; omega) | omega), (two_c w1 d q Y2.heap.size (Y2.heap.size + 1) (by omega) (some_c hb1 _ 11 (by first | (simp; done) | (simp; omega) | omega) (some_k (cs := (#[.int .i64 0, .int .i64 0, .int .i64 0, .int .i64 0, .int .i64 0, .int .i64 0, .int .i64 0, .int .i64 0, .int .i64 0, .int .i64 0, .int .i64 0] : Array Value)) (fun o => by simp (disch := (first | ((try simp only [World.size_alloc]) <;> omega) | fail)) only [World.cell?_drew, World.cell?_alloc_at, World.cell?_alloc_past]) (by decide))) (some_c hb1 _ 4 (by first | (simp; done) | (simp; omega) | omega) (some_k (cs := (#[.int .i64 0, .int .i64 0, .int .i64 0, .int .i64 0] : Array Value)) (fun o => by simp (disch := (first | ((try simp only [World.size_alloc]) <;> omega) | fail)) only [World.cell?_drew, World.cell?_alloc_at]) (by decide)))).1, (two_c w1 d q Y2.heap.size (Y2.heap.size + 1) (by omega) (some_c hb1 _ 11 (by first | (simp; done) | (simp; omega) | omega) (some_k (cs := (#[.int .i64 0, .int .i64 0, .int .i64 0, .int .i64 0, .int .i64 0, .int .i64 0, .int .i64 0, .int .i64 0, .int .i64 0, .int .i64 0, .int .i64 0] : Array Value)) (fun o => by simp (disch := (first | ((try simp only [World.size_alloc]) <;> omega) | fail)) only [World.cell?_drew, World.cell?_alloc_at, World.cell?_alloc_past]) (by decide))) (some_c hb1 _ 4 (by first | (simp; done) | (simp; omega) | omega) (some_k (cs := (#[.int .i64 0, .int .i64 0, .int .i64 0, .int .i64 0] : Array Value)) (fun o => by simp (disch := (first | ((try simp only [World.size_alloc]) <;> omega) | fail)) only [World.cell?_drew, World.cell?_alloc_at]) (by decide)))).2, ?_⟩
        repeat (first | refine Below.setCell ?_ (by first | (simp; done) | (simp; omega) | omega) _ | refine Below.alloc ?_ (by first | (simp; done) | (simp; omega) | omega) _)
        refine Below.trans ?_ (hb1.mono (by first | (simp; done) | (simp; omega) | omega))
        repeat (first | refine Below.drew ?_ | refine Below.alloc ?_ (by first | (simp; done) | (simp; omega) | omega) _)
        exact Below.refl _ _
    · go_wp2_with fail
      go_meet
      case rel =>
        refine ⟨_, _, rfl, rfl, (by first | (simp; done) | (simp; omega) | omega), (by first | (simp; done) | (simp; omega) | omega), (by first | (simp; done) | (simp; omega) | omega), (by first | (simp; done) | (simp; omega) | omega), (two_5 w1 d q _ Y2.heap.size (by omega) (some_a hb1 _ _ 4 (by first | (simp; done) | (simp; omega) | omega) (some_k (cs := (#[.int .i64 0, .int .i64 0, .int .i64 0, .int .i64 0] : Array Value)) (fun o => by simp (disch := (first | ((try simp only [World.size_alloc]) <;> omega) | fail)) only [World.cell?_drew, World.cell?_alloc_at]) (by decide)))).1, (two_5 w1 d q _ Y2.heap.size (by omega) (some_a hb1 _ _ 4 (by first | (simp; done) | (simp; omega) | omega) (some_k (cs := (#[.int .i64 0, .int .i64 0, .int .i64 0, .int .i64 0] : Array Value)) (fun o => by simp (disch := (first | ((try simp only [World.size_alloc]) <;> omega) | fail)) only [World.cell?_drew, World.cell?_alloc_at]) (by decide)))).2, ?_⟩
        repeat (first | refine Below.setCell ?_ (by first | (simp; done) | (simp; omega) | omega) _ | refine Below.alloc ?_ (by first | (simp; done) | (simp; omega) | omega) _)
        refine Below.trans ?_ (hb1.mono (by first | (simp; done) | (simp; omega) | omega))
        repeat (first | refine Below.drew ?_ | refine Below.alloc ?_ (by first | (simp; done) | (simp; omega) | omega) _)
        exact Below.refl _ _
    · go_wp2_with fail
      go_meet
      case rel =>
        refine ⟨_, _, rfl, rfl, (by first | (simp; done) | (simp; omega) | omega), (by first | (simp; done) | (simp; omega) | omega), (by first | (simp; done) | (simp; omega) | omega), (by first | (simp; done) | (simp; omega) | omega), (two_c w1 d q (Y2.heap.size + 1) Y2.heap.size (by omega) (some_c hb1 _ 11 (by first | (simp; done) | (simp; omega) | omega) (some_k (cs := (#[.int .i64 0, .int .i64 0, .int .i64 0, .int .i64 0, .int .i64 0, .int .i64 0, .int .i64 0, .int .i64 0, .int .i64 0, .int .i64 0, .int .i64 0] : Array Value)) (fun o => by simp (disch := (first | ((try simp only [World.size_alloc]) <;> omega) | fail)) only [World.cell?_drew, World.cell?_alloc_at]) (by decide))) (some_c hb1 _ 4 (by first | (simp; done) | (simp; omega) | omega) (some_k (cs := (#[.int .i64 0, .int .i64 0, .int .i64 0, .int .i64 0] : Array Value)) (fun o => by simp (disch := (first | ((try simp only [World.size_alloc]) <;> omega) | fail)) only [World.cell?_drew, World.cell?_alloc_at, World.cell?_alloc_past]) (by decide)))).1, (two_c w1 d q (Y2.heap.size + 1) Y2.heap.size (by omega) (some_c hb1 _ 11 (by first | (simp; done) | (simp; omega) | omega) (some_k (cs := (#[.int .i64 0, .int .i64 0, .int .i64 0, .int .i64 0, .int .i64 0, .int .i64 0, .int .i64 0, .int .i64 0, .int .i64 0, .int .i64 0, .int .i64 0] : Array Value)) (fun o => by simp (disch := (first | ((try simp only [World.size_alloc]) <;> omega) | fail)) only [World.cell?_drew, World.cell?_alloc_at]) (by decide))) (some_c hb1 _ 4 (by first | (simp; done) | (simp; omega) | omega) (some_k (cs := (#[.int .i64 0, .int .i64 0, .int .i64 0, .int .i64 0] : Array Value)) (fun o => by simp (disch := (first | ((try simp only [World.size_alloc]) <;> omega) | fail)) only [World.cell?_drew, World.cell?_alloc_at, World.cell?_alloc_past]) (by decide)))).2, ?_⟩
        repeat (first | refine Below.setCell ?_ (by first | (simp; done) | (simp; omega) | omega) _ | refine Below.alloc ?_ (by first | (simp; done) | (simp; omega) | omega) _)
        refine Below.trans ?_ (hb1.mono (by first | (simp; done) | (simp; omega) | omega))
        repeat (first | refine Below.drew ?_ | refine Below.alloc ?_ (by first | (simp; done) | (simp; omega) | omega) _)
        exact Below.refl _ _
  case rest =>
    obtain ⟨bx, br, rfl, rfl, zx0, zx, zr0, zr, ⟨x0, x1, x2, x3, x4, x5, x6, x7, x8, x9, x10⟩, ⟨r0, r1, r2, r3⟩, hbl⟩ := hcut
    have HV3 : Hid (TV B wc b M K t bm g cap ev us) := HV2.out.below hbl
    have HS3 : Hid (St t t w wc) := HS2.out.trans (St.ofBelow t hbl)
    have tx : Hid (t bx = 0) := Classical.byContradiction fun e => by have := (HV2.out.lt _ e).2; omega
    have ty : Hid (t br = 0) := Classical.byContradiction fun e => by have := (HV2.out.lt _ e).2; omega
    have h0 := answer_any HV3.out hk HQP.out hok h8 hes q.a q.v q.r HQW.out.1 HQW.out.2 hK q.k
    have hk2 : k < (T.ansM M k q).ts.length := by rw [T.ansM_len]; exact hk
    have HMB : Hid (¬ T.ansE M k q = 0 → T.ansM M k q = M) := fun e => T.ansM_bad e
    change Calls _ _ _ _ (fun e w' => e = .returned (.tuple #[.int .i64 (T.ansN M k q), .int .i64 (T.ansE M k q)]) ∧ ∃ t' ev' us', TV B w' b (T.ansM M k q) (K + 11) t' bm g cap ev' us' ∧ St t t' wc w') at h0
    obtain ⟨M2, hM2⟩ : ∃ M2, T.ansM M k q = M2 := ⟨_, rfl⟩
    obtain ⟨z1, hz1⟩ : ∃ z1, T.ansN M k q = z1 := ⟨_, rfl⟩
    obtain ⟨z2, hz20⟩ : ∃ z2, T.ansE M k q = z2 := ⟨_, rfl⟩
    have HM2 : Hid (T.ansM M k q = M2) := hM2
    have HZ1 : Hid (T.ansN M k q = z1) := hz1
    have HZ2 : Hid (T.ansE M k q = z2) := hz20
    rw [hM2] at hk2 h0
    rw [hz1, hz20] at h0
    rw [HM2.out, HZ2.out] at HMB
    clear hM2 hz1 hz20
    have HA : Hid (Calls Tryd.prog 59 #[.pointer (some ⟨b, 0, none⟩), .pointer (some ⟨g, p, none⟩), .agg #[.int .i64 q.k, .int .i64 q.a, .int .i64 q.v, .int .i64 q.r]] wc fun e w' => e = .returned (.tuple #[.int .i64 z1, .int .i64 z2]) ∧ ∃ t' ev' us', TV B w' b M2 (K + 11) t' bm g cap ev' us' ∧ St t t' wc w') := h0
    obtain ⟨dd, hd2⟩ : ∃ dd, S.finish d q.k q.r z1 = dd := ⟨_, rfl⟩
    have HD2 : Hid (S.finish d q.k q.r z1 = dd) := hd2
    clear h0 hd2 d0 d1 d2 d3 d4 d5 d6 d7 d8 d9 d10 i0 i1 i2 i3 hY2 hb2 hok hes hw hws hz
    by_cases hz2 : z2 = 0
    · subst hz2
      go_wp2_with fail
      refine HA.out.mono ?_
      rintro e y3 ⟨rfl, t2, ev2, us2, hv3, hs3⟩
      have HV4 : Hid (TV B y3 b M2 (K + 11) t2 bm g cap ev2 us2) := hv3
      have HS4 : Hid (St t t2 w y3) := HS3.out.trans hs3
      have hbx := hs3.block bx zx tx.out
      have hbr := hs3.block br zr ty.out
      replace x0 := blk_cell (p := ⟨bx, 0, none⟩) hbx x0
      replace x1 := blk_cell (p := ⟨bx, 1, none⟩) hbx x1
      replace x2 := blk_cell (p := ⟨bx, 2, none⟩) hbx x2
      replace x3 := blk_cell (p := ⟨bx, 3, none⟩) hbx x3
      replace x4 := blk_cell (p := ⟨bx, 4, none⟩) hbx x4
      replace x5 := blk_cell (p := ⟨bx, 5, none⟩) hbx x5
      replace x6 := blk_cell (p := ⟨bx, 6, none⟩) hbx x6
      replace x7 := blk_cell (p := ⟨bx, 7, none⟩) hbx x7
      replace x8 := blk_cell (p := ⟨bx, 8, none⟩) hbx x8
      replace x9 := blk_cell (p := ⟨bx, 9, none⟩) hbx x9
      replace x10 := blk_cell (p := ⟨bx, 10, none⟩) hbx x10
      replace r0 := blk_cell (p := ⟨br, 0, none⟩) hbr r0
      replace r1 := blk_cell (p := ⟨br, 1, none⟩) hbr r1
      replace r2 := blk_cell (p := ⟨br, 2, none⟩) hbr r2
      replace r3 := blk_cell (p := ⟨br, 3, none⟩) hbr r3
      have h1 := finish_any d q.k q.a q.v q.r z1 y3
      rw [HD2.out] at h1
      have HF : Hid (Calls Tryd.prog 60 #[d.v, S.reqV q.k q.a q.v q.r, .int .i64 z1] y3 fun e w' => e = .returned dd.v ∧ Below y3.heap.size y3 w') := h1
      clear hv3 hs3 h1 hbx hbr hbl zx0 zx zr0 zr
      go_wp2_with fail
      refine HF.out.mono ?_
      rintro e y4 ⟨rfl, hb4⟩
      have HV5 : Hid (TV B y4 b M2 (K + 11) t2 bm g cap ev2 us2) := HV4.out.below hb4
      have HS5 : Hid (St t t2 w y4) := HS4.out.trans (St.ofBelow t2 hb4)
      obtain ⟨u2, hu2⟩ := HV5.out.u hk2
      have g0 : y4.cell? ⟨g, p, none⟩ = some (.int .i64 (M2.th k).c.r0) := by rw [HQP.out]; exact HV5.out.cell hk2 hu2 0 _ rfl
      have f0 : y4.frozen? ⟨g, p, none⟩ = false := HV5.out.gz _
      have g1 : y4.cell? ⟨g, p + 1, none⟩ = some (.int .i64 (M2.th k).c.r1) := by rw [HQP.out]; exact HV5.out.cell hk2 hu2 1 _ rfl
      have f1 : y4.frozen? ⟨g, p + 1, none⟩ = false := HV5.out.gz _
      have g2 : y4.cell? ⟨g, p + 2, none⟩ = some (.int .i64 (M2.th k).c.r2) := by rw [HQP.out]; exact HV5.out.cell hk2 hu2 2 _ rfl
      have f2 : y4.frozen? ⟨g, p + 2, none⟩ = false := HV5.out.gz _
      have g3 : y4.cell? ⟨g, p + 3, none⟩ = some (.int .i64 (M2.th k).c.r3) := by rw [HQP.out]; exact HV5.out.cell hk2 hu2 3 _ rfl
      have f3 : y4.frozen? ⟨g, p + 3, none⟩ = false := HV5.out.gz _
      have g4 : y4.cell? ⟨g, p + 4, none⟩ = some (.int .i64 (M2.th k).c.r4) := by rw [HQP.out]; exact HV5.out.cell hk2 hu2 4 _ rfl
      have f4 : y4.frozen? ⟨g, p + 4, none⟩ = false := HV5.out.gz _
      have g5 : y4.cell? ⟨g, p + 5, none⟩ = some (.int .i64 (M2.th k).c.r5) := by rw [HQP.out]; exact HV5.out.cell hk2 hu2 5 _ rfl
      have f5 : y4.frozen? ⟨g, p + 5, none⟩ = false := HV5.out.gz _
      have g6 : y4.cell? ⟨g, p + 6, none⟩ = some (.int .i64 (M2.th k).c.r6) := by rw [HQP.out]; exact HV5.out.cell hk2 hu2 6 _ rfl
      have f6 : y4.frozen? ⟨g, p + 6, none⟩ = false := HV5.out.gz _
      have g7 : y4.cell? ⟨g, p + 7, none⟩ = some (.int .i64 (M2.th k).c.r7) := by rw [HQP.out]; exact HV5.out.cell hk2 hu2 7 _ rfl
      have f7 : y4.frozen? ⟨g, p + 7, none⟩ = false := HV5.out.gz _
      have g8 : y4.cell? ⟨g, p + 8, none⟩ = some (.int .i64 (M2.th k).c.pc) := by rw [HQP.out]; exact HV5.out.cell hk2 hu2 8 _ rfl
      have f8 : y4.frozen? ⟨g, p + 8, none⟩ = false := HV5.out.gz _
      have g9 : y4.cell? ⟨g, p + 9, none⟩ = some (.int .i64 (M2.th k).c.st) := by rw [HQP.out]; exact HV5.out.cell hk2 hu2 9 _ rfl
      have f9 : y4.frozen? ⟨g, p + 9, none⟩ = false := HV5.out.gz _
      have g10 : y4.cell? ⟨g, p + 10, none⟩ = some (.int .i64 (M2.th k).c.tr) := by rw [HQP.out]; exact HV5.out.cell hk2 hu2 10 _ rfl
      have f10 : y4.frozen? ⟨g, p + 10, none⟩ = false := HV5.out.gz _
      clear hu2 hb4 HF
      go_wp2
      go_end0
      obtain ⟨q1, q2⟩ := HV5.out.regs hk2 HQP.out dd
      refine ⟨rfl, t2, ev2, us2, ?_, HS5.out.trans q2⟩
      rw [HDO.out, if_pos HZ2.out, HM2.out, HZ1.out, HD2.out]
      exact q1
    · have hM := HMB.out hz2
      subst hM
      go_wp2_with fail
      refine HA.out.mono ?_
      rintro e y3 ⟨rfl, t2, ev2, us2, hv3, hs3⟩
      have HV4 : Hid (TV B y3 b M2 (K + 11) t2 bm g cap ev2 us2) := hv3
      have HS4 : Hid (St t t2 w y3) := HS3.out.trans hs3
      have h1 := trap_any HV4.out hk HQP.out 2
      rw [HCC.out] at h1
      have HF : Hid (Calls Tryd.prog 57 #[.pointer (some ⟨g, p, none⟩), .int .i64 2] y3 fun e w' => e = .returned (.tuple #[]) ∧ TV B w' b (T.setC M2 k (T.trapC c 2)) (K + 11) t2 bm g cap ev2 us2 ∧ St t2 t2 y3 w') := h1
      clear hv3 hs3 h1 hbl zx0 zx zr0 zr x0 x1 x2 x3 x4 x5 x6 x7 x8 x9 x10 r0 r1 r2 r3
      go_wp2_with fail
      refine HF.out.mono ?_
      rintro e y4 ⟨rfl, hv4, hs4⟩
      have HV5 : Hid (TV B y4 b (T.setC M2 k (T.trapC c 2)) (K + 11) t2 bm g cap ev2 us2) := hv4
      have HS5 : Hid (St t t2 w y4) := HS4.out.trans hs4
      clear hv4 hs4
      go_wp2
      refine bodyPost_ret (results_none rfl _ _ _) rfl ?_
      refine ⟨rfl, t2, ev2, us2, ?_, HS5.out⟩
      rw [HDO.out, if_neg (by rw [HZ2.out]; exact hz2)]
      exact HV5.out
theorem doins_any {B : Nat} {w : World} {b : Nat} {M : T.Mach} {K : Nat} {t : Nat → Nat} {bm g cap : Nat} {ev : Value} {us : List Value} (h : TV B w b M K t bm g cap ev us) {k p : Nat} (hk : k < M.ts.length) (hq : p = k * 13) (hok : WsOk (M.th k).ws) (h8 : (M.th k).ws.length ≤ 8) (hes : M.es.length ≤ 1000000) (hK : K + 3000 < maxLen) (ht : Tab w) (hB2 : 2 ≤ B) (hcode : M.code.size ≤ 65536) :
    Calls Tryd.prog 45 #[.pointer (some ⟨b, 0, none⟩), .pointer (some ⟨g, p, none⟩)] w fun e w' => e = .returned (.tuple #[]) ∧ Gone B w w' b (T.doIns M k) (K + 11) t bm g cap := by
  cases hd : T.decOk M.code (T.plc M k) with
  | false => rw [T.doIns_no (by rw [hd]; decide)]; exact doins_code h hk hq hok h8 hes hK ht hB2 hcode hd
  | true => exact doins_ok h hk hq hok h8 hes hK ht hB2 hcode hd

end Go.Proofs.YtneclfaamgfoeaaDoor

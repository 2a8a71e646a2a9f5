/- The document's machine: a step, whatever it is; a pick. -/
import Derived.Test.YtneclfaamgfoeaaDoorEBu
import Derived.Test.YtneclfaamgfoeaaDoorEAw
namespace Go.Proofs.YtneclfaamgfoeaaDoor
open Go.RowKit Go.Maps
set_option linter.unusedVariables false
set_option linter.unusedSimpArgs false

section
variable {B : Nat} {w : World} {b : Nat} {M : T.Mach} {t : Nat → Nat} {D Sk : List Int} {vd vs : Value} {g cap : Nat} {ev : Value} {us : List Value}
theorem T.goOn_out {M : T.Mach} {k : Nat} (hk : k < M.ts.length) (hs : (M.th k).c.st = 0) (hd : T.decOk M.code (T.plc M k) = false) : T.goOn M k = (T.setC M k (T.trapC (M.th k).c 3)).see k 3 3 := by
  unfold T.goOn T.doIns
  rw [if_pos hs, if_neg (by rw [hd]; decide)]
  unfold T.seen
  rw [T.th_setC hk]
  rfl
theorem xstep_any (h : XV B w b M t D Sk vd vs g cap ev us) {k : Nat} (hk : k < M.ts.length) (hes : M.es.length ≤ 1000000) (hcode : M.code.size ≤ 65536) (hcok : (M.th k).c.ok) (hok : WsOk (M.th k).ws) (h8 : (M.th k).ws.length ≤ 8) (hgo : ∀ p ∈ (M.th k).ws, (M.mem p.1).isSome = true) :
    Calls Tryd.prog 35 #[.pointer (some ⟨b, 0, none⟩), .int .i64 k] w fun e w' => e = .returned (.bool (T.went M k)) ∧ XGone B w w' b (T.goOn M k) t vd vs g cap := by
  by_cases hs : (M.th k).c.st = 0
  · rw [show T.went M k = true from decide_eq_true hs]
    cases hd : T.decOk M.code (T.plc M k) with
    | false =>
      rw [T.goOn_out hk hs hd]
      by_cases hin : 0 ≤ T.plc M k ∧ T.plc M k ≤ (M.code.size : Int)
      · exact xstep_code h hk hs hes hcode hin hd
      · exact xstep_out h hk hs hes (by omega)
    | true =>
      obtain ⟨qq, hQ⟩ : ∃ qq, T.iQ (M.th k).c (I.cut M.code (T.plc M k)) = qq := ⟨_, rfl⟩
      obtain ⟨dd, hC⟩ : ∃ dd, T.iC (M.th k).c (I.cut M.code (T.plc M k)) = dd := ⟨_, rfl⟩
      have hqa : (Lit.int .i64 qq.a).wf = true := by rw [← hQ]; exact (T.insQ_wf M k).1
      obtain ⟨N, hN⟩ : ∃ N, T.setC (T.ansM M k qq) k (S.finish dd qq.k qq.r (T.ansN M k qq)) = N := ⟨_, rfl⟩
      have hNl : N.ts.length = M.ts.length := by rw [← hN]; exact T.len_ans hk _ _
      have hNe : N.es.length ≤ 1000001 := by rw [← hN]; have := T.es_ans hk (S.finish dd qq.k qq.r (T.ansN M k qq)) qq; omega
      refine xstep_ins h hk hs hes hcode hcok hok h8 hgo hd hQ hC hqa hN hNl hNe (fun hE => ?_) (fun hE => ?_)
      · unfold T.goOn T.doIns
        rw [if_pos hs, if_pos hd, hQ, if_neg hE, T.setC_setC hk]
        unfold T.seen
        rw [T.th_setC hk]
        rfl
      · have hdo : T.doIns M k = N := by
          unfold T.doIns
          rw [if_pos hd, hQ, hC, if_pos hE]
          exact hN
        unfold T.goOn
        rw [if_pos hs, hdo]
  · rw [show T.went M k = false from decide_eq_false hs, T.goOn_no hs]
    exact xstep_no h hk hs

theorem xleave_any (h : XV B w b M t D Sk vd vs g cap ev us) {k : Nat} (hk : k < M.ts.length) (hok : WsOk (M.th k).ws) :
    Calls Tryd.prog 34 #[.pointer (some ⟨b, 0, none⟩), .int .i64 k] w fun e w' => e = .returned (.bool (T.leaves M k)) ∧ XGone B w w' b (T.leave M k) t vd vs g cap := by
  cases he : (M.th k).ws with
  | nil =>
    rw [show T.leaves M k = false by unfold T.leaves; rw [he]; rfl, T.leave_no he]
    refine (xleave_no h hk he).mono ?_
    rintro e w' ⟨rfl, rfl⟩
    exact ⟨rfl, _, _, _, _, _, h, St.refl _ _⟩
  | cons p r =>
    obtain ⟨y, v⟩ := p
    rw [show T.leaves M k = true by unfold T.leaves; rw [he]; rfl, T.leave_eq he]
    have h1 := hok.1
    rw [he] at h1
    exact xleave_yes h hk he (hok.2 (y, v) (by rw [he]; exact List.mem_cons_self)).1 (by simp at h1; omega)

set_option maxRecDepth 100000 in
set_option maxHeartbeats 4000000 in
theorem xdo_any (h : XV B w b M t D Sk vd vs g cap ev us) (hok : MOk M) (hfit : T.Fit M) (hes : M.es.length ≤ 1000000) (hcode : M.code.size ≤ 65536) (p : Int) (hp : (Lit.int .i64 p).wf = true) :
    Calls Tryd.prog 15 #[.pointer (some ⟨b, 0, none⟩), .int .i64 p] w fun e w' => e = .returned (.bool (T.did M p)) ∧ XGone B w w' b (T.act M p) t vd vs g cap := by
  have h0 : 0 < M.ts.length := h.room.2.2.1
  have hk := T.who_lt h0 p
  have HST : Hid _ := xstep_any h hk hes hcode (hfit.regs _ hk) (hok _ hk).1 (hok _ hk).2 (hfit.goal _ hk)
  have HLV : Hid _ := xleave_any h hk (hok _ hk).1
  have hpw := wf_bounds hp
  obtain ⟨P, hP⟩ : ∃ P, T.pk p = P := ⟨_, rfl⟩
  have hP0 : 0 ≤ P ∧ P ≤ 9223372036854775807 := by rw [← hP]; unfold T.pk; split <;> omega
  have hneg : p < 0 → IntKind.i64.wrap (-IntKind.i64.wrap (p + 1)) = P ∧ IntKind.i64.wrap (-(p + 1)) = P ∧ IntKind.i64.wrap (p + 1) = p + 1 := fun h1 => by
    rw [← hP]; unfold T.pk; rw [if_pos h1]
    simp only [IntKind.wrap_i64]
    omega
  have hpos : ¬ p < 0 → p = P := fun h1 => by rw [← hP]; unfold T.pk; rw [if_neg h1]
  have hro := h.room
  have c3 := h.c3
  obtain ⟨n, hn⟩ : ∃ n, M.ts.length = n := ⟨_, rfl⟩
  have hwho : (T.who M p : Int) = P / 2 % (n : Int) := by
    unfold T.who
    rw [hP, hn]
    have := Int.emod_nonneg (P / 2) (b := (n : Int)) (by omega)
    omega
  unfold T.did T.act
  rw [hP]
  obtain ⟨k, hke⟩ : ∃ k, T.who M p = k := ⟨_, rfl⟩
  rw [hke] at HST HLV hk hwho
  rw [hke]
  rw [hn] at c3 hro
  obtain ⟨r1, r2, r3, r4⟩ := hro
  unfold maxLen at r2
  obtain ⟨Q, hQ⟩ : ∃ Q, P / 2 = Q := ⟨_, rfl⟩
  have hQ0 : 0 ≤ Q ∧ Q ≤ 9223372036854775807 := by omega
  have hQt : P.tdiv 2 = Q := by rw [Int.tdiv_eq_ediv_of_nonneg hP0.1]; exact hQ
  rw [hQ] at hwho
  have hwt : Q.tmod (n : Int) = (k : Int) := by rw [Int.tmod_eq_emod_of_nonneg hQ0.1]; exact hwho.symm
  have hwm : Q % (n : Int) = (k : Int) := hwho.symm
  have hn0 : ¬ (n : Int) = 0 := by omega
  clear h hok hfit hn hP hke hk hwho hpw
  obtain ⟨hP1, hP2⟩ := hP0
  obtain ⟨hQ1, hQ2⟩ := hQ0
  by_cases he : P % 2 = 0
  · rw [if_pos he, if_pos he]
    have het : P.tmod 2 = 0 := by rw [Int.tmod_eq_emod_of_nonneg hP1]; exact he
    clear HLV
    by_cases hneg0 : p < 0
    · obtain ⟨w1, w2, w3⟩ := hneg hneg0
      clear hneg hpos hp
      go_enter Tryd.func15, Tryd.ntmps15
      go_wp2_with fail
      refine Calls.mono HST.out ?_
      rintro e y ⟨rfl, hg⟩
      have HG : Hid _ := hg
      clear hg
      go_wp2
      go_ret
      exact ⟨rfl, HG.out⟩
    · obtain rfl := hpos hneg0
      clear hneg hpos hp
      go_enter Tryd.func15, Tryd.ntmps15
      go_wp2_with fail
      refine Calls.mono HST.out ?_
      rintro e y ⟨rfl, hg⟩
      have HG : Hid _ := hg
      clear hg
      go_wp2
      go_ret
      exact ⟨rfl, HG.out⟩
  · rw [if_neg he, if_neg he]
    have he1 : P % 2 = 1 := by omega
    have het : P.tmod 2 = 1 := by rw [Int.tmod_eq_emod_of_nonneg hP1]; exact he1
    clear HST he
    by_cases hneg0 : p < 0
    · obtain ⟨w1, w2, w3⟩ := hneg hneg0
      clear hneg hpos hp
      go_enter Tryd.func15, Tryd.ntmps15
      go_wp2_with fail
      refine Calls.mono HLV.out ?_
      rintro e y ⟨rfl, hg⟩
      have HG : Hid _ := hg
      clear hg
      go_wp2
      go_ret
      exact ⟨rfl, HG.out⟩
    · obtain rfl := hpos hneg0
      clear hneg hpos hp
      go_enter Tryd.func15, Tryd.ntmps15
      go_wp2_with fail
      refine Calls.mono HLV.out ?_
      rintro e y ⟨rfl, hg⟩
      have HG : Hid _ := hg
      clear hg
      go_wp2
      go_ret
      exact ⟨rfl, HG.out⟩
end

end Go.Proofs.YtneclfaamgfoeaaDoor

/- The document's machine: where its threads begin. -/
namespace Go.Proofs.YtneclfaamgfoeaaDoor
open Go.RowKit Go.Maps
set_option linter.unusedVariables false
set_option linter.unusedSimpArgs false

set_option maxRecDepth 100000 in
set_option maxHeartbeats 8000000 in
theorem xentries_any {w : World} {code : ByteArray} {a1 : Option Addr} {l1 c1 : Nat} {a : Option Addr} {l c : Nat} {ss : List Sym} (h : SymsV w a l c ss) (hl : l ≤ 8796093022208) :
    Calls Tryd.prog 30 #[.agg #[.string code, .slice a1 l1 c1, .slice a l c]] w fun e w' => RowIs w.heap.size 3 1 e w' (strt ss).length ((strt ss).flatMap intC) ∧ Below w.heap.size w w' := by
  obtain ⟨i1, hi1, hz10, hz11, hz12⟩ := info_partsL infoN
  obtain ⟨X1, hX1⟩ : ∃ X1, w.alloc (.cells #[.string code, .slice a1 l1 c1, .slice a l c] 25) = X1 := ⟨_, rfl⟩
  have hb1 : Below w.heap.size w X1 := by subst hX1; exact bl_one _ _
  have o2 : X1.cell? ⟨w.heap.size, 2, none⟩ = some (.slice a l c) := by subst hX1; exact cell_last _ _ _ _ _ rfl rfl
  have HV : Hid (SymsV X1 a l c ss) := h.below hb1
  have HC : Hid (ss.length = l) := h.count
  have hro := h.room
  unfold maxLen at hro
  have HB1 : Hid (Below w.heap.size w X1) := hb1
  have HN0 : Hid (X1.ownsRow X1.heap.size 3 1 (.slice none 0 0) (strt (ss.take 0)).length ((strt (ss.take 0)).flatMap intC)) := World.ownsRow_nil _ _ _ _
  clear h hb1
  go_enter Tryd.func30, Tryd.ntmps30
  go_wp2_with fail
  go_loopg [3, 4] l (fun r lv iv wq => ∃ (k : Nat), iv = .int .i64 k ∧ k ≤ l ∧ l - k ≤ r ∧ Hid (wq.ownsRow X1.heap.size 3 1 lv (strt (ss.take k)).length ((strt (ss.take k)).flatMap intC)) ∧ Hid (Below X1.heap.size X1 wq))
  case atStart => exact ⟨0, rfl, Nat.zero_le _, by omega, HN0.out, Below.refl _ _⟩
  case round =>
    obtain ⟨k, rfl, hk, hr, HRW, HBL⟩ := hrel
    have o2r := cell_up HBL.out o2
    by_cases hlt : k < l
    · rcases HV.out.cells with h0 | ⟨b, off, hA, hcl⟩
      · omega
      obtain ⟨q0, q1, q2⟩ := hcl k hlt
      have q1 := cell_up HBL.out q1
      have q2 := cell_up HBL.out q2
      have HSN : Hid _ := strt_snoc ss (k := k) (by have := HC.out; omega)
      have HTL : Hid ((strt (ss.take k)).length ≤ k) := by show _ ≤ _; have := strt_len (ss.take k); rw [List.length_take] at this; omega
      obtain ⟨⟨nm, kd, ps⟩, hx⟩ : ∃ x, ss.getD k noSym = x := ⟨_, rfl⟩
      rw [hx] at q1 q2 HSN
      simp only at q1 q2 HSN
      cases hA
      have hii : (k : Int) < l := by omega
      have hin : 0 ≤ (k : Int) := by omega
      clear hcl hx q0
      by_cases hkd : kd = 3
      · subst hkd
        rw [if_pos rfl] at HSN
        obtain ⟨Z, hZ⟩ : ∃ Z, wr.alloc (.cells #[.int .i64 ps] 3) = Z := ⟨_, rfl⟩
        have bZ : Below wr.heap.size wr Z := by subst hZ; exact bl_one _ _
        obtain ⟨tn, htn⟩ : ∃ tn, (strt (ss.take k)).length = tn := ⟨_, rfl⟩
        have htl : tn ≤ k := by rw [← htn]; exact HTL.out
        have HTN : Hid _ := htn
        have HRZ : Hid (Z.ownsRow X1.heap.size 3 1 u3 tn ((strt (ss.take k)).flatMap intC)) := by
          show World.ownsRow _ _ _ _ _ _ _
          rw [← htn]
          exact own_below HRW.out bZ
        have HBZ : Hid (Below X1.heap.size X1 Z) := HBL.out.trans (bZ.mono HBL.out.size)
        have HZB : Hid (X1.heap.size ≤ Z.heap.size) := HBZ.out.size
        have HNCC : Hid (∀ j u, (intC ps)[j]? = some u → Z.cell? ((⟨wr.heap.size, 0, none⟩ : Addr).add j) = some u) := by
          intro j u hu
          match j, hu with
          | 0, hu => subst hZ; simp [intC] at hu; subst hu; exact cell_last _ _ _ _ _ (by simp) (by simp)
          | j + 1, hu => simp [intC] at hu
        clear bZ htn
        go_wp2_with (first | (at_builtin; refine wpList_append_lies _ rfl _ _ 26 rfl X1.heap.size 3 i1 _ 1 8 Tryd.underlying26 hi1 hz10 hz11 hz12 rfl (by decide) u3 tn _ rfl HRZ.out ⟨wr.heap.size, 0, none⟩ 1 1 (intC ps) rfl rfl HNCC.out (by intro u hu; simp [intC] at hu; subst hu; rfl) (by decide) (by unfold maxLen; omega) (by omega) HZB.out Z.heap.size rfl ?_; intro ga ca w1 ho1 hg1 hat1 hlt1) | go_in)
        have HR1 : Hid (w1.ownsRow X1.heap.size 3 1 (.slice (some ⟨ga, 0, none⟩) (tn + 1) ca) (strt (ss.take (k + 1))).length ((strt (ss.take (k + 1))).flatMap intC)) := by
          show World.ownsRow _ _ _ _ _ _ _
          rw [HSN.out, List.length_append, HTN.out, List.flatMap_append]
          have : ([ps].flatMap intC) = intC ps := by simp [intC]
          rw [this]
          exact ho1
        have HB1' : Hid (Below X1.heap.size X1 w1) := below_new HBZ.out hg1 (fun g hg => (HRZ.out.lt g hg).1)
        clear ho1 hg1 hat1
        go_wp2
        go_roundg (l - (k + 1))
        · exact ⟨k + 1, rfl, by omega, Nat.le_refl _, HR1, HB1'⟩
        · omega
      · rw [if_neg hkd, List.append_nil] at HSN
        have HR1 : Hid (wr.ownsRow X1.heap.size 3 1 u3 (strt (ss.take (k + 1))).length ((strt (ss.take (k + 1))).flatMap intC)) := by
          show World.ownsRow _ _ _ _ _ _ _
          rw [HSN.out]
          exact HRW.out
        go_wp2
        go_roundg (l - (k + 1))
        · exact ⟨k + 1, rfl, by omega, Nat.le_refl _, HR1, HBL⟩
        · omega
    · obtain rfl : k = l := by omega
      have HE : Hid (wr.ownsRow w.heap.size 3 1 u3 (strt ss).length ((strt ss).flatMap intC)) := by
        have h1 := HRW.out
        rw [← HC.out, List.take_length] at h1
        exact own_mono h1 HB1.out.size
      have HBE : Hid (Below w.heap.size w wr) := HB1.out.trans (HBL.out.mono HB1.out.size)
      go_wp2
      go_ret
      exact ⟨⟨_, rfl, HE.out⟩, HBE.out⟩

end Go.Proofs.YtneclfaamgfoeaaDoor

/- Order: an order of the whole, or that there is none. -/
import Derived.Test.YtafdjmccgijmnaaHiRen
import Derived.Test.YtafdjmccgijmnaaHiMergeW
namespace Go.Proofs.Ytafdjmccgijmnaa
open Go.RowKit A Go.Maps
set_option linter.unusedVariables false
set_option linter.unusedSimpArgs false
theorem infoSl : (Try.prog.info? 27).map (fun i => (i.zero, i.size, i.bytes)) = some (some (.slice none 0 0), 1, 24) := by kernel_rfl
theorem ok_len {σ : Type} {p : H.Pb σ} : ∀ (o : List Nat) (d : Nat) (s : σ), p.Ok d s o → o.length ≤ p.left d
  | [], d, s, _ => Nat.zero_le _
  | k :: o, d, s, h => by
    obtain ⟨hk, hf, s', hs, hr⟩ := h
    have h1 := H.left_lt hk hf
    have h2 := ok_len o _ _ hr
    simp only [List.length_cons]
    omega
theorem acts_of_row {W : World} {B : Nat} {a : Option Addr} {n c : Nat} {ts : List H.Ac} {ns : List Nat} (h : W.ownsRow B 42 7 (.slice a n c) n (H.acl ts ns)) (hn : ns.length = n) : ActsV W a n c (H.acts ts ns) := by
  refine ⟨by simp [H.acts, hn], A.own_room h, ?_⟩
  by_cases h0 : n = 0
  · exact .inl h0
  · right
    rcases h.2 with ⟨e, e2⟩ | ⟨g, cap, cur, e, -⟩
    · omega
    · simp only [Value.slice.injEq, true_and] at e
      obtain ⟨rfl, rfl⟩ := e
      refine ⟨g, 0, rfl, fun i hi j u hu => ?_⟩
      have hj : j < 7 := by
        have := (List.getElem?_eq_some_iff.1 hu).1
        simpa [H.Ac.cs] using this
      rw [Nat.zero_add, h.cellAt (i * 7 + j) (by omega)]
      unfold H.acl
      rw [A.flat_at (fun k => (ts.getD k H.noAc).cs) 7 0 (fun _ => rfl) _ _ _ (by omega) hj, ← hu, H.acts_at (by omega)]
theorem nv_of_row {W : World} {B : Nat} {a : Option Addr} {n c : Nat} {ns : List Nat} (h : W.ownsRow B 3 1 (.slice a n c) n (ns.map nV)) (hn : ns.length = n) : NV W a n c ns := by
  refine ⟨hn, A.own_room h, ?_⟩
  by_cases h0 : n = 0
  · exact .inl h0
  · right
    rcases h.2 with ⟨e, e2⟩ | ⟨g, cap, cur, e, -⟩
    · omega
    · simp only [Value.slice.injEq, true_and] at e
      obtain ⟨rfl, rfl⟩ := e
      refine ⟨g, 0, rfl, fun i hi => ?_⟩
      rw [Nat.zero_add, h.cellAt i (by omega), List.getElem?_map]
      simp [List.getD, show i < ns.length by omega]
/-- The orders so far. -/
structure OI (Wp W : World) (ov : Value) (vs : List Value) (oss : List (List Nat)) (j : Nat) : Prop where
  low : Below Wp.heap.size Wp W
  out : W.ownsRow Wp.heap.size 27 1 ov j vs
  len : oss.length = j
  inn : ∀ i, i < j → ∃ a1 l1 c1, vs[i]? = some (.slice a1 l1 c1) ∧ NV W a1 l1 c1 (oss.getD i []) ∧ ∀ p, a1 = some p → p.block < W.heap.size ∧ ov.ownBlock ≠ some p.block
  tot : H.tot oss ≤ j * 12
theorem OI.below {Wp W y : World} {ov : Value} {vs : List Value} {oss : List (List Nat)} {j : Nat} (h : OI Wp W ov vs oss j) (hb : Below W.heap.size W y) : OI Wp y ov vs oss j :=
  ⟨h.low.trans (hb.mono h.low.size), hown_thru h.out hb, h.len, fun i hi => by
    obtain ⟨a1, l1, c1, h1, h2, h3⟩ := h.inn i hi
    exact ⟨a1, l1, c1, h1, h2.below hb, fun p hp => ⟨Nat.lt_of_lt_of_le (h3 p hp).1 hb.size, (h3 p hp).2⟩⟩, h.tot⟩
theorem tot_snoc (oss : List (List Nat)) (x : List Nat) : H.tot (oss ++ [x]) = H.tot oss + x.length := by
  unfold H.tot
  simp
/-- An order more. -/
theorem OI.push {Wp W y : World} {ov : Value} {vs : List Value} {oss : List (List Nat)} {j : Nat} (h : OI Wp W ov vs oss j) {a1 : Option Addr} {l1 c1 : Nat} {x : List Nat} (hN : NV W a1 l1 c1 x) (hfar : ∀ p, a1 = some p → p.block < W.heap.size ∧ ov.ownBlock ≠ some p.block) (hx : x.length ≤ 12) {v1 : Value} (hg : W.grownBy y ov.ownBlock) (ho : y.ownsRow Wp.heap.size 27 1 v1 (j + 1) (vs ++ [.slice a1 l1 c1])) (hat : ∀ g, v1.ownBlock = some g → ov.ownBlock = some g ∨ W.heap.size ≤ g) : OI Wp y v1 (vs ++ [.slice a1 l1 c1]) (oss ++ [x]) (j + 1) := by
  have hvl : vs.length = j := by have := h.out.1; simpa using this
  have key : ∀ {q : Option Addr} {l c : Nat} {z : List Nat}, NV W q l c z → (∀ p, q = some p → p.block < W.heap.size ∧ ov.ownBlock ≠ some p.block) → NV y q l c z ∧ ∀ p, q = some p → p.block < y.heap.size ∧ v1.ownBlock ≠ some p.block := fun hz hf => by
    refine ⟨hz.agr fun p hp o u hc => hg.cell hc (fun e => (hf p hp).2 e.symm), fun p hp => ⟨Nat.lt_of_lt_of_le (hf p hp).1 hg.size, fun e => ?_⟩⟩
    rcases hat _ e with e1 | e1
    · exact (hf p hp).2 e1
    · have := (hf p hp).1; omega
  refine ⟨⟨hg.os.trans h.low.os, hg.tape.trans h.low.tape, hg.output.trans h.low.output, Nat.le_trans h.low.size hg.size, fun i hi => (hg.block i (by have := h.low.size; omega) (fun e => by have := (h.out.lt i e.symm).1; omega)).trans (h.low.block i hi)⟩, ho, by rw [List.length_append, h.len]; rfl, fun i hi => ?_, by rw [tot_snoc]; have := h.tot; rw [Nat.add_mul]; omega⟩
  by_cases e : i < j
  · obtain ⟨q1, q2, q3, h1, h2, h3⟩ := h.inn i e
    obtain ⟨k1, k2⟩ := key h2 h3
    refine ⟨q1, q2, q3, by rw [List.getElem?_append_left (by omega)]; exact h1, ?_, k2⟩
    rw [show (oss ++ [x]).getD i [] = oss.getD i [] by simp only [List.getD]; rw [List.getElem?_append_left (by have := h.len; omega)]]
    exact k1
  · obtain rfl : i = j := by omega
    obtain ⟨k1, k2⟩ := key hN hfar
    refine ⟨a1, l1, c1, by rw [List.getElem?_append_right (by omega), hvl]; simp, ?_, k2⟩
    rw [show (oss ++ [x]).getD i [] = x by simp only [List.getD]; rw [List.getElem?_append_right (by have := h.len; omega), h.len]; simp]
    exact k1
def OrdOut (w : World) (os : List At) (ts : List H.Ac) (e : Ending) (W : World) : Prop :=
  ∃ r v ord, e = .returned (.tuple #[v, .bool r]) ∧ W.ownsRow w.heap.size 3 1 v ord.length (ord.map nV) ∧ Below w.heap.size w W ∧ (r = true → mayAll os = true ∧ H.mayH ts = true ∧ (H.Pf ts).Ok 0 os ord) ∧ (r = false → ord = [] ∧ (mayAll os = true → H.mayH ts = true → (H.Pf ts).Bad 0 os))
set_option maxRecDepth 100000 in
set_option maxHeartbeats 16000000 in
theorem Order_any {w : World} {a aa : Option Addr} {lo c l cc : Nat} {os : List At} {ts : List H.Ac} (hO : AtsV w a lo c os) (hA : ActsV w aa l cc ts) (hl12 : l ≤ 12) (hargs : ∀ x ∈ ts, (Lit.int .i64 x.arg).wf = true) :
    Calls Try.prog 11 #[.slice a lo c, .slice aa l cc] w (OrdOut w os ts) := by
  have HO : Hid (AtsV w a lo c os) := hO
  have HA : Hid (ActsV w aa l cc ts) := hA
  have HTC : Hid (ts.length = l) := hA.count
  have HARG : Hid (∀ x ∈ ts, (Lit.int .i64 x.arg).wf = true) := hargs
  have hmax : maxLen = 9223372036854775807 := rfl
  have hac := A.check_any hO
  clear hO hA hargs
  cases hm : mayAll os with
  | false =>
    rw [if_neg (by rw [hm]; decide)] at hac
    have HF : Hid (mayAll os = false) := hm
    clear hm
    go_enter Try.func11, Try.ntmps11
    go_wp2_with fail
    refine hac.mono ?_
    rintro e y ⟨rfl, hy⟩
    have HY : Hid _ := hy
    clear hac hy
    go_wp2_with fail
    go_ret2
    exact ⟨false, .slice none 0 0, [], rfl, World.ownsRow_nil _ _ _ _, HY.out, fun e => (by cases e), fun _ => ⟨rfl, fun e => by rw [HF.out] at e; cases e⟩⟩
  | true =>
    rw [if_pos hm] at hac
    have HM : Hid (mayAll os = true) := hm
    clear hm
    cases hh : H.mayH ts with
    | false =>
      have HF : Hid (H.mayH ts = false) := hh
      have HCH : Hid (∀ W, Below w.heap.size w W → Calls Try.prog 15 #[.slice aa l cc] W fun e w' => e = .returned (.int .i64 1) ∧ Below W.heap.size W w') := fun W hW => by
        have := check_any (HA.out.below hW)
        rw [if_neg (by rw [hh]; decide)] at this
        exact this
      clear hh
      go_enter Try.func11, Try.ntmps11
      go_wp2_with fail
      refine hac.mono ?_
      rintro e y ⟨rfl, hy⟩
      have HY : Hid (Below w.heap.size w y) := hy
      have hch := HCH.out y hy
      clear hac hy
      go_wp2_with fail
      refine hch.mono ?_
      rintro e y2 ⟨rfl, hy2⟩
      have HY2 : Hid (Below w.heap.size w y2) := HY.out.trans (hy2.mono HY.out.size)
      clear hch hy2
      go_wp2_with fail
      go_ret2
      exact ⟨false, .slice none 0 0, [], rfl, World.ownsRow_nil _ _ _ _, HY2.out, fun e => (by cases e), fun _ => ⟨rfl, fun _ e => by rw [HF.out] at e; cases e⟩⟩
    | true =>
      have HHH : Hid (H.mayH ts = true) := hh
      have HCH : Hid (∀ W, Below w.heap.size w W → Calls Try.prog 15 #[.slice aa l cc] W fun e w' => e = .returned (.int .i64 0) ∧ Below W.heap.size W w') := fun W hW => by
        have := check_any (HA.out.below hW)
        rw [if_pos hh] at this
        exact this
      clear hh
      obtain ⟨i1, hi1, hz10, hz11, hz12⟩ := hinfo infoSl
      go_enter Try.func11, Try.ntmps11
      go_wp2_with fail
      refine hac.mono ?_
      rintro e y ⟨rfl, hy⟩
      have HY : Hid (Below w.heap.size w y) := hy
      have hch := HCH.out y hy
      clear hac hy
      go_wp2_with fail
      refine hch.mono ?_
      rintro e y2 ⟨rfl, hy2⟩
      have HY2 : Hid (Below w.heap.size w y2) := HY.out.trans (hy2.mono HY.out.size)
      have hpo := partsOf_any (HO.out.below HY2.out) (HA.out.below HY2.out) HM.out (by omega)
      clear hch hy2
      go_wp2_with fail
      refine hpo.mono ?_
      rintro e Wp ⟨pv, rfl, R, al, nl, hPW, hin⟩
      clear hpo
      have HPW : Hid (PW y2 Wp a c ts ((H.parts os ts l).map (·.1)) al nl pv R) := hPW
      have HIN : Hid (∀ i, i < (H.parts os ts l).length → al i = ((H.parts os ts l).getD i (none, [])).2 ∧ nl i = ((H.parts os ts l).getD i (none, [])).2) := hin
      obtain ⟨pa, pc, hpv⟩ := own_form hPW.prow
      have HLP : Hid (Below w.heap.size w Wp) := HY2.out.trans (hPW.fw.low.mono HY2.out.size)
      have hpl := H.parts_len os ts l
      have HKL : Hid (((H.parts os ts l).map (·.1)).length = (H.parts os ts l).length) := List.length_map _
      have hrm := A.own_room (HKL.out ▸ (hpv ▸ hPW.prow) : Wp.ownsRow y2.heap.size 56 3 (.slice pa ((H.parts os ts l).length) pc) ((H.parts os ts l).length) _)
      rw [HKL.out] at hpv
      obtain ⟨gs, hgs⟩ : ∃ q, H.parts os ts l = q := ⟨_, rfl⟩
      have HGS : Hid (H.parts os ts ts.length = gs) := by show _ = _; rw [HTC.out]; exact hgs
      have HNSL : Hid (∀ i, i < gs.length → (gs.getD i (none, [])).2.length ≤ 12) := fun i hi => by
        have := H.parts_all os ts l (gs.getD i (none, [])) (by rw [hgs]; simp [List.getD, hi])
        omega
      have HKV : Hid (∀ i, i < gs.length → ∀ j, (gs.getD i (none, [])).1 = some j → j < os.length) := fun i hi j hj => H.parts_ks (ts := ts) l (gs.getD i (none, [])) (by rw [hgs]; simp [List.getD, hi]) j hj
      rw [hgs] at HPW HIN HKL hpv hrm hpl
      obtain ⟨mm, hmm⟩ : ∃ q, gs.length = q := ⟨_, rfl⟩
      rw [hmm] at HIN HKL hpv hrm hpl HNSL HKV
      have HMM : Hid (gs.length = mm) := hmm
      subst hpv
      clear hPW hin hgs hmm
      go_wp2_with fail
      go_loopg [6, 8, 9, 10, 23] mm (fun r ov z8 z9 z10 iv wq => ∃ (j : Nat) (vs : List Value) (oss : List (List Nat)), r = mm - j ∧ iv = .int .i64 j ∧ j ≤ mm ∧ Hid (OI Wp wq ov vs oss j) ∧ Hid (∀ i, i < j → ∃ o, oss.getD i [] = o.map (fun q => (gs.getD i (none, [])).2.getD q 0) ∧ (H.Pf (H.acts ts (gs.getD i (none, [])).2)).Ok 0 (H.obK os (gs.getD i (none, [])).1) o))
      case atStart => exact ⟨0, [], [], rfl, rfl, Nat.zero_le _, ⟨Below.refl _ _, World.ownsRow_nil _ _ _ _, rfl, fun i hi => by omega, Nat.le_refl _⟩, (fun i hi => by omega : ∀ i, i < 0 → ∃ o, ([] : List (List Nat)).getD i [] = o.map (fun q => (gs.getD i (none, [])).2.getD q 0) ∧ (H.Pf (H.acts ts (gs.getD i (none, [])).2)).Ok 0 (H.obK os (gs.getD i (none, [])).1) o)⟩
      case round =>
        obtain ⟨j, vs, oss, rfl, rfl, hj, HOI, HOK⟩ := hrel
        by_cases hjm : j < mm
        · have hii : (j : Int) < mm := by omega
          have hin : 0 ≤ (j : Int) := by omega
          have hjk : j < (gs.map (·.1)).length := by rw [HKL.out]; exact hjm
          obtain ⟨g, hg⟩ : ∃ g, pa = some ⟨g, 0, none⟩ := by
            rcases HPW.out.prow.2 with ⟨e, -⟩ | ⟨g, cap, cur, e, -⟩
            · simp only [Value.slice.injEq] at e; omega
            · simp only [Value.slice.injEq] at e; exact ⟨g, e.1⟩
          subst hg
          obtain ⟨p0, p1, p2, -⟩ := HPW.out.at' HKL.out hjm
          have har := HPW.out.arow hjk
          have hnr := HPW.out.nrow hjk
          rw [(HIN.out j hjm).1] at har
          rw [(HIN.out j hjm).2] at hnr
          obtain ⟨ya, yc, hya⟩ := own_form har
          obtain ⟨za, zc, hza⟩ := own_form hnr
          rw [hya] at p1 har
          rw [hza] at p2 hnr
          rw [H.keys_map] at p0
          obtain ⟨x1, x2, x3, hob, hov⟩ := ob_view (HO.out.below HLP.out) (gs.getD j (none, [])).1 (HKV.out j hjm)
          rw [hob] at p0
          have hxl : x2 ≤ 1 := by
            rw [← hov.count]
            unfold H.obK
            split <;> simp
          have hAV := acts_of_row har rfl
          have hNV := nv_of_row hnr rfl
          obtain ⟨ns, hns⟩ : ∃ q, (gs.getD j (none, [])).2 = q := ⟨_, rfl⟩
          have HNS : Hid ((gs.getD j (none, [])).2 = ns) := hns
          have hns12 := HNSL.out j hjm
          rw [hns] at hAV hNV hns12 p1 p2
          obtain ⟨nn, hnn⟩ : ∃ q, ns.length = q := ⟨_, rfl⟩
          have HNN : Hid (ns.length = nn) := hnn
          rw [hnn] at hAV hNV hns12 p1 p2
          have hlow := HOI.out.low
          have p0 := hcell_thru hlow p0
          have p1 := hcell_thru hlow p1
          have p2 := hcell_thru hlow p2
          obtain ⟨Y1, hY1⟩ : ∃ Y, wr.alloc (.cells #[.slice x1 x2 x3, .slice ya nn yc, .slice za nn zc] 56) = Y := ⟨_, rfl⟩
          have hb1 : Below wr.heap.size wr Y1 := by rw [← hY1]; exact hbl1 _ _
          have hbp : Below Wp.heap.size Wp Y1 := hlow.trans (hb1.mono hlow.size)
          have HOI1 : Hid (OI Wp Y1 u6 vs oss j) := HOI.out.below hb1
          have d0 : Y1.cell? ⟨wr.heap.size, 0, none⟩ = some (.slice x1 x2 x3) := by rw [← hY1]; simp
          have d1 : Y1.cell? ⟨wr.heap.size, 1, none⟩ = some (.slice ya nn yc) := by rw [← hY1]; simp
          have d2 : Y1.cell? ⟨wr.heap.size, 2, none⟩ = some (.slice za nn zc) := by rw [← hY1]; simp
          have hor := order_any (hAV.below hbp) hns12 (hov.below hbp) hxl (hNV.below hbp) rfl (H.obK_may HM.out (HKV.out j hjm)) (fun x hx => by
            unfold H.acts at hx
            obtain ⟨q, -, rfl⟩ := List.mem_map.1 hx
            by_cases hq : q < ts.length
            · exact HARG.out _ (by simp [List.getD, hq])
            · rw [show ts.getD q H.noAc = H.noAc by simp [List.getD, hq]]; decide)
          clear hAV hNV hov har hnr hya hza hob hns hnn hlow hb1 hbp
          go_wp2_with fail
          refine hor.mono ?_
          rintro e y3 ⟨r, v, o, rfl, hrow, hlow3, hyes, hno⟩
          have HOI3 : Hid (OI Wp y3 u6 vs oss j) := HOI1.out.below hlow3
          clear hor d0 d1 d2 p0 p1 p2
          cases r with
          | false =>
            have HBAD : Hid ((H.Pf ts).Bad 0 os) := by
              refine H.parts_bad (i := j) HM.out (by rw [HGS.out, HMM.out]; exact hjm) ?_
              rw [HGS.out, HNS.out]
              exact (hno rfl).2
            clear hyes hno hrow
            go_wp2_with fail
            go_ret2
            exact ⟨false, .slice none 0 0, [], rfl, World.ownsRow_nil _ _ _ _, HLP.out.trans (HOI3.out.low.mono HLP.out.size), fun e => (by cases e), fun _ => ⟨rfl, fun _ _ => HBAD.out⟩⟩
          | true =>
            have hok := hyes rfl
            obtain ⟨va, vc, hv⟩ := own_form hrow
            subst hv
            have hol : o.length ≤ 12 := by
              have h1 := ok_len _ _ _ hok
              have h2 := H.left_le (H.Pf (H.acts ts ns)) 0
              have h3 : (H.Pf (H.acts ts ns)).n = ns.length := by show (H.acts ts ns).length = _; simp [H.acts]
              have := HNN.out
              omega
            have hNV := nv_of_row hrow (by simp)
            have HNV : Hid (NV y3 va o.length vc (o.map fun q => ns.getD q 0)) := hNV
            have HFAR : Hid (∀ p, va = some p → p.block < y3.heap.size ∧ u6.ownBlock ≠ some p.block) := fun p hp => by
              have hp1 := hrow.lt p.block (by rw [hp]; rfl)
              refine ⟨hp1.2, fun e => ?_⟩
              have := (HOI1.out.out.lt p.block e).2
              omega
            have HOKN : Hid (∀ i, i < j + 1 → ∃ o', (oss ++ [o.map fun q => ns.getD q 0]).getD i [] = o'.map (fun q => (gs.getD i (none, [])).2.getD q 0) ∧ (H.Pf (H.acts ts (gs.getD i (none, [])).2)).Ok 0 (H.obK os (gs.getD i (none, [])).1) o') := fun i hi => by
              have hlen := HOI.out.len
              by_cases e : i = j
              · subst e
                refine ⟨o, ?_, by rw [HNS.out]; exact hok⟩
                rw [HNS.out]
                simp only [List.getD]
                rw [List.getElem?_append_right (by omega), hlen]
                simp
              · obtain ⟨o', h1, h2⟩ := HOK.out i (by omega)
                refine ⟨o', ?_, h2⟩
                rw [← h1]
                simp only [List.getD]
                rw [List.getElem?_append_left (by omega)]
            obtain ⟨Z, hZ⟩ : ∃ Y, y3.alloc (.cells #[.slice va o.length vc] 27) = Y := ⟨_, rfl⟩
            have hbZ : Below y3.heap.size y3 Z := by rw [← hZ]; exact hbl1 _ _
            have HOIZ : Hid (OI Wp Z u6 vs oss j) := HOI3.out.below hbZ
            have HNVZ : Hid (NV Z va o.length vc (o.map fun q => ns.getD q 0)) := HNV.out.below hbZ
            have HFARZ : Hid (∀ p, va = some p → p.block < Z.heap.size ∧ u6.ownBlock ≠ some p.block) := fun p hp => ⟨Nat.lt_of_lt_of_le (HFAR.out p hp).1 hbZ.size, (HFAR.out p hp).2⟩
            have HNC : Hid (∀ q u, ([.slice va o.length vc] : List Value)[q]? = some u → Z.cell? ((⟨y3.heap.size, 0, none⟩ : Addr).add q) = some u) := by
              intro q u hu
              match q, hu with
              | 0, hu => simp at hu; subst hu; rw [← hZ]; exact A.cell_last (by simp) (by simp)
              | q + 1, hu => simp at hu
            have hlz := HOIZ.out.low.size
            have HOL : Hid ((o.map fun q => ns.getD q 0).length ≤ 12) := by show _ ≤ _; simpa using hol
            clear hyes hno hrow hok hNV hbZ hol
            go_wp2_with (first | (at_builtin; go_loud (refine wpList_append_lies _ rfl _ _ 52 rfl Wp.heap.size 27 i1 _ 1 24 Try.underlying52 hi1 hz10 hz11 hz12 rfl (by decide) u6 j vs rfl HOIZ.out.out ⟨y3.heap.size, 0, none⟩ 1 1 [.slice va o.length vc] rfl rfl HNC.out (by intro u hu; simp at hu; subst hu; rfl) (by decide) (by unfold maxLen; omega) (by omega) hlz Z.heap.size rfl ?_; intro ga ca w1 ho1 hg1 hat1 hlt1; have hO1 := HOIZ.out.push HNVZ.out HFARZ.out HOL.out (v1 := .slice (some ⟨ga, 0, none⟩) (j + 1) ca) hg1 ho1 (fun q hq => by (simp [Value.ownBlock] at hq; subst hq; rcases hat1 with e | e; exact .inl e; exact .inr (by omega))); have HO1 : Hid _ := hO1; clear ho1 hg1 hat1 hlt1 hO1)) | fail)
            go_roundg (mm - (j + 1))
            case measure => omega
            case rel => exact ⟨j + 1, _, _, rfl, by go_num, by omega, HO1, HOKN⟩
        · have hjj : j = mm := by omega
          subst hjj
          have hii : ¬ (j : Int) < j := by omega
          obtain ⟨ua, uc, hu⟩ := own_form HOI.out.out
          subst hu
          have HSOUND : Hid ((H.Pf ts).Ok 0 os (H.merge (H.cal ts) (H.bak ts) (H.tot oss) oss)) := by
            refine H.parts_sound HM.out HHH.out (by rw [HGS.out, HMM.out]; exact HOI.out.len) (fun i hi => ?_)
            rw [HGS.out]
            exact HOK.out i (by rw [← HOI.out.len]; exact hi)
          have hmg := merge_any (HA.out.below HLP.out) HOI.out.low (fun i hi q hq => by
            obtain ⟨o, h1, h2⟩ := HOK.out i hi
            rw [h1] at hq
            obtain ⟨s, hs, rfl⟩ := List.mem_map.1 hq
            have hsl := (H.ok_new _ _ _ h2 s hs).2
            have hsl2 : s < (gs.getD i (none, [])).2.length := by
              have : s < (H.acts ts (gs.getD i (none, [])).2).length := hsl
              simpa [H.acts] using this
            have := (H.part_mem (os := os) (ts := ts) (i := i) (by rw [HGS.out, HMM.out]; exact hi) ((gs.getD i (none, [])).2.getD s 0)).1 (by rw [HGS.out]; exact H.getD_mem hsl2)
            rw [HTC.out] at this
            exact this.1) (by have := HOI.out.tot; have : j * 12 ≤ 12 * 12 := Nat.mul_le_mul_right 12 (by omega); omega) HOI.out.out HOI.out.len HOI.out.inn
          generalize H.merge (H.cal ts) (H.bak ts) (H.tot oss) oss = ord at hmg HSOUND
          go_wp2_with fail
          refine hmg.mono ?_
          rintro e y5 ⟨v, rfl, hrow, hlow5⟩
          have HROW : Hid _ := hrow
          have HL5 : Hid _ := hlow5
          clear hmg hrow hlow5
          go_wp2_with fail
          go_ret2
          exact ⟨true, v, ord, rfl, A.own_base HROW.out HLP.out.size, HLP.out.trans (HL5.out.mono HLP.out.size), fun _ => ⟨HM.out, HHH.out, HSOUND.out⟩, fun e => by cases e⟩
end Go.Proofs.Ytafdjmccgijmnaa

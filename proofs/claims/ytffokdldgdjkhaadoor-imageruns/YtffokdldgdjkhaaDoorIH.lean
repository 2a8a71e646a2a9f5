/- ImageRuns, mathematics: a thread that stands on an instruction's beginning goes to one, unless by a RET. No walk. -/
import Derived.Test.YtffokdldgdjkhaaDoorID
import Derived.Test.YtffokdldgdjkhaaDoorIB
import Derived.Test.YtffokdldgdjkhaaDoorIG
import Derived.Test.YtffokdldgdjkhaaDoorIC
import Derived.Test.YtffokdldgdjkhaaDoorIA
import Derived.Test.YtffokdldgdjkhaaDoorIF
import Derived.Deep.CutRange
import Derived.Test.YtffokdldgdjkhaaDoorCards
import Derived.Test.YtffokdldgdjkhaaDoorTie
import Derived.Test.YtffokdldgdjkhaaDoorRows
import Derived.WalkKit
import Derived.OpenShut
import Derived.Deep.DeepHandedRow
import Derived.ProofKit
import Derived.ShutString
import Derived.ChangeOld
import Derived.ChangeMaps5
import Derived.Below
import Derived.Carry
import Derived.Lib.SmallJoins
import Derived.Deep.Slices
import Derived.Deep.Strs
namespace Go.Proofs.YtffokdldgdjkhaaDoor.R
open Go.RowKit
set_option linter.unusedVariables false

/-- Where the instructions begin, by their sizes. -/
def st (l : List I.Q) (k : Nat) : Int := ((l.take k).map fun q => I.size q.op).sum
def goes (op : Int) : Bool := decide (op = 20 ∨ op = 21 ∨ op = 22 ∨ op = 23 ∨ op = 25 ∨ op = 26 ∨ op = 27)
def no : I.Q := ⟨0, 0, 0, 0⟩
/-- Each jump goes to a beginning. -/
def Lands (l : List I.Q) : Prop := ∀ k, k < l.length → goes (l.getD k no).op = true → ∃ j, j < l.length ∧ IntKind.i64.wrap (st l (k + 1) + (l.getD k no).n) = st l j

theorem st_cons (q : I.Q) (l : List I.Q) (k : Nat) : st (q :: l) (k + 1) = I.size q.op + st l k := by simp [st]
theorem st_zero (l : List I.Q) : st l 0 = 0 := rfl
theorem cut_zero (s : ByteArray) : I.cut s 0 = s := by
  unfold I.cut
  apply ByteArray.ext
  simp
theorem cut_rest (s : ByteArray) (p k : Nat) (h : p ≤ s.size) : (s.extract p s.size).extract k (s.extract p s.size).size = s.extract (p + k) s.size := by
  apply ByteArray.ext
  simp only [ByteArray.data_extract, ByteArray.size_extract, Array.extract_extract]
  congr 1
  have : s.data.size = s.size := rfl
  omega
/-- At the k-th beginning stands the k-th instruction. -/
theorem at_start : ∀ (l : List I.Q) (s : ByteArray), I.allI s = some l → (s.size : Int) = st l l.length ∧ ∀ k, k < l.length → 0 ≤ st l k ∧ st l k < (s.size : Int) ∧ I.dOk (I.cut s (st l k)) = true ∧ I.dQ (I.cut s (st l k)) = l.getD k no ∧ st l (k + 1) = st l k + I.psize (l.getD k no).op
  | [], s, h => by
    have hs : s.size = 0 := by
      refine Classical.byContradiction fun e => ?_
      cases hd : I.dOk s with
      | false => rw [I.allI_no (by omega) hd] at h; cases h
      | true =>
        rw [I.allI_yes (by omega) hd] at h
        cases hr : I.allI (I.rest s) with
        | none => rw [hr] at h; cases h
        | some r => rw [hr] at h; cases h
    exact ⟨by rw [hs]; rfl, fun k hk => by simp at hk⟩
  | q :: l, s, h => by
    have hpos : 0 < s.size := by
      refine Classical.byContradiction fun e => ?_
      rw [I.allI_zero (by omega)] at h
      cases h
    cases hd : I.dOk s with
    | false => rw [I.allI_no hpos hd] at h; cases h
    | true =>
      rw [I.allI_yes hpos hd] at h
      cases hr : I.allI (I.rest s) with
      | none => rw [hr] at h; cases h
      | some r =>
        rw [hr] at h
        have h' : I.dQ s :: r = q :: l := by simpa using h
        obtain ⟨rfl, rfl⟩ : I.dQ s = q ∧ r = l := by cases h'; exact ⟨rfl, rfl⟩
        obtain ⟨ih1, ih2⟩ := at_start r (I.rest s) hr
        obtain ⟨r1, r2⟩ := I.rest_size s hd
        have hop : 1 ≤ I.hd s ∧ I.hd s ≤ 33 := by
          have h9 := of_decide_eq_true (Bool.and_eq_true_iff.1 hd).1
          exact ⟨h9.2.1, h9.2.2.1⟩
        have hps : I.psize (I.hd s) = I.size (I.hd s) := I.psize_size _ hop
        have hsz : I.size (I.dQ s).op = I.psize (I.hd s) := hps.symm
        have hp0 : 0 ≤ I.psize (I.hd s) := by omega
        refine ⟨?_, fun k hk => ?_⟩
        · rw [List.length_cons, st_cons, hsz, ← ih1]
          omega
        · cases k with
          | zero =>
            rw [st_zero, cut_zero, st_cons, st_zero, hsz]
            refine ⟨Int.le_refl _, by omega, hd, rfl, ?_⟩
            show _ = 0 + I.psize (I.hd s)
            omega
          | succ k =>
            have hk' : k < r.length := by simpa using hk
            obtain ⟨e1, e2, e3, e4, e5⟩ := ih2 k hk'
            have hcut : I.cut s (st (I.dQ s :: r) (k + 1)) = I.cut (I.rest s) (st r k) := by
              unfold I.cut I.rest
              rw [st_cons, hsz, show (I.psize (I.hd s) + st r k).toNat = (I.psize (I.hd s)).toNat + (st r k).toNat by omega, cut_rest s _ _ (by omega)]
            rw [hcut, st_cons, st_cons, hsz]
            refine ⟨by omega, by omega, e3, ?_, ?_⟩
            · rw [e4]; rfl
            · rw [e5]
              show _ = _ + I.psize (r.getD k no).op
              omega

/-- The place behind an instruction. -/
theorem turned_pc (c : S.C) (op : Int) (a b : Nat) (n next : Int) : (S.turned c op a b n next).pc = c.pc ∨ (S.turned c op a b n next).pc = next ∨ (goes op = true ∧ (S.turned c op a b n next).pc = wrap64 (next + n)) := by
  by_cases e33 : op = 33
  · subst e33
    exact .inl rfl
  by_cases ec : 3 ≤ op ∧ op ≤ 16
  · rw [S.turned_comp ec]
    unfold S.computed
    split
    · exact .inr (.inl rfl)
    · exact .inl rfl
  cases hj : S.jumps c op a with
  | true =>
    rw [S.turned_jump e33 ec hj]
    refine .inr (.inr ⟨?_, rfl⟩)
    unfold goes
    unfold S.jumps at hj
    refine decide_eq_true ?_
    split at hj
    · omega
    · split at hj
      · omega
      · split at hj
        · omega
        · cases hj
  | false =>
    rw [S.turned_stay e33 ec hj]
    exact .inr (.inl rfl)
theorem put_pc (c : S.C) (k : Nat) (v : Int) : (c.put k v).pc = c.pc := by
  unfold S.C.put
  split <;> rfl
theorem fin_pc (c : S.C) {k r n : Int} (h : r ≠ 8) : (S.finish c k r n).pc = c.pc := by
  unfold S.finish S.fin
  split
  · split
    · exact put_pc _ _ _
    · rfl
  · rfl
theorem asked_r (c : S.C) (op : Int) (a b : Nat) (n next : Int) (ha : a < 8) (hb : b < 8) (h : op ≠ 24) : (S.asked c op a b n next).r ≠ 8 := by
  unfold S.asked
  split
  · show (a : Int) ≠ 8; omega
  · split
    · show (0 : Int) ≠ 8; decide
    · split
      · show (b : Int) ≠ 8; omega
      · split
        · show (b : Int) ≠ 8; omega
        · split
          · show (0 : Int) ≠ 8; decide
          · split
            · show (0 : Int) ≠ 8; decide
            · split
              · show (0 : Int) ≠ 8; decide
              · show (0 : Int) ≠ 8; decide

/-- A thread stands on a beginning, or behind all code. -/
def On (l : List I.Q) (c : S.C) : Prop := ∃ k, k ≤ l.length ∧ wrap64 (c.pc - 4096) = st l k
/-- It stands on a RET. -/
def Rets (l : List I.Q) (c : S.C) : Prop := ∃ k, k < l.length ∧ wrap64 (c.pc - 4096) = st l k ∧ (l.getD k no).op = 24

theorem pc_of {c : S.C} (hc : (Lit.int .i64 c.pc).wf = true) {z : Int} (h : wrap64 (c.pc - 4096) = z) (h0 : 0 ≤ z ∧ z ≤ 65536) : c.pc = 4096 + z := by
  rw [wf_iff] at hc
  unfold wrap64 at h
  omega

/-- A step keeps a thread on beginnings, unless it stands on a RET. -/
theorem goOn_on {M : T.Mach} {k : Nat} {l : List I.Q} (hall : I.allI M.code = some l) (hsz : M.code.size ≤ 65536) (hland : Lands l) (hk : k < M.ts.length) (hc : (M.th k).c.ok) (hon : On l (M.th k).c) (hno : ¬ Rets l (M.th k).c) : On l ((T.goOn M k).th k).c := by
  obtain ⟨hst, hat⟩ := at_start l M.code hall
  by_cases hs : (M.th k).c.st = 0
  · rw [T.goOn_eq hk hs]
    have hth : (⟨M.code, T.insMem M k, M.ts.set k ⟨T.insC M k, T.insW M k⟩, T.insEs M k ++ T.endE k (T.insC M k)⟩ : T.Mach).th k = ⟨T.insC M k, T.insW M k⟩ := by
      unfold T.Mach.th
      simp [List.getD, hk]
    rw [hth]
    show On l (T.insC M k)
    obtain ⟨i, hi, hpl⟩ := hon
    have hplc : T.plc M k = st l i := hpl
    have hpcw : (Lit.int .i64 (M.th k).c.pc).wf = true := hc.2.2.1
    have hstb : ∀ j, j ≤ l.length → 0 ≤ st l j ∧ st l j ≤ 65536 := fun j hj => by
      by_cases e : j = l.length
      · rw [e, ← hst]; omega
      · obtain ⟨h1, h2, -⟩ := hat j (by omega)
        omega
    have htrap : ∀ n, On l (T.trapC (M.th k).c n) := fun n => ⟨i, hi, hpl⟩
    unfold T.insC
    by_cases hdec : T.decOk M.code (T.plc M k) = true
    · rw [if_pos hdec]
      split
      · by_cases hil : i < l.length
        · obtain ⟨a1, a2, a3, a4, a5⟩ := hat i hil
          have hpc := pc_of hpcw hpl (hstb i hi)
          obtain ⟨cu, hcu⟩ : ∃ cu, I.cut M.code (T.plc M k) = cu := ⟨_, rfl⟩
          rw [← hplc, hcu] at a4
          rw [← hplc, hcu] at a3
          have hq : T.insQ M k = T.iQ (M.th k).c cu := by unfold T.insQ; rw [hcu]
          rw [hcu, hq]
          obtain ⟨q, hqq⟩ : ∃ q, l.getD i no = q := ⟨_, rfl⟩
          rw [hqq] at a4 a5
          have b1 : I.hd cu = q.op := by rw [← a4]; rfl
          have b2 : I.dA cu = q.a := by rw [← a4]; rfl
          have b3 : I.dB cu = q.b := by rw [← a4]; rfl
          have b4 : I.dN cu = q.n := by rw [← a4]; rfl
          have hret : q.op ≠ 24 := fun e => hno ⟨i, hil, hpl, by rw [hqq]; exact e⟩
          unfold T.iC T.iQ
          rw [b1, b2, b3, b4]
          have hnxt : wrap64 ((M.th k).c.pc + I.psize q.op) = 4096 + st l (i + 1) := by
            have := hstb (i + 1) (by omega)
            rw [hpc, a5]
            unfold wrap64
            omega
          unfold S.startC S.startQ
          by_cases hdo : S.does (M.th k).c q.op q.a q.b = true
          · rw [if_pos hdo, if_pos hdo]
            have hkn := of_decide_eq_true (Bool.and_eq_true_iff.1 hdo).2
            have hr := asked_r (M.th k).c q.op q.a.toNat q.b.toNat q.n (wrap64 ((M.th k).c.pc + I.psize q.op)) (by omega) (by omega) hret
            have hfp := fin_pc (S.turned (M.th k).c q.op q.a.toNat q.b.toNat q.n (wrap64 ((M.th k).c.pc + I.psize q.op))) (k := (S.asked (M.th k).c q.op q.a.toNat q.b.toNat q.n (wrap64 ((M.th k).c.pc + I.psize q.op))).k) (n := T.ansN M k (S.asked (M.th k).c q.op q.a.toNat q.b.toNat q.n (wrap64 ((M.th k).c.pc + I.psize q.op)))) hr
            rcases turned_pc (M.th k).c q.op q.a.toNat q.b.toNat q.n (wrap64 ((M.th k).c.pc + I.psize q.op)) with e | e | ⟨eg, e⟩
            · exact ⟨i, hi, by rw [hfp, e]; exact hpl⟩
            · refine ⟨i + 1, by omega, ?_⟩
              rw [hfp, e, hnxt]
              have := hstb (i + 1) (by omega)
              unfold wrap64
              omega
            · obtain ⟨j, hj, hjw⟩ := hland i hil (by rw [hqq]; exact eg)
              rw [hqq] at hjw
              refine ⟨j, by omega, ?_⟩
              rw [hfp, e, hnxt]
              have h1 := hstb j (by omega)
              rw [IntKind.wrap_i64] at hjw
              unfold wrap64
              omega
          · rw [if_neg hdo, if_neg hdo]
            exact ⟨i, hi, by rw [fin_pc _ (by decide)]; exact hpl⟩
        · obtain rfl : i = l.length := by omega
          exfalso
          unfold T.decOk at hdec
          have h9 := (Bool.and_eq_true_iff.1 hdec).2
          have h10 := I.dOk_pos h9
          rw [hplc, ← hst] at h10
          unfold I.cut at h10
          simp at h10
      · exact htrap 2
    · rw [if_neg hdec]
      exact htrap 3
  · rw [T.goOn_no hs]
    exact hon
end Go.Proofs.YtffokdldgdjkhaaDoor.R

/- ImageRuns: an image as both sides have it; what a pick does to who stands where. No walk. -/
namespace Go.Proofs.YtffokdldgdjkhaaDoor.R
open Go.RowKit
set_option linter.unusedVariables false

def toS (s : X.Sym) : Sym := ⟨s.name, s.kind, s.pos⟩
def toI (m : X.ImgD) : ImgD := ⟨m.code, m.data, m.syms.map toS⟩
theorem getD_toS (l : List X.Sym) (i : Nat) : (l.map toS).getD i noSym = toS (l.getD i X.noSym) := by
  simp only [List.getD, List.getElem?_map]
  cases l[i]? <;> rfl
theorem toV {w : World} {v : Value} {m : X.ImgD} (h : X.ImgV w v m) : ImgV w v (toI m) := by
  obtain ⟨a1, l1, c1, a2, l2, c2, e, hs, h1, h2⟩ := h.form
  refine ⟨⟨a1, l1, c1, a2, l2, c2, e, hs, ⟨h1.count, h1.fits, h1.nilOf, h1.cells⟩, ⟨?_, ?_, h2.nilOf, ?_⟩⟩⟩
  · show (m.syms.map toS).length = l2
    rw [List.length_map]; exact h2.count
  · intro s hs
    obtain ⟨x, hx, rfl⟩ := List.mem_map.1 hs
    exact h2.fits x hx
  · rcases h2.cells with h0 | ⟨b, off, ha, hc⟩
    · exact .inl h0
    · refine .inr ⟨b, off, ha, fun i hi => ?_⟩
      show w.cell? _ = some (.string ((m.syms.map toS).getD i noSym).name) ∧ w.cell? _ = some (.int .i64 ((m.syms.map toS).getD i noSym).kind) ∧ w.cell? _ = some (.int .i64 ((m.syms.map toS).getD i noSym).pos)
      rw [getD_toS]
      exact hc i hi
/-- What Check asks, taken apart. -/
theorem img_parts {m : ImgD} (h : m.may = true) : m.code.size ≤ 65536 ∧ m.data.length ≤ 4096 ∧ 1 ≤ (thrs m.syms).length ∧ (thrs m.syms).length ≤ 4 ∧ ∃ l, I.allI m.code = some l ∧ reachOk l = true ∧ bearOk (startsL l l.length) m.syms = true := by
  unfold ImgD.may at h
  obtain ⟨h1, h2⟩ := Bool.and_eq_true_iff.1 h
  obtain ⟨h3, h4⟩ := Bool.and_eq_true_iff.1 h2
  obtain ⟨h5, h6⟩ := Bool.and_eq_true_iff.1 h3
  obtain ⟨g1, g2, -⟩ := Go.Proofs.YtffokdldgdjkhaaDoor.may_parts h1
  refine ⟨g1, g2, of_decide_eq_true h5, of_decide_eq_true h6, ?_⟩
  cases hl : I.allI m.code with
  | none => rw [hl] at h4; cases h4
  | some l =>
    rw [hl] at h4
    obtain ⟨h7, h8⟩ := Bool.and_eq_true_iff.1 h4
    exact ⟨l, rfl, h7, (Bool.and_eq_true_iff.1 h8).1⟩
theorem in_starts {l : List I.Q} {z : Int} (h : (startsL l l.length).contains z = true) : ∃ j, j < l.length ∧ z = st l j := by
  have h1 : z ∈ startsL l l.length := by simpa using h
  unfold startsL at h1
  obtain ⟨j, hj, e⟩ := List.mem_map.1 h1
  exact ⟨j, by simpa using hj, e.symm⟩
theorem lands_of {l : List I.Q} (h : reachOk l = true) : Lands l := by
  intro k hk hg
  have h1 := List.all_eq_true.1 h k (by simpa using hk)
  unfold reachAt at h1
  have hg' : goesB (l.getD k noQ).op = true := hg
  rw [hg', Bool.not_true, Bool.false_or] at h1
  exact in_starts h1
/-- A thread begins at a beginning. -/
theorem strt_on {m : X.ImgD} {l : List I.Q} (hb : bearOk (startsL l l.length) (m.syms.map toS) = true) : ∀ a ∈ X.strt m.syms, ∃ j, j < l.length ∧ a = st l j := by
  intro a ha
  unfold X.strt at ha
  obtain ⟨s, hs, rfl⟩ := List.mem_map.1 ha
  obtain ⟨hs1, hs2⟩ := List.mem_filter.1 hs
  have hk : s.kind = 3 := of_decide_eq_true hs2
  obtain ⟨i, hi, e⟩ := List.mem_iff_getElem.1 hs1
  have h1 := List.all_eq_true.1 hb i (by simpa using hi)
  have e2 : m.syms.getD i X.noSym = s := by simp [List.getD, hi, e]
  rw [getD_toS, e2] at h1
  unfold bearAt at h1
  have h2 : decide ((toS s).kind = 2) = false := by
    show decide (s.kind = 2) = false
    rw [hk]; rfl
  rw [h2, Bool.false_or] at h1
  exact in_starts h1
theorem thrs_strt (l : List X.Sym) : (thrs (l.map toS)).length = (X.strt l).length := by
  unfold thrs X.strt
  rw [List.length_map, List.length_map, List.filter_map, List.length_map]
  rfl
theorem may_x {m : X.ImgD} (h : (toI m).may = true) : m.may = true := by
  obtain ⟨h1, h2, h3, h4, l, hl, hr, hb⟩ := img_parts h
  have h5 : (thrs (toI m).syms).length = (X.strt m.syms).length := thrs_strt m.syms
  rw [h5] at h3 h4
  refine Bool.and_eq_true_iff.2 ⟨decide_eq_true ⟨h3, h4, h1, h2⟩, List.all_eq_true.2 fun a ha => decide_eq_true ?_⟩
  obtain ⟨j, hj, rfl⟩ := strt_on hb a ha
  obtain ⟨e1, e2, -⟩ := (at_start l _ hl).2 j hj
  exact ⟨e1, e2⟩
theorem ths0_at : ∀ (l : List Int) (i k : Nat) (h : k < l.length), (T.ths0 i l).getD k ⟨T.noC, []⟩ = T.th0 (i + k) (l.getD k 0)
  | [], i, k, h => by simp at h
  | a :: l, i, 0, h => rfl
  | a :: l, i, k + 1, h => by
    show (T.ths0 (i + 1) l).getD k _ = _
    rw [ths0_at l (i + 1) k (by simpa using h), show i + 1 + k = i + (k + 1) by omega]
    rfl
/-- Where each stands at the start. -/
theorem start_on {m : X.ImgD} {l : List I.Q} (hl : I.allI m.code = some l) (h1 : m.code.size ≤ 65536) (hb : bearOk (startsL l l.length) (m.syms.map toS) = true) {k : Nat} (hk : k < m.mach.ts.length) : On l (m.mach.th k).c := by
  have hk' : k < (X.strt m.syms).length := by
    have : m.mach.ts.length = (X.strt m.syms).length := X.ths0_len _ _
    omega
  have hm : (X.strt m.syms).getD k 0 ∈ X.strt m.syms := by simp [List.getD, hk']
  obtain ⟨j, hj, e⟩ := strt_on hb _ hm
  obtain ⟨e1, e2, -⟩ := (at_start l _ hl).2 j hj
  refine ⟨j, Nat.le_of_lt hj, ?_⟩
  have h9 : (m.mach.th k).c.pc = wrap64 (4096 + (X.strt m.syms).getD k 0) := by
    have h8 : m.mach.th k = T.th0 (0 + k) ((X.strt m.syms).getD k 0) := ths0_at _ 0 k hk'
    rw [h8]
    rfl
  rw [h9, e, ← e]
  rw [← e] at e1 e2
  generalize (X.strt m.syms).getD k 0 = z at *
  have h7 : (m.code.size : Int) ≤ 65536 := by omega
  have hw : wrap64 (4096 + z) = 4096 + z := by unfold wrap64; omega
  rw [hw]
  unfold wrap64
  omega
/-- A pick: who stood on a beginning, and not on a RET, stands on one. -/
theorem act_on {M : T.Mach} {l : List I.Q} (hall : I.allI M.code = some l) (hsz : M.code.size ≤ 65536) (hland : Lands l) (hf : T.Fit M) (h0 : 0 < M.ts.length) (p : Int) {t : Nat} (ht : t < M.ts.length) (hon : On l (M.th t).c) (hno : ¬ Rets l (M.th t).c) : On l ((T.act M p).th t).c := by
  have hk := T.who_lt h0 p
  by_cases e : T.who M p = t
  · unfold T.act
    split
    · rw [e]
      exact goOn_on hall hsz hland ht (hf.regs t ht) hon hno
    · rw [e]
      unfold T.leave
      split
      · exact hon
      · rw [T.th_put ht]; exact hon
  · obtain ⟨-, ⟨th, h1⟩, -⟩ := T.act_eq h0 p
    have h2 : (T.act M p).th t = M.th t := by
      unfold T.Mach.th
      rw [h1]
      simp [List.getD, List.getElem?_set_ne e]
    rw [h2]; exact hon
/-- Whether a thread stands on a RET's byte. -/
def onRet (s : ByteArray) (pc : Int) : Bool := decide (0 ≤ wrap64 (pc - 4096) ∧ wrap64 (pc - 4096) < (s.size : Int)) && decide ((s.get! (wrap64 (pc - 4096)).toNat).toNat = 24)
def isAt (s : ByteArray) (l : List I.Q) (pc : Int) : Bool := decide (wrap64 (pc - 4096) = (s.size : Int)) || (startsL l l.length).contains (wrap64 (pc - 4096))
theorem isAt_of {s : ByteArray} {l : List I.Q} (hl : I.allI s = some l) {c : S.C} (h : On l c) : isAt s l c.pc = true := by
  obtain ⟨k, hk, e⟩ := h
  unfold isAt
  rw [e]
  by_cases e1 : k = l.length
  · rw [e1, ← (at_start l s hl).1]
    simp
  · rw [Bool.or_eq_true_iff]
    refine .inr ?_
    have : st l k ∈ startsL l l.length := List.mem_map.2 ⟨k, by simp; omega, rfl⟩
    simpa using this
theorem onRet_of {s : ByteArray} {l : List I.Q} (hl : I.allI s = some l) {c : S.C} (h : Rets l c) : onRet s c.pc = true := by
  obtain ⟨k, hk, e, e1⟩ := h
  obtain ⟨h1, h2, h3, h4, -⟩ := (at_start l s hl).2 k hk
  unfold onRet
  rw [e]
  refine Bool.and_eq_true_iff.2 ⟨decide_eq_true ⟨h1, h2⟩, decide_eq_true ?_⟩
  have h5 : (I.dQ (I.cut s (st l k))).op = 24 := by rw [h4]; exact e1
  have h6 : I.hd (I.cut s (st l k)) = 24 := h5
  generalize st l k = z at *
  have h7 : 0 < s.size - z.toNat := by omega
  have h8 : z.toNat < s.size := by omega
  unfold I.hd at h6
  have h9 : W.tail (I.cut s z) 0 = W.tail s z.toNat := by
    show byts (s.extract z.toNat s.size) = _
    rw [byts_extract, List.take_of_length_le (by rw [List.length_drop, byts_len]; exact Nat.le_refl _)]
    have h11 := tail_drop s 0 z.toNat
    rw [Nat.zero_add] at h11
    exact h11.symm
  rw [h9, W.tail_cons s _ h8] at h6
  simp only [List.headD_cons] at h6
  have h10 : s.get! z.toNat = s[z.toNat] := by
    simp [ByteArray.get!, ByteArray.getElem_eq_getElem_data, getElem!_pos, h8]
  rw [h10]
  omega
end Go.Proofs.YtffokdldgdjkhaaDoor.R

/- ImageRuns: the machine and the row of who has gone. -/
namespace Go.Proofs.YtffokdldgdjkhaaDoor.R
open Go.RowKit Go.Maps
set_option linter.unusedVariables false

/-- The machine as it lies, and a row of bools apart from it. -/
structure RS (Y wq : World) (b : Nat) (M : T.Mach) (vd vs : Value) (g cap gg n : Nat) (f : Nat → Bool) (t : Nat → Nat) (D S : List Int) (ev : Value) (us : List Value) : Prop where
  x : X.XV Y.heap.size wq b M t D S vd vs g cap ev us
  tg : t gg = 0
  low : Below Y.heap.size Y wq
  cells : ∀ j, j < n → wq.cell? ⟨gg, j, none⟩ = some (.bool (f j))
  fz : ∀ o, wq.frozen? ⟨gg, o, none⟩ = false
  up : Y.heap.size ≤ gg
  lt : gg < wq.heap.size
def RSE (Y wq : World) (b : Nat) (M : T.Mach) (vd vs : Value) (g cap gg n : Nat) (f : Nat → Bool) : Prop := ∃ t D S ev us, RS Y wq b M vd vs g cap gg n f t D S ev us

theorem RS.store {Y wq : World} {b : Nat} {M : T.Mach} {vd vs : Value} {g cap gg n : Nat} {f : Nat → Bool} {t : Nat → Nat} {D S : List Int} {ev : Value} {us : List Value} (h : RS Y wq b M vd vs g cap gg n f t D S ev us) {j : Nat} (hj : j < n) (f' : Nat → Bool) (h1 : f' j = true) (h2 : ∀ i, i ≠ j → f' i = f i) :
    RS Y (wq.setCell ⟨gg, j, none⟩ (.bool true)) b M vd vs g cap gg n f' t D S ev us := by
  refine ⟨h.x.frame (X.St.ofGrown (t := fun k => if k = gg then 1 else 0) (X.gb_set wq ⟨gg, j, none⟩ (.bool true)) (by simp) (fun _ _ => rfl)) (fun k hk => ?_), h.tg, h.low.setCell h.up _, fun i hi => ?_, fun o => by rw [World.frozen?_setCell]; exact h.fz o, h.up, by rw [World.size_setCell]; exact h.lt⟩
  · show (if k = gg then 1 else 0) = 0
    rw [if_neg (fun e => hk (by rw [e]; exact h.tg))]
  · by_cases e : i = j
    · subst e
      rw [h1]
      refine World.cell?_setCell_same' _ _ _ ?_
      rw [h.cells i hi]
      rfl
    · rw [World.cell?_setCell_other _ _ _ _ (fun e' => e (by have := congrArg Addr.off e'; simpa using this.symm)), h2 i e]
      exact h.cells i hi
theorem RS.next {Y wq y : World} {b : Nat} {M M' : T.Mach} {vd vs : Value} {g cap gg n : Nat} {f : Nat → Bool} {t : Nat → Nat} {D S : List Int} {ev : Value} {us : List Value} (h : RS Y wq b M vd vs g cap gg n f t D S ev us) (hg : X.XGone Y.heap.size wq y b M' t vd vs g cap) : RSE Y y b M' vd vs g cap gg n f := by
  obtain ⟨t', D', S', ev', us', h1, hs⟩ := hg
  have hb := hs.block gg h.lt h.tg
  exact ⟨t', D', S', ev', us', ⟨h1, (hs.tag gg h.lt).trans h.tg, h.low.trans (hs.toBelow (fun k hk => (h.x.lt k hk).1) h.x.hB), fun j hj => X.blk_cell hb (h.cells j hj), fun o => X.blk_froz hb (h.fz o), h.up, Nat.lt_of_lt_of_le h.lt hs.size⟩⟩
theorem RS.made {Y y : World} {b : Nat} {M : T.Mach} {vd vs : Value} {g cap : Nat} {t : Nat → Nat} {D S : List Int} {ev : Value} {us : List Value} (h : X.XV Y.heap.size y b M t D S vd vs g cap ev us) (hb : Below Y.heap.size Y y) (A : Array Value) (n : Nat) (hA : A.toList = List.replicate n (.bool false)) (ty : TypeId) :
    RSE Y (y.alloc (.cells A ty)) b M vd vs g cap y.heap.size n (fun _ => false) := by
  have h1 : Below y.heap.size y (y.alloc (.cells A ty)) := X.bl_one _ _
  refine ⟨t, D, S, ev, us, ⟨h.below h1, Classical.byContradiction fun e => ?_, hb.trans (h1.mono hb.size), fun j hj => X.cell_last _ _ _ _ _ rfl ?_, fun o => World.frozen?_alloc_at _ _ _ _ rfl, hb.size, by simp⟩⟩
  · have := (h.lt _ e).2
    omega
  · rw [← Array.getElem?_toList, hA, List.getElem?_replicate, if_pos hj]
theorem RS.below {Y wq y : World} {b : Nat} {M : T.Mach} {vd vs : Value} {g cap gg n : Nat} {f : Nat → Bool} {t : Nat → Nat} {D S : List Int} {ev : Value} {us : List Value} (h : RS Y wq b M vd vs g cap gg n f t D S ev us) (hb : Below wq.heap.size wq y) : RS Y y b M vd vs g cap gg n f t D S ev us :=
  ⟨h.x.below hb, h.tg, h.low.trans (hb.mono h.low.size), fun j hj => X.blk_cell (hb.block gg h.lt) (h.cells j hj), fun o => X.blk_froz (hb.block gg h.lt) (h.fz o), h.up, Nat.lt_of_lt_of_le h.lt hb.size⟩
theorem RSE.below {Y wq y : World} {b : Nat} {M : T.Mach} {vd vs : Value} {g cap gg n : Nat} {f : Nat → Bool} (h : RSE Y wq b M vd vs g cap gg n f) (hb : Below wq.heap.size wq y) : RSE Y y b M vd vs g cap gg n f := by
  obtain ⟨t, D, S, ev, us, h⟩ := h
  exact ⟨t, D, S, ev, us, h.below hb⟩
/-- Who has gone, after the first so many were looked at. -/
def mk (f : Nat → Bool) (s : ByteArray) (M : T.Mach) (q : Nat) (j : Nat) : Bool := f j || (decide (j < q) && onRet s (M.th j).c.pc)
theorem mk_zero (f : Nat → Bool) (s : ByteArray) (M : T.Mach) : mk f s M 0 = f := by funext j; simp [mk]
theorem mk_same {f : Nat → Bool} {s : ByteArray} {M : T.Mach} {q : Nat} (h : onRet s (M.th q).c.pc = false) : mk f s M (q + 1) = mk f s M q := by
  funext j
  unfold mk
  by_cases e : j = q
  · rw [e, h, Bool.and_false, Bool.and_false]
  · rw [show decide (j < q + 1) = decide (j < q) from decide_eq_decide.2 (by omega)]
theorem mk_at {f : Nat → Bool} {s : ByteArray} {M : T.Mach} {q : Nat} (h : onRet s (M.th q).c.pc = true) : mk f s M (q + 1) q = true := by
  unfold mk
  rw [h, decide_eq_true (by omega)]
  simp
theorem mk_ne {f : Nat → Bool} {s : ByteArray} {M : T.Mach} {q i : Nat} (e : i ≠ q) : mk f s M (q + 1) i = mk f s M q i := by
  unfold mk
  rw [show decide (i < q + 1) = decide (i < q) from decide_eq_decide.2 (by omega)]
/-- A pick, with who has gone. -/
theorem mk_act {M : T.Mach} {l : List I.Q} {f : Nat → Bool} {n : Nat} (hall : I.allI M.code = some l) (hsz : M.code.size ≤ 65536) (hland : Lands l) (hf : T.Fit M) (hn : M.ts.length = n) (h0 : 0 < n) (p : Int) (hF : ∀ j, j < n → f j = true ∨ On l (M.th j).c) : ∀ j, j < n → mk f M.code M n j = true ∨ On l ((T.act M p).th j).c := by
  intro j hj
  by_cases e : mk f M.code M n j = true
  · exact .inl e
  · refine .inr ?_
    unfold mk at e
    rw [decide_eq_true hj, Bool.true_and] at e
    rcases hF j hj with h1 | h1
    · rw [h1] at e; exact absurd rfl e
    · refine act_on hall hsz hland hf (by omega) p (by omega) h1 (fun h2 => e ?_)
      rw [onRet_of hall h2, Bool.or_true]
theorem take_more {zs : List Int} {k : Nat} (h : k < zs.length) (z : Int) : (zs.take (k + 1)).contains z = ((zs.take k).contains z || (zs.getD k 0 == z)) := by
  rw [List.take_succ_eq_append_getElem h]
  have e : zs.getD k 0 = zs[k] := by simp [List.getD, h]
  rw [e, Bool.eq_iff_iff, Bool.or_eq_true, List.contains_iff_mem, List.contains_iff_mem, List.mem_append, List.mem_singleton, beq_iff_eq]
  exact ⟨fun h => h.imp id Eq.symm, fun h => h.imp id Eq.symm⟩
theorem starts_at {l : List I.Q} {k : Nat} (h : k < l.length) : 0 ≤ (startsL l l.length).getD k 0 ∧ (startsL l l.length).getD k 0 ≤ 10 * (k : Int) := by
  have e : (startsL l l.length).getD k 0 = stL l k := by simp [startsL, List.getD, h]
  rw [e]
  have := stL_bd l k (Nat.le_of_lt h)
  exact this
theorem starts_len (l : List I.Q) : (startsL l l.length).length = l.length := by simp [startsL]
theorem onRet_no {s : ByteArray} {pc z : Int} (hz : wrap64 (pc - 4096) = z) (h : ¬ (0 ≤ z ∧ z < (s.size : Int))) : onRet s pc = false := by
  unfold onRet
  rw [hz, decide_eq_false h, Bool.false_and]
theorem onRet_at {s : ByteArray} {pc : Int} {zn : Nat} (hz : wrap64 (pc - 4096) = (zn : Int)) (h : zn < s.size) : onRet s pc = decide (s[zn].toNat = 24) := by
  unfold onRet
  rw [hz, decide_eq_true (by omega), Bool.true_and, Int.toNat_natCast]
  have h10 : s.get! zn = s[zn] := by
    simp [ByteArray.get!, ByteArray.getElem_eq_getElem_data, getElem!_pos, h]
  rw [h10]
theorem wrapI (x : Int) : IntKind.i64.wrap x = wrap64 x := by rw [IntKind.wrap_i64]; unfold wrap64; rfl
end Go.Proofs.YtffokdldgdjkhaaDoor.R

/- ImageRuns, walked. -/
namespace Go.Proofs.YtffokdldgdjkhaaDoor.R
open Go.RowKit Go.Maps
set_option linter.unusedVariables false
set_option linter.unusedSimpArgs false

theorem infoBl : (Tryd.prog.info? 4).map (fun i => (i.zero, i.size, i.bytes)) = some (some (.bool false), 1, 1) := by kernel_rfl

set_option maxRecDepth 100000 in
set_option maxHeartbeats 16000000 in
theorem iruns_any {w : World} {v : Value} {m : X.ImgD} (h : X.ImgV w v m) {a : Option Addr} {l c : Nat} {ps : List Int} (hp : X.IntsV w a l c ps) (ht : Tab w) :
    Calls Tryd.prog 3 #[v, .slice a l c] w fun e w' => e = .returned (.bool true) ∧ Below w.heap.size w w' := by
  obtain ⟨a1, l1, c1, a2, l2, c2, rfl, hs, h1, h2⟩ := h.form
  obtain ⟨W1, hW1⟩ : ∃ W1, w.alloc (.cells #[.string m.code, .slice a1 l1 c1, .slice a2 l2 c2] 25) = W1 := ⟨_, rfl⟩
  have b1 : Below w.heap.size w W1 := by subst hW1; exact X.bl_one _ _
  have v0 : W1.cell? ⟨w.heap.size, 0, none⟩ = some (.string m.code) := by subst hW1; exact X.cell_last _ _ _ _ _ rfl rfl
  have v1 : W1.cell? ⟨w.heap.size, 1, none⟩ = some (.slice a1 l1 c1) := by subst hW1; exact X.cell_last _ _ _ _ _ rfl rfl
  have v2 : W1.cell? ⟨w.heap.size, 2, none⟩ = some (.slice a2 l2 c2) := by subst hW1; exact X.cell_last _ _ _ _ _ rfl rfl
  have HB1 : Hid (Below w.heap.size w W1) := b1
  have HI : Hid (X.ImgV W1 (.agg #[.string m.code, .slice a1 l1 c1, .slice a2 l2 c2]) m) := h.below b1
  have HT1 : Hid (Tab W1) := ht.below b1
  have HP : Hid (X.IntsV W1 a l c ps) := hp.below b1
  have hro := hp.room
  unfold maxLen at hro
  have HL : Hid (ps.length = l) := hp.count
  obtain ⟨sb, hsb⟩ : ∃ sb, decide ((toI m).syms.length ≤ 200 ∧ (toI m).code.size ≤ 4000) = sb := ⟨_, rfl⟩
  have HSM : Hid (Calls Tryd.prog 4 #[.agg #[.string m.code, .slice a1 l1 c1, .slice a2 l2 c2]] W1 fun e w' => e = .returned (.bool sb) ∧ Below W1.heap.size W1 w') := by
    have h9 := small_any (toV HI.out)
    rw [hsb] at h9
    exact h9
  have HSB : Hid (sb = true → m.syms.length ≤ 200 ∧ m.code.size ≤ 4000) := fun e => by
    rw [e] at hsb
    have := of_decide_eq_true hsb
    rw [show (toI m).syms.length = m.syms.length from List.length_map ..] at this
    exact this
  have HFD : Hid (∀ n ∈ m.data, (Lit.int .i64 n).wf = true) := h1.fits
  clear h h1 h2 b1 hp ht hs hsb
  go_enter Tryd.func3, Tryd.ntmps3
  go_wp2_with fail
  refine HSM.out.mono ?_
  rintro e y1 ⟨rfl, hb1⟩
  have v0 := X.cell_up hb1 v0
  have v1 := X.cell_up hb1 v1
  have v2 := X.cell_up hb1 v2
  have HB2 : Hid (Below W1.heap.size W1 y1) := hb1
  clear hb1 hW1
  cases sb with
  | false =>
    have HLV : Hid (∀ y, Below W1.heap.size W1 y → Calls Tryd.prog 6 #[] y fun e w' => e = .returned (.bool true) ∧ Below y.heap.size y w') := fun y hy => live_any y (HT1.out.below hy)
    go_wp2_with fail
    refine (HLV.out _ HB2.out).mono ?_
    rintro e y4 ⟨rfl, hb4⟩
    have HB4 : Hid (Below w.heap.size w y4) := HB1.out.trans ((HB2.out.trans (hb4.mono HB2.out.size)).mono HB1.out.size)
    clear hb4
    go_wp2
    go_ret
    exact ⟨rfl, HB4.out⟩
  | true =>
    obtain ⟨hsy, hcs⟩ := HSB.out rfl
    have HCK : Hid (Calls Tryd.prog 5 #[.agg #[.string m.code, .slice a1 l1 c1, .slice a2 l2 c2]] y1 fun e w' => e = .returned (.int .i64 (if (toI m).may = true then 0 else 9)) ∧ Below y1.heap.size y1 w') := icheck_any (toV (HI.out.below HB2.out)) (HT1.out.below HB2.out)
    cases hm : (toI m).may with
    | false =>
      rw [hm, if_neg (by decide)] at HCK
      clear hm
      go_wp2_with fail
      refine HCK.out.mono ?_
      rintro e y2 ⟨rfl, hb2⟩
      have HB3 : Hid (Below W1.heap.size W1 y2) := HB2.out.trans (hb2.mono HB2.out.size)
      have HLV : Hid (Calls Tryd.prog 6 #[] y2 fun e w' => e = .returned (.bool true) ∧ Below y2.heap.size y2 w') := live_any y2 (HT1.out.below HB3.out)
      clear hb2
      go_wp2_with fail
      refine HLV.out.mono ?_
      rintro e y4 ⟨rfl, hb4⟩
      have HB4 : Hid (Below w.heap.size w y4) := HB1.out.trans ((HB3.out.trans (hb4.mono HB3.out.size)).mono HB1.out.size)
      clear hb4
      go_wp2
      go_ret
      exact ⟨rfl, HB4.out⟩
    | true =>
      rw [hm, if_pos rfl] at HCK
      obtain ⟨g1, g2, g3, g4, ls, hls, hreach, hbear⟩ := img_parts hm
      have HLS : Hid (I.allI m.code = some ls) := hls
      have HLA : Hid (Lands ls) := lands_of hreach
      have HBE : Hid (bearOk (startsL ls ls.length) (m.syms.map toS) = true) := hbear
      have HMX : Hid (m.may = true) := may_x hm
      have hll : ls.length ≤ 4000 := Nat.le_trans (all_len hls) hcs
      clear hm g1 g2 g3 g4 hls hreach hbear
      go_wp2_with fail
      refine HCK.out.mono ?_
      rintro e y2 ⟨rfl, hb2⟩
      have v0 := X.cell_up hb2 v0
      have v1 := X.cell_up hb2 v1
      have v2 := X.cell_up hb2 v2
      have HB3 : Hid (Below W1.heap.size W1 y2) := HB2.out.trans (hb2.mono HB2.out.size)
      have HST : Hid (Calls Tryd.prog 7 #[.string m.code] y2 fun e w' => StIs m.code e w' ∧ Below y2.heap.size y2 w') := rstarts_any m.code (by omega) y2
      clear hb2
      go_wp2_with fail
      refine HST.out.mono ?_
      rintro e y3 ⟨hst, hb3⟩
      unfold StIs at hst
      rw [HLS.out] at hst
      obtain ⟨sa, sc, rfl, hsv⟩ := hst
      have v0 := X.cell_up hb3 v0
      have v1 := X.cell_up hb3 v1
      have v2 := X.cell_up hb3 v2
      have HB4 : Hid (Below W1.heap.size W1 y3) := HB3.out.trans (hb3.mono HB3.out.size)
      have HSV : Hid (IntsV y3 sa ls.length sc (startsL ls ls.length)) := hsv
      have HV0 : Hid (y3.cell? ⟨w.heap.size, 0, none⟩ = some (.string m.code)) := v0
      have HXN : Hid (Calls Tryd.prog 8 #[.agg #[.string m.code, .slice a1 l1 c1, .slice a2 l2 c2]] y3 fun e w' => X.XNewAns y3.heap.size e w' m ∧ Below y3.heap.size y3 w') := X.xnew_any (HI.out.below HB4.out) (by omega)
      clear hb3 hsv
      go_wp2_with fail
      refine HXN.out.mono ?_
      rintro e y4 ⟨hans, hb4⟩
      rcases hans with ⟨-, hx⟩ | ⟨e1, -⟩
      rotate_left
      · rw [HMX.out] at e1; cases e1
      obtain ⟨b, t, D, S0, vd, vs, g, cap, us, rfl, hxv⟩ := hx
      have HML : Hid (0 < m.mach.ts.length ∧ m.mach.ts.length ≤ 4) := X.mach_len m HMX.out
      have HMC : Hid (m.mach.code.size ≤ 65536) := X.mach_code m HMX.out
      have HMO : Hid (MOk m.mach) := X.mach_ok m
      have HMF : Hid (T.Fit m.mach) := X.mach_fit m HMX.out HFD.out
      have HE0 : Hid (m.mach.es = []) := rfl
      have HC0 : Hid (m.mach.code = m.code) := rfl
      have HON : Hid (∀ k, k < m.mach.ts.length → On ls (m.mach.th k).c) := fun k hk => start_on HLS.out (by omega) HBE.out hk
      obtain ⟨M0, hM0⟩ : ∃ M0, m.mach = M0 := ⟨_, rfl⟩
      rw [hM0] at HML HMC HMO HMF HE0 HC0 HON hxv
      obtain ⟨n, hn⟩ : ∃ n, M0.ts.length = n := ⟨_, rfl⟩
      have c3 := hxv.c3
      have hcap := hxv.room
      rw [hn] at c3 hcap HML HON
      unfold maxLen at hcap
      obtain ⟨hc1, hc2, hn0, hn4⟩ := hcap
      have HN : Hid (M0.ts.length = n) := hn
      obtain ⟨A, hA⟩ : ∃ A, madeCells #[Value.bool false] n = A := ⟨_, rfl⟩
      have hmk : ∀ W : World, (Instr.makeSlice 36 (.int .i64 (n : Int)) (.int .i64 (n : Int))).run Tryd.prog W = .ok (.slice (some ⟨W.heap.size, 0, none⟩) n n) (W.alloc (.cells A 4)) := fun W => by
        have := run_make_row' (P := Tryd.prog) 36 4 (.bool false) 1 Tryd.underlying36 infoBl rfl .i64 .i64 n (by omega) (by omega) W
        rw [hA] at this
        exact this
      have HAL : Hid (A.toList = List.replicate n (.bool false)) := by show _ = _; rw [← hA, toList_madeCells_one]
      have HR0 : Hid (RSE y3 (y4.alloc (.cells A 4)) b M0 vd vs g cap y4.heap.size n (fun _ => false)) := RS.made hxv hb4 A n HAL.out _
      obtain ⟨W5, hW5⟩ : ∃ W5, y4.alloc (.cells A 4) = W5 := ⟨_, rfl⟩
      rw [hW5] at HR0
      have v0 := X.cell_up hb4 v0
      clear hb4 hxv hn hM0 hA v1 v2
      go_wp2_with fail
      obtain ⟨N, hN1, hN2, hN3⟩ : ∃ N, N ≤ l ∧ N ≤ 300 ∧ (N = l ∨ N = 300) := ⟨min l 300, by omega, by omega, by omega⟩
      obtain ⟨gg, hgg⟩ : ∃ gg, y4.heap.size = gg := ⟨_, rfl⟩
      rw [hgg] at HR0 ⊢
      clear hgg hW5
      have HP3 : Hid (X.IntsV y3 a l c ps) := HP.out.below HB4.out
      have HV3 : Hid (∀ z : World, Below y3.heap.size y3 z → z.cell? ⟨w.heap.size, 0, none⟩ = some (.string m.code)) := fun z hz => X.cell_up hz HV0.out
      have HI0 : Hid (∀ j, j < n → (fun _ : Nat => false) j = true ∨ On ls ((T.runs M0 (ps.take 0)).th j).c) := fun j hj => .inr (HON.out j hj)
      clear v0
      go_loopg [10] N (fun r iv wq => ∃ (k : Nat) (f : Nat → Bool), iv = .int .i64 k ∧ k ≤ N ∧ N - k ≤ r ∧ Hid (RSE y3 wq b (T.runs M0 (ps.take k)) vd vs g cap gg n f) ∧ Hid (∀ j, j < n → f j = true ∨ On ls ((T.runs M0 (ps.take k)).th j).c))
      case atStart => exact ⟨0, _, rfl, Nat.zero_le _, by omega, HR0, HI0⟩
      case round =>
        obtain ⟨k, f, rfl, hk, hr, HR, HF⟩ := hrel
        by_cases hlt : k < N
        · obtain ⟨M, hM⟩ : ∃ M, T.runs M0 (ps.take k) = M := ⟨_, rfl⟩
          have HLN : Hid (M.ts.length = n) := by show _ = _; rw [← hM, ← HN.out]; exact T.runs_len (ps.take k) M0 (by rw [HN.out]; exact hn0)
          have HCD : Hid (M.code = m.code) := by show _ = _; rw [← hM, ← HC0.out]; exact T.runs_code (ps.take k) M0 (by rw [HN.out]; exact hn0)
          have HES : Hid (M.es.length ≤ 1000000) := by
            obtain ⟨xs, hxs, hxl⟩ := T.runs_es (ps.take k) M0 (by rw [HN.out]; exact hn0)
            show _ ≤ _
            rw [← hM, hxs, HE0.out, List.nil_append]
            rw [List.length_take] at hxl
            omega
          have HFT : Hid (T.Fit M) := by rw [← hM]; exact T.Fit.runs _ HMF.out HMO.out (by rw [HN.out]; exact hn0)
          have HOK : Hid (MOk M) := by rw [← hM]; exact MOk.runs _ HMO.out (by rw [HN.out]; exact hn0)
          rw [hM] at HR HF
          have HMK : Hid (T.runs M0 (ps.take k) = M) := hM
          have HR1 : Hid (RSE y3 wr b M vd vs g cap gg n (mk f m.code M 0)) := by rw [mk_zero]; exact HR.out
          have hkl : k < l := by omega
          have hk3 : (k : Int) < 300 := by omega
          have hkI : (k : Int) < l := by omega
          clear hM
          go_wp2_with fail
          go_loopg [11] n (fun r iv wq => ∃ (q : Nat), iv = .int .i64 q ∧ q ≤ n ∧ n - q ≤ r ∧ Hid (RSE y3 wq b M vd vs g cap gg n (mk f m.code M q)))
          case atStart => exact ⟨0, rfl, Nat.zero_le _, by omega, HR1⟩
          case round =>
            obtain ⟨q, rfl, hq, hrq, HRQ⟩ := hrel
            obtain ⟨t1, D1, S1, ev1, us1, hrs⟩ := HRQ.out
            have d3 := hrs.x.c3
            rw [HLN.out] at d3
            by_cases hqn : q < n
            · obtain ⟨u, hu⟩ := hrs.x.u (k := q) (by rw [HLN.out]; exact hqn)
              have d8 := hrs.x.cell (by rw [HLN.out]; exact hqn) hu 8 _ rfl
              obtain ⟨pc, hpc⟩ : ∃ pc, (M.th q).c.pc = pc := ⟨_, rfl⟩
              rw [hpc] at d8
              obtain ⟨z, hz⟩ : ∃ z, wrap64 (pc - 4096) = z := ⟨_, rfl⟩
              have hzi : IntKind.i64.wrap (pc - 4096) = z := (wrapI _).trans hz
              have s0 := HV3.out wr hrs.low
              have gc := hrs.cells q hqn
              have gf := hrs.fz q
              have hqI : (q : Int) < n := by omega
              have hqJ : (0 : Int) ≤ q := by omega
              by_cases hz0 : 0 ≤ z ∧ z < (m.code.size : Int)
              · obtain ⟨zn, rfl⟩ : ∃ zn : Nat, z = zn := ⟨z.toNat, by omega⟩
                have hzn : zn < m.code.size := by omega
                have hor := onRet_at (s := m.code) hz hzn
                rw [← hpc] at hor
                obtain ⟨cn, hcn⟩ : ∃ cn : Nat, m.code[zn].toNat = cn := ⟨_, rfl⟩
                rw [hcn] at hor
                obtain ⟨hz1, hz2⟩ := hz0
                by_cases h24 : cn = 24
                · have HR2 : Hid (RSE y3 (wr.setCell ⟨gg, q, none⟩ (.bool true)) b M vd vs g cap gg n (mk f m.code M (q + 1))) := ⟨t1, D1, S1, ev1, us1, hrs.store hqn _ (mk_at (by rw [hor, h24]; rfl)) (fun i hi => mk_ne hi)⟩
                  subst h24
                  clear hrs hor hz hpc hu
                  go_wp2
                  go_roundg (n - (q + 1))
                  · exact ⟨q + 1, rfl, by omega, Nat.le_refl _, HR2⟩
                  · omega
                · have HR2 : Hid (RSE y3 wr b M vd vs g cap gg n (mk f m.code M (q + 1))) := by
                    rw [mk_same (by rw [hor]; exact decide_eq_false h24)]
                    exact HRQ.out
                  have hc24 : ((cn : Int) == 24) = false := by simp; omega
                  clear hrs hor hz hpc hu
                  go_wp2
                  go_roundg (n - (q + 1))
                  · exact ⟨q + 1, rfl, by omega, Nat.le_refl _, HR2⟩
                  · omega
              · have HR2 : Hid (RSE y3 wr b M vd vs g cap gg n (mk f m.code M (q + 1))) := by
                  rw [mk_same (by rw [hpc]; exact onRet_no hz hz0)]
                  exact HRQ.out
                by_cases hz1 : 0 ≤ z
                · have hz2 : ¬ z < (m.code.size : Int) := fun e => hz0 ⟨hz1, e⟩
                  clear hrs hz hpc hu hz0
                  go_wp2
                  go_roundg (n - (q + 1))
                  · exact ⟨q + 1, rfl, by omega, Nat.le_refl _, HR2⟩
                  · omega
                · clear hrs hz hpc hu hz0
                  go_wp2
                  go_roundg (n - (q + 1))
                  · exact ⟨q + 1, rfl, by omega, Nat.le_refl _, HR2⟩
                  · omega
            · obtain rfl : n = q := by omega
              rcases (HP3.out.below hrs.low).cells with h0 | ⟨zb, zo, hA, hcl⟩
              · omega
              have q0 := hcl k hkl
              obtain ⟨z, hz⟩ : ∃ z, ps.getD k 0 = z := ⟨_, rfl⟩
              rw [hz] at q0
              have hkp : k < ps.length := by rw [HL.out]; exact hkl
              have hzf := HP3.out.fits z (by rw [← hz]; simp [List.getD, hkp])
              have HTK : Hid (T.runs M0 (ps.take (k + 1)) = T.act M z) := by
                show _ = _
                rw [List.take_succ_eq_append_getElem hkp, T.runs_snoc, HMK.out, ← hz]
                simp [List.getD, hkp]
              have HDO : Hid (Calls Tryd.prog 9 #[.pointer (some ⟨b, 0, none⟩), .int .i64 z] wr fun e w' => e = .returned (.bool (T.did M z)) ∧ X.XGone y3.heap.size wr w' b (T.act M z) t1 vd vs g cap) := X.xdo_any hrs.x HOK.out HFT.out HES.out (by rw [HCD.out]; omega) z hzf
              have HRS : Hid (RS y3 wr b M vd vs g cap gg n (mk f m.code M n) t1 D1 S1 ev1 us1) := hrs
              have HF2 : Hid (∀ j, j < n → mk f m.code M n j = true ∨ On ls ((T.act M z).th j).c) := by
                have h9 := mk_act (f := f) (by rw [HCD.out]; exact HLS.out) (by rw [HCD.out]; omega) HLA.out HFT.out HLN.out hn0 z HF.out
                rw [HCD.out] at h9
                exact h9
              have HL2 : Hid ((T.act M z).ts.length = n) := (T.act_len (by rw [HLN.out]; exact hn0) z).trans HLN.out
              have hpc0 : (0 : Int) ≤ k := by omega
              subst hA
              clear hrs hcl hz hzf hkp
              go_wp2_with fail
              refine HDO.out.mono ?_
              rintro e y6 ⟨rfl, hg⟩
              have HR2 : Hid (RSE y3 y6 b (T.act M z) vd vs g cap gg n (mk f m.code M n)) := HRS.out.next hg
              obtain ⟨M2, hM2⟩ : ∃ M2, T.act M z = M2 := ⟨_, rfl⟩
              obtain ⟨f2, hf2⟩ : ∃ f2, mk f m.code M n = f2 := ⟨_, rfl⟩
              rw [hM2, hf2] at HR2 HF2
              rw [hM2] at HTK HL2
              clear hg d3 HRS HDO hM2 hf2 q0
              go_wp2_with fail
              go_loopg [13] n (fun r iv wq => ∃ (q : Nat), iv = .int .i64 q ∧ q ≤ n ∧ n - q ≤ r ∧ Hid (RSE y3 wq b M2 vd vs g cap gg n f2))
              case atStart => exact ⟨0, rfl, Nat.zero_le _, by omega, HR2⟩
              case round =>
                obtain ⟨q, rfl, hq, hrq, HRQ⟩ := hrel
                obtain ⟨t1, D1, S1, ev1, us1, hrs⟩ := HRQ.out
                have d3 := hrs.x.c3
                rw [HL2.out] at d3
                by_cases hqn : q < n
                · obtain ⟨u, hu⟩ := hrs.x.u (k := q) (by rw [HL2.out]; exact hqn)
                  have d8 := hrs.x.cell (by rw [HL2.out]; exact hqn) hu 8 _ rfl
                  obtain ⟨pc, hpc⟩ : ∃ pc, (M2.th q).c.pc = pc := ⟨_, rfl⟩
                  rw [hpc] at d8
                  obtain ⟨z2, hz⟩ : ∃ z2, wrap64 (pc - 4096) = z2 := ⟨_, rfl⟩
                  have hzi : IntKind.i64.wrap (pc - 4096) = z2 := (wrapI _).trans hz
                  have s0 := HV3.out wr hrs.low
                  have hqI : (q : Int) < n := by omega
                  have hqJ : (0 : Int) ≤ q := by omega
                  have HIS : Hid (f2 q = true ∨ (decide (z2 = (m.code.size : Int)) || (startsL ls ls.length).contains z2) = true) := by
                    rcases HF2.out q hqn with h9 | h9
                    · exact .inl h9
                    · have h8 := isAt_of HLS.out h9
                      unfold isAt at h8
                      rw [hpc, hz] at h8
                      exact .inr h8
                  obtain ⟨b0, hb0⟩ : ∃ b0, decide (z2 = (m.code.size : Int)) = b0 := ⟨_, rfl⟩
                  have hb0' : (z2 == (m.code.size : Int)) = b0 := by rw [← hb0]; rfl
                  rw [hb0] at HIS
                  clear hrs hz hpc hu hb0
                  go_wp2_with fail
                  go_loopg [15, 16] ls.length (fun r fv iv wq => ∃ (kk : Nat) (fb : Bool), fv = .bool fb ∧ iv = .int .i64 kk ∧ kk ≤ ls.length ∧ ls.length - kk ≤ r ∧ Hid (fb = (b0 || ((startsL ls ls.length).take kk).contains z2)) ∧ Hid (RSE y3 wq b M2 vd vs g cap gg n f2))
                  case atStart => exact ⟨0, b0, rfl, rfl, Nat.zero_le _, by omega, by show _ = _; simp, HRQ⟩
                  case round =>
                    obtain ⟨kk, fb, rfl, rfl, hkk, hrk, HFB, HRK⟩ := hrel
                    by_cases hkn : kk < ls.length
                    · have HTM : Hid (((startsL ls ls.length).take (kk + 1)).contains z2 = (((startsL ls ls.length).take kk).contains z2 || ((startsL ls ls.length).getD kk 0 == z2))) := take_more (by rw [starts_len]; exact hkn) z2
                      have hkkI : (kk : Int) < ls.length := by omega
                      have hkkJ : (0 : Int) ≤ kk := by omega
                      cases fb with
                      | true =>
                        have HFB2 : Hid (true = (b0 || ((startsL ls ls.length).take (kk + 1)).contains z2)) := by
                          show _ = _
                          rw [HTM.out, ← Bool.or_assoc, ← HFB.out, Bool.true_or]
                        go_wp2
                        go_roundg (ls.length - (kk + 1))
                        · exact ⟨kk + 1, true, rfl, rfl, by omega, Nat.le_refl _, HFB2, HRK⟩
                        · omega
                      | false =>
                        obtain ⟨t2, D2, S2, ev2, us2, hrs⟩ := HRK.out
                        have hsv := HSV.out.below hrs.low
                        rcases hsv.cells with h0 | ⟨sb, so, hA, hcl⟩
                        · omega
                        have p0 := hcl kk hkn
                        have hsz := starts_at hkn
                        obtain ⟨sz, hsze⟩ : ∃ sz, (startsL ls ls.length).getD kk 0 = sz := ⟨_, rfl⟩
                        rw [hsze] at p0 hsz HTM
                        obtain ⟨hsz1, hsz2⟩ := hsz
                        have hsw : IntKind.i64.wrap sz = sz := by rw [IntKind.wrap_i64]; omega
                        obtain ⟨bb, hbb⟩ : ∃ bb, (sz == z2) = bb := ⟨_, rfl⟩
                        have HFB2 : Hid (bb = (b0 || ((startsL ls ls.length).take (kk + 1)).contains z2)) := by
                          show _ = _
                          rw [HTM.out, ← Bool.or_assoc, ← HFB.out, Bool.false_or, hbb]
                        subst hA
                        clear hrs hsv hcl hsze HTM
                        go_wp2
                        go_roundg (ls.length - (kk + 1))
                        · exact ⟨kk + 1, bb, rfl, rfl, by omega, Nat.le_refl _, HFB2, HRK⟩
                        · omega
                    · have HKE : Hid ((startsL ls ls.length).take kk = startsL ls ls.length) := List.take_of_length_le (by rw [starts_len]; omega)
                      have hkkI : ¬ (kk : Int) < ls.length := by omega
                      cases fb with
                      | true =>
                        go_wp2
                        go_roundg (n - (q + 1))
                        · exact ⟨q + 1, rfl, by omega, Nat.le_refl _, HRK⟩
                        · omega
                      | false =>
                        obtain ⟨t2, D2, S2, ev2, us2, hrs⟩ := HRK.out
                        have gc := hrs.cells q hqn
                        have hgt : f2 q = true := by
                          rcases HIS.out with h9 | h9
                          · exact h9
                          · have h8 := HFB.out
                            rw [HKE.out, h9] at h8
                            cases h8
                        rw [hgt] at gc
                        clear hrs hgt
                        go_wp2
                        go_roundg (n - (q + 1))
                        · exact ⟨q + 1, rfl, by omega, Nat.le_refl _, HRK⟩
                        · omega
                · obtain rfl : n = q := by omega
                  have HR3 : Hid (RSE y3 wr b (T.runs M0 (ps.take (k + 1))) vd vs g cap gg n f2) := by rw [HTK.out]; exact HRQ.out
                  have HF3 : Hid (∀ j, j < n → f2 j = true ∨ On ls ((T.runs M0 (ps.take (k + 1))).th j).c) := by rw [HTK.out]; exact HF2.out
                  clear hrs
                  go_wp2
                  go_roundg (N - (k + 1))
                  · exact ⟨k + 1, f2, rfl, by omega, Nat.le_refl _, HR3, HF3⟩
                  · omega
        · obtain rfl : k = N := by omega
          obtain ⟨t1, D1, S1, ev1, us1, hrs⟩ := HR.out
          have HBW : Hid (Below y3.heap.size y3 wr) := hrs.low
          have HBA : Hid (Below W1.heap.size W1 wr) := HB4.out.trans (HBW.out.mono HB4.out.size)
          have HLV : Hid (Calls Tryd.prog 6 #[] wr fun e w' => e = .returned (.bool true) ∧ Below wr.heap.size wr w') := live_any wr (HT1.out.below HBA.out)
          have hcc : k < l → ¬ (k : Int) < 300 := fun _ => by omega
          clear hrs
          by_cases hkl : k < l
          · have hk3 : ¬ (k : Int) < 300 := by omega
            go_wp2_with fail
            refine HLV.out.mono ?_
            rintro e y8 ⟨rfl, hb8⟩
            have HB8 : Hid (Below w.heap.size w y8) := HB1.out.trans ((HBA.out.trans (hb8.mono HBA.out.size)).mono HB1.out.size)
            clear hb8
            go_wp2
            go_ret
            exact ⟨rfl, HB8.out⟩
          · go_wp2_with fail
            refine HLV.out.mono ?_
            rintro e y8 ⟨rfl, hb8⟩
            have HB8 : Hid (Below w.heap.size w y8) := HB1.out.trans ((HBA.out.trans (hb8.mono HBA.out.size)).mono HB1.out.size)
            clear hb8
            go_wp2
            go_ret
            exact ⟨rfl, HB8.out⟩
end Go.Proofs.YtffokdldgdjkhaaDoor.R

/- The arguments of layer 6's statements, opened: an object. (Written by gen_open.py.) -/
namespace Go.Proofs.YtffokdldgdjkhaaDoor.X
set_option maxRecDepth 100000
open Go.ChangeShapes Go.WideShapes Go.ChangeAt Go.RowKit Go.Joins

section
variable {H : Type} {enc : TypeId × Value → H} {w : World} {base : Nat} {spare : Nat → Bool} {held : Bool}

theorem cell_i64 : Tryd.prog.cellsOf 2 = 1 := by kernel_rfl
theorem cell_int : Tryd.prog.cellsOf 3 = 1 := by kernel_rfl
theorem cell_str : Tryd.prog.cellsOf 9 = 1 := by kernel_rfl
theorem open_I {fuel : Nat} {v : Value} {x : DataW H × List MemPlace} (hsp : ∀ b, spare b = true) (h : DataW.trod enc Tryd.prog w base spare held fuel 22 [v] = some x) : ∃ a l c zs, v = .slice a l c ∧ IntsV w a l c zs ∧ zs.length ≤ maxLen := by
  rcases open_ints Tryd.underlying22 Tryd.underlying2 cell_i64 h with ⟨hcs, -⟩ | ⟨a, l, c, zs, hcs, -, hl, hm, hz, -, hcell, hwz⟩
  · simp at hcs
    subst hcs
    exact ⟨none, 0, 0, [], rfl, ⟨rfl, by simp, fun _ => ⟨rfl, rfl⟩, ⟨Nat.le_refl _, Nat.zero_le _⟩, .inl rfl⟩, by decide⟩
  · simp at hcs
    subst hcs
    rw [hsp, if_pos rfl] at hz
    refine ⟨some a, l, c, zs.take l, rfl, ⟨by simp; omega, fun n hn => hwz n (List.mem_of_mem_take hn), fun e => (by cases e), ⟨by omega, by omega⟩, ?_⟩, by simp; omega⟩
    by_cases h0 : l = 0
    · exact .inl h0
    · obtain ⟨b, off, rfl, hc'⟩ := ints_at hcell (by omega)
      refine .inr ⟨b, off, rfl, fun i hi => ?_⟩
      rw [hc' i (by omega)]
      simp [List.getD, hi]

theorem open_N {fuel : Nat} {v : Value} {x : DataW H × List MemPlace} (hsp : ∀ b, spare b = true) (h : DataW.trod enc Tryd.prog w base spare held fuel 26 [v] = some x) : ∃ a l c zs, v = .slice a l c ∧ IntsV w a l c zs ∧ zs.length ≤ maxLen := by
  rcases open_ints Tryd.underlying26 Tryd.underlying3 cell_int h with ⟨hcs, -⟩ | ⟨a, l, c, zs, hcs, -, hl, hm, hz, -, hcell, hwz⟩
  · simp at hcs
    subst hcs
    exact ⟨none, 0, 0, [], rfl, ⟨rfl, by simp, fun _ => ⟨rfl, rfl⟩, ⟨Nat.le_refl _, Nat.zero_le _⟩, .inl rfl⟩, by decide⟩
  · simp at hcs
    subst hcs
    rw [hsp, if_pos rfl] at hz
    refine ⟨some a, l, c, zs.take l, rfl, ⟨by simp; omega, fun n hn => hwz n (List.mem_of_mem_take hn), fun e => (by cases e), ⟨by omega, by omega⟩, ?_⟩, by simp; omega⟩
    by_cases h0 : l = 0
    · exact .inl h0
    · obtain ⟨b, off, rfl, hc'⟩ := ints_at hcell (by omega)
      refine .inr ⟨b, off, rfl, fun i hi => ?_⟩
      rw [hc' i (by omega)]
      simp [List.getD, hi]

theorem cell_S : Tryd.prog.cellsOf 80 = 3 := by kernel_rfl
set_option maxRecDepth 100000 in
theorem trod_S {fuel : Nat} {cs : List Value} {x : DataW H × List MemPlace} (h : DataW.trod enc Tryd.prog w base spare held fuel 80 cs = some x) :
    ∃ r : Sym, cs = [.string r.name, .int .i64 r.kind, .int .i64 r.pos] ∧ (r.name.size ≤ maxLen ∧ (Lit.int .i64 r.kind).wf = true ∧ (Lit.int .i64 r.pos).wf = true) := by
  obtain ⟨y0, y1, y2, n, -, hl, h0, h1, h2⟩ := Deep.trod_struct3 Tryd.underlying80 h
  rw [cell_S] at hl
  match cs, hl with
  | [u0, u1, u2], _ =>
    simp only [cell_int, cell_str] at h0 h1 h2
    obtain ⟨z0, e0, -, w0⟩ := DataW.trod_string Tryd.underlying9 h0
    obtain ⟨z1, e1, -, w1⟩ := DataW.trod_int Tryd.underlying3 h1
    obtain ⟨z2, e2, -, w2⟩ := DataW.trod_int Tryd.underlying3 h2
    simp at e0 e1 e2
    subst e0 e1 e2
    exact ⟨⟨z0, z1, z2⟩, rfl, w0, w1, w2⟩
/-- A list, as it is read. -/
theorem open_S {fuel : Nat} {v : Value} {x : DataW H × List MemPlace} (hsp : ∀ b, spare b = true) (h : DataW.trod enc Tryd.prog w base spare held fuel 23 [v] = some x) :
    ∃ a len cap rs, v = .slice a len cap ∧ SymsV w a len cap rs ∧ rs.length ≤ maxLen := by
  rcases Deep.open_slice Tryd.underlying23 h with ⟨hcs, -⟩ | ⟨a, len, cap, m, n, D, Pl, hcs, -, hl, hm, hmm, -, hx⟩
  · simp at hcs
    subst hcs
    exact ⟨none, 0, 0, [], rfl, ⟨rfl, by simp, fun _ => ⟨rfl, rfl⟩, ⟨Nat.le_refl _, Nat.zero_le _⟩, .inl rfl⟩, by decide⟩
  · simp at hcs
    subst hcs
    rw [hsp, if_pos rfl] at hmm
    subst hmm
    have hel : ∀ i, i < len → ∃ (r : Sym), w.cells? base (a.add (i * 3)) 3 = some [.string r.name, .int .i64 r.kind, .int .i64 r.pos] ∧ (r.name.size ≤ maxLen ∧ (Lit.int .i64 r.kind).wf = true ∧ (Lit.int .i64 r.pos).wf = true) := by
      intro i hi
      obtain ⟨cs', h1, h2⟩ := hx i (by omega)
      rw [cell_S] at h1
      obtain ⟨r, rfl, hr⟩ := trod_S h2
      exact ⟨r, h1, hr⟩
    have hf : ∃ f : Nat → Sym, ∀ i, i < len → w.cells? base (a.add (i * 3)) 3 = some [.string (f i).name, .int .i64 (f i).kind, .int .i64 (f i).pos] ∧ ((f i).name.size ≤ maxLen ∧ (Lit.int .i64 (f i).kind).wf = true ∧ (Lit.int .i64 (f i).pos).wf = true) :=
      ⟨fun i => if h : i < len then Classical.choose (hel i h) else noSym, fun i hi => by
        have := Classical.choose_spec (hel i hi)
        simp only [dif_pos hi]
        exact this⟩
    obtain ⟨f, hf⟩ := hf
    have hget : ∀ i, i < len → ((List.range len).map f).getD i noSym = f i := fun i hi => by simp [List.getD, hi]
    refine ⟨some a, len, m, (List.range len).map f, rfl, ⟨by simp, ?_, fun e => (by cases e), ⟨by omega, by omega⟩, ?_⟩, by simp; omega⟩
    · intro r hr
      obtain ⟨i, hi, rfl⟩ := List.mem_map.1 hr
      exact (hf i (by simpa using hi)).2
    · by_cases h0 : len = 0
      · exact .inl h0
      · have c0 : ∀ i, i < len → ∀ j u, [.string (f i).name, .int .i64 (f i).kind, .int .i64 (f i).pos][j]? = some u → w.cell? ((a.add (i * 3)).add j) = some u := fun i hi j u hu => by
          obtain ⟨-, -, hx⟩ := World.cells?_some (hf i hi).1
          have hj : j < 3 := by have := (List.getElem?_eq_some_iff.1 hu).1; simpa using this
          rw [hx j hj]
          exact hu
        obtain ⟨b, off, spot⟩ := a
        have hspot : spot = none := by
          have := c0 0 (by omega) 0 _ rfl
          rw [Addr.add_add] at this
          simpa [Addr.add] using World.cell?_spot this
        subst hspot
        refine .inr ⟨b, off, rfl, fun i hi => ?_⟩
        rw [hget i hi]
        have k := c0 i hi
        simp only [Addr.add_lit] at k
        exact ⟨k 0 _ rfl, k 1 _ rfl, k 2 _ rfl⟩
set_option maxRecDepth 100000 in
theorem open_img {r : Reach} {b0 : Nat} {v : Value} {d : DataW H} {p : List MemPlace} (hsp : ∀ b, spare b = true) (hv : Value.okWide Tryd.prog w r b0 25 v) (h : DataW.Trod enc Tryd.prog w base spare held 25 v d p) :
    ∃ m, ImgV w v m := by
  obtain ⟨v0, v1, v2, y0, y1, y2, n, rfl, -, -, h0, h1, h2⟩ := open_agg3 Tryd.underlying25 (by kernel_rfl) (by kernel_rfl) hv h
  obtain ⟨s, e0, -, hs⟩ := DataW.trod_string Tryd.underlying9 h0
  obtain ⟨a1, l1, c1, z1, rfl, V1, k1⟩ := open_I hsp h1
  obtain ⟨a2, l2, c2, z2, rfl, V2, k2⟩ := open_S hsp h2
  simp at e0
  subst e0
  exact ⟨⟨s, z1, z2⟩, ⟨⟨_, _, _, _, _, _, rfl, hs, V1, V2⟩⟩⟩
end
/-- A block that holds these cells in the place of its own. -/
def setObj (cs : Array Value) : Obj → Obj
  | .cells _ t frozen => .cells cs t frozen
  | o => o
/-- A world for the witness: the settled one, the tables holding what their initialisers lay. -/
noncomputable def laidWorld (os : Os) : World :=
  { World.holding Tryd.prog os ⟨#[], #[], []⟩ with heap := ((World.holding Tryd.prog os ⟨#[], #[], []⟩).heap.modify 0 (setObj I.nums)).modify 1 (setObj I.forms) }

end Go.Proofs.YtffokdldgdjkhaaDoor.X

/- Proved: ImageRuns answers true for every image and every picks, where the tables of instructions are what their initialisers lay (the card ties that to the program): in an image that may be, no thread comes to a place that is no start, unless it has gone by a RET. -/
namespace Go.Proofs.YtffokdldgdjkhaaDoor.imageRuns
open Go.ChangeShapes Go.WideShapes Go.ChangeAt Go.RowKit
open Go.ChangeMaps (open_string shut_string)
set_option linter.unusedVariables false
set_option maxRecDepth 100000

theorem own : ownKnob Tryd.prog.godebug = none := by kernel_rfl
theorem laidO : laidOutB Tryd.prog = true := by kernel_rfl

/-! ### The row -/
theorem contract (H : Type) (enc : TypeId × Value → H) (W : World) (base : Nat) (args : Array Value) (ds gs : List (DataW H)) (before : List MemPlace)
    (hval : ∀ (j : Nat) t v, Tryd.f3.params[j]? = some t → args[j]? = some v → Value.okWide Tryd.prog W .any base t v)
    (hW : DataW.Whole enc Tryd.prog Tryd.f3.params.toList Rows.imageRunsSpec.vars false W args.toList ds gs before) (hsz : (DataW.weightsEach Tryd.prog (Tryd.f3.params.toList ++ Rows.imageRunsSpec.plain.varTypes Tryd.prog) (ds ++ gs)).all (· ≤ reachBytes) = true) (hT : Tab W) :
    Calls Tryd.prog 3 args W fun e W' => ∃ v, e = .returned v ∧ Rows.imageRunsSpec.post enc Tryd.prog Tryd.f3 false true false false W args v W' := by
  have hW' := hW
  obtain ⟨p, q, hA0, hV, rfl, hfz, hnd⟩ := hW
  have hA : DataW.TrodAll enc Tryd.prog W 0 (fun _ => true) true Tryd.f3.params.toList args.toList ds p := hA0
  have hlt := hA.lt
  rw [Tryd.params3] at hA hval hsz
  obtain ⟨v0, vs0, d0, ds0, p0, q0, hargs, rfl, rfl, h0, r0⟩ := trodAll_cons hA
  obtain ⟨v1, vs1, d1, ds1, p1, q1, rfl, rfl, rfl, h1, r1⟩ := trodAll_cons r0
  obtain ⟨rfl, rfl, rfl⟩ := trodAll_nil r1
  obtain rfl : args = #[v0, v1] := by cases args; simp_all
  obtain ⟨rfl, rfl⟩ := trodVars_none hV
  obtain ⟨m0, V0⟩ := X.open_img (fun _ => rfl) (hval 0 25 v0 rfl rfl) h0
  obtain ⟨x1, y1, t1, rfl⟩ := okWide_slice Tryd.underlying26 (hval 1 26 v1 rfl rfl)
  have hh1 := h1
  obtain ⟨fuel1, g1⟩ := hh1
  obtain ⟨a1, l1, c1, zs1, e1, V1, -⟩ := X.open_N (v := .slice x1 y1 t1) (fun _ => rfl) g1
  cases e1
  clear hA0
  simp only [List.append_nil] at hW'
  refine (R.iruns_any V0 V1 hT).mono fun e W' ⟨he, hg⟩ => ?_
  subst he
  exact ⟨_, rfl, _, _, _, [], _, [], hW', (trodAll_cons_mk (shut_bool Tryd.underlying4 _) trodAll_mk0), (trodAll_cons_mk (Below.trod laidO (by kernel_rfl) (of_decide_eq_true (by kernel_rfl)) h0 hg (fun x hx => hlt x (by simp [hx]))) (trodAll_cons_mk (Below.trod laidO (by kernel_rfl) (of_decide_eq_true (by kernel_rfl)) h1 hg (fun x hx => hlt x (by simp [hx]))) trodAll_mk0)), rfl, hg.frame _, fun h => by cases h⟩

theorem laid_met (os : Os) : laidMet Tryd.prog Rows.imageRunsRow.laid ((X.laidWorld os).forCall (fun _ _ => 0) ⟨#[], #[.agg #[.string { data := #[] }, .slice none 0 0, .slice none 0 0], .slice none 0 0], []⟩).memory :=
  laidMet_of_run' 8 (by kernel_rfl) (by kernel_rfl)
theorem reads (os : Os) {H : Type} (enc : TypeId × Value → H) : ∃ places, DataW.whole enc Tryd.prog ((X.laidWorld os).forCall (fun _ _ => 0) ⟨#[], #[.agg #[.string { data := #[] }, .slice none 0 0, .slice none 0 0], .slice none 0 0], []⟩).memory Tryd.f3.params.toList Rows.imageRunsSpec.vars false (#[.agg #[.string { data := #[] }, .slice none 0 0, .slice none 0 0], .slice none 0 0] : Array Value).toList 8 = some ([.agg [.lit (.string []), .nil, .nil], .nil], [], places) :=
  ⟨[], by kernel_rfl⟩

set_option maxRecDepth 100000 in
theorem lifted (os : Os) (started : os.Started) (H : Type) (enc : TypeId × Value → H) (F : Stop.Interp) :
    ReturnsInHanded {} Tryd.checked os 3 .any ((OpenSpec.ofChange Rows.imageRunsSpec).preRow enc Tryd.prog Tryd.f3 Rows.imageRunsRow.domain false Rows.imageRunsRow.laid) (((OpenSpec.ofChange Rows.imageRunsSpec).at F).post enc Tryd.prog Tryd.f3 false true false false) := by
  obtain ⟨places, hx⟩ := reads os enc
  refine returnsInHanded_of_row (C := Tryd.checked) (s := OpenSpec.ofChange Rows.imageRunsSpec) own started (by kernel_rfl) Tryd.func3
    (witness_row_at (enc := enc) (C := Tryd.checked) false (X.laidWorld os) #[.agg #[.string { data := #[] }, .slice none 0 0, .slice none 0 0], .slice none 0 0] rfl (by kernel_rfl) (by kernel_rfl) (by kernel_rfl)
      (OpenSpec.preRow_of_cond 8 hx (by kernel_rfl) (fun k hk => by cases hk) (by kernel_rfl) (laid_met os))) ?_
  intro W base args ds gs before hval hW _ hcond hsz hL _ _
  exact contract H enc W base args ds gs before hval hW hsz (tab_of_laid hL)

theorem said : Rows.ImageRunsSaid :=
  OpenClaim.holds_of_cond 3 Tryd.f3 rfl rfl rfl rfl rfl rfl rfl ⟨rfl, rfl, rfl, rfl, rfl⟩ rfl rfl rfl rfl rfl (by kernel_rfl) Tryd.func3 (by kernel_rfl)
    (of_decide_eq_true (by kernel_rfl)) (by unfold Func.isWrapper; first | (rw [if_pos (by decide +kernel)]; kernel_rfl) | (rw [if_neg (by decide +kernel)]; exact ⟨rfl, rfl⟩))
    (fun os started H enc _ F => by rw [OpenClaim.pre_eq_preRow]; exact lifted os started H enc F)

/-- No parameter wants a stand-in; the program's own looks are off: what the card asks. -/
theorem plain (f : FuncId) (fn : Func) (hf : Tryd.pinned.checked.prog.funcNamed "cotter/cotterlaw08.ImageRuns" = some f) (hfn : Tryd.pinned.checked.prog.funcs[f]? = some fn) :
    false = Tryd.pinned.checked.prog.looks [] ∧ ∀ (j : Nat) t, fn.params[j]? = some t → Tryd.pinned.checked.prog.wantsStandIn t = false := by
  obtain rfl : f = 3 := Option.some.inj ((show Tryd.prog.funcNamed "cotter/cotterlaw08.ImageRuns" = some 3 by kernel_rfl).symm.trans hf) |>.symm
  obtain rfl : fn = Tryd.f3 := (Option.some.inj (Tryd.func3.symm.trans hfn)).symm
  refine ⟨by kernel_rfl, fun j t ht => ?_⟩
  rw [Tryd.params3] at ht
  have hm : t ∈ [25, 26] := by simpa using Array.mem_of_getElem? ht
  have hall : ([25, 26].all fun u => !Tryd.prog.wantsStandIn u) = true := by kernel_rfl
  exact (show Tryd.prog.wantsStandIn t = false by simpa using List.all_eq_true.1 hall t hm)

theorem card : Rows.ImageRunsCardSaid :=
  Claim7.holds_tied_plain_at .later [] _ _ _ _ said (fun _ h => by cases h) (by kernel_rfl) (fun _ h => by cases h) imageRuns_row_tie rfl ⟨rfl, rfl⟩ (by kernel_rfl) rfl plain (by kernel_rfl)
end Go.Proofs.YtffokdldgdjkhaaDoor.imageRuns
namespace Go.Proofs.YtffokdldgdjkhaaDoor
/-- The statement. -/
theorem imageRuns_holds : Rows.ImageRunsCardSaid := imageRuns.card
#print axioms imageRuns_holds
end Go.Proofs.YtffokdldgdjkhaaDoor

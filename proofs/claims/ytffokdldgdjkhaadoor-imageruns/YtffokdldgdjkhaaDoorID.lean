/- What a pick makes of a machine, in one form; what stays. No walk. -/
import Derived.Test.YtffokdldgdjkhaaDoorIA
import Derived.Test.YtffokdldgdjkhaaDoorIB
import Derived.Test.YtffokdldgdjkhaaDoorInsNumWf
import Derived.Test.YtffokdldgdjkhaaDoorStepRFinish
namespace Go.Proofs.YtffokdldgdjkhaaDoor
open Go.RowKit
set_option linter.unusedVariables false

namespace T
/-- What memory makes of a thread's waiting stores, of itself, of the events. -/
def ansW (M : Mach) (k : Nat) (q : S.Q) : List Wait :=
  if q.k = 2 then has (M.mem q.a) ((if (M.th k).ws.length = 8 then (M.th k).ws.tail else (M.th k).ws) ++ [(q.a, q.v)]) (M.th k).ws
  else if q.k = 3 ∨ q.k = 4 then has (M.mem q.a) [] (M.th k).ws
  else if q.k = 5 then [] else (M.th k).ws
def fullMem (M : Mach) (k : Nat) : Memo := if (M.th k).ws.length = 8 then (leave M k).mem else M.mem
def ansMem (M : Mach) (k : Nat) (q : S.Q) : Memo :=
  if q.k = 2 then has (M.mem q.a) (fullMem M k) M.mem
  else if q.k = 3 then has (M.mem q.a) (upd (upds M.mem (M.th k).ws) q.a q.v) M.mem
  else if q.k = 4 then has (M.mem q.a) (upd (upds M.mem (M.th k).ws) q.a (wrap64 ((upds M.mem (M.th k).ws q.a).getD 0 + q.v))) M.mem
  else if q.k = 5 then upds M.mem (M.th k).ws else M.mem
def ansEs (M : Mach) (k : Nat) (q : S.Q) : List Ev := if q.k = 6 then M.es ++ [((k : Int), 1, q.v)] else M.es

theorem put_eq (M : Mach) (k : Nat) (m : Memo) (h : Th) : M.put k m h = ⟨M.code, m, M.ts.set k h, M.es⟩ := rfl
theorem set_self {M : Mach} {k : Nat} (hk : k < M.ts.length) : M.ts.set k ⟨(M.th k).c, (M.th k).ws⟩ = M.ts := by
  show M.ts.set k (M.th k) = M.ts
  unfold Mach.th
  simp [List.getD, hk]
theorem full_eq {M : Mach} {k : Nat} (hk : k < M.ts.length) : full M k = M.put k (fullMem M k) ⟨(M.th k).c, if (M.th k).ws.length = 8 then (M.th k).ws.tail else (M.th k).ws⟩ := by
  unfold full fullMem
  by_cases h8 : (M.th k).ws.length = 8
  · rw [if_pos h8, if_pos h8, if_pos h8]
    unfold leave
    cases e : (M.th k).ws with
    | nil => rw [e] at h8; cases h8
    | cons p r => rfl
  · rw [if_neg h8, if_neg h8, if_neg h8]
    exact (put_same hk).symm
theorem ansM_eq {M : Mach} {k : Nat} (hk : k < M.ts.length) (q : S.Q) : ansM M k q = ⟨M.code, ansMem M k q, M.ts.set k ⟨(M.th k).c, ansW M k q⟩, ansEs M k q⟩ := by
  have hid : M = ⟨M.code, M.mem, M.ts.set k ⟨(M.th k).c, (M.th k).ws⟩, M.es⟩ := by rw [set_self hk]
  unfold ansM ansMem ansW ansEs
  by_cases h2 : q.k = 2
  · rw [if_pos h2, if_pos h2, if_pos h2, if_neg (show ¬ q.k = 6 by omega)]
    cases e : M.mem q.a with
    | none => exact hid
    | some v =>
      show push (full M k) k q.a q.v = ⟨_, fullMem M k, _, _⟩
      unfold push
      rw [full_eq hk, put_put, th_put hk]
      rfl
  rw [if_neg h2, if_neg h2, if_neg h2]
  by_cases h3 : q.k = 3
  · rw [if_pos h3, if_pos h3, if_pos (.inl h3), if_neg (show ¬ q.k = 6 by omega)]
    cases e : M.mem q.a with
    | none => exact hid
    | some v => rfl
  rw [if_neg h3, if_neg h3]
  by_cases h4 : q.k = 4
  · rw [if_pos h4, if_pos h4, if_pos (.inr h4), if_neg (show ¬ q.k = 6 by omega)]
    cases e : M.mem q.a with
    | none => exact hid
    | some v => rfl
  rw [if_neg h4, if_neg h4, if_neg (show ¬ (q.k = 3 ∨ q.k = 4) by omega)]
  by_cases h5 : q.k = 5
  · rw [if_pos h5, if_pos h5, if_pos h5, if_neg (show ¬ q.k = 6 by omega)]
    rfl
  rw [if_neg h5, if_neg h5, if_neg h5]
  by_cases h6 : q.k = 6
  · rw [if_pos h6, if_pos h6]
    unfold Mach.see
    rw [set_self hk]
  · rw [if_neg h6, if_neg h6]
    exact hid

/-- The thread's registers behind its instruction, and what it asked. -/
def insQ (M : Mach) (k : Nat) : S.Q := iQ (M.th k).c (I.cut M.code (plc M k))
def goes (M : Mach) (k : Nat) : Bool := decOk M.code (plc M k) && decide (ansE M k (insQ M k) = 0)
def insC (M : Mach) (k : Nat) : S.C :=
  if decOk M.code (plc M k) = true then (if ansE M k (insQ M k) = 0 then S.finish (iC (M.th k).c (I.cut M.code (plc M k))) (insQ M k).k (insQ M k).r (ansN M k (insQ M k)) else trapC (M.th k).c 2) else trapC (M.th k).c 3
def insW (M : Mach) (k : Nat) : List Wait := if goes M k = true then ansW M k (insQ M k) else (M.th k).ws
def insMem (M : Mach) (k : Nat) : Memo := if goes M k = true then ansMem M k (insQ M k) else M.mem
def insEs (M : Mach) (k : Nat) : List Ev := if goes M k = true then ansEs M k (insQ M k) else M.es
theorem doIns_eq {M : Mach} {k : Nat} (hk : k < M.ts.length) : doIns M k = ⟨M.code, insMem M k, M.ts.set k ⟨insC M k, insW M k⟩, insEs M k⟩ := by
  unfold doIns insMem insC insW insEs goes
  cases hd : decOk M.code (plc M k) with
  | false => rfl
  | true =>
    by_cases he : ansE M k (insQ M k) = 0
    · have he' : ansE M k (iQ (M.th k).c (I.cut M.code (plc M k))) = 0 := he
      rw [if_pos rfl, if_pos rfl, if_pos he', if_pos he, decide_eq_true he, Bool.and_self, if_pos rfl, if_pos rfl, if_pos rfl]
      have h1 := ansM_eq hk (insQ M k)
      unfold setC
      change Mach.put (ansM M k (insQ M k)) k (ansM M k (insQ M k)).mem ⟨S.finish (iC (M.th k).c (I.cut M.code (plc M k))) (insQ M k).k (insQ M k).r (ansN M k (insQ M k)), ((ansM M k (insQ M k)).th k).ws⟩ = _
      have h2 : k < (ansM M k (insQ M k)).ts.length := by rw [h1]; simpa using hk
      have h3 : (ansM M k (insQ M k)).th k = ⟨(M.th k).c, ansW M k (insQ M k)⟩ := by
        rw [h1]; unfold Mach.th; simp [List.getD, hk]
      rw [h3, h1, put_eq]
      simp only [List.set_set]
    · have he' : ¬ ansE M k (iQ (M.th k).c (I.cut M.code (plc M k))) = 0 := he
      rw [if_pos rfl, if_pos rfl, if_neg he', if_neg he, decide_eq_false he, Bool.and_false]
      rfl
/-- What is seen of a thread that has ended. -/
def endE (k : Nat) (c : S.C) : List Ev := if c.st = 1 then [((k : Int), 2, 0)] else if c.st = 2 then [((k : Int), 3, c.tr)] else []
theorem goOn_eq {M : Mach} {k : Nat} (hk : k < M.ts.length) (hs : (M.th k).c.st = 0) : goOn M k = ⟨M.code, insMem M k, M.ts.set k ⟨insC M k, insW M k⟩, insEs M k ++ endE k (insC M k)⟩ := by
  unfold goOn
  rw [if_pos hs]
  have h1 := doIns_eq hk
  have h3 : (doIns M k).th k = ⟨insC M k, insW M k⟩ := by rw [h1]; unfold Mach.th; simp [List.getD, hk]
  unfold seen endE
  rw [h3]
  by_cases e1 : (insC M k).st = 1
  · rw [if_pos e1, if_pos e1]; unfold Mach.see; rw [h1]
  · rw [if_neg e1, if_neg e1]
    by_cases e2 : (insC M k).st = 2
    · rw [if_pos e2, if_pos e2]; unfold Mach.see; rw [h1]
    · rw [if_neg e2, if_neg e2, h1, List.append_nil]
theorem goOn_no {M : Mach} {k : Nat} (hs : ¬ (M.th k).c.st = 0) : goOn M k = M := if_neg hs
theorem leave_eq {M : Mach} {k : Nat} {p : Wait} {r : List Wait} (h : (M.th k).ws = p :: r) : leave M k = ⟨M.code, upd M.mem p.1 p.2, M.ts.set k ⟨(M.th k).c, r⟩, M.es⟩ := by
  unfold leave; rw [h]; rfl
theorem leave_no {M : Mach} {k : Nat} (h : (M.th k).ws = []) : leave M k = M := by unfold leave; rw [h]
theorem who_lt {M : Mach} (h : 0 < M.ts.length) (p : Int) : who M p < M.ts.length := by
  unfold who
  have h1 := Int.emod_nonneg (pk p / 2) (b := (M.ts.length : Int)) (by omega)
  have h2 := Int.emod_lt_of_pos (pk p / 2) (b := (M.ts.length : Int)) (by omega)
  omega
/-- A pick that does nothing changes nothing. -/
theorem act_no {M : Mach} {p : Int} (h : did M p = false) : act M p = M := by
  unfold did at h
  unfold act
  by_cases e : pk p % 2 = 0
  · rw [if_pos e] at h ⊢
    exact goOn_no (of_decide_eq_false h)
  · rw [if_neg e] at h ⊢
    refine leave_no ?_
    unfold leaves at h
    simpa using h
/-- The picks that did something. -/
def didL : Mach → List Int → List Int
  | _, [] => []
  | M, p :: l => if did M p = true then p :: didL (act M p) l else didL (act M p) l
theorem runs_did : ∀ (l : List Int) (M : Mach), runs M (didL M l) = runs M l
  | [], M => rfl
  | p :: l, M => by
    unfold didL
    cases h : did M p with
    | true =>
      show runs (act M p) (didL (act M p) l) = runs (act M p) l
      exact runs_did l (act M p)
    | false =>
      show runs M (didL (act M p) l) = runs (act M p) l
      rw [act_no h]
      exact runs_did l M
theorem act_eq {M : Mach} (h0 : 0 < M.ts.length) (p : Int) : (act M p).code = M.code ∧ (∃ th, (act M p).ts = M.ts.set (who M p) th) ∧ ∃ l, (act M p).es = M.es ++ l ∧ l.length ≤ 2 := by
  have hk := who_lt h0 p
  unfold act
  have hid : ∃ th, M.ts = M.ts.set (who M p) th := ⟨_, (set_self hk).symm⟩
  by_cases e : pk p % 2 = 0
  · rw [if_pos e]
    by_cases hs : (M.th (who M p)).c.st = 0
    · rw [goOn_eq hk hs]
      refine ⟨rfl, ⟨_, rfl⟩, ?_⟩
      have h2 : ∃ l, insEs M (who M p) = M.es ++ l ∧ l.length ≤ 1 := by
        unfold insEs ansEs
        repeat' split
        · exact ⟨_, rfl, by simp⟩
        · exact ⟨[], by simp, by simp⟩
        · exact ⟨[], by simp, by simp⟩
      obtain ⟨l, hl, hl1⟩ := h2
      have h3 : (endE (who M p) (insC M (who M p))).length ≤ 1 := by unfold endE; repeat' split
                                                                     all_goals simp
      exact ⟨l ++ endE (who M p) (insC M (who M p)), by show insEs M (who M p) ++ _ = _; rw [hl, List.append_assoc], by rw [List.length_append]; omega⟩
    · rw [goOn_no hs]
      exact ⟨rfl, hid, [], by simp, by simp⟩
  · rw [if_neg e]
    cases hw : (M.th (who M p)).ws with
    | nil => rw [leave_no hw]; exact ⟨rfl, hid, [], by simp, by simp⟩
    | cons q r => rw [leave_eq hw]; exact ⟨rfl, ⟨_, rfl⟩, [], by simp, by simp⟩
theorem act_len {M : Mach} (h0 : 0 < M.ts.length) (p : Int) : (act M p).ts.length = M.ts.length := by
  obtain ⟨-, ⟨th, h⟩, -⟩ := act_eq h0 p
  rw [h, List.length_set]
theorem runs_snoc (M : Mach) (l : List Int) (p : Int) : runs M (l ++ [p]) = act (runs M l) p := by simp [runs]
theorem runs_len : ∀ (l : List Int) (M : Mach), 0 < M.ts.length → (runs M l).ts.length = M.ts.length
  | [], M, _ => rfl
  | p :: l, M, h => by
    show (runs (act M p) l).ts.length = _
    rw [runs_len l (act M p) (by rw [act_len h p]; exact h), act_len h p]
theorem runs_code : ∀ (l : List Int) (M : Mach), 0 < M.ts.length → (runs M l).code = M.code
  | [], M, _ => rfl
  | p :: l, M, h => by
    show (runs (act M p) l).code = _
    rw [runs_code l (act M p) (by rw [act_len h p]; exact h), (act_eq h p).1]
/-- Events come, none goes. -/
theorem runs_es : ∀ (l : List Int) (M : Mach), 0 < M.ts.length → ∃ x, (runs M l).es = M.es ++ x ∧ x.length ≤ 2 * l.length
  | [], M, _ => ⟨[], by simp [runs], by simp⟩
  | p :: l, M, h => by
    obtain ⟨x, hx, hl⟩ := runs_es l (act M p) (by rw [act_len h p]; exact h)
    obtain ⟨-, -, y, hy, hy2⟩ := act_eq h p
    refine ⟨y ++ x, ?_, ?_⟩
    · show (runs (act M p) l).es = _
      rw [hx, hy, List.append_assoc]
    · rw [List.length_append, List.length_cons]; omega
/-- What waits, behind a thread's step. -/
theorem insW_eq (M : Mach) (k : Nat) : insW M k = (M.th k).ws ∨ insW M k = [] ∨ ∃ a v, insQ M k = ⟨2, a, v, (insQ M k).r⟩ ∧ (M.mem a).isSome = true ∧ insW M k = (if (M.th k).ws.length = 8 then (M.th k).ws.tail else (M.th k).ws) ++ [(a, v)] := by
  unfold insW ansW
  by_cases hg : goes M k = true
  · rw [if_pos hg]
    by_cases h2 : (insQ M k).k = 2
    · rw [if_pos h2]
      cases e : M.mem (insQ M k).a with
      | none => exact .inl rfl
      | some x =>
        refine .inr (.inr ⟨_, _, ?_, by rw [e]; rfl, rfl⟩)
        rw [← h2]
    · rw [if_neg h2]
      by_cases h3 : (insQ M k).k = 3 ∨ (insQ M k).k = 4
      · rw [if_pos h3]
        cases e : M.mem (insQ M k).a with
        | none => exact .inl rfl
        | some x => exact .inr (.inl rfl)
      · rw [if_neg h3]
        split
        · exact .inr (.inl rfl)
        · exact .inl rfl
  · rw [if_neg hg]; exact .inl rfl
theorem insQ_wf (M : Mach) (k : Nat) : (Lit.int .i64 (insQ M k).a).wf = true ∧ (Lit.int .i64 (insQ M k).v).wf = true := S.startQ_wf _ _ _ _ _ _
end T

theorem MOk.act {M : T.Mach} (h : MOk M) (h0 : 0 < M.ts.length) (p : Int) : MOk (T.act M p) := by
  have hk := T.who_lt h0 p
  obtain ⟨k, hke⟩ : ∃ k, T.who M p = k := ⟨_, rfl⟩
  rw [hke] at hk
  have hset : ∀ (c : S.C) (ws : List T.Wait) (m : T.Memo) (es : List T.Ev), WsOk ws → ws.length ≤ 8 → MOk ⟨M.code, m, M.ts.set k ⟨c, ws⟩, es⟩ := fun c ws m es h1 h2 j hj => by
    simp only [List.length_set] at hj
    unfold T.Mach.th
    by_cases e : k = j
    · subst e
      simp only [List.getD, List.getElem?_set_self hk, Option.getD_some]
      exact ⟨h1, h2⟩
    · simp only [List.getD, List.getElem?_set_ne e]
      exact h j hj
  obtain ⟨hok, h8⟩ := h k hk
  unfold T.act
  rw [hke]
  by_cases e : T.pk p % 2 = 0
  · rw [if_pos e]
    by_cases hs : (M.th k).c.st = 0
    · rw [T.goOn_eq hk hs]
      rcases T.insW_eq M k with h1 | h1 | ⟨a, v, hq, -, h1⟩
      · rw [h1]; exact hset _ _ _ _ hok h8
      · rw [h1]; exact hset _ _ _ _ ⟨by simp, by simp⟩ (by simp)
      · rw [h1]
        have hqw := T.insQ_wf M k
        rw [hq] at hqw
        have hl : ((if (M.th k).ws.length = 8 then (M.th k).ws.tail else (M.th k).ws) ++ [(a, v)]).length ≤ 8 := by
          rw [List.length_append]
          split
          · rw [List.length_tail]; simp; omega
          · simp; omega
        refine hset _ _ _ _ ⟨by omega, fun q hq => ?_⟩ hl
        rcases List.mem_append.1 hq with hq | hq
        · split at hq
          · exact hok.2 q (List.mem_of_mem_tail hq)
          · exact hok.2 q hq
        · obtain rfl : q = (a, v) := by simpa using hq
          exact hqw
    · rw [T.goOn_no hs]; exact h
  · rw [if_neg e]
    cases hw : (M.th k).ws with
    | nil => rw [T.leave_no hw]; exact h
    | cons q r =>
      rw [T.leave_eq hw]
      rw [hw] at hok h8
      refine hset _ _ _ _ ⟨by have := hok.1; simp at this; omega, fun x hx => hok.2 x (List.mem_cons_of_mem _ hx)⟩ (by simp at h8; omega)
theorem MOk.runs : ∀ (l : List Int) {M : T.Mach}, MOk M → 0 < M.ts.length → MOk (T.runs M l)
  | [], M, h, _ => h
  | p :: l, M, h, h0 => MOk.runs l (M := T.act M p) (h.act h0 p) (by rw [T.act_len h0 p]; exact h0)

end Go.Proofs.YtffokdldgdjkhaaDoor

/- A thread's numbers still fit behind a step. No walk. -/
namespace Go.Proofs.YtffokdldgdjkhaaDoor
open Go.RowKit
set_option linter.unusedVariables false

theorem wf_iff (x : Int) : (Lit.int .i64 x).wf = true ↔ -9223372036854775808 ≤ x ∧ x ≤ 9223372036854775807 := by
  simp [Lit.wf, IntKind.min, IntKind.max, IntKind.signed, IntKind.bits]
theorem S.put_ok {c : S.C} (h : c.ok) (k : Nat) {x : Int} (hx : (Lit.int .i64 x).wf = true) : (c.put k x).ok := by
  obtain ⟨⟨h0, h1, h2, h3⟩, ⟨h4, h5, h6, h7⟩, hp, hs, ht⟩ := h
  unfold S.C.put
  split
  all_goals (refine ⟨⟨?_, ?_, ?_, ?_⟩, ⟨?_, ?_, ?_, ?_⟩, ?_, ?_, ?_⟩ <;> assumption)
theorem S.pc_ok {c : S.C} (h : c.ok) {x : Int} (hx : (Lit.int .i64 x).wf = true) : ({ c with pc := x } : S.C).ok := by
  obtain ⟨⟨h0, h1, h2, h3⟩, ⟨h4, h5, h6, h7⟩, hp, hs, ht⟩ := h
  exact ⟨⟨h0, h1, h2, h3⟩, ⟨h4, h5, h6, h7⟩, hx, hs, ht⟩
theorem S.st_ok {c : S.C} (h : c.ok) {x : Int} (hx : (Lit.int .i64 x).wf = true) : ({ c with st := x } : S.C).ok := by
  obtain ⟨⟨h0, h1, h2, h3⟩, ⟨h4, h5, h6, h7⟩, hp, hs, ht⟩ := h
  exact ⟨⟨h0, h1, h2, h3⟩, ⟨h4, h5, h6, h7⟩, hp, hx, ht⟩
theorem S.trap_ok {c : S.C} (h : c.ok) {x y : Int} (hx : (Lit.int .i64 x).wf = true) (hy : (Lit.int .i64 y).wf = true) : ({ c with st := x, tr := y } : S.C).ok := by
  obtain ⟨⟨h0, h1, h2, h3⟩, ⟨h4, h5, h6, h7⟩, hp, hs, ht⟩ := h
  exact ⟨⟨h0, h1, h2, h3⟩, ⟨h4, h5, h6, h7⟩, hp, hx, hy⟩
theorem S.fin_ok {c : S.C} (h : c.ok) (k r : Int) {x : Int} (hx : (Lit.int .i64 x).wf = true) : (S.finish c k r x).ok := by
  unfold S.finish S.fin
  split
  · split
    · exact S.pc_ok h hx
    · split
      · exact S.put_ok h _ hx
      · exact h
  · exact h

theorem wrapI_wf (x : Int) : (Lit.int .i64 (IntKind.i64.wrap x)).wf = true := by
  rw [wf_iff, IntKind.wrap_i64]
  omega
theorem tr_wf (b : Bool) : (Lit.int .i64 (W.tr b)).wf = true := by cases b <;> rfl
theorem W.bin_wf (op : Int) {a b : Int} (ha : (Lit.int .i64 a).wf = true) (hb : (Lit.int .i64 b).wf = true) : (Lit.int .i64 (W.bin op a b)).wf = true := by
  rw [wf_iff] at ha hb
  have hbits : ∀ o, (Lit.int .i64 (bits o .i64 a b)).wf = true := fun o => by unfold bits; exact wrapI_wf _
  unfold W.bin
  by_cases e3 : op = 3
  · rw [if_pos e3]
    exact wrap64_wf _
  rw [if_neg e3]
  by_cases e4 : op = 4
  · rw [if_pos e4]
    exact wrap64_wf _
  rw [if_neg e4]
  by_cases e5 : op = 5
  · rw [if_pos e5]
    exact wrap64_wf _
  rw [if_neg e5]
  by_cases e6 : op = 6
  · rw [if_pos e6]
    by_cases hb0 : b = 0
    · rw [if_pos hb0]; rfl
    · rw [if_neg hb0]; exact wrap64_wf _
  rw [if_neg e6]
  by_cases e7 : op = 7
  · rw [if_pos e7]
    by_cases hb0 : b = 0
    · rw [if_pos hb0]; rfl
    · rw [if_neg hb0, wf_iff]
      have h1 : (a.tmod b).natAbs ≤ a.natAbs := by
        rw [Int.natAbs_tmod]
        exact Nat.mod_le _ _
      have h2 : a ≤ 0 → a.tmod b ≤ 0 := W.tmod_nonpos a b
      have h3 : 0 ≤ a → 0 ≤ a.tmod b := fun h => Int.tmod_nonneg b h
      omega
  rw [if_neg e7]
  by_cases e8 : op = 8
  · rw [if_pos e8]
    exact hbits _
  rw [if_neg e8]
  by_cases e9 : op = 9
  · rw [if_pos e9]
    exact hbits _
  rw [if_neg e9]
  by_cases e10 : op = 10
  · rw [if_pos e10]
    exact hbits _
  rw [if_neg e10]
  by_cases e11 : op = 11
  · rw [if_pos e11]
    exact wrap64_wf _
  rw [if_neg e11]
  by_cases e12 : op = 12
  · rw [if_pos e12]
    rw [wf_iff]
    generalize hp : (2 : Int) ^ (b % 64).toNat = q
    have hq : 0 < q := by rw [← hp]; exact Int.pow_pos (by decide)
    have h1 : a / q ≤ 9223372036854775807 := by
      by_cases h : 0 ≤ a
      · exact Int.le_trans (Int.ediv_le_self q h) ha.2
      · have := Int.ediv_neg_of_neg_of_pos (show a < 0 by omega) hq
        omega
    have h2 : -9223372036854775808 ≤ a / q := by
      by_cases h : 0 ≤ a
      · have := Int.ediv_nonneg h (Int.le_of_lt hq); omega
      · rw [Int.le_ediv_iff_mul_le hq]
        have h3 : -9223372036854775808 * q ≤ -9223372036854775808 * 1 := Int.mul_le_mul_of_nonpos_left (by decide) (by omega)
        omega
    exact ⟨h2, h1⟩
  rw [if_neg e12]
  by_cases e13 : op = 13
  · rw [if_pos e13]
    exact tr_wf _
  rw [if_neg e13]
  by_cases e14 : op = 14
  · rw [if_pos e14]
    exact tr_wf _
  rw [if_neg e14]
  by_cases e15 : op = 15
  · rw [if_pos e15]
    exact tr_wf _
  rw [if_neg e15]
  by_cases e16 : op = 16
  · rw [if_pos e16]
    exact tr_wf _
  rw [if_neg e16]
  rfl

theorem S.moved_ok {c : S.C} (h : c.ok) (op : Int) (a b : Nat) {n : Int} (hn : (Lit.int .i64 n).wf = true) : (S.moved c op a b n).ok := by
  unfold S.moved
  by_cases e1 : op = 1 ∨ op = 19
  · rw [if_pos e1]; exact S.put_ok h _ hn
  rw [if_neg e1]
  by_cases e2 : op = 2
  · rw [if_pos e2]; exact S.put_ok h _ (wrap64_wf _)
  rw [if_neg e2]
  by_cases e3 : op = 23
  · rw [if_pos e3]; exact S.put_ok h _ (wrap64_wf _)
  rw [if_neg e3]
  by_cases e4 : op = 24
  · rw [if_pos e4]; exact S.put_ok h _ (wrap64_wf _)
  rw [if_neg e4]
  by_cases e5 : op = 32
  · rw [if_pos e5]; exact S.st_ok h rfl
  rw [if_neg e5]
  exact h
theorem S.turned_ok {c : S.C} (h : c.ok) (op : Int) (a b : Nat) {n x : Int} (hn : (Lit.int .i64 n).wf = true) (hx : (Lit.int .i64 x).wf = true) : (S.turned c op a b n x).ok := by
  unfold S.turned
  by_cases e1 : op = 33
  · rw [if_pos e1]; exact S.trap_ok h rfl hn
  rw [if_neg e1]
  by_cases e2 : 3 ≤ op ∧ op ≤ 16
  · rw [if_pos e2]
    unfold S.computed
    split
    · exact S.pc_ok (S.put_ok h _ (W.bin_wf op (wrap64_wf _) (wrap64_wf _))) hx
    · exact S.trap_ok h rfl rfl
  rw [if_neg e2]
  refine S.pc_ok (S.moved_ok h op a b hn) ?_
  split
  · exact wrap64_wf _
  · exact hx
theorem S.startC_ok {c : S.C} (h : c.ok) (op a b z : Int) {n : Int} (hn : (Lit.int .i64 n).wf = true) : (S.startC c op a b n z).ok := by
  unfold S.startC
  split
  · exact S.turned_ok h _ _ _ hn (wrap64_wf _)
  · exact h

theorem I.dN_wf (s : ByteArray) : (Lit.int .i64 (I.dN s)).wf = true := by
  unfold I.dN I.rdN
  split
  · rfl
  · exact W.numV_wf _
def T.MemFit (m : T.Memo) : Prop := ∀ x n, m x = some n → (Lit.int .i64 n).wf = true
theorem T.upd_fit {m : T.Memo} (h : T.MemFit m) (a : Int) {v : Int} (hv : (Lit.int .i64 v).wf = true) : T.MemFit (T.upd m a v) := by
  intro x n hn
  unfold T.upd at hn
  by_cases e : x = a
  · rw [if_pos e] at hn
    by_cases e2 : (m a).isSome = true
    · rw [if_pos e2] at hn; cases hn; exact hv
    · rw [if_neg e2] at hn; cases hn
  · rw [if_neg e] at hn; exact h x n hn
theorem T.upds_fit : ∀ (ws : List T.Wait) {m : T.Memo}, T.MemFit m → (∀ p ∈ ws, (Lit.int .i64 p.2).wf = true) → T.MemFit (T.upds m ws)
  | [], m, h, _ => h
  | p :: r, m, h, hw => T.upds_fit r (T.upd_fit h p.1 (hw p List.mem_cons_self)) (fun q hq => hw q (List.mem_cons_of_mem _ hq))
theorem T.newest_fit {ws : List T.Wait} (hw : ∀ p ∈ ws, (Lit.int .i64 p.2).wf = true) {a n : Int} (h : T.newest ws a = some n) : (Lit.int .i64 n).wf = true := by
  unfold T.newest at h
  obtain ⟨p, hp, rfl⟩ := Option.map_eq_some_iff.1 h
  exact hw p (List.mem_reverse.1 (List.mem_of_find?_eq_some hp))

end Go.Proofs.YtffokdldgdjkhaaDoor

/- Numbers that fit, all along a run. No walk. -/
namespace Go.Proofs.YtffokdldgdjkhaaDoor
open Go.RowKit
set_option linter.unusedVariables false

namespace T
/-- All numbers fit, and what waits goes somewhere. -/
structure Fit (M : Mach) : Prop where
  regs : ∀ k, k < M.ts.length → (M.th k).c.ok
  mem : MemFit M.mem
  goal : ∀ k, k < M.ts.length → ∀ p ∈ (M.th k).ws, (M.mem p.1).isSome = true

theorem insMem_some (M : Mach) (k : Nat) (y : Int) : (insMem M k y).isSome = (M.mem y).isSome := by
  unfold insMem
  split
  · unfold ansMem
    split
    · cases M.mem (insQ M k).a with
      | none => rfl
      | some x =>
        show (fullMem M k y).isSome = _
        unfold fullMem
        split
        · unfold leave
          cases (M.th k).ws with
          | nil => rfl
          | cons p r => exact upd_some _ _ _ _
        · rfl
    · split
      · cases M.mem (insQ M k).a with
        | none => rfl
        | some x => exact (upd_some _ _ _ _).trans (upds_some _ _ _)
      · split
        · cases M.mem (insQ M k).a with
          | none => rfl
          | some x => exact (upd_some _ _ _ _).trans (upds_some _ _ _)
        · split
          · exact upds_some _ _ _
          · rfl
  · rfl
theorem ld_fit {M : Mach} {k : Nat} (hm : MemFit M.mem) (hw : ∀ p ∈ (M.th k).ws, (Lit.int .i64 p.2).wf = true) (a : Int) : (Lit.int .i64 ((ld M k a).getD 0)).wf = true := by
  unfold ld
  cases h : newest (M.th k).ws a with
  | some n => exact newest_fit hw h
  | none =>
    cases h2 : M.mem a with
    | none => rfl
    | some n => exact hm a n h2
theorem ansN_fit {M : Mach} {k : Nat} (hm : MemFit M.mem) (hw : ∀ p ∈ (M.th k).ws, (Lit.int .i64 p.2).wf = true) (q : S.Q) : (Lit.int .i64 (ansN M k q)).wf = true := by
  unfold ansN
  split
  · exact ld_fit hm hw _
  · split
    · cases M.mem q.a with
      | none => rfl
      | some x =>
        show (Lit.int .i64 ((upds M.mem (M.th k).ws q.a).getD 0)).wf = true
        cases h : upds M.mem (M.th k).ws q.a with
        | none => rfl
        | some n => exact upds_fit _ hm hw q.a n h
    · rfl
theorem insMem_fit {M : Mach} {k : Nat} (hm : MemFit M.mem) (hw : ∀ p ∈ (M.th k).ws, (Lit.int .i64 p.2).wf = true) : MemFit (insMem M k) := by
  have hq := (insQ_wf M k).2
  unfold insMem
  split
  · unfold ansMem
    split
    · cases M.mem (insQ M k).a with
      | none => exact hm
      | some x =>
        show MemFit (fullMem M k)
        unfold fullMem
        split
        · unfold leave
          cases e : (M.th k).ws with
          | nil => exact hm
          | cons p r => exact upd_fit hm _ (hw p (by rw [e]; exact List.mem_cons_self))
        · exact hm
    · split
      · cases M.mem (insQ M k).a with
        | none => exact hm
        | some x => exact upd_fit (upds_fit _ hm hw) _ hq
      · split
        · cases M.mem (insQ M k).a with
          | none => exact hm
          | some x => exact upd_fit (upds_fit _ hm hw) _ (wrap64_wf _)
        · split
          · exact upds_fit _ hm hw
          · exact hm
  · exact hm
theorem insC_ok {M : Mach} {k : Nat} (hc : (M.th k).c.ok) (hm : MemFit M.mem) (hw : ∀ p ∈ (M.th k).ws, (Lit.int .i64 p.2).wf = true) : (insC M k).ok := by
  unfold insC
  split
  · split
    · refine S.fin_ok ?_ _ _ (ansN_fit hm hw _)
      exact S.startC_ok hc _ _ _ _ (I.dN_wf _)
    · exact S.trap_ok hc rfl rfl
  · exact S.trap_ok hc rfl rfl
theorem insW_goal {M : Mach} {k : Nat} (h : ∀ p ∈ (M.th k).ws, (M.mem p.1).isSome = true) : ∀ p ∈ insW M k, (M.mem p.1).isSome = true := by
  intro p hp
  rcases insW_eq M k with h1 | h1 | ⟨a, v, -, h2, h1⟩
  · rw [h1] at hp; exact h p hp
  · rw [h1] at hp; cases hp
  · rw [h1] at hp
    rcases List.mem_append.1 hp with hp | hp
    · split at hp
      · exact h p (List.mem_of_mem_tail hp)
      · exact h p hp
    · obtain rfl : p = (a, v) := by simpa using hp
      exact h2
theorem Fit.act {M : Mach} (h : Fit M) (hok : MOk M) (h0 : 0 < M.ts.length) (p : Int) : Fit (act M p) := by
  have hk := who_lt h0 p
  obtain ⟨k, hke⟩ : ∃ k, who M p = k := ⟨_, rfl⟩
  rw [hke] at hk
  have hset : ∀ (c : S.C) (ws : List Wait) (m : Memo) (es : List Ev), c.ok → MemFit m → (∀ y, (m y).isSome = (M.mem y).isSome) → (∀ p ∈ ws, (M.mem p.1).isSome = true) → Fit ⟨M.code, m, M.ts.set k ⟨c, ws⟩, es⟩ := fun c ws m es h1 h2 h3 h4 => by
    refine ⟨fun j hj => ?_, h2, fun j hj q hq => ?_⟩
    · simp only [List.length_set] at hj
      unfold Mach.th
      by_cases e : k = j
      · subst e
        simp only [List.getD, List.getElem?_set_self hk, Option.getD_some]
        exact h1
      · simp only [List.getD, List.getElem?_set_ne e]
        exact h.regs j hj
    · simp only [List.length_set] at hj
      unfold Mach.th at hq
      show (m q.1).isSome = true
      rw [h3]
      by_cases e : k = j
      · subst e
        simp only [List.getD, List.getElem?_set_self hk, Option.getD_some] at hq
        exact h4 q hq
      · simp only [List.getD, List.getElem?_set_ne e] at hq
        exact h.goal j hj q hq
  have hw : ∀ p ∈ (M.th k).ws, (Lit.int .i64 p.2).wf = true := fun q hq => ((hok k hk).1.2 q hq).2
  unfold T.act
  rw [hke]
  by_cases e : pk p % 2 = 0
  · rw [if_pos e]
    by_cases hs : (M.th k).c.st = 0
    · rw [goOn_eq hk hs]
      exact hset _ _ _ _ (insC_ok (h.regs k hk) h.mem hw) (insMem_fit h.mem hw) (insMem_some M k) (insW_goal (h.goal k hk))
    · rw [goOn_no hs]; exact h
  · rw [if_neg e]
    cases he : (M.th k).ws with
    | nil => rw [leave_no he]; exact h
    | cons q r =>
      rw [leave_eq he]
      rw [he] at hw
      have hg := h.goal k hk
      rw [he] at hg
      exact hset _ _ _ _ (h.regs k hk) (upd_fit h.mem _ (hw q List.mem_cons_self)) (upd_some _ _ _) (fun x hx => hg x (List.mem_cons_of_mem _ hx))
theorem Fit.runs : ∀ (l : List Int) {M : Mach}, Fit M → MOk M → 0 < M.ts.length → Fit (runs M l)
  | [], M, h, _, _ => h
  | p :: l, M, h, hok, h0 => Fit.runs l (M := T.act M p) (h.act hok h0 p) (hok.act h0 p) (by rw [act_len h0 p]; exact h0)
theorem er_ld {M : Mach} {k : Nat} (h : ∀ p ∈ (M.th k).ws, (M.mem p.1).isSome = true) (a : Int) : er (ld M k a) = er (M.mem a) := by
  unfold ld
  cases hn : newest (M.th k).ws a with
  | none => rfl
  | some n =>
    unfold newest at hn
    obtain ⟨p, hp, rfl⟩ := Option.map_eq_some_iff.1 hn
    have h1 := h p (List.mem_reverse.1 (List.mem_of_find?_eq_some hp))
    have h2 : p.1 = a := by simpa using List.find?_some hp
    rw [h2] at h1
    cases hm : M.mem a with
    | none => rw [hm] at h1; cases h1
    | some x => rfl
theorem mach0_fit {code : ByteArray} {data starts : List Int} (hd : ∀ n ∈ data, (Lit.int .i64 n).wf = true) (hs : starts.length ≤ 4) : Fit (mach0 code data starts) := by
  have key : ∀ (l : List Int) (i : Nat), i + l.length ≤ 1000 → ∀ x ∈ ths0 i l, x.c.ok ∧ x.ws = [] := by
    intro l
    induction l with
    | nil => intro i _ x hx; cases hx
    | cons a l ih =>
      intro i hi x hx
      rcases List.mem_cons.1 hx with rfl | hx
      · refine ⟨⟨⟨rfl, rfl, rfl, rfl⟩, ⟨rfl, rfl, rfl, ?_⟩, wrap64_wf _, rfl, rfl⟩, rfl⟩
        rw [wf_iff]
        simp only [List.length_cons] at hi
        show -9223372036854775808 ≤ 2097152 + 65536 * ((i : Int) + 1) ∧ 2097152 + 65536 * ((i : Int) + 1) ≤ 9223372036854775807
        omega
      · exact ih (i + 1) (by simp only [List.length_cons] at hi; omega) x hx
  have hth : ∀ k, k < (mach0 code data starts).ts.length → ((mach0 code data starts).th k).c.ok ∧ ((mach0 code data starts).th k).ws = [] := fun k hk => key starts 0 (by omega) _ (List.mem_of_getElem? (th_at hk))
  refine ⟨fun k hk => (hth k hk).1, ?_, fun k hk p hp => ?_⟩
  · intro x n hx
    unfold mach0 mem0 at hx
    simp only at hx
    split at hx
    · split at hx
      · cases hx
        rw [List.getD_eq_getElem?_getD]
        cases e : data[((x - 1048576) / 8).toNat]? with
        | none => rfl
        | some y => exact hd y (List.mem_of_getElem? e)
      · split at hx
        · cases hx; rfl
        · cases hx
    · cases hx
  · rw [(hth k hk).2] at hp; cases hp
end T

end Go.Proofs.YtffokdldgdjkhaaDoor

/- The document's machine: a load. (Written by gen_xask.py.) -/
namespace Go.Proofs.YtffokdldgdjkhaaDoor.X
open Go.RowKit Go.Maps
set_option linter.unusedVariables false
set_option linter.unusedSimpArgs false

theorem st_cell {t t' : Nat → Nat} {w w' : World} (h : St t t' w w') {p : Addr} {v : Value} (h0 : t p.block = 0) (hc : w.cell? p = some v) : w'.cell? p = some v := blk_cell (h.block p.block (World.block_lt_of_cell? w p hc) h0) hc

set_option maxRecDepth 100000 in
set_option maxHeartbeats 8000000 in
theorem xask_1 {B : Nat} {w : World} {b : Nat} {M : T.Mach} {t : Nat → Nat} {D Sk : List Int} {vd vs : Value} {g cap : Nat} {ev : Value} {us : List Value} (h : XV B w b M t D Sk vd vs g cap ev us) {k : Nat} (hk : k < M.ts.length) (hok : WsOk (M.th k).ws) (h8 : (M.th k).ws.length ≤ 8) {a v r : Int} (ha : (Lit.int .i64 a).wf = true) (hm : (M.mem a).isSome = true) :
    Calls Tryd.prog 41 #[.pointer (some ⟨b, 0, none⟩), .int .i64 k, S.reqV 1 a v r] w fun e w' => e = .returned (.bool true) ∧ XGone B w w' b (T.setC M k (S.finish (M.th k).c 1 r ((T.ld M k a).getD 0))) t vd vs g cap := by
  obtain ⟨X1, hX1⟩ : ∃ X1, w.alloc (.cells #[.int .i64 1, .int .i64 a, .int .i64 v, .int .i64 r] 96) = X1 := ⟨_, rfl⟩
  have hb1 : Below w.heap.size w X1 := by subst hX1; exact bl_one _ _
  have hs1 : w.heap.size < X1.heap.size := by subst hX1; simp
  have o0 : X1.cell? ⟨w.heap.size, 0, none⟩ = some (.int .i64 1) := by subst hX1; exact cell_last _ _ _ _ _ rfl rfl
  have o1 : X1.cell? ⟨w.heap.size, 1, none⟩ = some (.int .i64 a) := by subst hX1; exact cell_last _ _ _ _ _ rfl rfl
  have o2 : X1.cell? ⟨w.heap.size, 2, none⟩ = some (.int .i64 v) := by subst hX1; exact cell_last _ _ _ _ _ rfl rfl
  have o3 : X1.cell? ⟨w.heap.size, 3, none⟩ = some (.int .i64 r) := by subst hX1; exact cell_last _ _ _ _ _ rfl rfl
  have hv1 : XV B X1 b M t D Sk vd vs g cap ev us := h.below hb1
  have HTX : Hid (t w.heap.size = 0) := Classical.byContradiction fun e => by have := (h.lt _ e).2; omega
  have HB1 : Hid (Below w.heap.size w X1) := hb1
  have HV1 : Hid (XV B X1 b M t D Sk vd vs g cap ev us) := hv1
  have hro := hv1.room
  obtain ⟨n, hn⟩ : ∃ n, M.ts.length = n := ⟨_, rfl⟩
  have HTL : Hid (M.ts.length = n) := hn
  rw [hn] at hro
  obtain ⟨r1, r2, r3, r4⟩ := hro
  have hkn : k < n := by omega
  unfold maxLen at r2
  have i1 : (k : Int) < (n : Int) := by omega
  have i0 : (0 : Int) ≤ (k : Int) := by omega
  have HW : Hid _ := xword_any hv1 ha
  have HL : Hid _ := xload_any hv1 hk ha (by omega)
  rw [hm] at HL
  obtain ⟨nn, hnn⟩ : ∃ nn, (T.ld M k a).getD 0 = nn := ⟨_, rfl⟩
  obtain ⟨z1, hz1⟩ : ∃ z1, (M.mem a).getD 0 = z1 := ⟨_, rfl⟩
  obtain ⟨z2, hz2⟩ : ∃ z2, T.er (M.mem a) = z2 := ⟨_, rfl⟩
  rw [hnn] at HL
  rw [hz1, hz2] at HW
  rw [hnn]
  obtain ⟨uX1, huX1⟩ := hv1.u hk
  have d0 : X1.cell? ⟨g, k * 12, none⟩ = some (.int .i64 (M.th k).c.r0) := hv1.cell hk huX1 0 _ rfl
  have d1 : X1.cell? ⟨g, k * 12 + 1, none⟩ = some (.int .i64 (M.th k).c.r1) := hv1.cell hk huX1 1 _ rfl
  have d2 : X1.cell? ⟨g, k * 12 + 2, none⟩ = some (.int .i64 (M.th k).c.r2) := hv1.cell hk huX1 2 _ rfl
  have d3 : X1.cell? ⟨g, k * 12 + 3, none⟩ = some (.int .i64 (M.th k).c.r3) := hv1.cell hk huX1 3 _ rfl
  have d4 : X1.cell? ⟨g, k * 12 + 4, none⟩ = some (.int .i64 (M.th k).c.r4) := hv1.cell hk huX1 4 _ rfl
  have d5 : X1.cell? ⟨g, k * 12 + 5, none⟩ = some (.int .i64 (M.th k).c.r5) := hv1.cell hk huX1 5 _ rfl
  have d6 : X1.cell? ⟨g, k * 12 + 6, none⟩ = some (.int .i64 (M.th k).c.r6) := hv1.cell hk huX1 6 _ rfl
  have d7 : X1.cell? ⟨g, k * 12 + 7, none⟩ = some (.int .i64 (M.th k).c.r7) := hv1.cell hk huX1 7 _ rfl
  have d8 : X1.cell? ⟨g, k * 12 + 8, none⟩ = some (.int .i64 (M.th k).c.pc) := hv1.cell hk huX1 8 _ rfl
  have d9 : X1.cell? ⟨g, k * 12 + 9, none⟩ = some (.int .i64 (M.th k).c.st) := hv1.cell hk huX1 9 _ rfl
  have d10 : X1.cell? ⟨g, k * 12 + 10, none⟩ = some (.int .i64 (M.th k).c.tr) := hv1.cell hk huX1 10 _ rfl
  have HUY : Hid (us[k]? = some uX1) := huX1
  have HKY : Hid (k < M.ts.length) := hk
  have c3y := hv1.c3
  rw [hn] at c3y
  obtain ⟨cc, hcc⟩ : ∃ cc, (M.th k).c = cc := ⟨_, rfl⟩
  rw [hcc] at d0 d1 d2 d3 d4 d5 d6 d7 d8 d9 d10
  rw [hcc]
  obtain ⟨dd, hdd⟩ : ∃ dd, S.finish cc 1 r nn = dd := ⟨_, rfl⟩
  have hfin := rfinish_any cc 1 a v r nn X1.drew
  rw [hdd] at hfin
  rw [hdd]
  have HFIN : Hid _ := hfin
  have HLZ : Hid ((T.setC M k dd).ts.length = n) := (T.len_put M k _ _).trans hn
  have HX1 : Hid _ := hX1
  have HSX : Hid (St t t w X1) := St.ofBelow t hb1
  clear h hv1 hm hnn hz1 hz2 hfin hdd hcc hok h8 huX1 hn hk hb1
  go_enter Tryd.func41, Tryd.ntmps41
  go_wp2_with fail
  refine Calls.mono HW.out ?_
  rintro e y ⟨rfl, rfl⟩
  go_wp2_with fail
  refine Calls.mono HL.out ?_
  rintro e y2 ⟨rfl, rfl⟩
  go_wp2_with fail
  have HC3 : Hid (∀ z : World, Below y2.heap.size y2 z → z.cell? ⟨b, 3, none⟩ = some (.slice (some ⟨g, 0, none⟩) n cap)) := fun z hz => cell_up hz c3y
  refine wp_region_held_drew (S := (fun w' : World => w'.cell? ⟨b, 3, none⟩ = some (.slice (some ⟨g, 0, none⟩) n cap))) (by kernel_rfl) (HC3.out _ (Below.refl _ _).drew) (fun hHeld => ?_)
  refine tk (i := 0) (v := ?_) (tA rfl) (by kernel_rfl) (fun _ _ _ h => h) (Or.inl ⟨by rfl, ?_⟩) (by assumption) ?_
  rotate_left
  · (intro w hSw; (try dsimp only at hSw); go_simp <;> with_reducible rfl)
  simp only [Act.put, List.setIfInBounds_toArray, List.set_cons_zero, List.set_cons_succ]
  refine tk (i := 1) (v := ?_) (tA rfl) (by kernel_rfl) (fun _ _ _ h => h) (Or.inl ⟨by rfl, ?_⟩) (by assumption) ?_
  rotate_left
  · (intro w hSw; (try dsimp only at hSw); go_simp <;> with_reducible rfl)
  simp only [Act.put, List.setIfInBounds_toArray, List.set_cons_zero, List.set_cons_succ]
  refine tk (i := 2) (v := ?_) (tA rfl) (by kernel_rfl) (fun _ _ _ h => h) (Or.inl ⟨by rfl, ?_⟩) (by assumption) ?_
  rotate_left
  · (intro w hSw; (try dsimp only at hSw); go_simp <;> with_reducible rfl)
  simp only [Act.put, List.setIfInBounds_toArray, List.set_cons_zero, List.set_cons_succ]
  refine tk (i := 3) (v := ?_) (tA rfl) (by kernel_rfl) (fun _ _ _ h => h) (Or.inl ⟨by rfl, ?_⟩) (by assumption) ?_
  rotate_left
  · (intro w hSw; (try dsimp only at hSw); go_simp <;> with_reducible rfl)
  simp only [Act.put, List.setIfInBounds_toArray, List.set_cons_zero, List.set_cons_succ]
  refine tk (i := 4) (v := ?_) (tA rfl) (by kernel_rfl) (fun _ _ _ h => h) (Or.inl ⟨by rfl, ?_⟩) (by assumption) ?_
  rotate_left
  · (intro w hSw; (try dsimp only at hSw); go_simp <;> with_reducible rfl)
  simp only [Act.put, List.setIfInBounds_toArray, List.set_cons_zero, List.set_cons_succ]
  refine tk (i := 5) (v := ?_) (tA rfl) (by kernel_rfl) (fun _ _ _ h => h) (Or.inl ⟨by rfl, ?_⟩) (by assumption) ?_
  rotate_left
  · (intro w hSw; (try dsimp only at hSw); go_simp <;> with_reducible rfl)
  simp only [Act.put, List.setIfInBounds_toArray, List.set_cons_zero, List.set_cons_succ]
  refine tk (i := 6) (v := ?_) (tA rfl) (by kernel_rfl) (fun _ _ _ h => h) (Or.inl ⟨by rfl, ?_⟩) (by assumption) ?_
  rotate_left
  · (intro w hSw; (try dsimp only at hSw); go_simp <;> with_reducible rfl)
  simp only [Act.put, List.setIfInBounds_toArray, List.set_cons_zero, List.set_cons_succ]
  refine tk (i := 7) (v := ?_) (tA rfl) (by kernel_rfl) (fun _ _ _ h => h) (Or.inl ⟨by rfl, ?_⟩) (by assumption) ?_
  rotate_left
  · (intro w hSw; (try dsimp only at hSw); go_simp <;> with_reducible rfl)
  simp only [Act.put, List.setIfInBounds_toArray, List.set_cons_zero, List.set_cons_succ]
  refine tk (i := 8) (v := ?_) (tA rfl) (by kernel_rfl) (fun _ _ _ h => h) (Or.inl ⟨by rfl, ?_⟩) (by assumption) ?_
  rotate_left
  · (intro w hSw; (try dsimp only at hSw); go_simp <;> with_reducible rfl)
  simp only [Act.put, List.setIfInBounds_toArray, List.set_cons_zero, List.set_cons_succ]
  refine tk (i := 9) (v := ?_) (tA rfl) (by kernel_rfl) (fun _ _ _ h => h) (Or.inl ⟨by rfl, ?_⟩) (by assumption) ?_
  rotate_left
  · (intro w hSw; (try dsimp only at hSw); go_simp <;> with_reducible rfl)
  simp only [Act.put, List.setIfInBounds_toArray, List.set_cons_zero, List.set_cons_succ]
  refine tk (i := 10) (v := ?_) (tA rfl) (by kernel_rfl) (fun _ _ _ h => h) (Or.inl ⟨by rfl, ?_⟩) (by assumption) ?_
  rotate_left
  · (intro w hSw; (try dsimp only at hSw); go_simp <;> with_reducible rfl)
  simp only [Act.put, List.setIfInBounds_toArray, List.set_cons_zero, List.set_cons_succ]
  refine tk (i := 11) (v := ?_) (tA rfl) (by kernel_rfl) (fun _ _ _ h => h) (Or.inl ⟨by rfl, ?_⟩) (by assumption) ?_
  rotate_left
  · (intro w hSw; (try dsimp only at hSw); go_simp <;> with_reducible rfl)
  simp only [Act.put, List.setIfInBounds_toArray, List.set_cons_zero, List.set_cons_succ]
  refine tk (i := 14) (v := ?_) (tA rfl) (by kernel_rfl) (fun _ _ _ h => h) (Or.inl ⟨by rfl, ?_⟩) (by assumption) ?_
  rotate_left
  · (intro w hSw; (try dsimp only at hSw); go_simp <;> with_reducible rfl)
  simp only [Act.put, List.setIfInBounds_toArray, List.set_cons_zero, List.set_cons_succ]
  refine wpAnyH_ready (rs := [12, 13]) (by kernel_rfl) (by simp) ?_
  refine AllReadyH.cons (tA rfl) (fun K hK => ?_) (AllReadyH.cons (tA rfl) (fun K hK => ?_) AllReadyH.nil)
  · go_simp
    refine hK.out _ _ (HC3.out _ (Below.refl _ _).drew) (fun hHeld => ?_)
    clear hK K
    try simp only [Act.put, List.setIfInBounds_toArray, List.set_cons_zero, List.set_cons_succ]
    refine wpAnyH_ready (rs := [13]) (by kernel_rfl) (by simp) ?_
    refine AllReadyH.cons (tA rfl) (fun K hK => ?_) AllReadyH.nil
    go_simp
    refine hK.out _ _ (HC3.out _ (Below.refl _ _).drew) (fun hHeld => ?_)
    clear hK K
    try simp only [Act.put, List.setIfInBounds_toArray, List.set_cons_zero, List.set_cons_succ]
    refine wpAnyH_ready (rs := [15]) (by kernel_rfl) (by simp) ?_
    refine AllReadyH.cons (tA rfl) (fun K hK => ?_) AllReadyH.nil
    go_simp
    refine Calls.mono HFIN.out ?_
    rintro e z ⟨rfl, hbz⟩
    have hbz2 : Below y2.heap.size y2 z := (Below.refl _ _).drew.trans hbz
    have hvz := HV1.out.below hbz2
    have HSZ : Hid (St t _ w z) := HSX.out.trans (St.ofBelow _ hbz2)
    have HVZ : Hid (XV B z b _ _ _ _ vd vs g cap _ _) := hvz
    try go_wp2_with fail
    refine hK.out _ _ (HC3.out _ hbz2) (fun hHeld => ?_)
    clear hK K
    try simp only [Act.put, List.setIfInBounds_toArray, List.set_cons_zero, List.set_cons_succ]
    refine tk (i := 16) (v := ?_) (tA rfl) (by kernel_rfl) (fun _ _ _ h => h) (Or.inl ⟨by rfl, ?_⟩) (by assumption) ?_
    rotate_left
    · (intro w hSw; (try dsimp only at hSw); go_simp <;> with_reducible rfl)
    simp only [Act.put, List.setIfInBounds_toArray, List.set_cons_zero, List.set_cons_succ]
    refine tk (i := 17) (v := ?_) (tA rfl) (by kernel_rfl) (fun _ _ _ h => h) (Or.inl ⟨by rfl, ?_⟩) (by assumption) ?_
    rotate_left
    · (intro w hSw; (try dsimp only at hSw); go_simp <;> with_reducible rfl)
    simp only [Act.put, List.setIfInBounds_toArray, List.set_cons_zero, List.set_cons_succ]
    refine wpAnyH_ready (rs := [18]) (by kernel_rfl) (by simp) ?_
    refine AllReadyH.cons (tA rfl) (fun K hK => ?_) AllReadyH.nil
    clear hHeld HFIN
    have e0 : z.cell? ⟨g, k * 12, none⟩ = some (.int .i64 ((M).th k).c.r0) := hvz.cell HKY.out HUY.out 0 _ rfl
    have f0 := hvz.gz (k * 12)
    have e1 : z.cell? ⟨g, k * 12 + 1, none⟩ = some (.int .i64 ((M).th k).c.r1) := hvz.cell HKY.out HUY.out 1 _ rfl
    have f1 := hvz.gz (k * 12 + 1)
    have e2 : z.cell? ⟨g, k * 12 + 2, none⟩ = some (.int .i64 ((M).th k).c.r2) := hvz.cell HKY.out HUY.out 2 _ rfl
    have f2 := hvz.gz (k * 12 + 2)
    have e3 : z.cell? ⟨g, k * 12 + 3, none⟩ = some (.int .i64 ((M).th k).c.r3) := hvz.cell HKY.out HUY.out 3 _ rfl
    have f3 := hvz.gz (k * 12 + 3)
    have e4 : z.cell? ⟨g, k * 12 + 4, none⟩ = some (.int .i64 ((M).th k).c.r4) := hvz.cell HKY.out HUY.out 4 _ rfl
    have f4 := hvz.gz (k * 12 + 4)
    have e5 : z.cell? ⟨g, k * 12 + 5, none⟩ = some (.int .i64 ((M).th k).c.r5) := hvz.cell HKY.out HUY.out 5 _ rfl
    have f5 := hvz.gz (k * 12 + 5)
    have e6 : z.cell? ⟨g, k * 12 + 6, none⟩ = some (.int .i64 ((M).th k).c.r6) := hvz.cell HKY.out HUY.out 6 _ rfl
    have f6 := hvz.gz (k * 12 + 6)
    have e7 : z.cell? ⟨g, k * 12 + 7, none⟩ = some (.int .i64 ((M).th k).c.r7) := hvz.cell HKY.out HUY.out 7 _ rfl
    have f7 := hvz.gz (k * 12 + 7)
    have e8 : z.cell? ⟨g, k * 12 + 8, none⟩ = some (.int .i64 ((M).th k).c.pc) := hvz.cell HKY.out HUY.out 8 _ rfl
    have f8 := hvz.gz (k * 12 + 8)
    have e9 : z.cell? ⟨g, k * 12 + 9, none⟩ = some (.int .i64 ((M).th k).c.st) := hvz.cell HKY.out HUY.out 9 _ rfl
    have f9 := hvz.gz (k * 12 + 9)
    have e10 : z.cell? ⟨g, k * 12 + 10, none⟩ = some (.int .i64 ((M).th k).c.tr) := hvz.cell HKY.out HUY.out 10 _ rfl
    have f10 := hvz.gz (k * 12 + 10)
    clear hvz d0 d1 d2 d3 d4 d5 d6 d7 d8 d9 d10 o0 o1 o2 o3
    go_simp
    obtain ⟨HXX, HSS⟩ := HVZ.out.regs HKY.out rfl dd
    obtain ⟨ZZ, hZZ⟩ : ∃ ZZ, (((((((((((z.setCell ⟨g, k * 12, none⟩ (.int .i64 dd.r0)).setCell ⟨g, k * 12 + 1, none⟩ (.int .i64 dd.r1)).setCell ⟨g, k * 12 + 2, none⟩ (.int .i64 dd.r2)).setCell ⟨g, k * 12 + 3, none⟩ (.int .i64 dd.r3)).setCell ⟨g, k * 12 + 4, none⟩ (.int .i64 dd.r4)).setCell ⟨g, k * 12 + 5, none⟩ (.int .i64 dd.r5)).setCell ⟨g, k * 12 + 6, none⟩ (.int .i64 dd.r6)).setCell ⟨g, k * 12 + 7, none⟩ (.int .i64 dd.r7)).setCell ⟨g, k * 12 + 8, none⟩ (.int .i64 dd.pc)).setCell ⟨g, k * 12 + 9, none⟩ (.int .i64 dd.st)).setCell ⟨g, k * 12 + 10, none⟩ (.int .i64 dd.tr)) = ZZ := ⟨_, rfl⟩
    rw [hZZ] at HXX HSS
    rw [hZZ]
    have cZ : ZZ.cell? ⟨b, 3, none⟩ = some (.slice (some ⟨g, 0, none⟩) n cap) := by have h9 := HXX.c3; rw [HLZ.out] at h9; exact h9
    have HXZ : Hid _ := HXX
    have HSZ2 : Hid (St t _ w ZZ) := HSZ.out.trans HSS
    clear hZZ HXX HSS e0 f0 e1 f1 e2 f2 e3 f3 e4 f4 e5 f5 e6 f6 e7 f7 e8 f8 e9 f9 e10 f10
    refine hK.out _ _ cZ (fun hHeld => ?_)
    clear hK K
    try simp only [Act.put, List.setIfInBounds_toArray, List.set_cons_zero, List.set_cons_succ]
    refine wpAnyH_done (by kernel_rfl) ?_ _
    clear hHeld
    go_wp2
    go_ret
    exact ⟨rfl, _, _, _, _, _, HXZ.out, HSZ2.out⟩
  · go_simp
    refine hK.out _ _ (HC3.out _ (Below.refl _ _).drew) (fun hHeld => ?_)
    clear hK K
    try simp only [Act.put, List.setIfInBounds_toArray, List.set_cons_zero, List.set_cons_succ]
    refine wpAnyH_ready (rs := [12]) (by kernel_rfl) (by simp) ?_
    refine AllReadyH.cons (tA rfl) (fun K hK => ?_) AllReadyH.nil
    go_simp
    refine hK.out _ _ (HC3.out _ (Below.refl _ _).drew) (fun hHeld => ?_)
    clear hK K
    try simp only [Act.put, List.setIfInBounds_toArray, List.set_cons_zero, List.set_cons_succ]
    refine wpAnyH_ready (rs := [15]) (by kernel_rfl) (by simp) ?_
    refine AllReadyH.cons (tA rfl) (fun K hK => ?_) AllReadyH.nil
    go_simp
    refine Calls.mono HFIN.out ?_
    rintro e z ⟨rfl, hbz⟩
    have hbz2 : Below y2.heap.size y2 z := (Below.refl _ _).drew.trans hbz
    have hvz := HV1.out.below hbz2
    have HSZ : Hid (St t _ w z) := HSX.out.trans (St.ofBelow _ hbz2)
    have HVZ : Hid (XV B z b _ _ _ _ vd vs g cap _ _) := hvz
    try go_wp2_with fail
    refine hK.out _ _ (HC3.out _ hbz2) (fun hHeld => ?_)
    clear hK K
    try simp only [Act.put, List.setIfInBounds_toArray, List.set_cons_zero, List.set_cons_succ]
    refine tk (i := 16) (v := ?_) (tA rfl) (by kernel_rfl) (fun _ _ _ h => h) (Or.inl ⟨by rfl, ?_⟩) (by assumption) ?_
    rotate_left
    · (intro w hSw; (try dsimp only at hSw); go_simp <;> with_reducible rfl)
    simp only [Act.put, List.setIfInBounds_toArray, List.set_cons_zero, List.set_cons_succ]
    refine tk (i := 17) (v := ?_) (tA rfl) (by kernel_rfl) (fun _ _ _ h => h) (Or.inl ⟨by rfl, ?_⟩) (by assumption) ?_
    rotate_left
    · (intro w hSw; (try dsimp only at hSw); go_simp <;> with_reducible rfl)
    simp only [Act.put, List.setIfInBounds_toArray, List.set_cons_zero, List.set_cons_succ]
    refine wpAnyH_ready (rs := [18]) (by kernel_rfl) (by simp) ?_
    refine AllReadyH.cons (tA rfl) (fun K hK => ?_) AllReadyH.nil
    clear hHeld HFIN
    have e0 : z.cell? ⟨g, k * 12, none⟩ = some (.int .i64 ((M).th k).c.r0) := hvz.cell HKY.out HUY.out 0 _ rfl
    have f0 := hvz.gz (k * 12)
    have e1 : z.cell? ⟨g, k * 12 + 1, none⟩ = some (.int .i64 ((M).th k).c.r1) := hvz.cell HKY.out HUY.out 1 _ rfl
    have f1 := hvz.gz (k * 12 + 1)
    have e2 : z.cell? ⟨g, k * 12 + 2, none⟩ = some (.int .i64 ((M).th k).c.r2) := hvz.cell HKY.out HUY.out 2 _ rfl
    have f2 := hvz.gz (k * 12 + 2)
    have e3 : z.cell? ⟨g, k * 12 + 3, none⟩ = some (.int .i64 ((M).th k).c.r3) := hvz.cell HKY.out HUY.out 3 _ rfl
    have f3 := hvz.gz (k * 12 + 3)
    have e4 : z.cell? ⟨g, k * 12 + 4, none⟩ = some (.int .i64 ((M).th k).c.r4) := hvz.cell HKY.out HUY.out 4 _ rfl
    have f4 := hvz.gz (k * 12 + 4)
    have e5 : z.cell? ⟨g, k * 12 + 5, none⟩ = some (.int .i64 ((M).th k).c.r5) := hvz.cell HKY.out HUY.out 5 _ rfl
    have f5 := hvz.gz (k * 12 + 5)
    have e6 : z.cell? ⟨g, k * 12 + 6, none⟩ = some (.int .i64 ((M).th k).c.r6) := hvz.cell HKY.out HUY.out 6 _ rfl
    have f6 := hvz.gz (k * 12 + 6)
    have e7 : z.cell? ⟨g, k * 12 + 7, none⟩ = some (.int .i64 ((M).th k).c.r7) := hvz.cell HKY.out HUY.out 7 _ rfl
    have f7 := hvz.gz (k * 12 + 7)
    have e8 : z.cell? ⟨g, k * 12 + 8, none⟩ = some (.int .i64 ((M).th k).c.pc) := hvz.cell HKY.out HUY.out 8 _ rfl
    have f8 := hvz.gz (k * 12 + 8)
    have e9 : z.cell? ⟨g, k * 12 + 9, none⟩ = some (.int .i64 ((M).th k).c.st) := hvz.cell HKY.out HUY.out 9 _ rfl
    have f9 := hvz.gz (k * 12 + 9)
    have e10 : z.cell? ⟨g, k * 12 + 10, none⟩ = some (.int .i64 ((M).th k).c.tr) := hvz.cell HKY.out HUY.out 10 _ rfl
    have f10 := hvz.gz (k * 12 + 10)
    clear hvz d0 d1 d2 d3 d4 d5 d6 d7 d8 d9 d10 o0 o1 o2 o3
    go_simp
    obtain ⟨HXX, HSS⟩ := HVZ.out.regs HKY.out rfl dd
    obtain ⟨ZZ, hZZ⟩ : ∃ ZZ, (((((((((((z.setCell ⟨g, k * 12, none⟩ (.int .i64 dd.r0)).setCell ⟨g, k * 12 + 1, none⟩ (.int .i64 dd.r1)).setCell ⟨g, k * 12 + 2, none⟩ (.int .i64 dd.r2)).setCell ⟨g, k * 12 + 3, none⟩ (.int .i64 dd.r3)).setCell ⟨g, k * 12 + 4, none⟩ (.int .i64 dd.r4)).setCell ⟨g, k * 12 + 5, none⟩ (.int .i64 dd.r5)).setCell ⟨g, k * 12 + 6, none⟩ (.int .i64 dd.r6)).setCell ⟨g, k * 12 + 7, none⟩ (.int .i64 dd.r7)).setCell ⟨g, k * 12 + 8, none⟩ (.int .i64 dd.pc)).setCell ⟨g, k * 12 + 9, none⟩ (.int .i64 dd.st)).setCell ⟨g, k * 12 + 10, none⟩ (.int .i64 dd.tr)) = ZZ := ⟨_, rfl⟩
    rw [hZZ] at HXX HSS
    rw [hZZ]
    have cZ : ZZ.cell? ⟨b, 3, none⟩ = some (.slice (some ⟨g, 0, none⟩) n cap) := by have h9 := HXX.c3; rw [HLZ.out] at h9; exact h9
    have HXZ : Hid _ := HXX
    have HSZ2 : Hid (St t _ w ZZ) := HSZ.out.trans HSS
    clear hZZ HXX HSS e0 f0 e1 f1 e2 f2 e3 f3 e4 f4 e5 f5 e6 f6 e7 f7 e8 f8 e9 f9 e10 f10
    refine hK.out _ _ cZ (fun hHeld => ?_)
    clear hK K
    try simp only [Act.put, List.setIfInBounds_toArray, List.set_cons_zero, List.set_cons_succ]
    refine wpAnyH_done (by kernel_rfl) ?_ _
    clear hHeld
    go_wp2
    go_ret
    exact ⟨rfl, _, _, _, _, _, HXZ.out, HSZ2.out⟩

end Go.Proofs.YtffokdldgdjkhaaDoor.X

/- The document's machine: a store, a fence, a print; what cannot be. (Written by gen_xask.py.) -/
namespace Go.Proofs.YtffokdldgdjkhaaDoor.X
open Go.RowKit Go.Maps
set_option linter.unusedVariables false
set_option linter.unusedSimpArgs false

set_option maxRecDepth 100000 in
set_option maxHeartbeats 8000000 in
theorem xask_no1 {B : Nat} {w : World} {b : Nat} {M : T.Mach} {t : Nat → Nat} {D Sk : List Int} {vd vs : Value} {g cap : Nat} {ev : Value} {us : List Value} (h : XV B w b M t D Sk vd vs g cap ev us) {k : Nat} (hk : k < M.ts.length) (hok : WsOk (M.th k).ws) (h8 : (M.th k).ws.length ≤ 8) {a v r : Int} (ha : (Lit.int .i64 a).wf = true) (hm : M.mem a = none) :
    Calls Tryd.prog 41 #[.pointer (some ⟨b, 0, none⟩), .int .i64 k, S.reqV 1 a v r] w fun e w' => e = .returned (.bool false) ∧ XGone B w w' b (M) t vd vs g cap := by
  obtain ⟨X1, hX1⟩ : ∃ X1, w.alloc (.cells #[.int .i64 1, .int .i64 a, .int .i64 v, .int .i64 r] 96) = X1 := ⟨_, rfl⟩
  have hb1 : Below w.heap.size w X1 := by subst hX1; exact bl_one _ _
  have hs1 : w.heap.size < X1.heap.size := by subst hX1; simp
  have o0 : X1.cell? ⟨w.heap.size, 0, none⟩ = some (.int .i64 1) := by subst hX1; exact cell_last _ _ _ _ _ rfl rfl
  have o1 : X1.cell? ⟨w.heap.size, 1, none⟩ = some (.int .i64 a) := by subst hX1; exact cell_last _ _ _ _ _ rfl rfl
  have o2 : X1.cell? ⟨w.heap.size, 2, none⟩ = some (.int .i64 v) := by subst hX1; exact cell_last _ _ _ _ _ rfl rfl
  have o3 : X1.cell? ⟨w.heap.size, 3, none⟩ = some (.int .i64 r) := by subst hX1; exact cell_last _ _ _ _ _ rfl rfl
  have hv1 : XV B X1 b M t D Sk vd vs g cap ev us := h.below hb1
  have HTX : Hid (t w.heap.size = 0) := Classical.byContradiction fun e => by have := (h.lt _ e).2; omega
  have HB1 : Hid (Below w.heap.size w X1) := hb1
  have HV1 : Hid (XV B X1 b M t D Sk vd vs g cap ev us) := hv1
  have hro := hv1.room
  obtain ⟨n, hn⟩ : ∃ n, M.ts.length = n := ⟨_, rfl⟩
  have HTL : Hid (M.ts.length = n) := hn
  rw [hn] at hro
  obtain ⟨r1, r2, r3, r4⟩ := hro
  have hkn : k < n := by omega
  unfold maxLen at r2
  have i1 : (k : Int) < (n : Int) := by omega
  have i0 : (0 : Int) ≤ (k : Int) := by omega
  have HW : Hid _ := xword_any hv1 ha
  rw [hm] at HW
  have HL : Hid _ := xload_any hv1 hk ha (by omega)
  rw [hm] at HL
  obtain ⟨nn, hnn⟩ : ∃ nn, (T.ld M k a).getD 0 = nn := ⟨_, rfl⟩
  rw [hnn] at HL
  clear hnn
  have HX1 : Hid _ := hX1
  have HSX : Hid (St t t w X1) := St.ofBelow t hb1
  clear h hv1 hm hok h8 hn hk hb1
  go_enter Tryd.func41, Tryd.ntmps41
  go_wp2_with fail
  refine Calls.mono HW.out ?_
  rintro e y ⟨rfl, rfl⟩
  go_wp2_with fail
  refine Calls.mono HL.out ?_
  rintro e y2 ⟨rfl, rfl⟩
  go_wp2
  go_ret
  exact ⟨rfl, _, _, _, _, _, HV1.out, HSX.out⟩

set_option maxRecDepth 100000 in
set_option maxHeartbeats 8000000 in
theorem xask_no2 {B : Nat} {w : World} {b : Nat} {M : T.Mach} {t : Nat → Nat} {D Sk : List Int} {vd vs : Value} {g cap : Nat} {ev : Value} {us : List Value} (h : XV B w b M t D Sk vd vs g cap ev us) {k : Nat} (hk : k < M.ts.length) (hok : WsOk (M.th k).ws) (h8 : (M.th k).ws.length ≤ 8) {a v r : Int} (ha : (Lit.int .i64 a).wf = true) (hm : M.mem a = none) :
    Calls Tryd.prog 41 #[.pointer (some ⟨b, 0, none⟩), .int .i64 k, S.reqV 2 a v r] w fun e w' => e = .returned (.bool false) ∧ XGone B w w' b (M) t vd vs g cap := by
  obtain ⟨X1, hX1⟩ : ∃ X1, w.alloc (.cells #[.int .i64 2, .int .i64 a, .int .i64 v, .int .i64 r] 96) = X1 := ⟨_, rfl⟩
  have hb1 : Below w.heap.size w X1 := by subst hX1; exact bl_one _ _
  have hs1 : w.heap.size < X1.heap.size := by subst hX1; simp
  have o0 : X1.cell? ⟨w.heap.size, 0, none⟩ = some (.int .i64 2) := by subst hX1; exact cell_last _ _ _ _ _ rfl rfl
  have o1 : X1.cell? ⟨w.heap.size, 1, none⟩ = some (.int .i64 a) := by subst hX1; exact cell_last _ _ _ _ _ rfl rfl
  have o2 : X1.cell? ⟨w.heap.size, 2, none⟩ = some (.int .i64 v) := by subst hX1; exact cell_last _ _ _ _ _ rfl rfl
  have o3 : X1.cell? ⟨w.heap.size, 3, none⟩ = some (.int .i64 r) := by subst hX1; exact cell_last _ _ _ _ _ rfl rfl
  have hv1 : XV B X1 b M t D Sk vd vs g cap ev us := h.below hb1
  have HTX : Hid (t w.heap.size = 0) := Classical.byContradiction fun e => by have := (h.lt _ e).2; omega
  have HB1 : Hid (Below w.heap.size w X1) := hb1
  have HV1 : Hid (XV B X1 b M t D Sk vd vs g cap ev us) := hv1
  have hro := hv1.room
  obtain ⟨n, hn⟩ : ∃ n, M.ts.length = n := ⟨_, rfl⟩
  have HTL : Hid (M.ts.length = n) := hn
  rw [hn] at hro
  obtain ⟨r1, r2, r3, r4⟩ := hro
  have hkn : k < n := by omega
  unfold maxLen at r2
  have i1 : (k : Int) < (n : Int) := by omega
  have i0 : (0 : Int) ≤ (k : Int) := by omega
  have HW : Hid _ := xword_any hv1 ha
  rw [hm] at HW
  have HX1 : Hid _ := hX1
  have HSX : Hid (St t t w X1) := St.ofBelow t hb1
  clear h hv1 hm hok h8 hn hk hb1
  go_enter Tryd.func41, Tryd.ntmps41
  go_wp2_with fail
  refine Calls.mono HW.out ?_
  rintro e y ⟨rfl, rfl⟩
  go_wp2
  go_ret
  exact ⟨rfl, _, _, _, _, _, HV1.out, HSX.out⟩

set_option maxRecDepth 100000 in
set_option maxHeartbeats 8000000 in
theorem xask_no3 {B : Nat} {w : World} {b : Nat} {M : T.Mach} {t : Nat → Nat} {D Sk : List Int} {vd vs : Value} {g cap : Nat} {ev : Value} {us : List Value} (h : XV B w b M t D Sk vd vs g cap ev us) {k : Nat} (hk : k < M.ts.length) (hok : WsOk (M.th k).ws) (h8 : (M.th k).ws.length ≤ 8) {a v r : Int} (ha : (Lit.int .i64 a).wf = true) (hm : M.mem a = none) :
    Calls Tryd.prog 41 #[.pointer (some ⟨b, 0, none⟩), .int .i64 k, S.reqV 3 a v r] w fun e w' => e = .returned (.bool false) ∧ XGone B w w' b (M) t vd vs g cap := by
  obtain ⟨X1, hX1⟩ : ∃ X1, w.alloc (.cells #[.int .i64 3, .int .i64 a, .int .i64 v, .int .i64 r] 96) = X1 := ⟨_, rfl⟩
  have hb1 : Below w.heap.size w X1 := by subst hX1; exact bl_one _ _
  have hs1 : w.heap.size < X1.heap.size := by subst hX1; simp
  have o0 : X1.cell? ⟨w.heap.size, 0, none⟩ = some (.int .i64 3) := by subst hX1; exact cell_last _ _ _ _ _ rfl rfl
  have o1 : X1.cell? ⟨w.heap.size, 1, none⟩ = some (.int .i64 a) := by subst hX1; exact cell_last _ _ _ _ _ rfl rfl
  have o2 : X1.cell? ⟨w.heap.size, 2, none⟩ = some (.int .i64 v) := by subst hX1; exact cell_last _ _ _ _ _ rfl rfl
  have o3 : X1.cell? ⟨w.heap.size, 3, none⟩ = some (.int .i64 r) := by subst hX1; exact cell_last _ _ _ _ _ rfl rfl
  have hv1 : XV B X1 b M t D Sk vd vs g cap ev us := h.below hb1
  have HTX : Hid (t w.heap.size = 0) := Classical.byContradiction fun e => by have := (h.lt _ e).2; omega
  have HB1 : Hid (Below w.heap.size w X1) := hb1
  have HV1 : Hid (XV B X1 b M t D Sk vd vs g cap ev us) := hv1
  have hro := hv1.room
  obtain ⟨n, hn⟩ : ∃ n, M.ts.length = n := ⟨_, rfl⟩
  have HTL : Hid (M.ts.length = n) := hn
  rw [hn] at hro
  obtain ⟨r1, r2, r3, r4⟩ := hro
  have hkn : k < n := by omega
  unfold maxLen at r2
  have i1 : (k : Int) < (n : Int) := by omega
  have i0 : (0 : Int) ≤ (k : Int) := by omega
  have HW : Hid _ := xword_any hv1 ha
  rw [hm] at HW
  have HX1 : Hid _ := hX1
  have HSX : Hid (St t t w X1) := St.ofBelow t hb1
  clear h hv1 hm hok h8 hn hk hb1
  go_enter Tryd.func41, Tryd.ntmps41
  go_wp2_with fail
  refine Calls.mono HW.out ?_
  rintro e y ⟨rfl, rfl⟩
  go_wp2
  go_ret
  exact ⟨rfl, _, _, _, _, _, HV1.out, HSX.out⟩

set_option maxRecDepth 100000 in
set_option maxHeartbeats 8000000 in
theorem xask_no4 {B : Nat} {w : World} {b : Nat} {M : T.Mach} {t : Nat → Nat} {D Sk : List Int} {vd vs : Value} {g cap : Nat} {ev : Value} {us : List Value} (h : XV B w b M t D Sk vd vs g cap ev us) {k : Nat} (hk : k < M.ts.length) (hok : WsOk (M.th k).ws) (h8 : (M.th k).ws.length ≤ 8) {a v r : Int} (ha : (Lit.int .i64 a).wf = true) (hm : M.mem a = none) :
    Calls Tryd.prog 41 #[.pointer (some ⟨b, 0, none⟩), .int .i64 k, S.reqV 4 a v r] w fun e w' => e = .returned (.bool false) ∧ XGone B w w' b (M) t vd vs g cap := by
  obtain ⟨X1, hX1⟩ : ∃ X1, w.alloc (.cells #[.int .i64 4, .int .i64 a, .int .i64 v, .int .i64 r] 96) = X1 := ⟨_, rfl⟩
  have hb1 : Below w.heap.size w X1 := by subst hX1; exact bl_one _ _
  have hs1 : w.heap.size < X1.heap.size := by subst hX1; simp
  have o0 : X1.cell? ⟨w.heap.size, 0, none⟩ = some (.int .i64 4) := by subst hX1; exact cell_last _ _ _ _ _ rfl rfl
  have o1 : X1.cell? ⟨w.heap.size, 1, none⟩ = some (.int .i64 a) := by subst hX1; exact cell_last _ _ _ _ _ rfl rfl
  have o2 : X1.cell? ⟨w.heap.size, 2, none⟩ = some (.int .i64 v) := by subst hX1; exact cell_last _ _ _ _ _ rfl rfl
  have o3 : X1.cell? ⟨w.heap.size, 3, none⟩ = some (.int .i64 r) := by subst hX1; exact cell_last _ _ _ _ _ rfl rfl
  have hv1 : XV B X1 b M t D Sk vd vs g cap ev us := h.below hb1
  have HTX : Hid (t w.heap.size = 0) := Classical.byContradiction fun e => by have := (h.lt _ e).2; omega
  have HB1 : Hid (Below w.heap.size w X1) := hb1
  have HV1 : Hid (XV B X1 b M t D Sk vd vs g cap ev us) := hv1
  have hro := hv1.room
  obtain ⟨n, hn⟩ : ∃ n, M.ts.length = n := ⟨_, rfl⟩
  have HTL : Hid (M.ts.length = n) := hn
  rw [hn] at hro
  obtain ⟨r1, r2, r3, r4⟩ := hro
  have hkn : k < n := by omega
  unfold maxLen at r2
  have i1 : (k : Int) < (n : Int) := by omega
  have i0 : (0 : Int) ≤ (k : Int) := by omega
  have HW : Hid _ := xword_any hv1 ha
  rw [hm] at HW
  have HX1 : Hid _ := hX1
  have HSX : Hid (St t t w X1) := St.ofBelow t hb1
  clear h hv1 hm hok h8 hn hk hb1
  go_enter Tryd.func41, Tryd.ntmps41
  go_wp2_with fail
  refine Calls.mono HW.out ?_
  rintro e y ⟨rfl, rfl⟩
  go_wp2
  go_ret
  exact ⟨rfl, _, _, _, _, _, HV1.out, HSX.out⟩

set_option maxRecDepth 100000 in
set_option maxHeartbeats 8000000 in
theorem xask_0 {B : Nat} {w : World} {b : Nat} {M : T.Mach} {t : Nat → Nat} {D Sk : List Int} {vd vs : Value} {g cap : Nat} {ev : Value} {us : List Value} (h : XV B w b M t D Sk vd vs g cap ev us) {k : Nat} (hk : k < M.ts.length) (hok : WsOk (M.th k).ws) (h8 : (M.th k).ws.length ≤ 8) {a v r : Int} (ha : (Lit.int .i64 a).wf = true) {K : Int} (hK : K < 1 ∨ 6 < K) :
    Calls Tryd.prog 41 #[.pointer (some ⟨b, 0, none⟩), .int .i64 k, S.reqV K a v r] w fun e w' => e = .returned (.bool true) ∧ XGone B w w' b (M) t vd vs g cap := by
  obtain ⟨X1, hX1⟩ : ∃ X1, w.alloc (.cells #[.int .i64 K, .int .i64 a, .int .i64 v, .int .i64 r] 96) = X1 := ⟨_, rfl⟩
  have hb1 : Below w.heap.size w X1 := by subst hX1; exact bl_one _ _
  have hs1 : w.heap.size < X1.heap.size := by subst hX1; simp
  have o0 : X1.cell? ⟨w.heap.size, 0, none⟩ = some (.int .i64 K) := by subst hX1; exact cell_last _ _ _ _ _ rfl rfl
  have o1 : X1.cell? ⟨w.heap.size, 1, none⟩ = some (.int .i64 a) := by subst hX1; exact cell_last _ _ _ _ _ rfl rfl
  have o2 : X1.cell? ⟨w.heap.size, 2, none⟩ = some (.int .i64 v) := by subst hX1; exact cell_last _ _ _ _ _ rfl rfl
  have o3 : X1.cell? ⟨w.heap.size, 3, none⟩ = some (.int .i64 r) := by subst hX1; exact cell_last _ _ _ _ _ rfl rfl
  have hv1 : XV B X1 b M t D Sk vd vs g cap ev us := h.below hb1
  have HTX : Hid (t w.heap.size = 0) := Classical.byContradiction fun e => by have := (h.lt _ e).2; omega
  have HB1 : Hid (Below w.heap.size w X1) := hb1
  have HV1 : Hid (XV B X1 b M t D Sk vd vs g cap ev us) := hv1
  have hro := hv1.room
  obtain ⟨n, hn⟩ : ∃ n, M.ts.length = n := ⟨_, rfl⟩
  have HTL : Hid (M.ts.length = n) := hn
  rw [hn] at hro
  obtain ⟨r1, r2, r3, r4⟩ := hro
  have hkn : k < n := by omega
  unfold maxLen at r2
  have i1 : (k : Int) < (n : Int) := by omega
  have i0 : (0 : Int) ≤ (k : Int) := by omega
  have HW : Hid _ := xword_any hv1 ha
  obtain ⟨z1, hz1⟩ : ∃ z1, (M.mem a).getD 0 = z1 := ⟨_, rfl⟩
  obtain ⟨z2, hz2⟩ : ∃ z2, T.er (M.mem a) = z2 := ⟨_, rfl⟩
  rw [hz1, hz2] at HW
  have HX1 : Hid _ := hX1
  have HSX : Hid (St t t w X1) := St.ofBelow t hb1
  have k1 : ¬ K = 1 := by omega
  have k2 : ¬ K = 2 := by omega
  have k3 : ¬ K = 3 := by omega
  have k4 : ¬ K = 4 := by omega
  have k5 : ¬ K = 5 := by omega
  have k6 : ¬ K = 6 := by omega
  clear h hv1 hok h8 hn hk hb1 hK hz1 hz2
  go_enter Tryd.func41, Tryd.ntmps41
  go_wp2_with fail
  refine Calls.mono HW.out ?_
  rintro e y ⟨rfl, rfl⟩
  go_wp2
  go_ret
  exact ⟨rfl, _, _, _, _, _, HV1.out, HSX.out⟩

set_option maxRecDepth 100000 in
set_option maxHeartbeats 8000000 in
theorem xask_5 {B : Nat} {w : World} {b : Nat} {M : T.Mach} {t : Nat → Nat} {D Sk : List Int} {vd vs : Value} {g cap : Nat} {ev : Value} {us : List Value} (h : XV B w b M t D Sk vd vs g cap ev us) {k : Nat} (hk : k < M.ts.length) (hok : WsOk (M.th k).ws) (h8 : (M.th k).ws.length ≤ 8) {a v r : Int} (ha : (Lit.int .i64 a).wf = true) :
    Calls Tryd.prog 41 #[.pointer (some ⟨b, 0, none⟩), .int .i64 k, S.reqV 5 a v r] w fun e w' => e = .returned (.bool true) ∧ XGone B w w' b (T.drain M k) t vd vs g cap := by
  obtain ⟨X1, hX1⟩ : ∃ X1, w.alloc (.cells #[.int .i64 5, .int .i64 a, .int .i64 v, .int .i64 r] 96) = X1 := ⟨_, rfl⟩
  have hb1 : Below w.heap.size w X1 := by subst hX1; exact bl_one _ _
  have hs1 : w.heap.size < X1.heap.size := by subst hX1; simp
  have o0 : X1.cell? ⟨w.heap.size, 0, none⟩ = some (.int .i64 5) := by subst hX1; exact cell_last _ _ _ _ _ rfl rfl
  have o1 : X1.cell? ⟨w.heap.size, 1, none⟩ = some (.int .i64 a) := by subst hX1; exact cell_last _ _ _ _ _ rfl rfl
  have o2 : X1.cell? ⟨w.heap.size, 2, none⟩ = some (.int .i64 v) := by subst hX1; exact cell_last _ _ _ _ _ rfl rfl
  have o3 : X1.cell? ⟨w.heap.size, 3, none⟩ = some (.int .i64 r) := by subst hX1; exact cell_last _ _ _ _ _ rfl rfl
  have hv1 : XV B X1 b M t D Sk vd vs g cap ev us := h.below hb1
  have HTX : Hid (t w.heap.size = 0) := Classical.byContradiction fun e => by have := (h.lt _ e).2; omega
  have HB1 : Hid (Below w.heap.size w X1) := hb1
  have HV1 : Hid (XV B X1 b M t D Sk vd vs g cap ev us) := hv1
  have hro := hv1.room
  obtain ⟨n, hn⟩ : ∃ n, M.ts.length = n := ⟨_, rfl⟩
  have HTL : Hid (M.ts.length = n) := hn
  rw [hn] at hro
  obtain ⟨r1, r2, r3, r4⟩ := hro
  have hkn : k < n := by omega
  unfold maxLen at r2
  have i1 : (k : Int) < (n : Int) := by omega
  have i0 : (0 : Int) ≤ (k : Int) := by omega
  have HW : Hid _ := xword_any hv1 ha
  obtain ⟨z1, hz1⟩ : ∃ z1, (M.mem a).getD 0 = z1 := ⟨_, rfl⟩
  obtain ⟨z2, hz2⟩ : ∃ z2, T.er (M.mem a) = z2 := ⟨_, rfl⟩
  rw [hz1, hz2] at HW
  have HX1 : Hid _ := hX1
  have HSX : Hid (St t t w X1) := St.ofBelow t hb1
  have HD : Hid _ := xdrain_any hv1 hk hok
  clear h hv1 hok h8 hn hk hb1 hz1 hz2
  go_enter Tryd.func41, Tryd.ntmps41
  go_wp2_with fail
  refine Calls.mono HW.out ?_
  rintro e y ⟨rfl, rfl⟩
  go_wp2_with fail
  refine Calls.mono HD.out ?_
  rintro e y2 ⟨rfl, hg2⟩
  have HG : Hid (XGone B w y2 b (T.drain M k) t vd vs g cap) := by
    obtain ⟨t2, D2, S2, ev2, us2, p1, p2⟩ := hg2
    exact ⟨t2, D2, S2, ev2, us2, p1, HSX.out.trans p2⟩
  clear hg2
  go_wp2
  go_ret
  exact ⟨rfl, HG.out⟩

set_option maxRecDepth 100000 in
set_option maxHeartbeats 8000000 in
theorem xask_6 {B : Nat} {w : World} {b : Nat} {M : T.Mach} {t : Nat → Nat} {D Sk : List Int} {vd vs : Value} {g cap : Nat} {ev : Value} {us : List Value} (h : XV B w b M t D Sk vd vs g cap ev us) {k : Nat} (hk : k < M.ts.length) (hok : WsOk (M.th k).ws) (h8 : (M.th k).ws.length ≤ 8) {a v r : Int} (ha : (Lit.int .i64 a).wf = true) (hes : M.es.length ≤ 1000000) :
    Calls Tryd.prog 41 #[.pointer (some ⟨b, 0, none⟩), .int .i64 k, S.reqV 6 a v r] w fun e w' => e = .returned (.bool true) ∧ XGone B w w' b (M.see k 1 v) t vd vs g cap := by
  obtain ⟨X1, hX1⟩ : ∃ X1, w.alloc (.cells #[.int .i64 6, .int .i64 a, .int .i64 v, .int .i64 r] 96) = X1 := ⟨_, rfl⟩
  have hb1 : Below w.heap.size w X1 := by subst hX1; exact bl_one _ _
  have hs1 : w.heap.size < X1.heap.size := by subst hX1; simp
  have o0 : X1.cell? ⟨w.heap.size, 0, none⟩ = some (.int .i64 6) := by subst hX1; exact cell_last _ _ _ _ _ rfl rfl
  have o1 : X1.cell? ⟨w.heap.size, 1, none⟩ = some (.int .i64 a) := by subst hX1; exact cell_last _ _ _ _ _ rfl rfl
  have o2 : X1.cell? ⟨w.heap.size, 2, none⟩ = some (.int .i64 v) := by subst hX1; exact cell_last _ _ _ _ _ rfl rfl
  have o3 : X1.cell? ⟨w.heap.size, 3, none⟩ = some (.int .i64 r) := by subst hX1; exact cell_last _ _ _ _ _ rfl rfl
  have hv1 : XV B X1 b M t D Sk vd vs g cap ev us := h.below hb1
  have HTX : Hid (t w.heap.size = 0) := Classical.byContradiction fun e => by have := (h.lt _ e).2; omega
  have HB1 : Hid (Below w.heap.size w X1) := hb1
  have HV1 : Hid (XV B X1 b M t D Sk vd vs g cap ev us) := hv1
  have hro := hv1.room
  obtain ⟨n, hn⟩ : ∃ n, M.ts.length = n := ⟨_, rfl⟩
  have HTL : Hid (M.ts.length = n) := hn
  rw [hn] at hro
  obtain ⟨r1, r2, r3, r4⟩ := hro
  have hkn : k < n := by omega
  unfold maxLen at r2
  have i1 : (k : Int) < (n : Int) := by omega
  have i0 : (0 : Int) ≤ (k : Int) := by omega
  have HW : Hid _ := xword_any hv1 ha
  obtain ⟨z1, hz1⟩ : ∃ z1, (M.mem a).getD 0 = z1 := ⟨_, rfl⟩
  obtain ⟨z2, hz2⟩ : ∃ z2, T.er (M.mem a) = z2 := ⟨_, rfl⟩
  rw [hz1, hz2] at HW
  have HX1 : Hid _ := hX1
  have HSX : Hid (St t t w X1) := St.ofBelow t hb1
  obtain ⟨iw, hiw, hp0, hp1, hp2⟩ := info_partsL infoE
  have d1 := hv1.c4
  have hr1 := hv1.evs
  have hg1 := hv1.fz 4
  have hty : b < X1.heap.size := hv1.bl
  obtain ⟨a1, p1, hev, hnp, hpm⟩ := own_sl hr1
  obtain ⟨m1, hm1⟩ : ∃ m1, M.es.length = m1 := ⟨_, rfl⟩
  rw [hm1] at hev hnp hr1 hes
  have HEV : Hid (ev = .slice a1 m1 p1) := hev
  have HM1 : Hid (M.es.length = m1) := hm1
  have hvb : (Value.slice a1 m1 p1).ownBlock ≠ some b := fun e => by have e1 := hv1.te b (by rw [hev]; exact e); have e2 := hv1.tb; omega
  have hvx : (Value.slice a1 m1 p1).ownBlock ≠ some w.heap.size := fun e => by have e1 := hv1.te w.heap.size (by rw [hev]; exact e); have e2 := HTX.out; omega
  have hBy := hv1.hB
  rw [hev] at d1 hr1
  unfold maxLen at hpm
  clear h hv1 hok h8 hn hk hb1 hz1 hz2 hev hm1
  go_enter Tryd.func41, Tryd.ntmps41
  go_wp2_with fail
  refine Calls.mono HW.out ?_
  rintro e y ⟨rfl, rfl⟩
  go_wp2_with fail
  have HB1 : Hid (Below y.heap.size y (y.alloc (.cells #[.int .i64 (k : Int), .int .i64 1, .int .i64 v] 101)).drew) := (bl_one _ _).drew
  have HW1 : Hid ((y.alloc (.cells #[.int .i64 (k : Int), .int .i64 1, .int .i64 v] 101)).drew.ownsRow B 101 3 (.slice a1 m1 p1) m1 ((M).es.flatMap eC)) := hr1.kept (gb_of_below HB1.out (some y.heap.size)) (.inr fun e => by have := own_lt hr1 e; omega)
  have HNC : Hid (∀ j u, (eC ((k : Int), 1, v))[j]? = some u → (y.alloc (.cells #[.int .i64 (k : Int), .int .i64 1, .int .i64 v] 101)).drew.cell? ((⟨y.heap.size, 0, none⟩ : Addr).add j) = some u) := fun j u hu => by
    rw [Addr.add_lit, Nat.zero_add]
    exact cell_last _ _ _ _ _ rfl (by simpa [eC] using hu)
  have HSK : Hid (∀ z : World, Below y.heap.size y z → (fun w' : World => w'.cell? ⟨w.heap.size, 2, none⟩ = some (.int .i64 v)) z) := fun z hz => cell_up hz o2
  have FT : (y.alloc (.cells #[.int .i64 (k : Int), .int .i64 1, .int .i64 v] 101)).drew.cell? ⟨b, 4, none⟩ = some (.slice a1 m1 p1) := cell_up HB1.out d1
  have GT : (y.alloc (.cells #[.int .i64 (k : Int), .int .i64 1, .int .i64 v] 101)).drew.frozen? ⟨b, 4, none⟩ = false := (HB1.out.frozen (p := ⟨b, 4, none⟩) hty).trans hg1
  have HD1 : Hid _ := d1
  have HR1 : Hid _ := hr1
  clear hr1
  refine wp_region_held_drew (S := (fun w' : World => w'.cell? ⟨w.heap.size, 2, none⟩ = some (.int .i64 v))) (by kernel_rfl) (HSK.out _ (Below.refl _ _).drew) (fun hHeld => ?_)
  refine tk (i := 0) (v := ?_) (tA rfl) (by kernel_rfl) (fun _ _ _ h => h) (Or.inl ⟨by rfl, ?_⟩) (by assumption) ?_
  rotate_left
  · (intro w hSw; (try dsimp only at hSw); go_simp <;> with_reducible rfl)
  simp only [Act.put, List.setIfInBounds_toArray, List.set_cons_zero, List.set_cons_succ]
  refine tk (i := 1) (v := ?_) (tA rfl) (by kernel_rfl) (fun _ _ _ h => h) (Or.inl ⟨by rfl, ?_⟩) (by assumption) ?_
  rotate_left
  · (intro w hSw; (try dsimp only at hSw); go_simp <;> with_reducible rfl)
  simp only [Act.put, List.setIfInBounds_toArray, List.set_cons_zero, List.set_cons_succ]
  refine tk (i := 2) (v := ?_) (tA rfl) (by kernel_rfl) (fun _ _ _ h => h) (Or.inl ⟨by rfl, ?_⟩) (by assumption) ?_
  rotate_left
  · (intro w hSw; (try dsimp only at hSw); go_simp <;> with_reducible rfl)
  simp only [Act.put, List.setIfInBounds_toArray, List.set_cons_zero, List.set_cons_succ]
  refine tk (i := 3) (v := ?_) (tA rfl) (by kernel_rfl) (fun _ _ _ h => h) (Or.inl ⟨by rfl, ?_⟩) (by assumption) ?_
  rotate_left
  · (intro w hSw; (try dsimp only at hSw); go_simp <;> with_reducible rfl)
  simp only [Act.put, List.setIfInBounds_toArray, List.set_cons_zero, List.set_cons_succ]
  refine tk (i := 5) (v := ?_) (tA rfl) (by kernel_rfl) (fun _ _ _ h => h) (Or.inl ⟨by rfl, ?_⟩) (by assumption) ?_
  rotate_left
  · (intro w hSw; (try dsimp only at hSw); go_simp <;> with_reducible rfl)
  simp only [Act.put, List.setIfInBounds_toArray, List.set_cons_zero, List.set_cons_succ]
  refine tk (i := 6) (v := ?_) (tA rfl) (by kernel_rfl) (fun _ _ _ h => h) (Or.inl ⟨by rfl, ?_⟩) (by assumption) ?_
  rotate_left
  · (intro w hSw; (try dsimp only at hSw); go_simp <;> with_reducible rfl)
  simp only [Act.put, List.setIfInBounds_toArray, List.set_cons_zero, List.set_cons_succ]
  refine tk (i := 7) (v := ?_) (tA rfl) (by kernel_rfl) (fun _ _ _ h => h) (Or.inl ⟨by rfl, ?_⟩) (by assumption) ?_
  rotate_left
  · (intro w hSw; (try dsimp only at hSw); go_simp <;> with_reducible rfl)
  simp only [Act.put, List.setIfInBounds_toArray, List.set_cons_zero, List.set_cons_succ]
  refine tk (i := 8) (v := ?_) (tA rfl) (by kernel_rfl) (fun _ _ _ h => h) (Or.inl ⟨by rfl, ?_⟩) (by assumption) ?_
  rotate_left
  · (intro w hSw; (try dsimp only at hSw); go_simp <;> with_reducible rfl)
  simp only [Act.put, List.setIfInBounds_toArray, List.set_cons_zero, List.set_cons_succ]
  refine wpAnyH_ready (rs := [4, 9]) (by kernel_rfl) (by simp) ?_
  refine AllReadyH.cons (tA rfl) (fun K hK => ?_) (AllReadyH.cons (tA rfl) (fun K hK => ?_) AllReadyH.nil)
  · go_simp
    refine hK.out _ _ (by first | exact HSK.out _ (Below.refl _ _).drew | exact HSK.out _ HB1.out) (fun hHeld => ?_)
    clear hK K
    try simp only [Act.put, List.setIfInBounds_toArray, List.set_cons_zero, List.set_cons_succ]
    refine wpAnyH_ready (rs := [9]) (by kernel_rfl) (by simp) ?_
    refine AllReadyH.cons (tA rfl) (fun K hK => ?_) AllReadyH.nil
    go_simp
    refine hK.out _ _ (by first | exact HSK.out _ (Below.refl _ _).drew | exact HSK.out _ HB1.out) (fun hHeld => ?_)
    clear hK K
    try simp only [Act.put, List.setIfInBounds_toArray, List.set_cons_zero, List.set_cons_succ]
    refine wpAnyH_ready (rs := [10]) (by kernel_rfl) (by simp) ?_
    refine AllReadyH.cons (tA rfl) (fun K hK => ?_) AllReadyH.nil
    refine step_append_lies _ (by rfl) _ _ 38 (by rfl) B 101 iw _ 3 24 Tryd.underlying38 hiw hp0 hp1 hp2 (by rfl) (by decide) (.slice a1 m1 p1) m1 _ (by rfl) HW1.out ⟨y.heap.size, 0, none⟩ 1 1 (eC ((k : Int), 1, v)) (by rfl) (by rfl) HNC.out (by intro u hu; simp [eC] at hu; rcases hu with rfl | rfl | rfl <;> rfl) (by decide) (by unfold maxLen; omega) (by omega) (by simp; omega) (y.heap.size + 1) (by simp) ?_
    intro x1 cp Y6 ho6 hg6 hat6 hlt6
    have m6 : Y6.cell? ⟨b, 4, none⟩ = some (.slice a1 m1 p1) := hg6.cell FT (fun e => hvb e.symm)
    have z6 : Y6.frozen? ⟨b, 4, none⟩ = false := (hg6.frozen_far ⟨b, 4, none⟩ (Nat.lt_of_lt_of_le hty HB1.out.size) (fun e => hvb e.symm)).trans GT
    refine hK.out _ _ (hg6.cell (cell_up HB1.out o2) (fun e => hvx e.symm)) (fun hHeld => ?_)
    clear hK K
    try simp only [Act.put, List.setIfInBounds_toArray, List.set_cons_zero, List.set_cons_succ]
    refine tk (i := 11) (v := ?_) (tA rfl) (by kernel_rfl) (fun _ _ _ h => h) (Or.inl ⟨by rfl, ?_⟩) (by assumption) ?_
    rotate_left
    · (intro w hSw; (try dsimp only at hSw); go_simp <;> with_reducible rfl)
    simp only [Act.put, List.setIfInBounds_toArray, List.set_cons_zero, List.set_cons_succ]
    refine tk (i := 12) (v := ?_) (tA rfl) (by kernel_rfl) (fun _ _ _ h => h) (Or.inl ⟨by rfl, ?_⟩) (by assumption) ?_
    rotate_left
    · (intro w hSw; (try dsimp only at hSw); go_simp <;> with_reducible rfl)
    simp only [Act.put, List.setIfInBounds_toArray, List.set_cons_zero, List.set_cons_succ]
    refine wpAnyH_ready (rs := [13]) (by kernel_rfl) (by simp) ?_
    refine AllReadyH.cons (tA rfl) (fun K hK => ?_) AllReadyH.nil
    clear hHeld
    go_simp
    have ho7 : Y6.ownsRow B 101 3 (.slice (some ⟨x1, 0, none⟩) ((M).es.length + 1) cp) ((M).es.length + 1) ((M).es.flatMap eC ++ eC ((k : Int), 1, v)) := by rw [HM1.out]; exact ho6
    obtain ⟨q1, q2⟩ := HV1.out.saw HB1.out ho7 (HEV.out ▸ hg6) (by rw [HEV.out]; exact hat6.imp id (fun e => by omega))
    rw [HM1.out] at q1 q2
    obtain ⟨ZZ, hZZ⟩ : ∃ ZZ, Y6.setCell ⟨b, 4, none⟩ (.slice (some ⟨x1, 0, none⟩) (m1 + 1) cp) = ZZ := ⟨_, rfl⟩
    rw [hZZ] at q1 q2
    rw [hZZ]
    have HQ1 : Hid _ := q1
    have HQ2 : Hid (St t _ w ZZ) := HSX.out.trans q2
    refine hK.out _ _ (st_cell q2 HTX.out o2) (fun hHeld => ?_)
    clear hK K hZZ m6 z6 q1 q2 ho7 ho6 hg6 hat6 hlt6
    try simp only [Act.put, List.setIfInBounds_toArray, List.set_cons_zero, List.set_cons_succ]
    refine wpAnyH_done (by kernel_rfl) ?_ _
    clear hHeld
    go_wp2
    go_ret
    exact ⟨rfl, _, _, _, _, _, HQ1.out, HQ2.out⟩
  · go_simp
    refine hK.out _ _ (by first | exact HSK.out _ (Below.refl _ _).drew | exact HSK.out _ HB1.out) (fun hHeld => ?_)
    clear hK K
    try simp only [Act.put, List.setIfInBounds_toArray, List.set_cons_zero, List.set_cons_succ]
    refine wpAnyH_ready (rs := [4]) (by kernel_rfl) (by simp) ?_
    refine AllReadyH.cons (tA rfl) (fun K hK => ?_) AllReadyH.nil
    go_simp
    refine hK.out _ _ (by first | exact HSK.out _ (Below.refl _ _).drew | exact HSK.out _ HB1.out) (fun hHeld => ?_)
    clear hK K
    try simp only [Act.put, List.setIfInBounds_toArray, List.set_cons_zero, List.set_cons_succ]
    refine wpAnyH_ready (rs := [10]) (by kernel_rfl) (by simp) ?_
    refine AllReadyH.cons (tA rfl) (fun K hK => ?_) AllReadyH.nil
    refine step_append_lies _ (by rfl) _ _ 38 (by rfl) B 101 iw _ 3 24 Tryd.underlying38 hiw hp0 hp1 hp2 (by rfl) (by decide) (.slice a1 m1 p1) m1 _ (by rfl) HW1.out ⟨y.heap.size, 0, none⟩ 1 1 (eC ((k : Int), 1, v)) (by rfl) (by rfl) HNC.out (by intro u hu; simp [eC] at hu; rcases hu with rfl | rfl | rfl <;> rfl) (by decide) (by unfold maxLen; omega) (by omega) (by simp; omega) (y.heap.size + 1) (by simp) ?_
    intro x1 cp Y6 ho6 hg6 hat6 hlt6
    have m6 : Y6.cell? ⟨b, 4, none⟩ = some (.slice a1 m1 p1) := hg6.cell FT (fun e => hvb e.symm)
    have z6 : Y6.frozen? ⟨b, 4, none⟩ = false := (hg6.frozen_far ⟨b, 4, none⟩ (Nat.lt_of_lt_of_le hty HB1.out.size) (fun e => hvb e.symm)).trans GT
    refine hK.out _ _ (hg6.cell (cell_up HB1.out o2) (fun e => hvx e.symm)) (fun hHeld => ?_)
    clear hK K
    try simp only [Act.put, List.setIfInBounds_toArray, List.set_cons_zero, List.set_cons_succ]
    refine tk (i := 11) (v := ?_) (tA rfl) (by kernel_rfl) (fun _ _ _ h => h) (Or.inl ⟨by rfl, ?_⟩) (by assumption) ?_
    rotate_left
    · (intro w hSw; (try dsimp only at hSw); go_simp <;> with_reducible rfl)
    simp only [Act.put, List.setIfInBounds_toArray, List.set_cons_zero, List.set_cons_succ]
    refine tk (i := 12) (v := ?_) (tA rfl) (by kernel_rfl) (fun _ _ _ h => h) (Or.inl ⟨by rfl, ?_⟩) (by assumption) ?_
    rotate_left
    · (intro w hSw; (try dsimp only at hSw); go_simp <;> with_reducible rfl)
    simp only [Act.put, List.setIfInBounds_toArray, List.set_cons_zero, List.set_cons_succ]
    refine wpAnyH_ready (rs := [13]) (by kernel_rfl) (by simp) ?_
    refine AllReadyH.cons (tA rfl) (fun K hK => ?_) AllReadyH.nil
    clear hHeld
    go_simp
    have ho7 : Y6.ownsRow B 101 3 (.slice (some ⟨x1, 0, none⟩) ((M).es.length + 1) cp) ((M).es.length + 1) ((M).es.flatMap eC ++ eC ((k : Int), 1, v)) := by rw [HM1.out]; exact ho6
    obtain ⟨q1, q2⟩ := HV1.out.saw HB1.out ho7 (HEV.out ▸ hg6) (by rw [HEV.out]; exact hat6.imp id (fun e => by omega))
    rw [HM1.out] at q1 q2
    obtain ⟨ZZ, hZZ⟩ : ∃ ZZ, Y6.setCell ⟨b, 4, none⟩ (.slice (some ⟨x1, 0, none⟩) (m1 + 1) cp) = ZZ := ⟨_, rfl⟩
    rw [hZZ] at q1 q2
    rw [hZZ]
    have HQ1 : Hid _ := q1
    have HQ2 : Hid (St t _ w ZZ) := HSX.out.trans q2
    refine hK.out _ _ (st_cell q2 HTX.out o2) (fun hHeld => ?_)
    clear hK K hZZ m6 z6 q1 q2 ho7 ho6 hg6 hat6 hlt6
    try simp only [Act.put, List.setIfInBounds_toArray, List.set_cons_zero, List.set_cons_succ]
    refine wpAnyH_done (by kernel_rfl) ?_ _
    clear hHeld
    go_wp2
    go_ret
    exact ⟨rfl, _, _, _, _, _, HQ1.out, HQ2.out⟩

end Go.Proofs.YtffokdldgdjkhaaDoor.X

/- The document's machine: a store. (Written by gen_xask.py.) -/
namespace Go.Proofs.YtffokdldgdjkhaaDoor.X
open Go.RowKit Go.Maps
set_option linter.unusedVariables false
set_option linter.unusedSimpArgs false

set_option maxRecDepth 100000 in
set_option maxHeartbeats 8000000 in
theorem xask_2 {B : Nat} {w : World} {b : Nat} {M : T.Mach} {t : Nat → Nat} {D Sk : List Int} {vd vs : Value} {g cap : Nat} {ev : Value} {us : List Value} (h : XV B w b M t D Sk vd vs g cap ev us) {k : Nat} (hk : k < M.ts.length) (hok : WsOk (M.th k).ws) (h8 : (M.th k).ws.length ≤ 8) {a v r : Int} (ha : (Lit.int .i64 a).wf = true) (hm : (M.mem a).isSome = true) (hl : (M.th k).ws.length ≤ 7) :
    Calls Tryd.prog 41 #[.pointer (some ⟨b, 0, none⟩), .int .i64 k, S.reqV 2 a v r] w fun e w' => e = .returned (.bool true) ∧ XGone B w w' b (T.push M k a v) t vd vs g cap := by
  obtain ⟨X1, hX1⟩ : ∃ X1, w.alloc (.cells #[.int .i64 2, .int .i64 a, .int .i64 v, .int .i64 r] 96) = X1 := ⟨_, rfl⟩
  have hb1 : Below w.heap.size w X1 := by subst hX1; exact bl_one _ _
  have hs1 : w.heap.size < X1.heap.size := by subst hX1; simp
  have o0 : X1.cell? ⟨w.heap.size, 0, none⟩ = some (.int .i64 2) := by subst hX1; exact cell_last _ _ _ _ _ rfl rfl
  have o1 : X1.cell? ⟨w.heap.size, 1, none⟩ = some (.int .i64 a) := by subst hX1; exact cell_last _ _ _ _ _ rfl rfl
  have o2 : X1.cell? ⟨w.heap.size, 2, none⟩ = some (.int .i64 v) := by subst hX1; exact cell_last _ _ _ _ _ rfl rfl
  have o3 : X1.cell? ⟨w.heap.size, 3, none⟩ = some (.int .i64 r) := by subst hX1; exact cell_last _ _ _ _ _ rfl rfl
  have hv1 : XV B X1 b M t D Sk vd vs g cap ev us := h.below hb1
  have HTX : Hid (t w.heap.size = 0) := Classical.byContradiction fun e => by have := (h.lt _ e).2; omega
  have HB1 : Hid (Below w.heap.size w X1) := hb1
  have HV1 : Hid (XV B X1 b M t D Sk vd vs g cap ev us) := hv1
  have hro := hv1.room
  obtain ⟨n, hn⟩ : ∃ n, M.ts.length = n := ⟨_, rfl⟩
  have HTL : Hid (M.ts.length = n) := hn
  rw [hn] at hro
  obtain ⟨r1, r2, r3, r4⟩ := hro
  have hkn : k < n := by omega
  unfold maxLen at r2
  have i1 : (k : Int) < (n : Int) := by omega
  have i0 : (0 : Int) ≤ (k : Int) := by omega
  have HW : Hid _ := xword_any hv1 ha
  obtain ⟨z1, hz1⟩ : ∃ z1, (M.mem a).getD 0 = z1 := ⟨_, rfl⟩
  rw [hz1, show T.er (M.mem a) = 0 by cases e : M.mem a with
    | none => rw [e] at hm; cases hm
    | some x => rfl] at HW
  have HX1 : Hid _ := hX1
  have HSX : Hid (St t t w X1) := St.ofBelow t hb1
  obtain ⟨iw, hiw, hp0, hp1, hp2⟩ := info_partsL infoW
  have HKY : Hid (k < M.ts.length) := hk
  have HLN : Hid ((M.th k).ws.length ≤ 7) := hl
  have c3y := hv1.c3
  rw [hn] at c3y
  obtain ⟨uY, huY⟩ := HV1.out.u HKY.out
  have d1 := HV1.out.cell HKY.out huY 11 _ rfl
  have hr1 := HV1.out.ws k _ uY (T.th_at HKY.out) huY
  obtain ⟨a1, p1, rfl, hnp, hpm⟩ := own_sl hr1
  obtain ⟨m1, hm1⟩ : ∃ m1, ((M).th k).ws.length = m1 := ⟨_, rfl⟩
  have hg1 := HV1.out.gz (k * 12 + 11)
  rw [hm1] at d1 hnp hr1
  have hm8 : m1 ≤ 7 := by have := HLN.out; omega
  have hty : g < X1.heap.size := HV1.out.gl
  have hBy := HV1.out.hB
  have hvb : (Value.slice a1 m1 p1).ownBlock ≠ some b := fun e => by have e1 := HV1.out.tw k _ b huY (by rw [hm1]; exact e); have e2 := HV1.out.tb; omega
  have hvg : (Value.slice a1 m1 p1).ownBlock ≠ some g := fun e => by have e1 := HV1.out.tw k _ g huY (by rw [hm1]; exact e); have e2 := HV1.out.tg; omega
  have hvx : (Value.slice a1 m1 p1).ownBlock ≠ some w.heap.size := fun e => by have e1 := HV1.out.tw k _ w.heap.size huY (by rw [hm1]; exact e); have e2 := HTX.out; omega
  have HM1 : Hid (((M).th k).ws.length = m1) := hm1
  have HU1 : Hid (us[k]? = some (Value.slice a1 m1 p1)) := by rw [hm1] at huY; exact huY
  unfold maxLen at hpm
  clear hm1 huY
  have HLZ : Hid ((M.put k M.mem ⟨(M.th k).c, (M.th k).ws ++ [(a, v)]⟩).ts.length = n) := (T.len_put M k _ _).trans hn
  have hne : ¬ (8 : Int) ≤ (m1 : Int) := by omega
  clear h hv1 hm hok h8 hn hk hb1 hz1 hl
  go_enter Tryd.func41, Tryd.ntmps41
  go_wp2_with fail
  refine Calls.mono HW.out ?_
  rintro e y ⟨rfl, rfl⟩
  go_wp2_with fail
  have HB1 : Hid (Below y.heap.size y (y.alloc (.cells #[.int .i64 a, .int .i64 v] 94)).drew) := (bl_one _ _).drew
  have HW1 : Hid ((y.alloc (.cells #[.int .i64 a, .int .i64 v] 94)).drew.ownsRow B 94 2 (.slice a1 m1 p1) m1 (((M).th k).ws.flatMap wC)) := hr1.kept (gb_of_below HB1.out (some y.heap.size)) (.inr fun e => by have := own_lt hr1 e; omega)
  have HNC : Hid (∀ j u, (wC (a, v))[j]? = some u → (y.alloc (.cells #[.int .i64 a, .int .i64 v] 94)).drew.cell? ((⟨y.heap.size, 0, none⟩ : Addr).add j) = some u) := fun j u hu => by
    rw [Addr.add_lit, Nat.zero_add]
    exact cell_last _ _ _ _ _ rfl (by simpa [wC] using hu)
  have HSK : Hid (∀ z : World, Below y.heap.size y z → (fun w' : World => w'.cell? ⟨b, 3, none⟩ = some (.slice (some ⟨g, 0, none⟩) n cap) ∧ w'.cell? ⟨w.heap.size, 1, none⟩ = some (.int .i64 a) ∧ w'.cell? ⟨w.heap.size, 2, none⟩ = some (.int .i64 v)) z) := fun z hz => ⟨cell_up hz c3y, cell_up hz o1, cell_up hz o2⟩
  have FT : (y.alloc (.cells #[.int .i64 a, .int .i64 v] 94)).drew.cell? ⟨g, k * 12 + 11, none⟩ = some (.slice a1 m1 p1) := cell_up HB1.out d1
  have GT : (y.alloc (.cells #[.int .i64 a, .int .i64 v] 94)).drew.frozen? ⟨g, k * 12 + 11, none⟩ = false := (HB1.out.frozen (p := ⟨g, k * 12 + 11, none⟩) hty).trans hg1
  have HD1 : Hid _ := d1
  have HR1 : Hid _ := hr1
  clear hr1
  refine wp_region_held_drew (S := (fun w' : World => w'.cell? ⟨b, 3, none⟩ = some (.slice (some ⟨g, 0, none⟩) n cap) ∧ w'.cell? ⟨w.heap.size, 1, none⟩ = some (.int .i64 a) ∧ w'.cell? ⟨w.heap.size, 2, none⟩ = some (.int .i64 v))) (by kernel_rfl) (HSK.out _ (Below.refl _ _).drew) (fun hHeld => ?_)
  refine tk (i := 0) (v := ?_) (tA rfl) (by kernel_rfl) (fun _ _ _ h => h) (Or.inl ⟨by rfl, ?_⟩) (by assumption) ?_
  rotate_left
  · (intro w hSw; (try dsimp only at hSw); go_simp <;> with_reducible rfl)
  simp only [Act.put, List.setIfInBounds_toArray, List.set_cons_zero, List.set_cons_succ]
  refine tk (i := 1) (v := ?_) (tA rfl) (by kernel_rfl) (fun _ _ _ h => h) (Or.inl ⟨by rfl, ?_⟩) (by assumption) ?_
  rotate_left
  · (intro w hSw; (try dsimp only at hSw); go_simp <;> with_reducible rfl)
  simp only [Act.put, List.setIfInBounds_toArray, List.set_cons_zero, List.set_cons_succ]
  refine tk (i := 2) (v := ?_) (tA rfl) (by kernel_rfl) (fun _ _ _ h => h) (Or.inl ⟨by rfl, ?_⟩) (by assumption) ?_
  rotate_left
  · (intro w hSw; (try dsimp only at hSw); go_simp <;> with_reducible rfl)
  simp only [Act.put, List.setIfInBounds_toArray, List.set_cons_zero, List.set_cons_succ]
  refine tk (i := 3) (v := ?_) (tA rfl) (by kernel_rfl) (fun _ _ _ h => h) (Or.inl ⟨by rfl, ?_⟩) (by assumption) ?_
  rotate_left
  · (intro w hSw; (try dsimp only at hSw); go_simp <;> with_reducible rfl)
  simp only [Act.put, List.setIfInBounds_toArray, List.set_cons_zero, List.set_cons_succ]
  refine tk (i := 4) (v := ?_) (tA rfl) (by kernel_rfl) (fun _ _ _ h => h) (Or.inl ⟨by rfl, ?_⟩) (by assumption) ?_
  rotate_left
  · (intro w hSw; (try dsimp only at hSw); go_simp <;> with_reducible rfl)
  simp only [Act.put, List.setIfInBounds_toArray, List.set_cons_zero, List.set_cons_succ]
  refine tk (i := 5) (v := ?_) (tA rfl) (by kernel_rfl) (fun _ _ _ h => h) (Or.inl ⟨by rfl, ?_⟩) (by assumption) ?_
  rotate_left
  · (intro w hSw; (try dsimp only at hSw); go_simp <;> with_reducible rfl)
  simp only [Act.put, List.setIfInBounds_toArray, List.set_cons_zero, List.set_cons_succ]
  refine tk (i := 6) (v := ?_) (tA rfl) (by kernel_rfl) (fun _ _ _ h => h) (Or.inl ⟨by rfl, ?_⟩) (by assumption) ?_
  rotate_left
  · (intro w hSw; (try dsimp only at hSw); go_simp <;> with_reducible rfl)
  simp only [Act.put, List.setIfInBounds_toArray, List.set_cons_zero, List.set_cons_succ]
  refine tk (i := 7) (v := ?_) (tA rfl) (by kernel_rfl) (fun _ _ _ h => h) (Or.inl ⟨by rfl, ?_⟩) (by assumption) ?_
  rotate_left
  · (intro w hSw; (try dsimp only at hSw); go_simp <;> with_reducible rfl)
  simp only [Act.put, List.setIfInBounds_toArray, List.set_cons_zero, List.set_cons_succ]
  refine tk (i := 8) (v := ?_) (tA rfl) (by kernel_rfl) (fun _ _ _ h => h) (Or.inl ⟨by rfl, ?_⟩) (by assumption) ?_
  rotate_left
  · (intro w hSw; (try dsimp only at hSw); go_simp <;> with_reducible rfl)
  simp only [Act.put, List.setIfInBounds_toArray, List.set_cons_zero, List.set_cons_succ]
  refine tk (i := 9) (v := ?_) (tA rfl) (by kernel_rfl) (fun _ _ _ h => h) (Or.inl ⟨by rfl, ?_⟩) (by assumption) ?_
  rotate_left
  · (intro w hSw; (try dsimp only at hSw); go_simp <;> with_reducible rfl)
  simp only [Act.put, List.setIfInBounds_toArray, List.set_cons_zero, List.set_cons_succ]
  refine tk (i := 10) (v := ?_) (tA rfl) (by kernel_rfl) (fun _ _ _ h => h) (Or.inl ⟨by rfl, ?_⟩) (by assumption) ?_
  rotate_left
  · (intro w hSw; (try dsimp only at hSw); go_simp <;> with_reducible rfl)
  simp only [Act.put, List.setIfInBounds_toArray, List.set_cons_zero, List.set_cons_succ]
  refine tk (i := 11) (v := ?_) (tA rfl) (by kernel_rfl) (fun _ _ _ h => h) (Or.inl ⟨by rfl, ?_⟩) (by assumption) ?_
  rotate_left
  · (intro w hSw; (try dsimp only at hSw); go_simp <;> with_reducible rfl)
  simp only [Act.put, List.setIfInBounds_toArray, List.set_cons_zero, List.set_cons_succ]
  refine tk (i := 13) (v := ?_) (tA rfl) (by kernel_rfl) (fun _ _ _ h => h) (Or.inl ⟨by rfl, ?_⟩) (by assumption) ?_
  rotate_left
  · (intro w hSw; (try dsimp only at hSw); go_simp <;> with_reducible rfl)
  simp only [Act.put, List.setIfInBounds_toArray, List.set_cons_zero, List.set_cons_succ]
  refine tk (i := 14) (v := ?_) (tA rfl) (by kernel_rfl) (fun _ _ _ h => h) (Or.inl ⟨by rfl, ?_⟩) (by assumption) ?_
  rotate_left
  · (intro w hSw; (try dsimp only at hSw); go_simp <;> with_reducible rfl)
  simp only [Act.put, List.setIfInBounds_toArray, List.set_cons_zero, List.set_cons_succ]
  refine tk (i := 15) (v := ?_) (tA rfl) (by kernel_rfl) (fun _ _ _ h => h) (Or.inl ⟨by rfl, ?_⟩) (by assumption) ?_
  rotate_left
  · (intro w hSw; (try dsimp only at hSw); go_simp <;> with_reducible rfl)
  simp only [Act.put, List.setIfInBounds_toArray, List.set_cons_zero, List.set_cons_succ]
  refine tk (i := 16) (v := ?_) (tA rfl) (by kernel_rfl) (fun _ _ _ h => h) (Or.inl ⟨by rfl, ?_⟩) (by assumption) ?_
  rotate_left
  · (intro w hSw; (try dsimp only at hSw); go_simp <;> with_reducible rfl)
  simp only [Act.put, List.setIfInBounds_toArray, List.set_cons_zero, List.set_cons_succ]
  refine tk (i := 17) (v := ?_) (tA rfl) (by kernel_rfl) (fun _ _ _ h => h) (Or.inl ⟨by rfl, ?_⟩) (by assumption) ?_
  rotate_left
  · (intro w hSw; (try dsimp only at hSw); go_simp <;> with_reducible rfl)
  simp only [Act.put, List.setIfInBounds_toArray, List.set_cons_zero, List.set_cons_succ]
  refine wpAnyH_ready (rs := [12, 18]) (by kernel_rfl) (by simp) ?_
  refine AllReadyH.cons (tA rfl) (fun K hK => ?_) (AllReadyH.cons (tA rfl) (fun K hK => ?_) AllReadyH.nil)
  · go_simp
    refine hK.out _ _ (by first | exact HSK.out _ (Below.refl _ _).drew | exact HSK.out _ HB1.out) (fun hHeld => ?_)
    clear hK K
    try simp only [Act.put, List.setIfInBounds_toArray, List.set_cons_zero, List.set_cons_succ]
    refine wpAnyH_ready (rs := [18]) (by kernel_rfl) (by simp) ?_
    refine AllReadyH.cons (tA rfl) (fun K hK => ?_) AllReadyH.nil
    go_simp
    refine hK.out _ _ (by first | exact HSK.out _ (Below.refl _ _).drew | exact HSK.out _ HB1.out) (fun hHeld => ?_)
    clear hK K
    try simp only [Act.put, List.setIfInBounds_toArray, List.set_cons_zero, List.set_cons_succ]
    refine wpAnyH_ready (rs := [19]) (by kernel_rfl) (by simp) ?_
    refine AllReadyH.cons (tA rfl) (fun K hK => ?_) AllReadyH.nil
    refine step_append_lies _ (by rfl) _ _ 44 (by rfl) B 94 iw _ 2 16 Tryd.underlying44 hiw hp0 hp1 hp2 (by rfl) (by decide) (.slice a1 m1 p1) m1 _ (by rfl) HW1.out ⟨y.heap.size, 0, none⟩ 1 1 (wC (a, v)) (by rfl) (by rfl) HNC.out (by intro u hu; simp [wC] at hu; rcases hu with rfl | rfl <;> rfl) (by decide) (by unfold maxLen; omega) (by omega) (by simp; omega) (y.heap.size + 1) (by simp) ?_
    intro x1 cp Y6 ho6 hg6 hat6 hlt6
    have m6 : Y6.cell? ⟨g, k * 12 + 11, none⟩ = some (.slice a1 m1 p1) := hg6.cell FT (fun e => hvg e.symm)
    have z6 : Y6.frozen? ⟨g, k * 12 + 11, none⟩ = false := (hg6.frozen_far ⟨g, k * 12 + 11, none⟩ (Nat.lt_of_lt_of_le hty HB1.out.size) (fun e => hvg e.symm)).trans GT
    refine hK.out _ _ ⟨(hg6.cell (cell_up HB1.out c3y) (fun e => hvb e.symm)), (hg6.cell (cell_up HB1.out o1) (fun e => hvx e.symm)), (hg6.cell (cell_up HB1.out o2) (fun e => hvx e.symm))⟩ (fun hHeld => ?_)
    clear hK K
    try simp only [Act.put, List.setIfInBounds_toArray, List.set_cons_zero, List.set_cons_succ]
    refine tk (i := 20) (v := ?_) (tA rfl) (by kernel_rfl) (fun _ _ _ h => h) (Or.inl ⟨by rfl, ?_⟩) (by assumption) ?_
    rotate_left
    · (intro w hSw; (try dsimp only at hSw); go_simp <;> with_reducible rfl)
    simp only [Act.put, List.setIfInBounds_toArray, List.set_cons_zero, List.set_cons_succ]
    refine tk (i := 21) (v := ?_) (tA rfl) (by kernel_rfl) (fun _ _ _ h => h) (Or.inl ⟨by rfl, ?_⟩) (by assumption) ?_
    rotate_left
    · (intro w hSw; (try dsimp only at hSw); go_simp <;> with_reducible rfl)
    simp only [Act.put, List.setIfInBounds_toArray, List.set_cons_zero, List.set_cons_succ]
    refine wpAnyH_ready (rs := [22]) (by kernel_rfl) (by simp) ?_
    refine AllReadyH.cons (tA rfl) (fun K hK => ?_) AllReadyH.nil
    clear hHeld
    go_simp
    have ho7 : Y6.ownsRow B 94 2 (.slice (some ⟨x1, 0, none⟩) (m1 + 1) cp) (((M).th k).ws ++ [(a, v)]).length ((((M).th k).ws ++ [(a, v)]).flatMap wC) := by
      rw [List.length_append, List.flatMap_append, HM1.out]
      simpa using ho6
    have HATF : Hid (∀ z, (Value.slice (some ⟨x1, 0, none⟩) (m1 + 1) cp).ownBlock = some z → (Value.slice a1 m1 p1).ownBlock = some z ∨ y.heap.size ≤ z) := fun z hz => by
      have hz' : x1 = z := by simpa [Value.ownBlock] using hz
      rw [← hz']
      exact hat6.imp id (fun e => by omega)
    obtain ⟨q1, q2⟩ := HV1.out.wait HKY.out HU1.out HB1.out ho7 hg6 (.inr rfl) HATF.out
    obtain ⟨ZZ, hZZ⟩ : ∃ ZZ, Y6.setCell ⟨g, k * 12 + 11, none⟩ (.slice (some ⟨x1, 0, none⟩) (m1 + 1) cp) = ZZ := ⟨_, rfl⟩
    rw [hZZ] at q1 q2
    rw [hZZ]
    have HQ1 : Hid _ := q1
    have HQ2 : Hid (St t _ w ZZ) := HSX.out.trans q2
    refine hK.out _ _ ⟨(by have h9 := q1.c3; rw [HLZ.out] at h9; exact h9), (st_cell q2 HTX.out o1), (st_cell q2 HTX.out o2)⟩ (fun hHeld => ?_)
    clear hK K hZZ m6 z6 q1 q2 ho7 ho6 hg6 hat6 hlt6
    try simp only [Act.put, List.setIfInBounds_toArray, List.set_cons_zero, List.set_cons_succ]
    refine wpAnyH_done (by kernel_rfl) ?_ _
    clear hHeld
    go_wp2
    go_ret
    exact ⟨rfl, _, _, _, _, _, HQ1.out, HQ2.out⟩
  · go_simp
    refine hK.out _ _ (by first | exact HSK.out _ (Below.refl _ _).drew | exact HSK.out _ HB1.out) (fun hHeld => ?_)
    clear hK K
    try simp only [Act.put, List.setIfInBounds_toArray, List.set_cons_zero, List.set_cons_succ]
    refine wpAnyH_ready (rs := [12]) (by kernel_rfl) (by simp) ?_
    refine AllReadyH.cons (tA rfl) (fun K hK => ?_) AllReadyH.nil
    go_simp
    refine hK.out _ _ (by first | exact HSK.out _ (Below.refl _ _).drew | exact HSK.out _ HB1.out) (fun hHeld => ?_)
    clear hK K
    try simp only [Act.put, List.setIfInBounds_toArray, List.set_cons_zero, List.set_cons_succ]
    refine wpAnyH_ready (rs := [19]) (by kernel_rfl) (by simp) ?_
    refine AllReadyH.cons (tA rfl) (fun K hK => ?_) AllReadyH.nil
    refine step_append_lies _ (by rfl) _ _ 44 (by rfl) B 94 iw _ 2 16 Tryd.underlying44 hiw hp0 hp1 hp2 (by rfl) (by decide) (.slice a1 m1 p1) m1 _ (by rfl) HW1.out ⟨y.heap.size, 0, none⟩ 1 1 (wC (a, v)) (by rfl) (by rfl) HNC.out (by intro u hu; simp [wC] at hu; rcases hu with rfl | rfl <;> rfl) (by decide) (by unfold maxLen; omega) (by omega) (by simp; omega) (y.heap.size + 1) (by simp) ?_
    intro x1 cp Y6 ho6 hg6 hat6 hlt6
    have m6 : Y6.cell? ⟨g, k * 12 + 11, none⟩ = some (.slice a1 m1 p1) := hg6.cell FT (fun e => hvg e.symm)
    have z6 : Y6.frozen? ⟨g, k * 12 + 11, none⟩ = false := (hg6.frozen_far ⟨g, k * 12 + 11, none⟩ (Nat.lt_of_lt_of_le hty HB1.out.size) (fun e => hvg e.symm)).trans GT
    refine hK.out _ _ ⟨(hg6.cell (cell_up HB1.out c3y) (fun e => hvb e.symm)), (hg6.cell (cell_up HB1.out o1) (fun e => hvx e.symm)), (hg6.cell (cell_up HB1.out o2) (fun e => hvx e.symm))⟩ (fun hHeld => ?_)
    clear hK K
    try simp only [Act.put, List.setIfInBounds_toArray, List.set_cons_zero, List.set_cons_succ]
    refine tk (i := 20) (v := ?_) (tA rfl) (by kernel_rfl) (fun _ _ _ h => h) (Or.inl ⟨by rfl, ?_⟩) (by assumption) ?_
    rotate_left
    · (intro w hSw; (try dsimp only at hSw); go_simp <;> with_reducible rfl)
    simp only [Act.put, List.setIfInBounds_toArray, List.set_cons_zero, List.set_cons_succ]
    refine tk (i := 21) (v := ?_) (tA rfl) (by kernel_rfl) (fun _ _ _ h => h) (Or.inl ⟨by rfl, ?_⟩) (by assumption) ?_
    rotate_left
    · (intro w hSw; (try dsimp only at hSw); go_simp <;> with_reducible rfl)
    simp only [Act.put, List.setIfInBounds_toArray, List.set_cons_zero, List.set_cons_succ]
    refine wpAnyH_ready (rs := [22]) (by kernel_rfl) (by simp) ?_
    refine AllReadyH.cons (tA rfl) (fun K hK => ?_) AllReadyH.nil
    clear hHeld
    go_simp
    have ho7 : Y6.ownsRow B 94 2 (.slice (some ⟨x1, 0, none⟩) (m1 + 1) cp) (((M).th k).ws ++ [(a, v)]).length ((((M).th k).ws ++ [(a, v)]).flatMap wC) := by
      rw [List.length_append, List.flatMap_append, HM1.out]
      simpa using ho6
    have HATF : Hid (∀ z, (Value.slice (some ⟨x1, 0, none⟩) (m1 + 1) cp).ownBlock = some z → (Value.slice a1 m1 p1).ownBlock = some z ∨ y.heap.size ≤ z) := fun z hz => by
      have hz' : x1 = z := by simpa [Value.ownBlock] using hz
      rw [← hz']
      exact hat6.imp id (fun e => by omega)
    obtain ⟨q1, q2⟩ := HV1.out.wait HKY.out HU1.out HB1.out ho7 hg6 (.inr rfl) HATF.out
    obtain ⟨ZZ, hZZ⟩ : ∃ ZZ, Y6.setCell ⟨g, k * 12 + 11, none⟩ (.slice (some ⟨x1, 0, none⟩) (m1 + 1) cp) = ZZ := ⟨_, rfl⟩
    rw [hZZ] at q1 q2
    rw [hZZ]
    have HQ1 : Hid _ := q1
    have HQ2 : Hid (St t _ w ZZ) := HSX.out.trans q2
    refine hK.out _ _ ⟨(by have h9 := q1.c3; rw [HLZ.out] at h9; exact h9), (st_cell q2 HTX.out o1), (st_cell q2 HTX.out o2)⟩ (fun hHeld => ?_)
    clear hK K hZZ m6 z6 q1 q2 ho7 ho6 hg6 hat6 hlt6
    try simp only [Act.put, List.setIfInBounds_toArray, List.set_cons_zero, List.set_cons_succ]
    refine wpAnyH_done (by kernel_rfl) ?_ _
    clear hHeld
    go_wp2
    go_ret
    exact ⟨rfl, _, _, _, _, _, HQ1.out, HQ2.out⟩
set_option maxRecDepth 100000 in
set_option maxHeartbeats 8000000 in
theorem xask_2f {B : Nat} {w : World} {b : Nat} {M : T.Mach} {t : Nat → Nat} {D Sk : List Int} {vd vs : Value} {g cap : Nat} {ev : Value} {us : List Value} (h : XV B w b M t D Sk vd vs g cap ev us) {k : Nat} (hk : k < M.ts.length) (hok : WsOk (M.th k).ws) (h8 : (M.th k).ws.length ≤ 8) {a v r : Int} (ha : (Lit.int .i64 a).wf = true) (hm : (M.mem a).isSome = true) (hl : (M.th k).ws.length = 8) :
    Calls Tryd.prog 41 #[.pointer (some ⟨b, 0, none⟩), .int .i64 k, S.reqV 2 a v r] w fun e w' => e = .returned (.bool true) ∧ XGone B w w' b (T.push (T.leave M k) k a v) t vd vs g cap := by
  obtain ⟨X1, hX1⟩ : ∃ X1, w.alloc (.cells #[.int .i64 2, .int .i64 a, .int .i64 v, .int .i64 r] 96) = X1 := ⟨_, rfl⟩
  have hb1 : Below w.heap.size w X1 := by subst hX1; exact bl_one _ _
  have hs1 : w.heap.size < X1.heap.size := by subst hX1; simp
  have o0 : X1.cell? ⟨w.heap.size, 0, none⟩ = some (.int .i64 2) := by subst hX1; exact cell_last _ _ _ _ _ rfl rfl
  have o1 : X1.cell? ⟨w.heap.size, 1, none⟩ = some (.int .i64 a) := by subst hX1; exact cell_last _ _ _ _ _ rfl rfl
  have o2 : X1.cell? ⟨w.heap.size, 2, none⟩ = some (.int .i64 v) := by subst hX1; exact cell_last _ _ _ _ _ rfl rfl
  have o3 : X1.cell? ⟨w.heap.size, 3, none⟩ = some (.int .i64 r) := by subst hX1; exact cell_last _ _ _ _ _ rfl rfl
  have hv1 : XV B X1 b M t D Sk vd vs g cap ev us := h.below hb1
  have HTX : Hid (t w.heap.size = 0) := Classical.byContradiction fun e => by have := (h.lt _ e).2; omega
  have HB1 : Hid (Below w.heap.size w X1) := hb1
  have HV1 : Hid (XV B X1 b M t D Sk vd vs g cap ev us) := hv1
  have hro := hv1.room
  obtain ⟨n, hn⟩ : ∃ n, M.ts.length = n := ⟨_, rfl⟩
  have HTL : Hid (M.ts.length = n) := hn
  rw [hn] at hro
  obtain ⟨r1, r2, r3, r4⟩ := hro
  have hkn : k < n := by omega
  unfold maxLen at r2
  have i1 : (k : Int) < (n : Int) := by omega
  have i0 : (0 : Int) ≤ (k : Int) := by omega
  have HW : Hid _ := xword_any hv1 ha
  obtain ⟨z1, hz1⟩ : ∃ z1, (M.mem a).getD 0 = z1 := ⟨_, rfl⟩
  rw [hz1, show T.er (M.mem a) = 0 by cases e : M.mem a with
    | none => rw [e] at hm; cases hm
    | some x => rfl] at HW
  have HX1 : Hid _ := hX1
  have HSX : Hid (St t t w X1) := St.ofBelow t hb1
  obtain ⟨iw, hiw, hp0, hp1, hp2⟩ := info_partsL infoW
  obtain ⟨p, rr, hpr⟩ : ∃ p r, (M.th k).ws = p :: r := by
    cases e : (M.th k).ws with
    | nil => rw [e] at hl; simp at hl
    | cons p r => exact ⟨p, r, rfl⟩
  have hpw := hok.2 p (by rw [hpr]; exact List.mem_cons_self)
  have hrl : rr.length = 7 := by have := hl; rw [hpr] at this; simpa using this
  have hlv : T.leave M k = M.put k (T.upd M.mem p.1 p.2) ⟨(M.th k).c, rr⟩ := by unfold T.leave; rw [hpr]
  have HL : Hid (Calls Tryd.prog 19 #[.pointer (some ⟨b, 0, none⟩), .int .i64 k] X1 fun e w' => e = .returned (.bool true) ∧ XGone B X1 w' b (T.leave M k) t vd vs g cap) := by
    rw [hlv]
    exact xleave_yes hv1 hk (y := p.1) (v := p.2) hpr hpw.1 (by omega)
  have HKY : Hid (k < (T.leave M k).ts.length) := by show _ < _; rw [hlv, T.len_put]; exact hk
  have HLN : Hid (((T.leave M k).th k).ws.length ≤ 7) := by show _ ≤ 7; rw [hlv, T.th_put hk]; exact Nat.le_of_eq hrl
  have HLL : Hid ((T.leave M k).ts.length = n) := by show _ = n; rw [hlv, T.len_put]; exact hn
  have HLZ : Hid (((T.leave M k).put k (T.leave M k).mem ⟨((T.leave M k).th k).c, ((T.leave M k).th k).ws ++ [(a, v)]⟩).ts.length = n) := (T.len_put _ k _ _).trans HLL.out
  obtain ⟨u0, hu0⟩ := hv1.u hk
  have d0 := hv1.cell hk hu0 11 _ rfl
  obtain ⟨a0, p0, rfl, -, -⟩ := own_sl (hv1.ws k _ u0 (T.th_at hk) hu0)
  rw [hl] at d0
  have c30 := hv1.c3
  rw [hn] at c30
  clear h hv1 hm hok h8 hn hk hb1 hz1 hl hpr hpw hrl hlv hu0
  go_enter Tryd.func41, Tryd.ntmps41
  go_wp2_with fail
  refine Calls.mono HW.out ?_
  rintro e y0 ⟨rfl, rfl⟩
  go_wp2_with fail
  refine HL.out.mono ?_
  rintro e y ⟨rfl, t2, D2, S2, ev2, us2, hv2, hs2⟩
  have HV2 : Hid (XV B y b (T.leave M k) t2 D2 S2 vd vs g cap ev2 us2) := hv2
  have HS2 : Hid (St t t2 w y) := HSX.out.trans hs2
  have HTY : Hid (t2 w.heap.size = 0) := (hs2.tag _ hs1).trans HTX.out
  have o1 := st_cell hs2 (p := ⟨w.heap.size, 1, none⟩) HTX.out o1
  have o2 := st_cell hs2 (p := ⟨w.heap.size, 2, none⟩) HTX.out o2
  have c3y := hv2.c3
  rw [HLL.out] at c3y
  clear hv2 hs2 d0 c30 o0 o3
  obtain ⟨uY, huY⟩ := HV2.out.u HKY.out
  have d1 := HV2.out.cell HKY.out huY 11 _ rfl
  have hr1 := HV2.out.ws k _ uY (T.th_at HKY.out) huY
  obtain ⟨a1, p1, rfl, hnp, hpm⟩ := own_sl hr1
  obtain ⟨m1, hm1⟩ : ∃ m1, ((T.leave M k).th k).ws.length = m1 := ⟨_, rfl⟩
  have hg1 := HV2.out.gz (k * 12 + 11)
  rw [hm1] at d1 hnp hr1
  have hm8 : m1 ≤ 7 := by have := HLN.out; omega
  have hty : g < y.heap.size := HV2.out.gl
  have hBy := HV2.out.hB
  have hvb : (Value.slice a1 m1 p1).ownBlock ≠ some b := fun e => by have e1 := HV2.out.tw k _ b huY (by rw [hm1]; exact e); have e2 := HV2.out.tb; omega
  have hvg : (Value.slice a1 m1 p1).ownBlock ≠ some g := fun e => by have e1 := HV2.out.tw k _ g huY (by rw [hm1]; exact e); have e2 := HV2.out.tg; omega
  have hvx : (Value.slice a1 m1 p1).ownBlock ≠ some w.heap.size := fun e => by have e1 := HV2.out.tw k _ w.heap.size huY (by rw [hm1]; exact e); have e2 := HTY.out; omega
  have HM1 : Hid (((T.leave M k).th k).ws.length = m1) := hm1
  have HU1 : Hid (us2[k]? = some (Value.slice a1 m1 p1)) := by rw [hm1] at huY; exact huY
  unfold maxLen at hpm
  clear hm1 huY
  go_wp2_with fail
  have HB1 : Hid (Below y.heap.size y (y.alloc (.cells #[.int .i64 a, .int .i64 v] 94)).drew) := (bl_one _ _).drew
  have HW1 : Hid ((y.alloc (.cells #[.int .i64 a, .int .i64 v] 94)).drew.ownsRow B 94 2 (.slice a1 m1 p1) m1 (((T.leave M k).th k).ws.flatMap wC)) := hr1.kept (gb_of_below HB1.out (some y.heap.size)) (.inr fun e => by have := own_lt hr1 e; omega)
  have HNC : Hid (∀ j u, (wC (a, v))[j]? = some u → (y.alloc (.cells #[.int .i64 a, .int .i64 v] 94)).drew.cell? ((⟨y.heap.size, 0, none⟩ : Addr).add j) = some u) := fun j u hu => by
    rw [Addr.add_lit, Nat.zero_add]
    exact cell_last _ _ _ _ _ rfl (by simpa [wC] using hu)
  have HSK : Hid (∀ z : World, Below y.heap.size y z → (fun w' : World => w'.cell? ⟨b, 3, none⟩ = some (.slice (some ⟨g, 0, none⟩) n cap) ∧ w'.cell? ⟨w.heap.size, 1, none⟩ = some (.int .i64 a) ∧ w'.cell? ⟨w.heap.size, 2, none⟩ = some (.int .i64 v)) z) := fun z hz => ⟨cell_up hz c3y, cell_up hz o1, cell_up hz o2⟩
  have FT : (y.alloc (.cells #[.int .i64 a, .int .i64 v] 94)).drew.cell? ⟨g, k * 12 + 11, none⟩ = some (.slice a1 m1 p1) := cell_up HB1.out d1
  have GT : (y.alloc (.cells #[.int .i64 a, .int .i64 v] 94)).drew.frozen? ⟨g, k * 12 + 11, none⟩ = false := (HB1.out.frozen (p := ⟨g, k * 12 + 11, none⟩) hty).trans hg1
  have HD1 : Hid _ := d1
  have HR1 : Hid _ := hr1
  clear hr1
  refine wp_region_held_drew (S := (fun w' : World => w'.cell? ⟨b, 3, none⟩ = some (.slice (some ⟨g, 0, none⟩) n cap) ∧ w'.cell? ⟨w.heap.size, 1, none⟩ = some (.int .i64 a) ∧ w'.cell? ⟨w.heap.size, 2, none⟩ = some (.int .i64 v))) (by kernel_rfl) (HSK.out _ (Below.refl _ _).drew) (fun hHeld => ?_)
  refine tk (i := 0) (v := ?_) (tA rfl) (by kernel_rfl) (fun _ _ _ h => h) (Or.inl ⟨by rfl, ?_⟩) (by assumption) ?_
  rotate_left
  · (intro w hSw; (try dsimp only at hSw); go_simp <;> with_reducible rfl)
  simp only [Act.put, List.setIfInBounds_toArray, List.set_cons_zero, List.set_cons_succ]
  refine tk (i := 1) (v := ?_) (tA rfl) (by kernel_rfl) (fun _ _ _ h => h) (Or.inl ⟨by rfl, ?_⟩) (by assumption) ?_
  rotate_left
  · (intro w hSw; (try dsimp only at hSw); go_simp <;> with_reducible rfl)
  simp only [Act.put, List.setIfInBounds_toArray, List.set_cons_zero, List.set_cons_succ]
  refine tk (i := 2) (v := ?_) (tA rfl) (by kernel_rfl) (fun _ _ _ h => h) (Or.inl ⟨by rfl, ?_⟩) (by assumption) ?_
  rotate_left
  · (intro w hSw; (try dsimp only at hSw); go_simp <;> with_reducible rfl)
  simp only [Act.put, List.setIfInBounds_toArray, List.set_cons_zero, List.set_cons_succ]
  refine tk (i := 3) (v := ?_) (tA rfl) (by kernel_rfl) (fun _ _ _ h => h) (Or.inl ⟨by rfl, ?_⟩) (by assumption) ?_
  rotate_left
  · (intro w hSw; (try dsimp only at hSw); go_simp <;> with_reducible rfl)
  simp only [Act.put, List.setIfInBounds_toArray, List.set_cons_zero, List.set_cons_succ]
  refine tk (i := 4) (v := ?_) (tA rfl) (by kernel_rfl) (fun _ _ _ h => h) (Or.inl ⟨by rfl, ?_⟩) (by assumption) ?_
  rotate_left
  · (intro w hSw; (try dsimp only at hSw); go_simp <;> with_reducible rfl)
  simp only [Act.put, List.setIfInBounds_toArray, List.set_cons_zero, List.set_cons_succ]
  refine tk (i := 5) (v := ?_) (tA rfl) (by kernel_rfl) (fun _ _ _ h => h) (Or.inl ⟨by rfl, ?_⟩) (by assumption) ?_
  rotate_left
  · (intro w hSw; (try dsimp only at hSw); go_simp <;> with_reducible rfl)
  simp only [Act.put, List.setIfInBounds_toArray, List.set_cons_zero, List.set_cons_succ]
  refine tk (i := 6) (v := ?_) (tA rfl) (by kernel_rfl) (fun _ _ _ h => h) (Or.inl ⟨by rfl, ?_⟩) (by assumption) ?_
  rotate_left
  · (intro w hSw; (try dsimp only at hSw); go_simp <;> with_reducible rfl)
  simp only [Act.put, List.setIfInBounds_toArray, List.set_cons_zero, List.set_cons_succ]
  refine tk (i := 7) (v := ?_) (tA rfl) (by kernel_rfl) (fun _ _ _ h => h) (Or.inl ⟨by rfl, ?_⟩) (by assumption) ?_
  rotate_left
  · (intro w hSw; (try dsimp only at hSw); go_simp <;> with_reducible rfl)
  simp only [Act.put, List.setIfInBounds_toArray, List.set_cons_zero, List.set_cons_succ]
  refine tk (i := 8) (v := ?_) (tA rfl) (by kernel_rfl) (fun _ _ _ h => h) (Or.inl ⟨by rfl, ?_⟩) (by assumption) ?_
  rotate_left
  · (intro w hSw; (try dsimp only at hSw); go_simp <;> with_reducible rfl)
  simp only [Act.put, List.setIfInBounds_toArray, List.set_cons_zero, List.set_cons_succ]
  refine tk (i := 9) (v := ?_) (tA rfl) (by kernel_rfl) (fun _ _ _ h => h) (Or.inl ⟨by rfl, ?_⟩) (by assumption) ?_
  rotate_left
  · (intro w hSw; (try dsimp only at hSw); go_simp <;> with_reducible rfl)
  simp only [Act.put, List.setIfInBounds_toArray, List.set_cons_zero, List.set_cons_succ]
  refine tk (i := 10) (v := ?_) (tA rfl) (by kernel_rfl) (fun _ _ _ h => h) (Or.inl ⟨by rfl, ?_⟩) (by assumption) ?_
  rotate_left
  · (intro w hSw; (try dsimp only at hSw); go_simp <;> with_reducible rfl)
  simp only [Act.put, List.setIfInBounds_toArray, List.set_cons_zero, List.set_cons_succ]
  refine tk (i := 11) (v := ?_) (tA rfl) (by kernel_rfl) (fun _ _ _ h => h) (Or.inl ⟨by rfl, ?_⟩) (by assumption) ?_
  rotate_left
  · (intro w hSw; (try dsimp only at hSw); go_simp <;> with_reducible rfl)
  simp only [Act.put, List.setIfInBounds_toArray, List.set_cons_zero, List.set_cons_succ]
  refine tk (i := 13) (v := ?_) (tA rfl) (by kernel_rfl) (fun _ _ _ h => h) (Or.inl ⟨by rfl, ?_⟩) (by assumption) ?_
  rotate_left
  · (intro w hSw; (try dsimp only at hSw); go_simp <;> with_reducible rfl)
  simp only [Act.put, List.setIfInBounds_toArray, List.set_cons_zero, List.set_cons_succ]
  refine tk (i := 14) (v := ?_) (tA rfl) (by kernel_rfl) (fun _ _ _ h => h) (Or.inl ⟨by rfl, ?_⟩) (by assumption) ?_
  rotate_left
  · (intro w hSw; (try dsimp only at hSw); go_simp <;> with_reducible rfl)
  simp only [Act.put, List.setIfInBounds_toArray, List.set_cons_zero, List.set_cons_succ]
  refine tk (i := 15) (v := ?_) (tA rfl) (by kernel_rfl) (fun _ _ _ h => h) (Or.inl ⟨by rfl, ?_⟩) (by assumption) ?_
  rotate_left
  · (intro w hSw; (try dsimp only at hSw); go_simp <;> with_reducible rfl)
  simp only [Act.put, List.setIfInBounds_toArray, List.set_cons_zero, List.set_cons_succ]
  refine tk (i := 16) (v := ?_) (tA rfl) (by kernel_rfl) (fun _ _ _ h => h) (Or.inl ⟨by rfl, ?_⟩) (by assumption) ?_
  rotate_left
  · (intro w hSw; (try dsimp only at hSw); go_simp <;> with_reducible rfl)
  simp only [Act.put, List.setIfInBounds_toArray, List.set_cons_zero, List.set_cons_succ]
  refine tk (i := 17) (v := ?_) (tA rfl) (by kernel_rfl) (fun _ _ _ h => h) (Or.inl ⟨by rfl, ?_⟩) (by assumption) ?_
  rotate_left
  · (intro w hSw; (try dsimp only at hSw); go_simp <;> with_reducible rfl)
  simp only [Act.put, List.setIfInBounds_toArray, List.set_cons_zero, List.set_cons_succ]
  refine wpAnyH_ready (rs := [12, 18]) (by kernel_rfl) (by simp) ?_
  refine AllReadyH.cons (tA rfl) (fun K hK => ?_) (AllReadyH.cons (tA rfl) (fun K hK => ?_) AllReadyH.nil)
  · go_simp
    refine hK.out _ _ (by first | exact HSK.out _ (Below.refl _ _).drew | exact HSK.out _ HB1.out) (fun hHeld => ?_)
    clear hK K
    try simp only [Act.put, List.setIfInBounds_toArray, List.set_cons_zero, List.set_cons_succ]
    refine wpAnyH_ready (rs := [18]) (by kernel_rfl) (by simp) ?_
    refine AllReadyH.cons (tA rfl) (fun K hK => ?_) AllReadyH.nil
    go_simp
    refine hK.out _ _ (by first | exact HSK.out _ (Below.refl _ _).drew | exact HSK.out _ HB1.out) (fun hHeld => ?_)
    clear hK K
    try simp only [Act.put, List.setIfInBounds_toArray, List.set_cons_zero, List.set_cons_succ]
    refine wpAnyH_ready (rs := [19]) (by kernel_rfl) (by simp) ?_
    refine AllReadyH.cons (tA rfl) (fun K hK => ?_) AllReadyH.nil
    refine step_append_lies _ (by rfl) _ _ 44 (by rfl) B 94 iw _ 2 16 Tryd.underlying44 hiw hp0 hp1 hp2 (by rfl) (by decide) (.slice a1 m1 p1) m1 _ (by rfl) HW1.out ⟨y.heap.size, 0, none⟩ 1 1 (wC (a, v)) (by rfl) (by rfl) HNC.out (by intro u hu; simp [wC] at hu; rcases hu with rfl | rfl <;> rfl) (by decide) (by unfold maxLen; omega) (by omega) (by simp; omega) (y.heap.size + 1) (by simp) ?_
    intro x1 cp Y6 ho6 hg6 hat6 hlt6
    have m6 : Y6.cell? ⟨g, k * 12 + 11, none⟩ = some (.slice a1 m1 p1) := hg6.cell FT (fun e => hvg e.symm)
    have z6 : Y6.frozen? ⟨g, k * 12 + 11, none⟩ = false := (hg6.frozen_far ⟨g, k * 12 + 11, none⟩ (Nat.lt_of_lt_of_le hty HB1.out.size) (fun e => hvg e.symm)).trans GT
    refine hK.out _ _ ⟨(hg6.cell (cell_up HB1.out c3y) (fun e => hvb e.symm)), (hg6.cell (cell_up HB1.out o1) (fun e => hvx e.symm)), (hg6.cell (cell_up HB1.out o2) (fun e => hvx e.symm))⟩ (fun hHeld => ?_)
    clear hK K
    try simp only [Act.put, List.setIfInBounds_toArray, List.set_cons_zero, List.set_cons_succ]
    refine tk (i := 20) (v := ?_) (tA rfl) (by kernel_rfl) (fun _ _ _ h => h) (Or.inl ⟨by rfl, ?_⟩) (by assumption) ?_
    rotate_left
    · (intro w hSw; (try dsimp only at hSw); go_simp <;> with_reducible rfl)
    simp only [Act.put, List.setIfInBounds_toArray, List.set_cons_zero, List.set_cons_succ]
    refine tk (i := 21) (v := ?_) (tA rfl) (by kernel_rfl) (fun _ _ _ h => h) (Or.inl ⟨by rfl, ?_⟩) (by assumption) ?_
    rotate_left
    · (intro w hSw; (try dsimp only at hSw); go_simp <;> with_reducible rfl)
    simp only [Act.put, List.setIfInBounds_toArray, List.set_cons_zero, List.set_cons_succ]
    refine wpAnyH_ready (rs := [22]) (by kernel_rfl) (by simp) ?_
    refine AllReadyH.cons (tA rfl) (fun K hK => ?_) AllReadyH.nil
    clear hHeld
    go_simp
    have ho7 : Y6.ownsRow B 94 2 (.slice (some ⟨x1, 0, none⟩) (m1 + 1) cp) (((T.leave M k).th k).ws ++ [(a, v)]).length ((((T.leave M k).th k).ws ++ [(a, v)]).flatMap wC) := by
      rw [List.length_append, List.flatMap_append, HM1.out]
      simpa using ho6
    have HATF : Hid (∀ z, (Value.slice (some ⟨x1, 0, none⟩) (m1 + 1) cp).ownBlock = some z → (Value.slice a1 m1 p1).ownBlock = some z ∨ y.heap.size ≤ z) := fun z hz => by
      have hz' : x1 = z := by simpa [Value.ownBlock] using hz
      rw [← hz']
      exact hat6.imp id (fun e => by omega)
    obtain ⟨q1, q2⟩ := HV2.out.wait HKY.out HU1.out HB1.out ho7 hg6 (.inr rfl) HATF.out
    obtain ⟨ZZ, hZZ⟩ : ∃ ZZ, Y6.setCell ⟨g, k * 12 + 11, none⟩ (.slice (some ⟨x1, 0, none⟩) (m1 + 1) cp) = ZZ := ⟨_, rfl⟩
    rw [hZZ] at q1 q2
    rw [hZZ]
    have HQ1 : Hid _ := q1
    have HQ2 : Hid (St t _ w ZZ) := HS2.out.trans q2
    refine hK.out _ _ ⟨(by have h9 := q1.c3; rw [HLZ.out] at h9; exact h9), (st_cell q2 HTY.out o1), (st_cell q2 HTY.out o2)⟩ (fun hHeld => ?_)
    clear hK K hZZ m6 z6 q1 q2 ho7 ho6 hg6 hat6 hlt6
    try simp only [Act.put, List.setIfInBounds_toArray, List.set_cons_zero, List.set_cons_succ]
    refine wpAnyH_done (by kernel_rfl) ?_ _
    clear hHeld
    go_wp2
    go_ret
    exact ⟨rfl, _, _, _, _, _, HQ1.out, HQ2.out⟩
  · go_simp
    refine hK.out _ _ (by first | exact HSK.out _ (Below.refl _ _).drew | exact HSK.out _ HB1.out) (fun hHeld => ?_)
    clear hK K
    try simp only [Act.put, List.setIfInBounds_toArray, List.set_cons_zero, List.set_cons_succ]
    refine wpAnyH_ready (rs := [12]) (by kernel_rfl) (by simp) ?_
    refine AllReadyH.cons (tA rfl) (fun K hK => ?_) AllReadyH.nil
    go_simp
    refine hK.out _ _ (by first | exact HSK.out _ (Below.refl _ _).drew | exact HSK.out _ HB1.out) (fun hHeld => ?_)
    clear hK K
    try simp only [Act.put, List.setIfInBounds_toArray, List.set_cons_zero, List.set_cons_succ]
    refine wpAnyH_ready (rs := [19]) (by kernel_rfl) (by simp) ?_
    refine AllReadyH.cons (tA rfl) (fun K hK => ?_) AllReadyH.nil
    refine step_append_lies _ (by rfl) _ _ 44 (by rfl) B 94 iw _ 2 16 Tryd.underlying44 hiw hp0 hp1 hp2 (by rfl) (by decide) (.slice a1 m1 p1) m1 _ (by rfl) HW1.out ⟨y.heap.size, 0, none⟩ 1 1 (wC (a, v)) (by rfl) (by rfl) HNC.out (by intro u hu; simp [wC] at hu; rcases hu with rfl | rfl <;> rfl) (by decide) (by unfold maxLen; omega) (by omega) (by simp; omega) (y.heap.size + 1) (by simp) ?_
    intro x1 cp Y6 ho6 hg6 hat6 hlt6
    have m6 : Y6.cell? ⟨g, k * 12 + 11, none⟩ = some (.slice a1 m1 p1) := hg6.cell FT (fun e => hvg e.symm)
    have z6 : Y6.frozen? ⟨g, k * 12 + 11, none⟩ = false := (hg6.frozen_far ⟨g, k * 12 + 11, none⟩ (Nat.lt_of_lt_of_le hty HB1.out.size) (fun e => hvg e.symm)).trans GT
    refine hK.out _ _ ⟨(hg6.cell (cell_up HB1.out c3y) (fun e => hvb e.symm)), (hg6.cell (cell_up HB1.out o1) (fun e => hvx e.symm)), (hg6.cell (cell_up HB1.out o2) (fun e => hvx e.symm))⟩ (fun hHeld => ?_)
    clear hK K
    try simp only [Act.put, List.setIfInBounds_toArray, List.set_cons_zero, List.set_cons_succ]
    refine tk (i := 20) (v := ?_) (tA rfl) (by kernel_rfl) (fun _ _ _ h => h) (Or.inl ⟨by rfl, ?_⟩) (by assumption) ?_
    rotate_left
    · (intro w hSw; (try dsimp only at hSw); go_simp <;> with_reducible rfl)
    simp only [Act.put, List.setIfInBounds_toArray, List.set_cons_zero, List.set_cons_succ]
    refine tk (i := 21) (v := ?_) (tA rfl) (by kernel_rfl) (fun _ _ _ h => h) (Or.inl ⟨by rfl, ?_⟩) (by assumption) ?_
    rotate_left
    · (intro w hSw; (try dsimp only at hSw); go_simp <;> with_reducible rfl)
    simp only [Act.put, List.setIfInBounds_toArray, List.set_cons_zero, List.set_cons_succ]
    refine wpAnyH_ready (rs := [22]) (by kernel_rfl) (by simp) ?_
    refine AllReadyH.cons (tA rfl) (fun K hK => ?_) AllReadyH.nil
    clear hHeld
    go_simp
    have ho7 : Y6.ownsRow B 94 2 (.slice (some ⟨x1, 0, none⟩) (m1 + 1) cp) (((T.leave M k).th k).ws ++ [(a, v)]).length ((((T.leave M k).th k).ws ++ [(a, v)]).flatMap wC) := by
      rw [List.length_append, List.flatMap_append, HM1.out]
      simpa using ho6
    have HATF : Hid (∀ z, (Value.slice (some ⟨x1, 0, none⟩) (m1 + 1) cp).ownBlock = some z → (Value.slice a1 m1 p1).ownBlock = some z ∨ y.heap.size ≤ z) := fun z hz => by
      have hz' : x1 = z := by simpa [Value.ownBlock] using hz
      rw [← hz']
      exact hat6.imp id (fun e => by omega)
    obtain ⟨q1, q2⟩ := HV2.out.wait HKY.out HU1.out HB1.out ho7 hg6 (.inr rfl) HATF.out
    obtain ⟨ZZ, hZZ⟩ : ∃ ZZ, Y6.setCell ⟨g, k * 12 + 11, none⟩ (.slice (some ⟨x1, 0, none⟩) (m1 + 1) cp) = ZZ := ⟨_, rfl⟩
    rw [hZZ] at q1 q2
    rw [hZZ]
    have HQ1 : Hid _ := q1
    have HQ2 : Hid (St t _ w ZZ) := HS2.out.trans q2
    refine hK.out _ _ ⟨(by have h9 := q1.c3; rw [HLZ.out] at h9; exact h9), (st_cell q2 HTY.out o1), (st_cell q2 HTY.out o2)⟩ (fun hHeld => ?_)
    clear hK K hZZ m6 z6 q1 q2 ho7 ho6 hg6 hat6 hlt6
    try simp only [Act.put, List.setIfInBounds_toArray, List.set_cons_zero, List.set_cons_succ]
    refine wpAnyH_done (by kernel_rfl) ?_ _
    clear hHeld
    go_wp2
    go_ret
    exact ⟨rfl, _, _, _, _, _, HQ1.out, HQ2.out⟩

end Go.Proofs.YtffokdldgdjkhaaDoor.X

/- The document's machine: an exchange. (Written by gen_xask.py.) -/
namespace Go.Proofs.YtffokdldgdjkhaaDoor.X
open Go.RowKit Go.Maps
set_option linter.unusedVariables false
set_option linter.unusedSimpArgs false

set_option maxRecDepth 100000 in
set_option maxHeartbeats 8000000 in
theorem xask_3 {B : Nat} {w : World} {b : Nat} {M : T.Mach} {t : Nat → Nat} {D Sk : List Int} {vd vs : Value} {g cap : Nat} {ev : Value} {us : List Value} (h : XV B w b M t D Sk vd vs g cap ev us) {k : Nat} (hk : k < M.ts.length) (hok : WsOk (M.th k).ws) (h8 : (M.th k).ws.length ≤ 8) {a v r : Int} (ha : (Lit.int .i64 a).wf = true) (hm : (M.mem a).isSome = true) :
    Calls Tryd.prog 41 #[.pointer (some ⟨b, 0, none⟩), .int .i64 k, S.reqV 3 a v r] w fun e w' => e = .returned (.bool true) ∧ XGone B w w' b (T.setC (T.swap M k a v) k (S.finish (M.th k).c 3 r (((T.drain M k).mem a).getD 0))) t vd vs g cap := by
  obtain ⟨X1, hX1⟩ : ∃ X1, w.alloc (.cells #[.int .i64 3, .int .i64 a, .int .i64 v, .int .i64 r] 96) = X1 := ⟨_, rfl⟩
  have hb1 : Below w.heap.size w X1 := by subst hX1; exact bl_one _ _
  have hs1 : w.heap.size < X1.heap.size := by subst hX1; simp
  have o0 : X1.cell? ⟨w.heap.size, 0, none⟩ = some (.int .i64 3) := by subst hX1; exact cell_last _ _ _ _ _ rfl rfl
  have o1 : X1.cell? ⟨w.heap.size, 1, none⟩ = some (.int .i64 a) := by subst hX1; exact cell_last _ _ _ _ _ rfl rfl
  have o2 : X1.cell? ⟨w.heap.size, 2, none⟩ = some (.int .i64 v) := by subst hX1; exact cell_last _ _ _ _ _ rfl rfl
  have o3 : X1.cell? ⟨w.heap.size, 3, none⟩ = some (.int .i64 r) := by subst hX1; exact cell_last _ _ _ _ _ rfl rfl
  have hv1 : XV B X1 b M t D Sk vd vs g cap ev us := h.below hb1
  have HTX : Hid (t w.heap.size = 0) := Classical.byContradiction fun e => by have := (h.lt _ e).2; omega
  have HB1 : Hid (Below w.heap.size w X1) := hb1
  have HV1 : Hid (XV B X1 b M t D Sk vd vs g cap ev us) := hv1
  have hro := hv1.room
  obtain ⟨n, hn⟩ : ∃ n, M.ts.length = n := ⟨_, rfl⟩
  have HTL : Hid (M.ts.length = n) := hn
  rw [hn] at hro
  obtain ⟨r1, r2, r3, r4⟩ := hro
  have hkn : k < n := by omega
  unfold maxLen at r2
  have i1 : (k : Int) < (n : Int) := by omega
  have i0 : (0 : Int) ≤ (k : Int) := by omega
  have HW : Hid _ := xword_any hv1 ha
  obtain ⟨z1, hz1⟩ : ∃ z1, (M.mem a).getD 0 = z1 := ⟨_, rfl⟩
  rw [hz1, show T.er (M.mem a) = 0 by cases e : M.mem a with
    | none => rw [e] at hm; cases hm
    | some x => rfl] at HW
  have HX1 : Hid _ := hX1
  have HSX : Hid (St t t w X1) := St.ofBelow t hb1
  have HDR : Hid _ := xdrain_any hv1 hk hok
  obtain ⟨nn, hnn⟩ : ∃ nn, ((T.drain M k).mem a).getD 0 = nn := ⟨_, rfl⟩
  have HNN : Hid (((T.drain M k).mem a).getD 0 = nn) := hnn
  obtain ⟨z3, hz3⟩ : ∃ z3, T.er ((T.drain M k).mem a) = z3 := ⟨_, rfl⟩
  have HZ3 : Hid (T.er ((T.drain M k).mem a) = z3) := hz3
  have HAW : Hid ((Lit.int .i64 a).wf = true) := ha
  rw [hnn]
  obtain ⟨vv, hvv⟩ : ∃ vv, v = vv := ⟨_, rfl⟩
  rw [show T.swap M k a v = T.swap M k a vv by rw [hvv]]
  have hth9 : (T.swap M k a vv).th k = ⟨(M.th k).c, []⟩ := T.th_put hk (T.upds M.mem (M.th k).ws) ⟨(M.th k).c, []⟩
  have hth : ((T.swap M k a vv).th k).c = (M.th k).c := by rw [hth9]
  clear hth9
  have HKY : Hid (k < (T.swap M k a vv).ts.length) := by show k < (M.put k _ _).ts.length; rw [T.len_put]; exact hk
  have HLY : Hid ((T.swap M k a vv).ts.length = n) := (T.len_put M k _ _).trans hn
  obtain ⟨cc, hcc⟩ : ∃ cc, (M.th k).c = cc := ⟨_, rfl⟩
  rw [hcc] at hth
  have HTH : Hid (((T.swap M k a vv).th k).c = cc) := hth
  rw [hcc]
  obtain ⟨dd, hdd⟩ : ∃ dd, S.finish cc 3 r nn = dd := ⟨_, rfl⟩
  have HDD : Hid (S.finish cc 3 r nn = dd) := hdd
  rw [hdd]
  have HLZ : Hid ((T.setC (T.swap M k a vv) k dd).ts.length = n) := (T.len_put _ k _ _).trans HLY.out
  clear h hv1 hm hok h8 hn hk hb1 hz1 hnn hz3 hth hcc hdd 
  subst hvv
  go_enter Tryd.func41, Tryd.ntmps41
  go_wp2_with fail
  refine Calls.mono HW.out ?_
  rintro e y0 ⟨rfl, rfl⟩
  go_wp2_with fail
  refine Calls.mono HDR.out ?_
  rintro e y ⟨rfl, t2, D2, S2, ev2, us2, hv2, hs2⟩
  have HV2 : Hid (XV B y b (T.drain M k) t2 D2 S2 vd vs g cap ev2 us2) := hv2
  have HS2 : Hid (St t t2 w y) := HSX.out.trans hs2
  have HTY : Hid (t2 w.heap.size = 0) := (hs2.tag _ hs1).trans HTX.out
  have o0 := st_cell hs2 (p := ⟨w.heap.size, 0, none⟩) HTX.out o0
  have o1 := st_cell hs2 (p := ⟨w.heap.size, 1, none⟩) HTX.out o1
  have o2 := st_cell hs2 (p := ⟨w.heap.size, 2, none⟩) HTX.out o2
  have o3 := st_cell hs2 (p := ⟨w.heap.size, 3, none⟩) HTX.out o3
  have HW2 : Hid _ := xword_any hv2 HAW.out
  rw [HNN.out, HZ3.out] at HW2
  have HST : Hid _ := xset_any hv2 HAW.out v
  clear hv2 hs2
  go_wp2_with fail
  refine Calls.mono HW2.out ?_
  rintro e y2 ⟨rfl, rfl⟩
  go_wp2_with fail
  refine Calls.mono HST.out ?_
  rintro e y3 ⟨rfl, D3, S3, hv3, hs3⟩
  have HV3 : Hid (XV B y3 b (T.swap M k a v) t2 D3 S3 vd vs g cap ev2 us2) := hv3
  have HS3 : Hid (St t t2 w y3) := HS2.out.trans hs3
  have o0 := st_cell hs3 (p := ⟨w.heap.size, 0, none⟩) HTY.out o0
  have o1 := st_cell hs3 (p := ⟨w.heap.size, 1, none⟩) HTY.out o1
  have o2 := st_cell hs3 (p := ⟨w.heap.size, 2, none⟩) HTY.out o2
  have o3 := st_cell hs3 (p := ⟨w.heap.size, 3, none⟩) HTY.out o3
  have c3y := HV3.out.c3
  rw [HLY.out] at c3y
  obtain ⟨uy3, huy3⟩ := HV3.out.u HKY.out
  have d0 : y3.cell? ⟨g, k * 12, none⟩ = some (.int .i64 ((T.swap M k a v).th k).c.r0) := HV3.out.cell HKY.out huy3 0 _ rfl
  have d1 : y3.cell? ⟨g, k * 12 + 1, none⟩ = some (.int .i64 ((T.swap M k a v).th k).c.r1) := HV3.out.cell HKY.out huy3 1 _ rfl
  have d2 : y3.cell? ⟨g, k * 12 + 2, none⟩ = some (.int .i64 ((T.swap M k a v).th k).c.r2) := HV3.out.cell HKY.out huy3 2 _ rfl
  have d3 : y3.cell? ⟨g, k * 12 + 3, none⟩ = some (.int .i64 ((T.swap M k a v).th k).c.r3) := HV3.out.cell HKY.out huy3 3 _ rfl
  have d4 : y3.cell? ⟨g, k * 12 + 4, none⟩ = some (.int .i64 ((T.swap M k a v).th k).c.r4) := HV3.out.cell HKY.out huy3 4 _ rfl
  have d5 : y3.cell? ⟨g, k * 12 + 5, none⟩ = some (.int .i64 ((T.swap M k a v).th k).c.r5) := HV3.out.cell HKY.out huy3 5 _ rfl
  have d6 : y3.cell? ⟨g, k * 12 + 6, none⟩ = some (.int .i64 ((T.swap M k a v).th k).c.r6) := HV3.out.cell HKY.out huy3 6 _ rfl
  have d7 : y3.cell? ⟨g, k * 12 + 7, none⟩ = some (.int .i64 ((T.swap M k a v).th k).c.r7) := HV3.out.cell HKY.out huy3 7 _ rfl
  have d8 : y3.cell? ⟨g, k * 12 + 8, none⟩ = some (.int .i64 ((T.swap M k a v).th k).c.pc) := HV3.out.cell HKY.out huy3 8 _ rfl
  have d9 : y3.cell? ⟨g, k * 12 + 9, none⟩ = some (.int .i64 ((T.swap M k a v).th k).c.st) := HV3.out.cell HKY.out huy3 9 _ rfl
  have d10 : y3.cell? ⟨g, k * 12 + 10, none⟩ = some (.int .i64 ((T.swap M k a v).th k).c.tr) := HV3.out.cell HKY.out huy3 10 _ rfl
  rw [HTH.out] at d0 d1 d2 d3 d4 d5 d6 d7 d8 d9 d10
  have HUY : Hid (us2[k]? = some uy3) := huy3
  have hfin := rfinish_any cc 3 a v r nn y3.drew
  rw [HDD.out] at hfin
  have HFIN : Hid _ := hfin
  clear hv3 hs3 huy3 hfin HST HW2
  go_wp2_with fail
  have HC3 : Hid (∀ z : World, Below y3.heap.size y3 z → z.cell? ⟨b, 3, none⟩ = some (.slice (some ⟨g, 0, none⟩) n cap)) := fun z hz => cell_up hz c3y
  refine wp_region_held_drew (S := (fun w' : World => w'.cell? ⟨b, 3, none⟩ = some (.slice (some ⟨g, 0, none⟩) n cap))) (by kernel_rfl) (HC3.out _ (Below.refl _ _).drew) (fun hHeld => ?_)
  refine tk (i := 0) (v := ?_) (tA rfl) (by kernel_rfl) (fun _ _ _ h => h) (Or.inl ⟨by rfl, ?_⟩) (by assumption) ?_
  rotate_left
  · (intro w hSw; (try dsimp only at hSw); go_simp <;> with_reducible rfl)
  simp only [Act.put, List.setIfInBounds_toArray, List.set_cons_zero, List.set_cons_succ]
  refine tk (i := 1) (v := ?_) (tA rfl) (by kernel_rfl) (fun _ _ _ h => h) (Or.inl ⟨by rfl, ?_⟩) (by assumption) ?_
  rotate_left
  · (intro w hSw; (try dsimp only at hSw); go_simp <;> with_reducible rfl)
  simp only [Act.put, List.setIfInBounds_toArray, List.set_cons_zero, List.set_cons_succ]
  refine tk (i := 2) (v := ?_) (tA rfl) (by kernel_rfl) (fun _ _ _ h => h) (Or.inl ⟨by rfl, ?_⟩) (by assumption) ?_
  rotate_left
  · (intro w hSw; (try dsimp only at hSw); go_simp <;> with_reducible rfl)
  simp only [Act.put, List.setIfInBounds_toArray, List.set_cons_zero, List.set_cons_succ]
  refine tk (i := 3) (v := ?_) (tA rfl) (by kernel_rfl) (fun _ _ _ h => h) (Or.inl ⟨by rfl, ?_⟩) (by assumption) ?_
  rotate_left
  · (intro w hSw; (try dsimp only at hSw); go_simp <;> with_reducible rfl)
  simp only [Act.put, List.setIfInBounds_toArray, List.set_cons_zero, List.set_cons_succ]
  refine tk (i := 4) (v := ?_) (tA rfl) (by kernel_rfl) (fun _ _ _ h => h) (Or.inl ⟨by rfl, ?_⟩) (by assumption) ?_
  rotate_left
  · (intro w hSw; (try dsimp only at hSw); go_simp <;> with_reducible rfl)
  simp only [Act.put, List.setIfInBounds_toArray, List.set_cons_zero, List.set_cons_succ]
  refine tk (i := 5) (v := ?_) (tA rfl) (by kernel_rfl) (fun _ _ _ h => h) (Or.inl ⟨by rfl, ?_⟩) (by assumption) ?_
  rotate_left
  · (intro w hSw; (try dsimp only at hSw); go_simp <;> with_reducible rfl)
  simp only [Act.put, List.setIfInBounds_toArray, List.set_cons_zero, List.set_cons_succ]
  refine tk (i := 6) (v := ?_) (tA rfl) (by kernel_rfl) (fun _ _ _ h => h) (Or.inl ⟨by rfl, ?_⟩) (by assumption) ?_
  rotate_left
  · (intro w hSw; (try dsimp only at hSw); go_simp <;> with_reducible rfl)
  simp only [Act.put, List.setIfInBounds_toArray, List.set_cons_zero, List.set_cons_succ]
  refine tk (i := 7) (v := ?_) (tA rfl) (by kernel_rfl) (fun _ _ _ h => h) (Or.inl ⟨by rfl, ?_⟩) (by assumption) ?_
  rotate_left
  · (intro w hSw; (try dsimp only at hSw); go_simp <;> with_reducible rfl)
  simp only [Act.put, List.setIfInBounds_toArray, List.set_cons_zero, List.set_cons_succ]
  refine tk (i := 8) (v := ?_) (tA rfl) (by kernel_rfl) (fun _ _ _ h => h) (Or.inl ⟨by rfl, ?_⟩) (by assumption) ?_
  rotate_left
  · (intro w hSw; (try dsimp only at hSw); go_simp <;> with_reducible rfl)
  simp only [Act.put, List.setIfInBounds_toArray, List.set_cons_zero, List.set_cons_succ]
  refine tk (i := 9) (v := ?_) (tA rfl) (by kernel_rfl) (fun _ _ _ h => h) (Or.inl ⟨by rfl, ?_⟩) (by assumption) ?_
  rotate_left
  · (intro w hSw; (try dsimp only at hSw); go_simp <;> with_reducible rfl)
  simp only [Act.put, List.setIfInBounds_toArray, List.set_cons_zero, List.set_cons_succ]
  refine tk (i := 10) (v := ?_) (tA rfl) (by kernel_rfl) (fun _ _ _ h => h) (Or.inl ⟨by rfl, ?_⟩) (by assumption) ?_
  rotate_left
  · (intro w hSw; (try dsimp only at hSw); go_simp <;> with_reducible rfl)
  simp only [Act.put, List.setIfInBounds_toArray, List.set_cons_zero, List.set_cons_succ]
  refine tk (i := 11) (v := ?_) (tA rfl) (by kernel_rfl) (fun _ _ _ h => h) (Or.inl ⟨by rfl, ?_⟩) (by assumption) ?_
  rotate_left
  · (intro w hSw; (try dsimp only at hSw); go_simp <;> with_reducible rfl)
  simp only [Act.put, List.setIfInBounds_toArray, List.set_cons_zero, List.set_cons_succ]
  refine tk (i := 14) (v := ?_) (tA rfl) (by kernel_rfl) (fun _ _ _ h => h) (Or.inl ⟨by rfl, ?_⟩) (by assumption) ?_
  rotate_left
  · (intro w hSw; (try dsimp only at hSw); go_simp <;> with_reducible rfl)
  simp only [Act.put, List.setIfInBounds_toArray, List.set_cons_zero, List.set_cons_succ]
  refine wpAnyH_ready (rs := [12, 13]) (by kernel_rfl) (by simp) ?_
  refine AllReadyH.cons (tA rfl) (fun K hK => ?_) (AllReadyH.cons (tA rfl) (fun K hK => ?_) AllReadyH.nil)
  · go_simp
    refine hK.out _ _ (HC3.out _ (Below.refl _ _).drew) (fun hHeld => ?_)
    clear hK K
    try simp only [Act.put, List.setIfInBounds_toArray, List.set_cons_zero, List.set_cons_succ]
    refine wpAnyH_ready (rs := [13]) (by kernel_rfl) (by simp) ?_
    refine AllReadyH.cons (tA rfl) (fun K hK => ?_) AllReadyH.nil
    go_simp
    refine hK.out _ _ (HC3.out _ (Below.refl _ _).drew) (fun hHeld => ?_)
    clear hK K
    try simp only [Act.put, List.setIfInBounds_toArray, List.set_cons_zero, List.set_cons_succ]
    refine wpAnyH_ready (rs := [15]) (by kernel_rfl) (by simp) ?_
    refine AllReadyH.cons (tA rfl) (fun K hK => ?_) AllReadyH.nil
    go_simp
    refine Calls.mono HFIN.out ?_
    rintro e z ⟨rfl, hbz⟩
    have hbz2 : Below y3.heap.size y3 z := (Below.refl _ _).drew.trans hbz
    have hvz := HV3.out.below hbz2
    have HSZ : Hid (St t _ w z) := HS3.out.trans (St.ofBelow _ hbz2)
    have HVZ : Hid (XV B z b _ _ _ _ vd vs g cap _ _) := hvz
    try go_wp2_with fail
    refine hK.out _ _ (HC3.out _ hbz2) (fun hHeld => ?_)
    clear hK K
    try simp only [Act.put, List.setIfInBounds_toArray, List.set_cons_zero, List.set_cons_succ]
    refine tk (i := 16) (v := ?_) (tA rfl) (by kernel_rfl) (fun _ _ _ h => h) (Or.inl ⟨by rfl, ?_⟩) (by assumption) ?_
    rotate_left
    · (intro w hSw; (try dsimp only at hSw); go_simp <;> with_reducible rfl)
    simp only [Act.put, List.setIfInBounds_toArray, List.set_cons_zero, List.set_cons_succ]
    refine tk (i := 17) (v := ?_) (tA rfl) (by kernel_rfl) (fun _ _ _ h => h) (Or.inl ⟨by rfl, ?_⟩) (by assumption) ?_
    rotate_left
    · (intro w hSw; (try dsimp only at hSw); go_simp <;> with_reducible rfl)
    simp only [Act.put, List.setIfInBounds_toArray, List.set_cons_zero, List.set_cons_succ]
    refine wpAnyH_ready (rs := [18]) (by kernel_rfl) (by simp) ?_
    refine AllReadyH.cons (tA rfl) (fun K hK => ?_) AllReadyH.nil
    clear hHeld HFIN
    have e0 : z.cell? ⟨g, k * 12, none⟩ = some (.int .i64 ((T.swap M k a v).th k).c.r0) := hvz.cell HKY.out HUY.out 0 _ rfl
    have f0 := hvz.gz (k * 12)
    have e1 : z.cell? ⟨g, k * 12 + 1, none⟩ = some (.int .i64 ((T.swap M k a v).th k).c.r1) := hvz.cell HKY.out HUY.out 1 _ rfl
    have f1 := hvz.gz (k * 12 + 1)
    have e2 : z.cell? ⟨g, k * 12 + 2, none⟩ = some (.int .i64 ((T.swap M k a v).th k).c.r2) := hvz.cell HKY.out HUY.out 2 _ rfl
    have f2 := hvz.gz (k * 12 + 2)
    have e3 : z.cell? ⟨g, k * 12 + 3, none⟩ = some (.int .i64 ((T.swap M k a v).th k).c.r3) := hvz.cell HKY.out HUY.out 3 _ rfl
    have f3 := hvz.gz (k * 12 + 3)
    have e4 : z.cell? ⟨g, k * 12 + 4, none⟩ = some (.int .i64 ((T.swap M k a v).th k).c.r4) := hvz.cell HKY.out HUY.out 4 _ rfl
    have f4 := hvz.gz (k * 12 + 4)
    have e5 : z.cell? ⟨g, k * 12 + 5, none⟩ = some (.int .i64 ((T.swap M k a v).th k).c.r5) := hvz.cell HKY.out HUY.out 5 _ rfl
    have f5 := hvz.gz (k * 12 + 5)
    have e6 : z.cell? ⟨g, k * 12 + 6, none⟩ = some (.int .i64 ((T.swap M k a v).th k).c.r6) := hvz.cell HKY.out HUY.out 6 _ rfl
    have f6 := hvz.gz (k * 12 + 6)
    have e7 : z.cell? ⟨g, k * 12 + 7, none⟩ = some (.int .i64 ((T.swap M k a v).th k).c.r7) := hvz.cell HKY.out HUY.out 7 _ rfl
    have f7 := hvz.gz (k * 12 + 7)
    have e8 : z.cell? ⟨g, k * 12 + 8, none⟩ = some (.int .i64 ((T.swap M k a v).th k).c.pc) := hvz.cell HKY.out HUY.out 8 _ rfl
    have f8 := hvz.gz (k * 12 + 8)
    have e9 : z.cell? ⟨g, k * 12 + 9, none⟩ = some (.int .i64 ((T.swap M k a v).th k).c.st) := hvz.cell HKY.out HUY.out 9 _ rfl
    have f9 := hvz.gz (k * 12 + 9)
    have e10 : z.cell? ⟨g, k * 12 + 10, none⟩ = some (.int .i64 ((T.swap M k a v).th k).c.tr) := hvz.cell HKY.out HUY.out 10 _ rfl
    have f10 := hvz.gz (k * 12 + 10)
    clear hvz d0 d1 d2 d3 d4 d5 d6 d7 d8 d9 d10 o0 o1 o2 o3
    go_simp
    obtain ⟨HXX, HSS⟩ := HVZ.out.regs HKY.out rfl dd
    obtain ⟨ZZ, hZZ⟩ : ∃ ZZ, (((((((((((z.setCell ⟨g, k * 12, none⟩ (.int .i64 dd.r0)).setCell ⟨g, k * 12 + 1, none⟩ (.int .i64 dd.r1)).setCell ⟨g, k * 12 + 2, none⟩ (.int .i64 dd.r2)).setCell ⟨g, k * 12 + 3, none⟩ (.int .i64 dd.r3)).setCell ⟨g, k * 12 + 4, none⟩ (.int .i64 dd.r4)).setCell ⟨g, k * 12 + 5, none⟩ (.int .i64 dd.r5)).setCell ⟨g, k * 12 + 6, none⟩ (.int .i64 dd.r6)).setCell ⟨g, k * 12 + 7, none⟩ (.int .i64 dd.r7)).setCell ⟨g, k * 12 + 8, none⟩ (.int .i64 dd.pc)).setCell ⟨g, k * 12 + 9, none⟩ (.int .i64 dd.st)).setCell ⟨g, k * 12 + 10, none⟩ (.int .i64 dd.tr)) = ZZ := ⟨_, rfl⟩
    rw [hZZ] at HXX HSS
    rw [hZZ]
    have cZ : ZZ.cell? ⟨b, 3, none⟩ = some (.slice (some ⟨g, 0, none⟩) n cap) := by have h9 := HXX.c3; rw [HLZ.out] at h9; exact h9
    have HXZ : Hid _ := HXX
    have HSZ2 : Hid (St t _ w ZZ) := HSZ.out.trans HSS
    clear hZZ HXX HSS e0 f0 e1 f1 e2 f2 e3 f3 e4 f4 e5 f5 e6 f6 e7 f7 e8 f8 e9 f9 e10 f10
    refine hK.out _ _ cZ (fun hHeld => ?_)
    clear hK K
    try simp only [Act.put, List.setIfInBounds_toArray, List.set_cons_zero, List.set_cons_succ]
    refine wpAnyH_done (by kernel_rfl) ?_ _
    clear hHeld
    go_wp2
    go_ret
    exact ⟨rfl, _, _, _, _, _, HXZ.out, HSZ2.out⟩
  · go_simp
    refine hK.out _ _ (HC3.out _ (Below.refl _ _).drew) (fun hHeld => ?_)
    clear hK K
    try simp only [Act.put, List.setIfInBounds_toArray, List.set_cons_zero, List.set_cons_succ]
    refine wpAnyH_ready (rs := [12]) (by kernel_rfl) (by simp) ?_
    refine AllReadyH.cons (tA rfl) (fun K hK => ?_) AllReadyH.nil
    go_simp
    refine hK.out _ _ (HC3.out _ (Below.refl _ _).drew) (fun hHeld => ?_)
    clear hK K
    try simp only [Act.put, List.setIfInBounds_toArray, List.set_cons_zero, List.set_cons_succ]
    refine wpAnyH_ready (rs := [15]) (by kernel_rfl) (by simp) ?_
    refine AllReadyH.cons (tA rfl) (fun K hK => ?_) AllReadyH.nil
    go_simp
    refine Calls.mono HFIN.out ?_
    rintro e z ⟨rfl, hbz⟩
    have hbz2 : Below y3.heap.size y3 z := (Below.refl _ _).drew.trans hbz
    have hvz := HV3.out.below hbz2
    have HSZ : Hid (St t _ w z) := HS3.out.trans (St.ofBelow _ hbz2)
    have HVZ : Hid (XV B z b _ _ _ _ vd vs g cap _ _) := hvz
    try go_wp2_with fail
    refine hK.out _ _ (HC3.out _ hbz2) (fun hHeld => ?_)
    clear hK K
    try simp only [Act.put, List.setIfInBounds_toArray, List.set_cons_zero, List.set_cons_succ]
    refine tk (i := 16) (v := ?_) (tA rfl) (by kernel_rfl) (fun _ _ _ h => h) (Or.inl ⟨by rfl, ?_⟩) (by assumption) ?_
    rotate_left
    · (intro w hSw; (try dsimp only at hSw); go_simp <;> with_reducible rfl)
    simp only [Act.put, List.setIfInBounds_toArray, List.set_cons_zero, List.set_cons_succ]
    refine tk (i := 17) (v := ?_) (tA rfl) (by kernel_rfl) (fun _ _ _ h => h) (Or.inl ⟨by rfl, ?_⟩) (by assumption) ?_
    rotate_left
    · (intro w hSw; (try dsimp only at hSw); go_simp <;> with_reducible rfl)
    simp only [Act.put, List.setIfInBounds_toArray, List.set_cons_zero, List.set_cons_succ]
    refine wpAnyH_ready (rs := [18]) (by kernel_rfl) (by simp) ?_
    refine AllReadyH.cons (tA rfl) (fun K hK => ?_) AllReadyH.nil
    clear hHeld HFIN
    have e0 : z.cell? ⟨g, k * 12, none⟩ = some (.int .i64 ((T.swap M k a v).th k).c.r0) := hvz.cell HKY.out HUY.out 0 _ rfl
    have f0 := hvz.gz (k * 12)
    have e1 : z.cell? ⟨g, k * 12 + 1, none⟩ = some (.int .i64 ((T.swap M k a v).th k).c.r1) := hvz.cell HKY.out HUY.out 1 _ rfl
    have f1 := hvz.gz (k * 12 + 1)
    have e2 : z.cell? ⟨g, k * 12 + 2, none⟩ = some (.int .i64 ((T.swap M k a v).th k).c.r2) := hvz.cell HKY.out HUY.out 2 _ rfl
    have f2 := hvz.gz (k * 12 + 2)
    have e3 : z.cell? ⟨g, k * 12 + 3, none⟩ = some (.int .i64 ((T.swap M k a v).th k).c.r3) := hvz.cell HKY.out HUY.out 3 _ rfl
    have f3 := hvz.gz (k * 12 + 3)
    have e4 : z.cell? ⟨g, k * 12 + 4, none⟩ = some (.int .i64 ((T.swap M k a v).th k).c.r4) := hvz.cell HKY.out HUY.out 4 _ rfl
    have f4 := hvz.gz (k * 12 + 4)
    have e5 : z.cell? ⟨g, k * 12 + 5, none⟩ = some (.int .i64 ((T.swap M k a v).th k).c.r5) := hvz.cell HKY.out HUY.out 5 _ rfl
    have f5 := hvz.gz (k * 12 + 5)
    have e6 : z.cell? ⟨g, k * 12 + 6, none⟩ = some (.int .i64 ((T.swap M k a v).th k).c.r6) := hvz.cell HKY.out HUY.out 6 _ rfl
    have f6 := hvz.gz (k * 12 + 6)
    have e7 : z.cell? ⟨g, k * 12 + 7, none⟩ = some (.int .i64 ((T.swap M k a v).th k).c.r7) := hvz.cell HKY.out HUY.out 7 _ rfl
    have f7 := hvz.gz (k * 12 + 7)
    have e8 : z.cell? ⟨g, k * 12 + 8, none⟩ = some (.int .i64 ((T.swap M k a v).th k).c.pc) := hvz.cell HKY.out HUY.out 8 _ rfl
    have f8 := hvz.gz (k * 12 + 8)
    have e9 : z.cell? ⟨g, k * 12 + 9, none⟩ = some (.int .i64 ((T.swap M k a v).th k).c.st) := hvz.cell HKY.out HUY.out 9 _ rfl
    have f9 := hvz.gz (k * 12 + 9)
    have e10 : z.cell? ⟨g, k * 12 + 10, none⟩ = some (.int .i64 ((T.swap M k a v).th k).c.tr) := hvz.cell HKY.out HUY.out 10 _ rfl
    have f10 := hvz.gz (k * 12 + 10)
    clear hvz d0 d1 d2 d3 d4 d5 d6 d7 d8 d9 d10 o0 o1 o2 o3
    go_simp
    obtain ⟨HXX, HSS⟩ := HVZ.out.regs HKY.out rfl dd
    obtain ⟨ZZ, hZZ⟩ : ∃ ZZ, (((((((((((z.setCell ⟨g, k * 12, none⟩ (.int .i64 dd.r0)).setCell ⟨g, k * 12 + 1, none⟩ (.int .i64 dd.r1)).setCell ⟨g, k * 12 + 2, none⟩ (.int .i64 dd.r2)).setCell ⟨g, k * 12 + 3, none⟩ (.int .i64 dd.r3)).setCell ⟨g, k * 12 + 4, none⟩ (.int .i64 dd.r4)).setCell ⟨g, k * 12 + 5, none⟩ (.int .i64 dd.r5)).setCell ⟨g, k * 12 + 6, none⟩ (.int .i64 dd.r6)).setCell ⟨g, k * 12 + 7, none⟩ (.int .i64 dd.r7)).setCell ⟨g, k * 12 + 8, none⟩ (.int .i64 dd.pc)).setCell ⟨g, k * 12 + 9, none⟩ (.int .i64 dd.st)).setCell ⟨g, k * 12 + 10, none⟩ (.int .i64 dd.tr)) = ZZ := ⟨_, rfl⟩
    rw [hZZ] at HXX HSS
    rw [hZZ]
    have cZ : ZZ.cell? ⟨b, 3, none⟩ = some (.slice (some ⟨g, 0, none⟩) n cap) := by have h9 := HXX.c3; rw [HLZ.out] at h9; exact h9
    have HXZ : Hid _ := HXX
    have HSZ2 : Hid (St t _ w ZZ) := HSZ.out.trans HSS
    clear hZZ HXX HSS e0 f0 e1 f1 e2 f2 e3 f3 e4 f4 e5 f5 e6 f6 e7 f7 e8 f8 e9 f9 e10 f10
    refine hK.out _ _ cZ (fun hHeld => ?_)
    clear hK K
    try simp only [Act.put, List.setIfInBounds_toArray, List.set_cons_zero, List.set_cons_succ]
    refine wpAnyH_done (by kernel_rfl) ?_ _
    clear hHeld
    go_wp2
    go_ret
    exact ⟨rfl, _, _, _, _, _, HXZ.out, HSZ2.out⟩
set_option maxRecDepth 100000 in
set_option maxHeartbeats 8000000 in
theorem xask_4 {B : Nat} {w : World} {b : Nat} {M : T.Mach} {t : Nat → Nat} {D Sk : List Int} {vd vs : Value} {g cap : Nat} {ev : Value} {us : List Value} (h : XV B w b M t D Sk vd vs g cap ev us) {k : Nat} (hk : k < M.ts.length) (hok : WsOk (M.th k).ws) (h8 : (M.th k).ws.length ≤ 8) {a v r : Int} (ha : (Lit.int .i64 a).wf = true) (hm : (M.mem a).isSome = true) :
    Calls Tryd.prog 41 #[.pointer (some ⟨b, 0, none⟩), .int .i64 k, S.reqV 4 a v r] w fun e w' => e = .returned (.bool true) ∧ XGone B w w' b (T.setC (T.swap M k a (wrap64 (((T.drain M k).mem a).getD 0 + v))) k (S.finish (M.th k).c 4 r (((T.drain M k).mem a).getD 0))) t vd vs g cap := by
  obtain ⟨X1, hX1⟩ : ∃ X1, w.alloc (.cells #[.int .i64 4, .int .i64 a, .int .i64 v, .int .i64 r] 96) = X1 := ⟨_, rfl⟩
  have hb1 : Below w.heap.size w X1 := by subst hX1; exact bl_one _ _
  have hs1 : w.heap.size < X1.heap.size := by subst hX1; simp
  have o0 : X1.cell? ⟨w.heap.size, 0, none⟩ = some (.int .i64 4) := by subst hX1; exact cell_last _ _ _ _ _ rfl rfl
  have o1 : X1.cell? ⟨w.heap.size, 1, none⟩ = some (.int .i64 a) := by subst hX1; exact cell_last _ _ _ _ _ rfl rfl
  have o2 : X1.cell? ⟨w.heap.size, 2, none⟩ = some (.int .i64 v) := by subst hX1; exact cell_last _ _ _ _ _ rfl rfl
  have o3 : X1.cell? ⟨w.heap.size, 3, none⟩ = some (.int .i64 r) := by subst hX1; exact cell_last _ _ _ _ _ rfl rfl
  have hv1 : XV B X1 b M t D Sk vd vs g cap ev us := h.below hb1
  have HTX : Hid (t w.heap.size = 0) := Classical.byContradiction fun e => by have := (h.lt _ e).2; omega
  have HB1 : Hid (Below w.heap.size w X1) := hb1
  have HV1 : Hid (XV B X1 b M t D Sk vd vs g cap ev us) := hv1
  have hro := hv1.room
  obtain ⟨n, hn⟩ : ∃ n, M.ts.length = n := ⟨_, rfl⟩
  have HTL : Hid (M.ts.length = n) := hn
  rw [hn] at hro
  obtain ⟨r1, r2, r3, r4⟩ := hro
  have hkn : k < n := by omega
  unfold maxLen at r2
  have i1 : (k : Int) < (n : Int) := by omega
  have i0 : (0 : Int) ≤ (k : Int) := by omega
  have HW : Hid _ := xword_any hv1 ha
  obtain ⟨z1, hz1⟩ : ∃ z1, (M.mem a).getD 0 = z1 := ⟨_, rfl⟩
  rw [hz1, show T.er (M.mem a) = 0 by cases e : M.mem a with
    | none => rw [e] at hm; cases hm
    | some x => rfl] at HW
  have HX1 : Hid _ := hX1
  have HSX : Hid (St t t w X1) := St.ofBelow t hb1
  have HDR : Hid _ := xdrain_any hv1 hk hok
  obtain ⟨nn, hnn⟩ : ∃ nn, ((T.drain M k).mem a).getD 0 = nn := ⟨_, rfl⟩
  have HNN : Hid (((T.drain M k).mem a).getD 0 = nn) := hnn
  obtain ⟨z3, hz3⟩ : ∃ z3, T.er ((T.drain M k).mem a) = z3 := ⟨_, rfl⟩
  have HZ3 : Hid (T.er ((T.drain M k).mem a) = z3) := hz3
  have HAW : Hid ((Lit.int .i64 a).wf = true) := ha
  rw [hnn]
  obtain ⟨vv, hvv⟩ : ∃ vv, wrap64 (nn + v) = vv := ⟨_, rfl⟩
  have hwv : IntKind.i64.wrap (v + nn) = vv := by have h1 := hvv; unfold wrap64 at h1; rw [Int.add_comm, IntKind.wrap_i64]; exact h1
  rw [hvv]
  have hth9 : (T.swap M k a vv).th k = ⟨(M.th k).c, []⟩ := T.th_put hk (T.upds M.mem (M.th k).ws) ⟨(M.th k).c, []⟩
  have hth : ((T.swap M k a vv).th k).c = (M.th k).c := by rw [hth9]
  clear hth9
  have HKY : Hid (k < (T.swap M k a vv).ts.length) := by show k < (M.put k _ _).ts.length; rw [T.len_put]; exact hk
  have HLY : Hid ((T.swap M k a vv).ts.length = n) := (T.len_put M k _ _).trans hn
  obtain ⟨cc, hcc⟩ : ∃ cc, (M.th k).c = cc := ⟨_, rfl⟩
  rw [hcc] at hth
  have HTH : Hid (((T.swap M k a vv).th k).c = cc) := hth
  rw [hcc]
  obtain ⟨dd, hdd⟩ : ∃ dd, S.finish cc 4 r nn = dd := ⟨_, rfl⟩
  have HDD : Hid (S.finish cc 4 r nn = dd) := hdd
  rw [hdd]
  have HLZ : Hid ((T.setC (T.swap M k a vv) k dd).ts.length = n) := (T.len_put _ k _ _).trans HLY.out
  clear h hv1 hm hok h8 hn hk hb1 hz1 hnn hz3 hth hcc hdd hvv 
  skip
  go_enter Tryd.func41, Tryd.ntmps41
  go_wp2_with fail
  refine Calls.mono HW.out ?_
  rintro e y0 ⟨rfl, rfl⟩
  go_wp2_with fail
  refine Calls.mono HDR.out ?_
  rintro e y ⟨rfl, t2, D2, S2, ev2, us2, hv2, hs2⟩
  have HV2 : Hid (XV B y b (T.drain M k) t2 D2 S2 vd vs g cap ev2 us2) := hv2
  have HS2 : Hid (St t t2 w y) := HSX.out.trans hs2
  have HTY : Hid (t2 w.heap.size = 0) := (hs2.tag _ hs1).trans HTX.out
  have o0 := st_cell hs2 (p := ⟨w.heap.size, 0, none⟩) HTX.out o0
  have o1 := st_cell hs2 (p := ⟨w.heap.size, 1, none⟩) HTX.out o1
  have o2 := st_cell hs2 (p := ⟨w.heap.size, 2, none⟩) HTX.out o2
  have o3 := st_cell hs2 (p := ⟨w.heap.size, 3, none⟩) HTX.out o3
  have HW2 : Hid _ := xword_any hv2 HAW.out
  rw [HNN.out, HZ3.out] at HW2
  have HST : Hid _ := xset_any hv2 HAW.out vv
  clear hv2 hs2
  go_wp2_with fail
  refine Calls.mono HW2.out ?_
  rintro e y2 ⟨rfl, rfl⟩
  go_wp2_with fail
  refine Calls.mono HST.out ?_
  rintro e y3 ⟨rfl, D3, S3, hv3, hs3⟩
  have HV3 : Hid (XV B y3 b (T.swap M k a vv) t2 D3 S3 vd vs g cap ev2 us2) := hv3
  have HS3 : Hid (St t t2 w y3) := HS2.out.trans hs3
  have o0 := st_cell hs3 (p := ⟨w.heap.size, 0, none⟩) HTY.out o0
  have o1 := st_cell hs3 (p := ⟨w.heap.size, 1, none⟩) HTY.out o1
  have o2 := st_cell hs3 (p := ⟨w.heap.size, 2, none⟩) HTY.out o2
  have o3 := st_cell hs3 (p := ⟨w.heap.size, 3, none⟩) HTY.out o3
  have c3y := HV3.out.c3
  rw [HLY.out] at c3y
  obtain ⟨uy3, huy3⟩ := HV3.out.u HKY.out
  have d0 : y3.cell? ⟨g, k * 12, none⟩ = some (.int .i64 ((T.swap M k a vv).th k).c.r0) := HV3.out.cell HKY.out huy3 0 _ rfl
  have d1 : y3.cell? ⟨g, k * 12 + 1, none⟩ = some (.int .i64 ((T.swap M k a vv).th k).c.r1) := HV3.out.cell HKY.out huy3 1 _ rfl
  have d2 : y3.cell? ⟨g, k * 12 + 2, none⟩ = some (.int .i64 ((T.swap M k a vv).th k).c.r2) := HV3.out.cell HKY.out huy3 2 _ rfl
  have d3 : y3.cell? ⟨g, k * 12 + 3, none⟩ = some (.int .i64 ((T.swap M k a vv).th k).c.r3) := HV3.out.cell HKY.out huy3 3 _ rfl
  have d4 : y3.cell? ⟨g, k * 12 + 4, none⟩ = some (.int .i64 ((T.swap M k a vv).th k).c.r4) := HV3.out.cell HKY.out huy3 4 _ rfl
  have d5 : y3.cell? ⟨g, k * 12 + 5, none⟩ = some (.int .i64 ((T.swap M k a vv).th k).c.r5) := HV3.out.cell HKY.out huy3 5 _ rfl
  have d6 : y3.cell? ⟨g, k * 12 + 6, none⟩ = some (.int .i64 ((T.swap M k a vv).th k).c.r6) := HV3.out.cell HKY.out huy3 6 _ rfl
  have d7 : y3.cell? ⟨g, k * 12 + 7, none⟩ = some (.int .i64 ((T.swap M k a vv).th k).c.r7) := HV3.out.cell HKY.out huy3 7 _ rfl
  have d8 : y3.cell? ⟨g, k * 12 + 8, none⟩ = some (.int .i64 ((T.swap M k a vv).th k).c.pc) := HV3.out.cell HKY.out huy3 8 _ rfl
  have d9 : y3.cell? ⟨g, k * 12 + 9, none⟩ = some (.int .i64 ((T.swap M k a vv).th k).c.st) := HV3.out.cell HKY.out huy3 9 _ rfl
  have d10 : y3.cell? ⟨g, k * 12 + 10, none⟩ = some (.int .i64 ((T.swap M k a vv).th k).c.tr) := HV3.out.cell HKY.out huy3 10 _ rfl
  rw [HTH.out] at d0 d1 d2 d3 d4 d5 d6 d7 d8 d9 d10
  have HUY : Hid (us2[k]? = some uy3) := huy3
  have hfin := rfinish_any cc 4 a v r nn y3.drew
  rw [HDD.out] at hfin
  have HFIN : Hid _ := hfin
  clear hv3 hs3 huy3 hfin HST HW2
  go_wp2_with fail
  have HC3 : Hid (∀ z : World, Below y3.heap.size y3 z → z.cell? ⟨b, 3, none⟩ = some (.slice (some ⟨g, 0, none⟩) n cap)) := fun z hz => cell_up hz c3y
  refine wp_region_held_drew (S := (fun w' : World => w'.cell? ⟨b, 3, none⟩ = some (.slice (some ⟨g, 0, none⟩) n cap))) (by kernel_rfl) (HC3.out _ (Below.refl _ _).drew) (fun hHeld => ?_)
  refine tk (i := 0) (v := ?_) (tA rfl) (by kernel_rfl) (fun _ _ _ h => h) (Or.inl ⟨by rfl, ?_⟩) (by assumption) ?_
  rotate_left
  · (intro w hSw; (try dsimp only at hSw); go_simp <;> with_reducible rfl)
  simp only [Act.put, List.setIfInBounds_toArray, List.set_cons_zero, List.set_cons_succ]
  refine tk (i := 1) (v := ?_) (tA rfl) (by kernel_rfl) (fun _ _ _ h => h) (Or.inl ⟨by rfl, ?_⟩) (by assumption) ?_
  rotate_left
  · (intro w hSw; (try dsimp only at hSw); go_simp <;> with_reducible rfl)
  simp only [Act.put, List.setIfInBounds_toArray, List.set_cons_zero, List.set_cons_succ]
  refine tk (i := 2) (v := ?_) (tA rfl) (by kernel_rfl) (fun _ _ _ h => h) (Or.inl ⟨by rfl, ?_⟩) (by assumption) ?_
  rotate_left
  · (intro w hSw; (try dsimp only at hSw); go_simp <;> with_reducible rfl)
  simp only [Act.put, List.setIfInBounds_toArray, List.set_cons_zero, List.set_cons_succ]
  refine tk (i := 3) (v := ?_) (tA rfl) (by kernel_rfl) (fun _ _ _ h => h) (Or.inl ⟨by rfl, ?_⟩) (by assumption) ?_
  rotate_left
  · (intro w hSw; (try dsimp only at hSw); go_simp <;> with_reducible rfl)
  simp only [Act.put, List.setIfInBounds_toArray, List.set_cons_zero, List.set_cons_succ]
  refine tk (i := 4) (v := ?_) (tA rfl) (by kernel_rfl) (fun _ _ _ h => h) (Or.inl ⟨by rfl, ?_⟩) (by assumption) ?_
  rotate_left
  · (intro w hSw; (try dsimp only at hSw); go_simp <;> with_reducible rfl)
  simp only [Act.put, List.setIfInBounds_toArray, List.set_cons_zero, List.set_cons_succ]
  refine tk (i := 5) (v := ?_) (tA rfl) (by kernel_rfl) (fun _ _ _ h => h) (Or.inl ⟨by rfl, ?_⟩) (by assumption) ?_
  rotate_left
  · (intro w hSw; (try dsimp only at hSw); go_simp <;> with_reducible rfl)
  simp only [Act.put, List.setIfInBounds_toArray, List.set_cons_zero, List.set_cons_succ]
  refine tk (i := 6) (v := ?_) (tA rfl) (by kernel_rfl) (fun _ _ _ h => h) (Or.inl ⟨by rfl, ?_⟩) (by assumption) ?_
  rotate_left
  · (intro w hSw; (try dsimp only at hSw); go_simp <;> with_reducible rfl)
  simp only [Act.put, List.setIfInBounds_toArray, List.set_cons_zero, List.set_cons_succ]
  refine tk (i := 7) (v := ?_) (tA rfl) (by kernel_rfl) (fun _ _ _ h => h) (Or.inl ⟨by rfl, ?_⟩) (by assumption) ?_
  rotate_left
  · (intro w hSw; (try dsimp only at hSw); go_simp <;> with_reducible rfl)
  simp only [Act.put, List.setIfInBounds_toArray, List.set_cons_zero, List.set_cons_succ]
  refine tk (i := 8) (v := ?_) (tA rfl) (by kernel_rfl) (fun _ _ _ h => h) (Or.inl ⟨by rfl, ?_⟩) (by assumption) ?_
  rotate_left
  · (intro w hSw; (try dsimp only at hSw); go_simp <;> with_reducible rfl)
  simp only [Act.put, List.setIfInBounds_toArray, List.set_cons_zero, List.set_cons_succ]
  refine tk (i := 9) (v := ?_) (tA rfl) (by kernel_rfl) (fun _ _ _ h => h) (Or.inl ⟨by rfl, ?_⟩) (by assumption) ?_
  rotate_left
  · (intro w hSw; (try dsimp only at hSw); go_simp <;> with_reducible rfl)
  simp only [Act.put, List.setIfInBounds_toArray, List.set_cons_zero, List.set_cons_succ]
  refine tk (i := 10) (v := ?_) (tA rfl) (by kernel_rfl) (fun _ _ _ h => h) (Or.inl ⟨by rfl, ?_⟩) (by assumption) ?_
  rotate_left
  · (intro w hSw; (try dsimp only at hSw); go_simp <;> with_reducible rfl)
  simp only [Act.put, List.setIfInBounds_toArray, List.set_cons_zero, List.set_cons_succ]
  refine tk (i := 11) (v := ?_) (tA rfl) (by kernel_rfl) (fun _ _ _ h => h) (Or.inl ⟨by rfl, ?_⟩) (by assumption) ?_
  rotate_left
  · (intro w hSw; (try dsimp only at hSw); go_simp <;> with_reducible rfl)
  simp only [Act.put, List.setIfInBounds_toArray, List.set_cons_zero, List.set_cons_succ]
  refine tk (i := 14) (v := ?_) (tA rfl) (by kernel_rfl) (fun _ _ _ h => h) (Or.inl ⟨by rfl, ?_⟩) (by assumption) ?_
  rotate_left
  · (intro w hSw; (try dsimp only at hSw); go_simp <;> with_reducible rfl)
  simp only [Act.put, List.setIfInBounds_toArray, List.set_cons_zero, List.set_cons_succ]
  refine wpAnyH_ready (rs := [12, 13]) (by kernel_rfl) (by simp) ?_
  refine AllReadyH.cons (tA rfl) (fun K hK => ?_) (AllReadyH.cons (tA rfl) (fun K hK => ?_) AllReadyH.nil)
  · go_simp
    refine hK.out _ _ (HC3.out _ (Below.refl _ _).drew) (fun hHeld => ?_)
    clear hK K
    try simp only [Act.put, List.setIfInBounds_toArray, List.set_cons_zero, List.set_cons_succ]
    refine wpAnyH_ready (rs := [13]) (by kernel_rfl) (by simp) ?_
    refine AllReadyH.cons (tA rfl) (fun K hK => ?_) AllReadyH.nil
    go_simp
    refine hK.out _ _ (HC3.out _ (Below.refl _ _).drew) (fun hHeld => ?_)
    clear hK K
    try simp only [Act.put, List.setIfInBounds_toArray, List.set_cons_zero, List.set_cons_succ]
    refine wpAnyH_ready (rs := [15]) (by kernel_rfl) (by simp) ?_
    refine AllReadyH.cons (tA rfl) (fun K hK => ?_) AllReadyH.nil
    go_simp
    refine Calls.mono HFIN.out ?_
    rintro e z ⟨rfl, hbz⟩
    have hbz2 : Below y3.heap.size y3 z := (Below.refl _ _).drew.trans hbz
    have hvz := HV3.out.below hbz2
    have HSZ : Hid (St t _ w z) := HS3.out.trans (St.ofBelow _ hbz2)
    have HVZ : Hid (XV B z b _ _ _ _ vd vs g cap _ _) := hvz
    try go_wp2_with fail
    refine hK.out _ _ (HC3.out _ hbz2) (fun hHeld => ?_)
    clear hK K
    try simp only [Act.put, List.setIfInBounds_toArray, List.set_cons_zero, List.set_cons_succ]
    refine tk (i := 16) (v := ?_) (tA rfl) (by kernel_rfl) (fun _ _ _ h => h) (Or.inl ⟨by rfl, ?_⟩) (by assumption) ?_
    rotate_left
    · (intro w hSw; (try dsimp only at hSw); go_simp <;> with_reducible rfl)
    simp only [Act.put, List.setIfInBounds_toArray, List.set_cons_zero, List.set_cons_succ]
    refine tk (i := 17) (v := ?_) (tA rfl) (by kernel_rfl) (fun _ _ _ h => h) (Or.inl ⟨by rfl, ?_⟩) (by assumption) ?_
    rotate_left
    · (intro w hSw; (try dsimp only at hSw); go_simp <;> with_reducible rfl)
    simp only [Act.put, List.setIfInBounds_toArray, List.set_cons_zero, List.set_cons_succ]
    refine wpAnyH_ready (rs := [18]) (by kernel_rfl) (by simp) ?_
    refine AllReadyH.cons (tA rfl) (fun K hK => ?_) AllReadyH.nil
    clear hHeld HFIN
    have e0 : z.cell? ⟨g, k * 12, none⟩ = some (.int .i64 ((T.swap M k a vv).th k).c.r0) := hvz.cell HKY.out HUY.out 0 _ rfl
    have f0 := hvz.gz (k * 12)
    have e1 : z.cell? ⟨g, k * 12 + 1, none⟩ = some (.int .i64 ((T.swap M k a vv).th k).c.r1) := hvz.cell HKY.out HUY.out 1 _ rfl
    have f1 := hvz.gz (k * 12 + 1)
    have e2 : z.cell? ⟨g, k * 12 + 2, none⟩ = some (.int .i64 ((T.swap M k a vv).th k).c.r2) := hvz.cell HKY.out HUY.out 2 _ rfl
    have f2 := hvz.gz (k * 12 + 2)
    have e3 : z.cell? ⟨g, k * 12 + 3, none⟩ = some (.int .i64 ((T.swap M k a vv).th k).c.r3) := hvz.cell HKY.out HUY.out 3 _ rfl
    have f3 := hvz.gz (k * 12 + 3)
    have e4 : z.cell? ⟨g, k * 12 + 4, none⟩ = some (.int .i64 ((T.swap M k a vv).th k).c.r4) := hvz.cell HKY.out HUY.out 4 _ rfl
    have f4 := hvz.gz (k * 12 + 4)
    have e5 : z.cell? ⟨g, k * 12 + 5, none⟩ = some (.int .i64 ((T.swap M k a vv).th k).c.r5) := hvz.cell HKY.out HUY.out 5 _ rfl
    have f5 := hvz.gz (k * 12 + 5)
    have e6 : z.cell? ⟨g, k * 12 + 6, none⟩ = some (.int .i64 ((T.swap M k a vv).th k).c.r6) := hvz.cell HKY.out HUY.out 6 _ rfl
    have f6 := hvz.gz (k * 12 + 6)
    have e7 : z.cell? ⟨g, k * 12 + 7, none⟩ = some (.int .i64 ((T.swap M k a vv).th k).c.r7) := hvz.cell HKY.out HUY.out 7 _ rfl
    have f7 := hvz.gz (k * 12 + 7)
    have e8 : z.cell? ⟨g, k * 12 + 8, none⟩ = some (.int .i64 ((T.swap M k a vv).th k).c.pc) := hvz.cell HKY.out HUY.out 8 _ rfl
    have f8 := hvz.gz (k * 12 + 8)
    have e9 : z.cell? ⟨g, k * 12 + 9, none⟩ = some (.int .i64 ((T.swap M k a vv).th k).c.st) := hvz.cell HKY.out HUY.out 9 _ rfl
    have f9 := hvz.gz (k * 12 + 9)
    have e10 : z.cell? ⟨g, k * 12 + 10, none⟩ = some (.int .i64 ((T.swap M k a vv).th k).c.tr) := hvz.cell HKY.out HUY.out 10 _ rfl
    have f10 := hvz.gz (k * 12 + 10)
    clear hvz d0 d1 d2 d3 d4 d5 d6 d7 d8 d9 d10 o0 o1 o2 o3
    go_simp
    obtain ⟨HXX, HSS⟩ := HVZ.out.regs HKY.out rfl dd
    obtain ⟨ZZ, hZZ⟩ : ∃ ZZ, (((((((((((z.setCell ⟨g, k * 12, none⟩ (.int .i64 dd.r0)).setCell ⟨g, k * 12 + 1, none⟩ (.int .i64 dd.r1)).setCell ⟨g, k * 12 + 2, none⟩ (.int .i64 dd.r2)).setCell ⟨g, k * 12 + 3, none⟩ (.int .i64 dd.r3)).setCell ⟨g, k * 12 + 4, none⟩ (.int .i64 dd.r4)).setCell ⟨g, k * 12 + 5, none⟩ (.int .i64 dd.r5)).setCell ⟨g, k * 12 + 6, none⟩ (.int .i64 dd.r6)).setCell ⟨g, k * 12 + 7, none⟩ (.int .i64 dd.r7)).setCell ⟨g, k * 12 + 8, none⟩ (.int .i64 dd.pc)).setCell ⟨g, k * 12 + 9, none⟩ (.int .i64 dd.st)).setCell ⟨g, k * 12 + 10, none⟩ (.int .i64 dd.tr)) = ZZ := ⟨_, rfl⟩
    rw [hZZ] at HXX HSS
    rw [hZZ]
    have cZ : ZZ.cell? ⟨b, 3, none⟩ = some (.slice (some ⟨g, 0, none⟩) n cap) := by have h9 := HXX.c3; rw [HLZ.out] at h9; exact h9
    have HXZ : Hid _ := HXX
    have HSZ2 : Hid (St t _ w ZZ) := HSZ.out.trans HSS
    clear hZZ HXX HSS e0 f0 e1 f1 e2 f2 e3 f3 e4 f4 e5 f5 e6 f6 e7 f7 e8 f8 e9 f9 e10 f10
    refine hK.out _ _ cZ (fun hHeld => ?_)
    clear hK K
    try simp only [Act.put, List.setIfInBounds_toArray, List.set_cons_zero, List.set_cons_succ]
    refine wpAnyH_done (by kernel_rfl) ?_ _
    clear hHeld
    go_wp2
    go_ret
    exact ⟨rfl, _, _, _, _, _, HXZ.out, HSZ2.out⟩
  · go_simp
    refine hK.out _ _ (HC3.out _ (Below.refl _ _).drew) (fun hHeld => ?_)
    clear hK K
    try simp only [Act.put, List.setIfInBounds_toArray, List.set_cons_zero, List.set_cons_succ]
    refine wpAnyH_ready (rs := [12]) (by kernel_rfl) (by simp) ?_
    refine AllReadyH.cons (tA rfl) (fun K hK => ?_) AllReadyH.nil
    go_simp
    refine hK.out _ _ (HC3.out _ (Below.refl _ _).drew) (fun hHeld => ?_)
    clear hK K
    try simp only [Act.put, List.setIfInBounds_toArray, List.set_cons_zero, List.set_cons_succ]
    refine wpAnyH_ready (rs := [15]) (by kernel_rfl) (by simp) ?_
    refine AllReadyH.cons (tA rfl) (fun K hK => ?_) AllReadyH.nil
    go_simp
    refine Calls.mono HFIN.out ?_
    rintro e z ⟨rfl, hbz⟩
    have hbz2 : Below y3.heap.size y3 z := (Below.refl _ _).drew.trans hbz
    have hvz := HV3.out.below hbz2
    have HSZ : Hid (St t _ w z) := HS3.out.trans (St.ofBelow _ hbz2)
    have HVZ : Hid (XV B z b _ _ _ _ vd vs g cap _ _) := hvz
    try go_wp2_with fail
    refine hK.out _ _ (HC3.out _ hbz2) (fun hHeld => ?_)
    clear hK K
    try simp only [Act.put, List.setIfInBounds_toArray, List.set_cons_zero, List.set_cons_succ]
    refine tk (i := 16) (v := ?_) (tA rfl) (by kernel_rfl) (fun _ _ _ h => h) (Or.inl ⟨by rfl, ?_⟩) (by assumption) ?_
    rotate_left
    · (intro w hSw; (try dsimp only at hSw); go_simp <;> with_reducible rfl)
    simp only [Act.put, List.setIfInBounds_toArray, List.set_cons_zero, List.set_cons_succ]
    refine tk (i := 17) (v := ?_) (tA rfl) (by kernel_rfl) (fun _ _ _ h => h) (Or.inl ⟨by rfl, ?_⟩) (by assumption) ?_
    rotate_left
    · (intro w hSw; (try dsimp only at hSw); go_simp <;> with_reducible rfl)
    simp only [Act.put, List.setIfInBounds_toArray, List.set_cons_zero, List.set_cons_succ]
    refine wpAnyH_ready (rs := [18]) (by kernel_rfl) (by simp) ?_
    refine AllReadyH.cons (tA rfl) (fun K hK => ?_) AllReadyH.nil
    clear hHeld HFIN
    have e0 : z.cell? ⟨g, k * 12, none⟩ = some (.int .i64 ((T.swap M k a vv).th k).c.r0) := hvz.cell HKY.out HUY.out 0 _ rfl
    have f0 := hvz.gz (k * 12)
    have e1 : z.cell? ⟨g, k * 12 + 1, none⟩ = some (.int .i64 ((T.swap M k a vv).th k).c.r1) := hvz.cell HKY.out HUY.out 1 _ rfl
    have f1 := hvz.gz (k * 12 + 1)
    have e2 : z.cell? ⟨g, k * 12 + 2, none⟩ = some (.int .i64 ((T.swap M k a vv).th k).c.r2) := hvz.cell HKY.out HUY.out 2 _ rfl
    have f2 := hvz.gz (k * 12 + 2)
    have e3 : z.cell? ⟨g, k * 12 + 3, none⟩ = some (.int .i64 ((T.swap M k a vv).th k).c.r3) := hvz.cell HKY.out HUY.out 3 _ rfl
    have f3 := hvz.gz (k * 12 + 3)
    have e4 : z.cell? ⟨g, k * 12 + 4, none⟩ = some (.int .i64 ((T.swap M k a vv).th k).c.r4) := hvz.cell HKY.out HUY.out 4 _ rfl
    have f4 := hvz.gz (k * 12 + 4)
    have e5 : z.cell? ⟨g, k * 12 + 5, none⟩ = some (.int .i64 ((T.swap M k a vv).th k).c.r5) := hvz.cell HKY.out HUY.out 5 _ rfl
    have f5 := hvz.gz (k * 12 + 5)
    have e6 : z.cell? ⟨g, k * 12 + 6, none⟩ = some (.int .i64 ((T.swap M k a vv).th k).c.r6) := hvz.cell HKY.out HUY.out 6 _ rfl
    have f6 := hvz.gz (k * 12 + 6)
    have e7 : z.cell? ⟨g, k * 12 + 7, none⟩ = some (.int .i64 ((T.swap M k a vv).th k).c.r7) := hvz.cell HKY.out HUY.out 7 _ rfl
    have f7 := hvz.gz (k * 12 + 7)
    have e8 : z.cell? ⟨g, k * 12 + 8, none⟩ = some (.int .i64 ((T.swap M k a vv).th k).c.pc) := hvz.cell HKY.out HUY.out 8 _ rfl
    have f8 := hvz.gz (k * 12 + 8)
    have e9 : z.cell? ⟨g, k * 12 + 9, none⟩ = some (.int .i64 ((T.swap M k a vv).th k).c.st) := hvz.cell HKY.out HUY.out 9 _ rfl
    have f9 := hvz.gz (k * 12 + 9)
    have e10 : z.cell? ⟨g, k * 12 + 10, none⟩ = some (.int .i64 ((T.swap M k a vv).th k).c.tr) := hvz.cell HKY.out HUY.out 10 _ rfl
    have f10 := hvz.gz (k * 12 + 10)
    clear hvz d0 d1 d2 d3 d4 d5 d6 d7 d8 d9 d10 o0 o1 o2 o3
    go_simp
    obtain ⟨HXX, HSS⟩ := HVZ.out.regs HKY.out rfl dd
    obtain ⟨ZZ, hZZ⟩ : ∃ ZZ, (((((((((((z.setCell ⟨g, k * 12, none⟩ (.int .i64 dd.r0)).setCell ⟨g, k * 12 + 1, none⟩ (.int .i64 dd.r1)).setCell ⟨g, k * 12 + 2, none⟩ (.int .i64 dd.r2)).setCell ⟨g, k * 12 + 3, none⟩ (.int .i64 dd.r3)).setCell ⟨g, k * 12 + 4, none⟩ (.int .i64 dd.r4)).setCell ⟨g, k * 12 + 5, none⟩ (.int .i64 dd.r5)).setCell ⟨g, k * 12 + 6, none⟩ (.int .i64 dd.r6)).setCell ⟨g, k * 12 + 7, none⟩ (.int .i64 dd.r7)).setCell ⟨g, k * 12 + 8, none⟩ (.int .i64 dd.pc)).setCell ⟨g, k * 12 + 9, none⟩ (.int .i64 dd.st)).setCell ⟨g, k * 12 + 10, none⟩ (.int .i64 dd.tr)) = ZZ := ⟨_, rfl⟩
    rw [hZZ] at HXX HSS
    rw [hZZ]
    have cZ : ZZ.cell? ⟨b, 3, none⟩ = some (.slice (some ⟨g, 0, none⟩) n cap) := by have h9 := HXX.c3; rw [HLZ.out] at h9; exact h9
    have HXZ : Hid _ := HXX
    have HSZ2 : Hid (St t _ w ZZ) := HSZ.out.trans HSS
    clear hZZ HXX HSS e0 f0 e1 f1 e2 f2 e3 f3 e4 f4 e5 f5 e6 f6 e7 f7 e8 f8 e9 f9 e10 f10
    refine hK.out _ _ cZ (fun hHeld => ?_)
    clear hK K
    try simp only [Act.put, List.setIfInBounds_toArray, List.set_cons_zero, List.set_cons_succ]
    refine wpAnyH_done (by kernel_rfl) ?_ _
    clear hHeld
    go_wp2
    go_ret
    exact ⟨rfl, _, _, _, _, _, HXZ.out, HSZ2.out⟩

end Go.Proofs.YtffokdldgdjkhaaDoor.X

/- The document's machine: a request, whatever it is. -/
namespace Go.Proofs.YtffokdldgdjkhaaDoor.X
open Go.RowKit Go.Maps
set_option linter.unusedVariables false

theorem T.setC_same {N : T.Mach} {k : Nat} (hk : k < N.ts.length) {c : S.C} (h : (N.th k).c = c) : T.setC N k c = N := by
  unfold T.setC
  rw [← h]
  exact T.put_same hk
theorem T.has_some {α : Type} {o : Option Int} (h : o.isSome = true) (x y : α) : T.has o x y = x := by
  cases o with
  | none => cases h
  | some _ => rfl
theorem T.er_some {o : Option Int} (h : o.isSome = true) : T.er o = 0 := by
  cases o with
  | none => cases h
  | some _ => rfl

theorem xask_any {B : Nat} {w : World} {b : Nat} {M : T.Mach} {t : Nat → Nat} {D Sk : List Int} {vd vs : Value} {g cap : Nat} {ev : Value} {us : List Value} (h : XV B w b M t D Sk vd vs g cap ev us) {k : Nat} (hk : k < M.ts.length) (hok : WsOk (M.th k).ws) (h8 : (M.th k).ws.length ≤ 8) (hes : M.es.length ≤ 1000000) (hgo : ∀ p ∈ (M.th k).ws, (M.mem p.1).isSome = true) (q : S.Q) (ha : (Lit.int .i64 q.a).wf = true) :
    Calls Tryd.prog 41 #[.pointer (some ⟨b, 0, none⟩), .int .i64 k, q.w] w fun e w' => e = .returned (.bool (decide (T.ansE M k q = 0))) ∧ XGone B w w' b (if T.ansE M k q = 0 then T.setC (T.ansM M k q) k (S.finish (M.th k).c q.k q.r (T.ansN M k q)) else M) t vd vs g cap := by
  obtain ⟨K, a, v, r⟩ := q
  have hno : ∀ K, T.ansE M k ⟨K, a, v, r⟩ = 11 → Calls Tryd.prog 41 #[.pointer (some ⟨b, 0, none⟩), .int .i64 k, S.reqV K a v r] w (fun e w' => e = .returned (.bool false) ∧ XGone B w w' b M t vd vs g cap) → Calls Tryd.prog 41 #[.pointer (some ⟨b, 0, none⟩), .int .i64 k, S.reqV K a v r] w fun e w' => e = .returned (.bool (decide (T.ansE M k ⟨K, a, v, r⟩ = 0))) ∧ XGone B w w' b (if T.ansE M k ⟨K, a, v, r⟩ = 0 then T.setC (T.ansM M k ⟨K, a, v, r⟩) k (S.finish (M.th k).c K r (T.ansN M k ⟨K, a, v, r⟩)) else M) t vd vs g cap := fun K he hc => by
    rw [if_neg (by rw [he]; decide), decide_eq_false (by rw [he]; decide)]
    exact hc
  have hyes : ∀ (K : Int) (N : T.Mach), T.ansE M k ⟨K, a, v, r⟩ = 0 → T.setC (T.ansM M k ⟨K, a, v, r⟩) k (S.finish (M.th k).c K r (T.ansN M k ⟨K, a, v, r⟩)) = N → Calls Tryd.prog 41 #[.pointer (some ⟨b, 0, none⟩), .int .i64 k, S.reqV K a v r] w (fun e w' => e = .returned (.bool true) ∧ XGone B w w' b N t vd vs g cap) → Calls Tryd.prog 41 #[.pointer (some ⟨b, 0, none⟩), .int .i64 k, S.reqV K a v r] w fun e w' => e = .returned (.bool (decide (T.ansE M k ⟨K, a, v, r⟩ = 0))) ∧ XGone B w w' b (if T.ansE M k ⟨K, a, v, r⟩ = 0 then T.setC (T.ansM M k ⟨K, a, v, r⟩) k (S.finish (M.th k).c K r (T.ansN M k ⟨K, a, v, r⟩)) else M) t vd vs g cap := fun K N he hN hc => by
    rw [if_pos he, decide_eq_true he, hN]
    exact hc
  by_cases k1 : K = 1
  · subst k1
    have he : T.ansE M k ⟨1, a, v, r⟩ = T.er (M.mem a) := T.er_ld hgo a
    cases hm : M.mem a with
    | none => exact hno 1 (by rw [he, hm]; rfl) (xask_no1 h hk hok h8 ha hm)
    | some x =>
      have hs : (M.mem a).isSome = true := by rw [hm]; rfl
      exact hyes 1 _ (by rw [he]; exact T.er_some hs) rfl (xask_1 h hk hok h8 ha hs)
  by_cases k2 : K = 2
  · subst k2
    have he : T.ansE M k ⟨2, a, v, r⟩ = T.er (M.mem a) := rfl
    cases hm : M.mem a with
    | none => exact hno 2 (by rw [he, hm]; rfl) (xask_no2 h hk hok h8 ha hm)
    | some x =>
      have hs : (M.mem a).isSome = true := by rw [hm]; rfl
      have hM : T.ansM M k ⟨2, a, v, r⟩ = T.push (T.full M k) k a v := T.has_some hs _ _
      have hf := T.full_eq hk
      have hkf : k < (T.full M k).ts.length := by rw [hf, T.len_put]; exact hk
      have hth : ((T.full M k).th k).c = (M.th k).c := by rw [hf, T.th_put hk]
      have hsame : T.setC (T.ansM M k ⟨2, a, v, r⟩) k (S.finish (M.th k).c 2 r (T.ansN M k ⟨2, a, v, r⟩)) = T.push (T.full M k) k a v := by
        rw [hM, S.finish_no (by omega)]
        refine T.setC_same ?_ ?_
        · show k < (T.Mach.put _ _ _ _).ts.length
          rw [T.len_put]; exact hkf
        · show ((T.Mach.put _ _ _ _).th k).c = _
          rw [T.th_put hkf]; exact hth
      refine hyes 2 _ (by rw [he]; exact T.er_some hs) hsame ?_
      by_cases e8 : (M.th k).ws.length = 8
      · rw [show T.full M k = T.leave M k from if_pos e8]
        exact xask_2f h hk hok h8 ha hs e8
      · rw [show T.full M k = M from if_neg e8]
        exact xask_2 h hk hok h8 ha hs (by omega)
  by_cases k3 : K = 3
  · subst k3
    have he : T.ansE M k ⟨3, a, v, r⟩ = T.er (M.mem a) := rfl
    cases hm : M.mem a with
    | none => exact hno 3 (by rw [he, hm]; rfl) (xask_no3 h hk hok h8 ha hm)
    | some x =>
      have hs : (M.mem a).isSome = true := by rw [hm]; rfl
      have hM : T.ansM M k ⟨3, a, v, r⟩ = T.swap M k a v := T.has_some hs _ _
      have hN : T.ansN M k ⟨3, a, v, r⟩ = ((T.drain M k).mem a).getD 0 := T.has_some hs _ _
      refine hyes 3 _ (by rw [he]; exact T.er_some hs) (by rw [hM, hN]) (xask_3 h hk hok h8 ha hs)
  by_cases k4 : K = 4
  · subst k4
    have he : T.ansE M k ⟨4, a, v, r⟩ = T.er (M.mem a) := rfl
    cases hm : M.mem a with
    | none => exact hno 4 (by rw [he, hm]; rfl) (xask_no4 h hk hok h8 ha hm)
    | some x =>
      have hs : (M.mem a).isSome = true := by rw [hm]; rfl
      have hM : T.ansM M k ⟨4, a, v, r⟩ = T.swap M k a (wrap64 (((T.drain M k).mem a).getD 0 + v)) := T.has_some hs _ _
      have hN : T.ansN M k ⟨4, a, v, r⟩ = ((T.drain M k).mem a).getD 0 := T.has_some hs _ _
      refine hyes 4 _ (by rw [he]; exact T.er_some hs) (by rw [hM, hN]) (xask_4 h hk hok h8 ha hs)
  by_cases k5 : K = 5
  · subst k5
    refine hyes 5 _ rfl ?_ (xask_5 h hk hok h8 ha)
    rw [S.finish_no (by omega), show T.ansM M k ⟨5, a, v, r⟩ = T.drain M k from rfl]
    refine T.setC_same ?_ ?_
    · show k < (T.Mach.put _ _ _ _).ts.length
      rw [T.len_put]; exact hk
    · show ((T.Mach.put _ _ _ _).th k).c = _
      rw [T.th_put hk]
  by_cases k6 : K = 6
  · subst k6
    refine hyes 6 _ rfl ?_ (xask_6 h hk hok h8 ha hes)
    rw [S.finish_no (by omega), show T.ansM M k ⟨6, a, v, r⟩ = M.see k 1 v from rfl]
    exact T.setC_same (N := M.see k 1 v) hk rfl
  have hE : T.ansE M k ⟨K, a, v, r⟩ = 0 := by unfold T.ansE; rw [if_neg k1, if_neg (by simp only; omega)]
  have hM : T.ansM M k ⟨K, a, v, r⟩ = M := by unfold T.ansM; rw [if_neg k2, if_neg k3, if_neg k4, if_neg k5, if_neg k6]
  refine hyes K _ hE ?_ (xask_0 h hk hok h8 ha (by omega))
  rw [hM, S.finish_no (by omega)]
  exact T.setC_same hk rfl

end Go.Proofs.YtffokdldgdjkhaaDoor.X

/- The document's machine: what its step comes to. No walk. -/
namespace Go.Proofs.YtffokdldgdjkhaaDoor.X
open Go.RowKit
set_option linter.unusedVariables false

namespace T
open Go.Proofs.YtffokdldgdjkhaaDoor.T
theorem th_setC {M : Mach} {k : Nat} (hk : k < M.ts.length) (d : S.C) : (setC M k d).th k = ⟨d, (M.th k).ws⟩ := th_put hk _ _
theorem setC_setC {M : Mach} {k : Nat} (hk : k < M.ts.length) (d e : S.C) : setC (setC M k d) k e = setC M k e := by
  show Mach.put (setC M k d) k (setC M k d).mem ⟨e, ((setC M k d).th k).ws⟩ = _
  rw [th_setC hk]
  exact put_put _ _ _ _ _ _
theorem ansE_setC {M : Mach} {k : Nat} (hk : k < M.ts.length) (d : S.C) (q : S.Q) : ansE (setC M k d) k q = ansE M k q := by
  unfold ansE ld
  rw [th_setC hk]
  rfl
theorem ansN_setC {M : Mach} {k : Nat} (hk : k < M.ts.length) (d : S.C) (q : S.Q) : ansN (setC M k d) k q = ansN M k q := by
  unfold ansN ld Go.Proofs.YtffokdldgdjkhaaDoor.T.drain
  rw [th_setC hk]
  rfl
theorem ansMem_setC {M : Mach} {k : Nat} (hk : k < M.ts.length) (d : S.C) (q : S.Q) : ansMem (setC M k d) k q = ansMem M k q := by
  unfold ansMem fullMem leave
  rw [th_setC hk]
  cases (M.th k).ws <;> rfl
theorem ansW_setC {M : Mach} {k : Nat} (hk : k < M.ts.length) (d : S.C) (q : S.Q) : ansW (setC M k d) k q = ansW M k q := by
  unfold ansW
  rw [th_setC hk]
  rfl
theorem setC_ansM {M : Mach} {k : Nat} (hk : k < M.ts.length) (c : S.C) (q : S.Q) : setC (ansM M k q) k c = ⟨M.code, ansMem M k q, M.ts.set k ⟨c, ansW M k q⟩, ansEs M k q⟩ := by
  have h1 := ansM_eq hk q
  have h3 : (ansM M k q).th k = ⟨(M.th k).c, ansW M k q⟩ := by
    rw [h1]; unfold Mach.th; simp [List.getD, hk]
  unfold setC
  rw [h3, h1, put_eq]
  simp only [List.set_set]
theorem setC_ans {M : Mach} {k : Nat} (hk : k < M.ts.length) (d c : S.C) (q : S.Q) : setC (ansM (setC M k d) k q) k c = setC (ansM M k q) k c := by
  have hk1 : k < (setC M k d).ts.length := by rw [len_setC]; exact hk
  rw [setC_ansM hk1, setC_ansM hk, ansMem_setC hk, ansW_setC hk]
  show (⟨M.code, ansMem M k q, (M.ts.set k _).set k _, ansEs (setC M k d) k q⟩ : Mach) = _
  rw [List.set_set]
  rfl
theorem len_ans {M : Mach} {k : Nat} (hk : k < M.ts.length) (c : S.C) (q : S.Q) : (setC (ansM M k q) k c).ts.length = M.ts.length := by
  rw [setC_ansM hk]
  exact List.length_set
theorem th_ans {M : Mach} {k : Nat} (hk : k < M.ts.length) (c : S.C) (q : S.Q) : ((setC (ansM M k q) k c).th k).c = c := by
  rw [setC_ansM hk]
  unfold Mach.th
  simp [List.getD, hk]
theorem es_ans {M : Mach} {k : Nat} (hk : k < M.ts.length) (c : S.C) (q : S.Q) : (setC (ansM M k q) k c).es.length ≤ M.es.length + 1 := by
  rw [setC_ansM hk]
  show (ansEs M k q).length ≤ _
  unfold ansEs
  split
  · simp
  · omega
end T

end Go.Proofs.YtffokdldgdjkhaaDoor.X

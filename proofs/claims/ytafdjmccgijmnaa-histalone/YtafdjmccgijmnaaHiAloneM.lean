/- Operations that were done one by one have their one order. No walk. -/
import Derived.Test.YtafdjmccgijmnaaHiRen
namespace Go.Proofs.Ytafdjmccgijmnaa
open Go.RowKit A Go.Maps
set_option linter.unusedVariables false
set_option linter.unusedSimpArgs false
namespace H
def run (al : List Ac) : List At → Nat → Nat → Option (List At)
  | s, k, 0 => some s
  | s, k, f + 1 => (stp al s k).bind fun s' => run al s' (k + 1) f
theorem run_snoc (al : List Ac) : ∀ (f : Nat) (s : List At) (k : Nat), run al s k (f + 1) = (run al s k f).bind fun s' => stp al s' (k + f)
  | 0, s, k => by
    simp only [run, Nat.add_zero, Option.bind_some]
    cases stp al s k <;> rfl
  | f + 1, s, k => by
    have ih := run_snoc al f
    rw [run]
    conv => rhs; rw [run]
    cases h : stp al s k with
    | none => rfl
    | some s' =>
      simp only [Option.bind_some]
      rw [ih s' (k + 1), show k + 1 + f = k + (f + 1) by omega]
theorem run_same {al al' : List Ac} : ∀ (f : Nat) (s : List At) (k : Nat), (∀ j, j < k + f → al'.getD j noAc = al.getD j noAc) → run al' s k f = run al s k f
  | 0, s, k, _ => rfl
  | f + 1, s, k, h => by
    rw [run, run]
    have : stp al' s k = stp al s k := by unfold stp; rw [h k (by omega)]
    rw [this]
    congr 1
    funext s'
    exact run_same f s' (k + 1) (fun j hj => h j (by omega))
theorem run_part (al : List Ac) : ∀ (f : Nat) (s : List At) (k : Nat), (run al s k f).isSome = true → ∀ i, i < f → ∃ s', run al s k i = some s' ∧ (stp al s' (k + i)).isSome = true
  | 0, s, k, _, i, hi => by omega
  | f + 1, s, k, h, i, hi => by
    rw [run_snoc] at h
    cases hr : run al s k f with
    | none => rw [hr] at h; cases h
    | some s1 =>
      rw [hr] at h
      by_cases e : i = f
      · subst e; exact ⟨s1, hr, h⟩
      · exact run_part al f s k (by rw [hr]; rfl) i (by omega)
theorem run_none (al : List Ac) {i : Nat} {s s' : List At} (hr : run al s 0 i = some s') (hn : stp al s' i = none) : ∀ (f : Nat), i < f → run al s 0 f = none
  | 0, h => by omega
  | f + 1, h => by
    rw [run_snoc]
    by_cases e : f = i
    · subst e; rw [hr]; simp only [Option.bind_some, Nat.zero_add]; exact hn
    · rw [run_none al hr hn f (by omega)]; rfl
/-- Each act comes back ahead of the next one's call. -/
def Seq (al : List Ac) : Prop := ∀ j, j < al.length → (al.getD j noAc).call = 2 * (j : Int) ∧ (al.getD j noAc).back = 2 * (j : Int) + 1 ∧ 0 ≤ (al.getD j noAc).th ∧ (al.getD j noAc).th < 4
theorem seq_ahead {al : List Ac} (h : Seq al) {i j : Nat} (hi : i < al.length) (hj : j < al.length) : (al.getD i noAc).ahead (al.getD j noAc) = decide (i < j) := by
  unfold Ac.ahead
  rw [(h i hi).2.1, (h j hj).1, decide_eq_true (by omega : (0 : Int) ≤ 2 * (i : Int) + 1), Bool.true_and, decide_eq_decide]
  omega
theorem seq_ok {al : List Ac} (h : Seq al) : ∀ (f k D : Nat) (s : List At) (o : List Nat), k + f = al.length → (∀ j, D.testBit j = decide (j < k)) → ((Pf al).Ok D s o ↔ o = List.range' k f ∧ (run al s k f).isSome = true)
  | 0, k, D, s, o, hk, hD => by
    cases o with
    | nil =>
      refine ⟨fun _ => ⟨rfl, rfl⟩, fun _ => ?_⟩
      show (Pf al).all D = true
      rw [all_iff]
      intro j hj _
      have : j < al.length := hj
      rw [hD, decide_eq_true_eq]
      omega
    | cons q r =>
      refine ⟨fun hok => ?_, fun e => by cases e.1⟩
      obtain ⟨hq, hf, -⟩ := hok
      have hq' : q < al.length := hq
      have := (free_iff.1 hf).1
      rw [hD, decide_eq_false_iff_not] at this
      omega
  | f + 1, k, D, s, o, hk, hD => by
    have hkl : k < al.length := by omega
    cases o with
    | nil =>
      refine ⟨fun hok => ?_, fun e => by cases e.1⟩
      have hok' : (Pf al).all D = true := hok
      rw [all_iff] at hok'
      have := hok' k hkl (by
        show Ac.isBack _ = true
        unfold Ac.isBack
        rw [(h k hkl).2.1, decide_eq_true_eq]
        omega)
      rw [hD, decide_eq_true_eq] at this
      omega
    | cons q r =>
      have hD' : ∀ j, (wth D k).testBit j = decide (j < k + 1) := fun j => by
        rw [has_wth, hD, Bool.eq_iff_iff, Bool.or_eq_true, decide_eq_true_eq, decide_eq_true_eq, decide_eq_true_eq]
        omega
      have ih := fun s' => seq_ok h f (k + 1) (wth D k) s' r (by omega) hD'
      constructor
      · rintro ⟨hq, hf, s', hs, hr⟩
        have hq' : q < al.length := hq
        rw [free_iff, hD, decide_eq_false_iff_not] at hf
        have hqk : q = k := by
          by_cases e : k < q
          · have := hf.2 k hkl (by
              show Ac.ahead _ _ = true
              rw [seq_ahead h hkl hq', decide_eq_true_eq]
              exact e)
            rw [hD, decide_eq_true_eq] at this
            omega
          · omega
        subst hqk
        have h2 := (ih s').1 hr
        have hs' : stp al s q = some s' := hs
        refine ⟨by rw [h2.1]; rfl, ?_⟩
        rw [run, hs']
        exact h2.2
      · rintro ⟨e, hr⟩
        have e' : q = k ∧ r = List.range' (k + 1) f := by
          rw [List.range'_succ] at e
          exact ⟨(List.cons.inj e).1, (List.cons.inj e).2⟩
        obtain ⟨rfl, hr2⟩ := e'
        rw [run] at hr
        cases hs : stp al s q with
        | none => rw [hs] at hr; cases hr
        | some s' =>
          rw [hs] at hr
          refine ⟨hkl, ?_, s', hs, (ih s').2 ⟨hr2, hr⟩⟩
          rw [free_iff, hD, decide_eq_false_iff_not]
          refine ⟨by omega, fun j hj he => ?_⟩
          have hj' : j < al.length := hj
          have he' : (al.getD j noAc).ahead (al.getD q noAc) = true := he
          rw [seq_ahead h hj' hkl, decide_eq_true_eq] at he'
          rw [hD, decide_eq_true_eq]
          exact he'
theorem seq_may {al : List Ac} (h : Seq al) (hl : al.length ≤ 60) : mayH al = true := by
  unfold mayH
  rw [Bool.and_eq_true, decide_eq_true_eq, List.all_eq_true]
  refine ⟨hl, fun i hi => ?_⟩
  have hi' := List.mem_range.1 hi
  obtain ⟨h1, h2, h3, h4⟩ := h i hi'
  unfold okAt
  rw [Bool.and_eq_true, Bool.not_eq_true', List.any_eq_false]
  refine ⟨?_, fun j hj => ?_⟩
  · unfold Ac.may
    simp only [Bool.and_eq_true, Bool.or_eq_true, decide_eq_true_eq]
    omega
  · have hj' := List.mem_range.1 hj
    unfold Ac.clash
    rw [seq_ahead h (by omega : j < al.length) hi', decide_eq_true hj']
    simp
/-- One act more, done behind the others. -/
def seqAct (a : Ac) (m : Nat) (n : Int) : Ac := ⟨a.th, a.dd, a.nm, a.arg, 2 * (m : Int), 2 * (m : Int) + 1, n⟩
def alone (os : List At) (ts : List Ac) : Nat → List At × List Ac
  | 0 => (os, [])
  | k + 1 => if (made (alone os ts k).1 (ts.getD k noAc)).2.2 = 0 then ((made (alone os ts k).1 (ts.getD k noAc)).1, (alone os ts k).2 ++ [seqAct (ts.getD k noAc) (alone os ts k).2.length (made (alone os ts k).1 (ts.getD k noAc)).2.1]) else alone os ts k
theorem made_th {s : List At} {a : Ac} (h : (made s a).2.2 = 0) : 0 ≤ a.th ∧ a.th < 4 := by
  unfold made doA at h
  by_cases hb : badA s a.th a.dd = true
  · rw [if_pos hb] at h
    have h' : (2 : Int) = 0 := h
    omega
  · unfold badA at hb
    simp only [Bool.or_eq_true, decide_eq_true_eq, not_or] at hb
    omega
structure AI (os : List At) (ts : List Ac) (k : Nat) (x : List At × List Ac) : Prop where
  len : x.2.length ≤ k
  seq : Seq x.2
  run : H.run x.2 os 0 x.2.length = some x.1
  may : mayAll os = true → mayAll x.1 = true
  args : (∀ r ∈ ts, (Lit.int .i64 r.arg).wf = true) → ∀ r ∈ x.2, (Lit.int .i64 r.arg).wf = true
  cnt : x.1.length = os.length
theorem alone_ai (os : List At) (ts : List Ac) : ∀ k, AI os ts k (alone os ts k)
  | 0 => ⟨Nat.le_refl _, fun j hj => by simp [alone] at hj, rfl, id, fun _ r hr => by simp [alone] at hr, rfl⟩
  | k + 1 => by
    have ih := alone_ai os ts k
    rw [alone]
    by_cases h0 : (made (alone os ts k).1 (ts.getD k noAc)).2.2 = 0
    · rw [if_pos h0]
      generalize hx : alone os ts k = x at *
      obtain ⟨s, al⟩ := x
      simp only at h0 ih ⊢
      have hlen := ih.len
      have hth := made_th h0
      have hold : ∀ j, j < al.length → (al ++ [seqAct (ts.getD k noAc) al.length (made s (ts.getD k noAc)).2.1]).getD j noAc = al.getD j noAc := fun j hj => by simp only [List.getD]; rw [List.getElem?_append_left hj]
      have hnew : (al ++ [seqAct (ts.getD k noAc) al.length (made s (ts.getD k noAc)).2.1]).getD al.length noAc = seqAct (ts.getD k noAc) al.length (made s (ts.getD k noAc)).2.1 := by simp [List.getD]
      refine ⟨by simp only [List.length_append, List.length_cons, List.length_nil]; simp only at hlen; omega, fun j hj => ?_, ?_, fun hm => made_may (ih.may hm) _, fun ha r hr => ?_, ?_⟩
      · rw [List.length_append, List.length_cons, List.length_nil] at hj
        by_cases e : j < al.length
        · rw [hold j e]; exact ih.seq j e
        · obtain rfl : j = al.length := by omega
          rw [hnew]
          exact ⟨rfl, rfl, hth⟩
      · rw [List.length_append, List.length_cons, List.length_nil, Nat.zero_add, run_snoc, run_same (al := al) _ _ _ (fun j hj => hold j (by omega)), ih.run]
        simp only [Option.bind_some, Nat.zero_add]
        unfold stp
        rw [hnew]
        have hm2 : made s (seqAct (ts.getD k noAc) al.length (made s (ts.getD k noAc)).2.1) = made s (ts.getD k noAc) := rfl
        have hg : goes s (seqAct (ts.getD k noAc) al.length (made s (ts.getD k noAc)).2.1) = true := by
          unfold goes
          rw [hm2, h0]
          simp [seqAct]
        rw [if_pos hg, hm2]
      · rcases List.mem_append.1 hr with h1 | h1
        · exact ih.args ha r h1
        · rw [List.mem_singleton.1 h1]
          show (Lit.int .i64 (ts.getD k noAc).arg).wf = true
          by_cases hk : k < ts.length
          · exact ha _ (by simp [List.getD, hk])
          · rw [show ts.getD k noAc = noAc by simp [List.getD, hk]]; decide
      · have := (Like.refl s).made (ts.getD k noAc)
        rw [this.len]
        exact ih.cnt
    · rw [if_neg h0]
      exact ⟨Nat.le_succ_of_le ih.len, ih.seq, ih.run, ih.may, ih.args, ih.cnt⟩
/-- With another answer of one of them there is none. -/
theorem seq_set {al : List Ac} (h : Seq al) {i : Nat} (n : Int) : Seq (al.set i { al.getD i noAc with ans := n }) := fun j hj => by
  rw [List.length_set] at hj
  by_cases e : i = j
  · subst e
    rw [A.getD_set_eq _ _ _ hj]
    exact h i hj
  · rw [A.getD_set_ne _ _ _ e]; exact h j hj
theorem other_bad {al : List Ac} (h : Seq al) {os s : List At} (hr : run al os 0 al.length = some s) {i : Nat} (hi : i < al.length) (ha : (al.getD i noAc).answers = true) {n : Int} (hn : n ≠ (al.getD i noAc).ans) : (Pf (al.set i { al.getD i noAc with ans := n })).Bad 0 os := fun o ho => by
  have h2 := (seq_ok (seq_set h n) al.length 0 0 os o (by rw [List.length_set]; omega) (fun j => by simp)).1 ho
  obtain ⟨s1, hs1, hst⟩ := run_part al al.length os 0 (by rw [hr]; rfl) i hi
  rw [Nat.zero_add] at hst
  have hsame : run (al.set i { al.getD i noAc with ans := n }) os 0 i = some s1 := by
    rw [run_same (al := al) _ _ _ (fun j hj => by rw [A.getD_set_ne _ _ _ (by omega)])]
    exact hs1
  have hgo : goes s1 (al.getD i noAc) = true := by
    unfold stp at hst
    cases hg : goes s1 (al.getD i noAc) with
    | true => rfl
    | false => rw [hg] at hst; cases hst
  have hans : (made s1 (al.getD i noAc)).2.1 = (al.getD i noAc).ans := by
    unfold goes at hgo
    have hb : (al.getD i noAc).isBack = true := by
      unfold Ac.isBack
      rw [(h i hi).2.1, decide_eq_true_eq]
      omega
    rw [hb, ha] at hgo
    simp only [Bool.not_true, Bool.or_false, Bool.and_eq_true, decide_eq_true_eq] at hgo
    exact hgo.2
  have hno : stp (al.set i { al.getD i noAc with ans := n }) s1 i = none := by
    unfold stp
    rw [A.getD_set_eq _ _ _ hi, if_neg]
    intro hg
    unfold goes at hg
    have hb : Ac.isBack { al.getD i noAc with ans := n } = true := by
      show decide (0 ≤ (al.getD i noAc).back) = true
      rw [(h i hi).2.1, decide_eq_true_eq]
      omega
    have ha2 : Ac.answers { al.getD i noAc with ans := n } = true := ha
    rw [hb, ha2] at hg
    simp only [Bool.not_true, Bool.or_false, Bool.and_eq_true, decide_eq_true_eq] at hg
    have h3 : (made s1 (al.getD i noAc)).2.1 = n := hg.2
    rw [hans] at h3
    exact hn h3.symm
  have := run_none _ hsame hno al.length hi
  rw [this] at h2
  cases h2.2
end H
end Go.Proofs.Ytafdjmccgijmnaa

/- The search of find: what it goes over; places tell states apart; how many places are kept at most. No walk. -/
import Derived.Test.YtafdjmccgijmnaaHiPlace
import Derived.Test.YtafdjmccgijmnaaHiLocal
import Derived.Test.YtafdjmccgijmnaaHiMemo
import Derived.Test.YtafdjmccgijmnaaAtMore
namespace Go.Proofs.Ytafdjmccgijmnaa
open Go.RowKit A
set_option linter.unusedVariables false
set_option linter.unusedSimpArgs false
theorem A.step_cap (x : At) (own d arg : Int) : (stepA x own d arg).1.cap = x.cap := by
  unfold stepA
  split
  · split <;> rfl
  split
  · split <;> rfl
  split
  · split <;> rfl
  · split <;> rfl
namespace H
/-- What an act makes of objects, if it can have been done there. -/
def stp (ts : List Ac) (s : List At) (k : Nat) : Option (List At) := if goes s (ts.getD k noAc) = true then some (made s (ts.getD k noAc)).1 else none
def Pf (ts : List Ac) : Pb (List At) := ⟨ts.length, fun k => (ts.getD k noAc).isBack, fun j k => (ts.getD j noAc).ahead (ts.getD k noAc), stp ts⟩
structure Like (s0 s : List At) : Prop where
  len : s.length = s0.length
  name : ∀ i, (s.getD i noAt).name = (s0.getD i noAt).name
  cap : ∀ i, (s.getD i noAt).cap = (s0.getD i noAt).cap
theorem Like.refl (s : List At) : Like s s := ⟨rfl, fun _ => rfl, fun _ => rfl⟩
theorem Like.made {s0 s : List At} (h : Like s0 s) (a : Ac) : Like s0 (made s a).1 := by
  unfold H.made
  rcases doA_cases s a.th a.dd a.nm a.arg with e | ⟨-, -, hw, -, e⟩
  · rw [e]; exact h
  · rw [e]
    refine ⟨by rw [List.length_set]; exact h.len, fun i => ?_, fun i => ?_⟩
    · by_cases ei : whereA s a.nm = i
      · subst ei; rw [A.getD_set_eq _ _ _ hw, step_name]; exact h.name _
      · rw [A.getD_set_ne _ _ _ ei]; exact h.name i
    · by_cases ei : whereA s a.nm = i
      · subst ei; rw [A.getD_set_eq _ _ _ hw, A.step_cap]; exact h.cap _
      · rw [A.getD_set_ne _ _ _ ei]; exact h.cap i
theorem list_eq8 {xs ys : List Int} (hx : xs.length ≤ 8) (hl : xs.length = ys.length) (h : ∀ j, j < 8 → xs.getD j 0 = ys.getD j 0) : xs = ys := by
  apply List.ext_getElem hl
  intro i h1 h2
  have := h i (by omega)
  simpa [List.getD, h1, h2] using this
theorem pcs_inj {d d' : Nat} {ow ow' ct ct' : Int} {zs zs' : List Int} (h : pcs d ow ct zs = pcs d' ow' ct' zs') : d = d' ∧ ow = ow' ∧ ct = ct' ∧ ∀ j, j < 8 → zs.getD j 0 = zs'.getD j 0 := by
  have h0 := congrArg (fun l => l[0]?) h
  have h1 := congrArg (fun l => l[1]?) h
  have h2 := congrArg (fun l => l[2]?) h
  simp only [pcs, List.getElem?_cons_zero, List.getElem?_cons_succ, Option.some.injEq, Value.int.injEq, true_and] at h0 h1 h2
  refine ⟨by omega, h1, h2, fun j hj => ?_⟩
  have h3 := congrArg (fun l => l[3 + j]?) h
  simp only [pcs_at _ _ _ _ hj, Option.some.injEq, Value.int.injEq, true_and] at h3
  exact h3
theorem may_len {s : List At} (h : mayAll s = true) {k : Nat} (hk : k < s.length) : (s.getD k noAt).items.length ≤ 8 := may_item h hk
/-- A place tells where a search is. -/
theorem pof_inj {s0 s s' : List At} (h0 : s0.length ≤ 1) (h : Like s0 s) (h' : Like s0 s') (hm : mayAll s = true) (hm' : mayAll s' = true) {d d' : Nat} (e : pof d s = pof d' s') : d = d' ∧ s = s' := by
  match s, s', h, h', hm, hm', e with
  | [], [], _, _, _, _, e => exact ⟨(pcs_inj e).1, rfl⟩
  | [], x :: r, h, h', _, _, _ => have := h.len; have := h'.len; simp at *; omega
  | x :: r, [], h, h', _, _, _ => have := h.len; have := h'.len; simp at *; omega
  | x :: r, x' :: r', h, h', hm, hm', e =>
    have hl := h.len
    have hl' := h'.len
    simp only [List.length_cons] at hl hl'
    have hr : r = [] := List.length_eq_zero_iff.1 (by omega)
    have hr' : r' = [] := List.length_eq_zero_iff.1 (by omega)
    subst hr hr'
    obtain ⟨e1, e2, e3, e4⟩ := pcs_inj (show pcs d x.owner x.items.length x.items = pcs d' x'.owner x'.items.length x'.items from e)
    have n1 := (h.name 0).trans (h'.name 0).symm
    have c1 := (h.cap 0).trans (h'.cap 0).symm
    have i1 := may_len hm (k := 0) (by simp)
    simp only [List.getD_cons_zero] at n1 c1 i1
    have hz : x.items = x'.items := list_eq8 i1 (by omega) e4
    obtain ⟨nm, cp, ow, zs⟩ := x
    obtain ⟨nm', cp', ow', zs'⟩ := x'
    simp only at n1 c1 e2 hz
    subst n1 c1 e2 hz
    exact ⟨e1, rfl⟩
theorem made_may {s : List At} (h : mayAll s = true) (a : Ac) : mayAll (made s a).1 = true := doA_may h
/-- How many places a search may keep. -/
def cost : Nat → Nat
  | 0 => 1
  | f + 1 => 1 + 12 * cost f
theorem cost_pos : ∀ f, 1 ≤ cost f
  | 0 => Nat.le_refl _
  | f + 1 => by rw [cost]; omega
theorem cost_mono {f g : Nat} (h : f ≤ g) : cost f ≤ cost g := by
  induction h with
  | refl => exact Nat.le_refl _
  | step _ ih => rw [cost]; omega
theorem cost12 : cost 12 ≤ 10000000000000 := by decide
theorem left_le {σ : Type} (p : Pb σ) (d : Nat) : p.left d ≤ p.n := by
  unfold Pb.left
  exact Nat.le_trans (List.length_filter_le _ _) (by simp)
theorem all_sub {ts : List Ac} {d : Nat} (hl : ts.length ≤ 60) (hd : d < 2 ^ 60) : (Pf ts).all d = sub (backs ts ts.length) d := by
  have hb := backs_lt ts ts.length hl
  rw [Bool.eq_iff_iff, all_iff, sub_iff (by omega) (by omega)]
  constructor
  · intro h j hj
    rw [backs_has, Bool.and_eq_true, decide_eq_true_eq] at hj
    exact h j hj.1 hj.2
  · intro h k hk hm
    exact h k (by rw [backs_has, Bool.and_eq_true, decide_eq_true_eq]; exact ⟨hk, hm⟩)
theorem free_sub {ts : List Ac} {d k : Nat} (hl : ts.length ≤ 60) (hd : d < 2 ^ 60) : (Pf ts).free d k = (!(d.testBit k) && sub (erl ts k ts.length) d) := by
  have hb := erl_lt ts k ts.length hl
  rw [Bool.eq_iff_iff, free_iff, Bool.and_eq_true, Bool.not_eq_true', sub_iff (by omega) (by omega)]
  refine and_congr_right fun _ => ⟨fun h j hj => ?_, fun h j hj he => ?_⟩
  · rw [erl_has, Bool.and_eq_true, decide_eq_true_eq] at hj
    exact h j hj.1 hj.2
  · exact h j (by rw [erl_has, Bool.and_eq_true, decide_eq_true_eq]; exact ⟨hj, he⟩)
theorem wth_lt {d k : Nat} (hd : d < 2 ^ 60) (hk : k < 60) : wth d k < 2 ^ 60 := by
  unfold wth
  exact Nat.or_lt_two_pow hd (Nat.pow_lt_pow_right (by decide) hk)
end H
end Go.Proofs.Ytafdjmccgijmnaa

/- What is written of what was read is read again: texts, numbers, what goes on. -/
import Derived.Test.YtikknlkdbjaonaaGreatDoorPBAk
import Derived.Test.YtikknlkdbjaonaaGreatDoorPBAt
import Derived.Test.YtikknlkdbjaonaaGreatDoorPKa
namespace Go.Proofs.YtikknlkdbjaonaaGreatDoor.Y
open X
set_option linter.unusedVariables false
set_option linter.unusedSimpArgs false
/-- The texts of tokens. -/
def txs (ts : List X.Tok) (i j : Nat) : List By := ((ts.take j).drop i).map (·.text)
theorem txs_one {ts : List X.Tok} {i : Nat} (h : i < ts.length) : txs ts i (i + 1) = [(tk ts i).text] := by
  unfold txs tk
  rw [List.getD_eq_getElem?_getD, List.getElem?_eq_getElem h, Option.getD_some, List.drop_take, show i + 1 - i = 1 by omega, List.drop_eq_getElem_cons h]
  rfl
theorem txs_add {ts : List X.Tok} {i j k : Nat} (h : i ≤ j) (h2 : j ≤ k) : txs ts i k = txs ts i j ++ txs ts j k := by
  unfold txs
  rw [← List.map_append]
  congr 1
  rw [List.drop_take, List.drop_take, List.drop_take, show k - i = (j - i) + (k - j) by omega, List.take_add, List.drop_drop, show i + (j - i) = j by omega]
theorem txs_nil (ts : List X.Tok) (i : Nat) : txs ts i i = [] := by
  unfold txs
  rw [List.drop_take]; simp
/-- What lex gives: each token's text tells the rest. -/
structure Lx (ts : List X.Tok) : Prop where
  self : ∀ i, (tk ts i).text ≠ [] → X.step (tk ts i).text = some ((tk ts i).kind, (tk ts i).text.length, (tk ts i).n)
  nul : ∀ i, (tk ts i).text = [] → (tk ts i).kind = 0
  pos : ∀ i, (tk ts i).text ≠ [] → (tk ts i).kind ≠ 0
theorem Lx.kind {A C : List X.Tok} (a : Lx A) (c : Lx C) {i k : Nat} (h : (tk C k).text = (tk A i).text) : (tk C k).kind = (tk A i).kind := by
  by_cases e : (tk A i).text = []
  · rw [a.nul i e, c.nul k (h.trans e)]
  · have h1 := a.self i e
    have h2 := c.self k (by rw [h]; exact e)
    rw [h, h1] at h2
    injection h2 with h2; injection h2 with h2 _; exact h2.symm
theorem Lx.num {A C : List X.Tok} (a : Lx A) (c : Lx C) {i k : Nat} (h : (tk C k).text = (tk A i).text) (hk : (tk A i).kind ≠ 0) : (tk C k).n = (tk A i).n := by
  have e : (tk A i).text ≠ [] := fun e => hk (a.nul i e)
  have h1 := a.self i e
  have h2 := c.self k (by rw [h]; exact e)
  rw [h, h1] at h2
  injection h2 with h2; injection h2 with _ h2; injection h2 with _ h2; exact h2.symm
/-- These texts stand there. -/
def At : List By → List X.Tok → Nat → Prop
  | [], _, _ => True
  | s :: u, ts, i => (tk ts i).text = s ∧ At u ts (i + 1)
theorem At_app : ∀ {u v : List By} {ts : List X.Tok} {i : Nat}, At (u ++ v) ts i ↔ At u ts i ∧ At v ts (i + u.length)
  | [], v, ts, i => by simp [At]
  | s :: u, v, ts, i => by
    rw [List.cons_append, At, At, At_app, List.length_cons, show i + 1 + u.length = i + (u.length + 1) by omega, and_assoc]
theorem puts_app : ∀ (T : By) (u v : List By), puts T (u ++ v) = (puts T u).bind fun T1 => puts T1 v
  | T, [], v => by simp [puts]
  | T, s :: u, v => by
    show (put1 T s).bind (fun T' => puts T' (u ++ v)) = ((put1 T s).bind fun T' => puts T' u).bind fun T1 => puts T1 v
    cases put1 T s with
    | none => rfl
    | some T1 => exact puts_app T1 u v
theorem puts_cons (T : By) (s : By) (v : List By) : puts T (s :: v) = (puts T [s]).bind fun T1 => puts T1 v := puts_app T [s] v
/-! ### Numbers -/
theorem numV_app (l : By) (c : UInt8) : X.numV (l ++ [c]) = X.numV l * 10 + (c.toNat - 48) := by
  unfold X.numV; rw [List.foldl_append]; rfl
theorem numV_pos {l : By} (hd : l.all X.pd = true) (hne : l ≠ []) (hf : X.first l ≠ 48) : 1 ≤ X.numV l := by
  cases l with
  | nil => exact absurd rfl hne
  | cons c r =>
    have h1 := X.foldl_ge r (c.toNat - 48)
    simp only [List.all_cons, Bool.and_eq_true, X.pd, X.dg, decide_eq_true_eq] at hd
    have h2 : X.first (c :: r) = c.toNat := rfl
    have h3 : X.numV (c :: r) = r.foldl (fun u c => u * 10 + (c.toNat - 48)) (c.toNat - 48) := by unfold X.numV; rw [List.foldl_cons]; simp
    omega
theorem dec_back : ∀ (n : Nat) (l : By), l.length = n → l.all X.pd = true → l ≠ [] → (l = [48] ∨ X.first l ≠ 48) → Go.Lib.decDigits (X.numV l) = l
  | 0, l, hn, _, hne, _ => absurd (List.length_eq_zero_iff.1 hn) hne
  | n + 1, l, hn, hd, hne, hf => by
    obtain ⟨r, c, rfl⟩ : ∃ r c, l = r ++ [c] := ⟨l.dropLast, l.getLast hne, (List.dropLast_concat_getLast hne).symm⟩
    rw [numV_app]
    rw [List.all_append, Bool.and_eq_true] at hd
    have hc : 48 ≤ c.toNat ∧ c.toNat ≤ 57 := by have := hd.2; simp [X.pd, X.dg] at this; exact this
    have hc2 : UInt8.ofNat (48 + (c.toNat - 48)) = c := by rw [show 48 + (c.toNat - 48) = c.toNat by omega]; simp
    by_cases hr : r = []
    · subst hr
      have : X.numV [] = 0 := rfl
      rw [this, Go.Lib.decDigits, dif_pos (by omega)]
      simp [hc2]
    · have hfr : X.first r ≠ 48 := by
        cases r with
        | nil => exact absurd rfl hr
        | cons a b =>
          rcases hf with hf | hf
          · have := congrArg List.length hf; simp at this
          · exact hf
      have hp := numV_pos hd.1 hr hfr
      have ih := dec_back n r (by simp at hn; exact hn) hd.1 hr (.inr hfr)
      rw [Go.Lib.decDigits, dif_neg (by omega), show (X.numV r * 10 + (c.toNat - 48)) / 10 = X.numV r by omega, show (X.numV r * 10 + (c.toNat - 48)) % 10 = c.toNat - 48 by omega, ih, hc2]
theorem first_pd {l : By} (h : X.dg (X.first l) = true) : l ≠ [] := by
  intro e; subst e; simp [X.first, X.dg] at h
theorem num_text {t : By} {v : Nat} (h : X.step t = some (1, t.length, v)) : Go.Lib.itoa (v : Int) = t := by
  unfold X.step at h
  simp only at h
  split at h
  · simp at h
  split at h
  · simp at h
  split at h
  · simp at h
  split at h
  · simp at h
  split at h
  · split at h <;> simp at h
  split at h
  · simp at h
  split at h
  · rename_i hd
    unfold X.number at h
    split at h
    · rename_i hn
      simp only [Option.some.injEq, Prod.mk.injEq, true_and] at h
      obtain ⟨h1, h2⟩ := h
      have ht : t.takeWhile X.pd = t := by rw [X.takeWhile_eq, h1, List.take_length]
      rw [ht] at hn h2
      have hall : t.all X.pd = true := by
        rw [← ht]
        exact List.all_takeWhile
      have hok := hn.1
      unfold X.numOk at hok
      simp only [Bool.and_eq_true, Bool.or_eq_true, decide_eq_true_eq] at hok
      unfold Go.Lib.itoa
      rw [if_neg (by omega), show (v : Int).toNat = v by omega, ← h2]
      exact dec_back _ t rfl hall (first_pd hd) hok.2
    · simp at h
  · unfold X.wordOrName at h
    split at h
    · simp at h
    split at h <;> simp at h
end Go.Proofs.YtikknlkdbjaonaaGreatDoor.Y

/- What is written of an expression that was read is read again: expressions. -/
namespace Go.Proofs.YtikknlkdbjaonaaGreatDoor.Y
open X
set_option linter.unusedVariables false
set_option linter.unusedSimpArgs false
/-- How close the x-th binds. -/
def cl0 (E : List Exp) (x : Nat) : Nat := clo (E.getD x noE)
/-- With brackets, where it must. -/
def pt (c m : Nat) (u : List By) : List By := if c < m then [40] :: (u ++ [[41]]) else u
theorem pt_len (c m : Nat) (u : List By) : u.length ≤ (pt c m u).length := by unfold pt; split <;> simp <;> omega
/-- As it is read again. -/
structure XP (E0 : List Exp) (d x : Nat) (E : List Exp) (u : List By) : Prop where
  pos : 1 ≤ cl0 E x
  le : cl0 E x ≤ 11
  one : cl0 E x = 11 → ∀ (ts : List X.Tok) (i d2 : Nat), Lx ts → d2 ≤ d → At u ts i → (tk ts (i + u.length)).text ≠ [91] → Un ts d2 i E0 = some (x, i + u.length, E)
  two : ∀ (ts : List X.Tok) (i d2 L : Nat), Lx ts → d2 ≤ d → 1 ≤ L → L ≤ cl0 E x → At u ts i → lev (tk ts (i + u.length)).text ≤ cl0 E x → (tk ts (i + u.length)).text ≠ [91] → Bin ts L d2 i E0 = Lp ts L d2 x (i + u.length) E
theorem XP.less {E0 E : List Exp} {d d' x : Nat} {u : List By} (h : XP E0 d x E u) (hd : d' ≤ d) : XP E0 d' x E u :=
  ⟨h.pos, h.le, fun e ts i d2 hl h2 => h.one e ts i d2 hl (by omega), fun ts i d2 L hl h2 => h.two ts i d2 L hl (by omega)⟩
/-- As it is written. -/
structure Wp (x : Nat) (E : List Exp) (u : List By) : Prop where
  lt : x < E.length
  wr : ∀ (N : List Exp) (f : Nat) (T : By), 2 * x + 2 ≤ f → wopen (E ++ N) f (E.getD x noE) x T = puts T u
theorem getD_app {E N : List Exp} {x : Nat} (h : x < E.length) : (E ++ N).getD x noE = E.getD x noE := by
  rw [List.getD_eq_getElem?_getD, List.getElem?_append_left h, ← List.getD_eq_getElem?_getD]
theorem getD_end (E : List Exp) (e : Exp) : (E ++ [e]).getD E.length noE = e := by
  rw [List.getD_eq_getElem?_getD, List.getElem?_append_right (Nat.le_refl _), Nat.sub_self]; rfl
theorem cl0_app {E N : List Exp} {x : Nat} (h : x < E.length) : cl0 (E ++ N) x = cl0 E x := by unfold cl0; rw [getD_app h]
theorem cl0_end (E : List Exp) (e : Exp) : cl0 (E ++ [e]) E.length = clo e := by unfold cl0; rw [getD_end]
theorem Wp.more {x : Nat} {E : List Exp} {u : List By} (h : Wp x E u) (N : List Exp) : Wp x (E ++ N) u :=
  ⟨by rw [List.length_append]; have := h.lt; omega, fun M f T hf => by rw [List.append_assoc, getD_app h.lt]; exact h.wr _ f T hf⟩
theorem Wp.part {x : Nat} {E : List Exp} {u : List By} (h : Wp x E u) (N : List Exp) {f A m : Nat} (T : By) (hA : x < A) (hf : 2 * x + 3 ≤ f) : wpart (E ++ N) f (x : Int) A m T = puts T (pt (cl0 E x) m u) := by
  obtain ⟨f, rfl⟩ : ∃ g, f = g + 1 := ⟨f - 1, by omega⟩
  rw [wpart, if_neg (by omega), show (x : Int).toNat = x by omega, getD_app h.lt]
  unfold pt
  have e : clo (E.getD x noE) = cl0 E x := rfl
  rw [e]
  by_cases hc : cl0 E x < m
  · rw [if_pos hc, if_pos hc, puts_cons T [40] (u ++ [[41]])]
    congr 1
    funext T1
    rw [puts_app, h.wr N f T1 (by omega)]
  · rw [if_neg hc, if_neg hc]
    exact h.wr N f T (by omega)
theorem brk (d x : Nat) {E0 E : List Exp} {u : List By} (h : XP E0 (d + 1) x E u) {ts : List X.Tok} {i d2 : Nat} (hl : Lx ts) (h2 : d2 ≤ d) (h3 : d < 20) (ha : At ([40] :: (u ++ [[41]])) ts i) : Un ts d2 i E0 = some (x, i + u.length + 2, E) := by
  obtain ⟨a0, a1⟩ := ha
  obtain ⟨a1, a2, -⟩ := At_app.1 a1
  rw [Un_eq, if_neg (by rw [a0]; decide), if_pos a0, if_neg (by omega)]
  have hp := h.pos
  have l0 : lev [41] = 0 := by decide
  rw [h.two ts (i + 1) (d2 + 1) 1 hl (by omega) (Nat.le_refl _) hp a1 (by rw [a2, l0]; omega) (by rw [a2]; decide), Lp_eq ts _ _ _ _ (Nat.le_refl _), if_neg (by rw [a2, l0]; omega)]
  dsimp only
  rw [if_pos a2]
  rw [show i + 1 + u.length + 1 = i + u.length + 2 by omega]
/-- Where it stands to the left. -/
theorem left {d x m L : Nat} {E0 E : List Exp} {u : List By} (h : XP E0 d x E u) (hm : cl0 E x < m → d < 20 ∧ XP E0 (d + 1) x E u) {ts : List X.Tok} {i d2 : Nat} (hl : Lx ts) (h2 : d2 ≤ d) (h1 : 1 ≤ L) (hL : L ≤ m) (ha : At (pt (cl0 E x) m u) ts i) (hn : lev (tk ts (i + (pt (cl0 E x) m u).length)).text ≤ m) (hb : (tk ts (i + (pt (cl0 E x) m u).length)).text ≠ [91]) : Bin ts L d2 i E0 = Lp ts L d2 x (i + (pt (cl0 E x) m u).length) E := by
  unfold pt at ha hn hb ⊢
  by_cases hc : cl0 E x < m
  · rw [if_pos hc] at ha hn hb ⊢
    obtain ⟨h3, h4⟩ := hm hc
    rw [Bin_eq ts _ _ _ h1, brk d x h4 hl h2 h3 ha]
    simp only [List.length_cons, List.length_append, List.length_nil]
    rw [show i + u.length + 2 = i + (u.length + (0 + 1) + 1) by omega]
  · rw [if_neg hc] at ha hn hb ⊢
    exact h.two ts i d2 L hl h2 h1 (by omega) ha (by omega) hb
/-- Where it stands alone. -/
theorem alone {d x m : Nat} {E0 E : List Exp} {u : List By} (h : XP E0 d x E u) (hm : cl0 E x < m → d < 20 ∧ XP E0 (d + 1) x E u) {ts : List X.Tok} {i d2 : Nat} (hl : Lx ts) (h2 : d2 ≤ d) (h1 : 1 ≤ m) (ha : At (pt (cl0 E x) m u) ts i) (hn : lev (tk ts (i + (pt (cl0 E x) m u).length)).text < m) (hb : (tk ts (i + (pt (cl0 E x) m u).length)).text ≠ [91]) : Bin ts m d2 i E0 = some (x, i + (pt (cl0 E x) m u).length, E) := by
  rw [left h hm hl h2 h1 (Nat.le_refl _) ha (by omega) hb, Lp_eq ts _ _ _ _ h1, if_neg (by omega)]
/-- Where a sign stands ahead. -/
theorem tight {d x : Nat} {E0 E : List Exp} {u : List By} (h : XP E0 d x E u) (hm : cl0 E x < 11 → d < 20 ∧ XP E0 (d + 1) x E u) {ts : List X.Tok} {i d2 : Nat} (hl : Lx ts) (h2 : d2 ≤ d) (ha : At (pt (cl0 E x) 11 u) ts i) (hb : (tk ts (i + (pt (cl0 E x) 11 u).length)).text ≠ [91]) : Un ts d2 i E0 = some (x, i + (pt (cl0 E x) 11 u).length, E) := by
  unfold pt at ha hb ⊢
  by_cases hc : cl0 E x < 11
  · rw [if_pos hc] at ha hb ⊢
    obtain ⟨h3, h4⟩ := hm hc
    rw [brk d x h4 hl h2 h3 ha]
    simp only [List.length_cons, List.length_append, List.length_nil]
    rw [show i + u.length + 2 = i + (u.length + (0 + 1) + 1) by omega]
  · rw [if_neg hc] at ha hb ⊢
    have := h.le
    exact h.one (by omega) ts i d2 hl h2 ha hb
/-- What reading an expression gives. -/
structure BP (ts : List X.Tok) (m d i j : Nat) (E0 : List Exp) (x : Nat) (E : List Exp) (u : List By) : Prop where
  wp : Wp x E u
  xp : XP E0 d x E u
  sub : List.Sublist (pt (cl0 E x) m u) (txs ts i j)
  deep : cl0 E x < m → d < 20 ∧ XP E0 (d + 1) x E u
theorem BP.mono {ts : List X.Tok} {m m' d i j x : Nat} {E0 E : List Exp} {u : List By} (h : BP ts m d i j E0 x E u) (hm : m' ≤ m) : BP ts m' d i j E0 x E u := by
  refine ⟨h.wp, h.xp, ?_, fun hc => h.deep (by omega)⟩
  have h0 := h.sub
  unfold pt at h0 ⊢
  by_cases hc : cl0 E x < m'
  · rw [if_pos (by omega)] at h0; rw [if_pos hc]; exact h0
  · rw [if_neg hc]
    by_cases hd : cl0 E x < m
    · rw [if_pos hd] at h0
      exact ((List.sublist_append_left _ _).cons _).trans h0
    · rw [if_neg hd] at h0; exact h0
theorem lp_stop (ts : List X.Tok) : ∀ f lv d x i E x' j E', lp ts f lv d x i E = some (x', j, E') → lev (tk ts j).text < lv
  | 0, _, _, _, _, _, _, _, _, h => by simp [lp] at h
  | f + 1, lv, d, x, i, E, x', j, E', h => by
    rw [lp] at h
    split at h
    · split at h
      · cases h
      · exact lp_stop ts f _ _ _ _ _ _ _ _ h
    · injection h with h; injection h with h0 h; injection h with h h'; subst h; omega
theorem bin_stop {ts : List X.Tok} {f lv d i x j : Nat} {E E' : List Exp} (h : bin ts f lv d i E = some (x, j, E')) : lev (tk ts j).text < lv := by
  cases f with
  | zero => simp [bin] at h
  | succ f =>
    rw [bin] at h
    split at h
    · cases h
    · exact lp_stop _ _ _ _ _ _ _ _ _ _ h
/-- Nothing but operators binds. -/
theorem lev_br : lev [91] = 0 := by decide
/-- A leaf. -/
theorem leaf {ts : List X.Tok} {d i j : Nat} {E0 : List Exp} {e : Exp} {u : List By} (hk : e.kind ≠ 5) (hs : List.Sublist u (txs ts i j)) (hw : ∀ (N : List Exp) (f : Nat) (T : By), 2 * E0.length + 2 ≤ f → wopen ((E0 ++ [e]) ++ N) f e E0.length T = puts T u) (hu : ∀ (t2 : List X.Tok) (i2 d2 : Nat), Lx t2 → d2 ≤ d → At u t2 i2 → (tk t2 (i2 + u.length)).text ≠ [91] → Un t2 d2 i2 E0 = some (E0.length, i2 + u.length, E0 ++ [e])) : BP ts 11 d i j E0 E0.length (E0 ++ [e]) u := by
  have hc : cl0 (E0 ++ [e]) E0.length = 11 := by rw [cl0_end]; unfold clo; rw [if_neg hk]
  refine ⟨⟨by simp, fun N f T hf => by rw [getD_end]; exact hw N f T hf⟩, ⟨by omega, by omega, fun _ => hu, fun t2 i2 d2 L hl h2 h1 hL ha hn hb => ?_⟩, ?_, fun h => by omega⟩
  · rw [Bin_eq t2 _ _ _ h1, hu t2 i2 d2 hl h2 ha hb]
  · unfold pt; rw [if_neg (by omega)]; exact hs
theorem bk_un {ts : List X.Tok} (G : Lx ts) : ∀ f,
    (∀ d i E x j E', un ts f d i E = some (x, j, E') → ∃ u N, E' = E ++ N ∧ BP ts 11 d i j E x E' u) ∧
    (∀ lv d i E x j E', 1 ≤ lv → lv ≤ 11 → bin ts f lv d i E = some (x, j, E') → ∃ u N, E' = E ++ N ∧ BP ts lv d i j E x E' u) ∧
    (∀ lv d i0 E0 x i E x' j E' u, 1 ≤ lv → lv ≤ 11 → i0 ≤ i → i ≤ ts.length → BP ts lv d i0 i E0 x E u → BP ts (lev (tk ts i).text) d i0 i E0 x E u → lp ts f lv d x i E = some (x', j, E') → ∃ u N, E' = E ++ N ∧ BP ts lv d i0 j E0 x' E' u)
  | 0 => ⟨fun _ _ _ _ _ _ h => by simp [un] at h, fun _ _ _ _ _ _ _ _ _ h => by simp [bin] at h, fun _ _ _ _ _ _ _ _ _ _ _ _ _ _ _ _ _ h => by simp [lp] at h⟩
  | f + 1 => by
    obtain ⟨h1, h2, h3⟩ := bk_un G f
    refine ⟨fun d i E x j E' h => ?_, fun lv d i E x j E' hl hu h => ?_, fun lv d i0 E0 x i E x' j E' u hl hu hi hit hb hb2 h => ?_⟩
    · have hij := (on ts _).1 _ _ _ _ _ _ h
      rw [un] at h
      by_cases c1 : (tk ts i).text = [45] ∨ (tk ts i).text = [33]
      · rw [if_pos c1] at h
        by_cases c2 : 20 ≤ d
        · rw [if_pos c2] at h; cases h
        rw [if_neg c2] at h
        split at h
        · cases h
        · rename_i x1 j1 E1 he
          injection h with h; injection h with h0 h; injection h with h h'; subst h0 h h'
          obtain ⟨u, N, rfl, hp⟩ := h1 _ _ _ _ _ _ he
          have ho := (on ts _).1 _ _ _ _ _ _ he
          refine ⟨(tk ts i).text :: pt (cl0 (E ++ N) x1) 11 u, N ++ [_], List.append_assoc _ _ _, ?_⟩
          have hcl : cl0 ((E ++ N) ++ [⟨4, (tk ts i).text, [], 0, x1, 0⟩]) (E ++ N).length = 11 := by rw [cl0_end]; rfl
          refine ⟨⟨by simp, fun M f' T hf => ?_⟩, ⟨by omega, by omega, fun _ t2 i2 d2 hl h2 ha hb => ?_, fun t2 i2 d2 L hl h2 hL1 hL ha hn hb => ?_⟩, ?_, fun h => by omega⟩
          · rw [getD_end]
            obtain ⟨f', rfl⟩ : ∃ g, f' = g + 1 := ⟨f' - 1, by omega⟩
            rw [wopen]
            simp only
            rw [if_neg (by decide), if_neg (by decide), if_neg (by decide), if_pos trivial, puts_cons T (tk ts i).text (pt (cl0 (E ++ N) x1) 11 u)]
            congr 1
            funext T1
            have := hp.wp.lt
            rw [List.append_assoc]
            exact hp.wp.part _ T1 this (by omega)
          · obtain ⟨a0, a1⟩ := ha
            rw [Un_eq, a0, if_pos c1, if_neg (by omega)]
            rw [List.length_cons] at hb ⊢
            rw [tight hp.xp hp.deep hl (by omega) a1 (by rw [show i2 + 1 + (pt (cl0 (E ++ N) x1) 11 u).length = i2 + ((pt (cl0 (E ++ N) x1) 11 u).length + 1) by omega]; exact hb)]
            dsimp only
            rw [show i2 + 1 + (pt (cl0 (E ++ N) x1) 11 u).length = i2 + ((pt (cl0 (E ++ N) x1) 11 u).length + 1) by omega]
          · obtain ⟨a0, a1⟩ := ha
            rw [List.length_cons] at hb ⊢
            rw [Bin_eq t2 _ _ _ hL1, Un_eq, a0, if_pos c1, if_neg (by omega)]
            rw [tight hp.xp hp.deep hl (by omega) a1 (by rw [show i2 + 1 + (pt (cl0 (E ++ N) x1) 11 u).length = i2 + ((pt (cl0 (E ++ N) x1) 11 u).length + 1) by omega]; exact hb)]
            dsimp only
            rw [show i2 + 1 + (pt (cl0 (E ++ N) x1) 11 u).length = i2 + ((pt (cl0 (E ++ N) x1) 11 u).length + 1) by omega]
          · rw [hcl]
            unfold pt
            rw [if_neg (by omega), txs_add (show i ≤ i + 1 by omega) (by omega), txs_one (by omega)]
            exact hp.sub.cons_cons _
      rw [if_neg c1] at h
      by_cases c2 : (tk ts i).text = [40]
      · rw [if_pos c2] at h
        by_cases c3 : 20 ≤ d
        · rw [if_pos c3] at h; cases h
        rw [if_neg c3] at h
        split at h
        · cases h
        · rename_i x' j' E1 he
          split at h
          · rename_i ht
            injection h with h; injection h with h0 h; injection h with h h'; subst h0 h h'
            obtain ⟨u, N, rfl, hp⟩ := h2 _ _ _ _ _ _ _ (Nat.le_refl _) (by omega) he
            have ho := (on ts _).2.1 _ _ _ _ _ _ _ (Nat.le_refl _) he
            refine ⟨u, N, rfl, hp.wp, hp.xp.less (by omega), ?_, fun _ => ⟨by omega, hp.xp⟩⟩
            have hs := hp.sub
            have hpos := hp.xp.pos
            unfold pt at hs ⊢
            rw [if_neg (by omega)] at hs
            rw [txs_add (show i ≤ i + 1 by omega) (by omega), txs_one (by omega), txs_add (show i + 1 ≤ j' by omega) (by omega), txs_one (i := j') (by omega), ht, c2]
            split
            · exact (hs.append (List.Sublist.refl _)).cons_cons _
            · exact (hs.trans (List.sublist_append_left _ _)).cons _
          · cases h
      rw [if_neg c2] at h
      by_cases c3 : (tk ts i).kind = 1
      · rw [if_pos c3] at h
        injection h with h; injection h with h0 h; injection h with h h'; subst h0 h h'
        have hne : (tk ts i).text ≠ [] := fun e => by rw [G.nul i e] at c3; exact absurd c3 (by decide)
        have hst := G.self i hne
        rw [c3] at hst
        refine ⟨[(tk ts i).text], [_], rfl, leaf (by simp) (by rw [txs_one (by omega)]; exact List.Sublist.refl _) (fun M f' T hf => ?_) fun t2 i2 d2 hl h2 ha hb => ?_⟩
        · obtain ⟨f', rfl⟩ : ∃ g, f' = g + 1 := ⟨f' - 1, by omega⟩
          rw [wopen]
          simp only
          rw [if_pos trivial, num_text hst]
        · obtain ⟨a0, -⟩ := ha
          rw [Un_eq, G.kind hl a0, G.num hl a0 (by rw [c3]; decide), a0, if_neg c1, if_neg c2, if_pos c3]
          rfl
      rw [if_neg c3] at h
      by_cases c4 : (tk ts i).kind = 2
      · rw [if_pos c4] at h
        by_cases c5 : (tk ts (i + 1)).text = [91]
        · rw [if_pos c5] at h
          by_cases c6 : 20 ≤ d
          · rw [if_pos c6] at h; cases h
          rw [if_neg c6] at h
          split at h
          · cases h
          · rename_i x' j' E1 he
            split at h
            · rename_i ht
              injection h with h; injection h with h0 h; injection h with h h'; subst h0 h h'
              obtain ⟨u, N, rfl, hp⟩ := h2 _ _ _ _ _ _ _ (Nat.le_refl _) (by omega) he
              have ho := (on ts _).2.1 _ _ _ _ _ _ _ (Nat.le_refl _) he
              have hpos := hp.xp.pos
              have hpt : pt (cl0 (E ++ N) x') 1 u = u := by unfold pt; rw [if_neg (by omega)]
              have hs := hp.sub
              rw [hpt] at hs
              have hun : ∀ (t2 : List X.Tok) (i2 d2 : Nat), Lx t2 → d2 ≤ d → At ((tk ts i).text :: [91] :: (u ++ [[93]])) t2 i2 → (tk t2 (i2 + ((tk ts i).text :: [91] :: (u ++ [[93]])).length)).text ≠ [91] → Un t2 d2 i2 E = some ((E ++ N).length, i2 + ((tk ts i).text :: [91] :: (u ++ [[93]])).length, (E ++ N) ++ [⟨3, [], (tk ts i).text, 0, x', 0⟩]) := by
                intro t2 i2 d2 hl h2 ha hb
                obtain ⟨a0, a1, a2⟩ := ha
                obtain ⟨a2, a3, -⟩ := At_app.1 a2
                have l0 : lev [93] = 0 := by decide
                rw [Un_eq, G.kind hl a0, a0, if_neg c1, if_neg c2, if_neg c3, if_pos c4, if_pos a1, if_neg (by omega)]
                have hal := alone (m := 1) hp.xp (fun hh => absurd hh (by omega)) hl (show d2 + 1 ≤ d + 1 by omega) (Nat.le_refl _) (i := i2 + 2) (by rw [hpt]; exact a2) (by rw [hpt, a3, l0]; omega) (by rw [hpt, a3]; decide)
                rw [hpt] at hal
                rw [hal]
                dsimp only
                rw [if_pos a3]
                simp only [List.length_cons, List.length_append, List.length_nil]
                rw [show i2 + 2 + u.length + 1 = i2 + (u.length + (0 + 1) + 1 + 1) by omega]
              have hcl : cl0 ((E ++ N) ++ [⟨3, [], (tk ts i).text, 0, x', 0⟩]) (E ++ N).length = 11 := by rw [cl0_end]; rfl
              refine ⟨(tk ts i).text :: [91] :: (u ++ [[93]]), N ++ [_], List.append_assoc _ _ _, ⟨by simp, fun M f' T hf => ?_⟩, ⟨by omega, by omega, fun _ => hun, fun t2 i2 d2 L hl h2 hL1 hL ha hn hb => ?_⟩, ?_, fun h => by omega⟩
              · rw [getD_end]
                obtain ⟨f', rfl⟩ : ∃ g, f' = g + 1 := ⟨f' - 1, by omega⟩
                rw [wopen]
                simp only
                rw [if_neg (by decide), if_neg (by decide), if_pos trivial, show (tk ts i).text :: [91] :: (u ++ [[93]]) = [(tk ts i).text, [91]] ++ (u ++ [[93]]) from rfl, puts_app T]
                congr 1
                funext T1
                have := hp.wp.lt
                rw [List.append_assoc, hp.wp.part _ T1 this (by omega), hpt, puts_app]
              · rw [Bin_eq t2 _ _ _ hL1, hun t2 i2 d2 hl h2 ha hb]
              · rw [hcl]
                unfold pt
                rw [if_neg (by omega), txs_add (show i ≤ i + 1 by omega) (by omega), txs_one (by omega), txs_add (show i + 1 ≤ i + 2 by omega) (by omega), txs_one (i := i + 1) (by omega), txs_add (show i + 2 ≤ j' by omega) (by omega), txs_one (i := j') (by omega), ht, c5]
                exact ((hs.append (List.Sublist.refl _)).cons_cons _).cons_cons _
            · cases h
        · rw [if_neg c5] at h
          injection h with h; injection h with h0 h; injection h with h h'; subst h0 h h'
          refine ⟨[(tk ts i).text], [_], rfl, leaf (by simp) (by rw [txs_one (by omega)]; exact List.Sublist.refl _) (fun M f' T hf => ?_) fun t2 i2 d2 hl h2 ha hb => ?_⟩
          · obtain ⟨f', rfl⟩ : ∃ g, f' = g + 1 := ⟨f' - 1, by omega⟩
            rw [wopen]
            simp only
            rw [if_neg (by decide), if_pos trivial]
          · obtain ⟨a0, -⟩ := ha
            rw [Un_eq, G.kind hl a0, a0, if_neg c1, if_neg c2, if_neg c3, if_pos c4, if_neg (show (tk t2 (i2 + 1)).text ≠ [91] from hb)]
            rfl
      · rw [if_neg c4] at h; cases h
    · rw [bin] at h
      split at h
      · cases h
      · rename_i x1 j1 E1 he
        have hij := (on ts _).1 _ _ _ _ _ _ he
        obtain ⟨u, N, rfl, hp⟩ := h1 _ _ _ _ _ _ he
        have hll := lev_le (tk ts j1).text
        obtain ⟨u2, N2, rfl, hp2⟩ := h3 _ _ _ _ _ _ _ _ _ _ _ hl hu (Nat.le_of_lt hij.1) hij.2 (hp.mono hu) (hp.mono (by omega)) h
        exact ⟨u2, N ++ N2, List.append_assoc _ _ _, hp2⟩
    · rw [lp] at h
      by_cases c1 : lv ≤ lev (tk ts i).text
      · rw [if_pos c1] at h
        split at h
        · cases h
        · rename_i y1 j1 E1 he
          have hll := lev_le (tk ts i).text
          obtain ⟨v, N, rfl, hp⟩ := h2 _ _ _ _ _ _ _ (Nat.le_add_left _ _) (by omega) he
          have hst := bin_stop he
          have ho := (on ts _).2.1 _ _ _ _ _ _ _ (Nat.le_add_left _ _) he
          obtain ⟨op, hop⟩ : ∃ op, (tk ts i).text = op := ⟨_, rfl⟩
          obtain ⟨m, hm⟩ : ∃ m, lev op = m := ⟨_, rfl⟩
          rw [hop] at h
          rw [hop, hm] at hb2 c1 hll he hp hst
          have hcl : cl0 ((E ++ N) ++ [⟨5, op, [], 0, x, y1⟩]) (E ++ N).length = m := by rw [cl0_end]; exact hm
          have hnb : op ≠ [91] := fun e => by rw [e, lev_br] at hm; omega
          have key : BP ts m d i0 j1 E0 (E ++ N).length ((E ++ N) ++ [⟨5, op, [], 0, x, y1⟩]) (pt (cl0 E x) m u ++ op :: pt (cl0 (E ++ N) y1) (m + 1) v) := by
            refine ⟨⟨by simp, fun M f' T hf => ?_⟩, ⟨by omega, by omega, fun hh => by omega, fun t2 i2 d2 L hl2 h2 hL1 hL ha hn hb => ?_⟩, ?_, fun h => by omega⟩
            · rw [getD_end]
              obtain ⟨f', rfl⟩ : ∃ g, f' = g + 1 := ⟨f' - 1, by omega⟩
              rw [wopen]
              simp only
              have l1 := hb.wp.lt
              have l2 := hp.wp.lt
              rw [List.length_append] at hf
              rw [if_neg (by decide), if_neg (by decide), if_neg (by decide), if_neg (by decide), if_pos trivial, puts_app T, hm]
              rw [List.append_assoc, List.append_assoc, hb.wp.part _ T (by rw [List.length_append]; omega) (by omega)]
              congr 1
              funext T1
              rw [puts_cons T1 op (pt (cl0 (E ++ N) y1) (m + 1) v)]
              congr 1
              funext T2
              rw [← List.append_assoc]
              exact hp.wp.part _ T2 l2 (by rw [List.length_append] at l2; omega)
            · rw [hcl] at hL hn
              obtain ⟨a0, a1, a2⟩ := At_app.1 ha
              rw [left hb2.xp hb2.deep hl2 h2 hL1 hL a0 (by rw [a1, hm]; exact Nat.le_refl _) (by rw [a1]; exact hnb), Lp_eq t2 _ _ _ _ hL1, a1, hm, if_pos hL]
              have hle : (pt (cl0 E x) m u ++ op :: pt (cl0 (E ++ N) y1) (m + 1) v).length = (pt (cl0 E x) m u).length + ((pt (cl0 (E ++ N) y1) (m + 1) v).length + 1) := by rw [List.length_append, List.length_cons]
              rw [hle] at hn hb ⊢
              rw [show i2 + ((pt (cl0 E x) m u).length + ((pt (cl0 (E ++ N) y1) (m + 1) v).length + 1)) = i2 + (pt (cl0 E x) m u).length + 1 + (pt (cl0 (E ++ N) y1) (m + 1) v).length by omega] at hn hb ⊢
              rw [alone hp.xp hp.deep hl2 h2 (by omega) a2 (by omega) hb]
            · rw [hcl]
              unfold pt
              rw [if_neg (by omega)]
              have hs1 := hb2.sub
              have hs2 := hp.sub
              unfold pt at hs1 hs2
              rw [txs_add hi (show i ≤ j1 by omega), txs_add (show i ≤ i + 1 by omega) (by omega), txs_one (by omega), hop]
              exact hs1.append (hs2.cons_cons _)
          have hkl : BP ts lv d i0 j1 E0 (E ++ N).length ((E ++ N) ++ [⟨5, op, [], 0, x, y1⟩]) (pt (cl0 E x) m u ++ op :: pt (cl0 (E ++ N) y1) (m + 1) v) := key.mono c1
          obtain ⟨u2, N2, rfl, hp2⟩ := h3 _ _ _ _ _ _ _ _ _ _ _ hl hu (by omega) ho.2 hkl (key.mono (by omega)) h
          exact ⟨u2, N ++ [⟨5, op, [], 0, x, y1⟩] ++ N2, by simp only [List.append_assoc], hp2⟩
      · rw [if_neg c1] at h
        injection h with h; injection h with h0 h; injection h with h h'; subst h0 h h'
        exact ⟨u, [], by simp, hb⟩
end Go.Proofs.YtikknlkdbjaonaaGreatDoor.Y

/- What is written of what was read is read again: the parts of statements. -/
namespace Go.Proofs.YtikknlkdbjaonaaGreatDoor.Y
open X
set_option linter.unusedVariables false
set_option linter.unusedSimpArgs false
/-- These texts stand there, all of them tokens. -/
structure Rd (ts : List X.Tok) (i : Nat) (u : List By) : Prop where
  lx : Lx ts
  at' : At u ts i
  le : i + u.length ≤ ts.length
theorem Rd.app {ts : List X.Tok} {i : Nat} {u v : List By} (h : Rd ts i (u ++ v)) : Rd ts i u ∧ Rd ts (i + u.length) v := by
  obtain ⟨a, b⟩ := At_app.1 h.at'
  have := h.le
  rw [List.length_append] at this
  exact ⟨⟨h.lx, a, by omega⟩, ⟨h.lx, b, by omega⟩⟩
theorem Rd.hd {ts : List X.Tok} {i : Nat} {s : By} {u : List By} (h : Rd ts i (s :: u)) : (tk ts i).text = s ∧ Rd ts (i + 1) u := by
  have := h.le
  rw [List.length_cons] at this
  exact ⟨h.at'.1, h.lx, h.at'.2, by omega⟩
/-- An expression that is written and read again. -/
structure EP (ts : List X.Tok) (d i j : Nat) (E : List Exp) (x : Nat) (E' : List Exp) (u : List By) : Prop where
  sub : List.Sublist u (txs ts i j)
  wr : ∀ (M : List Exp) (T : By), wexp (E' ++ M) (x : Int) T = puts T u
  rd : ∀ (t2 : List X.Tok) (i2 : Nat), Lx t2 → At u t2 i2 → lev (tk t2 (i2 + u.length)).text = 0 → (tk t2 (i2 + u.length)).text ≠ [91] → Bin t2 1 d i2 E = some (x, i2 + u.length, E')
variable {ts : List X.Tok}
theorem bk_Bin (G : Lx ts) {d i x j : Nat} {E E' : List Exp} (h : Bin ts 1 d i E = some (x, j, E')) : ∃ u N, E' = E ++ N ∧ EP ts d i j E x E' u := by
  obtain ⟨u, N, rfl, hp⟩ := (bk_un G (fu ts + 1)).2.1 1 d i E x j E' (Nat.le_refl _) (by decide) h
  have hpos := hp.xp.pos
  have hpt : pt (cl0 (E ++ N) x) 1 u = u := by unfold pt; rw [if_neg (by omega)]
  have hs := hp.sub
  rw [hpt] at hs
  refine ⟨u, N, rfl, hs, fun M T => ?_, fun t2 i2 hl ha h0 h1 => ?_⟩
  · have hlt := hp.wp.lt
    have := hp.wp.part M (f := 2 * ((E ++ N) ++ M).length + 1) (A := ((E ++ N) ++ M).length) (m := 1) T (by rw [List.length_append]; omega) (by rw [List.length_append]; omega)
    rw [hpt] at this
    exact this
  · have := alone (m := 1) hp.xp (fun hh => absurd hh (by omega)) hl (Nat.le_refl _) (Nat.le_refl _) (i := i2) (by rw [hpt]; exact ha) (by rw [hpt, h0]; omega) (by rw [hpt]; exact h1)
    rw [hpt] at this
    exact this
theorem kind_of {s : By} {k n v : Nat} (hs : X.step s = some (k, n, v)) (G : Lx ts) {i : Nat} (h : (tk ts i).text = s) (hne : s ≠ []) : (tk ts i).kind = k := by
  have := G.self i (by rw [h]; exact hne)
  rw [h, hs] at this
  injection this with this; injection this with this _; exact this.symm
/-- What was read as an expression is no call. -/
theorem isC_exp (G : Lx ts) {d i x j : Nat} {E E' : List Exp} (h : Bin ts 1 d i E = some (x, j, E')) (hj : (tk ts j).text ≠ [40]) : isC ts i = false := by
  cases hc : isC ts i with
  | false => rfl
  | true =>
    exfalso
    unfold isC at hc
    rw [Bool.or_eq_true, Bool.or_eq_true, Bool.and_eq_true, decide_eq_true_eq, decide_eq_true_eq, decide_eq_true_eq, decide_eq_true_eq] at hc
    rw [Bin_eq ts _ _ _ (Nat.le_refl _)] at h
    rcases hc with hc | hc | ⟨hc, hd⟩
    · have hk := kind_of (k := 3) (n := 3) (v := 0) (by decide) G hc (by decide)
      rw [Un_eq, hc, hk, if_neg (by decide), if_neg (by decide), if_neg (by decide), if_neg (by decide)] at h
      cases h
    · have hk := kind_of (k := 3) (n := 3) (v := 0) (by decide) G hc (by decide)
      rw [Un_eq, hc, hk, if_neg (by decide), if_neg (by decide), if_neg (by decide), if_neg (by decide)] at h
      cases h
    · have n1 : (tk ts i).text ≠ [45] := fun e => by have := kind_of (k := 4) (n := 1) (v := 0) (by decide) G e (by decide); rw [hc] at this; exact absurd this (by decide)
      have n2 : (tk ts i).text ≠ [33] := fun e => by have := kind_of (k := 4) (n := 1) (v := 0) (by decide) G e (by decide); rw [hc] at this; exact absurd this (by decide)
      have n3 : (tk ts i).text ≠ [40] := fun e => by have := kind_of (k := 4) (n := 1) (v := 0) (by decide) G e (by decide); rw [hc] at this; exact absurd this (by decide)
      rw [Un_eq, if_neg (by rintro (e | e); exact n1 e; exact n2 e), if_neg n3, hc, if_neg (by decide), if_pos rfl, if_neg (by rw [hd]; decide)] at h
      simp only at h
      rw [Lp_eq ts _ _ _ _ (Nat.le_refl _), if_neg (by rw [hd]; decide)] at h
      injection h with h; injection h with _ h; injection h with h _
      exact hj (by rw [← h]; exact hd)
theorem l59 : lev [59] = 0 := by decide
theorem l41 : lev [41] = 0 := by decide
theorem l44 : lev [44] = 0 := by decide
theorem l93 : lev [93] = 0 := by decide
/-- A value up to the statement's end. -/
structure VP (ts : List X.Tok) (d i j : Nat) (E : List Exp) (x : Nat) (E' : List Exp) (u : List By) : Prop where
  sub : List.Sublist u (txs ts i j)
  wr : ∀ (M : List Exp) (a : By) (T : By), wvalue (E' ++ M) a (x : Int) T = puts T (a :: u)
  rd : ∀ (t2 : List X.Tok) (i2 : Nat) (s2 : Stmt) (S2 : List Stmt), Rd t2 i2 u → val t2 s2 d i2 E S2 = some ({ s2 with e := (x : Int) }, i2 + u.length, E', S2) ∧ isC t2 i2 = false
theorem bk_val (G : Lx ts) {s s' : Stmt} {d i j : Nat} {E E' : List Exp} {S S' : List Stmt} (hl : j ≤ ts.length) (h : val ts s d i E S = some (s', j, E', S')) : ∃ (x : Nat) (u : List By) (N : List Exp), s' = { s with e := (x : Int) } ∧ S' = S ∧ E' = E ++ N ∧ VP ts d i j E x E' u := by
  unfold val at h
  rw [Option.bind_eq_some_iff] at h
  obtain ⟨⟨x, k, E1⟩, hb, h⟩ := h
  have ho := Bin_on (Nat.le_refl _) hb
  obtain ⟨u, N, hE, hp⟩ := bk_Bin G hb
  dsimp only at h
  split at h
  · rename_i ht
    injection h with h; injection h with h0 h; injection h with h h'; injection h' with h' h''; subst h0 h h' h''
    refine ⟨x, u ++ [[59]], N, rfl, rfl, hE, ?_, fun M a T => ?_, fun t2 i2 s2 S2 hr => ?_⟩
    · rw [txs_add (show i ≤ k by omega) (Nat.le_succ k), txs_one (by omega), ht]
      exact hp.sub.append (List.Sublist.refl _)
    · unfold wvalue
      rw [puts_cons T a (u ++ [[59]])]
      congr 1
      funext T1
      rw [hp.wr, puts_app]
    · obtain ⟨r1, r2⟩ := hr.app
      obtain ⟨a1, -⟩ := r2.hd
      have hB := hp.rd t2 i2 hr.lx r1.at' (by rw [a1]; exact l59) (by rw [a1]; decide)
      refine ⟨?_, isC_exp hr.lx hB (by rw [a1]; decide)⟩
      unfold val
      rw [hB, Option.bind_some]
      dsimp only
      rw [if_pos a1, List.length_append]
      rfl
  · cases h
/-- An expression in brackets. -/
structure CP (ts : List X.Tok) (d i j : Nat) (E : List Exp) (x : Nat) (E' : List Exp) (u : List By) : Prop where
  sub : List.Sublist u (txs ts i j)
  wr : ∀ (M : List Exp) (a : By) (T : By), wcond (E' ++ M) a (x : Int) T = puts T (a :: u)
  rd : ∀ (t2 : List X.Tok) (i2 : Nat), Rd t2 i2 u → cnd t2 d i2 E = some (x, i2 + u.length, E')
theorem bk_cnd (G : Lx ts) {d i x j : Nat} {E E' : List Exp} (hl : j ≤ ts.length) (h : cnd ts d i E = some (x, j, E')) : ∃ u N, E' = E ++ N ∧ CP ts d i j E x E' u := by
  unfold cnd at h
  split at h
  · rename_i h0
    rw [Option.bind_eq_some_iff] at h
    obtain ⟨⟨y, k, E1⟩, hb, h⟩ := h
    have ho := Bin_on (Nat.le_refl _) hb
    obtain ⟨u, N, hE, hp⟩ := bk_Bin G hb
    dsimp only at h
    split at h
    · rename_i ht
      injection h with h; injection h with h0 h; injection h with h h'; subst h0 h h'
      refine ⟨[40] :: (u ++ [[41]]), N, hE, ?_, fun M a T => ?_, fun t2 i2 hr => ?_⟩
      · rw [txs_add (show i ≤ i + 1 by omega) (by omega), txs_one (by omega), txs_add (show i + 1 ≤ k by omega) (Nat.le_succ k), txs_one (i := k) (by omega), ht, ‹(tk ts i).text = [40]›]
        exact (hp.sub.append (List.Sublist.refl _)).cons_cons _
      · unfold wcond
        rw [show a :: [40] :: (u ++ [[41]]) = [a, [40]] ++ (u ++ [[41]]) from rfl, puts_app T]
        congr 1
        funext T1
        rw [hp.wr, puts_app]
      · obtain ⟨a0, r0⟩ := hr.hd
        obtain ⟨r1, r2⟩ := r0.app
        obtain ⟨a1, -⟩ := r2.hd
        unfold cnd
        rw [if_pos a0, hp.rd t2 (i2 + 1) hr.lx r1.at' (by rw [a1]; exact l41) (by rw [a1]; decide), Option.bind_some]
        dsimp only
        rw [if_pos a1]
        simp only [List.length_cons, List.length_append, List.length_nil]
        rw [show i2 + 1 + u.length + 1 = i2 + (u.length + (0 + 1) + 1) by omega]
    · cases h
  · cases h
/-- From a '[' on. -/
structure IP (ts : List X.Tok) (d i j : Nat) (E : List Exp) (x : Nat) (E' : List Exp) (u : List By) : Prop where
  sub : List.Sublist ([91] :: (u ++ [[93]])) (txs ts i j)
  wr : ∀ (M : List Exp) (T : By), wexp (E' ++ M) (x : Int) T = puts T u
  rd : ∀ (t2 : List X.Tok) (i2 : Nat), Rd t2 i2 ([91] :: (u ++ [[93]])) → Ix t2 d i2 E = some (x, i2 + ([91] :: (u ++ [[93]])).length, E')
theorem bk_Ix (G : Lx ts) {d i x j : Nat} {E E' : List Exp} (hl : j ≤ ts.length) (h9 : (tk ts i).text = [91]) (h : Ix ts d i E = some (x, j, E')) : ∃ u N, E' = E ++ N ∧ IP ts d i j E x E' u := by
  unfold Ix at h
  split at h
  · cases h
  · rename_i h0
    split at h
    · cases h
    · rename_i y k E1 hb
      have ho := Bin_on (Nat.le_refl _) hb
      obtain ⟨u, N, hE, hp⟩ := bk_Bin G hb
      split at h
      · rename_i ht
        injection h with h; injection h with h0 h; injection h with h h'; subst h0 h h'
        refine ⟨u, N, hE, ?_, hp.wr, fun t2 i2 hr => ?_⟩
        · rw [txs_add (show i ≤ i + 1 by omega) (by omega), txs_one (by omega), txs_add (show i + 1 ≤ k by omega) (Nat.le_succ k), txs_one (i := k) (by omega), ht, h9]
          exact (hp.sub.append (List.Sublist.refl _)).cons_cons _
        · obtain ⟨a0, r0⟩ := hr.hd
          obtain ⟨r1, r2⟩ := r0.app
          obtain ⟨a1, -⟩ := r2.hd
          unfold Ix
          rw [if_neg ‹_›, hp.rd t2 (i2 + 1) hr.lx r1.at' (by rw [a1]; exact l93) (by rw [a1]; decide)]
          dsimp only
          rw [if_pos a1]
          simp only [List.length_cons, List.length_append, List.length_nil]
          rw [show i2 + 1 + u.length + 1 = i2 + (u.length + (0 + 1) + 1) by omega]
      · cases h
/-- What goes on behind an argument. -/
structure LP (ts : List X.Tok) (d i j : Nat) (E : List Exp) (V : List Int) (E' : List Exp) (u : List By) (b : Bool) : Prop where
  sub : List.Sublist u (txs ts i j)
  wr : ∀ (M : List Exp) (T : By), wargs (E' ++ M) b V T = puts T u
theorem bk_al (G : Lx ts) : ∀ (f d i : Nat) (l : List Int) (E : List Exp) (l' : List Int) (j : Nat) (E' : List Exp), j ≤ ts.length → al ts f d i l E = some (l', j, E') → ∃ V u N, l' = l ++ V ∧ E' = E ++ N ∧ LP ts d i j E V E' u false ∧ (u = [] ∨ ∃ v, u = [44] :: v) ∧ ∀ (t2 : List X.Tok) (i2 g : Nat) (l2 : List Int), Rd t2 i2 (u ++ [[41]]) → u.length < g → al t2 g d i2 l2 E = some (l2 ++ V, i2 + u.length, E')
  | 0, _, _, _, _, _, _, _, _, h => by simp [al] at h
  | f + 1, d, i, l, E, l', j, E', hl, h => by
    rw [al] at h
    split at h
    · rename_i h0
      rw [Option.bind_eq_some_iff] at h
      obtain ⟨⟨x, k, E1⟩, hb, h⟩ := h
      dsimp only at h
      have ho := Bin_on (Nat.le_refl _) hb
      have ha := al_on _ _ _ _ _ _ _ _ h
      obtain ⟨u, N, hE, hp⟩ := bk_Bin G hb
      obtain ⟨V, v, N2, hl2, hE2, hq, hv, hrd⟩ := bk_al G f d k _ E1 l' j E' hl h
      subst hE hE2
      refine ⟨(x : Int) :: V, [44] :: (u ++ v), N ++ N2, by rw [hl2, List.append_assoc]; rfl, List.append_assoc _ _ _, ⟨?_, fun M T => ?_⟩, .inr ⟨_, rfl⟩, fun t2 i2 g l2 hr hg => ?_⟩
      · rw [txs_add (show i ≤ i + 1 by omega) (by omega), txs_one (by omega), txs_add (show i + 1 ≤ k by omega) ha, h0]
        exact (hp.sub.append hq.sub).cons_cons _
      · unfold wargs
        rw [puts_cons T [44] (u ++ v)]
        congr 1
        funext T1
        rw [List.append_assoc, hp.wr, puts_app]
        congr 1
        funext T2
        rw [← List.append_assoc]
        exact hq.wr M T2
      · obtain ⟨a0, r0⟩ := hr.hd
        have r0' : Rd t2 (i2 + 1) (u ++ (v ++ [[41]])) := by rw [← List.append_assoc]; exact r0
        obtain ⟨r1, r2⟩ := r0'.app
        obtain ⟨g, rfl⟩ : ∃ m, g = m + 1 := ⟨g - 1, by omega⟩
        have hnx : lev (tk t2 (i2 + 1 + u.length)).text = 0 ∧ (tk t2 (i2 + 1 + u.length)).text ≠ [91] := by
          rcases hv with rfl | ⟨v', rfl⟩
          · have := r2.hd.1
            rw [this]; decide
          · have := r2.hd.1
            rw [this]; decide
        simp only [List.length_cons, List.length_append] at hg
        rw [al, if_pos a0, hp.rd t2 (i2 + 1) hr.lx r1.at' hnx.1 hnx.2, Option.bind_some]
        dsimp only
        rw [hrd t2 _ g _ r2 (by omega)]
        simp only [List.length_cons, List.length_append, List.append_assoc, List.singleton_append]
        rw [show i2 + 1 + u.length + v.length = i2 + (u.length + v.length + 1) by omega]
    · rename_i h0
      injection h with h; injection h with h0 h; injection h with h h'; subst h0 h h'
      refine ⟨[], [], [], by simp, by simp, ⟨List.nil_sublist _, fun M T => by simp [wargs, puts]⟩, .inl rfl, fun t2 i2 g l2 hr hg => ?_⟩
      obtain ⟨g, rfl⟩ : ∃ m, g = m + 1 := ⟨g - 1, by simp at hg; omega⟩
      have := hr.hd.1
      rw [al, if_neg (by rw [this]; decide)]
      simp
theorem bk_ag (G : Lx ts) {d i j : Nat} {l : List Int} {E E' : List Exp} (hl : j ≤ ts.length) (h : ag ts d i E = some (l, j, E')) : ∃ u N, E' = E ++ N ∧ LP ts d i j E l E' u true ∧ ∀ (t2 : List X.Tok) (i2 : Nat), Rd t2 i2 (u ++ [[41]]) → ag t2 d i2 E = some (l, i2 + u.length, E') := by
  unfold ag at h
  split at h
  · rename_i h0
    injection h with h; injection h with h0 h; injection h with h h'; subst h0 h h'
    refine ⟨[], [], by simp, ⟨List.nil_sublist _, fun M T => by simp [wargs, puts]⟩, fun t2 i2 hr => ?_⟩
    have := hr.hd.1
    unfold ag
    rw [if_pos this]
    rfl
  · rename_i h0
    rw [Option.bind_eq_some_iff] at h
    obtain ⟨⟨x, k, E1⟩, hb, h⟩ := h
    dsimp only at h
    have ho := Bin_on (Nat.le_refl _) hb
    have ha := al_on _ _ _ _ _ _ _ _ h
    obtain ⟨u, N, hE, hp⟩ := bk_Bin G hb
    obtain ⟨V, v, N2, hl2, hE2, hq, hv, hrd⟩ := bk_al G _ d k _ E1 l j E' hl h
    subst hE hE2
    refine ⟨u ++ v, N ++ N2, List.append_assoc _ _ _, ⟨?_, fun M T => ?_⟩, fun t2 i2 hr => ?_⟩
    · rw [txs_add (show i ≤ k by omega) ha]
      exact hp.sub.append hq.sub
    · rw [hl2]
      show wargs _ true ((x : Int) :: V) T = _
      unfold wargs
      rw [List.append_assoc, hp.wr, puts_app]
      congr 1
      funext T2
      rw [← List.append_assoc]
      exact hq.wr M T2
    · have hle := hr.le
      rw [List.append_assoc] at hr
      obtain ⟨r1, r2⟩ := hr.app
      have hnx : lev (tk t2 (i2 + u.length)).text = 0 ∧ (tk t2 (i2 + u.length)).text ≠ [91] := by
        rcases hv with rfl | ⟨v', rfl⟩
        · have := r2.hd.1
          rw [this]; decide
        · have := r2.hd.1
          rw [this]; decide
      have hB := hp.rd t2 i2 hr.lx r1.at' hnx.1 hnx.2
      unfold ag
      rw [if_neg ?_, hB, Option.bind_some]
      · dsimp only
        simp only [List.length_append, List.length_cons, List.length_nil] at hle
        rw [hrd t2 _ _ _ r2 (by omega), hl2, List.length_append, Nat.add_assoc]
      · intro e
        have hk := kind_of (k := 4) (n := 1) (v := 0) (by decide) hr.lx e (by decide)
        rw [Bin_eq t2 _ _ _ (Nat.le_refl _), Un_eq, e, hk, if_neg (by decide), if_neg (by decide), if_neg (by decide), if_neg (by decide)] at hB
        cases hB
/-- A call, a get, a put. -/
structure KP (ts : List X.Tok) (d i j : Nat) (nm : By) (E : List Exp) (s : Stmt) (E' : List Exp) (u : List By) : Prop where
  sub : List.Sublist u (txs ts i j)
  name : s.name = nm
  kind : s.kind = 4 ∨ s.kind = 5 ∨ s.kind = 6
  hd : ∃ v, u = (tk ts i).text :: v
  wr : ∀ (M : List Exp) (T : By), wcall3 (E' ++ M) s T = puts T u
  rd : ∀ (t2 : List X.Tok) (i2 : Nat) (S2 : List Stmt), Rd t2 i2 u → cl t2 d nm i2 E S2 = some (s, i2 + u.length, E', S2) ∧ isC t2 i2 = true
theorem bk_cl (G : Lx ts) {d i j : Nat} {nm : By} {s : Stmt} {E E' : List Exp} {S S' : List Stmt} (hl : j ≤ ts.length) (h : cl ts d nm i E S = some (s, j, E', S')) : ∃ u N, E' = E ++ N ∧ S' = S ∧ KP ts d i j nm E s E' u := by
  have hij := cl_on h
  have hfin : ∀ {s : Stmt} {k : Nat} {E1 : List Exp} {s' : Stmt} , fin ts s k E1 S = some (s', j, E', S') → s' = s ∧ j = k + 2 ∧ E' = E1 ∧ S' = S ∧ (tk ts k).text = [41] ∧ (tk ts (k + 1)).text = [59] := by
    intro s k E1 s' h
    unfold fin at h
    split at h
    · split at h
      · injection h with h; injection h with h0 h; injection h with h h'; injection h' with h' h''
        exact ⟨h0.symm, h.symm, h'.symm, h''.symm, by assumption, by assumption⟩
      · cases h
    · cases h
  have hfr : ∀ {t2 : List X.Tok} {i2 : Nat} {s : Stmt} {E1 : List Exp} {S2 : List Stmt}, Rd t2 i2 [[41], [59]] → fin t2 s i2 E1 S2 = some (s, i2 + 2, E1, S2) := by
    intro t2 i2 s E1 S2 hr
    obtain ⟨a0, r0⟩ := hr.hd
    obtain ⟨a1, -⟩ := r0.hd
    unfold fin
    rw [if_pos a0, if_pos a1]
  unfold cl at h
  split at h
  · rename_i h0
    split at h
    · rename_i h1
      split at h
      · rename_i h2
        obtain ⟨rfl, rfl, rfl, rfl, f1, f2⟩ := hfin h
        refine ⟨[kGet, [40], (tk ts (i + 2)).text, [41], [59]], [], by simp, rfl, ?_, rfl, .inr (.inl rfl), ⟨_, by rw [h0]⟩, fun M T => ?_, fun t2 i2 S2 hr => ?_⟩
        · rw [txs_add (show i ≤ i + 1 by omega) (by omega), txs_one (by omega), txs_add (show i + 1 ≤ i + 2 by omega) (by omega), txs_one (i := i + 1) (by omega), txs_add (show i + 2 ≤ i + 3 by omega) (by omega), txs_one (i := i + 2) (by omega), txs_add (show i + 3 ≤ i + 4 by omega) (by omega), txs_one (i := i + 3) (by omega), txs_one (i := i + 4) (by omega), h0, h1, f1, f2]
          exact List.Sublist.refl _
        · unfold wcall3
          rw [if_pos rfl]
          rw [show [kGet, [40], (tk ts (i + 2)).text, [41], [59]] = [kGet, [40], (tk ts (i + 2)).text] ++ [[41], [59]] from rfl, puts_app T]
          rfl
        · obtain ⟨a0, r0⟩ := hr.hd
          obtain ⟨a1, r1⟩ := r0.hd
          obtain ⟨a2, r2⟩ := r1.hd
          refine ⟨?_, by unfold isC; rw [a0]; simp⟩
          unfold cl
          rw [if_pos a0, if_pos a1, if_pos (by rw [G.kind hr.lx a2]; exact h2), a2, hfr r2]
          rfl
      · cases h
    · cases h
  · rename_i h0
    split at h
    · rename_i h1
      split at h
      · rename_i h2
        split at h
        · rename_i h3
          split at h
          · rename_i h4
            rw [Option.bind_eq_some_iff] at h
            obtain ⟨⟨x, k, E1⟩, hb, h⟩ := h
            dsimp only at h
            have ho := Bin_on (Nat.le_refl _) hb
            obtain ⟨u, N, hE, hp⟩ := bk_Bin G hb
            obtain ⟨rfl, rfl, rfl, rfl, f1, f2⟩ := hfin h
            refine ⟨[kPut, [40], (tk ts (i + 2)).text, [44]] ++ (u ++ [[41], [59]]), N, hE, rfl, ?_, rfl, .inr (.inr rfl), ⟨_, by rw [h1]; rfl⟩, fun M T => ?_, fun t2 i2 S2 hr => ?_⟩
            · rw [txs_add (show i ≤ i + 1 by omega) (by omega), txs_one (by omega), txs_add (show i + 1 ≤ i + 2 by omega) (by omega), txs_one (i := i + 1) (by omega), txs_add (show i + 2 ≤ i + 3 by omega) (by omega), txs_one (i := i + 2) (by omega), txs_add (show i + 3 ≤ i + 4 by omega) (by omega), txs_one (i := i + 3) (by omega), txs_add (show i + 4 ≤ k by omega) (by omega), txs_add (show k ≤ k + 1 by omega) (by omega), txs_one (i := k) (by omega), txs_one (i := k + 1) (by omega), h1, h2, h4, f1, f2]
              exact (((hp.sub.append (List.Sublist.refl _)).cons_cons _).cons_cons _).cons_cons _ |>.cons_cons _
            · unfold wcall3
              rw [if_neg (by simp), if_pos rfl, puts_app T]
              congr 1
              funext T1
              rw [hp.wr, puts_app]
            · obtain ⟨a0, r0⟩ := hr.hd
              obtain ⟨a1, r1⟩ := r0.hd
              obtain ⟨a2, r2⟩ := r1.hd
              obtain ⟨a3, r3⟩ := r2.hd
              have r3' : Rd t2 (i2 + 1 + 1 + 1 + 1) (u ++ [[41], [59]]) := r3
              obtain ⟨r4, r5⟩ := r3'.app
              have a5 := r5.hd.1
              refine ⟨?_, by unfold isC; rw [a0]; simp⟩
              unfold cl
              rw [if_neg (by rw [a0]; decide), if_pos a0, if_pos a1, if_pos (by rw [G.kind hr.lx a2]; exact h3), if_pos a3, show i2 + 4 = i2 + 1 + 1 + 1 + 1 by omega, hp.rd t2 _ hr.lx r4.at' (by rw [a5]; exact l41) (by rw [a5]; decide), Option.bind_some]
              dsimp only
              rw [a2, hfr r5]
              simp only [List.length_cons, List.length_append, List.length_nil]
              rw [show i2 + 1 + 1 + 1 + 1 + u.length + 2 = i2 + (0 + 1 + 1 + 1 + 1 + (u.length + (0 + 1 + 1))) by omega]
          · cases h
        · cases h
      · cases h
    · rename_i h1
      split at h
      · rename_i h2
        split at h
        · rename_i h3
          rw [Option.bind_eq_some_iff] at h
          obtain ⟨⟨l, k, E1⟩, hb, h⟩ := h
          dsimp only at h
          have ho := ag_on hb
          obtain ⟨rfl, rfl, rfl, rfl, f1, f2⟩ := hfin h
          obtain ⟨u, N, hE, hp, hrd⟩ := bk_ag G (by omega) hb
          refine ⟨[(tk ts i).text, [40]] ++ (u ++ [[41], [59]]), N, hE, rfl, ?_, rfl, .inl rfl, ⟨_, rfl⟩, fun M T => ?_, fun t2 i2 S2 hr => ?_⟩
          · rw [txs_add (show i ≤ i + 1 by omega) (by omega), txs_one (by omega), txs_add (show i + 1 ≤ i + 2 by omega) (by omega), txs_one (i := i + 1) (by omega), txs_add (show i + 2 ≤ k by omega) (by omega), txs_add (show k ≤ k + 1 by omega) (by omega), txs_one (i := k) (by omega), txs_one (i := k + 1) (by omega), h3, f1, f2]
            exact ((hp.sub.append (List.Sublist.refl _)).cons_cons _).cons_cons _
          · unfold wcall3
            rw [if_neg (by simp), if_neg (by simp), puts_app T]
            congr 1
            funext T1
            rw [hp.wr, puts_app]
          · obtain ⟨a0, r0⟩ := hr.hd
            obtain ⟨a1, r1⟩ := r0.hd
            have r1' : Rd t2 (i2 + 1 + 1) ((u ++ [[41]]) ++ [[59]]) := by rw [List.append_assoc]; exact r1
            have r1x : Rd t2 (i2 + 1 + 1) (u ++ [[41], [59]]) := r1
            obtain ⟨r4, r5⟩ := r1x.app
            have hk := (G.kind hr.lx a0).trans h2
            refine ⟨?_, by unfold isC; rw [hk, a1]; simp⟩
            unfold cl
            rw [a0, if_neg h0, if_neg h1, if_pos hk, if_pos a1, show i2 + 2 = i2 + 1 + 1 by omega, hrd t2 _ r1'.app.1, Option.bind_some]
            dsimp only
            rw [hfr r5]
            simp only [List.length_cons, List.length_append, List.length_nil]
            rw [show i2 + 1 + 1 + u.length + 2 = i2 + (0 + 1 + 1 + (u.length + (0 + 1 + 1))) by omega]
        · cases h
      · cases h
end Go.Proofs.YtikknlkdbjaonaaGreatDoor.Y

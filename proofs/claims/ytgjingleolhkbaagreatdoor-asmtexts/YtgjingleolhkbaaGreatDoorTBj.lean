/- What the document reads: numbers, registers, items, as plain functions of bytes. -/
import Derived.Test.YtgjingleolhkbaaGreatDoorTAa
import Derived.Test.YtgjingleolhkbaaGreatDoorTBf
namespace Go.Proofs.YtgjingleolhkbaaGreatDoor
namespace X
open Go.Lib
set_option linter.unusedVariables false
set_option linter.unusedSimpArgs false

/-! ### Numbers -/
def val (l : By) : Nat := l.foldl (fun u c => u * 10 + (c.toNat - 48)) 0
theorem val_snoc (l : By) (c : UInt8) : val (l ++ [c]) = val l * 10 + (c.toNat - 48) := by unfold val; rw [List.foldl_append]; rfl
theorem val_pos {l : By} (hd : l.all pd = true) (h : l ≠ []) (h0 : l.head? ≠ some 48) : 0 < val l := by
  cases l with
  | nil => exact absurd rfl h
  | cons c l =>
    have hc : 48 ≤ c.toNat ∧ c.toNat ≤ 57 := by simp [pd, dg] at hd; exact hd.1
    have h1 : c.toNat ≠ 48 := fun e => h0 (by simp; exact UInt8.toNat_inj.1 (by rw [e]; rfl))
    have := foldl_ge l (0 * 10 + (c.toNat - 48))
    unfold val
    rw [List.foldl_cons]
    omega
theorem pd_iff {c : UInt8} : pd c = true ↔ 48 ≤ c.toNat ∧ c.toNat ≤ 57 := by simp [pd, dg]
theorem digit_ofNat {c : UInt8} (h : 48 ≤ c.toNat ∧ c.toNat ≤ 57) : UInt8.ofNat (48 + (c.toNat - 48)) = c := by
  rw [show 48 + (c.toNat - 48) = c.toNat by omega]; simp
theorem dec_val : ∀ (n : Nat) (l : By), l.length = n → l ≠ [] → l.all pd = true → (l.head? ≠ some 48 ∨ l.length = 1) → decDigits (val l) = l := by
  intro n
  induction n with
  | zero => intro l h1 h2; exact absurd (List.eq_nil_of_length_eq_zero h1) h2
  | succ n ih =>
    intro l h1 h2 h3 h4
    obtain ⟨l', c, rfl⟩ : ∃ l' c, l = l' ++ [c] := ⟨l.dropLast, l.getLast h2, (List.dropLast_concat_getLast h2).symm⟩
    rw [List.all_append, Bool.and_eq_true] at h3
    have hc : 48 ≤ c.toNat ∧ c.toNat ≤ 57 := pd_iff.1 (by simpa using h3.2)
    rw [val_snoc]
    by_cases he : l' = []
    · subst he
      rw [decDigits, dif_pos (by simp [val]; omega)]
      simp only [val, List.foldl_nil, Nat.zero_mul, Nat.zero_add, List.nil_append]
      rw [digit_ofNat hc]
    · have hh : l'.head? ≠ some 48 := by
        rcases h4 with h4 | h4
        · cases l' with
          | nil => exact absurd rfl he
          | cons x l' => simpa using h4
        · rw [List.length_append] at h4
          have : l'.length = 0 := by simp at h4; rw [h4]; rfl
          exact absurd (List.eq_nil_of_length_eq_zero this) he
      have hp := val_pos h3.1 he hh
      have hi := ih l' (by simpa using h1) he h3.1 (.inl hh)
      rw [decDigits, dif_neg (by omega), show (val l' * 10 + (c.toNat - 48)) / 10 = val l' by omega, show (val l' * 10 + (c.toNat - 48)) % 10 = c.toNat - 48 by omega, hi, digit_ofNat hc]
theorem dec_head (u : Nat) : 0 < u → (decDigits u).head? ≠ some 48 := by
  induction u using Nat.strongRecOn with
  | _ u ih =>
    intro h
    rw [decDigits]
    by_cases h1 : u < 10
    · rw [dif_pos h1]
      have := u8_toNat (48 + u) (by omega)
      intro e
      simp only [List.head?_cons, Option.some.injEq] at e
      rw [e] at this
      have : (48 : Nat) = 48 + u := this
      omega
    · rw [dif_neg h1]
      have h2 := ih (u / 10) (by omega) (by omega)
      cases hd : decDigits (u / 10) with
      | nil => exact absurd hd (dec_digits _).2.2
      | cons x l => rw [hd] at h2; simpa using h2
theorem dec_len {u : Nat} (h : u ≤ 9223372036854775808) : (decDigits u).length ≤ 19 := by
  rw [decDigits_length]
  by_cases h0 : nDigits u ≤ 19
  · exact h0
  · have h1 : 10 ^ 19 ≤ u := by
      have : ∀ k u, k + 1 ≤ nDigits u → 0 < k → 10 ^ k ≤ u := by
        intro k
        induction k with
        | zero => intro u h1 h2; omega
        | succ k ih =>
          intro u h1 _
          by_cases h2 : u < 10
          · rw [nDigits_small h2] at h1; omega
          · rw [nDigits_big h2] at h1
            by_cases h3 : k = 0
            · subst h3; simp; omega
            · have := ih (u / 10) (by omega) (by omega)
              rw [Nat.pow_succ]
              omega
      exact this 19 u (by omega) (by decide)
    have : (10 : Nat) ^ 19 = 10000000000000000000 := by decide
    omega
def lowOf (s : By) : By := if 1 < s.length ∧ s.head? = some 45 ∧ s[1]? ≠ some 48 then s.tail else s
def numD (s : By) : Option Int :=
  if 1 ≤ (lowOf s).length ∧ (lowOf s).length ≤ 19 ∧ ((lowOf s).head? ≠ some 48 ∨ (lowOf s).length = 1) ∧ (lowOf s).all pd = true then
    (if (lowOf s).length < s.length then (if val (lowOf s) ≤ 9223372036854775808 then some (-(val (lowOf s) : Int)) else none)
     else (if val (lowOf s) < 9223372036854775808 then some (val (lowOf s) : Int) else none))
  else none
theorem lowOf_neg {s : By} (h : 1 < s.length ∧ s.head? = some 45 ∧ s[1]? ≠ some 48) : lowOf s = s.tail ∧ (lowOf s).length < s.length := by
  unfold lowOf; rw [if_pos h]; exact ⟨rfl, by rw [List.length_tail]; omega⟩
theorem lowOf_pos {s : By} (h : ¬ (1 < s.length ∧ s.head? = some 45 ∧ s[1]? ≠ some 48)) : lowOf s = s := by unfold lowOf; rw [if_neg h]
theorem val_dec (u : Nat) : val (decDigits u) = u := (dec_digits u).2.1
theorem numD_eq (s : By) : numD s = num s := by
  cases hn : num s with
  | some n =>
    have h1 := num_some hn
    have hf := num_fits hn
    obtain ⟨f0, f1⟩ := hf
    subst h1
    by_cases h : n < 0
    · obtain ⟨u, rfl⟩ : ∃ u : Nat, n = -(u : Int) := ⟨n.natAbs, by omega⟩
      rw [itoa_neg u (by omega)]
      obtain ⟨d1, d2, d3⟩ := dec_digits u
      have d4 := dec_head u (by omega)
      have d5 := dec_len (u := u) (by omega)
      have hl : 1 ≤ (decDigits u).length := by cases hd : decDigits u with | nil => exact absurd hd d3 | cons => simp
      have hc : 1 < (45 :: decDigits u).length ∧ (45 :: decDigits u).head? = some 45 ∧ (45 :: decDigits u)[1]? ≠ some 48 := by
        refine ⟨by simp; omega, rfl, ?_⟩
        cases hd : decDigits u with
        | nil => exact absurd hd d3
        | cons x l => rw [hd] at d4; simpa using d4
      obtain ⟨e1, e2⟩ := lowOf_neg hc
      unfold numD
      rw [if_pos ⟨by rw [e1]; exact hl, by rw [e1]; exact d5, by rw [e1]; exact .inl d4, by rw [e1]; exact d1⟩, if_pos e2, e1]
      show (if val (decDigits u) ≤ 9223372036854775808 then some (-(val (decDigits u) : Int)) else none) = _
      rw [val_dec, if_pos (by omega)]
    · obtain ⟨u, rfl⟩ : ∃ u : Nat, n = u := ⟨n.toNat, by omega⟩
      rw [itoa_nonneg]
      obtain ⟨d1, d2, d3⟩ := dec_digits u
      have d5 := dec_len (u := u) (by omega)
      have hl : 1 ≤ (decDigits u).length := by cases hd : decDigits u with | nil => exact absurd hd d3 | cons => simp
      have e1 : lowOf (decDigits u) = decDigits u := lowOf_pos (fun ⟨_, h2, _⟩ => by
        cases hd : decDigits u with
        | nil => exact absurd hd d3
        | cons x l =>
          rw [hd] at h2 d1
          simp at h2
          subst h2
          simp [pd, dg] at d1)
      have d4 : (decDigits u).head? ≠ some 48 ∨ (decDigits u).length = 1 := by
        by_cases hu : 0 < u
        · exact .inl (dec_head u hu)
        · obtain rfl : u = 0 := by omega
          exact .inr (by rw [decDigits_length, nDigits_small (by decide)])
      unfold numD
      rw [e1, if_pos ⟨hl, d5, d4, d1⟩, if_neg (by omega), val_dec, if_pos (by omega)]
  | none =>
    unfold numD
    split
    · rename_i h
      obtain ⟨h1, h2, h3, h4⟩ := h
      have hne : lowOf s ≠ [] := fun e => by rw [e] at h1; simp at h1
      have hd := dec_val _ (lowOf s) rfl hne h4 h3
      split
      · rename_i hlt
        have hcond : 1 < s.length ∧ s.head? = some 45 ∧ s[1]? ≠ some 48 := by
          by_cases hc : 1 < s.length ∧ s.head? = some 45 ∧ s[1]? ≠ some 48
          · exact hc
          · rw [lowOf_pos hc] at hlt; omega
        obtain ⟨e1, -⟩ := lowOf_neg hcond
        split
        · rename_i hv
          exfalso
          have hp : 0 < val (lowOf s) := val_pos h4 hne (by
            rw [e1]
            cases s with
            | nil => simp at hcond
            | cons x l =>
              have := hcond.2.2
              cases l with
              | nil => simp at hcond
              | cons y l => simpa using this)
          have hs : s = itoa (-(val (lowOf s) : Int)) := by
            rw [itoa_neg _ hp, hd, e1]
            cases s with
            | nil => simp at hcond
            | cons x l => have := hcond.2.1; simp at this; subst this; rfl
          rw [hs, num_itoa ⟨by omega, by omega⟩] at hn
          cases hn
        · rfl
      · rename_i hge
        have hcond : ¬ (1 < s.length ∧ s.head? = some 45 ∧ s[1]? ≠ some 48) := fun hc => hge (lowOf_neg hc).2
        have e1 := lowOf_pos hcond
        split
        · rename_i hv
          exfalso
          have hs : s = itoa (val (lowOf s) : Int) := by rw [itoa_nonneg, hd, e1]
          rw [hs, num_itoa ⟨by omega, by omega⟩] at hn
          cases hn
        · rfl
    · rfl

/-! ### Registers, operands -/
def regD (w : By) : Option Int := match w with
  | [c, d] => if c = 114 ∧ 48 ≤ d.toNat ∧ d.toNat ≤ 55 then some ((d.toNat : Int) - 48) else none
  | _ => none
theorem regD_some {w : By} {x : Int} (h : regD w = some x) : reg w = some x := by
  unfold regD at h
  split at h
  · rename_i c d
    split at h
    · rename_i h1
      show (if c = 114 ∧ dg d.toNat = true then some ((d.toNat : Int) - 48) else none) = some x
      rw [if_pos ⟨h1.1, by simp [dg]; omega⟩]
      exact h
    · cases h
  · cases h
theorem regD_none {w : By} {x : Int} (h : regD w = none) (h2 : reg w = some x) : isReg x = false := by
  unfold regD at h
  unfold reg at h2
  split at h2
  · rename_i c d
    split at h2
    · rename_i h3
      cases h2
      simp only at h
      split at h
      · cases h
      · rename_i h4
        simp [dg] at h3
        simp [isReg]
        have : ¬ (48 ≤ d.toNat ∧ d.toNat ≤ 55) := fun e => h4 ⟨h3.1, e⟩
        omega
    · cases h2
  · cases h2
def setD (t : It) (c : UInt8) (w : By) : Option It :=
  if c = 65 then (regD w).map fun x => { t with a := x }
  else if c = 66 then (regD w).map fun x => { t with b := x }
  else if c = 78 then (num w).map fun x => { t with n := x }
  else some { t with name := w }
def setAllD (t : It) : By → List By → Option It
  | [], [] => some t
  | c :: r, w :: ws => (setD t c w).bind fun t' => setAllD t' r ws
  | _, _ => none
theorem insOk_reg {t : It} (h : isReg t.a = false ∨ isReg t.b = false) : insOk t = false := by
  rw [Bool.eq_false_iff]
  intro e
  obtain ⟨-, -, -, -, -, -, -, -, ra, rb, -⟩ := insOk_split e
  rcases h with h | h
  · rw [h] at ra; cases ra
  · rw [h] at rb; cases rb
theorem itOk_reg {t : It} (hk : t.kind = 2) (h : isReg t.a = false ∨ isReg t.b = false) : itOk t = false := by
  unfold itOk
  rw [hk, insOk_reg h]
  simp
def keepOk (o : Option It) : Option It := o.bind fun t => if itOk t = true then some t else none
theorem keepOk_none {t : It} (h : itOk t = false) : keepOk (some t) = none := by simp [keepOk, h]
theorem set_keeps {t t' : It} {c : UInt8} {w : By} (h : set t c w = some t') : t'.kind = t.kind ∧ (c ≠ 65 → t'.a = t.a) ∧ (c ≠ 66 → t'.b = t.b) := by
  unfold set at h
  split at h
  · rename_i hc
    obtain ⟨x, -, rfl⟩ := Option.map_eq_some_iff.1 h
    exact ⟨rfl, fun e => absurd hc e, fun _ => rfl⟩
  · split at h
    · rename_i hc
      obtain ⟨x, -, rfl⟩ := Option.map_eq_some_iff.1 h
      exact ⟨rfl, fun _ => rfl, fun e => absurd hc e⟩
    · split at h
      · obtain ⟨x, -, rfl⟩ := Option.map_eq_some_iff.1 h
        exact ⟨rfl, fun _ => rfl, fun _ => rfl⟩
      · split at h
        · cases h; exact ⟨rfl, fun _ => rfl, fun _ => rfl⟩
        · cases h
theorem setAll_keeps : ∀ {b : By} {ws : List By} {t t' : It}, setAll t b ws = some t' → t'.kind = t.kind ∧ (65 ∉ b → t'.a = t.a) ∧ (66 ∉ b → t'.b = t.b)
  | [], [], t, t', h => by simp [setAll] at h; subst h; exact ⟨rfl, fun _ => rfl, fun _ => rfl⟩
  | [], _ :: _, t, t', h => by simp [setAll] at h
  | _ :: _, [], t, t', h => by simp [setAll] at h
  | c :: r, w :: ws, t, t', h => by
    simp only [setAll, Option.bind_eq_some_iff] at h
    obtain ⟨t1, h1, h2⟩ := h
    obtain ⟨k1, a1, b1⟩ := set_keeps h1
    obtain ⟨k2, a2, b2⟩ := setAll_keeps h2
    refine ⟨k2.trans k1, fun e => ?_, fun e => ?_⟩
    · simp only [List.mem_cons, not_or] at e
      exact (a2 e.2).trans (a1 (fun e2 => e.1 e2.symm))
    · simp only [List.mem_cons, not_or] at e
      exact (b2 e.2).trans (b1 (fun e2 => e.1 e2.symm))
theorem setAll_badA {b : By} {ws : List By} {t : It} (hk : t.kind = 2) (hb : 65 ∉ b) (h : isReg t.a = false) : keepOk (setAll t b ws) = none := by
  cases hs : setAll t b ws with
  | none => rfl
  | some t' => obtain ⟨k, a, -⟩ := setAll_keeps hs; exact keepOk_none (itOk_reg (k.trans hk) (.inl (by rw [a hb]; exact h)))
theorem setAll_badB {b : By} {ws : List By} {t : It} (hk : t.kind = 2) (hb : 66 ∉ b) (h : isReg t.b = false) : keepOk (setAll t b ws) = none := by
  cases hs : setAll t b ws with
  | none => rfl
  | some t' => obtain ⟨k, -, bb⟩ := setAll_keeps hs; exact keepOk_none (itOk_reg (k.trans hk) (.inr (by rw [bb hb]; exact h)))
theorem setAllD_eq : ∀ (b : By) (ws : List By) (t : It), t.kind = 2 → b.Nodup → (∀ c ∈ b, c = 65 ∨ c = 66 ∨ c = 78 ∨ c = 64) → keepOk (setAllD t b ws) = keepOk (setAll t b ws)
  | [], [], t, _, _, _ => rfl
  | [], _ :: _, t, _, _, _ => rfl
  | _ :: _, [], t, _, _, _ => rfl
  | c :: r, w :: ws, t, hk, hd, hc => by
    have hd2 := List.nodup_cons.1 hd
    have ih := fun t' hk' => setAllD_eq r ws t' hk' hd2.2 (fun x hx => hc x (List.mem_cons_of_mem _ hx))
    rcases hc c List.mem_cons_self with rfl | rfl | rfl | rfl
    · simp only [setAllD, setAll, setD, set, if_true]
      cases h : regD w with
      | some x => rw [regD_some h]; exact ih { t with a := x } hk
      | none =>
        cases h2 : reg w with
        | none => rfl
        | some x => exact (setAll_badA (t := { t with a := x }) hk hd2.1 (regD_none h h2)).symm
    · have e : ¬ ((66 : UInt8) = 65) := by decide
      simp only [setAllD, setAll, setD, set, if_neg e, if_true]
      cases h : regD w with
      | some x => rw [regD_some h]; exact ih { t with b := x } hk
      | none =>
        cases h2 : reg w with
        | none => rfl
        | some x => exact (setAll_badB (t := { t with b := x }) hk hd2.1 (regD_none h h2)).symm
    · have e : ¬ ((78 : UInt8) = 65) := by decide
      have e2 : ¬ ((78 : UInt8) = 66) := by decide
      simp only [setAllD, setAll, setD, set, if_neg e, if_neg e2, if_true]
      cases h : num w with
      | some x => exact ih { t with n := x } hk
      | none => rfl
    · have e : ¬ ((64 : UInt8) = 65) := by decide
      have e2 : ¬ ((64 : UInt8) = 66) := by decide
      have e3 : ¬ ((64 : UInt8) = 78) := by decide
      simp only [setAllD, setAll, setD, set, if_neg e, if_neg e2, if_neg e3, if_true]
      exact ih { t with name := w } hk
theorem row_nodup : ∀ op : Fin 34, (row op.val).2.Nodup ∧ ∀ c ∈ (row op.val).2, c = 65 ∨ c = 66 ∨ c = 78 ∨ c = 64 := by decide

/-! ### Items -/
def insD? (f : By) (r : List By) : Option It := match opOf f with
  | none => none
  | some op => if r.length = (row op).2.length then keepOk (setAllD ⟨2, [], op, 0, 0, 0, []⟩ (row op).2 r) else none
theorem insD?_eq (f : By) (r : List By) : insD? f r = keepOk (takeIns f r) := by
  unfold insD? takeIns
  cases h : opOf f with
  | none => rfl
  | some op =>
    obtain ⟨h1, -⟩ := opOf_some h
    obtain ⟨h2, h3⟩ := row_nodup ⟨op, h1⟩
    simp only
    split
    · exact setAllD_eq _ _ _ rfl h2 h3
    · rfl
theorem read_eq (f : By) (r : List By) : read (f :: r) = keepOk (take f r) := rfl
theorem opOf_none_of {f : By} (h : f.getLast? = some 58 ∨ f = wGlobal ∨ f = wThread ∨ f = wWords) : opOf f = none := by
  cases ho : opOf f with
  | none => rfl
  | some k =>
    exfalso
    obtain ⟨h1, h2⟩ := opOf_some ho
    have hne : f ≠ [] := by rcases h with h | h | h | h <;> intro e <;> subst e <;> first | (simp at h; done) | cases h
    have h3 := (row_mnem ⟨k, h1⟩ (by rw [h2]; exact hne)).1
    simp only [h2] at h3
    simp only [mnemOk, Bool.and_eq_true, decide_eq_true_eq] at h3
    rcases h with h | h | h | h
    · exact h3.1 h
    · exact h3.2.1 h
    · exact h3.2.2.1 h
    · exact h3.2.2.2 h
theorem takeIns_none {f : By} {r : List By} (h : opOf f = none) : takeIns f r = none := by unfold takeIns; rw [h]
theorem words_none {x : By} : keepOk (takeWords [x]) = none := by
  simp [takeWords, nums, keepOk, itOk]
theorem read_label {f : By} (h : f.getLast? = some 58) : read [f] = keepOk (some ⟨1, f.dropLast, 0, 0, 0, 0, []⟩) := by
  rw [read_eq]; unfold take; rw [if_pos h, if_pos rfl]
theorem read_global {x : By} : read [wGlobal, x] = keepOk (some ⟨4, x, 0, 0, 0, 0, []⟩) := by
  rw [read_eq]; unfold take; rw [if_neg (by decide), if_pos rfl]; rfl
theorem read_thread {x : By} : read [wThread, x] = keepOk (some ⟨5, x, 0, 0, 0, 0, []⟩) := by
  rw [read_eq]; unfold take; rw [if_neg (by decide), if_neg (by decide), if_pos rfl]; rfl
theorem read_words {x : By} {ns : List By} : read (wWords :: x :: ns) = keepOk ((nums ns).map fun l => ⟨3, x, 0, 0, 0, 0, l⟩) := by
  rw [read_eq]; unfold take; rw [if_neg (by decide), if_neg (by decide), if_neg (by decide), if_pos rfl]; rfl
theorem read_other {f : By} {r : List By} (h1 : ¬ (f.getLast? = some 58 ∧ r = [])) (h2 : ¬ (f = wGlobal ∧ r.length = 1)) (h3 : ¬ (f = wThread ∧ r.length = 1)) (h4 : ¬ (f = wWords ∧ 2 ≤ r.length)) : read (f :: r) = insD? f r := by
  rw [read_eq, insD?_eq]
  unfold take
  split
  · rename_i e
    rw [if_neg (fun e2 => h1 ⟨e, e2⟩), takeIns_none (opOf_none_of (.inl e))]
  · split
    · rename_i e
      rw [takeIns_none (opOf_none_of (.inr (.inl e)))]
      unfold takeNamed
      split
      · exact absurd ⟨e, rfl⟩ h2
      · rfl
    · split
      · rename_i e
        rw [takeIns_none (opOf_none_of (.inr (.inr (.inl e))))]
        unfold takeNamed
        split
        · exact absurd ⟨e, rfl⟩ h3
        · rfl
      · split
        · rename_i e
          rw [takeIns_none (opOf_none_of (.inr (.inr (.inr e))))]
          match r with
          | [] => rfl
          | [x] => exact words_none
          | x :: y :: l => exact absurd ⟨e, by simp⟩ h4
        · rfl

/-! ### Words -/
theorem fieldsGo_end {cur : By} : fieldsGo cur [] = if cur = [] then [] else [cur] := rfl
theorem fieldsGo_sp {cur l : By} : fieldsGo cur (32 :: l) = (if cur = [] then [] else [cur]) ++ fieldsGo [] l := by
  rw [fieldsGo, if_pos rfl]; split <;> simp
theorem fieldsGo_step {cur l : By} {c : UInt8} (h : c ≠ 32) : fieldsGo cur (c :: l) = fieldsGo (cur ++ [c]) l := by
  rw [fieldsGo, if_neg h]
end X
end Go.Proofs.YtgjingleolhkbaaGreatDoor

/- The document's registers and numbers. (Written by gen_refh.py.) -/
namespace Go.Proofs.YtgjingleolhkbaaGreatDoor
open Go.RowKit Go.Lib
set_option linter.unusedVariables false
set_option linter.unusedSimpArgs false

def RegD (r : Option Int) (e : Ending) : Prop := match r with | none => e = .returned (.tuple #[.int .i64 0, .bool false]) | some x => e = .returned (.tuple #[.int .i64 x, .bool true])
theorem regD_no {s : ByteArray} (h : s.size ≠ 2) : X.regD s.data.toList = none := by
 unfold X.regD
 split
 ·rename_i c d e
  have := congrArg List.length e
  rw [len_list] at this
  exact absurd this h
 ·rfl
set_option maxHeartbeats 4000000 in
theorem rregister_any (s : ByteArray) (w : World) :
  Calls Tryz.prog 81 #[.string s] w fun e w' => RegD (X.regD s.data.toList) e ∧ w' = w := by
 by_cases h2 : s.size = 2
 rotate_left
 ·have HR : Hid (X.regD s.data.toList = none) := regD_no h2
  have h2' : ((s.size : Int) != 2) = true := by simp; omega
  clear h2
  go_enter Tryz.func81, Tryz.ntmps81
  go_wp2_with fail
  go_ret2
  exact ⟨by unfold RegD; rw [HR.out]; rfl, rfl⟩
 have hl := reg_two h2
 have h0 : 0 < s.size := by omega
 have h1 : 1 < s.size := by omega
 have e114 : (s[0].toNat = 114) ↔ s[0] = 114 := ⟨fun e => UInt8.toNat_inj.1 (by rw [e]; rfl), fun e => by rw [e]; rfl⟩
 have HF : Hid (X.regD s.data.toList = if s[0] = 114 ∧ 48 ≤ s[1].toNat ∧ s[1].toNat ≤ 55 then some ((s[1].toNat : Int) - 48) else none) := by show _ = _; rw [hl]; rfl
 have h2' : ((s.size : Int) != 2) = false := by simp; omega
 clear hl
 by_cases a0 : s[0].toNat = 114
 rotate_left
 ·have HR : Hid (X.regD s.data.toList = none) := by show _ = _; rw [HF.out, if_neg (fun e => a0 (e114.2 e.1))]
  have a0' : ((s[0].toNat : Int) != 114) = true := by simp; omega
  clear a0 e114 h2
  go_enter Tryz.func81, Tryz.ntmps81
  go_wp2_with fail
  go_ret2
  exact ⟨by unfold RegD; rw [HR.out]; rfl, rfl⟩
 have a0' : ((s[0].toNat : Int) != 114) = false := by simp; omega
 by_cases a1 : s[1].toNat < 48
 ·have HR : Hid (X.regD s.data.toList = none) := by show _ = _; rw [HF.out, if_neg (fun e => by omega)]
  have a1' : (s[1].toNat : Int) < 48 := by omega
  clear a0 e114 h2 a1
  go_enter Tryz.func81, Tryz.ntmps81
  go_wp2_with fail
  go_ret2
  exact ⟨by unfold RegD; rw [HR.out]; rfl, rfl⟩
 by_cases a2 : 55 < s[1].toNat
 ·have HR : Hid (X.regD s.data.toList = none) := by show _ = _; rw [HF.out, if_neg (fun e => by omega)]
  have a2' : (55 : Int) < s[1].toNat := by omega
  have a1' : ¬ (s[1].toNat : Int) < 48 := by omega
  clear a0 e114 h2 a1 a2
  go_enter Tryz.func81, Tryz.ntmps81
  go_wp2_with fail
  go_ret2
  exact ⟨by unfold RegD; rw [HR.out]; rfl, rfl⟩
 have HR : Hid (X.regD s.data.toList = some ((s[1].toNat : Int) - 48)) := by show _ = _; rw [HF.out, if_pos ⟨e114.1 a0, by omega, by omega⟩]
 have a2' : ¬ (55 : Int) < s[1].toNat := by omega
 have a1' : ¬ (s[1].toNat : Int) < 48 := by omega
 clear a0 e114 h2 a1 a2
 go_enter Tryz.func81, Tryz.ntmps81
 go_wp2_with fail
 go_ret2
 exact ⟨by unfold RegD; rw [HR.out]; rfl, rfl⟩

theorem val_take {L : ByteArray} {k : Nat} (hk : k < L.size) : X.val (L.data.toList.take (k + 1)) = X.val (L.data.toList.take k) * 10 + (L[k].toNat - 48) := by
 rw [List.take_add_one, get_list L k hk]
 exact X.val_snoc _ _
theorem val_lt : ∀ (n : Nat) (l : X.By), l.length = n → l.all X.pd = true → X.val l < 10 ^ n := by
 intro n
 induction n with
 | zero => intro l h _; rw [List.eq_nil_of_length_eq_zero h]; simp [X.val]
 | succ n ih =>
  intro l h h3
  have h2 : l ≠ [] := fun e => by rw [e] at h; simp at h
  obtain ⟨l', c, rfl⟩ : ∃ l' c, l = l' ++ [c] := ⟨l.dropLast, l.getLast h2, (List.dropLast_concat_getLast h2).symm⟩
  rw [List.all_append, Bool.and_eq_true] at h3
  have hc : 48 ≤ c.toNat ∧ c.toNat ≤ 57 := X.pd_iff.1 (by simpa using h3.2)
  have := ih l' (by simpa using h) h3.1
  rw [X.val_snoc, Nat.pow_succ]
  omega
theorem pow_le18 {k : Nat} (h : k ≤ 18) : 10 ^ k ≤ 1000000000000000000 := by
 have : (10 : Nat) ^ k ≤ 10 ^ 18 := Nat.pow_le_pow_right (by decide) h
 simpa using this
def NumD (s : X.By) (e : Ending) : Prop := ∃ z ok, e = .returned (.tuple #[.int .i64 z, .bool ok]) ∧ NumIs s z ok
theorem NumD.no {s : X.By} {z : Int} (h : X.numD s = none) : NumD s (.returned (.tuple #[.int .i64 z, .bool false])) := ⟨_, _, rfl, fun e => by (cases e), fun _ => by rw [← X.numD_eq]; exact h⟩
theorem head_list {s : ByteArray} (h : 0 < s.size) : s.data.toList.head? = some s[0] := by
 have := drop_cons s 0 h
 rw [List.drop_zero] at this
 rw [this]; rfl
theorem head_ne {s : ByteArray} (h : 0 < s.size) {c : UInt8} : s.data.toList.head? = some c ↔ s[0].toNat = c.toNat := by
 rw [head_list h]
 exact ⟨fun e => by rw [Option.some.inj e], fun e => by rw [UInt8.toNat_inj.1 e]⟩
def Cnd (l : X.By) : Prop := 1 ≤ l.length ∧ l.length ≤ 19 ∧ (l.head? ≠ some 48 ∨ l.length = 1) ∧ l.all X.pd = true
theorem numD_no {s : X.By} (h : ¬ Cnd (X.lowOf s)) : X.numD s = none := by unfold X.numD; unfold Cnd at h; rw [if_neg h]
theorem numD_yes {s : X.By} (h : Cnd (X.lowOf s)) : X.numD s = if (X.lowOf s).length < s.length then (if X.val (X.lowOf s) ≤ 9223372036854775808 then some (-(X.val (X.lowOf s) : Int)) else none) else (if X.val (X.lowOf s) < 9223372036854775808 then some (X.val (X.lowOf s) : Int) else none) := by unfold X.numD; unfold Cnd at h; rw [if_pos h]

set_option maxRecDepth 100000 in
set_option maxHeartbeats 8000000 in
theorem rnumber_neg (s : ByteArray) (hs : s.size ≤ maxLen) (h1 : 1 < s.size) (q0 : s[0].toNat = 45) (q1 : s[1].toNat ≠ 48) (w : World) :
  Calls Tryz.prog 60 #[.string s] w fun e w' => NumD s.data.toList e ∧ w' = w := by
 unfold maxLen at hs
 have h0 : 0 < s.size := by omega
 have HLOW : Hid (X.lowOf s.data.toList = s.data.toList.tail) := (X.lowOf_neg ⟨by rw [len_list]; exact h1, (head_ne h0).2 q0, fun e => by rw [get_list s 1 h1] at e; exact q1 (by rw [Option.some.inj e]; rfl)⟩).1
 have c0 : ((s[0].toNat : Int) == 45) = true := by simp [q0]
 have c1 : ((s[1].toNat : Int) != 48) = true := by simp; omega
 have h1' : (1 : Int) < s.size := by omega
 obtain ⟨L, hL⟩ : ∃ L, s.extract 1 s.size = L := ⟨_, rfl⟩
 have HLT : Hid (L.data.toList = X.lowOf s.data.toList) := by show _ = _; rw [HLOW.out, ← hL, extract_eq, str_list, ← len_list, List.take_length, List.drop_one]
 have hLs : L.size = s.size - 1 := by rw [← len_list, HLT.out, HLOW.out, List.length_tail, len_list]
 have hlt : L.size < s.size := by omega
 have hlt' : (L.size : Int) < s.size := by omega
 have l1 : ¬ L.size < 1 := by omega
 clear q0 q1 hLs
 have l1' : ¬ (L.size : Int) < 1 := by omega
 by_cases l19 : 19 < L.size
 ·have HR : Hid (X.numD s.data.toList = none) := numD_no (fun e => by have := e.2.1; rw [← HLT.out, len_list] at this; omega)
  have l2' : (19 : Int) < L.size := by omega
  go_enter Tryz.func60, Tryz.ntmps60
  go_wp2_with fail
  go_ret2
  exact ⟨NumD.no HR.out, rfl⟩
 have l2' : ¬ (19 : Int) < L.size := by omega
 have l0 : 0 < L.size := by omega
 by_cases z0 : L[0].toNat = 48 ∧ 1 < L.size
 ·have HR : Hid (X.numD s.data.toList = none) := numD_no (fun e => by
   rcases e.2.2.1 with h | h
   ·rw [← HLT.out] at h; exact h ((head_ne l0).2 z0.1)
   ·rw [← HLT.out, len_list] at h; omega)
  have z1 : ((L[0].toNat : Int) == 48) = true := by simp [z0.1]
  have z2 : (1 : Int) < L.size := by omega
  clear z0
  go_enter Tryz.func60, Tryz.ntmps60
  go_wp2_with fail
  go_ret2
  exact ⟨NumD.no HR.out, rfl⟩
 have HZ : Hid (L.data.toList.head? ≠ some 48 ∨ L.data.toList.length = 1) := by
  by_cases e : L[0].toNat = 48
  ·exact .inr (by rw [len_list]; omega)
  ·exact .inl (fun e2 => e ((head_ne l0).1 e2))
 have zz : (((L[0].toNat : Int) == 48) = true ∧ ¬ (1 : Int) < L.size) ∨ ((L[0].toNat : Int) == 48) = false := by
  by_cases e : L[0].toNat = 48
  ·exact .inl ⟨by simp [e], by omega⟩
  ·exact .inr (by simp; omega)
 clear z0
 rcases zz with ⟨z1, z2⟩ | z1
 ·skip
  go_enter Tryz.func60, Tryz.ntmps60
  go_wp2_with fail
  go_loopg [5, 6] L.size (fun rr uv iv wq => ∃ (k : Nat) (V : Nat), uv = .int .u64 V ∧ iv = .int .i64 k ∧ k ≤ L.size ∧ L.size - k ≤ rr ∧ Hid (V = X.val (L.data.toList.take k)) ∧ Hid ((L.data.toList.take k).all X.pd = true) ∧ wq = w)
  case atStart => exact ⟨0, 0, rfl, rfl, Nat.zero_le _, by omega, (by show _ = _; simp [X.val]), (by show _ = _; simp), rfl⟩
  case round =>
   obtain ⟨k, V, rfl, rfl, hk, hr, HV, HA, rfl⟩ := hrel
   by_cases hlk : k < L.size
   ·have hii : (k : Int) < L.size := by omega
    have hin : 0 ≤ (k : Int) := by omega
    have hVb : V < 1000000000000000000 := by
     rw [HV.out]
     exact Nat.lt_of_lt_of_le (val_lt k _ (by rw [List.length_take, len_list]; omega) HA.out) (pow_le18 (by omega))
    have HV1 : Hid _ := val_take hlk
    have HA1 : Hid ((L.data.toList.take (k + 1)).all X.pd = ((L.data.toList.take k).all X.pd && X.pd L[k])) := by show _ = _; rw [List.take_add_one, get_list L k hlk, List.all_append]; simp
    have HPD : Hid (X.pd L[k] = X.dg L[k].toNat) := rfl
    cases hdg : X.dg L[k].toNat
    ·have HR : Hid (X.numD s.data.toList = none) := numD_no (fun e => by
      have h9 := e.2.2.2
      rw [← HLT.out, List.all_eq_true] at h9
      have := h9 L[k] (List.mem_of_getElem? (get_list L k hlk))
      rw [HPD.out, hdg] at this
      cases this)
     go_wp2_with (go_at_call 42; refine (rdigit_any L[k].toNat _).mono ?_; rw [hdg]; rintro e y ⟨rfl, rfl⟩)
     go_ret2
     exact ⟨NumD.no HR.out, rfl⟩
    ·have hdd : 48 ≤ L[k].toNat ∧ L[k].toNat ≤ 57 := by simp [X.dg] at hdg; exact hdg
     have d48 : (48 : Int) ≤ L[k].toNat := by omega
     have d57 : (L[k].toNat : Int) ≤ 57 := by omega
     have HA2 : Hid ((L.data.toList.take (k + 1)).all X.pd = true) := by show _ = _; rw [HA1.out, HA.out, HPD.out, hdg]; rfl
     go_wp2_with (go_at_call 42; refine (rdigit_any L[k].toNat _).mono ?_; rw [hdg]; rintro e y ⟨rfl, rfl⟩)
     go_roundg (L.size - (k + 1))
     case measure => omega
     case rel => exact ⟨k + 1, V * 10 + (L[k].toNat - 48), (by congr 1; omega), by go_num, by omega, Nat.le_refl _, (by show _ = _; rw [HV1.out, HV.out]), HA2.out, rfl⟩
   ·obtain rfl : k = L.size := by omega
    have hii : ¬ (L.size : Int) < L.size := by omega
    have hfull : L.data.toList.take L.size = L.data.toList := List.take_of_length_le (by rw [len_list]; exact Nat.le_refl _)
    rw [hfull] at HV HA
    have HC : Hid (Cnd (X.lowOf s.data.toList)) := by
     show Cnd _
     rw [← HLT.out]
     exact ⟨by rw [len_list]; omega, by rw [len_list]; omega, HZ.out, HA.out⟩
    have hVb : V < 10000000000000000000 := by
     rw [HV.out]
     have := val_lt L.size _ (len_list L) HA.out
     have h10 : (10 : Nat) ^ L.size ≤ 10 ^ 19 := Nat.pow_le_pow_right (by decide) (by omega)
     have : (10 : Nat) ^ 19 = 10000000000000000000 := by decide
     omega
    have HN : Hid (X.numD s.data.toList = if V ≤ 9223372036854775808 then some (-(V : Int)) else none) := by
     show _ = _
     rw [numD_yes HC.out, if_pos (by rw [← HLT.out, len_list, len_list]; exact hlt), ← HLT.out, ← HV.out]
    go_wp2_with fail
    go_ret2
    refine ⟨⟨_, _, rfl, fun e => ?_, fun e => ?_⟩, rfl⟩
    ·have h5 : V ≤ 9223372036854775808 := by simp at e; omega
     rw [← X.numD_eq, HN.out, if_pos h5]
     refine congrArg some ?_
     unfold wrap64
     omega
    ·have h5 : ¬ V ≤ 9223372036854775808 := by simp at e; omega
     rw [← X.numD_eq, HN.out, if_neg h5]
 ·skip
  go_enter Tryz.func60, Tryz.ntmps60
  go_wp2_with fail
  go_loopg [5, 6] L.size (fun rr uv iv wq => ∃ (k : Nat) (V : Nat), uv = .int .u64 V ∧ iv = .int .i64 k ∧ k ≤ L.size ∧ L.size - k ≤ rr ∧ Hid (V = X.val (L.data.toList.take k)) ∧ Hid ((L.data.toList.take k).all X.pd = true) ∧ wq = w)
  case atStart => exact ⟨0, 0, rfl, rfl, Nat.zero_le _, by omega, (by show _ = _; simp [X.val]), (by show _ = _; simp), rfl⟩
  case round =>
   obtain ⟨k, V, rfl, rfl, hk, hr, HV, HA, rfl⟩ := hrel
   by_cases hlk : k < L.size
   ·have hii : (k : Int) < L.size := by omega
    have hin : 0 ≤ (k : Int) := by omega
    have hVb : V < 1000000000000000000 := by
     rw [HV.out]
     exact Nat.lt_of_lt_of_le (val_lt k _ (by rw [List.length_take, len_list]; omega) HA.out) (pow_le18 (by omega))
    have HV1 : Hid _ := val_take hlk
    have HA1 : Hid ((L.data.toList.take (k + 1)).all X.pd = ((L.data.toList.take k).all X.pd && X.pd L[k])) := by show _ = _; rw [List.take_add_one, get_list L k hlk, List.all_append]; simp
    have HPD : Hid (X.pd L[k] = X.dg L[k].toNat) := rfl
    cases hdg : X.dg L[k].toNat
    ·have HR : Hid (X.numD s.data.toList = none) := numD_no (fun e => by
      have h9 := e.2.2.2
      rw [← HLT.out, List.all_eq_true] at h9
      have := h9 L[k] (List.mem_of_getElem? (get_list L k hlk))
      rw [HPD.out, hdg] at this
      cases this)
     go_wp2_with (go_at_call 42; refine (rdigit_any L[k].toNat _).mono ?_; rw [hdg]; rintro e y ⟨rfl, rfl⟩)
     go_ret2
     exact ⟨NumD.no HR.out, rfl⟩
    ·have hdd : 48 ≤ L[k].toNat ∧ L[k].toNat ≤ 57 := by simp [X.dg] at hdg; exact hdg
     have d48 : (48 : Int) ≤ L[k].toNat := by omega
     have d57 : (L[k].toNat : Int) ≤ 57 := by omega
     have HA2 : Hid ((L.data.toList.take (k + 1)).all X.pd = true) := by show _ = _; rw [HA1.out, HA.out, HPD.out, hdg]; rfl
     go_wp2_with (go_at_call 42; refine (rdigit_any L[k].toNat _).mono ?_; rw [hdg]; rintro e y ⟨rfl, rfl⟩)
     go_roundg (L.size - (k + 1))
     case measure => omega
     case rel => exact ⟨k + 1, V * 10 + (L[k].toNat - 48), (by congr 1; omega), by go_num, by omega, Nat.le_refl _, (by show _ = _; rw [HV1.out, HV.out]), HA2.out, rfl⟩
   ·obtain rfl : k = L.size := by omega
    have hii : ¬ (L.size : Int) < L.size := by omega
    have hfull : L.data.toList.take L.size = L.data.toList := List.take_of_length_le (by rw [len_list]; exact Nat.le_refl _)
    rw [hfull] at HV HA
    have HC : Hid (Cnd (X.lowOf s.data.toList)) := by
     show Cnd _
     rw [← HLT.out]
     exact ⟨by rw [len_list]; omega, by rw [len_list]; omega, HZ.out, HA.out⟩
    have hVb : V < 10000000000000000000 := by
     rw [HV.out]
     have := val_lt L.size _ (len_list L) HA.out
     have h10 : (10 : Nat) ^ L.size ≤ 10 ^ 19 := Nat.pow_le_pow_right (by decide) (by omega)
     have : (10 : Nat) ^ 19 = 10000000000000000000 := by decide
     omega
    have HN : Hid (X.numD s.data.toList = if V ≤ 9223372036854775808 then some (-(V : Int)) else none) := by
     show _ = _
     rw [numD_yes HC.out, if_pos (by rw [← HLT.out, len_list, len_list]; exact hlt), ← HLT.out, ← HV.out]
    go_wp2_with fail
    go_ret2
    refine ⟨⟨_, _, rfl, fun e => ?_, fun e => ?_⟩, rfl⟩
    ·have h5 : V ≤ 9223372036854775808 := by simp at e; omega
     rw [← X.numD_eq, HN.out, if_pos h5]
     refine congrArg some ?_
     unfold wrap64
     omega
    ·have h5 : ¬ V ≤ 9223372036854775808 := by simp at e; omega
     rw [← X.numD_eq, HN.out, if_neg h5]

end Go.Proofs.YtgjingleolhkbaaGreatDoor

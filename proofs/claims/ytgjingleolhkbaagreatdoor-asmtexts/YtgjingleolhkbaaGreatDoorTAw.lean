/- Every instruction of items that may be has a form, of its size. -/
import Derived.Test.YtgjingleolhkbaaGreatDoorTAv
namespace Go.Proofs.YtgjingleolhkbaaGreatDoor
namespace Z
open Go.RowKit
set_option linter.unusedVariables false
set_option linter.unusedSimpArgs false

theorem fitsE {o a b n : Int} (ho : 1 ≤ o ∧ o ≤ 33) (ha : 0 ≤ a ∧ a < 8) (hb : 0 ≤ b ∧ b < 8) (h1 : a = 0 ∨ 1 ≤ J.I.regs o) (h2 : b = 0 ∨ 2 ≤ J.I.regs o) (h3 : n = 0 ∨ J.I.num o ≠ 0) : J.I.fits o a b n = true := by
 unfold J.I.fits J.I.bears J.I.bad
 rw [decide_eq_true ho, J.I.isr_yes ha, J.I.isr_yes hb]
 have e1 : (a != 0 && decide (J.I.regs o < 1)) = false := by
  rcases h1 with h | h
  ·simp [h]
  ·simp; intro _; omega
 have e2 : (b != 0 && decide (J.I.regs o < 2)) = false := by
  rcases h2 with h | h
  ·simp [h]
  ·simp; intro _; omega
 have e3 : (n != 0 && J.I.num o == 0) = false := by
  rcases h3 with h | h
  ·simp [h]
  ·simp; intro _; exact h
 rw [e1, e2, e3]
 rfl
theorem numOkE {o n : Int} (h : J.I.num o = 0 ∨ (J.I.num o = 1 ∧ -128 ≤ n ∧ n ≤ 127) ∨ (J.I.num o = 4 ∧ -2147483648 ≤ n ∧ n ≤ 2147483647) ∨ (J.I.num o = 8 ∧ -9223372036854775808 ≤ n ∧ n ≤ 9223372036854775807)) (hn : o = 33 → 0 ≤ n) : J.I.numOk (J.I.num o) (J.I.nat o) n = true := by
 unfold J.I.numOk
 have tail : (decide (0 ≤ n) || !(J.I.nat o)) = true := by
  unfold J.I.nat
  by_cases ho : o = 33
  ·simp [ho, hn ho]
  ·have : (o == 33) = false := by simpa using ho
   rw [this]
   simp
 rcases h with h | ⟨h, h1, h2⟩ | ⟨h, h1, h2⟩ | ⟨h, h1, h2⟩
 ·rw [if_pos h]
 ·rw [h, if_neg (by decide), tail]
  have e1 : J.W.bytesE n 1 = 0 := by unfold J.W.bytesE J.W.isSz J.W.sx; simp; omega
  rw [e1]; rfl
 ·rw [h, if_neg (by decide), tail]
  have e1 : J.W.bytesE n 4 = 0 := by unfold J.W.bytesE J.W.isSz J.W.sx wrap32; simp; omega
  rw [e1]; rfl
 ·rw [h, if_neg (by decide), tail]
  have e1 : J.W.bytesE n 8 = 0 := by unfold J.W.bytesE J.W.isSz J.W.sx wrap64; simp; omega
  rw [e1]; rfl
theorem enc_size {o a b n : Int} (ho : 1 ≤ o ∧ o ≤ 33) (hf : J.I.fits o a b n = true) (hn : J.I.numOk (J.I.num o) (J.I.nat o) n = true) : ((J.I.encV o a b n).length : Int) = sz o := by
 unfold J.I.encV sz
 rw [if_pos hf, if_pos hn, ← J.I.psize_size o ho]
 have h1 : ((J.I.numW (J.I.num o) n).length : Int) = J.I.num o := by
  unfold J.I.numOk at hn
  unfold J.I.numW J.W.bytesV
  have hr := J.I.num_range o
  by_cases h0 : J.I.num o = 0
  ·rw [if_pos h0, h0]; rfl
  ·rw [if_neg h0] at hn ⊢
   have hb := (Bool.and_eq_true_iff.1 hn).1
   have hb' : J.W.bytesE n (J.I.num o) = 0 := by simpa using hb
   unfold J.W.bytesE at hb'
   split at hb'
   ·next hs =>
    split at hb'
    ·next hx => rw [if_pos hs, if_pos hx, J.W.bytesOf_length]; omega
    ·omega
   ·omega
 unfold J.I.psize J.I.regB
 simp only [List.length_append, List.length_cons, List.length_nil]
 by_cases h0 : J.I.regs o = 0
 ·rw [if_pos h0, if_pos h0]; simp; omega
 ·rw [if_neg h0, if_neg h0]
  split <;> simp <;> omega
def rowFacts (k : Nat) : Bool :=
 if (X.row k).1 = [] then true else
  decide (1 ≤ k) && (!(X.has (X.row k).2 65) || decide (1 ≤ J.I.regs k)) && (!(X.has (X.row k).2 66) || decide (2 ≤ J.I.regs k)) && (!(X.has (X.row k).2 78) || decide (J.I.num k = if k = 1 then 8 else if k = 33 then 1 else 4))
  && (decide (X.has (X.row k).2 64 = true) == decide (19 ≤ k ∧ k ≤ 23)) && (!(decide (20 ≤ k ∧ k ≤ 22)) || (!(X.has (X.row k).2 66) && !(X.has (X.row k).2 78))) && (!(decide (k = 23)) || (!(X.has (X.row k).2 65) && !(X.has (X.row k).2 66) && !(X.has (X.row k).2 78)))
theorem rowFacts_all : ∀ k, k < 34 → rowFacts k = true := by decide +kernel
def Own (ts : List X.It) (ops : List Int) : Prop := ∀ k, k < ts.length → ops.getD k 0 = (ts.getD k X.noIt).op ∨ ops.getD k 0 = op0 (ts.getD k X.noIt)
theorem own_lens {ts : List X.It} {bs : List Int} : ∀ (l : List (Nat × Nat)) (ops : List Int), ops.length = ts.length → Own ts ops → Own ts (lens ts bs l ops)
 | [], ops, _, h => h
 | j :: r, ops, hl, h => by
  rw [lens]
  split
  ·refine own_lens r _ (by rw [List.length_set]; exact hl) (fun k hk => ?_)
   by_cases e : k = j.1
   ·subst e
    rw [getD_set_eq' _ _ _ (by omega)]
    exact .inl rfl
   ·rw [getD_set_ne' _ _ _ _ e]
    exact h k hk
  ·exact own_lens r _ hl h
theorem own_settle {ts : List X.It} : ∀ (n : Nat) (ops : List Int), ops.length = ts.length → Own ts ops → Own ts (settle ts n ops)
 | 0, ops, _, h => h
 | n + 1, ops, hl, h => by
  rw [settle]
  split
  ·exact own_settle n _ (by rw [lens_len]; exact hl) (own_lens _ _ hl h)
  ·exact h
theorem own_ops (ts : List X.It) : Own ts (ops ts) := by
 refine own_settle _ _ (by simp) (fun k hk => .inr ?_)
 simp [List.getD, hk]
theorem first_far {α : Type} {p : α → Bool} : ∀ {l : List α}, l.any p = true → ∃ a x b, l = a ++ x :: b ∧ (∀ y ∈ a, p y = false) ∧ p x = true
 | [], h => by simp at h
 | y :: l, h => by
  cases hy : p y with
  | true => exact ⟨[], y, l, rfl, by simp, hy⟩
  | false =>
   rw [List.any_cons, hy, Bool.false_or] at h
   obtain ⟨a, x, b, e, h1, h2⟩ := first_far h
   exact ⟨y :: a, x, b, by rw [e]; rfl, fun z hz => by rcases List.mem_cons.1 hz with rfl | hz; exact hy; exact h1 z hz, h2⟩
theorem settle_far {ts : List X.It} : ∀ (n : Nat) (ops : List Int), (∀ x ∈ js ts, x.1 < ops.length) → shorts ts ops ≤ n → anyFar ts (settle ts n ops) = false
 | 0, ops, hj, hs => by
  rw [settle]
  unfold anyFar
  rw [List.any_eq_false]
  intro j hjm hf
  unfold shorts at hs
  have h1 : j ∈ (js ts).filter fun j => decide (ops.getD j.1 0 ≠ (ts.getD j.1 X.noIt).op) := List.mem_filter.2 ⟨hjm, by unfold tooFar at hf; exact (Bool.and_eq_true_iff.1 hf).1⟩
  have := List.length_pos_of_mem h1
  omega
 | n + 1, ops, hj, hs => by
  rw [settle]
  split
  ·next ha =>
   refine settle_far n _ (by rw [lens_len]; exact hj) ?_
   unfold anyFar at ha
   obtain ⟨a, x, b, e, h1, h2⟩ := first_far ha
   have h3 := lens_lt e h1 h2 hj
   have h4 : lens ts (ats ops) (js ts) ops = lens ts (ats ops) (x :: b) ops := by
    conv => lhs; rw [e]
    exact lens_skip h1
   rw [h4]
   omega
  ·next ha => simpa using ha
theorem ops_far (ts : List X.It) : anyFar ts (ops ts) = false := settle_far _ _ (by
 intro x hx
 rw [List.length_map]
 exact (js_in ts x hx).1) (shorts_le ts _)
theorem js_mem {ts : List X.It} {k : Nat} (hk : k < ts.length) (hj : jump (ts.getD k X.noIt) = true) : (k, labN ts (ts.getD k X.noIt).name) ∈ js ts := by
 unfold js jumpsOf
 refine List.mem_map.2 ⟨(ts.getD k X.noIt, k), List.mem_filter.2 ⟨?_, hj⟩, rfl⟩
 rw [List.mem_zipIdx_iff_getElem?]
 simp [List.getD, hk]
theorem jump_iff (t : X.It) : jump t = true ↔ t.op = 20 ∨ t.op = 21 ∨ t.op = 22 := by
 unfold jump shortOf
 by_cases h1 : t.op = 20
 ·simp [h1]
 ·by_cases h2 : t.op = 21
  ·simp [h2]
  ·by_cases h3 : t.op = 22
   ·simp [h3]
   ·simp [h1, h2, h3]
theorem far_range (ts : List X.It) (hl : ts.length ≤ 20000) (i k : Nat) : -1000010 ≤ far (ops ts) (ats (ops ts)) i k ∧ far (ops ts) (ats (ops ts)) i k ≤ 1000000 := by
 have hn := near_ats (ops := ops ts) (by rw [ops_len]; exact hl)
 have h1 := hn i
 have h2 := hn k
 have h3 := sz_range ((ops ts).getD i 0)
 unfold far
 omega
theorem rowF {k : Nat} (hk : k < 34) (hr : (X.row k).1 ≠ []) : 1 ≤ k ∧ (X.has (X.row k).2 65 = true → 1 ≤ J.I.regs k) ∧ (X.has (X.row k).2 66 = true → 2 ≤ J.I.regs k) ∧ (X.has (X.row k).2 78 = true → J.I.num k = if k = 1 then 8 else if k = 33 then 1 else 4) ∧ (X.has (X.row k).2 64 = true ↔ 19 ≤ k ∧ k ≤ 23) ∧ (20 ≤ k ∧ k ≤ 22 → X.has (X.row k).2 66 = false ∧ X.has (X.row k).2 78 = false) ∧ (k = 23 → X.has (X.row k).2 65 = false ∧ X.has (X.row k).2 66 = false ∧ X.has (X.row k).2 78 = false) := by
 have h := rowFacts_all k hk
 unfold rowFacts at h
 rw [if_neg hr] at h
 simp only [Bool.and_eq_true, Bool.or_eq_true, Bool.not_eq_true', decide_eq_true_eq, decide_eq_false_iff_not, beq_iff_eq] at h
 obtain ⟨⟨⟨⟨⟨⟨h1, h2⟩, h3⟩, h4⟩, h5⟩, h6⟩, h7⟩ := h
 refine ⟨h1, fun e => ?_, fun e => ?_, fun e => ?_, ?_, fun e => ?_, fun e => ?_⟩
 ·rcases h2 with h | h
  ·rw [h] at e; cases e
  ·exact h
 ·rcases h3 with h | h
  ·rw [h] at e; cases e
  ·exact h
 ·rcases h4 with h | h
  ·rw [h] at e; cases e
  ·exact h
 ·by_cases hq : X.has (X.row k).2 64 = true
  ·rw [decide_eq_true hq] at h5
   exact ⟨fun _ => of_decide_eq_true h5.symm, fun _ => hq⟩
  ·rw [decide_eq_false hq] at h5
   exact ⟨fun e => absurd e hq, fun e => absurd e (of_decide_eq_false h5.symm)⟩
 ·rcases h6 with h | h
  ·exact absurd e h
  ·exact h
 ·rcases h7 with h | h
  ·exact absurd e h
  ·exact ⟨h.1.1, h.1.2, h.2⟩
theorem code_ok {ts : List X.It} (hl : ts.length ≤ 20000) (hok : ∀ t ∈ ts, X.itOk t = true) (hfit : ∀ t ∈ ts, X.fitsIt t) {k : Nat} (hk : k < ts.length) (hkd : (ts.getD k X.noIt).kind = 2) :
  1 ≤ (ops ts).getD k 0 ∧ (ops ts).getD k 0 ≤ 33 ∧ J.I.fits ((ops ts).getD k 0) (ts.getD k X.noIt).a (ts.getD k X.noIt).b (codeN ts (ops ts) k) = true ∧ J.I.numOk (J.I.num ((ops ts).getD k 0)) (J.I.nat ((ops ts).getD k 0)) (codeN ts (ops ts) k) = true := by
 have hm : ts.getD k X.noIt ∈ ts := by simp [List.getD, hk]
 have hown := own_ops ts k hk
 have hfar := ops_far ts
 have hjm := fun h => js_mem hk h
 have hft := (hfit _ hm).1
 have hfr := far_range ts hl k (labN ts (ts.getD k X.noIt).name)
 obtain ⟨hins, -⟩ := X.itOk_ins (hok _ hm) hkd
 have hcn : codeN ts (ops ts) k = if isOpen ts (ts.getD k X.noIt) = true then 0 else if (ts.getD k X.noIt).name ≠ [] then far (ops ts) (ats (ops ts)) k (labN ts (ts.getD k X.noIt).name) else (ts.getD k X.noIt).n := rfl
 rw [hcn]
 generalize hget : ts.getD k X.noIt = t at *
 obtain ⟨o0, o1, hrow, hnm, -, ha, hb, hn, ra, rb, hno⟩ := X.insOk_split hins
 obtain ⟨op, hop⟩ : ∃ op : Nat, t.op = op := ⟨t.op.toNat, by omega⟩
 rw [hop] at o0 o1 hrow hnm ha hb hn hno hown
 have hto : (op : Int).toNat = op := by omega
 rw [hto] at hrow hnm ha hb hn
 obtain ⟨f1, f2, f3, f4, f5, f6, f7⟩ := rowF (k := op) (by omega) hrow
 have hA := X.isReg_iff.1 ra
 have hB := X.isReg_iff.1 rb
 have hge : (1 : Int) ≤ op ∧ (op : Int) ≤ 33 := by omega
 have hname : t.name ≠ [] ↔ 19 ≤ op ∧ op ≤ 23 := by
  rw [← f5, hnm]
  simp
 by_cases hj : 20 ≤ op ∧ op ≤ 22
 ·-- a jump
  have hjt : jump t = true := (jump_iff t).2 (by rw [hop]; omega)
  have hopen : isOpen ts t = false := by unfold isOpen; rw [hop]; simp; omega
  rw [hopen]
  simp only [Bool.false_eq_true, if_false]
  rw [if_pos (hname.2 (by omega))]
  have hb0 : t.b = 0 := by rcases hb with h | h; exact h; rw [(f6 hj).1] at h; cases h
  generalize labN ts t.name = q at *
  by_cases hlong : (ops ts).getD k 0 = (op : Int)
  ·rw [hlong]
   have e4 : J.I.num (op : Int) = 4 := by
    rcases (show op = 20 ∨ op = 21 ∨ op = 22 by omega) with rfl | rfl | rfl <;> decide
   exact ⟨hge.1, hge.2, fitsE hge hA hB (ha.imp id f2) (.inl hb0) (.inr (by rw [e4]; decide)), numOkE (.inr (.inr (.inl ⟨e4, by omega, by omega⟩))) (by omega)⟩
  ·have hsh : (ops ts).getD k 0 = shortOf op := by
    rcases hown with h | h
    ·exact absurd h hlong
    ·rw [h]; unfold op0; rw [hjt, hop]; rfl
   have hnf : tooFar ts (ops ts) (ats (ops ts)) (k, q) = false := by
    unfold anyFar at hfar
    rw [List.any_eq_false] at hfar
    simpa using hfar _ (hjm hjt)
   have hb1 : -128 ≤ far (ops ts) (ats (ops ts)) k q ∧ far (ops ts) (ats (ops ts)) k q ≤ 127 := by
    unfold tooFar at hnf
    simp only at hnf
    rw [hget, hop, decide_eq_true hlong, Bool.true_and] at hnf
    simp at hnf
    omega
   rw [hsh]
   generalize far (ops ts) (ats (ops ts)) k q = d at *
   have ha' := ha.imp id f2
   rcases (show op = 20 ∨ op = 21 ∨ op = 22 by omega) with rfl | rfl | rfl
   ·have e : shortOf ((20 : Nat) : Int) = 25 := by decide
    rw [e]
    exact ⟨by decide, by decide, fitsE (by decide) hA hB (ha'.imp id (fun h => absurd h (by decide))) (.inl hb0) (.inr (by decide)), numOkE (.inr (.inl ⟨by decide, hb1⟩)) (fun h => absurd h (by decide))⟩
   ·have e : shortOf ((21 : Nat) : Int) = 26 := by decide
    rw [e]
    exact ⟨by decide, by decide, fitsE (by decide) hA hB (.inr (by decide)) (.inl hb0) (.inr (by decide)), numOkE (.inr (.inl ⟨by decide, hb1⟩)) (fun h => absurd h (by decide))⟩
   ·have e : shortOf ((22 : Nat) : Int) = 27 := by decide
    rw [e]
    exact ⟨by decide, by decide, fitsE (by decide) hA hB (.inr (by decide)) (.inl hb0) (.inr (by decide)), numOkE (.inr (.inl ⟨by decide, hb1⟩)) (fun h => absurd h (by decide))⟩
 ·have hjt : jump t = false := by
   cases h : jump t with
   | false => rfl
   | true => have := (jump_iff t).1 h; rw [hop] at this; omega
  have ho : (ops ts).getD k 0 = (op : Int) := by
   rcases hown with h | h
   ·exact h
   ·rw [h]; unfold op0; rw [hjt, hop]; rfl
  rw [ho]
  have zero : J.I.numOk (J.I.num (op : Int)) (J.I.nat (op : Int)) 0 = true := numOkE (by rcases J.I.num_range (op : Int) with h | h | h | h <;> omega) (fun _ => by omega)
  cases hopen : isOpen ts t with
  | true =>
   simp only [if_true]
   exact ⟨hge.1, hge.2, fitsE hge hA hB (ha.imp id f2) (hb.imp id f3) (.inl rfl), zero⟩
  | false =>
   simp only [Bool.false_eq_true, if_false]
   by_cases hne : t.name ≠ []
   ·rw [if_pos hne]
    have h23 : op = 23 := by
     have := hname.1 hne
     unfold isOpen at hopen
     rw [hop] at hopen
     by_cases e : op = 19
     ·subst e; simp at hopen
     ·omega
    subst h23
    obtain ⟨g1, g2, g3⟩ := f7 rfl
    have ha0 : t.a = 0 := by rcases ha with h | h; exact h; rw [g1] at h; cases h
    have hb0 : t.b = 0 := by rcases hb with h | h; exact h; rw [g2] at h; cases h
    exact ⟨hge.1, hge.2, fitsE hge hA hB (.inl ha0) (.inl hb0) (.inr (by decide)), numOkE (.inr (.inr (.inl ⟨by decide, by omega, by omega⟩))) (fun h => absurd h (by decide))⟩
   ·rw [if_neg hne]
    rcases hn with h0 | h78
    ·rw [h0]
     exact ⟨hge.1, hge.2, fitsE hge hA hB (ha.imp id f2) (hb.imp id f3) (.inl rfl), zero⟩
    ·have h4 := f4 h78
     have hx : 0 < J.I.num (op : Int) := by rw [h4]; split; omega; split <;> omega
     refine ⟨hge.1, hge.2, fitsE hge hA hB (ha.imp id f2) (hb.imp id f3) (.inr (by omega)), ?_⟩
     unfold X.numOk at hno
     by_cases e1 : op = 1
     ·subst e1
      exact numOkE (.inr (.inr (.inr ⟨by decide, hft.1, hft.2⟩))) (fun h => absurd h (by decide))
     ·rw [if_neg e1] at h4
      rw [if_neg (by omega)] at hno
      by_cases e33 : op = 33
      ·subst e33
       rw [if_pos (by decide)] at hno
       simp at hno
       exact numOkE (.inr (.inl ⟨by decide, by omega, by omega⟩)) (fun _ => hno.1)
      ·rw [if_neg e33] at h4
       rw [if_neg (by omega)] at hno
       simp at hno
       exact numOkE (.inr (.inr (.inl ⟨h4, by omega, by omega⟩))) (fun h => by omega)
end Z
end Go.Proofs.YtgjingleolhkbaaGreatDoor

/- What comes out may be an object: the mathematics. -/
namespace Go.Proofs.YtgjingleolhkbaaGreatDoor
namespace Z
open Go.RowKit
set_option linter.unusedVariables false
set_option linter.unusedSimpArgs false

theorem beg_mono (ops : List Int) : ∀ {i j : Nat}, i ≤ j → beg ops i ≤ beg ops j := by
 intro i j h
 induction j with
 | zero =>
  obtain rfl : i = 0 := by omega
  exact Int.le_refl _
 | succ j ih =>
  by_cases e : i = j + 1
  ·subst e; exact Int.le_refl _
  ·have h1 := ih (by omega)
   by_cases hj : j < ops.length
   ·rw [beg_succ ops hj]
    have := sz_range (ops.getD j 0)
    omega
   ·have e2 : beg ops (j + 1) = beg ops j := by unfold beg; rw [List.take_of_length_le (by omega), List.take_of_length_le (by omega)]
    rw [e2]; exact h1
theorem name_ok {l : X.By} (h : X.name l = true) : O.nameOk (X.str l) = true := by
 unfold X.name at h
 simp only [Bool.and_eq_true, decide_eq_true_eq] at h
 unfold O.nameOk
 rw [str_size, decide_eq_true h.1, decide_eq_true h.2.1]
 rfl
theorem free_old {rs : List O.Rel} {r : O.Rel} {i : Nat} (hi : i < rs.length) : O.freeAt (rs ++ [r]) i = O.freeAt rs i ∧ (rs ++ [r]).getD i O.noRel = rs.getD i O.noRel := by
 have g : ∀ j, j < rs.length → (rs ++ [r]).getD j O.noRel = rs.getD j O.noRel := fun j hj => by
  simp only [List.getD]
  rw [List.getElem?_append_left hj]
 refine ⟨?_, g i hi⟩
 unfold O.freeAt
 split
 ·rfl
 ·rw [g _ (by omega)]
theorem free_new {rs : List O.Rel} {r : O.Rel} : O.freeAt (rs ++ [r]) rs.length = (if rs.length = 0 then 0 else (rs.getD (rs.length - 1) O.noRel).pos + 4) ∧ (rs ++ [r]).getD rs.length O.noRel = r := by
 refine ⟨?_, by simp [List.getD]⟩
 unfold O.freeAt
 split
 ·rfl
 ·simp only [List.getD]
  rw [List.getElem?_append_left (by omega)]
structure OM (ts : List X.It) (k : Nat) (s : O.ObjD) : Prop where
 c : (s.code.size : Int) = beg (ops ts) k
 d : s.data.length = wordsN (ts.take k)
 df : ∀ n ∈ s.data, X.fits n
 sl : s.syms.map (·.name) = ((ts.take k).filter isSym).map fun t => X.str t.name
 sk : ∀ x ∈ s.syms, O.nameOk x.name = true ∧ 0 ≤ x.pos ∧ ((x.kind = 2 ∧ x.pos < s.data.length) ∨ ((x.kind = 1 ∨ x.kind = 3) ∧ x.pos < tot (ops ts)))
 rl : s.rels.length = opensN ts (ts.take k)
 rk : ∀ i, i < s.rels.length → O.freeAt s.rels i ≤ (s.rels.getD i O.noRel).pos ∧ (s.rels.getD i O.noRel).pos + 4 ≤ s.code.size ∧ O.nameOk (s.rels.getD i O.noRel).name = true ∧ O.addOk (s.rels.getD i O.noRel).kind (s.rels.getD i O.noRel).add = true
theorem zero_op {t : X.It} (h : X.zeroIns t = true) : t.op = 0 ∧ op0 t = 0 ∧ ∀ ts, isOpen ts t = false := by
 unfold X.zeroIns at h
 simp only [decide_eq_true_eq] at h
 refine ⟨h.1, ?_, fun ts => ?_⟩
 ·unfold op0 jump shortOf
  rw [h.1]
  rfl
 ·unfold isOpen
  rw [h.1]
  rfl
theorem beg_zero_op {ts : List X.It} {k : Nat} (hk : k < ts.length) (h : X.zeroIns (ts.getD k X.noIt) = true) : beg (ops ts) (k + 1) = beg (ops ts) k := by
 obtain ⟨h1, h2, -⟩ := zero_op h
 have ho : (ops ts).getD k 0 = 0 := by
  rcases own_ops ts k hk with e | e
  ·rw [e, h1]
  ·rw [e, h2]
 rw [beg_succ _ (by rw [ops_len]; exact hk), ho]
 have : sz 0 = 0 := by decide
 omega
theorem place_range {ts : List X.It} {t : X.It} (h0 : 0 < ts.length) (hs : standAt ts t = true) (hsh : shown t = true) : 0 ≤ placeOf ts (ops ts) t.name ∧ placeOf ts (ops ts) t.name < tot (ops ts) := by
 have hlt := labN_lt t.name h0
 have e : placeOf ts (ops ts) t.name = beg (ops ts) (labN ts t.name) := by
  unfold placeOf
  rw [ats_at _ (by rw [ops_len]; exact hlt)]
 have hne : placeOf ts (ops ts) t.name ≠ tot (ops ts) := by
  unfold standAt at hs
  rw [hsh] at hs
  simpa using hs
 have h1 := beg_range (ops ts) (labN ts t.name)
 have h2 : beg (ops ts) (labN ts t.name) ≤ tot (ops ts) := beg_mono _ (by rw [ops_len]; omega)
 rw [e] at hne ⊢
 omega
theorem om_step {ts : List X.It} (hl : ts.length ≤ 20000) (hok : ∀ t ∈ ts, X.itOk t = true) (hfit : ∀ t ∈ ts, X.fitsIt t) (hso : symsOk ts = true) {k : Nat} {s : O.ObjD} (hk : k < ts.length) (h : OM ts k s) : OM ts (k + 1) (stepO ts (ops ts) s k) := by
 have hm : ts.getD k X.noIt ∈ ts := by simp [List.getD, hk]
 have hget : ts[k]? = some (ts.getD k X.noIt) := by simp [List.getD, hk]
 have htk := take_snoc hget
 have hst : standAt ts (ts.getD k X.noIt) = true := List.all_eq_true.1 hso _ hm
 have hcase := X.itOk_cases (hok _ hm)
 have hf := hfit _ hm
 have hz := fun hh => beg_zero_op hk hh
 have hcode := fun hh => code_ok hl hok hfit hk hh
 have hown := own_ops ts k hk
 unfold stepO
 rcases hcase with ⟨hkd, hins, hw⟩ | ⟨hkd, hn, hw, hw2, hzi⟩ | ⟨hkd, hn, hw, hzi⟩
 ·-- an instruction
  obtain ⟨c1, c2, c3, c4⟩ := hcode hkd
  have hsz := enc_size ⟨c1, c2⟩ c3 c4
  have hbeg : beg (ops ts) (k + 1) = beg (ops ts) k + sz ((ops ts).getD k 0) := beg_succ _ (by rw [ops_len]; exact hk)
  have hsize : ((s.code ++ strOfNums (codeV ts (ops ts) k)).size : Int) = beg (ops ts) (k + 1) := by
   rw [ByteArray.size_append, strOf_size, hbeg, ← hsz, ← h.c]
   unfold codeV
   omega
  have hns : isSym (ts.getD k X.noIt) = false := by unfold isSym shown; rw [hkd]; rfl
  rw [if_pos hkd]
  generalize s.code ++ strOfNums (codeV ts (ops ts) k) = cd at *
  generalize hgt : ts.getD k X.noIt = t at *
  have hle : (s.code.size : Int) ≤ cd.size := by rw [hsize, hbeg, h.c]; have := sz_range ((ops ts).getD k 0); omega
  refine ⟨hsize, ?_, h.df, ?_, h.sk, ?_, ?_⟩
  ·rw [htk, wordsN_snoc, hw, h.d]; rfl
  ·rw [htk, List.filter_append]; simp [hns, h.sl]
  ·rw [htk]
   by_cases ho : isOpen ts t = true
   ·rw [opensN_yes ho, if_pos ho, List.length_append, h.rl]; rfl
   ·rw [opensN_no (by simpa using ho), if_neg ho, h.rl]
  ·by_cases ho : isOpen ts t = true
   ·simp only [if_pos ho]
    obtain ⟨o0, o1, hrow, hnm, hnm2, -, -, -, -, -, hno⟩ := X.insOk_split hins
    have hop : t.op = 19 ∨ t.op = 23 := by
     unfold isOpen at ho
     simp only [Bool.or_eq_true, Bool.and_eq_true, decide_eq_true_eq] at ho
     omega
    have hj : jump t = false := by
     cases hq : jump t with
     | false => rfl
     | true => have := (jump_iff t).1 hq; omega
    have hoo : (ops ts).getD k 0 = t.op := by
     rcases hown with e | e
     ·exact e
     ·rw [e]; unfold op0; rw [hj]; rfl
    have hs5 : 5 ≤ sz ((ops ts).getD k 0) := by
     rw [hoo]
     rcases hop with e | e <;> rw [e] <;> decide
    have hne : t.name ≠ [] := by
     have hh : X.has (X.row t.op.toNat).2 64 = true := by
      rcases hop with e | e <;> rw [e] <;> decide
     rw [hnm] at hh
     simpa using hh
    have hnk : X.name t.name = true := by rcases hnm2 with e | e; exact absurd e hne; exact e
    have hadd : O.addOk (relOf t ((cd.size : Int) - 4)).kind (relOf t ((cd.size : Int) - 4)).add = true ∧ (relOf t ((cd.size : Int) - 4)).pos = (cd.size : Int) - 4 ∧ (relOf t ((cd.size : Int) - 4)).name = X.str t.name := by
     unfold relOf
     by_cases e19 : t.op = 19
     ·rw [if_pos e19]
      unfold X.numOk at hno
      rw [e19] at hno
      simp at hno
      exact ⟨by unfold O.addOk; simp; omega, rfl, rfl⟩
     ·rw [if_neg e19]
      exact ⟨by unfold O.addOk; simp, rfl, rfl⟩
    intro i hi
    rw [List.length_append, List.length_singleton] at hi
    by_cases hio : i < s.rels.length
    ·obtain ⟨g1, g2⟩ := free_old (r := relOf t ((cd.size : Int) - 4)) hio
     rw [g1, g2]
     obtain ⟨a1, a2, a3, a4⟩ := h.rk i hio
     exact ⟨a1, by omega, a3, a4⟩
    ·obtain rfl : i = s.rels.length := by omega
     obtain ⟨g1, g2⟩ := free_new (rs := s.rels) (r := relOf t ((cd.size : Int) - 4))
     rw [g1, g2]
     refine ⟨?_, by rw [hadd.2.1]; omega, by rw [hadd.2.2]; exact name_ok hnk, hadd.1⟩
     rw [hadd.2.1]
     have hgr : (s.code.size : Int) + 5 ≤ cd.size := by rw [hsize, hbeg, h.c]; omega
     split
     ·omega
     ·have := (h.rk (s.rels.length - 1) (by omega)).2.1
      omega
   ·simp only [if_neg ho]
    intro i hi
    obtain ⟨a1, a2, a3, a4⟩ := h.rk i hi
    exact ⟨a1, by omega, a3, a4⟩
 ·-- words
  rw [if_neg (by omega), if_pos hkd]
  have hbeg := hz hzi
  have hys : isSym (ts.getD k X.noIt) = true := by unfold isSym; rw [hkd]; rfl
  obtain ⟨-, -, hopn⟩ := zero_op hzi
  have hno := hopn ts
  generalize ts.getD k X.noIt = t at *
  have hlen : 1 ≤ t.words.length := List.length_pos_iff.2 hw
  refine ⟨by rw [hbeg]; exact h.c, ?_, ?_, ?_, ?_, ?_, h.rk⟩
  ·rw [htk, wordsN_snoc, List.length_append, h.d]
  ·intro n hn'
   rcases List.mem_append.1 hn' with hn' | hn'
   ·exact h.df n hn'
   ·exact hf.2 n hn'
  ·rw [htk, List.filter_append, List.map_append, List.map_append, h.sl]; simp [hys]
  ·intro x hx
   rcases List.mem_append.1 hx with hx | hx
   ·obtain ⟨b1, b2, b3⟩ := h.sk x hx
    refine ⟨b1, b2, b3.imp (fun e => ⟨e.1, ?_⟩) id⟩
    simp only [List.length_append]
    omega
   ·simp at hx
    subst hx
    refine ⟨name_ok hn, by simp, .inl ⟨rfl, ?_⟩⟩
    simp only [List.length_append]
    omega
  ·rw [htk, opensN_no hno, h.rl]
 ·have hbeg := hz hzi
  obtain ⟨-, -, hopn⟩ := zero_op hzi
  have hno := hopn ts
  have hpl := fun hh => place_range (t := ts.getD k X.noIt) (by omega) hst hh
  generalize ts.getD k X.noIt = t at *
  have hwn : wordsN (ts.take (k + 1)) = wordsN (ts.take k) := by rw [htk, wordsN_snoc, hw]; rfl
  have hopens : opensN ts (ts.take (k + 1)) = opensN ts (ts.take k) := by rw [htk, opensN_no hno]
  rw [if_neg (by omega), if_neg (by omega)]
  rcases hkd with e | e | e
  ·have hns : isSym t = false := by unfold isSym shown; rw [e]; rfl
   rw [if_neg (by omega), if_neg (by omega)]
   exact ⟨by rw [hbeg]; exact h.c, by rw [hwn]; exact h.d, h.df, by rw [htk, List.filter_append]; simp [hns, h.sl], h.sk, by rw [hopens]; exact h.rl, h.rk⟩
  ·have hsh : shown t = true := by unfold shown; rw [e]; rfl
   have hys : isSym t = true := by unfold isSym; rw [hsh]; simp
   rw [if_pos e]
   refine ⟨by rw [hbeg]; exact h.c, by rw [hwn]; exact h.d, h.df, ?_, ?_, by rw [hopens]; exact h.rl, h.rk⟩
   ·rw [htk, List.filter_append, List.map_append, List.map_append, h.sl]; simp [hys]
   ·intro x hx
    rcases List.mem_append.1 hx with hx | hx
    ·exact h.sk x hx
    ·simp at hx
     subst hx
     exact ⟨name_ok hn, (hpl hsh).1, .inr ⟨.inl rfl, (hpl hsh).2⟩⟩
  ·have hsh : shown t = true := by unfold shown; rw [e]; rfl
   have hys : isSym t = true := by unfold isSym; rw [hsh]; simp
   rw [if_neg (by omega), if_pos e]
   refine ⟨by rw [hbeg]; exact h.c, by rw [hwn]; exact h.d, h.df, ?_, ?_, by rw [hopens]; exact h.rl, h.rk⟩
   ·rw [htk, List.filter_append, List.map_append, List.map_append, h.sl]; simp [hys]
   ·intro x hx
    rcases List.mem_append.1 hx with hx | hx
    ·exact h.sk x hx
    ·simp at hx
     subst hx
     exact ⟨name_ok hn, (hpl hsh).1, .inr ⟨.inr rfl, (hpl hsh).2⟩⟩
theorem om_all {ts : List X.It} (hl : ts.length ≤ 20000) (hok : ∀ t ∈ ts, X.itOk t = true) (hfit : ∀ t ∈ ts, X.fitsIt t) (hso : symsOk ts = true) : ∀ k, k ≤ ts.length → OM ts k (objTo ts (ops ts) k)
 | 0, _ => ⟨by simp [objTo, noObj, beg_zero]; rfl, by simp [objTo, noObj, wordsN], by simp [objTo, noObj], by simp [objTo, noObj], by simp [objTo, noObj], by simp [objTo, noObj, opensN], by simp [objTo, noObj]⟩
 | k + 1, hk => by
  rw [objTo_succ]
  exact om_step hl hok hfit hso (by omega) (om_all hl hok hfit hso k (by omega))
end Z
end Go.Proofs.YtgjingleolhkbaaGreatDoor

/- What comes out of Assemble may be an object. -/
namespace Go.Proofs.YtgjingleolhkbaaGreatDoor
open Go.RowKit
set_option linter.unusedVariables false
set_option linter.unusedSimpArgs false
namespace Z
theorem wf_i (x : Int) : (Lit.int .i64 x).wf = true ↔ -9223372036854775808 ≤ x ∧ x ≤ 9223372036854775807 := by
 simp [Lit.wf, IntKind.min, IntKind.max, IntKind.signed, IntKind.bits]
theorem str_inj {a b : X.By} (h : X.str a = X.str b) : a = b := by
 have := congrArg (fun s : ByteArray => s.data.toList) h
 simpa [str_list] using this
theorem nms_pair {p : X.It → Bool} {ts : List X.It} (h : unl p ts = true) : ts.Pairwise fun a b => p a = true → p b = true → a.name ≠ b.name := by
 have h1 : (nms p ts).Nodup := of_decide_eq_true h
 unfold nms at h1
 rw [List.Nodup, List.pairwise_map, List.pairwise_filter] at h1
 exact h1
theorem sym_names {ts : List X.It} (hN : nameE ts = 0) : ((ts.filter isSym).map fun t => X.str t.name).Nodup := by
 unfold nameE at hN
 split at hN
 ·next hu =>
  obtain ⟨hp, hs⟩ := hu
  have hunk : unk ts = false := by
   cases h : unk ts with
   | false => rfl
   | true => rw [h] at hN; simp at hN
  have pp := nms_pair hp
  have ps := nms_pair hs
  have cross : ∀ a ∈ ts, ∀ b ∈ ts, a.kind = 3 → shown b = true → a.name ≠ b.name := fun a ha b hb hk hsh e => by
   unfold unk at hunk
   rw [List.any_eq_false] at hunk
   have h1 := hunk b hb
   rw [hsh, Bool.true_or, Bool.true_and] at h1
   cases hl : lab ts b.name with
   | none => rw [hl] at h1; simp at h1
   | some i =>
    obtain ⟨hi, hlab⟩ := lab_some hl
    obtain ⟨j, hj, hja⟩ := List.getElem_of_mem ha
    have hgi : ts.getD i X.noIt = ts[i] := by simp [List.getD, hi]
    rw [hgi] at hlab
    simp only [isLab, Bool.and_eq_true, decide_eq_true_eq] at hlab
    have hij : i ≠ j := fun e2 => by
     subst e2
     rw [hja] at hlab
     omega
    rw [List.pairwise_iff_getElem] at pp
    have p1 : place ts[i] = true := by unfold place; rw [hlab.1]; rfl
    have p2 : place ts[j] = true := by unfold place; rw [hja, hk]; rfl
    rcases Nat.lt_or_gt_of_ne hij with h2 | h2
    ·exact pp i j hi hj h2 p1 p2 (by rw [hlab.2, hja, e])
    ·exact pp j i hj hi h2 p2 p1 (by rw [hlab.2, hja, e])
  rw [List.Nodup, List.pairwise_map, List.pairwise_filter]
  have both := List.Pairwise.and pp ps
  refine List.Pairwise.imp_of_mem ?_ both
  intro a b ha hb hh sa sb e
  have e' := str_inj e
  unfold isSym at sa sb
  simp only [Bool.or_eq_true, decide_eq_true_eq] at sa sb
  rcases sa with sa | sa
  ·rcases sb with sb | sb
   ·exact hh.1 (by unfold place; rw [sa]; rfl) (by unfold place; rw [sb]; rfl) e'
   ·exact cross a ha b hb sa sb e'
  ·rcases sb with sb | sb
   ·exact cross b hb a ha sb sa e'.symm
   ·exact hh.2 sa sb e'
 ·omega
theorem obj_may {ts : List X.It} (hl : ts.length ≤ 20000) (hok : ∀ t ∈ ts, X.itOk t = true) (hfit : ∀ t ∈ ts, X.fitsIt t) (hN : nameE ts = 0) (hF : fits ts = true) (hS : symsOk ts = true) : (obj ts).may = true ∧ OFit (obj ts) := by
 have h := om_all hl hok hfit hS ts.length (Nat.le_refl _)
 unfold fits at hF
 simp only [Bool.and_eq_true, decide_eq_true_eq] at hF
 obtain ⟨f1, f2, f3, f4⟩ := hF
 have hnd := sym_names hN
 have e : objTo ts (ops ts) ts.length = obj ts := rfl
 rw [e] at h
 generalize obj ts = o at *
 have hc : (o.code.size : Int) = tot (ops ts) := by rw [h.c]; unfold tot; rw [ops_len]
 have hd : o.data.length = wordsN ts := by rw [h.d, List.take_length]
 have hsl : o.syms.map (·.name) = (ts.filter isSym).map fun t => X.str t.name := by rw [h.sl, List.take_length]
 have hsn : o.syms.length = symsN ts := by
  have := congrArg List.length hsl
  rw [List.length_map, List.length_map] at this
  exact this
 have hrn : o.rels.length = opensN ts ts := by rw [h.rl, List.take_length]
 rw [← hsl] at hnd
 have hpos : ∀ i, i < o.rels.length → 0 ≤ (o.rels.getD i O.noRel).pos := by
  intro i
  induction i with
  | zero => intro hi; have := (h.rk 0 hi).1; unfold O.freeAt at this; simpa using this
  | succ i ih =>
   intro hi
   have h1 := (h.rk (i + 1) hi).1
   unfold O.freeAt at h1
   rw [if_neg (by omega), Nat.add_sub_cancel] at h1
   have := ih (by omega)
   omega
 constructor
 ·unfold O.ObjD.may O.symsOk O.relsOk
  rw [decide_eq_true (show o.code.size ≤ 65536 by omega), decide_eq_true (show o.data.length ≤ 4096 by omega), decide_eq_true (show o.syms.length ≤ 1000 by omega), decide_eq_true (show o.rels.length ≤ 8000 by omega)]
  simp only [Bool.true_and]
  refine Bool.and_eq_true_iff.2 ⟨O.all_range_yes fun i hi => ?_, O.all_range_yes fun i hi => ?_⟩
  ·unfold O.symAt
   refine Bool.and_eq_true_iff.2 ⟨O.all_range_yes fun j hj => ?_, ?_⟩
   ·refine decide_eq_true fun e2 => ?_
    rw [List.Nodup, List.pairwise_map, List.pairwise_iff_getElem] at hnd
    refine hnd j i (by omega) hi hj ?_
    simpa [List.getD, hi, show j < o.syms.length by omega] using e2
   ·have hm : o.syms.getD i O.noSym ∈ o.syms := by simp [List.getD, hi]
    obtain ⟨b1, b2, b3⟩ := h.sk _ hm
    unfold O.symOk
    rw [b1, decide_eq_true b2, Bool.true_and, Bool.true_and]
    refine decide_eq_true ?_
    unfold O.roomOf
    rcases b3 with ⟨e2, e3⟩ | ⟨e2, e3⟩
    ·rw [if_neg (by omega), if_pos e2]; exact e3
    ·rw [if_pos e2, hc]; exact e3
  ·obtain ⟨a1, a2, a3, a4⟩ := h.rk i hi
   unfold O.relOk
   rw [decide_eq_true a1, a3, a4, decide_eq_true (show (o.rels.getD i O.noRel).pos ≤ (o.code.size : Int) - 4 by omega)]
   rfl
 ·refine ⟨by unfold maxLen; omega, fun n hn => (wf_i n).2 (h.df n hn), fun x hx => ?_, fun x hx => ?_⟩
  ·obtain ⟨b1, b2, b3⟩ := h.sk x hx
   unfold O.nameOk at b1
   simp only [Bool.and_eq_true, decide_eq_true_eq] at b1
   refine ⟨by unfold maxLen; omega, (wf_i _).2 (by omega), (wf_i _).2 ?_⟩
   rcases b3 with ⟨e2, e3⟩ | ⟨e2, e3⟩ <;> omega
  ·obtain ⟨i, hi, rfl⟩ := List.getElem_of_mem hx
   have hg : o.rels.getD i O.noRel = o.rels[i] := by simp [List.getD, hi]
   obtain ⟨a1, a2, a3, a4⟩ := h.rk i hi
   have hp := hpos i hi
   rw [hg] at a1 a2 a3 a4 hp
   unfold O.nameOk at a3
   simp only [Bool.and_eq_true, decide_eq_true_eq] at a3
   unfold O.addOk at a4
   refine ⟨by unfold maxLen; omega, (wf_i _).2 ?_, (wf_i _).2 (by omega), (wf_i _).2 ?_⟩
   ·split at a4
    ·omega
    ·split at a4
     ·omega
     ·cases a4
   ·split at a4
    ·simp at a4; omega
    ·split at a4
     ·simp at a4; omega
     ·cases a4
theorem asm_may {ts : List X.It} (hfit : ∀ t ∈ ts, X.fitsIt t) : OFit (asm ts).1 ∧ ((asm ts).2 = 0 → (asm ts).1.may = true) ∧ ((asm ts).2 ≠ 0 → (asm ts).1 = noObj) := by
 unfold asm
 split
 ·next hok =>
  obtain ⟨hl, hok⟩ := X.itsOk_iff.1 hok
  split
  ·next hN =>
   split
   ·next hF =>
    split
    ·next hS =>
     obtain ⟨h1, h2⟩ := obj_may hl hok hfit hN hF hS
     exact ⟨h2, fun _ => h1, fun h => absurd rfl h⟩
    ·exact ⟨OFit.no, (fun h => by simp at h), fun _ => rfl⟩
   ·exact ⟨OFit.no, (fun h => by simp at h), fun _ => rfl⟩
  ·next hN => exact ⟨OFit.no, fun h => absurd h hN, fun _ => rfl⟩
 ·exact ⟨OFit.no, (fun h => by simp at h), fun _ => rfl⟩
end Z

end Go.Proofs.YtgjingleolhkbaaGreatDoor

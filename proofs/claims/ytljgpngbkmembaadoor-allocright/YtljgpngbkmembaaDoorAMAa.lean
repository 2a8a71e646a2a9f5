/- Sets of numbers below 448, as seven words: their elements, rising; what the lowest bit is. No program in sight. -/
import Derived.Test.YtljgpngbkmembaaDoorProg
import Derived.Below
import Derived.Lib.TrailingZeros
import Derived.WalkKit
import Derived.WalkSpells
import Derived.WalkLawsBesides
import Derived.Laws.BitsAllLaws
import Derived.Maps.OwnSet
import Derived.Maps.OwnOps
import Derived.OpenShut
import Derived.StringKeys
import Derived.Deep.LoopGhost
import Derived.Deep.RegionHeld3
import Derived.Deep.CutRange
import Derived.Deep.AppendLies
import Derived.Deep.AppendSrc
namespace Go.Proofs.YtljgpngbkmembaaDoor
set_option linter.unusedVariables false
set_option linter.unusedSimpArgs false
namespace F
def mem (u : Nat → Nat) (t : Nat) : Bool := (u (t / 64)).testBit (t % 64)
def els (u : Nat → Nat) : List Int := ((List.range 448).filter (mem u)).map Int.ofNat
def bitsL (v : Nat) : List Nat := (List.range 64).filter v.testBit
def wl (u : Nat → Nat) (i : Nat) : List Int := (bitsL (u i)).map fun j => ((i * 64 + j : Nat) : Int)
def tl (u : Nat → Nat) (i : Nat) : List Int := ((List.range 7).drop i).flatMap (wl u)
theorem low_bits {x : Nat} (h0 : 0 < x) (h : x < 18446744073709551616) : Lib.ctz 64 x < 64 ∧ x.testBit (Lib.ctz 64 x) = true ∧ (∀ j, j < Lib.ctz 64 x → x.testBit j = false) ∧ ∀ j, (x &&& (x - 1)).testBit j = (x.testBit j && decide (j ≠ Lib.ctz 64 x)) := by
  obtain ⟨m, hm, hk⟩ := Lib.ctzFrom_spec 64 x h0 (by omega)
  have e : Lib.ctz 64 x = Lib.ctzFrom 64 x := by unfold Lib.ctz; rw [if_neg (by omega)]
  rw [e]
  generalize Lib.ctzFrom 64 x = c at hm hk
  have hp : 0 < 2 ^ c := Nat.two_pow_pos c
  have t1 : ∀ j, x.testBit j = (decide (c ≤ j) && (2 * m + 1).testBit (j - c)) := fun j => by rw [hm, Nat.mul_comm, Nat.testBit_mul_two_pow]
  have e1 : x - 1 = 2 ^ c * (2 * m) + (2 ^ c - 1) := by rw [hm, Nat.mul_add]; omega
  refine ⟨hk, ?_, fun j hj => ?_, fun j => ?_⟩
  · rw [t1]; simp
  · rw [t1, decide_eq_false (by omega)]; rfl
  · rw [Nat.testBit_and]
    by_cases hx : x.testBit j = true
    · rw [hx, Bool.true_and, Bool.true_and, e1, Nat.testBit_two_pow_mul_add _ (by omega)]
      have hc : c ≤ j := by
        apply Classical.byContradiction; intro hc
        rw [t1, decide_eq_false hc] at hx; cases hx
      rw [if_neg (by omega)]
      by_cases ej : j = c
      · subst ej; simp
      · obtain ⟨q, hq⟩ : ∃ q, j - c = q + 1 := ⟨j - c - 1, by omega⟩
        rw [t1, decide_eq_true hc, Bool.true_and, hq, Nat.testBit_succ, show (2 * m + 1) / 2 = m by omega] at hx
        rw [hq, Nat.testBit_succ, show 2 * m / 2 = m by omega, hx, decide_eq_true ej]
    · rw [Bool.not_eq_true] at hx
      rw [hx]; rfl
theorem filter_first {p q : Nat → Bool} {c n : Nat} (hn : c < n) (hc : p c = true) (hl : ∀ j, j < c → p j = false) (hq : ∀ j, q j = (p j && decide (j ≠ c))) : (List.range n).filter p = c :: (List.range n).filter q := by
  obtain ⟨d, rfl⟩ : ∃ d, n = c + (d + 1) := ⟨n - c - 1, by omega⟩
  rw [List.range_add, List.filter_append, List.filter_append, List.range_succ_eq_map, List.map_cons, Nat.add_zero]
  have e1 : (List.range c).filter p = [] := List.filter_eq_nil_iff.2 fun j hj => by rw [hl j (List.mem_range.1 hj)]; decide
  have e2 : (List.range c).filter q = [] := List.filter_eq_nil_iff.2 fun j hj => by rw [hq, hl j (List.mem_range.1 hj)]; simp
  rw [e1, e2, List.nil_append, List.nil_append, List.filter_cons_of_pos hc, List.filter_cons_of_neg (by rw [hq]; simp)]
  congr 1
  apply List.filter_congr
  intro j hj
  rw [hq]
  simp only [List.mem_map] at hj
  obtain ⟨a, ⟨b, -, rfl⟩, rfl⟩ := hj
  simp
theorem bitsL_zero : bitsL 0 = [] := List.filter_eq_nil_iff.2 fun j _ => by simp
theorem bitsL_cons {x : Nat} (h0 : 0 < x) (h : x < 18446744073709551616) : bitsL x = Lib.ctz 64 x :: bitsL (x &&& (x - 1)) := by
  obtain ⟨h1, h2, h3, h4⟩ := low_bits h0 h
  exact filter_first h1 h2 h3 h4
theorem range448 : List.range 448 = (List.range 7).flatMap fun i => (List.range 64).map fun j => i * 64 + j := by decide +kernel
theorem els_tl (u : Nat → Nat) : els u = tl u 0 := by
  unfold els tl wl bitsL
  rw [range448, List.drop_zero, List.filter_flatMap, List.map_flatMap]
  congr 1
  funext i
  rw [List.filter_map, List.map_map]
  have : (List.range 64).filter (mem u ∘ fun j => i * 64 + j) = (List.range 64).filter (u i).testBit := by
    apply List.filter_congr
    intro j hj
    have hj := List.mem_range.1 hj
    unfold mem
    simp only [Function.comp]
    rw [show (i * 64 + j) / 64 = i by omega, show (i * 64 + j) % 64 = j by omega]
  rw [this]
  rfl
theorem tl_succ (u : Nat → Nat) {i : Nat} (h : i < 7) : tl u i = wl u i ++ tl u (i + 1) := by
  unfold tl
  rw [List.drop_eq_getElem_cons (by simpa using h), List.flatMap_cons, List.getElem_range]
theorem tl_end (u : Nat → Nat) : tl u 7 = [] := rfl
theorem mem_els {u : Nat → Nat} {t : Int} : t ∈ els u ↔ ∃ k : Nat, t = k ∧ k < 448 ∧ mem u k = true := by
  unfold els
  simp only [List.mem_map, List.mem_filter, List.mem_range]
  constructor
  · rintro ⟨k, ⟨h1, h2⟩, rfl⟩; exact ⟨k, rfl, h1, h2⟩
  · rintro ⟨k, rfl, h1, h2⟩; exact ⟨k, ⟨h1, h2⟩, rfl⟩
/-- Lists over the numbers below n, rising, are told by what is in them. -/
theorem filter_ext {p q : Nat → Bool} {n m : Nat} (hm : m ≤ n) (h : ∀ j, j < m → p j = q j) (hp : ∀ j, m ≤ j → j < n → p j = false) : (List.range n).filter p = (List.range m).filter q := by
  obtain ⟨d, rfl⟩ : ∃ d, n = m + d := ⟨n - m, by omega⟩
  rw [List.range_add, List.filter_append]
  have e1 : ((List.range d).map fun x => m + x).filter p = [] := List.filter_eq_nil_iff.2 fun j hj => by
    simp only [List.mem_map, List.mem_range] at hj
    obtain ⟨a, ha, rfl⟩ := hj
    rw [hp _ (by omega) (by omega)]; decide
  rw [e1, List.append_nil]
  exact List.filter_congr fun j hj => h j (List.mem_range.1 hj)
/-- Sets of seven words below 2 ^ 64. -/
def Set7 (u : Nat → Nat) : Prop := ∀ j, j < 7 → u j < 18446744073709551616
theorem mem_or {u v : Nat → Nat} (t : Nat) : mem (fun j => u j ||| v j) t = (mem u t || mem v t) := by unfold mem; rw [Nat.testBit_or]
theorem or_lt {a b : Nat} (h : a < 18446744073709551616) (g : b < 18446744073709551616) : a ||| b < 18446744073709551616 := Nat.or_lt_two_pow (n := 64) h g
theorem Set7.or {u v : Nat → Nat} (h : Set7 u) (g : Set7 v) : Set7 (fun j => u j ||| v j) := fun j hj => or_lt (h j hj) (g j hj)
def zero7 : Nat → Nat := fun _ => 0
theorem Set7.zero : Set7 zero7 := fun _ _ => by unfold zero7; omega
theorem mem_zero (t : Nat) : mem zero7 t = false := by unfold mem zero7; exact Nat.zero_testBit _
/-- A number more, a number less. -/
def ins (u : Nat → Nat) (t : Nat) : Nat → Nat := fun j => if j = t / 64 then u j ||| 2 ^ (t % 64) else u j
def del (u : Nat → Nat) (t : Nat) : Nat → Nat := fun j => if j = t / 64 then u j &&& (18446744073709551615 - 2 ^ (t % 64)) else u j
theorem pow64 (t : Nat) : 2 ^ (t % 64) < 18446744073709551616 := Nat.pow_lt_pow_right (n := 64) (by decide) (Nat.mod_lt _ (by decide))
theorem Set7.ins {u : Nat → Nat} (h : Set7 u) (t : Nat) : Set7 (F.ins u t) := fun j hj => by
  unfold F.ins
  split
  · exact or_lt (h j hj) (pow64 t)
  · exact h j hj
theorem Set7.del {u : Nat → Nat} (h : Set7 u) (t : Nat) : Set7 (F.del u t) := fun j hj => by
  unfold F.del
  split
  · exact Nat.lt_of_le_of_lt Nat.and_le_left (h j hj)
  · exact h j hj
theorem mem_ins {u : Nat → Nat} (t s : Nat) : mem (ins u t) s = (mem u s || decide (s = t)) := by
  unfold mem ins
  by_cases h : s / 64 = t / 64
  · rw [if_pos h, Nat.testBit_or, Nat.testBit_two_pow]
    congr 1
    by_cases e : s = t
    · subst e; simp
    · rw [decide_eq_false e, decide_eq_false (by omega)]
  · rw [if_neg h, decide_eq_false (by intro e; subst e; exact h rfl), Bool.or_false]
theorem mem_del {u : Nat → Nat} (hu : Set7 u) (t : Nat) {s : Nat} (hs : s < 448) : mem (del u t) s = (mem u s && decide (s ≠ t)) := by
  unfold mem del
  by_cases h : s / 64 = t / 64
  · rw [if_pos h, Nat.testBit_and]
    congr 1
    have e : 18446744073709551615 - 2 ^ (t % 64) = 2 ^ 64 - (2 ^ (t % 64) + 1) := by have := pow64 t; omega
    rw [e, Nat.testBit_two_pow_sub_succ (by have := pow64 t; omega), Nat.testBit_two_pow, decide_eq_true (by omega : s % 64 < 64), Bool.true_and]
    by_cases e : s = t
    · subst e; simp
    · rw [decide_eq_true e, decide_eq_false (by omega)]; rfl
  · rw [if_neg h, decide_eq_true (by intro e; subst e; exact h rfl), Bool.and_true]
end F
end Go.Proofs.YtljgpngbkmembaaDoor

/- Functions in the intermediate form: what an operation writes, reads, what comes behind it, what may be, which temps are live. No program in sight. -/
namespace Go.Proofs.YtljgpngbkmembaaDoor
set_option linter.unusedVariables false
set_option linter.unusedSimpArgs false
namespace F
structure Op where
  op : Int
  what : Int
  nm : ByteArray
  d : Int
  a : Int
  b : Int
  n : Int
  args : List Int
  dest : Int
def noOp : Op := ⟨0, 0, { data := #[] }, 0, 0, 0, 0, [], 0⟩
structure Fn where
  name : ByteArray
  params : Int
  temps : Int
  code : List Op
/-- The temp that an operation writes, or -1. -/
def wr (o : Op) : Int := if (1 ≤ o.op ∧ o.op ≤ 4) ∨ (6 ≤ o.op ∧ o.op ≤ 8) then o.d else -1
/-- The temps that an operation reads. -/
def rd (o : Op) : List Int :=
  if o.op = 2 ∨ o.op = 12 ∨ o.op = 13 ∨ o.op = 14 then [o.a]
  else if o.op = 3 then [o.a, o.b]
  else if o.op = 4 then (if 0 ≤ o.a then [o.a] else [])
  else if o.op = 5 then (if 0 ≤ o.a then [o.a, o.b] else [o.b])
  else if o.op = 8 then [o.b]
  else if o.op = 6 then o.args
  else []
def falls (o : Op) : Bool := !(decide (o.op = 11) || (decide (o.op = 14) || (decide (o.op = 15) || decide (o.op = 16))))
def leads (o : Op) : Bool := decide (o.op = 11) || decide (o.op = 12)
/-- The places that may come behind one. -/
def nxt (o : Op) (i : Nat) : List Nat := (if falls o = true then [i + 1] else []) ++ (if leads o = true then [o.dest.toNat] else [])
def inT (T t : Int) : Bool := decide (0 ≤ t) && decide (t < T)
def orNo (T t : Int) : Bool := inT T t || decide (t = -1)
def opOk (T L : Int) (o : Op) : Bool :=
  if o.op = 1 then inT T o.d
  else if o.op = 2 then inT T o.d && inT T o.a
  else if o.op = 3 then inT T o.d && (inT T o.a && (inT T o.b && (decide (3 ≤ o.what) && decide (o.what ≤ 16))))
  else if o.op = 4 then inT T o.d && orNo T o.a
  else if o.op = 5 then inT T o.b && orNo T o.a
  else if o.op = 6 then (o.args.all (inT T)) && orNo T o.d
  else if o.op = 7 then orNo T o.d
  else if o.op = 8 then orNo T o.d && inT T o.b
  else if o.op = 9 ∨ o.op = 10 ∨ o.op = 15 then true
  else if o.op = 11 then inT L o.dest
  else if o.op = 12 then inT T o.a && inT L o.dest
  else if o.op = 13 ∨ o.op = 14 then inT T o.a
  else if o.op = 16 then decide (1 ≤ o.n) && decide (o.n ≤ 127)
  else false
def headOk (f : Fn) : Bool := decide (0 ≤ f.params) && (decide (f.params ≤ f.temps) && (decide (f.temps ≤ 400) && (decide (1 ≤ f.code.length) && decide (f.code.length ≤ 20000))))
def at_ (f : Fn) (i : Nat) : Op := f.code.getD i noOp
def mayF (f : Fn) : Bool := headOk f && ((List.range f.code.length).all (fun i => opOk f.temps f.code.length (at_ f i)) && !(falls (at_ f (f.code.length - 1))))
/-- Which temps are live ahead of a place. -/
inductive Lv (f : Fn) : Nat → Int → Prop
  | rd {i : Nat} {t : Int} : i < f.code.length → t ∈ rd (at_ f i) → Lv f i t
  | on {i j : Nat} {t : Int} : i < f.code.length → j ∈ nxt (at_ f i) i → t ≠ wr (at_ f i) → Lv f j t → Lv f i t
theorem exists_tab (f : Fn) : ∃ tab : Nat → Nat → Bool, ∀ i t, tab i t = true ↔ Lv f i t :=
  ⟨fun i t => @decide (Lv f i t) (Classical.propDecidable _), fun i t => by simp⟩
theorem inT_iff {T t : Int} : inT T t = true ↔ 0 ≤ t ∧ t < T := by
  unfold inT; rw [Bool.and_eq_true, decide_eq_true_eq, decide_eq_true_eq]
theorem orNo_iff {T t : Int} : orNo T t = true ↔ (0 ≤ t ∧ t < T) ∨ t = -1 := by
  unfold orNo; rw [Bool.or_eq_true, inT_iff, decide_eq_true_eq]
theorem all_range_yes {n : Nat} {f : Nat → Bool} (h : ∀ i, i < n → f i = true) : (List.range n).all f = true := by
  rw [List.all_eq_true]; exact fun i hi => h i (List.mem_range.1 hi)
theorem all_range_no {n i : Nat} {f : Nat → Bool} (hi : i < n) (h : f i = false) : (List.range n).all f = false := by
  rw [← Bool.not_eq_true, List.all_eq_true]
  intro h'
  have := h' i (List.mem_range.2 hi)
  rw [h] at this
  cases this
theorem may_head {f : Fn} (h : mayF f = true) : 0 ≤ f.params ∧ f.params ≤ f.temps ∧ f.temps ≤ 400 ∧ 1 ≤ f.code.length ∧ f.code.length ≤ 20000 := by
  unfold mayF headOk at h
  simp only [Bool.and_eq_true, decide_eq_true_eq] at h
  omega
theorem may_op {f : Fn} (h : mayF f = true) {i : Nat} (hi : i < f.code.length) : opOk f.temps f.code.length (at_ f i) = true := by
  unfold mayF at h
  rw [Bool.and_eq_true, Bool.and_eq_true, List.all_eq_true] at h
  exact h.2.1 i (List.mem_range.2 hi)
theorem may_last {f : Fn} (h : mayF f = true) : falls (at_ f (f.code.length - 1)) = false := by
  unfold mayF at h
  rw [Bool.and_eq_true, Bool.and_eq_true, Bool.not_eq_true'] at h
  exact h.2.2
theorem op_kind {T L : Int} {o : Op} (h : opOk T L o = true) : 1 ≤ o.op ∧ o.op ≤ 16 := by
  have hn : ∀ P : Prop, o.op < 1 ∨ 16 < o.op → opOk T L o = false := fun _ hc => by
    unfold opOk
    repeat (rw [if_neg (by omega)])
  constructor
  · apply Classical.byContradiction
    intro hc
    rw [hn True (.inl (by omega))] at h; cases h
  · apply Classical.byContradiction
    intro hc
    rw [hn True (.inr (by omega))] at h; cases h
/-- What may be reads temps alone. -/
theorem rd_in {T L : Int} {o : Op} (h : opOk T L o = true) : ∀ t ∈ rd o, 0 ≤ t ∧ t < T := by
  intro t ht
  unfold rd at ht
  unfold opOk at h
  split at ht
  · next hc =>
    rw [List.mem_singleton] at ht
    subst ht
    rcases hc with e | e | e | e <;> simp [e, inT, inT_iff] at h <;> omega
  · split at ht
    · next hc =>
      simp [hc, inT] at h
      simp at ht
      rcases ht with rfl | rfl <;> omega
    · split at ht
      · next hc =>
        simp [hc, inT, orNo] at h
        split at ht
        · simp at ht; subst ht; omega
        · cases ht
      · split at ht
        · next hc =>
          simp [hc, inT, orNo] at h
          split at ht
          · simp at ht
            rcases ht with rfl | rfl <;> omega
          · simp at ht; subst ht; omega
        · split at ht
          · next hc =>
            simp [hc, inT, orNo] at h
            simp at ht; subst ht; omega
          · split at ht
            · next hc =>
              simp [hc, orNo] at h
              exact inT_iff.1 (h.1 t ht)
            · cases ht
/-- What may be writes a temp, or none. -/
theorem wr_in {T L : Int} {o : Op} (h : opOk T L o = true) : (0 ≤ wr o ∧ wr o < T) ∨ wr o = -1 := by
  unfold wr
  split
  · next hc =>
    unfold opOk at h
    rcases (show o.op = 1 ∨ o.op = 2 ∨ o.op = 3 ∨ o.op = 4 ∨ o.op = 6 ∨ o.op = 7 ∨ o.op = 8 by omega) with e | e | e | e | e | e | e <;> simp [e, inT, orNo] at h <;> omega
  · exact .inr rfl
/-- All that comes behind a place is a place. -/
theorem nxt_in {f : Fn} (h : mayF f = true) {i : Nat} (hi : i < f.code.length) : ∀ j ∈ nxt (at_ f i) i, j < f.code.length := by
  intro j hj
  have ho := may_op h hi
  unfold nxt at hj
  rw [List.mem_append] at hj
  rcases hj with hj | hj
  · split at hj
    · next hf =>
      rw [List.mem_singleton] at hj
      subst hj
      apply Classical.byContradiction
      intro hc
      have e : i = f.code.length - 1 := by omega
      have := may_last h
      rw [← e, hf] at this
      cases this
    · cases hj
  · split at hj
    · next hl =>
      rw [List.mem_singleton] at hj
      subst hj
      unfold leads at hl
      unfold opOk at ho
      rw [Bool.or_eq_true, decide_eq_true_eq, decide_eq_true_eq] at hl
      rcases hl with e | e <;> simp [e, inT] at ho <;> omega
    · cases hj
theorem Lv.at {f : Fn} {i : Nat} {t : Int} (h : Lv f i t) : i < f.code.length := by
  cases h with
  | rd hi _ => exact hi
  | on hi _ _ _ => exact hi
theorem Lv.temp {f : Fn} (hm : mayF f = true) {i : Nat} {t : Int} (h : Lv f i t) : 0 ≤ t ∧ t < f.temps := by
  induction h with
  | rd hi ht => exact rd_in (may_op hm hi) _ ht
  | on hi hj hw hl ih => exact ih
/-- What holds of all that is read, and goes on from behind, holds of all that is live. -/
theorem Lv.within {f : Fn} {m : Nat → Int → Prop} (h1 : ∀ i t, i < f.code.length → t ∈ F.rd (at_ f i) → m i t) (h2 : ∀ i j t, i < f.code.length → j ∈ nxt (at_ f i) i → t ≠ wr (at_ f i) → m j t → m i t) {i : Nat} {t : Int} (h : Lv f i t) : m i t := by
  induction h with
  | rd hi ht => exact h1 _ _ hi ht
  | on hi hj hw hl ih => exact h2 _ _ _ hi hj hw ih
end F
end Go.Proofs.YtljgpngbkmembaaDoor

/- Sets put together; what is live ahead of an operation. No program in sight. -/
namespace Go.Proofs.YtljgpngbkmembaaDoor
set_option linter.unusedVariables false
set_option linter.unusedSimpArgs false
/-- All that is in any of some sets. -/
def F.orAll (U : Nat → Nat → Nat) (js : List Nat) : Nat → Nat := js.foldl (fun u j q => u q ||| U j q) F.zero7
theorem F.orAll_take (U : Nat → Nat → Nat) (js : List Nat) {k j : Nat} (h : js[k]? = some j) : F.orAll U (js.take (k + 1)) = fun q => F.orAll U (js.take k) q ||| U j q := by
  unfold F.orAll
  rw [List.take_add_one, h, List.foldl_append]
  rfl
theorem F.orAll_set7 {U : Nat → Nat → Nat} {js : List Nat} (h : ∀ j ∈ js, F.Set7 (U j)) : F.Set7 (F.orAll U js) := by
  unfold F.orAll
  have : ∀ (js : List Nat) (u : Nat → Nat), (∀ j ∈ js, F.Set7 (U j)) → F.Set7 u → F.Set7 (js.foldl (fun u j q => u q ||| U j q) u) := by
    intro js
    induction js with
    | nil => exact fun u _ hu => hu
    | cons j js ih => exact fun u hj hu => ih _ (fun i hi => hj i (List.mem_cons_of_mem _ hi)) (hu.or (hj j List.mem_cons_self))
  exact this js _ h F.Set7.zero
theorem F.mem_orAll {U : Nat → Nat → Nat} (js : List Nat) (t : Nat) : F.mem (F.orAll U js) t = js.any fun j => F.mem (U j) t := by
  unfold F.orAll
  have : ∀ (js : List Nat) (u : Nat → Nat), F.mem (js.foldl (fun u j q => u q ||| U j q) u) t = (F.mem u t || js.any fun j => F.mem (U j) t) := by
    intro js
    induction js with
    | nil => intro u; simp
    | cons j js ih => intro u; rw [List.foldl_cons, ih, F.mem_or, List.any_cons, Bool.or_assoc]
  rw [this, F.mem_zero, Bool.false_or]
namespace F
def insAll (u : Nat → Nat) (l : List Int) : Nat → Nat := l.foldl (fun u t => ins u t.toNat) u
theorem insAll_take (u : Nat → Nat) (l : List Int) {k : Nat} {t : Int} (h : l[k]? = some t) : insAll u (l.take (k + 1)) = ins (insAll u (l.take k)) t.toNat := by
  unfold insAll
  rw [List.take_add_one, h, List.foldl_append]
  rfl
theorem insAll_set7 {u : Nat → Nat} (hu : Set7 u) (l : List Int) : Set7 (insAll u l) := by
  unfold insAll
  induction l generalizing u with
  | nil => exact hu
  | cons t l ih => exact ih (hu.ins _)
theorem mem_insAll {u : Nat → Nat} (l : List Int) (s : Nat) : mem (insAll u l) s = (mem u s || l.any fun t => decide (s = t.toNat)) := by
  unfold insAll
  induction l generalizing u with
  | nil => simp
  | cons t l ih => rw [List.foldl_cons, ih, mem_ins, List.any_cons, Bool.or_assoc]
/-- What is live ahead of an operation, of what is live behind it. -/
def aheadS (x : Op) (u : Nat → Nat) : Nat → Nat := insAll (if wr x = -1 then u else del u (wr x).toNat) (rd x)
theorem aheadS_set7 {x : Op} {u : Nat → Nat} (hu : Set7 u) : Set7 (aheadS x u) := by
  unfold aheadS
  apply insAll_set7
  split
  · exact hu
  · exact hu.del _
end F
end Go.Proofs.YtljgpngbkmembaaDoor

/- Operations and functions, as they lie. -/
namespace Go.Proofs.YtljgpngbkmembaaDoor
open Go.RowKit Go.Maps
set_option linter.unusedVariables false
set_option linter.unusedSimpArgs false
theorem tA {l : List Oper} {i : Nat} {y : Oper} (h : l[i]? = some y) : (List.toArray l)[i]? = some y := by simpa using h
theorem bl1 (w : World) (o : Obj) : Below w.heap.size w (w.alloc o) := (Below.refl _ _).alloc (Nat.le_refl _) _
theorem cell_thru {W y : World} (hb : Below W.heap.size W y) {p : Addr} {u : Value} (h : W.cell? p = some u) : y.cell? p = some u := (hb.cell (World.block_lt_of_cell? W p h)).trans h
theorem ncell_at {w : World} {cs : Array Value} {t : TypeId} {j : Nat} {u : Value} (h : cs[j]? = some u) : (w.alloc (.cells cs t)).cell? ⟨w.heap.size, j, none⟩ = some u := by simp [h]
theorem lt_of_cell {W : World} {b o : Nat} {v : Value} (h : W.cell? ⟨b, o, none⟩ = some v) : b < W.heap.size := World.block_lt_of_cell? W ⟨b, o, none⟩ h
/-- All cells of one world are so in another one. -/
def Sub (W y : World) : Prop := ∀ b o v, W.cell? ⟨b, o, none⟩ = some v → y.cell? ⟨b, o, none⟩ = some v
theorem below_sub {W y : World} (h : Below W.heap.size W y) : Sub W y := fun b o v hc => cell_thru h hc
theorem Sub.refl (W : World) : Sub W W := fun _ _ _ h => h
theorem Sub.trans {W y z : World} (h : Sub W y) (h2 : Sub y z) : Sub W z := fun b o v hc => h2 b o v (h b o v hc)
theorem Sub.drew (W : World) : Sub W W.drew := fun b o v hc => by rw [World.cell?_drew]; exact hc
/-- Numbers, as they lie. -/
structure NumV (w : World) (a : Option Addr) (l c : Nat) (zs : List Int) : Prop where
  count : zs.length = l
  fits : ∀ n ∈ zs, (Lit.int .i64 n).wf = true
  nilOf : a = none → l = 0 ∧ c = 0
  room : l ≤ c ∧ c ≤ maxLen
  cells : l = 0 ∨ ∃ b off, a = some ⟨b, off, none⟩ ∧ ∀ i, i < l → w.cell? ⟨b, off + i, none⟩ = some (.int .i64 (zs.getD i 0))
theorem NumV.sub {w y : World} {a : Option Addr} {l c : Nat} {zs : List Int} (h : NumV w a l c zs) (hs : Sub w y) : NumV y a l c zs :=
  ⟨h.count, h.fits, h.nilOf, h.room, h.cells.imp id fun ⟨b, off, e, hc⟩ => ⟨b, off, e, fun i hi => hs _ _ _ (hc i hi)⟩⟩
theorem NumV.below {w y : World} {a : Option Addr} {l c : Nat} {zs : List Int} (h : NumV w a l c zs) (hb : Below w.heap.size w y) : NumV y a l c zs := h.sub (below_sub hb)
theorem NumV.at {w : World} {a : Option Addr} {l c : Nat} {zs : List Int} (h : NumV w a l c zs) {i : Nat} (hi : i < l) : ∃ b off, a = some ⟨b, off, none⟩ ∧ w.cell? ⟨b, off + i, none⟩ = some (.int .i64 (zs.getD i 0)) := by
  rcases h.cells with h0 | ⟨b, off, e, hc⟩
  · omega
  · exact ⟨b, off, e, hc i hi⟩
theorem NumV.nil (w : World) : NumV w none 0 0 [] := ⟨rfl, by simp, fun _ => ⟨rfl, rfl⟩, ⟨Nat.le_refl _, Nat.zero_le _⟩, .inl rfl⟩
/-- Which numbers an operation has room for. -/
def OpFit (x : F.Op) : Prop := (Lit.int .i64 x.op).wf = true ∧ (Lit.int .i64 x.what).wf = true ∧ x.nm.size ≤ maxLen ∧ (Lit.int .i64 x.d).wf = true ∧ (Lit.int .i64 x.a).wf = true ∧ (Lit.int .i64 x.b).wf = true ∧ (Lit.int .i64 x.n).wf = true ∧ (Lit.int .i64 x.dest).wf = true
/-- An operation's list of temps. -/
structure Ar where
  a : Option Addr
  l : Nat
  c : Nat
def opV (x : F.Op) (r : Ar) : Value := .agg #[.int .i64 x.op, .int .i64 x.what, .string x.nm, .int .i64 x.d, .int .i64 x.a, .int .i64 x.b, .int .i64 x.n, .slice r.a r.l r.c, .int .i64 x.dest]
def opC (x : F.Op) (r : Ar) : List Value := [.int .i64 x.op, .int .i64 x.what, .string x.nm, .int .i64 x.d, .int .i64 x.a, .int .i64 x.b, .int .i64 x.n, .slice r.a r.l r.c, .int .i64 x.dest]
/-- An operation, cell by cell, at a place. -/
def OpAt (w : World) (b o : Nat) (x : F.Op) (r : Ar) : Prop := w.cell? ⟨b, o, none⟩ = some (.int .i64 x.op) ∧ w.cell? ⟨b, o + 1, none⟩ = some (.int .i64 x.what) ∧ w.cell? ⟨b, o + 2, none⟩ = some (.string x.nm) ∧ w.cell? ⟨b, o + 3, none⟩ = some (.int .i64 x.d) ∧ w.cell? ⟨b, o + 4, none⟩ = some (.int .i64 x.a) ∧ w.cell? ⟨b, o + 5, none⟩ = some (.int .i64 x.b) ∧ w.cell? ⟨b, o + 6, none⟩ = some (.int .i64 x.n) ∧ w.cell? ⟨b, o + 7, none⟩ = some (.slice r.a r.l r.c) ∧ w.cell? ⟨b, o + 8, none⟩ = some (.int .i64 x.dest)
theorem OpAt.sub {w y : World} {b o : Nat} {x : F.Op} {r : Ar} (h : OpAt w b o x r) (hs : Sub w y) : OpAt y b o x r := by
  obtain ⟨h0, h1, h2, h3, h4, h5, h6, h7, h8⟩ := h
  exact ⟨hs _ _ _ h0, hs _ _ _ h1, hs _ _ _ h2, hs _ _ _ h3, hs _ _ _ h4, hs _ _ _ h5, hs _ _ _ h6, hs _ _ _ h7, hs _ _ _ h8⟩
structure OpsV (w : World) (a : Option Addr) (l c : Nat) (xs : List F.Op) : Prop where
  count : xs.length = l
  fits : ∀ x ∈ xs, OpFit x
  nilOf : a = none → l = 0 ∧ c = 0
  room : l ≤ c ∧ c ≤ maxLen
  cells : l = 0 ∨ ∃ b off, a = some ⟨b, off, none⟩ ∧ ∀ i, i < l → ∃ r : Ar, OpAt w b (off + i * 9) (xs.getD i F.noOp) r ∧ NumV w r.a r.l r.c (xs.getD i F.noOp).args
theorem OpsV.sub {w y : World} {a : Option Addr} {l c : Nat} {xs : List F.Op} (h : OpsV w a l c xs) (hs : Sub w y) : OpsV y a l c xs :=
  ⟨h.count, h.fits, h.nilOf, h.room, h.cells.imp id fun ⟨b, off, e, hc⟩ => ⟨b, off, e, fun i hi => by
    obtain ⟨r, h1, h2⟩ := hc i hi
    exact ⟨r, h1.sub hs, h2.sub hs⟩⟩⟩
theorem OpsV.below {w y : World} {a : Option Addr} {l c : Nat} {xs : List F.Op} (h : OpsV w a l c xs) (hb : Below w.heap.size w y) : OpsV y a l c xs := h.sub (below_sub hb)
theorem OpsV.at {w : World} {a : Option Addr} {l c : Nat} {xs : List F.Op} (h : OpsV w a l c xs) {i : Nat} (hi : i < l) : ∃ b off r, a = some ⟨b, off, none⟩ ∧ OpAt w b (off + i * 9) (xs.getD i F.noOp) r ∧ NumV w r.a r.l r.c (xs.getD i F.noOp).args := by
  rcases h.cells with h0 | ⟨b, off, e, hc⟩
  · omega
  · obtain ⟨r, h1, h2⟩ := hc i hi
    exact ⟨b, off, r, e, h1, h2⟩
theorem OpsV.fit {w : World} {a : Option Addr} {l c : Nat} {xs : List F.Op} (h : OpsV w a l c xs) {i : Nat} (hi : i < l) : OpFit (xs.getD i F.noOp) := h.fits _ (by simp [List.getD, show i < xs.length by rw [h.count]; exact hi])
/-- A function, as it is handed over. -/
def fnV (f : F.Fn) (a : Option Addr) (l c : Nat) : Value := .agg #[.string f.name, .int .i64 f.params, .int .i64 f.temps, .slice a l c]
end Go.Proofs.YtljgpngbkmembaaDoor

/- The document's small calls of layer 21. -/
namespace Go.Proofs.YtljgpngbkmembaaDoor
open Go.RowKit Go.Maps
set_option linter.unusedVariables false
set_option linter.unusedSimpArgs false
theorem ainfo {P : Program} {t : TypeId} {z : Option Value} {k m : Nat} (h : (P.info? t).map (fun i => (i.zero, i.size, i.bytes)) = some (z, k, m)) : ∃ i, P.info? t = some i ∧ i.zero = z ∧ i.size = k ∧ i.bytes = m := by
  cases hi : P.info? t with
  | none => rw [hi] at h; cases h
  | some i =>
    rw [hi] at h
    simp only [Option.map_some, Option.some.injEq, Prod.mk.injEq] at h
    exact ⟨i, rfl, h⟩
theorem infoN : (Tryd.prog.info? 3).map (fun i => (i.zero, i.size, i.bytes)) = some (some (.int .i64 0), 1, 8) := by kernel_rfl
def iV (n : Int) : Value := .int .i64 n
theorem row_room {w : World} {B : Nat} {e : TypeId} {k n c : Nat} {a : Option Addr} {cs : List Value} (h : w.ownsRow B e k (.slice a n c) n cs) : n ≤ c ∧ c ≤ maxLen := by
  rcases h.2 with ⟨e1, e2⟩ | ⟨g, cap, cur, e1, hb, hg, h1, h2, -⟩
  · simp only [Value.slice.injEq] at e1
    unfold maxLen
    omega
  · simp only [Value.slice.injEq] at e1
    obtain ⟨-, -, rfl⟩ := e1
    exact ⟨h1, h2⟩
theorem num_of_row {w : World} {B : Nat} {a : Option Addr} {n c : Nat} {zs : List Int} (h : w.ownsRow B 3 1 (.slice a n c) n (zs.map iV)) (hn : zs.length = n) (hf : ∀ z ∈ zs, (Lit.int .i64 z).wf = true) : NumV w a n c zs := by
  have hrm := row_room h
  rcases h.2 with ⟨e1, e2⟩ | ⟨g, cap, cur, e1, -⟩
  · simp only [Value.slice.injEq] at e1
    obtain ⟨rfl, h0, rfl⟩ := e1
    exact ⟨hn, hf, fun _ => ⟨h0, rfl⟩, hrm, .inl h0⟩
  · simp only [Value.slice.injEq] at e1
    obtain ⟨rfl, -, rfl⟩ := e1
    refine ⟨hn, hf, fun e => (by cases e), hrm, .inr ⟨g, 0, rfl, fun i hi => ?_⟩⟩
    have hi' : i < zs.length := by omega
    rw [Nat.zero_add, h.cellAt i (by omega), List.getElem?_map]
    simp [List.getD, hi', iV]
theorem grown_below {w w1 : World} {B : Nat} {ob : Option Nat} (h : w.grownBy w1 ob) (hob : ∀ g, ob = some g → B ≤ g) (hB : B ≤ w.heap.size) : Below B w w1 :=
  ⟨h.os, h.tape, h.output, h.size, fun i hi => h.block i (by omega) (fun e => by have := hob i e.symm; omega)⟩
set_option maxRecDepth 100000 in
theorem rWrites_any (x : F.Op) (r : Ar) (w : World) : Calls Tryd.prog 33 #[opV x r] w fun e w' => e = .returned (.int .i64 (F.wr x)) ∧ Below w.heap.size w w' := by
  have HR : Hid (F.wr x = if (1 ≤ x.op ∧ x.op ≤ 4) ∨ (6 ≤ x.op ∧ x.op ≤ 8) then x.d else -1) := rfl
  obtain ⟨R, hR⟩ : ∃ R, F.wr x = R := ⟨_, rfl⟩
  rw [hR] at HR ⊢
  clear hR
  obtain ⟨op, what, nm, d, a, b, n, args, dest⟩ := x
  obtain ⟨ra, rl, rc⟩ := r
  unfold opV
  simp only at HR ⊢
  by_cases h1 : 1 ≤ op
  · by_cases h2 : op ≤ 4
    · have HV : R = d := by rw [HR.out, if_pos (.inl ⟨h1, h2⟩)]
      subst HV
      go_enter Tryd.func33, Tryd.ntmps33
      go_wp2
      go_ret
      exact ⟨rfl, bl1 _ _⟩
    · by_cases h3 : 6 ≤ op
      · by_cases h4 : op ≤ 8
        · have HV : R = d := by rw [HR.out, if_pos (.inr ⟨h3, h4⟩)]
          subst HV
          go_enter Tryd.func33, Tryd.ntmps33
          go_wp2
          go_ret
          exact ⟨rfl, bl1 _ _⟩
        · have HV : R = -1 := by rw [HR.out, if_neg (by omega)]
          subst HV
          go_enter Tryd.func33, Tryd.ntmps33
          go_wp2
          go_ret
          exact ⟨rfl, bl1 _ _⟩
      · have HV : R = -1 := by rw [HR.out, if_neg (by omega)]
        subst HV
        go_enter Tryd.func33, Tryd.ntmps33
        go_wp2
        go_ret
        exact ⟨rfl, bl1 _ _⟩
  · have HV : R = -1 := by rw [HR.out, if_neg (by omega)]
    subst HV
    have h3 : ¬ 6 ≤ op := by omega
    go_enter Tryd.func33, Tryd.ntmps33
    go_wp2
    go_ret
    exact ⟨rfl, bl1 _ _⟩
set_option maxRecDepth 100000 in
theorem rhas_any {w : World} {a : Option Addr} {l c : Nat} {zs : List Int} (h : NumV w a l c zs) (t : Int) : Calls Tryd.prog 34 #[.slice a l c, .int .i64 t] w fun e w' => e = .returned (.bool (decide (t ∈ zs))) ∧ w' = w := by
  have HV : Hid (NumV w a l c zs) := h
  have HC : Hid (zs.length = l) := h.count
  have hm := h.room
  have hmax : maxLen = 9223372036854775807 := rfl
  obtain ⟨R, hR⟩ : ∃ R, decide (t ∈ zs) = R := ⟨_, rfl⟩
  have HR : Hid (decide (t ∈ zs) = R) := hR
  rw [hR]
  clear h hR
  go_enter Tryd.func34, Tryd.ntmps34
  go_wp2_with fail
  go_loopg [5] l (fun r iv wq => ∃ (k : Nat), r = l - k ∧ iv = .int .i64 k ∧ k ≤ l ∧ wq = w ∧ Hid (∀ i, i < k → ¬ zs.getD i 0 = t))
  case atStart => exact ⟨0, rfl, rfl, Nat.zero_le _, rfl, (fun i hi => by omega : ∀ i, i < 0 → ¬ zs.getD i 0 = t)⟩
  case round =>
    obtain ⟨k, rfl, rfl, hk, hwr, HAL⟩ := hrel
    subst hwr
    by_cases hlt : k < l
    · have hii : (k : Int) < l := by omega
      have hin : 0 ≤ (k : Int) := by omega
      obtain ⟨b, off, hab, ck⟩ := HV.out.at hlt
      subst hab
      have HMEM : Hid (zs.getD k 0 ∈ zs) := by
        show _ ∈ _
        have : k < zs.length := by rw [HC.out]; exact hlt
        simp [List.getD, this]
      obtain ⟨z, hz⟩ : ∃ z, zs.getD k 0 = z := ⟨_, rfl⟩
      have HZ : Hid (zs.getD k 0 = z) := hz
      rw [hz] at ck HMEM
      clear hz
      by_cases hzt : z = t
      · have HRT : R = true := by rw [← HR.out, ← hzt]; simpa using HMEM.out
        subst HRT
        have e1 : (z == t) = true := by simpa using hzt
        clear hzt
        go_wp2_with fail
        go_ret
        exact ⟨rfl, rfl⟩
      · have HN : Hid (∀ i, i < k + 1 → ¬ zs.getD i 0 = t) := fun i hi => by
          by_cases e : i = k
          · subst e; rw [HZ.out]; exact hzt
          · exact HAL.out i (by omega)
        have e1 : (z == t) = false := by simpa using hzt
        clear hzt
        go_wp2_with fail
        go_roundg (l - (k + 1))
        case measure => omega
        case rel => exact ⟨k + 1, rfl, by go_num, by omega, rfl, HN⟩
    · have hkl : k = l := by omega
      subst hkl
      have hii : ¬ (k : Int) < k := by omega
      have HRF : R = false := by
        rw [← HR.out, decide_eq_false_iff_not]
        intro hmem
        obtain ⟨i, hi, e⟩ := List.mem_iff_getElem.1 hmem
        have := HAL.out i (by rw [← HC.out]; exact hi)
        simp [List.getD, hi] at this
        exact this e
      subst HRF
      go_wp2_with fail
      go_ret
      exact ⟨rfl, rfl⟩
end Go.Proofs.YtljgpngbkmembaaDoor

/- A whole list appended onto nil. (Out of AtRow.) -/
namespace Go.Proofs.YtljgpngbkmembaaDoor
open Go.RowKit Go.Maps
set_option linter.unusedVariables false
set_option linter.unusedSimpArgs false
theorem run_append_copy (w : World) (t e : TypeId) (i0 : TypeInfo) (z : Value) (size bytes : Nat) (ht : Tryd.prog.underlying t = some (.slice e)) (hi : Tryd.prog.info? e = some i0) (hz : i0.zero = some z) (hsize : i0.size = size) (hby : i0.bytes = bytes) (hzs : z.cells.size = size) (hsz : 0 < size)
    {a : Option Addr} {l c : Nat} {cs : List Value} (hnil : a = none → l = 0 ∧ c = 0) (hlen : cs.length = l * size) (hcells : ∀ ad, a = some ad → ∀ j u, cs[j]? = some u → w.cell? (ad.add j) = some u) (h1 : ∀ u ∈ cs, u.oneCell' = true) (hb : l * bytes ≤ 140737488355328) (hm : l ≤ 140737488355328) (ty : TypeId) :
    ∃ a' c' w', (Builtin.append_ #[t, t] ty #[.slice none 0 0, .slice a l c]).run Tryd.prog w = .ok (.slice a' l c') w' ∧ w'.ownsRow w.heap.size e size (.slice a' l c') l cs ∧ Below w.heap.size w w' := by
  have key : ∃ v' w', (Builtin.append_ #[t, t] ty #[.slice none 0 0, .slice a l c]).run Tryd.prog w = .ok v' w' ∧ w'.ownsRow w.heap.size e size v' l cs ∧ Below w.heap.size w w' := by
    cases a with
    | none =>
      obtain ⟨rfl, rfl⟩ := hnil rfl
      obtain rfl : cs = [] := List.eq_nil_of_length_eq_zero (by simpa using hlen)
      exact ⟨_, _, run_append_owned_none (P := Tryd.prog) w w.heap.size t ty e i0 size ht hi (.slice none 0 0) 0 [] (World.ownsRow_nil _ _ _ _), World.ownsRow_nil _ _ _ _, Below.refl _ _⟩
    | some ad =>
      obtain ⟨v', w', hr, ho, hg, -, -⟩ := run_append_own_at (P := Tryd.prog) w w.heap.size t ty e i0 z size bytes ht hi hz hsize hby hzs hsz (.slice none 0 0) 0 [] (World.ownsRow_nil _ _ _ _) ad l c cs hlen (hcells ad rfl) h1 (by unfold maxLen; omega) (by simpa using hb) (Nat.le_refl _)
      exact ⟨v', w', hr, by simpa using ho, (Below.refl _ _).grown hg (Nat.le_refl _) (by intro k hk; cases hk)⟩
  obtain ⟨v', w', hr, ho, hbl⟩ := key
  rcases ho.2 with ⟨rfl, rfl⟩ | ⟨g, cap, cur, rfl, -⟩
  · exact ⟨_, _, _, hr, ho, hbl⟩
  · exact ⟨_, _, _, hr, ho, hbl⟩
theorem wpList_append_copy {ops : Array Oper} {rest : List Oper} {o : Oper} {ac : Act} {w : World} {Q : Exit → Act → World → Prop} (hgd : o.guard = none) (s x : Operand) (t : TypeId)
    (ho : o.op = .call { callee := .builtin .append, args := #[s, x], argTypes := #[t, t] }) (e : TypeId) (i0 : TypeInfo) (z : Value) (size bytes : Nat) (ht : Tryd.prog.underlying t = some (.slice e)) (hi : Tryd.prog.info? e = some i0) (hz : i0.zero = some z) (hsize : i0.size = size) (hby : i0.bytes = bytes) (hzs : z.cells.size = size) (hsz : 0 < size)
    {a : Option Addr} {l c : Nat} {cs : List Value} (hs : ac.eval s = .slice none 0 0) (hx : ac.eval x = .slice a l c) (hnil : a = none → l = 0 ∧ c = 0) (hlen : cs.length = l * size) (hcells : ∀ ad, a = some ad → ∀ j u, cs[j]? = some u → w.cell? (ad.add j) = some u) (h1 : ∀ u ∈ cs, u.oneCell' = true) (hb : l * bytes ≤ 140737488355328) (hm : l ≤ 140737488355328)
    (hk : ∀ a' c' w', w'.ownsRow w.heap.size e size (.slice a' l c') l cs → Below w.heap.size w w' → wpList Tryd.prog ops Q rest (ac.put o.dst (.slice a' l c')) w') : wpList Tryd.prog ops Q (o :: rest) ac w := by
  refine wpList_plain hgd fun K hK => ?_
  obtain ⟨a', c', w', hr, h2, h3⟩ := run_append_copy w t e i0 z size bytes ht hi hz hsize hby hzs hsz hnil hlen hcells h1 hb hm o.type
  unfold Oper.wp execOp
  simp only [ho, resolve, invoke, builtin, Sem.run_bind, Sem.run_pure, Result.andThen_ok, List.map_toArray, List.map_cons, List.map_nil, hs, hx, hr]
  exact hK _ _ (hk a' c' w' h2 h3)

theorem row_below {w w1 : World} {B : Nat} {ty : TypeId} {k : Nat} {u : Value} {n : Nat} {cs : List Value} (hu : w.ownsRow B ty k u n cs) (hb : Below w.heap.size w w1) : w1.ownsRow B ty k u n cs :=
  hu.kept (row := none) ⟨hb.os, hb.tape, hb.output, hb.size, fun i hi _ => hb.block i hi⟩ (by
    rcases hu.2 with ⟨e, -⟩ | ⟨g, cap, cur, e, -⟩
    · exact .inl (by rw [e]; rfl)
    · exact .inr (by rw [e]; simp [Value.ownBlock]))
theorem NumV.src {w : World} {a : Option Addr} {l c : Nat} {zs : List Int} (h : NumV w a l c zs) : (zs.map iV).length = l * 1 ∧ (∀ ad, a = some ad → ∀ j u, (zs.map iV)[j]? = some u → w.cell? (ad.add j) = some u) ∧ ∀ u ∈ zs.map iV, u.oneCell' = true := by
  have hl := h.count
  refine ⟨by rw [List.length_map, hl, Nat.mul_one], fun ad e j u hu => ?_, fun u hu => ?_⟩
  · have hj : j < l := by
      have := (List.getElem?_eq_some_iff.1 hu).1
      rw [List.length_map, hl] at this
      exact this
    obtain ⟨b, off, e2, hc⟩ := h.at hj
    rw [e] at e2
    cases e2
    rw [List.getElem?_map] at hu
    simp only [Addr.add_lit]
    rw [hc, ← hu]
    simp [List.getD, show j < zs.length by omega, iV]
  · obtain ⟨b, -, rfl⟩ := List.mem_map.1 hu
    rfl
end Go.Proofs.YtljgpngbkmembaaDoor

/- The document's Reads and behind. -/
namespace Go.Proofs.YtljgpngbkmembaaDoor
open Go.RowKit Go.Maps
set_option linter.unusedVariables false
set_option linter.unusedSimpArgs false
def RdOut (w : World) (zs : List Int) (e : Ending) (w' : World) : Prop := ∃ a c, e = .returned (.slice a zs.length c) ∧ NumV w' a zs.length c zs ∧ Below w.heap.size w w' ∧ ∀ p, a = some p → w.heap.size ≤ p.block
set_option maxRecDepth 100000 in
set_option maxHeartbeats 4000000 in
theorem rReads_any {w : World} (x : F.Op) (r : Ar) (hx : OpFit x) (ha : NumV w r.a r.l r.c x.args) (hsz : x.args.length * 8 ≤ 140737488355328) : Calls Tryd.prog 45 #[opV x r] w (RdOut w (F.rd x)) := by
  obtain ⟨ii, hii, hz0, hz1, hz2⟩ := ainfo infoN
  have hmax : maxLen = 9223372036854775807 := rfl
  obtain ⟨R, hR⟩ : ∃ R, F.rd x = R := ⟨_, rfl⟩
  have HR : Hid (R = F.rd x) := hR.symm
  rw [hR]
  have HF : Hid (OpFit x) := hx
  have HA : Hid (NumV w r.a r.l r.c x.args) := ha
  clear hR hx ha
  obtain ⟨op, what, nm, d, a, b, n, args, dest⟩ := x
  obtain ⟨ra, rl, rc⟩ := r
  unfold opV
  simp only at HR HA hsz ⊢
  by_cases h2 : op = 2
  · subst h2
    have HVR : R = [a] := by rw [HR.out]; simp [F.rd]
    subst HVR
    go_enter Tryd.func45, Tryd.ntmps45
    have HN1 : Hid (∀ (j : Nat) u, ([.int .i64 a] : List Value)[j]? = some u → ((w.alloc (.cells #[.int .i64 2, .int .i64 what, .string nm, .int .i64 d, .int .i64 a, .int .i64 b, .int .i64 n, .slice ra rl rc, .int .i64 dest] 46)).alloc (.cells #[.int .i64 a] 3)).cell? ((⟨w.heap.size + 1, 0, none⟩ : Addr).add j) = some u) := by
      intro j u hu
      rw [Addr.add_lit, Nat.zero_add]
      have hsz : w.heap.size + 1 = (w.alloc (.cells #[.int .i64 2, .int .i64 what, .string nm, .int .i64 d, .int .i64 a, .int .i64 b, .int .i64 n, .slice ra rl rc, .int .i64 dest] 46)).heap.size := by simp
      rw [hsz]
      exact ncell_at (by simpa using hu)
    have HRW1 : Hid (((w.alloc (.cells #[.int .i64 2, .int .i64 what, .string nm, .int .i64 d, .int .i64 a, .int .i64 b, .int .i64 n, .slice ra rl rc, .int .i64 dest] 46)).alloc (.cells #[.int .i64 a] 3)).ownsRow w.heap.size 3 1 (.slice none 0 0) 0 []) := World.ownsRow_nil _ _ _ _
    have HBS1 : Hid (w.heap.size ≤ ((w.alloc (.cells #[.int .i64 2, .int .i64 what, .string nm, .int .i64 d, .int .i64 a, .int .i64 b, .int .i64 n, .slice ra rl rc, .int .i64 dest] 46)).alloc (.cells #[.int .i64 a] 3)).heap.size) := by show _ ≤ _; rw [World.size_alloc]; simp; omega
    go_wp2_with (first | (at_builtin; refine wpList_append_lies _ rfl _ _ 30 rfl w.heap.size 3 ii _ 1 8 Tryd.underlying30 hii hz0 hz1 hz2 rfl (by decide) (.slice none 0 0) 0 [] rfl HRW1.out _ 1 1 [.int .i64 a] rfl rfl HN1.out (by intro u hu; simp at hu; first | (subst hu; rfl) | (rcases hu with rfl | rfl <;> rfl)) (by decide) (by omega) (by omega) HBS1.out _ rfl ?_) | fail)
    intro g1 c1 w1 ho1 hg1 hat1 hlt1
    have HB1 : Hid (Below w.heap.size w w1) := (((bl1 w _).trans ((bl1 _ _).mono (by simp))).trans (grown_below hg1 (B := w.heap.size) (fun g e => by cases e) (by simp; omega)))
    have HO1 : Hid (w1.ownsRow w.heap.size 3 1 (.slice (some ⟨g1, 0, none⟩) 1 c1) 1 (([a] : List Int).map iV)) := by
      show World.ownsRow _ _ _ _ _ _ _
      simpa [iV] using ho1
    clear ho1 hg1 hat1 hlt1 HN1 HRW1 HBS1
    go_wp2_with fail
    go_ret
    exact (⟨some ⟨g1, 0, none⟩, c1, rfl, num_of_row HO1.out rfl (by simp; exact HF.out.2.2.2.2.1), HB1.out, fun p hp => (HO1.out.lt p.block (by cases hp; rfl)).1⟩ : RdOut w [a] _ _)
  by_cases h12 : op = 12
  · subst h12
    have HVR : R = [a] := by rw [HR.out]; simp [F.rd]
    subst HVR
    go_enter Tryd.func45, Tryd.ntmps45
    have HN1 : Hid (∀ (j : Nat) u, ([.int .i64 a] : List Value)[j]? = some u → ((w.alloc (.cells #[.int .i64 12, .int .i64 what, .string nm, .int .i64 d, .int .i64 a, .int .i64 b, .int .i64 n, .slice ra rl rc, .int .i64 dest] 46)).alloc (.cells #[.int .i64 a] 3)).cell? ((⟨w.heap.size + 1, 0, none⟩ : Addr).add j) = some u) := by
      intro j u hu
      rw [Addr.add_lit, Nat.zero_add]
      have hsz : w.heap.size + 1 = (w.alloc (.cells #[.int .i64 12, .int .i64 what, .string nm, .int .i64 d, .int .i64 a, .int .i64 b, .int .i64 n, .slice ra rl rc, .int .i64 dest] 46)).heap.size := by simp
      rw [hsz]
      exact ncell_at (by simpa using hu)
    have HRW1 : Hid (((w.alloc (.cells #[.int .i64 12, .int .i64 what, .string nm, .int .i64 d, .int .i64 a, .int .i64 b, .int .i64 n, .slice ra rl rc, .int .i64 dest] 46)).alloc (.cells #[.int .i64 a] 3)).ownsRow w.heap.size 3 1 (.slice none 0 0) 0 []) := World.ownsRow_nil _ _ _ _
    have HBS1 : Hid (w.heap.size ≤ ((w.alloc (.cells #[.int .i64 12, .int .i64 what, .string nm, .int .i64 d, .int .i64 a, .int .i64 b, .int .i64 n, .slice ra rl rc, .int .i64 dest] 46)).alloc (.cells #[.int .i64 a] 3)).heap.size) := by show _ ≤ _; rw [World.size_alloc]; simp; omega
    go_wp2_with (first | (at_builtin; refine wpList_append_lies _ rfl _ _ 30 rfl w.heap.size 3 ii _ 1 8 Tryd.underlying30 hii hz0 hz1 hz2 rfl (by decide) (.slice none 0 0) 0 [] rfl HRW1.out _ 1 1 [.int .i64 a] rfl rfl HN1.out (by intro u hu; simp at hu; first | (subst hu; rfl) | (rcases hu with rfl | rfl <;> rfl)) (by decide) (by omega) (by omega) HBS1.out _ rfl ?_) | fail)
    intro g1 c1 w1 ho1 hg1 hat1 hlt1
    have HB1 : Hid (Below w.heap.size w w1) := (((bl1 w _).trans ((bl1 _ _).mono (by simp))).trans (grown_below hg1 (B := w.heap.size) (fun g e => by cases e) (by simp; omega)))
    have HO1 : Hid (w1.ownsRow w.heap.size 3 1 (.slice (some ⟨g1, 0, none⟩) 1 c1) 1 (([a] : List Int).map iV)) := by
      show World.ownsRow _ _ _ _ _ _ _
      simpa [iV] using ho1
    clear ho1 hg1 hat1 hlt1 HN1 HRW1 HBS1
    go_wp2_with fail
    go_ret
    exact (⟨some ⟨g1, 0, none⟩, c1, rfl, num_of_row HO1.out rfl (by simp; exact HF.out.2.2.2.2.1), HB1.out, fun p hp => (HO1.out.lt p.block (by cases hp; rfl)).1⟩ : RdOut w [a] _ _)
  by_cases h13 : op = 13
  · subst h13
    have HVR : R = [a] := by rw [HR.out]; simp [F.rd]
    subst HVR
    go_enter Tryd.func45, Tryd.ntmps45
    have HN1 : Hid (∀ (j : Nat) u, ([.int .i64 a] : List Value)[j]? = some u → ((w.alloc (.cells #[.int .i64 13, .int .i64 what, .string nm, .int .i64 d, .int .i64 a, .int .i64 b, .int .i64 n, .slice ra rl rc, .int .i64 dest] 46)).alloc (.cells #[.int .i64 a] 3)).cell? ((⟨w.heap.size + 1, 0, none⟩ : Addr).add j) = some u) := by
      intro j u hu
      rw [Addr.add_lit, Nat.zero_add]
      have hsz : w.heap.size + 1 = (w.alloc (.cells #[.int .i64 13, .int .i64 what, .string nm, .int .i64 d, .int .i64 a, .int .i64 b, .int .i64 n, .slice ra rl rc, .int .i64 dest] 46)).heap.size := by simp
      rw [hsz]
      exact ncell_at (by simpa using hu)
    have HRW1 : Hid (((w.alloc (.cells #[.int .i64 13, .int .i64 what, .string nm, .int .i64 d, .int .i64 a, .int .i64 b, .int .i64 n, .slice ra rl rc, .int .i64 dest] 46)).alloc (.cells #[.int .i64 a] 3)).ownsRow w.heap.size 3 1 (.slice none 0 0) 0 []) := World.ownsRow_nil _ _ _ _
    have HBS1 : Hid (w.heap.size ≤ ((w.alloc (.cells #[.int .i64 13, .int .i64 what, .string nm, .int .i64 d, .int .i64 a, .int .i64 b, .int .i64 n, .slice ra rl rc, .int .i64 dest] 46)).alloc (.cells #[.int .i64 a] 3)).heap.size) := by show _ ≤ _; rw [World.size_alloc]; simp; omega
    go_wp2_with (first | (at_builtin; refine wpList_append_lies _ rfl _ _ 30 rfl w.heap.size 3 ii _ 1 8 Tryd.underlying30 hii hz0 hz1 hz2 rfl (by decide) (.slice none 0 0) 0 [] rfl HRW1.out _ 1 1 [.int .i64 a] rfl rfl HN1.out (by intro u hu; simp at hu; first | (subst hu; rfl) | (rcases hu with rfl | rfl <;> rfl)) (by decide) (by omega) (by omega) HBS1.out _ rfl ?_) | fail)
    intro g1 c1 w1 ho1 hg1 hat1 hlt1
    have HB1 : Hid (Below w.heap.size w w1) := (((bl1 w _).trans ((bl1 _ _).mono (by simp))).trans (grown_below hg1 (B := w.heap.size) (fun g e => by cases e) (by simp; omega)))
    have HO1 : Hid (w1.ownsRow w.heap.size 3 1 (.slice (some ⟨g1, 0, none⟩) 1 c1) 1 (([a] : List Int).map iV)) := by
      show World.ownsRow _ _ _ _ _ _ _
      simpa [iV] using ho1
    clear ho1 hg1 hat1 hlt1 HN1 HRW1 HBS1
    go_wp2_with fail
    go_ret
    exact (⟨some ⟨g1, 0, none⟩, c1, rfl, num_of_row HO1.out rfl (by simp; exact HF.out.2.2.2.2.1), HB1.out, fun p hp => (HO1.out.lt p.block (by cases hp; rfl)).1⟩ : RdOut w [a] _ _)
  by_cases h14 : op = 14
  · subst h14
    have HVR : R = [a] := by rw [HR.out]; simp [F.rd]
    subst HVR
    go_enter Tryd.func45, Tryd.ntmps45
    have HN1 : Hid (∀ (j : Nat) u, ([.int .i64 a] : List Value)[j]? = some u → ((w.alloc (.cells #[.int .i64 14, .int .i64 what, .string nm, .int .i64 d, .int .i64 a, .int .i64 b, .int .i64 n, .slice ra rl rc, .int .i64 dest] 46)).alloc (.cells #[.int .i64 a] 3)).cell? ((⟨w.heap.size + 1, 0, none⟩ : Addr).add j) = some u) := by
      intro j u hu
      rw [Addr.add_lit, Nat.zero_add]
      have hsz : w.heap.size + 1 = (w.alloc (.cells #[.int .i64 14, .int .i64 what, .string nm, .int .i64 d, .int .i64 a, .int .i64 b, .int .i64 n, .slice ra rl rc, .int .i64 dest] 46)).heap.size := by simp
      rw [hsz]
      exact ncell_at (by simpa using hu)
    have HRW1 : Hid (((w.alloc (.cells #[.int .i64 14, .int .i64 what, .string nm, .int .i64 d, .int .i64 a, .int .i64 b, .int .i64 n, .slice ra rl rc, .int .i64 dest] 46)).alloc (.cells #[.int .i64 a] 3)).ownsRow w.heap.size 3 1 (.slice none 0 0) 0 []) := World.ownsRow_nil _ _ _ _
    have HBS1 : Hid (w.heap.size ≤ ((w.alloc (.cells #[.int .i64 14, .int .i64 what, .string nm, .int .i64 d, .int .i64 a, .int .i64 b, .int .i64 n, .slice ra rl rc, .int .i64 dest] 46)).alloc (.cells #[.int .i64 a] 3)).heap.size) := by show _ ≤ _; rw [World.size_alloc]; simp; omega
    go_wp2_with (first | (at_builtin; refine wpList_append_lies _ rfl _ _ 30 rfl w.heap.size 3 ii _ 1 8 Tryd.underlying30 hii hz0 hz1 hz2 rfl (by decide) (.slice none 0 0) 0 [] rfl HRW1.out _ 1 1 [.int .i64 a] rfl rfl HN1.out (by intro u hu; simp at hu; first | (subst hu; rfl) | (rcases hu with rfl | rfl <;> rfl)) (by decide) (by omega) (by omega) HBS1.out _ rfl ?_) | fail)
    intro g1 c1 w1 ho1 hg1 hat1 hlt1
    have HB1 : Hid (Below w.heap.size w w1) := (((bl1 w _).trans ((bl1 _ _).mono (by simp))).trans (grown_below hg1 (B := w.heap.size) (fun g e => by cases e) (by simp; omega)))
    have HO1 : Hid (w1.ownsRow w.heap.size 3 1 (.slice (some ⟨g1, 0, none⟩) 1 c1) 1 (([a] : List Int).map iV)) := by
      show World.ownsRow _ _ _ _ _ _ _
      simpa [iV] using ho1
    clear ho1 hg1 hat1 hlt1 HN1 HRW1 HBS1
    go_wp2_with fail
    go_ret
    exact (⟨some ⟨g1, 0, none⟩, c1, rfl, num_of_row HO1.out rfl (by simp; exact HF.out.2.2.2.2.1), HB1.out, fun p hp => (HO1.out.lt p.block (by cases hp; rfl)).1⟩ : RdOut w [a] _ _)
  by_cases h3 : op = 3
  · subst h3
    have HVR : R = [a, b] := by rw [HR.out]; simp [F.rd]
    subst HVR
    go_enter Tryd.func45, Tryd.ntmps45
    have HN1 : Hid (∀ (j : Nat) u, ([.int .i64 a, .int .i64 b] : List Value)[j]? = some u → ((w.alloc (.cells #[.int .i64 3, .int .i64 what, .string nm, .int .i64 d, .int .i64 a, .int .i64 b, .int .i64 n, .slice ra rl rc, .int .i64 dest] 46)).alloc (.cells #[.int .i64 a, .int .i64 b] 3)).cell? ((⟨w.heap.size + 1, 0, none⟩ : Addr).add j) = some u) := by
      intro j u hu
      rw [Addr.add_lit, Nat.zero_add]
      have hsz : w.heap.size + 1 = (w.alloc (.cells #[.int .i64 3, .int .i64 what, .string nm, .int .i64 d, .int .i64 a, .int .i64 b, .int .i64 n, .slice ra rl rc, .int .i64 dest] 46)).heap.size := by simp
      rw [hsz]
      exact ncell_at (by simpa using hu)
    have HRW1 : Hid (((w.alloc (.cells #[.int .i64 3, .int .i64 what, .string nm, .int .i64 d, .int .i64 a, .int .i64 b, .int .i64 n, .slice ra rl rc, .int .i64 dest] 46)).alloc (.cells #[.int .i64 a, .int .i64 b] 3)).ownsRow w.heap.size 3 1 (.slice none 0 0) 0 []) := World.ownsRow_nil _ _ _ _
    have HBS1 : Hid (w.heap.size ≤ ((w.alloc (.cells #[.int .i64 3, .int .i64 what, .string nm, .int .i64 d, .int .i64 a, .int .i64 b, .int .i64 n, .slice ra rl rc, .int .i64 dest] 46)).alloc (.cells #[.int .i64 a, .int .i64 b] 3)).heap.size) := by show _ ≤ _; rw [World.size_alloc]; simp; omega
    go_wp2_with (first | (at_builtin; refine wpList_append_lies _ rfl _ _ 30 rfl w.heap.size 3 ii _ 1 8 Tryd.underlying30 hii hz0 hz1 hz2 rfl (by decide) (.slice none 0 0) 0 [] rfl HRW1.out _ 2 2 [.int .i64 a, .int .i64 b] rfl rfl HN1.out (by intro u hu; simp at hu; first | (subst hu; rfl) | (rcases hu with rfl | rfl <;> rfl)) (by decide) (by omega) (by omega) HBS1.out _ rfl ?_) | fail)
    intro g1 c1 w1 ho1 hg1 hat1 hlt1
    have HB1 : Hid (Below w.heap.size w w1) := (((bl1 w _).trans ((bl1 _ _).mono (by simp))).trans (grown_below hg1 (B := w.heap.size) (fun g e => by cases e) (by simp; omega)))
    have HO1 : Hid (w1.ownsRow w.heap.size 3 1 (.slice (some ⟨g1, 0, none⟩) 2 c1) 2 (([a, b] : List Int).map iV)) := by
      show World.ownsRow _ _ _ _ _ _ _
      simpa [iV] using ho1
    clear ho1 hg1 hat1 hlt1 HN1 HRW1 HBS1
    go_wp2_with fail
    go_ret
    exact (⟨some ⟨g1, 0, none⟩, c1, rfl, num_of_row HO1.out rfl (by simp; exact ⟨HF.out.2.2.2.2.1, HF.out.2.2.2.2.2.1⟩), HB1.out, fun p hp => (HO1.out.lt p.block (by cases hp; rfl)).1⟩ : RdOut w [a, b] _ _)
  by_cases h4 : op = 4
  · subst h4
    by_cases h0 : 0 ≤ a
    · have HVR : R = [a] := by rw [HR.out]; simp [F.rd, h0]
      subst HVR
      go_enter Tryd.func45, Tryd.ntmps45
      have HN1 : Hid (∀ (j : Nat) u, ([.int .i64 a] : List Value)[j]? = some u → ((w.alloc (.cells #[.int .i64 4, .int .i64 what, .string nm, .int .i64 d, .int .i64 a, .int .i64 b, .int .i64 n, .slice ra rl rc, .int .i64 dest] 46)).alloc (.cells #[.int .i64 a] 3)).cell? ((⟨w.heap.size + 1, 0, none⟩ : Addr).add j) = some u) := by
        intro j u hu
        rw [Addr.add_lit, Nat.zero_add]
        have hsz : w.heap.size + 1 = (w.alloc (.cells #[.int .i64 4, .int .i64 what, .string nm, .int .i64 d, .int .i64 a, .int .i64 b, .int .i64 n, .slice ra rl rc, .int .i64 dest] 46)).heap.size := by simp
        rw [hsz]
        exact ncell_at (by simpa using hu)
      have HRW1 : Hid (((w.alloc (.cells #[.int .i64 4, .int .i64 what, .string nm, .int .i64 d, .int .i64 a, .int .i64 b, .int .i64 n, .slice ra rl rc, .int .i64 dest] 46)).alloc (.cells #[.int .i64 a] 3)).ownsRow w.heap.size 3 1 (.slice none 0 0) 0 []) := World.ownsRow_nil _ _ _ _
      have HBS1 : Hid (w.heap.size ≤ ((w.alloc (.cells #[.int .i64 4, .int .i64 what, .string nm, .int .i64 d, .int .i64 a, .int .i64 b, .int .i64 n, .slice ra rl rc, .int .i64 dest] 46)).alloc (.cells #[.int .i64 a] 3)).heap.size) := by show _ ≤ _; rw [World.size_alloc]; simp; omega
      go_wp2_with (first | (at_builtin; refine wpList_append_lies _ rfl _ _ 30 rfl w.heap.size 3 ii _ 1 8 Tryd.underlying30 hii hz0 hz1 hz2 rfl (by decide) (.slice none 0 0) 0 [] rfl HRW1.out _ 1 1 [.int .i64 a] rfl rfl HN1.out (by intro u hu; simp at hu; first | (subst hu; rfl) | (rcases hu with rfl | rfl <;> rfl)) (by decide) (by omega) (by omega) HBS1.out _ rfl ?_) | fail)
      intro g1 c1 w1 ho1 hg1 hat1 hlt1
      have HB1 : Hid (Below w.heap.size w w1) := (((bl1 w _).trans ((bl1 _ _).mono (by simp))).trans (grown_below hg1 (B := w.heap.size) (fun g e => by cases e) (by simp; omega)))
      have HO1 : Hid (w1.ownsRow w.heap.size 3 1 (.slice (some ⟨g1, 0, none⟩) 1 c1) 1 (([a] : List Int).map iV)) := by
        show World.ownsRow _ _ _ _ _ _ _
        simpa [iV] using ho1
      have d0 : w1.cell? ⟨w.heap.size, 0, none⟩ = some (.int .i64 4) := by
        refine (World.cell?_of_block (hg1.block w.heap.size (by simp; omega) (by simp [Value.ownBlock]))).trans ?_
        simp
      clear ho1 hg1 hat1 hlt1 HN1 HRW1 HBS1
      go_wp2_with fail
      go_ret
      exact (⟨some ⟨g1, 0, none⟩, c1, rfl, num_of_row HO1.out rfl (by simp; exact HF.out.2.2.2.2.1), HB1.out, fun p hp => (HO1.out.lt p.block (by cases hp; rfl)).1⟩ : RdOut w [a] _ _)
    · have HVR : R = [] := by rw [HR.out]; simp [F.rd, h0]
      subst HVR
      go_enter Tryd.func45, Tryd.ntmps45
      go_wp2_with fail
      go_ret
      exact (⟨none, 0, rfl, NumV.nil _, bl1 _ _, fun p hp => by cases hp⟩ : RdOut w [] _ _)
  by_cases h5 : op = 5
  · subst h5
    by_cases h0 : 0 ≤ a
    · have HVR : R = [a, b] := by rw [HR.out]; simp [F.rd, h0]
      subst HVR
      go_enter Tryd.func45, Tryd.ntmps45
      have HN1 : Hid (∀ (j : Nat) u, ([.int .i64 a] : List Value)[j]? = some u → ((w.alloc (.cells #[.int .i64 5, .int .i64 what, .string nm, .int .i64 d, .int .i64 a, .int .i64 b, .int .i64 n, .slice ra rl rc, .int .i64 dest] 46)).alloc (.cells #[.int .i64 a] 3)).cell? ((⟨w.heap.size + 1, 0, none⟩ : Addr).add j) = some u) := by
        intro j u hu
        rw [Addr.add_lit, Nat.zero_add]
        have hsz : w.heap.size + 1 = (w.alloc (.cells #[.int .i64 5, .int .i64 what, .string nm, .int .i64 d, .int .i64 a, .int .i64 b, .int .i64 n, .slice ra rl rc, .int .i64 dest] 46)).heap.size := by simp
        rw [hsz]
        exact ncell_at (by simpa using hu)
      have HRW1 : Hid (((w.alloc (.cells #[.int .i64 5, .int .i64 what, .string nm, .int .i64 d, .int .i64 a, .int .i64 b, .int .i64 n, .slice ra rl rc, .int .i64 dest] 46)).alloc (.cells #[.int .i64 a] 3)).ownsRow w.heap.size 3 1 (.slice none 0 0) 0 []) := World.ownsRow_nil _ _ _ _
      have HBS1 : Hid (w.heap.size ≤ ((w.alloc (.cells #[.int .i64 5, .int .i64 what, .string nm, .int .i64 d, .int .i64 a, .int .i64 b, .int .i64 n, .slice ra rl rc, .int .i64 dest] 46)).alloc (.cells #[.int .i64 a] 3)).heap.size) := by show _ ≤ _; rw [World.size_alloc]; simp; omega
      go_wp2_with (first | (at_builtin; refine wpList_append_lies _ rfl _ _ 30 rfl w.heap.size 3 ii _ 1 8 Tryd.underlying30 hii hz0 hz1 hz2 rfl (by decide) (.slice none 0 0) 0 [] rfl HRW1.out _ 1 1 [.int .i64 a] rfl rfl HN1.out (by intro u hu; simp at hu; first | (subst hu; rfl) | (rcases hu with rfl | rfl <;> rfl)) (by decide) (by omega) (by omega) HBS1.out _ rfl ?_) | fail)
      intro g1 c1 w1 ho1 hg1 hat1 hlt1
      have HB1 : Hid (Below w.heap.size w w1) := (((bl1 w _).trans ((bl1 _ _).mono (by simp))).trans (grown_below hg1 (B := w.heap.size) (fun g e => by cases e) (by simp; omega)))
      have ho1' : w1.ownsRow w.heap.size 3 1 (.slice (some ⟨g1, 0, none⟩) 1 c1) 1 [.int .i64 a] := by simpa using ho1
      have d0 : w1.cell? ⟨w.heap.size, 0, none⟩ = some (.int .i64 5) := by
        refine (World.cell?_of_block (hg1.block w.heap.size (by simp; omega) (by simp [Value.ownBlock]))).trans ?_
        simp
      have d5 : w1.cell? ⟨w.heap.size, 5, none⟩ = some (.int .i64 b) := by
        refine (World.cell?_of_block (hg1.block w.heap.size (by simp; omega) (by simp [Value.ownBlock]))).trans ?_
        simp
      have hbw : w.heap.size ≤ w1.heap.size := HB1.out.size
      clear ho1 hg1 hat1 hlt1 HN1 HRW1 HBS1
      have HN2 : Hid (∀ (j : Nat) u, ([.int .i64 b] : List Value)[j]? = some u → (w1.alloc (.cells #[.int .i64 b] 3)).cell? ((⟨w1.heap.size, 0, none⟩ : Addr).add j) = some u) := by
        intro j u hu
        rw [Addr.add_lit, Nat.zero_add]
        have hsz : w1.heap.size = w1.heap.size := by simp
        rw [hsz]
        exact ncell_at (by simpa using hu)
      have HRW2 : Hid ((w1.alloc (.cells #[.int .i64 b] 3)).ownsRow w.heap.size 3 1 (.slice (some ⟨g1, 0, none⟩) 1 c1) 1 [.int .i64 a]) := row_below ho1' (bl1 _ _)
      have HBS2 : Hid (w.heap.size ≤ (w1.alloc (.cells #[.int .i64 b] 3)).heap.size) := by show _ ≤ _; rw [World.size_alloc]; omega
      go_wp2_with (first | (at_builtin; refine wpList_append_lies _ rfl _ _ 30 rfl w.heap.size 3 ii _ 1 8 Tryd.underlying30 hii hz0 hz1 hz2 rfl (by decide) (.slice (some ⟨g1, 0, none⟩) 1 c1) 1 [.int .i64 a] rfl HRW2.out _ 1 1 [.int .i64 b] rfl rfl HN2.out (by intro u hu; simp at hu; first | (subst hu; rfl) | (rcases hu with rfl | rfl <;> rfl)) (by decide) (by omega) (by omega) HBS2.out _ rfl ?_) | fail)
      intro g2 c2 w2 ho2 hg2 hat2 hlt2
      have HB2 : Hid (Below w.heap.size w w2) := (HB1.out.trans ((bl1 w1 _).mono HB1.out.size)).trans (grown_below hg2 (B := w.heap.size) (fun g e => (ho1'.lt g e).1) (by simp; omega))
      have HO2 : Hid (w2.ownsRow w.heap.size 3 1 (.slice (some ⟨g2, 0, none⟩) 2 c2) 2 (([a, b] : List Int).map iV)) := by
        show World.ownsRow _ _ _ _ _ _ _
        simpa [iV] using ho2
      clear ho2 hg2 hat2 hlt2 HN2 HRW2 HBS2 ho1'
      go_wp2_with fail
      go_ret
      exact (⟨some ⟨g2, 0, none⟩, c2, rfl, num_of_row HO2.out rfl (by simp; exact ⟨HF.out.2.2.2.2.1, HF.out.2.2.2.2.2.1⟩), HB2.out, fun p hp => (HO2.out.lt p.block (by cases hp; rfl)).1⟩ : RdOut w [a, b] _ _)
    · have HVR : R = [b] := by rw [HR.out]; simp [F.rd, h0]
      subst HVR
      go_enter Tryd.func45, Tryd.ntmps45
      have HN1 : Hid (∀ (j : Nat) u, ([.int .i64 b] : List Value)[j]? = some u → ((w.alloc (.cells #[.int .i64 5, .int .i64 what, .string nm, .int .i64 d, .int .i64 a, .int .i64 b, .int .i64 n, .slice ra rl rc, .int .i64 dest] 46)).alloc (.cells #[.int .i64 b] 3)).cell? ((⟨w.heap.size + 1, 0, none⟩ : Addr).add j) = some u) := by
        intro j u hu
        rw [Addr.add_lit, Nat.zero_add]
        have hsz : w.heap.size + 1 = (w.alloc (.cells #[.int .i64 5, .int .i64 what, .string nm, .int .i64 d, .int .i64 a, .int .i64 b, .int .i64 n, .slice ra rl rc, .int .i64 dest] 46)).heap.size := by simp
        rw [hsz]
        exact ncell_at (by simpa using hu)
      have HRW1 : Hid (((w.alloc (.cells #[.int .i64 5, .int .i64 what, .string nm, .int .i64 d, .int .i64 a, .int .i64 b, .int .i64 n, .slice ra rl rc, .int .i64 dest] 46)).alloc (.cells #[.int .i64 b] 3)).ownsRow w.heap.size 3 1 (.slice none 0 0) 0 []) := World.ownsRow_nil _ _ _ _
      have HBS1 : Hid (w.heap.size ≤ ((w.alloc (.cells #[.int .i64 5, .int .i64 what, .string nm, .int .i64 d, .int .i64 a, .int .i64 b, .int .i64 n, .slice ra rl rc, .int .i64 dest] 46)).alloc (.cells #[.int .i64 b] 3)).heap.size) := by show _ ≤ _; rw [World.size_alloc]; simp; omega
      go_wp2_with (first | (at_builtin; refine wpList_append_lies _ rfl _ _ 30 rfl w.heap.size 3 ii _ 1 8 Tryd.underlying30 hii hz0 hz1 hz2 rfl (by decide) (.slice none 0 0) 0 [] rfl HRW1.out _ 1 1 [.int .i64 b] rfl rfl HN1.out (by intro u hu; simp at hu; first | (subst hu; rfl) | (rcases hu with rfl | rfl <;> rfl)) (by decide) (by omega) (by omega) HBS1.out _ rfl ?_) | fail)
      intro g1 c1 w1 ho1 hg1 hat1 hlt1
      have HB1 : Hid (Below w.heap.size w w1) := (((bl1 w _).trans ((bl1 _ _).mono (by simp))).trans (grown_below hg1 (B := w.heap.size) (fun g e => by cases e) (by simp; omega)))
      have HO1 : Hid (w1.ownsRow w.heap.size 3 1 (.slice (some ⟨g1, 0, none⟩) 1 c1) 1 (([b] : List Int).map iV)) := by
        show World.ownsRow _ _ _ _ _ _ _
        simpa [iV] using ho1
      clear ho1 hg1 hat1 hlt1 HN1 HRW1 HBS1
      go_wp2_with fail
      go_ret
      exact (⟨some ⟨g1, 0, none⟩, c1, rfl, num_of_row HO1.out rfl (by simp; exact HF.out.2.2.2.2.2.1), HB1.out, fun p hp => (HO1.out.lt p.block (by cases hp; rfl)).1⟩ : RdOut w [b] _ _)
  by_cases h8 : op = 8
  · subst h8
    have HVR : R = [b] := by rw [HR.out]; simp [F.rd]
    subst HVR
    go_enter Tryd.func45, Tryd.ntmps45
    have HN1 : Hid (∀ (j : Nat) u, ([.int .i64 b] : List Value)[j]? = some u → ((w.alloc (.cells #[.int .i64 8, .int .i64 what, .string nm, .int .i64 d, .int .i64 a, .int .i64 b, .int .i64 n, .slice ra rl rc, .int .i64 dest] 46)).alloc (.cells #[.int .i64 b] 3)).cell? ((⟨w.heap.size + 1, 0, none⟩ : Addr).add j) = some u) := by
      intro j u hu
      rw [Addr.add_lit, Nat.zero_add]
      have hsz : w.heap.size + 1 = (w.alloc (.cells #[.int .i64 8, .int .i64 what, .string nm, .int .i64 d, .int .i64 a, .int .i64 b, .int .i64 n, .slice ra rl rc, .int .i64 dest] 46)).heap.size := by simp
      rw [hsz]
      exact ncell_at (by simpa using hu)
    have HRW1 : Hid (((w.alloc (.cells #[.int .i64 8, .int .i64 what, .string nm, .int .i64 d, .int .i64 a, .int .i64 b, .int .i64 n, .slice ra rl rc, .int .i64 dest] 46)).alloc (.cells #[.int .i64 b] 3)).ownsRow w.heap.size 3 1 (.slice none 0 0) 0 []) := World.ownsRow_nil _ _ _ _
    have HBS1 : Hid (w.heap.size ≤ ((w.alloc (.cells #[.int .i64 8, .int .i64 what, .string nm, .int .i64 d, .int .i64 a, .int .i64 b, .int .i64 n, .slice ra rl rc, .int .i64 dest] 46)).alloc (.cells #[.int .i64 b] 3)).heap.size) := by show _ ≤ _; rw [World.size_alloc]; simp; omega
    go_wp2_with (first | (at_builtin; refine wpList_append_lies _ rfl _ _ 30 rfl w.heap.size 3 ii _ 1 8 Tryd.underlying30 hii hz0 hz1 hz2 rfl (by decide) (.slice none 0 0) 0 [] rfl HRW1.out _ 1 1 [.int .i64 b] rfl rfl HN1.out (by intro u hu; simp at hu; first | (subst hu; rfl) | (rcases hu with rfl | rfl <;> rfl)) (by decide) (by omega) (by omega) HBS1.out _ rfl ?_) | fail)
    intro g1 c1 w1 ho1 hg1 hat1 hlt1
    have HB1 : Hid (Below w.heap.size w w1) := (((bl1 w _).trans ((bl1 _ _).mono (by simp))).trans (grown_below hg1 (B := w.heap.size) (fun g e => by cases e) (by simp; omega)))
    have HO1 : Hid (w1.ownsRow w.heap.size 3 1 (.slice (some ⟨g1, 0, none⟩) 1 c1) 1 (([b] : List Int).map iV)) := by
      show World.ownsRow _ _ _ _ _ _ _
      simpa [iV] using ho1
    clear ho1 hg1 hat1 hlt1 HN1 HRW1 HBS1
    go_wp2_with fail
    go_ret
    exact (⟨some ⟨g1, 0, none⟩, c1, rfl, num_of_row HO1.out rfl (by simp; exact HF.out.2.2.2.2.2.1), HB1.out, fun p hp => (HO1.out.lt p.block (by cases hp; rfl)).1⟩ : RdOut w [b] _ _)
  by_cases h6 : op = 6
  · subst h6
    have HVR : R = args := by rw [HR.out]; simp [F.rd]
    subst HVR
    have HC : Hid (R.length = rl) := HA.out.count
    have HSRC : Hid _ := (HA.out.below (bl1 w (.cells #[.int .i64 6, .int .i64 what, .string nm, .int .i64 d, .int .i64 a, .int .i64 b, .int .i64 n, .slice ra rl rc, .int .i64 dest] 46))).src
    have HNL : Hid (ra = none → rl = 0 ∧ rc = 0) := HA.out.nilOf
    have hl8 : rl * 8 ≤ 140737488355328 := by rw [← HC.out]; exact hsz
    clear hsz
    go_enter Tryd.func45, Tryd.ntmps45
    go_wp2_with (first | (at_builtin; refine wpList_append_copy rfl _ _ 30 rfl 3 ii _ 1 8 Tryd.underlying30 hii hz0 hz1 hz2 rfl (by decide) (a := ra) (l := rl) (c := rc) (cs := R.map iV) rfl rfl HNL.out HSRC.out.1 HSRC.out.2.1 HSRC.out.2.2 (by omega) (by omega) ?_) | fail)
    intro a2 c2 w2 ho2 hb2
    have HB2 : Hid (Below w.heap.size w w2) := (bl1 w _).trans (hb2.mono (by simp))
    have HO2 : Hid (NumV w2 a2 rl c2 R) := num_of_row ho2 HC.out HA.out.fits
    have HP2 : Hid (∀ p, a2 = some p → w.heap.size ≤ p.block) := fun p hp => by
      have h9 := (ho2.lt p.block (by rw [hp]; rfl)).1
      first | omega | (simp at h9; omega)
    clear ho2 hb2
    go_wp2_with fail
    go_ret
    have HX : RdOut w R (.returned (.slice a2 rl c2)) w2 := by
      refine ⟨a2, c2, ?_, ?_, HB2.out, HP2.out⟩
      · rw [HC.out]
      · rw [HC.out]; exact HO2.out
    exact HX
  have HVR : R = [] := by rw [HR.out]; unfold F.rd; simp [h2, h12, h13, h14, h3, h4, h5, h8, h6]
  subst HVR
  have e2 : (op == 2) = false := by simpa using h2
  have e12 : (op == 12) = false := by simpa using h12
  have e13 : (op == 13) = false := by simpa using h13
  have e14 : (op == 14) = false := by simpa using h14
  have e3 : (op == 3) = false := by simpa using h3
  have e4 : (op == 4) = false := by simpa using h4
  have e5 : (op == 5) = false := by simpa using h5
  have e8 : (op == 8) = false := by simpa using h8
  have e6 : (op == 6) = false := by simpa using h6
  clear h2 h12 h13 h14 h3 h4 h5 h8 h6
  go_enter Tryd.func45, Tryd.ntmps45
  go_wp2_with fail
  go_ret
  exact (⟨none, 0, rfl, NumV.nil _, bl1 _ _, fun p hp => by cases hp⟩ : RdOut w [] _ _)
end Go.Proofs.YtljgpngbkmembaaDoor

/- What is loaded and stored, one behind the other: no walk. -/
import Derived.Test.YtfkpbmopneleiaaMemLoad
namespace Go.Proofs.Ytfkpbmopneleiaa
open Go.RowKit Go.Maps
set_option linter.unusedVariables false

/-- What Load answers. -/
def Ans (rs : List Reg) (x v e : Int) : Prop := (∃ i j, Loc rs x i j ∧ v = wordAt rs i j ∧ e = 0) ∨ (NoLoc rs x ∧ v = 0 ∧ e = 11)
/-- What Store answers, and what the regions are then. -/
def StAns (rs : List Reg) (x n g : Int) (rs' : List Reg) : Prop := (∃ i j, Loc rs x i j ∧ g = 0 ∧ rs' = putWord rs i j n) ∨ (g = 11 ∧ rs' = rs)

theorem loc_excl {rs : List Reg} {x : Int} {i j : Nat} (h : Loc rs x i j) (k : NoLoc rs x) : False := by
  rcases k with k | k
  · exact k h.1
  · have := k i h.2.1
    rw [h.2.2.1] at this
    cases this
theorem loc_uniq {rs : List Reg} {x : Int} {i j i' j' : Nat} (h : Loc rs x i j) (k : Loc rs x i' j') : i = i' ∧ j = j' := by
  have e : i = i' := by
    rcases Nat.lt_trichotomy i i' with c | c | c
    · have := k.2.2.2.1 i c
      rw [h.2.2.1] at this
      cases this
    · exact c
    · have := h.2.2.2.1 i' c
      rw [k.2.2.1] at this
      cases this
  subst e
  refine ⟨rfl, ?_⟩
  have h1 := h.2.2.2.2.1
  have h2 := k.2.2.2.2.1
  omega
theorem put_base (rs : List Reg) (i j k : Nat) (n : Int) : ((putWord rs i j n).getD k noReg).base = (rs.getD k noReg).base ∧ ((putWord rs i j n).getD k noReg).words.length = (rs.getD k noReg).words.length ∧ ((putWord rs i j n).getD k noReg).write = (rs.getD k noReg).write := by
  by_cases hi : i < rs.length
  · by_cases c : i = k
    · subst c
      rw [putWord_same rs i j n hi]
      simp
    · rw [putWord_other rs i j k n c]
      exact ⟨rfl, rfl, rfl⟩
  · unfold putWord
    rw [List.set_eq_of_length_le (by omega)]
    exact ⟨rfl, rfl, rfl⟩
theorem put_in (rs : List Reg) (i j k : Nat) (n x : Int) : inReg ((putWord rs i j n).getD k noReg) x = inReg (rs.getD k noReg) x := by
  obtain ⟨h1, h2, -⟩ := put_base rs i j k n
  unfold inReg
  rw [h1, h2]
theorem put_none (rs : List Reg) (i j : Nat) (n x : Int) (m : Nat) : noneTo (putWord rs i j n) x m ↔ noneTo rs x m := by
  unfold noneTo
  constructor
  · intro h k hk; rw [← put_in rs i j k n x]; exact h k hk
  · intro h k hk; rw [put_in rs i j k n x]; exact h k hk
theorem put_loc (rs : List Reg) (i j : Nat) (n x : Int) (a b : Nat) : Loc (putWord rs i j n) x a b ↔ Loc rs x a b := by
  obtain ⟨h1, h2, -⟩ := put_base rs i j a n
  unfold Loc
  rw [putWord_len, put_in, put_none, h1, h2]
theorem put_noloc (rs : List Reg) (i j : Nat) (n x : Int) : NoLoc (putWord rs i j n) x ↔ NoLoc rs x := by
  unfold NoLoc
  rw [putWord_len, put_none]
theorem put_ok {rs : List Reg} (h : AllOk rs) (i j : Nat) (n : Int) : AllOk (putWord rs i j n) := by
  intro k hk
  rw [putWord_len] at hk
  obtain ⟨h1, h2, -⟩ := put_base rs i j k n
  have := h k hk
  unfold regOk at *
  rw [h1, h2]
  exact this
theorem word_same {rs : List Reg} {i j : Nat} (hi : i < rs.length) (hj : j < (rs.getD i noReg).words.length) (n : Int) : wordAt (putWord rs i j n) i j = n := by
  unfold wordAt
  rw [putWord_same rs i j n hi]
  generalize (rs.getD i noReg).words = ws at *
  simp [List.getD, hj]
theorem word_other {rs : List Reg} {i j a b : Nat} (hne : ¬ (i = a ∧ j = b)) (n : Int) : wordAt (putWord rs i j n) a b = wordAt rs a b := by
  unfold wordAt
  by_cases hi : i < rs.length
  · by_cases c : i = a
    · subst c
      rw [putWord_same rs i j n hi]
      have : j ≠ b := fun e => hne ⟨rfl, e⟩
      simp [List.getD, List.getElem?_set_ne this]
    · rw [putWord_other rs i j a n c]
  · unfold putWord
    rw [List.set_eq_of_length_le (by omega)]
/-- Two addresses of one word are one. -/
theorem loc_addr {rs : List Reg} (ok : AllOk rs) {x y : Int} {i j : Nat} (h : Loc rs x i j) (k : Loc rs y i j) : x = y := by
  have hr := ok i h.2.1
  have hb := regOk_bd _ hr
  have ht : (rs.getD i noReg).base.tmod 8 = 0 := by
    unfold regOk at hr
    simp only [Bool.and_eq_true, decide_eq_true_eq] at hr
    exact hr.1.1.1
  have hx := h.1
  have hy := k.1
  have h1 := h.2.2.2.2.1
  have h2 := k.2.2.2.2.1
  have i1 := h.2.2.1
  have i2 := k.2.2.1
  unfold inReg at i1 i2
  simp only [Bool.and_eq_true, decide_eq_true_eq] at i1 i2
  rw [Int.tmod_eq_emod_of_nonneg (by omega)] at hx hy ht
  omega

theorem stays {rs rs' : List Reg} {x y n a f g b h d k : Int} (ok : AllOk rs) (h1 : Ans rs y a f) (h2 : StAns rs x n g rs') (h3 : Ans rs' y b h) (h4 : Ans rs' x d k) : f = h ∧ (g = 0 → k = 0 ∧ d = n) ∧ (¬ x = y → a = b) := by
  rcases h2 with ⟨i, j, hl, rfl, rfl⟩ | ⟨rfl, rfl⟩
  · refine ⟨?_, fun _ => ?_, fun hne => ?_⟩
    · rcases h1 with ⟨i1, j1, l1, -, rfl⟩ | ⟨n1, -, rfl⟩ <;> rcases h3 with ⟨i3, j3, l3, -, rfl⟩ | ⟨n3, -, rfl⟩
      · rfl
      · exact (loc_excl l1 ((put_noloc _ _ _ _ _).1 n3)).elim
      · exact (loc_excl ((put_loc _ _ _ _ _ _ _).1 l3) n1).elim
      · rfl
    · rcases h4 with ⟨i4, j4, l4, rfl, rfl⟩ | ⟨n4, -, -⟩
      · obtain ⟨rfl, rfl⟩ := loc_uniq hl ((put_loc _ _ _ _ _ _ _).1 l4)
        exact ⟨rfl, word_same hl.2.1 hl.2.2.2.2.2 n⟩
      · exact (loc_excl hl ((put_noloc _ _ _ _ _).1 n4)).elim
    · rcases h1 with ⟨i1, j1, l1, rfl, -⟩ | ⟨n1, rfl, -⟩ <;> rcases h3 with ⟨i3, j3, l3, rfl, -⟩ | ⟨n3, rfl, -⟩
      · obtain ⟨rfl, rfl⟩ := loc_uniq l1 ((put_loc _ _ _ _ _ _ _).1 l3)
        rw [word_other]
        rintro ⟨rfl, rfl⟩
        exact hne (loc_addr ok hl l1)
      · exact (loc_excl l1 ((put_noloc _ _ _ _ _).1 n3)).elim
      · exact (loc_excl ((put_loc _ _ _ _ _ _ _).1 l3) n1).elim
      · rfl
  · refine ⟨?_, fun e => absurd e (by decide), fun _ => ?_⟩
    · rcases h1 with ⟨i1, j1, l1, -, rfl⟩ | ⟨n1, -, rfl⟩ <;> rcases h3 with ⟨i3, j3, l3, -, rfl⟩ | ⟨n3, -, rfl⟩
      · rfl
      · exact (loc_excl l1 n3).elim
      · exact (loc_excl l3 n1).elim
      · rfl
    · rcases h1 with ⟨i1, j1, l1, rfl, -⟩ | ⟨n1, rfl, -⟩ <;> rcases h3 with ⟨i3, j3, l3, rfl, -⟩ | ⟨n3, rfl, -⟩
      · obtain ⟨rfl, rfl⟩ := loc_uniq l1 l3
        rfl
      · exact (loc_excl l1 n3).elim
      · exact (loc_excl l3 n1).elim
      · rfl

/-- Load and Store, with their answers in one form. -/
theorem load_ans {B : Nat} {w : World} {bm : Nat} {rs : List Reg} {R W : List Int} {br bw nr nw : Nat} {lv : Value} {bs : List Nat} (h : MemV B w bm rs R W br bw nr nw lv bs) (ho : AllOk rs) (x : Int) (hx : (Lit.int .i64 x).wf = true) (hn : nr < maxLen) (hB : B ≤ w.heap.size) :
    Calls Try.prog 20 #[.pointer (some ⟨bm, 0, none⟩), .int .i64 x] w fun e w' => Below B w w' ∧ ∃ v er R' nr', e = .returned (.tuple #[.int .i64 v, .int .i64 er]) ∧ Ans rs x v er ∧ nr' ≤ nr + 1 ∧ MemV B w' bm rs R' W br bw nr' nw lv bs := by
  refine (load_any h ho x hx hn hB).mono ?_
  rintro e w' ⟨hb, ⟨i, j, hl, rfl, hm⟩ | ⟨hl, rfl, hm⟩⟩
  · exact ⟨hb, _, _, _, _, rfl, .inl ⟨i, j, hl, rfl, rfl⟩, Nat.le_refl _, hm⟩
  · exact ⟨hb, _, _, _, _, rfl, .inr ⟨hl, rfl, rfl⟩, Nat.le_succ _, hm⟩
theorem store_ans {B : Nat} {w : World} {bm : Nat} {rs : List Reg} {R W : List Int} {br bw nr nw : Nat} {lv : Value} {bs : List Nat} (h : MemV B w bm rs R W br bw nr nw lv bs) (ho : AllOk rs) (x n : Int) (hx : (Lit.int .i64 x).wf = true) (hw : (Lit.int .i64 n).wf = true) (hn : nw < maxLen) (hB : B ≤ w.heap.size) :
    Calls Try.prog 12 #[.pointer (some ⟨bm, 0, none⟩), .int .i64 x, .int .i64 n] w fun e w' => Below B w w' ∧ ∃ g rs' W' nw', e = .returned (.int .i64 g) ∧ StAns rs x n g rs' ∧ AllOk rs' ∧ nw' ≤ nw + 1 ∧ MemV B w' bm rs' R W' br bw nr nw' lv bs := by
  refine (store_any h ho x n hx hw hn hB).mono ?_
  rintro e w' ⟨hb, ⟨i, j, hl, -, rfl, hm⟩ | ⟨-, rfl, hm⟩⟩
  · exact ⟨hb, _, _, _, _, rfl, .inl ⟨i, j, hl, rfl, rfl⟩, put_ok ho i j n, Nat.le_refl _, hm⟩
  · exact ⟨hb, _, _, _, _, rfl, .inr ⟨rfl, rfl⟩, ho, Nat.le_succ _, hm⟩

end Go.Proofs.Ytfkpbmopneleiaa

/- Rows of tokens. -/
import Derived.Test.YtikknlkdbjaonaaGreatDoorPBAd
import Derived.Deep.AppendLies
import Derived.Laws.OwnMore
import Derived.Test.YtikknlkdbjaonaaGreatDoorPBAa
import Derived.WalkKit
import Derived.WalkSpells
import Derived.WalkLawsBesides
import Derived.Deep.RegionHeld3
import Derived.Deep.CutRange
import Derived.Deep.AppendSrc
import Derived.OrdersHeld
namespace Go.Proofs.YtikknlkdbjaonaaGreatDoor
open Go.RowKit Go.Maps Go.Lib
set_option linter.unusedVariables false
set_option linter.unusedSimpArgs false

theorem infoT : (Tryz.prog.info? 48).map (fun i => (i.zero, i.size, i.bytes)) = some (some (.agg #[.int .i64 0, .string { data := #[] }, .int .i64 0, .int .i64 0]), 4, 40) := by kernel_rfl
/-- A token's cells. -/
def tokC (t : X.Tok) : List Value := [.int .i64 t.kind, .string (X.str t.text), .int .i64 t.n, .int .i64 t.at']
theorem tokC_len (t : X.Tok) : (tokC t).length = 4 := rfl
theorem gb_setO (w : World) (a : Addr) (u : Value) : w.grownBy (w.setCell a u) (some a.block) :=
  ⟨rfl, rfl, rfl, by rw [World.size_setCell]; exact Nat.le_refl _, fun k _ hk => Below.heap_setCell _ _ _ _ (fun e => hk (by rw [e]))⟩
theorem own_base {w : World} {B B' : Nat} {v : Value} {e : TypeId} {size n : Nat} {xs : List Value} (o : w.ownsRow B e size v n xs) (h : B' ≤ B) : w.ownsRow B' e size v n xs := by
  refine ⟨o.1, ?_⟩
  rcases o.2 with h1 | ⟨g, cap, cur, h1, h2, h3⟩
  · exact .inl h1
  · exact .inr ⟨g, cap, cur, h1, Nat.le_trans h h2, h3⟩
theorem flat_at {α : Type} (f : α → List Value) (m : Nat) (d : α) (hm : ∀ x, (f x).length = m) : ∀ (l : List α) (i j : Nat), i < l.length → j < m → (l.flatMap f)[i * m + j]? = (f (l.getD i d))[j]?
  | [], i, j, hi, _ => by simp at hi
  | x :: l, 0, j, hi, hj => by
    rw [List.flatMap_cons, Nat.zero_mul, Nat.zero_add, List.getElem?_append_left (by rw [hm]; exact hj)]
    rfl
  | x :: l, i + 1, j, hi, hj => by
    rw [List.flatMap_cons, List.getElem?_append_right (by rw [hm, Nat.succ_mul]; omega), hm, show (i + 1) * m + j - m = i * m + j by rw [Nat.succ_mul]; omega, flat_at f m d hm l i j (by simpa using hi) hj]
    rfl
theorem row_thru {w w1 : World} {B : Nat} {ty : TypeId} {k : Nat} {u : Value} {n : Nat} {cs : List Value} (hu : w.ownsRow B ty k u n cs) (hb : Below w.heap.size w w1) : w1.ownsRow B ty k u n cs := by
  have g : w.grownBy w1 none := ⟨hb.os, hb.tape, hb.output, hb.size, fun k hk _ => hb.block k hk⟩
  cases e : u.ownBlock with
  | none => exact hu.kept g (.inl e)
  | some b => exact hu.kept g (.inr (by rw [e]; simp))
/-- A list of tokens as it lies. -/
structure TV (w : World) (a : Option Addr) (n c : Nat) (ts : List X.Tok) : Prop where
  count : ts.length = n
  room : n ≤ c ∧ c ≤ maxLen
  cells : n = 0 ∨ ∃ b off, a = some ⟨b, off, none⟩ ∧ ∀ i, i < n → ∀ j u, j < 4 → (tokC (ts.getD i ⟨0, [], 0, 0⟩))[j]? = some u → w.cell? ⟨b, off + i * 4 + j, none⟩ = some u
theorem TV.of_own {w : World} {B : Nat} {a : Option Addr} {n c : Nat} {ts : List X.Tok} (h : w.ownsRow B 48 4 (.slice a n c) n (ts.flatMap tokC)) (hn : ts.length = n) : TV w a n c ts := by
  rcases h.2 with ⟨e1, rfl⟩ | ⟨g, cap, cur, e1, hb, hh, h1, h2, h3, h4⟩
  · cases e1; exact ⟨hn, ⟨Nat.le_refl _, Nat.zero_le _⟩, .inl rfl⟩
  · cases e1
    refine ⟨hn, ⟨h1, h2⟩, .inr ⟨g, 0, rfl, fun i hi j u hj hu => ?_⟩⟩
    have hlt : i * 4 + j < n * 4 := by omega
    rw [Nat.zero_add, h.cellAt _ hlt, flat_at tokC 4 ⟨0, [], 0, 0⟩ tokC_len ts i j (by omega) hj]
    exact hu
theorem cell_thru {w w1 : World} (hb : Below w.heap.size w w1) {b o : Nat} {u : Value} (h : w.cell? ⟨b, o, none⟩ = some u) : w1.cell? ⟨b, o, none⟩ = some u :=
  (hb.cell (p := ⟨b, o, none⟩) (World.block_lt_of_cell? w ⟨b, o, none⟩ h)).trans h
theorem TV.below {w w1 : World} {a : Option Addr} {n c : Nat} {ts : List X.Tok} (h : TV w a n c ts) (hb : Below w.heap.size w w1) : TV w1 a n c ts := by
  refine ⟨h.count, h.room, ?_⟩
  rcases h.cells with h0 | ⟨b, off, e, hc⟩
  · exact .inl h0
  · exact .inr ⟨b, off, e, fun i hi j u hj hu => cell_thru hb (hc i hi j u hj hu)⟩
/-- What Lex leaves: its row is its own. -/
def LexOut (w : World) (r : List X.Tok × Nat) (e : Ending) (w' : World) : Prop :=
  ∃ a n c, e = .returned (.tuple #[.slice a n c, .int .i64 r.2]) ∧ w'.ownsRow w.heap.size 48 4 (.slice a n c) n (r.1.flatMap tokC) ∧ r.1.length = n ∧ Below w.heap.size w w'
theorem LexOut.none (w w' : World) {z : Nat} {r : List X.Tok × Nat} (h : r = ([], z)) (hb : Below w.heap.size w w') : LexOut w r (.returned (.tuple #[.slice none 0 0, .int .i64 z])) w' := by
  subst h
  exact ⟨_, _, _, rfl, World.ownsRow_nil _ _ _ _, rfl, hb⟩
/-- A row that grew by one token. -/
theorem below_grown {B : Nat} {w x y : World} {v : Value} {e : TypeId} {k n : Nat} {cs : List Value} (hb : Below B w x) (ho : x.ownsRow B e k v n cs) (hg : x.grownBy y v.ownBlock) (hw : B ≤ x.heap.size) : Below B w y :=
  ⟨hg.os.trans hb.os, hg.tape.trans hb.tape, hg.output.trans hb.output, Nat.le_trans hb.size hg.size, fun i hi => (hg.block i (by omega) (fun e => by have := (ho.lt i e.symm).1; omega)).trans (hb.block i hi)⟩

end Go.Proofs.YtikknlkdbjaonaaGreatDoor

/- Expressions and statements of a source, as mathematics: what the grammar reads, from where, and how far. -/
namespace Go.Proofs.YtikknlkdbjaonaaGreatDoor.Y
open X
structure Exp where
  kind : Int
  op : By
  name : By
  n : Int
  l : Int
  r : Int
  deriving DecidableEq
structure Stmt where
  kind : Int
  name : By
  fn : By
  e : Int
  i : Int
  args : List Int
  body : List Int
  els : List Int
  deriving DecidableEq
structure Decl where
  kind : Int
  name : By
  ext : Bool
  n : Int
  by' : By
  params : List By
  count : Int
  rank : Int
  body : List Int
  deriving DecidableEq
structure Mod where
  decls : List Decl
  stmts : List Stmt
  exps : List Exp
  deriving DecidableEq
def noTok : Tok := ⟨0, [], 0, 0⟩
def tk (ts : List Tok) (i : Nat) : Tok := ts.getD i noTok
theorem tk_out {ts : List Tok} {i : Nat} (h : ts.length ≤ i) : tk ts i = noTok := by unfold tk; rw [List.getD_eq_getElem?_getD, List.getElem?_eq_none h]; rfl
theorem in_of_kind {ts : List Tok} {i : Nat} (h : (tk ts i).kind ≠ 0) : i < ts.length := by
  by_cases hi : i < ts.length
  · exact hi
  · rw [tk_out (by omega)] at h; exact absurd rfl h
theorem in_of_text {ts : List Tok} {i : Nat} {c : UInt8} {l : By} (h : (tk ts i).text = c :: l) : i < ts.length := by
  by_cases hi : i < ts.length
  · exact hi
  · rw [tk_out (by omega)] at h; cases h
/-- The operators and their levels: the greater one binds closer. -/
def ops : List (By × Nat) := [([124, 124], 1), ([38, 38], 2), ([124], 3), ([94], 4), ([38], 5), ([61, 61], 6), ([33, 61], 6), ([60], 7), ([60, 61], 7), ([62], 7), ([62, 61], 7), ([60, 60], 8), ([62, 62], 8), ([43], 9), ([45], 9), ([42], 10), ([47], 10), ([37], 10)]
def lev (s : By) : Nat := ((ops.find? fun o => decide (o.1 = s)).map (·.2)).getD 0
theorem lev_nil : lev [] = 0 := by decide
theorem lev_in {ts : List Tok} {i lv : Nat} (h1 : 1 ≤ lv) (h : lv ≤ lev (tk ts i).text) : i < ts.length := by
  by_cases hi : i < ts.length
  · exact hi
  · rw [tk_out (by omega)] at h
    have : lev noTok.text = 0 := lev_nil
    omega
mutual
/-- What stands without a binary operator: its number, where it ends, the list. -/
def un (ts : List Tok) : Nat → Nat → Nat → List Exp → Option (Nat × Nat × List Exp)
  | 0, _, _, _ => none
  | f + 1, d, i, E =>
    if (tk ts i).text = [45] ∨ (tk ts i).text = [33] then
      if 20 ≤ d then none else match un ts f (d + 1) (i + 1) E with
        | none => none
        | some (x, j, E') => some (E'.length, j, E' ++ [⟨4, (tk ts i).text, [], 0, x, 0⟩])
    else if (tk ts i).text = [40] then
      if 20 ≤ d then none else match bin ts f 1 (d + 1) (i + 1) E with
        | none => none
        | some (x, j, E') => if (tk ts j).text = [41] then some (x, j + 1, E') else none
    else if (tk ts i).kind = 1 then some (E.length, i + 1, E ++ [⟨1, [], [], (tk ts i).n, 0, 0⟩])
    else if (tk ts i).kind = 2 then
      if (tk ts (i + 1)).text = [91] then
        if 20 ≤ d then none else match bin ts f 1 (d + 1) (i + 2) E with
          | none => none
          | some (x, j, E') => if (tk ts j).text = [93] then some (E'.length, j + 1, E' ++ [⟨3, [], (tk ts i).text, 0, x, 0⟩]) else none
      else some (E.length, i + 1, E ++ [⟨2, [], (tk ts i).text, 0, 0, 0⟩])
    else none
/-- What binds at least as close as a level. -/
def bin (ts : List Tok) : Nat → Nat → Nat → Nat → List Exp → Option (Nat × Nat × List Exp)
  | 0, _, _, _, _ => none
  | f + 1, lv, d, i, E => match un ts f d i E with
    | none => none
    | some (x, j, E') => lp ts f lv d x j E'
/-- What goes on behind a left side. -/
def lp (ts : List Tok) : Nat → Nat → Nat → Nat → Nat → List Exp → Option (Nat × Nat × List Exp)
  | 0, _, _, _, _, _ => none
  | f + 1, lv, d, x, j, E =>
    if lv ≤ lev (tk ts j).text then match bin ts f (lev (tk ts j).text + 1) d (j + 1) E with
      | none => none
      | some (y, k, E') => lp ts f lv d E'.length k (E' ++ [⟨5, (tk ts j).text, [], 0, x, y⟩])
    else some (x, j, E)
end
/-- What was read lies ahead of what comes. -/
theorem on (ts : List Tok) : ∀ f, (∀ d i E x j E', un ts f d i E = some (x, j, E') → i < j ∧ j ≤ ts.length) ∧ (∀ lv d i E x j E', 1 ≤ lv → bin ts f lv d i E = some (x, j, E') → i < j ∧ j ≤ ts.length) ∧ (∀ lv d x i E x' j E', 1 ≤ lv → i ≤ ts.length → lp ts f lv d x i E = some (x', j, E') → i ≤ j ∧ j ≤ ts.length)
  | 0 => ⟨fun _ _ _ _ _ _ h => by simp [un] at h, fun _ _ _ _ _ _ _ _ h => by simp [bin] at h, fun _ _ _ _ _ _ _ _ _ _ h => by simp [lp] at h⟩
  | f + 1 => by
    obtain ⟨h1, h2, h3⟩ := on ts f
    refine ⟨fun d i E x j E' h => ?_, fun lv d i E x j E' hl h => ?_, fun lv d x i E x' j E' hl hi h => ?_⟩
    · rw [un] at h
      split at h
      · split at h
        · cases h
        · split at h
          · cases h
          · rename_i he
            injection h with h; injection h with _ h; injection h with h _; subst h
            have := h1 _ _ _ _ _ _ he
            omega
      · split at h
        · split at h
          · cases h
          · split at h
            · cases h
            · rename_i he
              split at h
              · rename_i ht
                injection h with h; injection h with _ h; injection h with h _; subst h
                have := h2 _ _ _ _ _ _ _ (Nat.le_refl _) he
                have := in_of_text ht
                omega
              · cases h
        · split at h
          · rename_i hk
            injection h with h; injection h with _ h; injection h with h _; subst h
            have := in_of_kind (ts := ts) (i := i) (by rw [hk]; decide)
            omega
          · split at h
            · split at h
              · split at h
                · cases h
                · split at h
                  · cases h
                  · rename_i he
                    split at h
                    · rename_i ht
                      injection h with h; injection h with _ h; injection h with h _; subst h
                      have := h2 _ _ _ _ _ _ _ (Nat.le_refl _) he
                      have := in_of_text ht
                      omega
                    · cases h
              · rename_i hk _
                injection h with h; injection h with _ h; injection h with h _; subst h
                have := in_of_kind (ts := ts) (i := i) (by rw [hk]; decide)
                omega
            · cases h
    · rw [bin] at h
      split at h
      · cases h
      · rename_i he
        have h4 := h1 _ _ _ _ _ _ he
        have h5 := h3 _ _ _ _ _ _ _ _ hl h4.2 h
        omega
    · rw [lp] at h
      split at h
      · rename_i hle
        split at h
        · cases h
        · rename_i he
          have h4 := h2 _ _ _ _ _ _ _ (Nat.le_add_left _ _) he
          have h5 := h3 _ _ _ _ _ _ _ _ hl h4.2 h
          omega
      · injection h with h; injection h with _ h; injection h with h _; subst h
        omega
/-- How much fuel there is tells nothing. -/
theorem fuel (ts : List Tok) : ∀ f g, (∀ d i E, 3 * (ts.length - i) + 1 ≤ f → 3 * (ts.length - i) + 1 ≤ g → un ts f d i E = un ts g d i E) ∧ (∀ lv d i E, 1 ≤ lv → 3 * (ts.length - i) + 2 ≤ f → 3 * (ts.length - i) + 2 ≤ g → bin ts f lv d i E = bin ts g lv d i E) ∧ (∀ lv d x i E, 1 ≤ lv → 3 * (ts.length - i) + 1 ≤ f → 3 * (ts.length - i) + 1 ≤ g → lp ts f lv d x i E = lp ts g lv d x i E)
  | 0, _ => ⟨fun _ _ _ h => by omega, fun _ _ _ _ _ h => by omega, fun _ _ _ _ _ _ h => by omega⟩
  | f + 1, 0 => ⟨fun _ _ _ _ h => by omega, fun _ _ _ _ _ _ h => by omega, fun _ _ _ _ _ _ _ h => by omega⟩
  | f + 1, g + 1 => by
    obtain ⟨h1, h2, h3⟩ := fuel ts f g
    refine ⟨fun d i E hf hg => ?_, fun lv d i E hl hf hg => ?_, fun lv d x i E hl hf hg => ?_⟩
    · rw [un, un]
      by_cases c1 : (tk ts i).text = [45] ∨ (tk ts i).text = [33]
      · have hi : i < ts.length := by rcases c1 with c | c <;> exact in_of_text c
        rw [if_pos c1, if_pos c1, h1 _ (i + 1) _ (by omega) (by omega)]
      rw [if_neg c1, if_neg c1]
      by_cases c2 : (tk ts i).text = [40]
      · have hi : i < ts.length := in_of_text c2
        rw [if_pos c2, if_pos c2, h2 _ _ (i + 1) _ (Nat.le_refl _) (by omega) (by omega)]
      rw [if_neg c2, if_neg c2]
      by_cases c3 : (tk ts i).kind = 1
      · rw [if_pos c3, if_pos c3]
      rw [if_neg c3, if_neg c3]
      by_cases c4 : (tk ts i).kind = 2
      · have hi : i < ts.length := in_of_kind (by rw [c4]; decide)
        rw [if_pos c4, if_pos c4, h2 _ _ (i + 2) _ (Nat.le_refl _) (by omega) (by omega)]
      · rw [if_neg c4, if_neg c4]
    · rw [bin, bin, h1 _ _ _ (by omega) (by omega)]
      cases he : un ts g d i E with
      | none => rfl
      | some r =>
        obtain ⟨x, j, E'⟩ := r
        have := (on ts g).1 _ _ _ _ _ _ he
        exact h3 _ _ _ _ _ hl (by omega) (by omega)
    · rw [lp, lp]
      by_cases c1 : lv ≤ lev (tk ts i).text
      · have hi := lev_in hl c1
        rw [if_pos c1, if_pos c1, h2 _ _ (i + 1) _ (Nat.le_add_left _ _) (by omega) (by omega)]
        cases he : bin ts g (lev (tk ts i).text + 1) d (i + 1) E with
        | none => rfl
        | some r =>
          obtain ⟨y, k, E'⟩ := r
          have := (on ts g).2.1 _ _ _ _ _ _ _ (Nat.le_add_left _ _) he
          exact h3 _ _ _ _ _ hl (by omega) (by omega)
      · rw [if_neg c1, if_neg c1]
def fu (ts : List Tok) : Nat := 3 * ts.length + 2
def Un (ts : List Tok) (d i : Nat) (E : List Exp) := un ts (fu ts + 1) d i E
def Bin (ts : List Tok) (lv d i : Nat) (E : List Exp) := bin ts (fu ts + 1) lv d i E
def Lp (ts : List Tok) (lv d x i : Nat) (E : List Exp) := lp ts (fu ts + 1) lv d x i E
theorem un_fu (ts : List Tok) (d i : Nat) (E : List Exp) : un ts (fu ts) d i E = Un ts d i E := (fuel ts _ _).1 _ _ _ (by unfold fu; omega) (by unfold fu; omega)
theorem bin_fu (ts : List Tok) {lv : Nat} (d i : Nat) (E : List Exp) (h : 1 ≤ lv) : bin ts (fu ts) lv d i E = Bin ts lv d i E := (fuel ts _ _).2.1 _ _ _ _ h (by unfold fu; omega) (by unfold fu; omega)
theorem lp_fu (ts : List Tok) {lv : Nat} (d x i : Nat) (E : List Exp) (h : 1 ≤ lv) : lp ts (fu ts) lv d x i E = Lp ts lv d x i E := (fuel ts _ _).2.2 _ _ _ _ _ h (by unfold fu; omega) (by unfold fu; omega)
theorem Un_eq (ts : List Tok) (d i : Nat) (E : List Exp) : Un ts d i E =
    if (tk ts i).text = [45] ∨ (tk ts i).text = [33] then
      if 20 ≤ d then none else match Un ts (d + 1) (i + 1) E with
        | none => none
        | some (x, j, E') => some (E'.length, j, E' ++ [⟨4, (tk ts i).text, [], 0, x, 0⟩])
    else if (tk ts i).text = [40] then
      if 20 ≤ d then none else match Bin ts 1 (d + 1) (i + 1) E with
        | none => none
        | some (x, j, E') => if (tk ts j).text = [41] then some (x, j + 1, E') else none
    else if (tk ts i).kind = 1 then some (E.length, i + 1, E ++ [⟨1, [], [], (tk ts i).n, 0, 0⟩])
    else if (tk ts i).kind = 2 then
      if (tk ts (i + 1)).text = [91] then
        if 20 ≤ d then none else match Bin ts 1 (d + 1) (i + 2) E with
          | none => none
          | some (x, j, E') => if (tk ts j).text = [93] then some (E'.length, j + 1, E' ++ [⟨3, [], (tk ts i).text, 0, x, 0⟩]) else none
      else some (E.length, i + 1, E ++ [⟨2, [], (tk ts i).text, 0, 0, 0⟩])
    else none := by
  rw [Un, un, un_fu, bin_fu ts _ _ _ (Nat.le_refl _), bin_fu ts _ _ _ (Nat.le_refl _)]
theorem Bin_eq (ts : List Tok) {lv : Nat} (d i : Nat) (E : List Exp) (h : 1 ≤ lv) : Bin ts lv d i E = match Un ts d i E with
    | none => none
    | some (x, j, E') => Lp ts lv d x j E' := by
  rw [Bin, bin, un_fu]
  cases Un ts d i E with
  | none => rfl
  | some r => exact lp_fu ts _ _ _ _ h
theorem Lp_eq (ts : List Tok) {lv : Nat} (d x i : Nat) (E : List Exp) (h : 1 ≤ lv) : Lp ts lv d x i E =
    if lv ≤ lev (tk ts i).text then match Bin ts (lev (tk ts i).text + 1) d (i + 1) E with
      | none => none
      | some (y, k, E') => Lp ts lv d E'.length k (E' ++ [⟨5, (tk ts i).text, [], 0, x, y⟩])
    else some (x, i, E) := by
  rw [Lp, lp, bin_fu ts _ _ _ (Nat.le_add_left _ _)]
  cases Bin ts (lev (tk ts i).text + 1) d (i + 1) E with
  | none => rfl
  | some r => simp only [lp_fu ts _ _ _ _ h]
theorem Un_on {ts : List Tok} {d i x j : Nat} {E E' : List Exp} (h : Un ts d i E = some (x, j, E')) : i < j ∧ j ≤ ts.length := (on ts _).1 _ _ _ _ _ _ h
theorem Bin_on {ts : List Tok} {lv d i x j : Nat} {E E' : List Exp} (hl : 1 ≤ lv) (h : Bin ts lv d i E = some (x, j, E')) : i < j ∧ j ≤ ts.length := (on ts _).2.1 _ _ _ _ _ _ _ hl h
theorem Lp_on {ts : List Tok} {lv d x i x' j : Nat} {E E' : List Exp} (hl : 1 ≤ lv) (hi : i ≤ ts.length) (h : Lp ts lv d x i E = some (x', j, E')) : i ≤ j ∧ j ≤ ts.length := (on ts _).2.2 _ _ _ _ _ _ _ _ hl hi h
end Go.Proofs.YtikknlkdbjaonaaGreatDoor.Y

/- Small facts about worlds, blocks and rows: what a parser turns, and what stays. -/
namespace Go.Proofs.YtikknlkdbjaonaaGreatDoor.Y
open Go.RowKit Go.Maps
set_option linter.unusedVariables false
set_option linter.unusedSimpArgs false
theorem tA {l : List Oper} {i : Nat} {y : Oper} (h : l[i]? = some y) : (List.toArray l)[i]? = some y := by simpa using h
theorem tk' {P : Program} {ops : Array Oper} {Q : Exit → Act → World → Prop} {md : Region.Mode} {S : World → Prop} {i : Nat} {oi : Oper} {v : Value} {fuel : Nat} {listed : Array Bool} {a : Act} {w : World} (hi : ops[i]? = some oi) (hb : (Region.noSelect ops && (Region.free md ops listed i && (Region.ready md ops listed).contains i)) = true)
    (hQ : ∀ c a w, Q (.panic c) (a.put oi.dst v) w → Q (.panic c) a w) (hy : YieldsIf P ops S oi v a) (hS : S w) (h : wpAnyH P md ops Q S fuel (listed.setIfInBounds i true) (a.put oi.dst v) w) : wpAnyH P md ops Q S (fuel + 1) listed a w :=
  wpAnyH_take hi (Bool.and_eq_true_iff.1 hb).1 (Bool.and_eq_true_iff.1 (Bool.and_eq_true_iff.1 hb).2).1 (Bool.and_eq_true_iff.1 (Bool.and_eq_true_iff.1 hb).2).2 hQ hy hS h
theorem tj {P : Program} {l : List Oper} {Q : Exit → Act → World → Prop} {md : Region.Mode} {S : World → Prop} {oi : Oper} {fuel : Nat} {listed : Array Bool} {a : Act} {w : World} {v : Value} (i : Nat) (h : wpAnyH P md l.toArray Q S fuel (listed.setIfInBounds i true) (a.put oi.dst v) w) (hi : l[i]? = some oi := by rfl) (hb : (Region.noSelect l.toArray && (Region.free md l.toArray listed i && (Region.ready md l.toArray listed).contains i)) = true := by kernel_rfl) (hg : Region.wanted oi (yielded l.toArray a.tmps) = true := by rfl) (hy : ∀ w, S w → (execOp a.eval oi).run P w = .ok (.value v) w := by intro w hSw; (try dsimp only at hSw); go_simp <;> with_reducible rfl) (hQ : ∀ c a w, Q (.panic c) (a.put oi.dst v) w → Q (.panic c) a w := by exact fun _ _ _ h => h) (hS : S w := by assumption) : wpAnyH P md l.toArray Q S (fuel + 1) listed a w := tk' (tA hi) hb hQ (Or.inl ⟨hg, hy⟩) hS h
theorem tu {P : Program} {l : List Oper} {Q : Exit → Act → World → Prop} {md : Region.Mode} {S : World → Prop} {oi : Oper} {fuel : Nat} {listed : Array Bool} {a : Act} {w : World} (i : Nat) (h : wpAnyH P md l.toArray Q S fuel (listed.setIfInBounds i true) (a.put oi.dst undef) w) (hi : l[i]? = some oi := by rfl) (hb : (Region.noSelect l.toArray && (Region.free md l.toArray listed i && (Region.ready md l.toArray listed).contains i)) = true := by kernel_rfl) (hg : Region.wanted oi (yielded l.toArray a.tmps) = false := by rfl) (hQ : ∀ c a w, Q (.panic c) (a.put oi.dst undef) w → Q (.panic c) a w := by exact fun _ _ _ h => h) (hS : S w := by assumption) : wpAnyH P md l.toArray Q S (fuel + 1) listed a w := tk' (tA hi) hb hQ (Or.inr ⟨hg, rfl⟩) hS h
theorem tr {P : Program} {ops : Array Oper} {Q : Exit → Act → World → Prop} {md : Region.Mode} {S : World → Prop} {fuel : Nat} {listed : Array Bool} {a : Act} {w : World} (rs : List Nat) (h : AllReadyH P md ops Q S fuel listed a w rs) (hr : Region.ready md ops listed = rs := by kernel_rfl) (hne : rs ≠ [] := by simp) : wpAnyH P md ops Q S (fuel + 1) listed a w := wpAnyH_ready hr hne h
theorem zA {α : Type} {l : List α} {i : Nat} {a : α} : l.toArray.setIfInBounds i a = (l.set i a).toArray := List.setIfInBounds_toArray ..
theorem zB {α : Type} {x : α} {xs : List α} {a : α} : (x :: xs).set 0 a = a :: xs := rfl
theorem zC {α : Type} {x : α} {xs : List α} {i : Nat} {a : α} : (x :: xs).set (i + 1) a = x :: xs.set i a := rfl
theorem bl1 (w : World) (o : Obj) : Below w.heap.size w (w.alloc o) := (Below.refl _ _).alloc (Nat.le_refl _) _
theorem cell_thru {W y : World} (hb : Below W.heap.size W y) {p : Addr} {u : Value} (h : W.cell? p = some u) : y.cell? p = some u := (hb.cell (World.block_lt_of_cell? W p h)).trans h
theorem ncell_at {w : World} {cs : Array Value} {t : TypeId} {j : Nat} {u : Value} (h : cs[j]? = some u) : (w.alloc (.cells cs t)).cell? ⟨w.heap.size, j, none⟩ = some u := by simp [h]
theorem heap_new (w : World) (o : Obj) : (w.alloc o).heap[w.heap.size]? = some o := by
  show (w.heap.push o)[w.heap.size]? = some o
  simp
theorem cell_blk {W : World} {q : Nat} {cs : Array Value} {T : TypeId} {fr : Nat × Nat} (h : W.heap[q]? = some (.cells cs T fr)) (j : Nat) {v : Value} (hv : cs[j]? = some v) : W.cell? ⟨q, j, none⟩ = some v := by
  unfold World.cell?
  simp only [h]
  simpa using hv
theorem own_cells {W : World} {B : Nat} {ty : TypeId} {k n : Nat} {v : Value} {cs : List Value} (h : W.ownsRow B ty k v n cs) {b : Nat} (e : v.ownBlock = some b) : ∃ cur, W.heap[b]? = some (.cells cur ty (0, 0)) := by
  rcases h.2 with ⟨e1, -⟩ | ⟨g, cap, cur, e1, -, hh, -⟩
  · rw [e1] at e; cases e
  · rw [e1] at e
    cases e
    exact ⟨cur, hh⟩
theorem blk_ne {W : World} {b q : Nat} {T T' : TypeId} {c c' : Array Value} {f f' : Nat × Nat} (h : W.heap[b]? = some (.cells c T f)) (g : W.heap[q]? = some (.cells c' T' f')) (hT : T ≠ T') : b ≠ q := fun e => by
  subst e
  rw [h] at g
  cases g
  exact hT rfl
theorem blk_fro {W : World} {g o : Nat} {T : TypeId} {cs : Array Value} (h : W.heap[g]? = some (.cells cs T (0, 0))) : W.frozen? ⟨g, o, none⟩ = false := by
  unfold World.frozen?
  simp only [h]
  simp
theorem blk_lt {W : World} {g : Nat} {o : Obj} (h : W.heap[g]? = some o) : g < W.heap.size := (Array.getElem?_eq_some_iff.1 h).1
theorem blk_set {W : World} {b i : Nat} {cs : Array Value} {T : TypeId} (h : W.heap[b]? = some (.cells cs T)) (u : Value) : (W.setCell ⟨b, i, none⟩ u).heap[b]? = some (.cells (cs.setIfInBounds i u) T) := by
  have hlt := blk_lt h
  show (W.heap.modify b _)[b]? = _
  rw [Array.getElem?_eq_getElem (by rw [Array.size_modify]; exact hlt), Array.getElem_modify_self]
  have h2 := (Array.getElem?_eq_some_iff.1 h).2
  rw [h2]
  rfl
theorem blk_thru {W y : World} (hb : Below W.heap.size W y) {b : Nat} {o : Obj} (h : W.heap[b]? = some o) : y.heap[b]? = some o := (hb.block b (blk_lt h)).trans h
/-- Blocks of other types stay, and all those below a bound. -/
structure Kp (Ts : List TypeId) (B : Nat) (w w' : World) : Prop where
  low : Below B w w'
  keep : ∀ (b : Nat) (c : Array Value) (T : TypeId) (f : Nat × Nat), w.heap[b]? = some (Obj.cells c T f) → T ∉ Ts → w'.heap[b]? = some (Obj.cells c T f)
theorem Kp.refl (Ts : List TypeId) (B : Nat) (w : World) : Kp Ts B w w := ⟨Below.refl _ _, fun _ _ _ _ h _ => h⟩
theorem Kp.trans {Ts : List TypeId} {B : Nat} {x y z : World} (h : Kp Ts B x y) (k : Kp Ts B y z) : Kp Ts B x z := ⟨h.low.trans k.low, fun b c T f hb hT => k.keep b c T f (h.keep b c T f hb hT) hT⟩
theorem Kp.wide {Ts Us : List TypeId} {B : Nat} {x y : World} (h : Kp Ts B x y) (hs : ∀ T ∈ Ts, T ∈ Us) : Kp Us B x y := ⟨h.low, fun b c T f hb hT => h.keep b c T f hb fun e => hT (hs T e)⟩
theorem Kp.of {Ts : List TypeId} {B : Nat} {x y : World} (h : Below x.heap.size x y) (hB : B ≤ x.heap.size) : Kp Ts B x y := ⟨h.mono hB, fun b c T f hb _ => blk_thru h hb⟩
theorem Kp.set {Ts : List TypeId} {B b i : Nat} {x : World} {cs : Array Value} {T : TypeId} {f : Nat × Nat} (h : x.heap[b]? = some (.cells cs T f)) (hT : T ∈ Ts) (hB : B ≤ b) (u : Value) : Kp Ts B x (x.setCell ⟨b, i, none⟩ u) :=
  ⟨(Below.refl _ _).setCell (p := ⟨b, i, none⟩) hB u, fun b' c T' f' hb hT' => by
    have hne : b ≠ b' := fun e => by
      subst e
      rw [h] at hb
      cases hb
      exact hT' hT
    show (x.heap.modify b _)[b']? = _
    rw [Array.getElem?_modify, if_neg hne]
    exact hb⟩
/-- A row that grew: its own type alone. -/
theorem Kp.grown {Ts : List TypeId} {B : Nat} {x y : World} {v : Value} {e : TypeId} {k n : Nat} {cs : List Value} (ho : x.ownsRow B e k v n cs) (hg : x.grownBy y v.ownBlock) (he : e ∈ Ts) (hB : B ≤ x.heap.size) : Kp Ts B x y :=
  ⟨⟨hg.os, hg.tape, hg.output, hg.size, fun i hi => hg.block i (by omega) (fun e => by have := (ho.lt i e.symm).1; omega)⟩, fun b c T f hb hT => (hg.block b (blk_lt hb) (fun e' => by
    obtain ⟨cur, hc⟩ := own_cells ho e'.symm
    rw [hb] at hc
    cases hc
    exact hT he)).trans hb⟩
theorem row_kp {Ts : List TypeId} {B C : Nat} {x y : World} {v : Value} {e : TypeId} {k n : Nat} {cs : List Value} (ho : x.ownsRow C e k v n cs) (h : Kp Ts B x y) (he : e ∉ Ts) : y.ownsRow C e k v n cs := by
  refine ⟨ho.1, ?_⟩
  rcases ho.2 with h0 | ⟨g, cap, cur, h1, h2, h3, h4⟩
  · exact .inl h0
  · exact .inr ⟨g, cap, cur, h1, h2, h.keep _ _ _ _ h3 he, h4⟩
theorem row_thru' {C : Nat} {x y : World} {v : Value} {e : TypeId} {k n : Nat} {cs : List Value} (ho : x.ownsRow C e k v n cs) (h : Below x.heap.size x y) : y.ownsRow C e k v n cs := by
  refine ⟨ho.1, ?_⟩
  rcases ho.2 with h0 | ⟨g, cap, cur, h1, h2, h3, h4⟩
  · exact .inl h0
  · exact .inr ⟨g, cap, cur, h1, h2, blk_thru h h3, h4⟩
theorem row_bel {C n : Nat} {x y : World} {v : Value} {e : TypeId} {k m : Nat} {cs : List Value} (ho : x.ownsRow C e k v m cs) (h : Below n x y) (hn : ∀ b, v.ownBlock = some b → b < n) : y.ownsRow C e k v m cs := by
  refine ⟨ho.1, ?_⟩
  rcases ho.2 with h0 | ⟨g, cap, cur, h1, h2, h3, h4⟩
  · exact .inl h0
  · exact .inr ⟨g, cap, cur, h1, h2, (h.block g (hn g (by rw [h1]; rfl))).trans h3, h4⟩
theorem Kp.then {Ts : List TypeId} {B : Nat} {x y z : World} (h : Kp Ts B x y) (hb : Below x.heap.size y z) (hB : B ≤ x.heap.size) : Kp Ts B x z :=
  ⟨h.low.trans (hb.mono hB), fun b c T f h1 hT => (hb.block b (blk_lt h1)).trans (h.keep b c T f h1 hT)⟩
theorem row_nil {C : Nat} {x : World} {e : TypeId} {k : Nat} : x.ownsRow C e k (.slice none 0 0) 0 [] := World.ownsRow_nil _ _ _ _
/-- What fails, always in the same way. -/
def Fails (e : Ending) : Prop := e = .panicked [{ v := .iface 27 (.int .i64 2), recovered := false }]
theorem str_inj {a b : X.By} : X.str a = X.str b ↔ a = b := by
  constructor
  · intro h
    have := congrArg (fun s : ByteArray => s.data.toList) h
    simpa [X.str] using this
  · rintro rfl; rfl
theorem str_dec {a b : X.By} : decide (X.str a = X.str b) = decide (a = b) := by simp [str_inj]
end Go.Proofs.YtikknlkdbjaonaaGreatDoor.Y

/- The program's parser, as it lies. -/
namespace Go.Proofs.YtikknlkdbjaonaaGreatDoor.Y
open Go.RowKit Go.Maps
set_option linter.unusedVariables false
set_option linter.unusedSimpArgs false
/-- What a list of tokens is good for: it ends in the end, and no other one is it. -/
structure Good (ts : List X.Tok) : Prop where
  len : ts.length ≤ 4000
  last : ∀ i, i < ts.length → (tk ts i).kind ≠ 0 → i + 1 < ts.length
  nul : ∀ i, (tk ts i).kind = 0 → (tk ts i).text = []
  pos : 0 < ts.length
  num : ∀ i, (tk ts i).n < 9223372036854775808
  sgn : ∀ i, 0 < lev (tk ts i).text → (tk ts i).kind = 4
  neg : ∀ i, (tk ts i).text = [33] → (tk ts i).kind = 4
theorem Good.on {ts : List X.Tok} (h : Good ts) {i : Nat} (hi : i < ts.length) (ht : (tk ts i).text ≠ []) : i + 1 < ts.length := h.last i hi fun e => ht (h.nul i e)
def tokV (t : X.Tok) : Value := .agg #[.int .i64 t.kind, .string (X.str t.text), .int .i64 t.n, .int .i64 t.at']
/-- The parser's block, and its tokens. -/
structure PB (B : Nat) (ts : List X.Tok) (w : World) (bp : Nat) (a : Option Addr) (c i : Nat) (vd vs ve : Value) (d : Nat) : Prop where
  ge : B ≤ bp
  blk : w.heap[bp]? = some (.cells #[.slice a ts.length c, .int .i64 (i : Int), vd, vs, ve, .int .i64 (d : Int)] 69)
  tok : w.ownsRow B 48 4 (.slice a ts.length c) ts.length (ts.flatMap tokC)
theorem PB.lt {B : Nat} {ts : List X.Tok} {w : World} {bp : Nat} {a : Option Addr} {c i : Nat} {vd vs ve : Value} {d : Nat} (h : PB B ts w bp a c i vd vs ve d) : bp < w.heap.size := blk_lt h.blk
theorem PB.below {B : Nat} {ts : List X.Tok} {w y : World} {bp : Nat} {a : Option Addr} {c i : Nat} {vd vs ve : Value} {d : Nat} (h : PB B ts w bp a c i vd vs ve d) (hb : Below w.heap.size w y) : PB B ts y bp a c i vd vs ve d :=
  ⟨h.ge, blk_thru hb h.blk, row_thru' h.tok hb⟩
theorem PB.bel {B n : Nat} {ts : List X.Tok} {w y : World} {bp : Nat} {a : Option Addr} {c i : Nat} {vd vs ve : Value} {d : Nat} (h : PB B ts w bp a c i vd vs ve d) (hb : Below n w y) (hn : bp < n) (ht : ∀ b, (Value.slice a ts.length c).ownBlock = some b → b < n) : PB B ts y bp a c i vd vs ve d :=
  ⟨h.ge, (hb.block _ hn).trans h.blk, row_bel h.tok hb ht⟩
theorem PB.tl {B : Nat} {ts : List X.Tok} {w : World} {bp : Nat} {a : Option Addr} {c i : Nat} {vd vs ve : Value} {d : Nat} (h : PB B ts w bp a c i vd vs ve d) : ∀ b, (Value.slice a ts.length c).ownBlock = some b → b < w.heap.size := fun b e => (h.tok.lt b e).2
theorem PB.le {B : Nat} {ts : List X.Tok} {w : World} {bp : Nat} {a : Option Addr} {c i : Nat} {vd vs ve : Value} {d : Nat} (h : PB B ts w bp a c i vd vs ve d) : B ≤ w.heap.size := Nat.le_of_lt (Nat.lt_of_le_of_lt h.ge h.lt)
theorem PB.c0 {B : Nat} {ts : List X.Tok} {w : World} {bp : Nat} {a : Option Addr} {c i : Nat} {vd vs ve : Value} {d : Nat} (h : PB B ts w bp a c i vd vs ve d) : w.cell? ⟨bp, 0, none⟩ = some (.slice a ts.length c) := cell_blk h.blk 0 rfl
theorem PB.c1 {B : Nat} {ts : List X.Tok} {w : World} {bp : Nat} {a : Option Addr} {c i : Nat} {vd vs ve : Value} {d : Nat} (h : PB B ts w bp a c i vd vs ve d) : w.cell? ⟨bp, 1, none⟩ = some (.int .i64 (i : Int)) := cell_blk h.blk 1 rfl
theorem PB.c2 {B : Nat} {ts : List X.Tok} {w : World} {bp : Nat} {a : Option Addr} {c i : Nat} {vd vs ve : Value} {d : Nat} (h : PB B ts w bp a c i vd vs ve d) : w.cell? ⟨bp, 2, none⟩ = some vd := cell_blk h.blk 2 rfl
theorem PB.c3 {B : Nat} {ts : List X.Tok} {w : World} {bp : Nat} {a : Option Addr} {c i : Nat} {vd vs ve : Value} {d : Nat} (h : PB B ts w bp a c i vd vs ve d) : w.cell? ⟨bp, 3, none⟩ = some vs := cell_blk h.blk 3 rfl
theorem PB.c4 {B : Nat} {ts : List X.Tok} {w : World} {bp : Nat} {a : Option Addr} {c i : Nat} {vd vs ve : Value} {d : Nat} (h : PB B ts w bp a c i vd vs ve d) : w.cell? ⟨bp, 4, none⟩ = some ve := cell_blk h.blk 4 rfl
theorem PB.c5 {B : Nat} {ts : List X.Tok} {w : World} {bp : Nat} {a : Option Addr} {c i : Nat} {vd vs ve : Value} {d : Nat} (h : PB B ts w bp a c i vd vs ve d) : w.cell? ⟨bp, 5, none⟩ = some (.int .i64 (d : Int)) := cell_blk h.blk 5 rfl
theorem PB.fro {B : Nat} {ts : List X.Tok} {w : World} {bp : Nat} {a : Option Addr} {c i : Nat} {vd vs ve : Value} {d : Nat} (h : PB B ts w bp a c i vd vs ve d) (o : Nat) : w.frozen? ⟨bp, o, none⟩ = false := blk_fro h.blk
/-- A token's cells. -/
theorem PB.tk {B : Nat} {ts : List X.Tok} {w : World} {bp : Nat} {a : Option Addr} {c i : Nat} {vd vs ve : Value} {d : Nat} (h : PB B ts w bp a c i vd vs ve d) : ∀ k, k < ts.length → ∃ g, a = some ⟨g, 0, none⟩ ∧ w.cell? ⟨g, k * 4, none⟩ = some (.int .i64 (tk ts k).kind) ∧ w.cell? ⟨g, k * 4 + 1, none⟩ = some (.string (X.str (tk ts k).text)) ∧ w.cell? ⟨g, k * 4 + 2, none⟩ = some (.int .i64 (tk ts k).n) ∧ w.cell? ⟨g, k * 4 + 3, none⟩ = some (.int .i64 (tk ts k).at') := fun k hk => by
  rcases h.tok.2 with ⟨e1, e2⟩ | ⟨g, cap, cur, e1, -⟩
  · omega
  · injection e1 with e1 _ e3
    subst e1 e3
    have hf := fun j (hj : j < 4) => h.tok.cellAt (k * 4 + j) (by omega)
    have hl := fun j (hj : j < 4) => flat_at tokC 4 noTok tokC_len ts k j hk hj
    have e : Y.tk ts k = ts.getD k noTok := rfl
    refine ⟨g, rfl, ?_, ?_, ?_, ?_⟩
    · have := hf 0 (by decide); rw [hl 0 (by decide), ← e] at this; exact this
    · have := hf 1 (by decide); rw [hl 1 (by decide), ← e] at this; exact this
    · have := hf 2 (by decide); rw [hl 2 (by decide), ← e] at this; exact this
    · have := hf 3 (by decide); rw [hl 3 (by decide), ← e] at this; exact this
/-- One further. -/
theorem PB.at {B : Nat} {ts : List X.Tok} {w : World} {bp : Nat} {a : Option Addr} {c i : Nat} {vd vs ve : Value} {d : Nat} (h : PB B ts w bp a c i vd vs ve d) (z : Int) (j : Nat) (hz : z = (j : Int)) : PB B ts (w.setCell ⟨bp, 1, none⟩ (.int .i64 z)) bp a c j vd vs ve d ∧ Kp [69] B w (w.setCell ⟨bp, 1, none⟩ (.int .i64 z)) := by
  subst hz
  have hk : Kp [69] B w (w.setCell ⟨bp, 1, none⟩ (.int .i64 j)) := Kp.set h.blk (by decide) h.ge _
  exact ⟨⟨h.ge, blk_set h.blk _, row_kp h.tok hk (by decide)⟩, hk⟩
theorem PB.deep {B : Nat} {ts : List X.Tok} {w : World} {bp : Nat} {a : Option Addr} {c i : Nat} {vd vs ve : Value} {d : Nat} (h : PB B ts w bp a c i vd vs ve d) (z : Int) (j : Nat) (hz : z = (j : Int)) : PB B ts (w.setCell ⟨bp, 5, none⟩ (.int .i64 z)) bp a c i vd vs ve j ∧ Kp [69] B w (w.setCell ⟨bp, 5, none⟩ (.int .i64 z)) := by
  subst hz
  have hk : Kp [69] B w (w.setCell ⟨bp, 5, none⟩ (.int .i64 j)) := Kp.set h.blk (by decide) h.ge _
  exact ⟨⟨h.ge, blk_set h.blk _, row_kp h.tok hk (by decide)⟩, hk⟩
end Go.Proofs.YtikknlkdbjaonaaGreatDoor.Y

/- The program's tokens, one by one. -/
namespace Go.Proofs.YtikknlkdbjaonaaGreatDoor.Y
open Go.RowKit Go.Maps
set_option linter.unusedVariables false
set_option linter.unusedSimpArgs false
set_option maxRecDepth 100000 in
set_option maxHeartbeats 1000000 in
theorem now_any {B : Nat} {ts : List X.Tok} {w : World} {bp : Nat} {a : Option Addr} {c i : Nat} {vd vs ve : Value} {d : Nat} (h : PB B ts w bp a c i vd vs ve d) (hi : i < ts.length) : Calls Tryz.prog 53 #[.pointer (some ⟨bp, 0, none⟩)] w fun e w' => e = .returned (tokV (tk ts i)) ∧ Below w.heap.size w w' := by
  obtain ⟨g, rfl, t0, t1, t2, t3⟩ := h.tk i hi
  have HQ : Hid (∀ w', Below w.heap.size w w' → w'.cell? ⟨bp, 0, none⟩ = some (.slice (some ⟨g, 0, none⟩) ts.length c) ∧ w'.cell? ⟨bp, 1, none⟩ = some (.int .i64 (i : Int)) ∧ w'.cell? ⟨g, i * 4, none⟩ = some (.int .i64 (tk ts i).kind) ∧ w'.cell? ⟨g, i * 4 + 1, none⟩ = some (.string (X.str (tk ts i).text)) ∧ w'.cell? ⟨g, i * 4 + 2, none⟩ = some (.int .i64 (tk ts i).n) ∧ w'.cell? ⟨g, i * 4 + 3, none⟩ = some (.int .i64 (tk ts i).at')) := fun y hy => ⟨cell_thru hy h.c0, cell_thru hy h.c1, cell_thru hy t0, cell_thru hy t1, cell_thru hy t2, cell_thru hy t3⟩
  have hk0 : 0 ≤ (i : Int) := by omega
  have hki : (i : Int) < ts.length := by omega
  have hmx : ts.length ≤ maxLen := by rcases h.tok.2 with ⟨e1, e2⟩ | ⟨g, cap, cur, e1, e2, e3, e4, e5, -⟩ <;> omega
  have hm2 : maxLen = 9223372036854775807 := rfl
  obtain ⟨Y, hY⟩ : ∃ Y, w.alloc (.cells #[.int .i64 0, .string { data := #[] }, .int .i64 0, .int .i64 0] 48) = Y := ⟨_, rfl⟩
  obtain ⟨Z, hZ⟩ : ∃ Z, Y.drew = Z := ⟨_, rfl⟩
  have HB : Hid (Below w.heap.size w Z) := by show Below _ _ _; rw [← hZ, ← hY]; exact (bl1 _ _).drew
  have n0 : Z.cell? ⟨w.heap.size, 0, none⟩ = some (.int .i64 0) := by rw [← hZ, ← hY, World.cell?_drew]; exact ncell_at rfl
  have n1 : Z.cell? ⟨w.heap.size, 1, none⟩ = some (.string { data := #[] }) := by rw [← hZ, ← hY, World.cell?_drew]; exact ncell_at rfl
  have n2 : Z.cell? ⟨w.heap.size, 2, none⟩ = some (.int .i64 0) := by rw [← hZ, ← hY, World.cell?_drew]; exact ncell_at rfl
  have n3 : Z.cell? ⟨w.heap.size, 3, none⟩ = some (.int .i64 0) := by rw [← hZ, ← hY, World.cell?_drew]; exact ncell_at rfl
  have z0 : ∀ o, Z.frozen? ⟨w.heap.size, o, none⟩ = false := fun o => by rw [← hZ, ← hY]; exact World.frozen?_alloc_at _ _ _ _ (by simp)
  clear h t0 t1 t2 t3 hi
  go_enter Tryz.func53, Tryz.ntmps53
  go_wp2_with fail
  try rw [hY]
  refine wp_region_held_drew (S := (fun w' : World => w'.cell? ⟨bp, 0, none⟩ = some (.slice (some ⟨g, 0, none⟩) ts.length c) ∧ w'.cell? ⟨bp, 1, none⟩ = some (.int .i64 (i : Int)) ∧ w'.cell? ⟨g, i * 4, none⟩ = some (.int .i64 (tk ts i).kind) ∧ w'.cell? ⟨g, i * 4 + 1, none⟩ = some (.string (X.str (tk ts i).text)) ∧ w'.cell? ⟨g, i * 4 + 2, none⟩ = some (.int .i64 (tk ts i).n) ∧ w'.cell? ⟨g, i * 4 + 3, none⟩ = some (.int .i64 (tk ts i).at'))) (by kernel_rfl) (by rw [hZ]; exact HQ.out _ HB.out) (fun hHeld => ?_)
  rw [hZ]
  rw [hZ] at hHeld
  clear hY hZ
  refine tj 0 ?_
  simp only [Act.put, zA, zB, zC]
  refine tj 1 ?_
  simp only [Act.put, zA, zB, zC]
  refine tj 2 ?_
  simp only [Act.put, zA, zB, zC]
  refine tj 3 ?_
  simp only [Act.put, zA, zB, zC]
  refine tj 4 ?_
  simp only [Act.put, zA, zB, zC]
  refine tj 5 ?_
  simp only [Act.put, zA, zB, zC]
  refine tj 6 ?_
  simp only [Act.put, zA, zB, zC]
  refine tj 7 ?_
  simp only [Act.put, zA, zB, zC]
  refine tj 8 ?_
  simp only [Act.put, zA, zB, zC]
  refine tj 9 ?_
  simp only [Act.put, zA, zB, zC]
  refine tr [10] ?_
  refine AllReadyH.cons (tA rfl) (fun K hK => ?_) AllReadyH.nil
  go_simp
  refine hK.out _ _ (HQ.out _ ((((HB.out.setCell (Nat.le_refl _) _).setCell (Nat.le_refl _) _).setCell (Nat.le_refl _) _).setCell (Nat.le_refl _) _)) (fun hHeld => ?_)
  clear hK K
  try simp only [Act.put, zA, zB, zC]
  refine wpAnyH_done (by kernel_rfl) ?_ _
  clear hHeld
  go_wp2_with fail
  clear hHeld
  refine bodyPost_ret (v := tokV (tk ts i)) ?_ rfl ?_
  · simp [results, Tryz.results53, go_sem, n0, n1, n2, n3, z0, tokV]
  · exact ⟨rfl, ((((HB.out.setCell (Nat.le_refl _) _).setCell (Nat.le_refl _) _).setCell (Nat.le_refl _) _).setCell (Nat.le_refl _) _)⟩
theorem str_beq (a b : X.By) : ((X.str a).toList == (X.str b).toList) = decide (a = b) := by
  rw [ByteArray.toList_eq, ByteArray.toList_eq]
  show (a == b) = _
  by_cases h : a = b
  · subst h; simp
  · simp [h]
theorem fld0 (y : World) (a0 a1 a2 a3 : Value) : (Instr.field 48 (.agg #[a0, a1, a2, a3]) 0).run Tryz.prog y = .ok a0 y := by
  simp [Instr.field, run_underlying Tryz.underlying48, asAgg, go_sem]
theorem fld (y : World) (a0 a1 a2 a3 : Value) : (Instr.field 48 (.agg #[a0, a1, a2, a3]) 1).run Tryz.prog y = .ok a1 y ∧ (Instr.field 48 (.agg #[a0, a1, a2, a3]) 2).run Tryz.prog y = .ok a2 y := by
  constructor <;> simp [Instr.field, run_underlying Tryz.underlying48, asAgg, go_sem]
set_option maxRecDepth 100000 in
set_option maxHeartbeats 1000000 in
theorem is_any {B : Nat} {ts : List X.Tok} {w : World} {bp : Nat} {a : Option Addr} {c i : Nat} {vd vs ve : Value} {d : Nat} (h : PB B ts w bp a c i vd vs ve d) (hi : i < ts.length) (s : X.By) : Calls Tryz.prog 98 #[.pointer (some ⟨bp, 0, none⟩), .string (X.str s)] w fun e w' => e = .returned (.bool (decide ((tk ts i).text = s))) ∧ Below w.heap.size w w' := by
  have hd := str_beq (tk ts i).text s
  have hf := fun y => (fld y (.int .i64 (tk ts i).kind) (.string (X.str (tk ts i).text)) (.int .i64 (tk ts i).n) (.int .i64 (tk ts i).at')).1
  go_enter Tryz.func98, Tryz.ntmps98
  go_wp2_with fail
  refine (now_any h hi).mono ?_
  unfold tokV
  rintro e y ⟨rfl, hb⟩
  go_wp2_with fail
  go_ret
  exact ⟨rfl, hb⟩
set_option maxRecDepth 100000 in
set_option maxHeartbeats 1000000 in
theorem is_yes {B : Nat} {ts : List X.Tok} {w : World} {bp : Nat} {a : Option Addr} {c i : Nat} {vd vs ve : Value} {d : Nat} (h : PB B ts w bp a c i vd vs ve d) (hi : i < ts.length) {s : X.By} (ht : (tk ts i).text = s) : Calls Tryz.prog 98 #[.pointer (some ⟨bp, 0, none⟩), .string (X.str s)] w fun e w' => e = .returned (.bool true) ∧ Below w.heap.size w w' := by
  have := is_any h hi s
  rw [decide_eq_true ht] at this
  exact this
set_option maxRecDepth 100000 in
set_option maxHeartbeats 1000000 in
theorem is_no {B : Nat} {ts : List X.Tok} {w : World} {bp : Nat} {a : Option Addr} {c i : Nat} {vd vs ve : Value} {d : Nat} (h : PB B ts w bp a c i vd vs ve d) (hi : i < ts.length) {s : X.By} (ht : (tk ts i).text ≠ s) : Calls Tryz.prog 98 #[.pointer (some ⟨bp, 0, none⟩), .string (X.str s)] w fun e w' => e = .returned (.bool false) ∧ Below w.heap.size w w' := by
  have := is_any h hi s
  rw [decide_eq_false ht] at this
  exact this
set_option maxRecDepth 100000 in
set_option maxHeartbeats 1000000 in
theorem ahead_any {B : Nat} {ts : List X.Tok} {w : World} {bp : Nat} {a : Option Addr} {c i : Nat} {vd vs ve : Value} {d : Nat} (h : PB B ts w bp a c i vd vs ve d) (hi : i + 1 < ts.length) (s : X.By) : Calls Tryz.prog 144 #[.pointer (some ⟨bp, 0, none⟩), .string (X.str s)] w fun e w' => e = .returned (.bool (decide ((tk ts (i + 1)).text = s))) ∧ Below w.heap.size w w' := by
  obtain ⟨m, hm⟩ : ∃ m, i + 1 = m := ⟨_, rfl⟩
  rw [hm] at hi ⊢
  obtain ⟨g, rfl, t0, t1, t2, t3⟩ := h.tk m hi
  have hd := str_beq (tk ts m).text s
  have HQ : Hid (∀ w', Below w.heap.size w w' → w'.cell? ⟨bp, 0, none⟩ = some (.slice (some ⟨g, 0, none⟩) ts.length c) ∧ w'.cell? ⟨bp, 1, none⟩ = some (.int .i64 (i : Int)) ∧ w'.cell? ⟨g, m * 4 + 1, none⟩ = some (.string (X.str (tk ts m).text))) := fun y hy => ⟨cell_thru hy h.c0, cell_thru hy h.c1, cell_thru hy t1⟩
  have hk0 : 0 ≤ (m : Int) := by omega
  have hki : (m : Int) < ts.length := by omega
  have hmx : ts.length ≤ maxLen := by rcases h.tok.2 with ⟨e1, e2⟩ | ⟨g, cap, cur, e1, e2, e3, e4, e5, -⟩ <;> omega
  have hm2 : maxLen = 9223372036854775807 := rfl
  have hwr : IntKind.i64.wrap ((i : Int) + 1) = (m : Int) := by rw [IntKind.wrap_i64] <;> omega
  clear h t0 t1 t2 t3 hm
  go_enter Tryz.func144, Tryz.ntmps144
  go_wp2_with fail
  refine wp_region_held_drew (S := (fun w' : World => w'.cell? ⟨bp, 0, none⟩ = some (.slice (some ⟨g, 0, none⟩) ts.length c) ∧ w'.cell? ⟨bp, 1, none⟩ = some (.int .i64 (i : Int)) ∧ w'.cell? ⟨g, m * 4 + 1, none⟩ = some (.string (X.str (tk ts m).text)))) (by kernel_rfl) (HQ.out _ (Below.refl _ _).drew) (fun hHeld => ?_)
  refine tj 0 ?_
  simp only [Act.put, zA, zB, zC]
  refine tj 1 ?_
  simp only [Act.put, zA, zB, zC]
  refine tj 2 ?_
  simp only [Act.put, zA, zB, zC]
  refine tj 3 ?_
  simp only [Act.put, zA, zB, zC]
  refine tj 4 ?_
  simp only [Act.put, zA, zB, zC]
  refine tj 5 ?_
  simp only [Act.put, zA, zB, zC]
  refine tj 6 ?_
  simp only [Act.put, zA, zB, zC]
  refine tj 7 ?_
  simp only [Act.put, zA, zB, zC]
  refine tj 8 ?_
  simp only [Act.put, zA, zB, zC]
  refine tj 9 ?_
  simp only [Act.put, zA, zB, zC]
  refine tj 10 ?_
  simp only [Act.put, zA, zB, zC]
  refine tj 11 ?_
  simp only [Act.put, zA, zB, zC]
  refine tj 12 ?_
  simp only [Act.put, zA, zB, zC]
  refine tj 13 ?_
  simp only [Act.put, zA, zB, zC]
  refine tj 14 ?_
  simp only [Act.put, zA, zB, zC]
  refine wpAnyH_done (by kernel_rfl) ?_ _
  clear hHeld
  go_wp2_with fail
  go_ret
  exact ⟨rfl, (Below.refl _ _).drew⟩
set_option maxRecDepth 100000 in
set_option maxHeartbeats 1000000 in
theorem skip_yes {B : Nat} {ts : List X.Tok} {w : World} {bp : Nat} {a : Option Addr} {c i : Nat} {vd vs ve : Value} {d : Nat} (h : PB B ts w bp a c i vd vs ve d) (hi : i < ts.length) {s : X.By} (ht : (tk ts i).text = s) : Calls Tryz.prog 75 #[.pointer (some ⟨bp, 0, none⟩), .string (X.str s)] w fun e w' => e = .returned (.bool true) ∧ PB B ts w' bp a c (i + 1) vd vs ve d ∧ Kp [69] B w w' := by
  have hmx : ts.length ≤ maxLen := by rcases h.tok.2 with ⟨e1, e2⟩ | ⟨g, cap, cur, e1, e2, e3, e4, e5, -⟩ <;> omega
  have hm2 : maxLen = 9223372036854775807 := rfl
  have hi3 : (i : Int) + 1 ≤ 9223372036854775807 := by omega
  have hi4 : 0 ≤ (i : Int) := by omega
  go_enter Tryz.func75, Tryz.ntmps75
  go_wp2_with fail
  refine (is_yes h hi ht).mono ?_
  rintro e y ⟨rfl, hb⟩
  have c1 := (h.below hb).c1
  have z1 := (h.below hb).fro 1
  go_wp2_with fail
  try go_ret
  have hp := (h.below hb).at ((i : Int) + 1) (i + 1) (by omega)
  exact ⟨rfl, hp.1, (Kp.of hb h.le).trans hp.2⟩
set_option maxRecDepth 100000 in
set_option maxHeartbeats 1000000 in
theorem skip_no {B : Nat} {ts : List X.Tok} {w : World} {bp : Nat} {a : Option Addr} {c i : Nat} {vd vs ve : Value} {d : Nat} (h : PB B ts w bp a c i vd vs ve d) (hi : i < ts.length) {s : X.By} (ht : (tk ts i).text ≠ s) : Calls Tryz.prog 75 #[.pointer (some ⟨bp, 0, none⟩), .string (X.str s)] w fun e w' => e = .returned (.bool false) ∧ Below w.heap.size w w' := by
  go_enter Tryz.func75, Tryz.ntmps75
  go_wp2_with fail
  refine (is_no h hi ht).mono ?_
  rintro e y ⟨rfl, hb⟩
  go_wp2_with fail
  go_ret
  exact ⟨rfl, hb⟩
set_option maxRecDepth 100000 in
set_option maxHeartbeats 1000000 in
theorem want_yes {B : Nat} {ts : List X.Tok} {w : World} {bp : Nat} {a : Option Addr} {c i : Nat} {vd vs ve : Value} {d : Nat} (h : PB B ts w bp a c i vd vs ve d) (hi : i < ts.length) {s : X.By} (ht : (tk ts i).text = s) : Calls Tryz.prog 81 #[.pointer (some ⟨bp, 0, none⟩), .string (X.str s)] w fun e w' => e = .returned (.tuple #[]) ∧ PB B ts w' bp a c (i + 1) vd vs ve d ∧ Kp [69] B w w' := by
  go_enter Tryz.func81, Tryz.ntmps81
  go_wp2_with fail
  refine (skip_yes h hi ht).mono ?_
  rintro e y ⟨rfl, hp, hk⟩
  go_wp2_with fail
  refine bodyPost_end (results_none rfl _ _ _) rfl ?_
  exact ⟨rfl, hp, hk⟩
set_option maxRecDepth 100000 in
set_option maxHeartbeats 1000000 in
theorem want_no {B : Nat} {ts : List X.Tok} {w : World} {bp : Nat} {a : Option Addr} {c i : Nat} {vd vs ve : Value} {d : Nat} (h : PB B ts w bp a c i vd vs ve d) (hi : i < ts.length) {s : X.By} (ht : (tk ts i).text ≠ s) : Calls Tryz.prog 81 #[.pointer (some ⟨bp, 0, none⟩), .string (X.str s)] w fun e w' => Fails e ∧ Below w.heap.size w w' := by
  go_enter Tryz.func81, Tryz.ntmps81
  go_wp2_with fail
  refine (skip_no h hi ht).mono ?_
  rintro e y ⟨rfl, hb⟩
  go_wp2_with fail
  exact ⟨rfl, rfl, hb⟩
set_option maxRecDepth 100000 in
set_option maxHeartbeats 1000000 in
theorem take_yes {B : Nat} {ts : List X.Tok} {w : World} {bp : Nat} {a : Option Addr} {c i : Nat} {vd vs ve : Value} {d : Nat} (h : PB B ts w bp a c i vd vs ve d) (hi : i < ts.length) {z : Nat} (ht : (tk ts i).kind = z) : Calls Tryz.prog 99 #[.pointer (some ⟨bp, 0, none⟩), .int .i64 (z : Int)] w fun e w' => e = .returned (tokV (tk ts i)) ∧ PB B ts w' bp a c (i + 1) vd vs ve d ∧ Kp [69] B w w' := by
  have hmx : ts.length ≤ maxLen := by rcases h.tok.2 with ⟨e1, e2⟩ | ⟨g, cap, cur, e1, e2, e3, e4, e5, -⟩ <;> omega
  have hm2 : maxLen = 9223372036854775807 := rfl
  have hi3 : (i : Int) + 1 ≤ 9223372036854775807 := by omega
  have hi4 : 0 ≤ (i : Int) := by omega
  obtain ⟨Y, hY⟩ : ∃ Y, w.alloc (.cells #[.int .i64 0, .string { data := #[] }, .int .i64 0, .int .i64 0] 48) = Y := ⟨_, rfl⟩
  have HB : Hid (Below w.heap.size w Y) := by show Below _ _ _; rw [← hY]; exact bl1 _ _
  have HN : Hid (Y.heap[w.heap.size]? = some (.cells #[.int .i64 0, .string { data := #[] }, .int .i64 0, .int .i64 0] 48)) := by show _ = _; rw [← hY]; exact heap_new _ _
  have HP : Hid (PB B ts Y bp a c i vd vs ve d) := h.below HB.out
  have hle := h.le
  have hbp0 := h.lt
  have HTL : Hid (∀ b, (Value.slice a ts.length c).ownBlock = some b → b < w.heap.size) := h.tl
  obtain ⟨t0, t1, t2, t3, htk⟩ : ∃ (t0 : Nat) (t1 : X.By) (t2 t3 : Nat), tk ts i = ⟨t0, t1, t2, t3⟩ := ⟨_, _, _, _, rfl⟩
  rw [htk] at ht
  try rw [htk]
  dsimp only at ht
  subst ht
  have ez : ((t0 : Int) != (t0 : Int)) = false := by simp
  go_enter Tryz.func99, Tryz.ntmps99
  go_wp2_with fail
  try rw [hY]
  clear hY h
  refine (now_any HP.out hi).mono ?_
  rw [htk]
  unfold tokV
  rintro e y ⟨rfl, hb⟩
  clear htk hi
  obtain ⟨Z, hZ⟩ : ∃ Z, y.alloc (.cells #[.int .i64 t0, .string (X.str t1), .int .i64 t2, .int .i64 t3] 48) = Z := ⟨_, rfl⟩
  have HZ : Hid (Below Y.heap.size Y Z) := by show Below _ _ _; rw [← hZ]; exact hb.trans ((bl1 _ _).mono hb.size)
  have q0 : Z.cell? ⟨y.heap.size, 0, none⟩ = some (.int .i64 t0) := by rw [← hZ]; exact ncell_at rfl
  have q1 : Z.cell? ⟨y.heap.size, 1, none⟩ = some (.string (X.str t1)) := by rw [← hZ]; exact ncell_at rfl
  have q2 : Z.cell? ⟨y.heap.size, 2, none⟩ = some (.int .i64 t2) := by rw [← hZ]; exact ncell_at rfl
  have q3 : Z.cell? ⟨y.heap.size, 3, none⟩ = some (.int .i64 t3) := by rw [← hZ]; exact ncell_at rfl
  have HNZ : Hid (Z.heap[w.heap.size]? = some (.cells #[.int .i64 0, .string { data := #[] }, .int .i64 0, .int .i64 0] 48)) := blk_thru HZ.out HN.out
  have HPZ : Hid (PB B ts Z bp a c i vd vs ve d) := HP.out.below HZ.out
  have c1 := HPZ.out.c1
  have z1 := HPZ.out.fro 1
  obtain ⟨V, hV⟩ : ∃ V, Z.setCell ⟨bp, 1, none⟩ (.int .i64 ((i : Int) + 1)) = V := ⟨_, rfl⟩
  have hp := HPZ.out.at ((i : Int) + 1) (i + 1) (by omega)
  have HV : Hid (PB B ts V bp a c (i + 1) vd vs ve d ∧ Kp [69] B Z V) := by show _ ∧ _; rw [← hV]; exact hp
  have HNV : Hid (V.heap[w.heap.size]? = some (.cells #[.int .i64 0, .string { data := #[] }, .int .i64 0, .int .i64 0] 48)) := HV.out.2.keep _ _ _ _ HNZ.out (by decide)
  have r0 : V.cell? ⟨y.heap.size, 0, none⟩ = some (.int .i64 t0) := by rw [← hV, World.cell?_setCell_far _ ⟨bp, 1, none⟩ ⟨y.heap.size, 0, none⟩ _ (by show bp ≠ y.heap.size; have := HB.out.size; have := hb.size; omega)]; exact q0
  have r1 : V.cell? ⟨y.heap.size, 1, none⟩ = some (.string (X.str t1)) := by rw [← hV, World.cell?_setCell_far _ ⟨bp, 1, none⟩ ⟨y.heap.size, 1, none⟩ _ (by show bp ≠ y.heap.size; have := HB.out.size; have := hb.size; omega)]; exact q1
  have r2 : V.cell? ⟨y.heap.size, 2, none⟩ = some (.int .i64 t2) := by rw [← hV, World.cell?_setCell_far _ ⟨bp, 1, none⟩ ⟨y.heap.size, 2, none⟩ _ (by show bp ≠ y.heap.size; have := HB.out.size; have := hb.size; omega)]; exact q2
  have r3 : V.cell? ⟨y.heap.size, 3, none⟩ = some (.int .i64 t3) := by rw [← hV, World.cell?_setCell_far _ ⟨bp, 1, none⟩ ⟨y.heap.size, 3, none⟩ _ (by show bp ≠ y.heap.size; have := HB.out.size; have := hb.size; omega)]; exact q3
  have n0 := cell_blk HNV.out 0 (v := .int .i64 0) rfl
  have n1 := cell_blk HNV.out 1 (v := .string { data := #[] }) rfl
  have n2 := cell_blk HNV.out 2 (v := .int .i64 0) rfl
  have n3 := cell_blk HNV.out 3 (v := .int .i64 0) rfl
  have z0 : ∀ o, V.frozen? ⟨w.heap.size, o, none⟩ = false := fun o => blk_fro HNV.out
  clear hp
  go_wp2_with fail
  refine bodyPost_ret (v := tokV ⟨t0, t1, t2, t3⟩) ?_ rfl ?_
  · simp [results, Tryz.results99, go_sem, n0, n1, n2, n3, z0, tokV]
  · have hbv : Below w.heap.size V ((((V.setCell ⟨w.heap.size, 0, none⟩ (.int .i64 t0)).setCell ⟨w.heap.size, 1, none⟩ (.string (X.str t1))).setCell ⟨w.heap.size, 2, none⟩ (.int .i64 t2)).setCell ⟨w.heap.size, 3, none⟩ (.int .i64 t3)) := by
      have g0 := (Below.refl w.heap.size V).setCell (p := ⟨w.heap.size, 0, none⟩) (Nat.le_refl _) (.int .i64 t0)
      have g1 := g0.setCell (p := ⟨w.heap.size, 1, none⟩) (Nat.le_refl _) (.string (X.str t1))
      have g2 := g1.setCell (p := ⟨w.heap.size, 2, none⟩) (Nat.le_refl _) (.int .i64 t2)
      exact g2.setCell (p := ⟨w.heap.size, 3, none⟩) (Nat.le_refl _) (.int .i64 t3)
    have hwz : Below w.heap.size w Z := HB.out.trans (HZ.out.mono HB.out.size)
    have hk : Kp [69] B w Z := Kp.of hwz hle
    exact ⟨rfl, HV.out.1.bel hbv hbp0 HTL.out, (hk.trans HV.out.2).then hbv hle⟩
set_option maxRecDepth 100000 in
set_option maxHeartbeats 1000000 in
theorem take_no {B : Nat} {ts : List X.Tok} {w : World} {bp : Nat} {a : Option Addr} {c i : Nat} {vd vs ve : Value} {d : Nat} (h : PB B ts w bp a c i vd vs ve d) (hi : i < ts.length) {z : Nat} (ht : (tk ts i).kind ≠ z) : Calls Tryz.prog 99 #[.pointer (some ⟨bp, 0, none⟩), .int .i64 (z : Int)] w fun e w' => Fails e ∧ Below w.heap.size w w' := by
  obtain ⟨Y, hY⟩ : ∃ Y, w.alloc (.cells #[.int .i64 0, .string { data := #[] }, .int .i64 0, .int .i64 0] 48) = Y := ⟨_, rfl⟩
  have HB : Hid (Below w.heap.size w Y) := by show Below _ _ _; rw [← hY]; exact bl1 _ _
  have HN : Hid (Y.heap[w.heap.size]? = some (.cells #[.int .i64 0, .string { data := #[] }, .int .i64 0, .int .i64 0] 48)) := by show _ = _; rw [← hY]; exact heap_new _ _
  have HP : Hid (PB B ts Y bp a c i vd vs ve d) := h.below HB.out
  have hle := h.le
  have hbp0 := h.lt
  have HTL : Hid (∀ b, (Value.slice a ts.length c).ownBlock = some b → b < w.heap.size) := h.tl
  obtain ⟨t0, t1, t2, t3, htk⟩ : ∃ (t0 : Nat) (t1 : X.By) (t2 t3 : Nat), tk ts i = ⟨t0, t1, t2, t3⟩ := ⟨_, _, _, _, rfl⟩
  rw [htk] at ht
  try rw [htk]
  dsimp only at ht
  have ez : ((t0 : Int) != (z : Int)) = true := by
    have h0 : (t0 : Int) ≠ (z : Int) := fun e => ht (by omega)
    simpa using h0
  go_enter Tryz.func99, Tryz.ntmps99
  go_wp2_with fail
  try rw [hY]
  clear hY h
  refine (now_any HP.out hi).mono ?_
  rw [htk]
  unfold tokV
  rintro e y ⟨rfl, hb⟩
  clear htk hi
  obtain ⟨Z, hZ⟩ : ∃ Z, y.alloc (.cells #[.int .i64 t0, .string (X.str t1), .int .i64 t2, .int .i64 t3] 48) = Z := ⟨_, rfl⟩
  have HZ : Hid (Below Y.heap.size Y Z) := by show Below _ _ _; rw [← hZ]; exact hb.trans ((bl1 _ _).mono hb.size)
  have q0 : Z.cell? ⟨y.heap.size, 0, none⟩ = some (.int .i64 t0) := by rw [← hZ]; exact ncell_at rfl
  have q1 : Z.cell? ⟨y.heap.size, 1, none⟩ = some (.string (X.str t1)) := by rw [← hZ]; exact ncell_at rfl
  have q2 : Z.cell? ⟨y.heap.size, 2, none⟩ = some (.int .i64 t2) := by rw [← hZ]; exact ncell_at rfl
  have q3 : Z.cell? ⟨y.heap.size, 3, none⟩ = some (.int .i64 t3) := by rw [← hZ]; exact ncell_at rfl
  have HW : Hid (Below w.heap.size w Z) := HB.out.trans (HZ.out.mono HB.out.size)
  go_wp2_with fail
  exact ⟨rfl, rfl, HW.out⟩
set_option maxRecDepth 100000 in
set_option maxHeartbeats 1000000 in
theorem name_yes {B : Nat} {ts : List X.Tok} {w : World} {bp : Nat} {a : Option Addr} {c i : Nat} {vd vs ve : Value} {d : Nat} (h : PB B ts w bp a c i vd vs ve d) (hi : i < ts.length) (ht : (tk ts i).kind = 2) : Calls Tryz.prog 76 #[.pointer (some ⟨bp, 0, none⟩)] w fun e w' => e = .returned (.string (X.str (tk ts i).text)) ∧ PB B ts w' bp a c (i + 1) vd vs ve d ∧ Kp [69] B w w' := by
  have hf1 := fun y a0 a1 a2 a3 => (fld y a0 a1 a2 a3).1
  have hf2 := fun y a0 a1 a2 a3 => (fld y a0 a1 a2 a3).2
  go_enter Tryz.func76, Tryz.ntmps76
  go_wp2_with fail
  refine (take_yes h hi ht).mono ?_
  unfold tokV
  rintro e y ⟨rfl, hp, hk⟩
  go_wp2_with fail
  go_ret
  exact ⟨rfl, hp, hk⟩
set_option maxRecDepth 100000 in
set_option maxHeartbeats 1000000 in
theorem name_no {B : Nat} {ts : List X.Tok} {w : World} {bp : Nat} {a : Option Addr} {c i : Nat} {vd vs ve : Value} {d : Nat} (h : PB B ts w bp a c i vd vs ve d) (hi : i < ts.length) (ht : (tk ts i).kind ≠ 2) : Calls Tryz.prog 76 #[.pointer (some ⟨bp, 0, none⟩)] w fun e w' => Fails e ∧ Below w.heap.size w w' := by
  go_enter Tryz.func76, Tryz.ntmps76
  go_wp2_with fail
  refine (take_no h hi ht).mono ?_
  rintro e y ⟨rfl, hb⟩
  go_wp2_with fail
  exact ⟨rfl, rfl, hb⟩
set_option maxRecDepth 100000 in
set_option maxHeartbeats 1000000 in
theorem size_yes {B : Nat} {ts : List X.Tok} {w : World} {bp : Nat} {a : Option Addr} {c i : Nat} {vd vs ve : Value} {d : Nat} (h : PB B ts w bp a c i vd vs ve d) (hi : i < ts.length) (ht : (tk ts i).kind = 1) (hn : (tk ts i).n ≤ 1000000) : Calls Tryz.prog 80 #[.pointer (some ⟨bp, 0, none⟩)] w fun e w' => e = .returned (.int .i64 (tk ts i).n) ∧ PB B ts w' bp a c (i + 1) vd vs ve d ∧ Kp [69] B w w' := by
  have hf1 := fun y a0 a1 a2 a3 => (fld y a0 a1 a2 a3).1
  have hf2 := fun y a0 a1 a2 a3 => (fld y a0 a1 a2 a3).2
  have hg : decide ((1000000 : Int) < (tk ts i).n) = false := by simp; omega
  go_enter Tryz.func80, Tryz.ntmps80
  go_wp2_with fail
  refine (take_yes h hi ht).mono ?_
  unfold tokV
  rintro e y ⟨rfl, hp, hk⟩
  go_wp2_with fail
  go_ret
  exact ⟨rfl, hp, hk⟩
set_option maxRecDepth 100000 in
set_option maxHeartbeats 1000000 in
theorem size_kind {B : Nat} {ts : List X.Tok} {w : World} {bp : Nat} {a : Option Addr} {c i : Nat} {vd vs ve : Value} {d : Nat} (h : PB B ts w bp a c i vd vs ve d) (hi : i < ts.length) (ht : (tk ts i).kind ≠ 1) : Calls Tryz.prog 80 #[.pointer (some ⟨bp, 0, none⟩)] w fun e w' => Fails e ∧ Below w.heap.size w w' := by
  go_enter Tryz.func80, Tryz.ntmps80
  go_wp2_with fail
  refine (take_no h hi ht).mono ?_
  rintro e y ⟨rfl, hb⟩
  go_wp2_with fail
  exact ⟨rfl, rfl, hb⟩
set_option maxRecDepth 100000 in
set_option maxHeartbeats 1000000 in
theorem size_big {B : Nat} {ts : List X.Tok} {w : World} {bp : Nat} {a : Option Addr} {c i : Nat} {vd vs ve : Value} {d : Nat} (h : PB B ts w bp a c i vd vs ve d) (hi : i < ts.length) (ht : (tk ts i).kind = 1) (hn : 1000000 < (tk ts i).n) : Calls Tryz.prog 80 #[.pointer (some ⟨bp, 0, none⟩)] w fun e w' => Fails e ∧ PB B ts w' bp a c (i + 1) vd vs ve d ∧ Kp [69] B w w' := by
  have hf1 := fun y a0 a1 a2 a3 => (fld y a0 a1 a2 a3).1
  have hf2 := fun y a0 a1 a2 a3 => (fld y a0 a1 a2 a3).2
  have hg : decide ((1000000 : Int) < (tk ts i).n) = true := by simp; omega
  go_enter Tryz.func80, Tryz.ntmps80
  go_wp2_with fail
  refine (take_yes h hi ht).mono ?_
  unfold tokV
  rintro e y ⟨rfl, hp, hk⟩
  go_wp2_with fail
  exact ⟨rfl, rfl, hp, hk⟩
set_option maxRecDepth 100000 in
set_option maxHeartbeats 1000000 in
theorem enter_yes {B : Nat} {ts : List X.Tok} {w : World} {bp : Nat} {a : Option Addr} {c i : Nat} {vd vs ve : Value} {d : Nat} (h : PB B ts w bp a c i vd vs ve d) (hd : d < 20) : Calls Tryz.prog 100 #[.pointer (some ⟨bp, 0, none⟩)] w fun e w' => e = .returned (.tuple #[]) ∧ PB B ts w' bp a c i vd vs ve (d + 1) ∧ Kp [69] B w w' := by
  have c5 := h.c5
  have z5 := h.fro 5
  have hp := h.deep ((d : Int) + 1) (d + 1) (by omega)
  obtain ⟨V, hV⟩ : ∃ V, w.setCell ⟨bp, 5, none⟩ (.int .i64 ((d : Int) + 1)) = V := ⟨_, rfl⟩
  rw [hV] at hp
  have HP : Hid (PB B ts V bp a c i vd vs ve (d + 1) ∧ Kp [69] B w V) := hp
  have v5 : V.cell? ⟨bp, 5, none⟩ = some (.int .i64 ((d : Int) + 1)) := by rw [hp.1.c5]; simp
  have hg : decide ((20 : Int) < (d : Int) + 1) = false := by simp; omega
  clear hp h
  go_enter Tryz.func100, Tryz.ntmps100
  go_wp2_with fail
  refine bodyPost_end (results_none rfl _ _ _) rfl ?_
  exact ⟨rfl, HP.out⟩
set_option maxRecDepth 100000 in
set_option maxHeartbeats 1000000 in
theorem enter_no {B : Nat} {ts : List X.Tok} {w : World} {bp : Nat} {a : Option Addr} {c i : Nat} {vd vs ve : Value} {d : Nat} (h : PB B ts w bp a c i vd vs ve d) (hd : 20 ≤ d) (hd2 : d ≤ 20) : Calls Tryz.prog 100 #[.pointer (some ⟨bp, 0, none⟩)] w fun e w' => Fails e ∧ PB B ts w' bp a c i vd vs ve (d + 1) ∧ Kp [69] B w w' := by
  have c5 := h.c5
  have z5 := h.fro 5
  have hp := h.deep ((d : Int) + 1) (d + 1) (by omega)
  obtain ⟨V, hV⟩ : ∃ V, w.setCell ⟨bp, 5, none⟩ (.int .i64 ((d : Int) + 1)) = V := ⟨_, rfl⟩
  rw [hV] at hp
  have HP : Hid (PB B ts V bp a c i vd vs ve (d + 1) ∧ Kp [69] B w V) := hp
  have v5 : V.cell? ⟨bp, 5, none⟩ = some (.int .i64 ((d : Int) + 1)) := by rw [hp.1.c5]; simp
  have hg : decide ((20 : Int) < (d : Int) + 1) = true := by simp; omega
  clear hp h
  go_enter Tryz.func100, Tryz.ntmps100
  go_wp2_with fail
  exact ⟨rfl, rfl, HP.out⟩
set_option maxRecDepth 100000 in
set_option maxHeartbeats 1000000 in
theorem leave_any {B : Nat} {ts : List X.Tok} {w : World} {bp : Nat} {a : Option Addr} {c i : Nat} {vd vs ve : Value} {d : Nat} (h : PB B ts w bp a c i vd vs ve d) (hd : 0 < d) (hd2 : d ≤ 21) : Calls Tryz.prog 103 #[.pointer (some ⟨bp, 0, none⟩)] w fun e w' => e = .returned (.tuple #[]) ∧ PB B ts w' bp a c i vd vs ve (d - 1) ∧ Kp [69] B w w' := by
  have c5 := h.c5
  have z5 := h.fro 5
  have hp := h.deep ((d : Int) - 1) (d - 1) (by omega)
  have HP : Hid (PB B ts (w.setCell ⟨bp, 5, none⟩ (.int .i64 ((d : Int) - 1))) bp a c i vd vs ve (d - 1) ∧ Kp [69] B w (w.setCell ⟨bp, 5, none⟩ (.int .i64 ((d : Int) - 1)))) := hp
  have hd3 : 0 < (d : Int) := by omega
  clear hp h
  go_enter Tryz.func103, Tryz.ntmps103
  go_wp2_with fail
  refine bodyPost_end (results_none rfl _ _ _) rfl ?_
  exact ⟨rfl, HP.out⟩
end Go.Proofs.YtikknlkdbjaonaaGreatDoor.Y

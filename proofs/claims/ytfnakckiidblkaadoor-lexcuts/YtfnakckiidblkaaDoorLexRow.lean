/- Rows of tokens. -/
import Derived.Test.YtfnakckiidblkaaDoorLexPieceB
import Derived.Deep.AppendLies
import Derived.Laws.OwnMore
namespace Go.Proofs.YtfnakckiidblkaaDoor
open Go.RowKit Go.Maps Go.Lib
set_option linter.unusedVariables false
set_option linter.unusedSimpArgs false

theorem infoT : (Tryd.prog.info? 30).map (fun i => (i.zero, i.size, i.bytes)) = some (some (.agg #[.int .i64 0, .string { data := #[] }, .int .i64 0, .int .i64 0]), 4, 40) := by kernel_rfl
/-- A token's cells. -/
def tokC (t : X.Tok) : List Value := [.int .i64 t.kind, .string (X.str t.text), .int .i64 t.n, .int .i64 t.at']
theorem tokC_len (t : X.Tok) : (tokC t).length = 4 := rfl
theorem gb_setO (w : World) (a : Addr) (u : Value) : w.grownBy (w.setCell a u) (some a.block) :=
  ⟨rfl, rfl, rfl, by rw [World.size_setCell]; exact Nat.le_refl _, fun k _ hk => Below.heap_setCell _ _ _ _ (fun e => hk (by rw [e]))⟩
theorem own_base {w : World} {B B' : Nat} {v : Value} {e : TypeId} {size n : Nat} {xs : List Value} (o : w.ownsRow B e size v n xs) (h : B' ≤ B) : w.ownsRow B' e size v n xs := by
  refine ⟨o.1, ?_⟩
  rcases o.2 with h1 | ⟨g, cap, cur, h1, h2, h3⟩
  · exact .inl h1
  · exact .inr ⟨g, cap, cur, h1, Nat.le_trans h h2, h3⟩
theorem flat_at {α : Type} (f : α → List Value) (m : Nat) (d : α) (hm : ∀ x, (f x).length = m) : ∀ (l : List α) (i j : Nat), i < l.length → j < m → (l.flatMap f)[i * m + j]? = (f (l.getD i d))[j]?
  | [], i, j, hi, _ => by simp at hi
  | x :: l, 0, j, hi, hj => by
    rw [List.flatMap_cons, Nat.zero_mul, Nat.zero_add, List.getElem?_append_left (by rw [hm]; exact hj)]
    rfl
  | x :: l, i + 1, j, hi, hj => by
    rw [List.flatMap_cons, List.getElem?_append_right (by rw [hm, Nat.succ_mul]; omega), hm, show (i + 1) * m + j - m = i * m + j by rw [Nat.succ_mul]; omega, flat_at f m d hm l i j (by simpa using hi) hj]
    rfl
theorem row_thru {w w1 : World} {B : Nat} {ty : TypeId} {k : Nat} {u : Value} {n : Nat} {cs : List Value} (hu : w.ownsRow B ty k u n cs) (hb : Below w.heap.size w w1) : w1.ownsRow B ty k u n cs := by
  have g : w.grownBy w1 none := ⟨hb.os, hb.tape, hb.output, hb.size, fun k hk _ => hb.block k hk⟩
  cases e : u.ownBlock with
  | none => exact hu.kept g (.inl e)
  | some b => exact hu.kept g (.inr (by rw [e]; simp))
/-- A list of tokens as it lies. -/
structure TV (w : World) (a : Option Addr) (n c : Nat) (ts : List X.Tok) : Prop where
  count : ts.length = n
  room : n ≤ c ∧ c ≤ maxLen
  cells : n = 0 ∨ ∃ b off, a = some ⟨b, off, none⟩ ∧ ∀ i, i < n → ∀ j u, j < 4 → (tokC (ts.getD i ⟨0, [], 0, 0⟩))[j]? = some u → w.cell? ⟨b, off + i * 4 + j, none⟩ = some u
theorem TV.of_own {w : World} {B : Nat} {a : Option Addr} {n c : Nat} {ts : List X.Tok} (h : w.ownsRow B 30 4 (.slice a n c) n (ts.flatMap tokC)) (hn : ts.length = n) : TV w a n c ts := by
  rcases h.2 with ⟨e1, rfl⟩ | ⟨g, cap, cur, e1, hb, hh, h1, h2, h3, h4⟩
  · cases e1; exact ⟨hn, ⟨Nat.le_refl _, Nat.zero_le _⟩, .inl rfl⟩
  · cases e1
    refine ⟨hn, ⟨h1, h2⟩, .inr ⟨g, 0, rfl, fun i hi j u hj hu => ?_⟩⟩
    have hlt : i * 4 + j < n * 4 := by omega
    rw [Nat.zero_add, h.cellAt _ hlt, flat_at tokC 4 ⟨0, [], 0, 0⟩ tokC_len ts i j (by omega) hj]
    exact hu
theorem cell_thru {w w1 : World} (hb : Below w.heap.size w w1) {b o : Nat} {u : Value} (h : w.cell? ⟨b, o, none⟩ = some u) : w1.cell? ⟨b, o, none⟩ = some u :=
  (hb.cell (p := ⟨b, o, none⟩) (World.block_lt_of_cell? w ⟨b, o, none⟩ h)).trans h
theorem TV.below {w w1 : World} {a : Option Addr} {n c : Nat} {ts : List X.Tok} (h : TV w a n c ts) (hb : Below w.heap.size w w1) : TV w1 a n c ts := by
  refine ⟨h.count, h.room, ?_⟩
  rcases h.cells with h0 | ⟨b, off, e, hc⟩
  · exact .inl h0
  · exact .inr ⟨b, off, e, fun i hi j u hj hu => cell_thru hb (hc i hi j u hj hu)⟩
/-- What Lex leaves: its row is its own. -/
def LexOut (w : World) (r : List X.Tok × Nat) (e : Ending) (w' : World) : Prop :=
  ∃ a n c, e = .returned (.tuple #[.slice a n c, .int .i64 r.2]) ∧ w'.ownsRow w.heap.size 30 4 (.slice a n c) n (r.1.flatMap tokC) ∧ r.1.length = n ∧ Below w.heap.size w w'
theorem LexOut.none (w w' : World) {z : Nat} {r : List X.Tok × Nat} (h : r = ([], z)) (hb : Below w.heap.size w w') : LexOut w r (.returned (.tuple #[.slice none 0 0, .int .i64 z])) w' := by
  subst h
  exact ⟨_, _, _, rfl, World.ownsRow_nil _ _ _ _, rfl, hb⟩
/-- A row that grew by one token. -/
theorem below_grown {B : Nat} {w x y : World} {v : Value} {e : TypeId} {k n : Nat} {cs : List Value} (hb : Below B w x) (ho : x.ownsRow B e k v n cs) (hg : x.grownBy y v.ownBlock) (hw : B ≤ x.heap.size) : Below B w y :=
  ⟨hg.os.trans hb.os, hg.tape.trans hb.tape, hg.output.trans hb.output, Nat.le_trans hb.size hg.size, fun i hi => (hg.block i (by omega) (fun e => by have := (ho.lt i e.symm).1; omega)).trans (hb.block i hi)⟩

end Go.Proofs.YtfnakckiidblkaaDoor

/- A machine, as it lies in memory. -/
import Derived.Test.YtneclfaamgfoeaaDoorEAe
import Derived.Deep.AppendLies
import Derived.Laws.OwnMore
import Derived.Deep.RegionLaw
import Derived.Deep.RegionHeld3
import Derived.Deep.DeepAppendRoom
import Derived.Deep.LoopGhost
import Derived.OwnWalk
import Derived.WalkSpells
import Derived.WalkLawsBesides
namespace Go.Proofs.YtneclfaamgfoeaaDoor
open Go.RowKit Go.Maps
set_option linter.unusedVariables false

/-- What was done turned marked blocks alone; what was there bears the marks that it bore. -/
structure St (t t' : Nat → Nat) (w w' : World) : Prop where
  tag : ∀ k, k < w.heap.size → t' k = t k
  block : ∀ k, k < w.heap.size → t k = 0 → w'.heap[k]? = w.heap[k]?
  size : w.heap.size ≤ w'.heap.size
  os : w'.os = w.os
  tape : w'.tape = w.tape
  output : w'.output = w.output
theorem St.refl (t : Nat → Nat) (w : World) : St t t w w := ⟨fun _ _ => rfl, fun _ _ _ => rfl, Nat.le_refl _, rfl, rfl, rfl⟩
theorem St.ofBelow {w w' : World} (t : Nat → Nat) (h : Below w.heap.size w w') : St t t w w' := ⟨fun _ _ => rfl, fun k hk _ => h.block k hk, h.size, h.os, h.tape, h.output⟩
theorem St.trans {t t' t'' : Nat → Nat} {w w' w'' : World} (h : St t t' w w') (k : St t' t'' w' w'') : St t t'' w w'' :=
  ⟨fun x hx => (k.tag x (Nat.lt_of_lt_of_le hx h.size)).trans (h.tag x hx), fun x hx h0 => (k.block x (Nat.lt_of_lt_of_le hx h.size) ((h.tag x hx).trans h0)).trans (h.block x hx h0), Nat.le_trans h.size k.size, k.os.trans h.os, k.tape.trans h.tape, k.output.trans h.output⟩
theorem St.toBelow {t t' : Nat → Nat} {w w' : World} {B : Nat} (h : St t t' w w') (hlo : ∀ k, t k ≠ 0 → B ≤ k) (hB : B ≤ w.heap.size) : Below B w w' :=
  ⟨h.os, h.tape, h.output, h.size, fun k hk => h.block k (by omega) (Classical.byContradiction fun e => by have := hlo k e; omega)⟩
theorem On.st {t : Nat → Nat} {c : Nat} {w w' : World} (h : On t c w w') (hc : c ≠ 0) : St t t w w' := ⟨fun _ _ => rfl, fun k hk h0 => h.block k hk (fun e => hc (by rw [← e, h0])), h.size, h.os, h.tape, h.output⟩
theorem St.ofGrown {w w' : World} {x : Nat} {t t' : Nat → Nat} (h : w.grownBy w' (some x)) (hx : t x ≠ 0) (ht : ∀ k, k < w.heap.size → t' k = t k) : St t t' w w' :=
  ⟨ht, fun k hk h0 => h.block k hk (fun e => by cases e; exact hx h0), h.size, h.os, h.tape, h.output⟩

def thC (i : Nat) (h : T.Th) (u : Value) : List Value := [.int .i64 h.c.r0, .int .i64 h.c.r1, .int .i64 h.c.r2, .int .i64 h.c.r3, .int .i64 h.c.r4, .int .i64 h.c.r5, .int .i64 h.c.r6, .int .i64 h.c.r7, .int .i64 h.c.pc, .int .i64 h.c.st, .int .i64 h.c.tr, .int .i64 i, u]
def wC (p : T.Wait) : List Value := [.int .i64 p.1, .int .i64 p.2]
def eC (e : T.Ev) : List Value := [.int .i64 e.1, .int .i64 e.2.1, .int .i64 e.2.2]

/-- A machine: its block, its memory, the row of its threads, each with a row of its own, its events. Marks: 1 the block, 2 the memory, 3 the threads, 4 the events, 5 and on the stores that wait. -/
structure TV (B : Nat) (w : World) (b : Nat) (M : T.Mach) (K : Nat) (t : Nat → Nat) (bm g cap : Nat) (ev : Value) (us : List Value) : Prop where
  c0 : w.cell? ⟨b, 0, none⟩ = some (.string M.code)
  c1 : w.cell? ⟨b, 1, none⟩ = some (.pointer (some ⟨bm, 0, none⟩))
  c2 : w.cell? ⟨b, 2, none⟩ = some (.slice (some ⟨g, 0, none⟩) M.ts.length cap)
  c3 : w.cell? ⟨b, 3, none⟩ = some ev
  fz : ∀ o, w.frozen? ⟨b, o, none⟩ = false
  tb : t b = 1
  room : M.ts.length ≤ cap ∧ cap ≤ maxLen ∧ 0 < M.ts.length
  mem : MP B w bm M.mem K t
  tg : t g = 3
  gz : ∀ o, w.frozen? ⟨g, o, none⟩ = false
  len : us.length = M.ts.length
  tc : ∀ (k : Nat) (h : T.Th) (u : Value), M.ts[k]? = some h → us[k]? = some u → ∀ (j : Nat) (x : Value), (thC k h u)[j]? = some x → w.cell? ⟨g, k * 13 + j, none⟩ = some x
  ws : ∀ (k : Nat) (h : T.Th) (u : Value), M.ts[k]? = some h → us[k]? = some u → w.ownsRow B 52 2 u h.ws.length (h.ws.flatMap wC)
  tw : ∀ (k : Nat) (u : Value) (x : Nat), us[k]? = some u → u.ownBlock = some x → t x = 5 + k
  evs : w.ownsRow B 81 3 ev M.es.length (M.es.flatMap eC)
  te : ∀ x, ev.ownBlock = some x → t x = 4
  lt : ∀ k, t k ≠ 0 → B ≤ k ∧ k < w.heap.size

section
variable {B : Nat} {w w' : World} {b : Nat} {M : T.Mach} {K : Nat} {t t' : Nat → Nat} {bm g cap : Nat} {ev : Value} {us : List Value}
theorem TV.bl (h : TV B w b M K t bm g cap ev us) : b < w.heap.size := World.block_lt_of_cell? w ⟨b, 0, none⟩ h.c0
theorem TV.gl (h : TV B w b M K t bm g cap ev us) : g < w.heap.size := (h.lt g (by rw [h.tg]; decide)).2
theorem TV.hB (h : TV B w b M K t bm g cap ev us) : B ≤ w.heap.size := by have := h.bl; have := (h.lt b (by rw [h.tb]; decide)).1; omega
theorem blk_cell {w w' : World} {p : Addr} {v : Value} (e : w'.heap[p.block]? = w.heap[p.block]?) (h : w.cell? p = some v) : w'.cell? p = some v := (World.cell?_of_block e).trans h
theorem blk_froz {w w' : World} {p : Addr} {v : Bool} (e : w'.heap[p.block]? = w.heap[p.block]?) (h : w.frozen? p = v) : w'.frozen? p = v := (World.frozen?_of_block e).trans h
theorem own_lt {w : World} {B : Nat} {v : Value} {e : TypeId} {size n : Nat} {xs : List Value} (o : w.ownsRow B e size v n xs) {x : Nat} (h : v.ownBlock = some x) : x < w.heap.size := (o.lt x h).2

/-- All marked blocks are as they were. -/
theorem TV.keep (h : TV B w b M K t bm g cap ev us) (hb : ∀ k, k < w.heap.size → t k ≠ 0 → w'.heap[k]? = w.heap[k]?) (ht : ∀ k, k < w.heap.size → t k ≠ 0 → t' k = t k) (hlt : ∀ k, t' k ≠ 0 → B ≤ k ∧ k < w'.heap.size) : TV B w' b M K t' bm g cap ev us := by
  have eb := hb b h.bl (by rw [h.tb]; decide)
  have eg := hb g h.gl (by rw [h.tg]; decide)
  refine { c0 := blk_cell eb h.c0, c1 := blk_cell eb h.c1, c2 := blk_cell eb h.c2, c3 := blk_cell eb h.c3, fz := fun o => blk_froz eb (h.fz o), tb := (ht b h.bl (by rw [h.tb]; decide)).trans h.tb, room := h.room, mem := h.mem.conv (fun k hk e => hb k hk (by rw [e]; decide)) (fun k hk e => (ht k hk (by rw [e]; decide)).trans e), tg := (ht g h.gl (by rw [h.tg]; decide)).trans h.tg, gz := fun o => blk_froz eg (h.gz o), len := h.len, tc := fun k x u h1 h2 j v h3 => blk_cell eg (h.tc k x u h1 h2 j v h3), ws := fun k x u h1 h2 => row_cong (h.ws k x u h1 h2) (fun q hq => hb q (own_lt (h.ws k x u h1 h2) hq) (by rw [h.tw k u q h2 hq]; omega)), tw := fun k u x h1 h2 => ?_, evs := row_cong h.evs (fun q hq => hb q (own_lt h.evs hq) (by rw [h.te q hq]; decide)), te := fun x h1 => (ht x (own_lt h.evs h1) (by rw [h.te x h1]; decide)).trans (h.te x h1), lt := hlt }
  have hk : k < M.ts.length := by rw [← h.len]; exact (List.getElem?_eq_some_iff.1 h1).1
  exact (ht x (own_lt (h.ws k _ u (T.th_at hk) h1) h2) (by rw [h.tw k u x h1 h2]; omega)).trans (h.tw k u x h1 h2)
theorem TV.below (h : TV B w b M K t bm g cap ev us) (hb : Below w.heap.size w w') : TV B w' b M K t bm g cap ev us :=
  h.keep (fun k hk _ => hb.block k hk) (fun _ _ _ => rfl) (fun k hk => ⟨(h.lt k hk).1, Nat.lt_of_lt_of_le (h.lt k hk).2 hb.size⟩)
theorem TV.frame {p p' : Nat → Nat} (h : TV B w b M K t bm g cap ev us) (hs : St p p' w w') (hd : ∀ k, t k ≠ 0 → p k = 0) : TV B w' b M K t bm g cap ev us :=
  h.keep (fun k hk e => hs.block k hk (hd k e)) (fun _ _ _ => rfl) (fun k hk => ⟨(h.lt k hk).1, Nat.lt_of_lt_of_le (h.lt k hk).2 hs.size⟩)
theorem TV.mono {L : Nat} (h : TV B w b M K t bm g cap ev us) (hl : K ≤ L) : TV B w b M L t bm g cap ev us :=
  { h with mem := h.mem.mono hl }
/-- The memory did something. -/
theorem TV.memop {m' : T.Memo} {K' : Nat} (h : TV B w b M K t bm g cap ev us) (hon : On t 2 w w') (hm : MP B w' bm m' K' t) : TV B w' b { M with mem := m' } K' t bm g cap ev us := by
  have eb := hon.block b h.bl (by rw [h.tb]; decide)
  have eg := hon.block g h.gl (by rw [h.tg]; decide)
  exact { c0 := blk_cell eb h.c0, c1 := blk_cell eb h.c1, c2 := blk_cell eb h.c2, c3 := blk_cell eb h.c3, fz := fun o => blk_froz eb (h.fz o), tb := h.tb, room := h.room, mem := hm, tg := h.tg, gz := fun o => blk_froz eg (h.gz o), len := h.len, tc := fun k x u h1 h2 j v h3 => blk_cell eg (h.tc k x u h1 h2 j v h3), ws := fun k x u h1 h2 => row_cong (h.ws k x u h1 h2) (fun q hq => hon.block q (own_lt (h.ws k x u h1 h2) hq) (by rw [h.tw k u q h2 hq]; omega)), tw := h.tw, evs := row_cong h.evs (fun q hq => hon.block q (own_lt h.evs hq) (by rw [h.te q hq]; decide)), te := h.te, lt := fun k hk => ⟨(h.lt k hk).1, Nat.lt_of_lt_of_le (h.lt k hk).2 hon.size⟩ }
/-- A thread's cells were stored over: its registers, or where its stores wait; those in a row that is its own. -/
theorem TV.thr {k : Nat} {h' : T.Th} {u' : Value} (h : TV B w b M K t bm g cap ev us) (hk : k < M.ts.length)
    (hb : ∀ q, q < w.heap.size → t q ≠ 3 → t q ≠ 5 + k → w'.heap[q]? = w.heap[q]?) (hs : w.heap.size ≤ w'.heap.size)
    (hc : ∀ (j : Nat) (x : Value), (thC k h' u')[j]? = some x → w'.cell? ⟨g, k * 13 + j, none⟩ = some x) (ho : ∀ o, o < k * 13 ∨ k * 13 + 13 ≤ o → w'.cell? ⟨g, o, none⟩ = w.cell? ⟨g, o, none⟩) (hz : ∀ o, w'.frozen? ⟨g, o, none⟩ = false)
    (hw : w'.ownsRow B 52 2 u' h'.ws.length (h'.ws.flatMap wC)) (hu : ∀ x, u'.ownBlock = some x → t' x = 5 + k)
    (ht : ∀ q, q < w.heap.size → t' q = t q) (hlt : ∀ q, t' q ≠ 0 → B ≤ q ∧ q < w'.heap.size) : TV B w' b (M.put k M.mem h') K t' bm g cap ev (us.set k u') := by
  have eb := hb b h.bl (by rw [h.tb]; decide) (by rw [h.tb]; omega)
  have hkl : k < us.length := by rw [h.len]; exact hk
  have at' : ∀ i x, (M.ts.set k h')[i]? = some x → (i = k ∧ x = h') ∨ (i ≠ k ∧ M.ts[i]? = some x) := fun i x hx => by
    by_cases e : k = i
    · subst e
      rw [List.getElem?_set_self hk] at hx
      exact .inl ⟨rfl, by simpa using hx.symm⟩
    · rw [List.getElem?_set_ne e] at hx
      exact .inr ⟨fun q => e q.symm, hx⟩
  have au : ∀ i x, (us.set k u')[i]? = some x → (i = k ∧ x = u') ∨ (i ≠ k ∧ us[i]? = some x) := fun i x hx => by
    by_cases e : k = i
    · subst e
      rw [List.getElem?_set_self hkl] at hx
      exact .inl ⟨rfl, by simpa using hx.symm⟩
    · rw [List.getElem?_set_ne e] at hx
      exact .inr ⟨fun q => e q.symm, hx⟩
  refine { c0 := blk_cell eb h.c0, c1 := blk_cell eb h.c1, c2 := ?_, c3 := blk_cell eb h.c3, fz := fun o => blk_froz eb (h.fz o), tb := (ht b h.bl).trans h.tb, room := by rw [T.len_put]; exact h.room, mem := h.mem.conv (fun q hq e => hb q hq (by rw [e]; decide) (by rw [e]; omega)) (fun q hq e => (ht q hq).trans e), tg := (ht g h.gl).trans h.tg, gz := hz, len := by rw [T.len_put, List.length_set]; exact h.len, tc := fun i x u h1 h2 j v h3 => ?_, ws := fun i x u h1 h2 => ?_, tw := fun i u x h1 h2 => ?_, evs := row_cong h.evs (fun q hq => hb q (own_lt h.evs hq) (by rw [h.te q hq]; decide) (by rw [h.te q hq]; omega)), te := fun x h1 => (ht x (own_lt h.evs h1)).trans (h.te x h1), lt := hlt }
  · rw [T.len_put]; exact blk_cell eb h.c2
  · rcases at' i x h1 with ⟨rfl, rfl⟩ | ⟨hne, h1'⟩
    · rcases au i u h2 with ⟨-, rfl⟩ | ⟨hne, h2'⟩
      · exact hc j v h3
      · exact absurd rfl hne
    · rcases au i u h2 with ⟨rfl, rfl⟩ | ⟨hne, h2'⟩
      · exact absurd rfl hne
      · have hj : j < 13 := (List.getElem?_eq_some_iff.1 h3).1
        rw [ho _ (by omega)]
        exact h.tc i x u h1' h2' j v h3
  · rcases at' i x h1 with ⟨rfl, rfl⟩ | ⟨hne, h1'⟩
    · rcases au i u h2 with ⟨-, rfl⟩ | ⟨hne, h2'⟩
      · exact hw
      · exact absurd rfl hne
    · rcases au i u h2 with ⟨rfl, rfl⟩ | ⟨hne, h2'⟩
      · exact absurd rfl hne
      · exact row_cong (h.ws i x u h1' h2') (fun q hq => hb q (own_lt (h.ws i x u h1' h2') hq) (by rw [h.tw i u q h2' hq]; omega) (by rw [h.tw i u q h2' hq]; omega))
  · rcases au i u h1 with ⟨rfl, rfl⟩ | ⟨hne, h1'⟩
    · exact hu x h2
    · have hil : i < M.ts.length := by rw [← h.len]; exact (List.getElem?_eq_some_iff.1 h1').1
      exact (ht x (own_lt (h.ws i _ u (T.th_at hil) h1') h2)).trans (h.tw i u x h1' h2)
/-- An event more. -/
theorem TV.event {k : Nat} {a n : Int} {ev' : Value} (h : TV B w b M K t bm g cap ev us)
    (hb : ∀ q, q < w.heap.size → t q ≠ 1 → t q ≠ 4 → w'.heap[q]? = w.heap[q]?) (hs : w.heap.size ≤ w'.heap.size)
    (h3 : w'.cell? ⟨b, 3, none⟩ = some ev') (ho : ∀ o, o ≠ 3 → w'.cell? ⟨b, o, none⟩ = w.cell? ⟨b, o, none⟩) (hz : ∀ o, w'.frozen? ⟨b, o, none⟩ = false)
    (hw : w'.ownsRow B 81 3 ev' (M.es.length + 1) (M.es.flatMap eC ++ eC ((k : Int), a, n))) (hu : ∀ x, ev'.ownBlock = some x → t' x = 4)
    (ht : ∀ q, q < w.heap.size → t' q = t q) (hlt : ∀ q, t' q ≠ 0 → B ≤ q ∧ q < w'.heap.size) : TV B w' b (M.see k a n) K t' bm g cap ev' us := by
  have eg := hb g h.gl (by rw [h.tg]; decide) (by rw [h.tg]; decide)
  refine { c0 := (ho 0 (by decide)).trans h.c0, c1 := (ho 1 (by decide)).trans h.c1, c2 := (ho 2 (by decide)).trans h.c2, c3 := h3, fz := hz, tb := (ht b h.bl).trans h.tb, room := h.room, mem := h.mem.conv (fun q hq e => hb q hq (by rw [e]; decide) (by rw [e]; omega)) (fun q hq e => (ht q hq).trans e), tg := (ht g h.gl).trans h.tg, gz := fun o => blk_froz eg (h.gz o), len := h.len, tc := fun i x u h1 h2 j v h3 => blk_cell eg (h.tc i x u h1 h2 j v h3), ws := fun i x u h1 h2 => row_cong (h.ws i x u h1 h2) (fun q hq => hb q (own_lt (h.ws i x u h1 h2) hq) (by rw [h.tw i u q h2 hq]; omega) (by rw [h.tw i u q h2 hq]; omega)), tw := fun i u x h1 h2 => ?_, evs := ?_, te := hu, lt := hlt }
  · have hil : i < M.ts.length := by rw [← h.len]; exact (List.getElem?_eq_some_iff.1 h1).1
    exact (ht x (own_lt (h.ws i _ u (T.th_at hil) h1) h2)).trans (h.tw i u x h1 h2)
  · show w'.ownsRow B _ 3 ev' (M.es ++ [((k : Int), a, n)]).length ((M.es ++ [((k : Int), a, n)]).flatMap eC)
    rw [List.length_append, List.flatMap_append]
    simpa using hw
end

end Go.Proofs.YtneclfaamgfoeaaDoor

/- Lists in rows of their own; append of a whole list, nil or not, onto such a row. -/
namespace Go.Proofs.YtneclfaamgfoeaaDoor
open Go.RowKit Go.Maps
set_option linter.unusedVariables false

theorem gb_of_below {w x : World} (h : Below w.heap.size w x) (r : Option Nat) : w.grownBy x r := ⟨h.os, h.tape, h.output, h.size, fun k hk _ => h.block k hk⟩

theorem bl_one (w : World) (x : Obj) : Below w.heap.size w (w.alloc x) := (Below.refl _ _).alloc (Nat.le_refl _) _

theorem info_partsL {P : Program} {t : TypeId} {z : Option Value} {k m : Nat} (h : (P.info? t).map (fun i => (i.zero, i.size, i.bytes)) = some (z, k, m)) : ∃ i, P.info? t = some i ∧ i.zero = z ∧ i.size = k ∧ i.bytes = m := by
  cases e : P.info? t with
  | none => rw [e] at h; simp at h
  | some i => rw [e] at h; simp at h; exact ⟨i, rfl, h.1, h.2.1, h.2.2⟩

theorem flat_at {α : Type} (f : α → List Value) (m : Nat) (d : α) (hm : ∀ x, (f x).length = m) : ∀ (l : List α) (i j : Nat), i < l.length → j < m → (l.flatMap f)[i * m + j]? = (f (l.getD i d))[j]?
  | [], i, j, hi, _ => by simp at hi
  | x :: l, 0, j, hi, hj => by
    rw [List.flatMap_cons, Nat.zero_mul, Nat.zero_add, List.getElem?_append_left (by rw [hm]; exact hj)]
    rfl
  | x :: l, i + 1, j, hi, hj => by
    rw [List.flatMap_cons, List.getElem?_append_right (by rw [hm, Nat.succ_mul]; omega), hm, show (i + 1) * m + j - m = i * m + j by rw [Nat.succ_mul]; omega, flat_at f m d hm l i j (by simpa using hi) hj]
    rfl
theorem row_at {w : World} {B : Nat} {ty : TypeId} {m n : Nat} {v : Value} {α : Type} {f : α → List Value} {l : List α} (d : α) (hm : ∀ x, (f x).length = m) (h : w.ownsRow B ty m v n (l.flatMap f)) (hn : l.length = n) :
    ∃ a c, v = .slice a n c ∧ (a = none → n = 0 ∧ c = 0) ∧ (n = 0 ∨ ∃ b off, a = some ⟨b, off, none⟩ ∧ ∀ i, i < n → ∀ j u, j < m → (f (l.getD i d))[j]? = some u → w.cell? ⟨b, off + i * m + j, none⟩ = some u) := by
  rcases h.2 with ⟨rfl, rfl⟩ | ⟨g, cap, cur, rfl, hb, hh, h1, h2, h3, h4⟩
  · exact ⟨none, 0, rfl, fun _ => ⟨rfl, rfl⟩, .inl rfl⟩
  · refine ⟨_, _, rfl, fun e => (by cases e), .inr ⟨g, 0, rfl, fun i hi j u hj hu => ?_⟩⟩
    have hlt : i * m + j < n * m := by
      have : (i + 1) * m ≤ n * m := Nat.mul_le_mul_right m hi
      rw [Nat.succ_mul] at this
      omega
    rw [Nat.zero_add, h.cellAt _ hlt, flat_at f m d hm l i j (by omega) hj]
    exact hu

/-- append of a whole list, nil or not, onto a row of one's own. -/
theorem run_append_more (w : World) (B : Nat) (t e : TypeId) (i0 : TypeInfo) (z : Value) (size bytes : Nat) (ht : Tryd.prog.underlying t = some (.slice e)) (hi : Tryd.prog.info? e = some i0) (hz : i0.zero = some z) (hsize : i0.size = size) (hby : i0.bytes = bytes) (hzs : z.cells.size = size) (hsz : 0 < size)
    {v : Value} {n : Nat} {xs : List Value} (hown : w.ownsRow B e size v n xs) (hB : B ≤ w.heap.size)
    {a : Option Addr} {l c : Nat} {cs : List Value} (hnil : a = none → l = 0 ∧ c = 0) (hlen : cs.length = l * size) (hcells : ∀ ad, a = some ad → ∀ j u, cs[j]? = some u → w.cell? (ad.add j) = some u) (h1 : ∀ u ∈ cs, u.oneCell' = true) (hb : (n + l) * bytes ≤ 140737488355328) (hm : n + l ≤ 140737488355328) (ty : TypeId) :
    ∃ v' w', (Builtin.append_ #[t, t] ty #[v, .slice a l c]).run Tryd.prog w = .ok v' w' ∧ w'.ownsRow B e size v' (n + l) (xs ++ cs) ∧ w.grownBy w' v.ownBlock ∧ ∀ g, v'.ownBlock = some g → v.ownBlock = some g ∨ w.heap.size ≤ g := by
  cases a with
  | none =>
    obtain ⟨rfl, rfl⟩ := hnil rfl
    obtain rfl : cs = [] := List.eq_nil_of_length_eq_zero (by simpa using hlen)
    exact ⟨_, _, run_append_owned_none (P := Tryd.prog) w B t ty e i0 size ht hi v n xs hown, by simpa using hown, gb_of_below (Below.refl _ _) _, fun g hg => .inl hg⟩
  | some ad =>
    obtain ⟨v', w', hr, ho, hg, -, h5⟩ := run_append_own_at (P := Tryd.prog) w B t ty e i0 z size bytes ht hi hz hsize hby hzs hsz v n xs hown ad l c cs hlen (hcells ad rfl) h1 (by unfold maxLen; omega) hb hB
    refine ⟨v', w', hr, ho, hg, fun g hg' => ?_⟩
    rcases h5 with h5 | h5
    · exact .inl (h5 ▸ hg')
    · rw [h5] at hg'
      cases hg'
      exact .inr (Nat.le_refl _)
theorem wpList_append_more {ops : Array Oper} {rest : List Oper} {o : Oper} {ac : Act} {w : World} {Q : Exit → Act → World → Prop} (hgd : o.guard = none) (s x : Operand) (t : TypeId)
    (ho : o.op = .call { callee := .builtin .append, args := #[s, x], argTypes := #[t, t] }) (B : Nat) (e : TypeId) (i0 : TypeInfo) (z : Value) (size bytes : Nat) (ht : Tryd.prog.underlying t = some (.slice e)) (hi : Tryd.prog.info? e = some i0) (hz : i0.zero = some z) (hsize : i0.size = size) (hby : i0.bytes = bytes) (hzs : z.cells.size = size) (hsz : 0 < size)
    {v : Value} {n : Nat} {xs : List Value} (hs : ac.eval s = v) (hown : w.ownsRow B e size v n xs) (hB : B ≤ w.heap.size)
    {a : Option Addr} {l c : Nat} {cs : List Value} (hx : ac.eval x = .slice a l c) (hnil : a = none → l = 0 ∧ c = 0) (hlen : cs.length = l * size) (hcells : ∀ ad, a = some ad → ∀ j u, cs[j]? = some u → w.cell? (ad.add j) = some u) (h1 : ∀ u ∈ cs, u.oneCell' = true) (hb : (n + l) * bytes ≤ 140737488355328) (hm : n + l ≤ 140737488355328)
    (hk : ∀ v' w', w'.ownsRow B e size v' (n + l) (xs ++ cs) → w.grownBy w' v.ownBlock → (∀ g, v'.ownBlock = some g → v.ownBlock = some g ∨ w.heap.size ≤ g) → wpList Tryd.prog ops Q rest (ac.put o.dst v') w') : wpList Tryd.prog ops Q (o :: rest) ac w := by
  refine wpList_plain hgd fun K hK => ?_
  obtain ⟨v', w', hr, h2, h3, h4⟩ := run_append_more w B t e i0 z size bytes ht hi hz hsize hby hzs hsz hown hB hnil hlen hcells h1 hb hm o.type
  unfold Oper.wp execOp
  simp only [ho, resolve, invoke, builtin, Sem.run_bind, Sem.run_pure, Result.andThen_ok, List.map_toArray, List.map_cons, List.map_nil, hs, hx, hr]
  exact hK _ _ (hk v' w' h2 h3 h4)

theorem flat_cells {α : Type} {w : World} {f : α → List Value} {m : Nat} {l : List α} {d : α} {b off : Nat} (hm : ∀ x, (f x).length = m) (hm0 : 0 < m) (h : ∀ i, i < l.length → ∀ j u, j < m → (f (l.getD i d))[j]? = some u → w.cell? ⟨b, off + i * m + j, none⟩ = some u) : ∀ q u, (l.flatMap f)[q]? = some u → w.cell? ⟨b, off + q, none⟩ = some u := by
  intro q u hu
  have hl : (l.flatMap f).length = l.length * m := by
    clear h hu
    induction l with
    | nil => simp
    | cons x l ih => rw [List.flatMap_cons, List.length_append, hm, ih, List.length_cons, Nat.succ_mul]; omega
  have hq : q < l.length * m := by rw [← hl]; exact (List.getElem?_eq_some_iff.1 hu).1
  have hqd : q / m * m + q % m = q := by rw [Nat.mul_comm]; exact Nat.div_add_mod q m
  have hi : q / m < l.length := Nat.div_lt_of_lt_mul (by rw [Nat.mul_comm]; exact hq)
  have hj : q % m < m := Nat.mod_lt _ hm0
  have h2 := h (q / m) hi (q % m) u hj (by rw [← flat_at f m d hm l _ _ hi hj, hqd]; exact hu)
  rwa [Nat.add_assoc, hqd] at h2
theorem flat_len' {α : Type} {f : α → List Value} {m : Nat} (hm : ∀ x, (f x).length = m) (l : List α) : (l.flatMap f).length = l.length * m := by
  induction l with
  | nil => simp
  | cons x l ih => rw [List.flatMap_cons, List.length_append, hm, ih, List.length_cons, Nat.succ_mul]; omega

theorem step_append_more {ops : Array Oper} {o : Oper} {ac : Act} {w : World} {K : Act → World → Prop} {Q : Exit → Act → World → Prop} {E : Prop} (hgd : o.guard = none) (s x : Operand) (t : TypeId)
    (ho : o.op = .call { callee := .builtin .append, args := #[s, x], argTypes := #[t, t] }) (B : Nat) (e : TypeId) (i0 : TypeInfo) (z : Value) (size bytes : Nat) (ht : Tryd.prog.underlying t = some (.slice e)) (hi : Tryd.prog.info? e = some i0) (hz : i0.zero = some z) (hsize : i0.size = size) (hby : i0.bytes = bytes) (hzs : z.cells.size = size) (hsz : 0 < size)
    {v : Value} {n : Nat} {xs : List Value} (hs : ac.eval s = v) (hown : w.ownsRow B e size v n xs) (hB : B ≤ w.heap.size)
    {a : Option Addr} {l c : Nat} {cs : List Value} (hx : ac.eval x = .slice a l c) (hnil : a = none → l = 0 ∧ c = 0) (hlen : cs.length = l * size) (hcells : ∀ ad, a = some ad → ∀ j u, cs[j]? = some u → w.cell? (ad.add j) = some u) (h1 : ∀ u ∈ cs, u.oneCell' = true) (hb : (n + l) * bytes ≤ 140737488355328) (hm : n + l ≤ 140737488355328)
    (hk : ∀ v' w', w'.ownsRow B e size v' (n + l) (xs ++ cs) → w.grownBy w' v.ownBlock → (∀ g, v'.ownBlock = some g → v.ownBlock = some g ∨ w.heap.size ≤ g) → K (ac.put o.dst v') w') : if Region.wanted o (yielded ops ac.tmps) = true then Oper.wp Tryd.prog o ac w K Q else E := by
  have hw : Region.wanted o (yielded ops ac.tmps) = true := by simp [Region.wanted, hgd]
  rw [if_pos hw]
  obtain ⟨v', w', hr, h2, h3, h4⟩ := run_append_more w B t e i0 z size bytes ht hi hz hsize hby hzs hsz hown hB hnil hlen hcells h1 hb hm o.type
  unfold Oper.wp execOp
  simp only [ho, resolve, invoke, builtin, Sem.run_bind, Sem.run_pure, Result.andThen_ok, List.map_toArray, List.map_cons, List.map_nil, hs, hx, hr]
  exact hk v' w' h2 h3 h4

end Go.Proofs.YtneclfaamgfoeaaDoor

/- The newest store that waits; a trap; what is seen. -/
namespace Go.Proofs.YtneclfaamgfoeaaDoor
open Go.RowKit Go.Maps
set_option linter.unusedVariables false
set_option linter.unusedSimpArgs false

theorem cell_up {w w' : World} {p : Addr} {v : Value} (hb : Below w.heap.size w w') (h : w.cell? p = some v) : w'.cell? p = some v := (hb.cell (p := p) (World.block_lt_of_cell? w p h)).trans h
theorem T.newest_snoc (l : List T.Wait) (p : T.Wait) (x : Int) : T.newest (l ++ [p]) x = if p.1 = x then some p.2 else T.newest l x := by
  unfold T.newest
  rw [List.reverse_append, List.reverse_singleton, List.singleton_append, List.find?_cons]
  by_cases e : p.1 = x
  · rw [if_pos e, show (p.1 == x) = true by simpa using e]; rfl
  · rw [if_neg e, show (p.1 == x) = false by simpa using e]
theorem own_sl {x : World} {B : Nat} {ty : TypeId} {m n : Nat} {v : Value} {cs : List Value} (h : x.ownsRow B ty m v n cs) : ∃ a c, v = .slice a n c ∧ n ≤ c ∧ c ≤ maxLen := by
  rcases h.2 with ⟨rfl, rfl⟩ | ⟨g, cap, cur, rfl, -, -, h1, h2, -⟩
  · exact ⟨none, 0, rfl, Nat.le_refl _, Nat.zero_le _⟩
  · exact ⟨_, cap, rfl, h1, h2⟩

set_option maxRecDepth 100000 in
set_option maxHeartbeats 4000000 in
theorem newest_any {B : Nat} {w : World} {g q : Nat} {u : Value} {ws : List T.Wait} (h12 : w.cell? ⟨g, q + 12, none⟩ = some u) (ho : w.ownsRow B 52 2 u ws.length (ws.flatMap wC)) (hn : ws.length ≤ 1000) (x : Int) :
    Calls Tryd.prog 96 #[.pointer (some ⟨g, q, none⟩), .int .i64 x] w fun e w' => e = .returned (.tuple #[.int .i64 ((T.newest ws x).getD 0), .bool (T.newest ws x).isSome]) ∧ w' = w := by
  obtain ⟨a, c, rfl, -, hat⟩ := row_at (m := 2) (f := wC) (0, 0) (fun _ => rfl) ho rfl
  obtain ⟨hnc, hcm⟩ : ws.length ≤ c ∧ c ≤ maxLen := by obtain ⟨a', c', e, h1, h2⟩ := own_sl ho; cases e; exact ⟨h1, h2⟩
  unfold maxLen at hcm
  have HAT : Hid _ := hat
  obtain ⟨n, hN⟩ : ∃ n, ws.length = n := ⟨_, rfl⟩
  have HT : Hid (ws.take n = ws) := by show _ = _; rw [← hN, List.take_length]
  have HG : Hid (∀ k, k < n → T.newest (ws.take (k + 1)) x = if (ws.getD k (0, 0)).1 = x then some (ws.getD k (0, 0)).2 else T.newest (ws.take k) x) := fun k hk => by
    have hk' : k < ws.length := by omega
    rw [List.take_succ_eq_append_getElem hk', T.newest_snoc]
    simp [List.getD, hk']
  have HE : Hid (T.newest ws x = T.newest (ws.take n) x) := by show _ = _; rw [HT.out]
  rw [hN] at h12 hn hnc HAT
  clear ho hat hN
  go_enter Tryd.func96, Tryd.ntmps96
  go_wp2
  go_loopw [6] (fun i wr => ∃ k : Nat, k ≤ n ∧ i = .int .i64 ((k : Int) - 1) ∧ Hid (T.newest ws x = T.newest (ws.take k) x) ∧ wr = w) (fun i _ => (RowKit.intOf i + 1).toNat)
  case atStart => exact ⟨n, Nat.le_refl _, rfl, HE, rfl⟩
  case round =>
    obtain ⟨k, hk, rfl, HN, rfl⟩ := hrel
    cases k with
    | zero =>
      go_wp2
      go_ret2
      have := HN.out
      rw [this]
      exact ⟨rfl, rfl⟩
    | succ k =>
      rcases HAT.out with h0 | ⟨gb, off, rfl, hc⟩
      · omega
      have d0 := hc k (by omega) 0 _ (by decide) rfl
      have d1 := hc k (by omega) 1 _ (by decide) rfl
      have e2 := HG.out k (by omega)
      obtain ⟨y, v, hp⟩ : ∃ y v, ws.getD k (0, 0) = (y, v) := ⟨_, _, rfl⟩
      rw [hp] at d0 d1 e2
      simp only [Nat.add_zero] at d0 d1 e2
      have HE2 : Hid _ := e2
      have HN2 : Hid _ := HN.out
      clear hc hp e2 HN
      have i0 : (0 : Int) ≤ (k : Int) := by omega
      have i2 : (k : Int) < (n : Int) := by omega
      have e1 : (((k + 1 : Nat) : Int) - 1) = (k : Int) := by omega
      rw [e1]
      by_cases e : y = x
      · subst e
        go_wp2
        go_ret2
        rw [HN2.out, HE2.out, if_pos trivial]
        exact ⟨rfl, rfl⟩
      · go_wp2
        go_roundw
        case rel => exact ⟨k, by omega, rfl, (by show _ = _; rw [HN2.out, HE2.out, if_neg e] : Hid _), trivial⟩
        case measure => simp [RowKit.intOf]

section
variable {B : Nat} {w w' : World} {b : Nat} {M : T.Mach} {K : Nat} {t t' : Nat → Nat} {bm g cap : Nat} {ev : Value} {us : List Value}
theorem TV.u {k : Nat} (h : TV B w b M K t bm g cap ev us) (hk : k < M.ts.length) : ∃ u, us[k]? = some u := ⟨_, List.getElem?_eq_getElem (by rw [h.len]; exact hk)⟩
theorem TV.cell {k : Nat} {u : Value} (h : TV B w b M K t bm g cap ev us) (hk : k < M.ts.length) (hu : us[k]? = some u) (j : Nat) (x : Value) (hj : (thC k (M.th k) u)[j]? = some x) : w.cell? ⟨g, k * 13 + j, none⟩ = some x := h.tc k _ u (T.th_at hk) hu j x hj
theorem set_same {α : Type} {l : List α} {k : Nat} {x : α} (h : l[k]? = some x) : l.set k x = l := by
  apply List.ext_getElem?
  intro i
  by_cases e : k = i
  · subst e; rw [List.getElem?_set_self (List.getElem?_eq_some_iff.1 h).1, h]
  · rw [List.getElem?_set_ne e]
theorem thC_len (k : Nat) (h : T.Th) (u : Value) : (thC k h u).length = 13 := rfl
theorem off_ne {g a b : Nat} (h : a ≠ b) : (⟨g, a, none⟩ : Addr) ≠ ⟨g, b, none⟩ := fun e => h (by have := congrArg Addr.off e; simpa using this)
/-- One of a thread's registers was stored over. -/
theorem TV.reg {k : Nat} {u : Value} {h' : T.Th} (h : TV B w b M K t bm g cap ev us) (hk : k < M.ts.length) (hu : us[k]? = some u) (j : Nat) (v : Value) (hj : j < 13) (hw : h'.ws = (M.th k).ws) (hc : thC k h' u = (thC k (M.th k) u).set j v) :
    TV B (w.setCell ⟨g, k * 13 + j, none⟩ v) b (M.put k M.mem h') K t bm g cap ev us ∧ St t t w (w.setCell ⟨g, k * 13 + j, none⟩ v) := by
  have hg := gb_set w ⟨g, k * 13 + j, none⟩ v
  have hne : ∀ q, q < w.heap.size → t q ≠ 3 → (w.setCell ⟨g, k * 13 + j, none⟩ v).heap[q]? = w.heap[q]? := fun q hq h3 => hg.block q hq (fun e => h3 (by cases e; exact h.tg))
  have H := h.thr (w' := w.setCell ⟨g, k * 13 + j, none⟩ v) (t' := t) (h' := h') (u' := u) hk (fun q hq h3 _ => hne q hq h3) hg.size ?_ ?_ ?_ ?_ (fun x hx => h.tw k u x hu hx) (fun _ _ => rfl) (fun q hq => ⟨(h.lt q hq).1, by rw [World.size_setCell]; exact (h.lt q hq).2⟩)
  · rw [set_same hu] at H
    exact ⟨H, St.ofGrown hg (by show t g ≠ 0; rw [h.tg]; decide) (fun _ _ => rfl)⟩
  · intro i x hx
    rw [hc] at hx
    by_cases e : j = i
    · subst e
      rw [List.getElem?_set_self (by rw [thC_len]; exact hj)] at hx
      cases hx
      refine World.cell?_setCell_same' _ _ _ ?_
      obtain ⟨y, hy⟩ : ∃ y, (thC k (M.th k) u)[j]? = some y := ⟨_, List.getElem?_eq_getElem (by rw [thC_len]; exact hj)⟩
      rw [h.cell hk hu j y hy]
      rfl
    · rw [List.getElem?_set_ne e] at hx
      rw [World.cell?_setCell_other _ _ _ _ (off_ne (by omega))]
      exact h.cell hk hu i x hx
  · intro o ho
    exact World.cell?_setCell_other _ _ _ _ (off_ne (by omega))
  · intro o
    rw [World.frozen?_setCell]
    exact h.gz o
  · rw [hw]
    exact (h.ws k _ u (T.th_at hk) hu).kept hg (.inr fun e => by have h1 := h.tw k u _ hu e; have h2 := h.tg; simp only at h1; omega)
end

set_option maxRecDepth 100000 in
set_option maxHeartbeats 4000000 in
theorem trap_any {B : Nat} {w : World} {b : Nat} {M : T.Mach} {K : Nat} {t : Nat → Nat} {bm g cap : Nat} {ev : Value} {us : List Value} (h : TV B w b M K t bm g cap ev us) {k q : Nat} (hk : k < M.ts.length) (hq : q = k * 13) (n : Int) :
    Calls Tryd.prog 57 #[.pointer (some ⟨g, q, none⟩), .int .i64 n] w fun e w' => e = .returned (.tuple #[]) ∧ TV B w' b (T.setC M k (T.trapC (M.th k).c n)) K t bm g cap ev us ∧ St t t w w' := by
  subst hq
  obtain ⟨u, hu⟩ := h.u hk
  have d9 := h.cell hk hu 9 _ rfl
  have d10 := h.cell hk hu 10 _ rfl
  have f9 := h.gz (k * 13 + 9)
  have f10 := h.gz (k * 13 + 10)
  obtain ⟨p1, s1⟩ := h.reg (h' := ⟨{ (M.th k).c with st := 2 }, (M.th k).ws⟩) hk hu 9 (.int .i64 2) (by decide) rfl rfl
  have hk1 : k < (M.put k M.mem ⟨{ (M.th k).c with st := 2 }, (M.th k).ws⟩).ts.length := by rw [T.len_put]; exact hk
  have e1 := T.th_put hk M.mem ⟨{ (M.th k).c with st := 2 }, (M.th k).ws⟩
  obtain ⟨p2, s2⟩ := p1.reg (h' := ⟨T.trapC (M.th k).c n, (M.th k).ws⟩) hk1 hu 10 (.int .i64 n) (by decide) (by rw [e1]) (by rw [e1]; rfl)
  rw [T.put_put] at p2
  have HP : Hid _ := p2
  have HS : Hid _ := s1.trans s2
  clear p1 p2 s1 s2 e1 hk1
  go_enter Tryd.func57, Tryd.ntmps57
  go_wp2
  go_end0
  exact ⟨rfl, HP.out, HS.out⟩

end Go.Proofs.YtneclfaamgfoeaaDoor

/- What is seen. -/
namespace Go.Proofs.YtneclfaamgfoeaaDoor
open Go.RowKit Go.Maps
set_option linter.unusedVariables false
set_option linter.unusedSimpArgs false

theorem infoE : (Tryd.prog.info? 81).map (fun i => (i.zero, i.size, i.bytes)) = some (some (.agg #[.int .i64 0, .int .i64 0, .int .i64 0]), 3, 24) := by kernel_rfl
theorem infoW : (Tryd.prog.info? 52).map (fun i => (i.zero, i.size, i.bytes)) = some (some (.agg #[.int .i64 0, .int .i64 0]), 2, 16) := by kernel_rfl
def mark (t : Nat → Nat) (x c : Nat) : Nat → Nat := fun k => if k = x then c else t k
theorem mark_at (t : Nat → Nat) (x c : Nat) : mark t x c x = c := if_pos rfl

theorem TV.saw {B : Nat} {w : World} {b : Nat} {M : T.Mach} {K : Nat} {t : Nat → Nat} {bm g cap : Nat} {ev : Value} {us : List Value} (h : TV B w b M K t bm g cap ev us) {X Y : World} {k x cp : Nat} {a n : Int} (hb1 : Below w.heap.size w X)
    (ho : Y.ownsRow B 81 3 (.slice (some ⟨x, 0, none⟩) (M.es.length + 1) cp) (M.es.length + 1) (M.es.flatMap eC ++ eC ((k : Int), a, n))) (hg : X.grownBy Y ev.ownBlock) (hat : ev.ownBlock = some x ∨ w.heap.size ≤ x) :
    TV B (Y.setCell ⟨b, 3, none⟩ (.slice (some ⟨x, 0, none⟩) (M.es.length + 1) cp)) b (M.see k a n) K (mark t x 4) bm g cap (.slice (some ⟨x, 0, none⟩) (M.es.length + 1) cp) us ∧ St t (mark t x 4) w (Y.setCell ⟨b, 3, none⟩ (.slice (some ⟨x, 0, none⟩) (M.es.length + 1) cp)) := by
  have hxl := ho.lt x rfl
  have hs : w.heap.size ≤ Y.heap.size := Nat.le_trans hb1.size hg.size
  have hbl := h.bl
  have htag : ∀ q, q < w.heap.size → mark t x 4 q = t q := fun q hq => by
    unfold mark
    by_cases e : q = x
    · subst e
      rw [if_pos rfl]
      rcases hat with h1 | h1
      · exact (h.te q h1).symm
      · omega
    · rw [if_neg e]
  have evb : ev.ownBlock ≠ some b := fun e => by have h1 := h.te b e; have h2 := h.tb; omega
  have hgs := gb_set Y ⟨b, 3, none⟩ (.slice (some ⟨x, 0, none⟩) (M.es.length + 1) cp)
  have hold : ∀ q, q < w.heap.size → t q ≠ 1 → t q ≠ 4 → (Y.setCell ⟨b, 3, none⟩ (.slice (some ⟨x, 0, none⟩) (M.es.length + 1) cp)).heap[q]? = w.heap[q]? := fun q hq h1 h4 =>
    (hgs.block q (Nat.lt_of_lt_of_le hq hs) (fun e => h1 (by cases e; exact h.tb))).trans ((hg.block q (Nat.lt_of_lt_of_le hq hb1.size) (fun e => h4 (h.te q e.symm))).trans (hb1.block q hq))
  have hYb : Y.heap[b]? = w.heap[b]? := (hg.block b (Nat.lt_of_lt_of_le hbl hb1.size) (fun e => evb e.symm)).trans (hb1.block b hbl)
  have hcY : ∀ o, Y.cell? ⟨b, o, none⟩ = w.cell? ⟨b, o, none⟩ := fun o => World.cell?_of_block (a := ⟨b, o, none⟩) hYb
  have hxb : x ≠ b := by
    rintro rfl
    rcases hat with h1 | h1
    · exact evb h1
    · omega
  refine ⟨h.event hold (by rw [World.size_setCell]; exact hs) ?_ ?_ ?_ ?_ ?_ htag ?_, ⟨htag, fun q hq h0 => hold q hq (by rw [h0]; decide) (by rw [h0]; decide), by rw [World.size_setCell]; exact hs, hg.os.trans hb1.os, hg.tape.trans hb1.tape, hg.output.trans hb1.output⟩⟩
  · exact World.cell?_setCell_same' _ _ _ (by rw [hcY, h.c3]; rfl)
  · intro o ho
    rw [World.cell?_setCell_other _ _ _ _ (off_ne (fun e => ho e.symm))]
    exact hcY o
  · intro o
    rw [World.frozen?_setCell]
    exact blk_froz (p := ⟨b, o, none⟩) hYb (h.fz o)
  · exact ho.kept hgs (.inr fun e => by cases e; exact hxb rfl)
  · intro y hy
    cases hy
    exact mark_at _ _ _
  · intro q hq
    rw [World.size_setCell]
    unfold mark at hq
    by_cases e : q = x
    · subst e; exact hxl
    · rw [if_neg e] at hq
      exact ⟨(h.lt q hq).1, Nat.lt_of_lt_of_le (h.lt q hq).2 hs⟩

set_option maxRecDepth 100000 in
set_option maxHeartbeats 4000000 in
theorem see_any {B : Nat} {w : World} {b : Nat} {M : T.Mach} {K : Nat} {t : Nat → Nat} {bm g cap : Nat} {ev : Value} {us : List Value} (h : TV B w b M K t bm g cap ev us) {k q : Nat} (hk : k < M.ts.length) (hq : q = k * 13) (a n : Int) (hes : M.es.length ≤ 1000000) :
    Calls Tryd.prog 46 #[.pointer (some ⟨b, 0, none⟩), .pointer (some ⟨g, q, none⟩), .int .i64 a, .int .i64 n] w fun e w' => e = .returned (.tuple #[]) ∧ ∃ t' ev', TV B w' b (M.see k a n) K t' bm g cap ev' us ∧ St t t' w w' := by
  subst hq
  obtain ⟨u, hu⟩ := h.u hk
  have d11 := h.cell hk hu 11 _ rfl
  have c3 := h.c3
  obtain ⟨ie, hie, hp0, hp1, hp2⟩ := info_partsL infoE
  have hbl := h.bl
  have hgl := h.gl
  have hBB := h.hB
  have HV : Hid _ := h
  have HB1 : Hid (Below w.heap.size w (w.alloc (.cells #[.int .i64 k, .int .i64 a, .int .i64 n] 81)).drew) := (bl_one _ _).drew
  have HW1 : Hid ((w.alloc (.cells #[.int .i64 k, .int .i64 a, .int .i64 n] 81)).drew.ownsRow B 81 3 ev M.es.length (M.es.flatMap eC)) := h.evs.kept (gb_of_below HB1.out (some w.heap.size)) (.inr fun e => by have := own_lt h.evs e; omega)
  have HNC : Hid (∀ j u, (eC ((k : Int), a, n))[j]? = some u → (w.alloc (.cells #[.int .i64 k, .int .i64 a, .int .i64 n] 81)).drew.cell? ((⟨w.heap.size, 0, none⟩ : Addr).add j) = some u) := fun j u hu => by
    rw [Addr.add_lit, Nat.zero_add]
    exact cell_last _ _ _ _ _ rfl (by simpa [eC] using hu)
  have hvb : ev.ownBlock ≠ some b := fun e => by have h1 := h.te b e; have h2 := h.tb; omega
  have F3a : (w.alloc (.cells #[.int .i64 k, .int .i64 a, .int .i64 n] 81)).drew.cell? ⟨b, 3, none⟩ = some ev := cell_up HB1.out c3
  clear h
  go_enter Tryd.func46, Tryd.ntmps46
  go_wp2_with fail
  go_region_law ((refine step_append_lies _ (by rfl) _ _ 39 (by rfl) B 81 ie _ 3 24 Tryd.underlying39 hie hp0 hp1 hp2 (by rfl) (by decide) ev M.es.length _ (by rfl) HW1.out ⟨w.heap.size, 0, none⟩ 1 1 (eC ((k : Int), a, n)) (by rfl) (by rfl) HNC.out (by intro u hu; simp [eC] at hu; rcases hu with rfl | rfl | rfl <;> rfl) (by decide) (by unfold maxLen; omega) (by omega) (by simp; omega) (w.heap.size + 1) (by simp) ?_; intro x cp Y6 ho6 hg6 hat6 hlt6; have m6 : Y6.cell? ⟨b, 3, none⟩ = some ev := hg6.cell F3a (fun e => hvb e.symm); have z6 : Y6.frozen? ⟨b, 3, none⟩ = false := (hg6.frozen_far ⟨b, 3, none⟩ (by show b < _; simp; omega) (fun e => hvb e.symm)).trans ((HB1.out.frozen (p := ⟨b, 3, none⟩) (by show b < _; omega)).trans (HV.out.fz 3))))
  all_goals
    go_wp2
    go_end0
    obtain ⟨r1, r2⟩ := HV.out.saw HB1.out ho6 hg6 (hat6.imp id (fun e => by omega))
    exact ⟨rfl, _, _, r1, r2⟩

end Go.Proofs.YtneclfaamgfoeaaDoor

/- A thread's oldest store leaves. -/
namespace Go.Proofs.YtneclfaamgfoeaaDoor
open Go.RowKit Go.Maps
set_option linter.unusedVariables false
set_option linter.unusedSimpArgs false

/-- append onto a row with room, of cells that lie wherever. -/
theorem step_append_spare {ops : Array Oper} {o : Oper} {ac : Act} {w : World} {K : Act → World → Prop} {Q : Exit → Act → World → Prop} {E : Prop} (hgd : o.guard = none) (s x : Operand) (t : TypeId)
    (ho : o.op = .call { callee := .builtin .append, args := #[s, x], argTypes := #[t, t] })
    (base : Nat) (e : TypeId) (i : TypeInfo) (size : Nat) (ht : Tryd.prog.underlying t = some (.slice e)) (hi : Tryd.prog.info? e = some i) (hsize : i.size = size)
    (g n cap : Nat) (xs : List Value) (hs : ac.eval s = .slice (some ⟨g, 0, none⟩) n cap) (hown : w.ownsRow base e size (.slice (some ⟨g, 0, none⟩) n cap) n xs)
    (ad : Addr) (m c : Nat) (news : List Value) (hx : ac.eval x = .slice (some ad) m c) (hl : news.length = m * size) (hnews : ∀ j u, news[j]? = some u → w.cell? (ad.add j) = some u) (h1 : ∀ u ∈ news, u.oneCell' = true)
    (hroom : n + m ≤ cap)
    (hk : ∀ w', w'.ownsRow base e size (.slice (some ⟨g, 0, none⟩) (n + m) cap) (n + m) (xs ++ news) → w.grownBy w' (some g) → K (ac.put o.dst (.slice (some ⟨g, 0, none⟩) (n + m) cap)) w') : if Region.wanted o (yielded ops ac.tmps) = true then Oper.wp Tryd.prog o ac w K Q else E := by
  have hw : Region.wanted o (yielded ops ac.tmps) = true := by simp [Region.wanted, hgd]
  rw [if_pos hw]
  exact wp_append_own_spare w s x t ho base e i size ht hi hsize g n cap xs hs hown ad m c news hx hl hnews h1 hroom hk

def markO (t : Nat → Nat) (u : Value) (c : Nat) : Nat → Nat := fun q => if u.ownBlock = some q then c else t q
/-- A thread's row of waiting stores is another one, or has others in it. -/
theorem TV.wait {B : Nat} {w : World} {b : Nat} {M : T.Mach} {K : Nat} {t : Nat → Nat} {bm g cap : Nat} {ev : Value} {us : List Value} (h : TV B w b M K t bm g cap ev us) {k : Nat} (hk : k < M.ts.length) {u u' : Value} (hu : us[k]? = some u) {X Y : World} (hb1 : Below w.heap.size w X) {ws' : List T.Wait}
    (ho : Y.ownsRow B 52 2 u' ws'.length (ws'.flatMap wC)) (hg : X.grownBy Y u.ownBlock) (hat : ∀ x, u'.ownBlock = some x → u.ownBlock = some x ∨ w.heap.size ≤ x) :
    TV B (Y.setCell ⟨g, k * 13 + 12, none⟩ u') b (M.put k M.mem ⟨(M.th k).c, ws'⟩) K (markO t u' (5 + k)) bm g cap ev (us.set k u') ∧ St t (markO t u' (5 + k)) w (Y.setCell ⟨g, k * 13 + 12, none⟩ u') := by
  have hs : w.heap.size ≤ Y.heap.size := Nat.le_trans hb1.size hg.size
  have hgl := h.gl
  have htag : ∀ q, q < w.heap.size → markO t u' (5 + k) q = t q := fun q hq => by
    unfold markO
    by_cases e : u'.ownBlock = some q
    · rw [if_pos e]
      rcases hat q e with h1 | h1
      · exact (h.tw k u q hu h1).symm
      · omega
    · rw [if_neg e]
  have evb : u.ownBlock ≠ some g := fun e => by have h1 := h.tw k u g hu e; have h2 := h.tg; omega
  have evb' : u'.ownBlock ≠ some g := fun e => by
    rcases hat g e with h1 | h1
    · exact evb h1
    · omega
  have hgs := gb_set Y ⟨g, k * 13 + 12, none⟩ u'
  have hold : ∀ q, q < w.heap.size → t q ≠ 3 → t q ≠ 5 + k → (Y.setCell ⟨g, k * 13 + 12, none⟩ u').heap[q]? = w.heap[q]? := fun q hq h1 h4 =>
    (hgs.block q (Nat.lt_of_lt_of_le hq hs) (fun e => h1 (by cases e; exact h.tg))).trans ((hg.block q (Nat.lt_of_lt_of_le hq hb1.size) (fun e => h4 (h.tw k u q hu e.symm))).trans (hb1.block q hq))
  have hYb : Y.heap[g]? = w.heap[g]? := (hg.block g (Nat.lt_of_lt_of_le hgl hb1.size) (fun e => evb e.symm)).trans (hb1.block g hgl)
  have hcY : ∀ o, Y.cell? ⟨g, o, none⟩ = w.cell? ⟨g, o, none⟩ := fun o => World.cell?_of_block (a := ⟨g, o, none⟩) hYb
  refine ⟨h.thr hk hold (by rw [World.size_setCell]; exact hs) ?_ ?_ ?_ ?_ ?_ htag ?_, ⟨htag, fun q hq h0 => hold q hq (by rw [h0]; decide) (by rw [h0]; omega), by rw [World.size_setCell]; exact hs, hg.os.trans hb1.os, hg.tape.trans hb1.tape, hg.output.trans hb1.output⟩⟩
  · intro i x hx
    by_cases e : i = 12
    · subst e
      have : x = u' := by simpa [thC] using hx.symm
      subst this
      exact World.cell?_setCell_same' _ _ _ (by rw [hcY, h.cell hk hu 12 _ rfl]; rfl)
    · have hi : i < 13 := (List.getElem?_eq_some_iff.1 hx).1
      rw [World.cell?_setCell_other _ _ _ _ (off_ne (by omega)), hcY]
      refine h.cell hk hu i x ?_
      rw [← hx]
      match i, hi, e with
      | 0, _, _ => rfl
      | 1, _, _ => rfl
      | 2, _, _ => rfl
      | 3, _, _ => rfl
      | 4, _, _ => rfl
      | 5, _, _ => rfl
      | 6, _, _ => rfl
      | 7, _, _ => rfl
      | 8, _, _ => rfl
      | 9, _, _ => rfl
      | 10, _, _ => rfl
      | 11, _, _ => rfl
      | 12, _, e => exact absurd rfl e
  · intro o ho
    rw [World.cell?_setCell_other _ _ _ _ (off_ne (by omega))]
    exact hcY o
  · intro o
    rw [World.frozen?_setCell]
    exact blk_froz (p := ⟨g, o, none⟩) hYb (h.gz o)
  · exact ho.kept hgs (.inr evb')
  · intro y hy
    exact if_pos hy
  · intro q hq
    rw [World.size_setCell]
    unfold markO at hq
    by_cases e : u'.ownBlock = some q
    · exact ho.lt q e
    · rw [if_neg e] at hq
      exact ⟨(h.lt q hq).1, Nat.lt_of_lt_of_le (h.lt q hq).2 hs⟩

set_option maxRecDepth 100000 in
set_option maxHeartbeats 4000000 in
theorem leave_no {B : Nat} {w : World} {b : Nat} {M : T.Mach} {K : Nat} {t : Nat → Nat} {bm g cap : Nat} {ev : Value} {us : List Value} (h : TV B w b M K t bm g cap ev us) {k q : Nat} (hk : k < M.ts.length) (hq : q = k * 13) (he : (M.th k).ws = []) :
    Calls Tryd.prog 33 #[.pointer (some ⟨b, 0, none⟩), .pointer (some ⟨g, q, none⟩)] w fun e w' => e = .returned (.bool false) ∧ w' = w := by
  subst hq
  obtain ⟨u, hu⟩ := h.u hk
  have d12 := h.cell hk hu 12 _ rfl
  have hr := h.ws k _ u (T.th_at hk) hu
  rw [he] at hr
  obtain ⟨a, c, rfl, hnc, hcm⟩ := own_sl hr
  simp only [List.length_nil] at d12
  clear h hr
  go_enter Tryd.func33, Tryd.ntmps33
  go_wp2
  go_ret
  exact ⟨rfl, rfl⟩

set_option maxRecDepth 100000 in
set_option maxHeartbeats 4000000 in
theorem leave_yes {B : Nat} {w : World} {b : Nat} {M : T.Mach} {K : Nat} {t : Nat → Nat} {bm g cap : Nat} {ev : Value} {us : List Value} (h : TV B w b M K t bm g cap ev us) {k q : Nat} (hk : k < M.ts.length) (hq : q = k * 13) {y v : Int} {r : List T.Wait} (he : (M.th k).ws = (y, v) :: r) (hy : (Lit.int .i64 y).wf = true) (hv : (Lit.int .i64 v).wf = true) (hK : K < maxLen) (hr8 : r.length ≤ 1000) :
    Calls Tryd.prog 33 #[.pointer (some ⟨b, 0, none⟩), .pointer (some ⟨g, q, none⟩)] w fun e w' => e = .returned (.bool true) ∧ ∃ t' us', TV B w' b (M.put k (T.upd M.mem y v) ⟨(M.th k).c, r⟩) (K + 1) t' bm g cap ev us' ∧ St t t' w w' := by
  subst hq
  obtain ⟨u, hu⟩ := h.u hk
  have d12 := h.cell hk hu 12 _ rfl
  have hr := h.ws k _ u (T.th_at hk) hu
  rw [he] at hr
  obtain ⟨a, c, rfl, hnc, hcm⟩ := own_sl hr
  rcases hr.2 with ⟨hn, -⟩ | ⟨x, c', cur, hsl, -⟩
  · cases hn
  obtain ⟨rfl, -, rfl⟩ : a = some ⟨x, 0, none⟩ ∧ True ∧ c = c' := by cases hsl; exact ⟨rfl, trivial, rfl⟩
  have x0 := hr.cellAt 0 (by simp)
  have x1 := hr.cellAt 1 (by simp; omega)
  simp only [List.length_cons, List.flatMap_cons, wC] at d12 x0 x1 hnc hr
  simp at x0 x1
  have c1 := h.c1
  have HV : Hid _ := h
  have HR : Hid (w.ownsRow B 52 2 (.slice (some ⟨x, 0, none⟩) (r.length + 1) c) (r.length + 1) ([.int .i64 y, .int .i64 v] ++ r.flatMap wC)) := hr
  obtain ⟨iw, hiw, hp0, hp1, hp2⟩ := info_partsL infoW
  clear h hr hsl
  unfold maxLen at hcm
  obtain ⟨X1, hX1⟩ : ∃ X1, w.alloc (.cells #[.int .i64 y, .int .i64 v] 52) = X1 := ⟨_, rfl⟩
  have b1 : Below w.heap.size w X1 := by subst hX1; exact bl_one _ _
  have o0 : X1.cell? ⟨w.heap.size, 0, none⟩ = some (.int .i64 y) := by subst hX1; exact cell_last _ _ _ _ _ rfl rfl
  have o1 : X1.cell? ⟨w.heap.size, 1, none⟩ = some (.int .i64 v) := by subst hX1; exact cell_last _ _ _ _ _ rfl rfl
  have c11 := cell_up b1 c1
  have HV1 : Hid (TV B X1.drew b M K t bm g cap ev us) := HV.out.below b1.drew
  have HX1 : Hid _ := hX1
  go_enter Tryd.func33, Tryd.ntmps33
  go_wp2_with fail
  have z1 : X1.heap.size = w.heap.size + 1 := by subst hX1; simp
  have HT0 : Hid (t w.heap.size = 0) := Classical.byContradiction fun e => by have := (HV.out.lt _ e).2; omega
  have HKK : Hid (∀ y2 : World, On t 2 X1.drew y2 → y2.cell? ⟨b, 1, none⟩ = some (.pointer (some ⟨bm, 0, none⟩)) ∧ y2.cell? ⟨w.heap.size, 0, none⟩ = some (.int .i64 y) ∧ y2.cell? ⟨w.heap.size, 1, none⟩ = some (.int .i64 v)) := fun y2 hon => by
    have e1 := hon.block b HV1.out.bl (by rw [HV.out.tb]; decide)
    have e2 := hon.block w.heap.size (by show _ < X1.heap.size; omega) (by rw [HT0.out]; decide)
    exact ⟨blk_cell (p := ⟨b, 1, none⟩) e1 c11, blk_cell (p := ⟨w.heap.size, 0, none⟩) e2 o0, blk_cell (p := ⟨w.heap.size, 1, none⟩) e2 o1⟩
  have h0 := mp_store HV1.out.mem y v hy hv hK HV1.out.hB
  generalize (T.er (M.mem y)) = z at h0
  have HST : Hid (Calls Tryd.prog 47 #[.pointer (some ⟨bm, 0, none⟩), .int .i64 y, .int .i64 v] X1.drew fun e w' => e = .returned (.int .i64 z) ∧ MP B w' bm (T.upd M.mem y v) (K + 1) t ∧ On t 2 X1.drew w') := h0
  clear h0
  go_region_held3 (fun w' : World => w'.cell? ⟨b, 1, none⟩ = some (.pointer (some ⟨bm, 0, none⟩)) ∧ w'.cell? ⟨w.heap.size, 0, none⟩ = some (.int .i64 y) ∧ w'.cell? ⟨w.heap.size, 1, none⟩ = some (.int .i64 v)) (first | exact ⟨c11, o0, o1⟩ | exact HKK.out _ hon2) ((go_at_call 47; refine HST.out.mono ?_; rintro e y2 ⟨rfl, hm2, hon2⟩))
  have hv2 := HV1.out.memop hon2 hm2
  have hr2 : y2.ownsRow B 52 2 (.slice (some ⟨x, 0, none⟩) (r.length + 1) c) (r.length + 1) ([.int .i64 y, .int .i64 v] ++ r.flatMap wC) := by
    have := hv2.ws k (M.th k) _ (T.th_at hk) hu
    rw [he] at this
    exact this
  have d2 : y2.cell? ⟨g, k * 13 + 12, none⟩ = some (.slice (some ⟨x, 0, none⟩) (r.length + 1) c) := hv2.tc k (M.th k) _ (T.th_at hk) hu 12 _ rfl
  have g2 := hv2.gz (k * 13 + 12)
  have HRD : Hid (y2.drew.ownsRow B 52 2 (.slice (some ⟨x, 0, none⟩) 0 c) 0 []) := by
    have := hr2.drew
    rcases this.2 with ⟨hn, -⟩ | ⟨x', c', cur, hsl, q1, q2, q3, q4, q5, q6⟩
    · cases hn
    · cases hsl
      exact ⟨rfl, .inr ⟨x, c, cur, rfl, q1, q2, Nat.zero_le _, q4, q5, by simp⟩⟩
  have hone : (1 : Int) ≤ (r.length : Int) + 1 := by omega
  obtain ⟨o, hif, ho2⟩ : ∃ o : Nat, (if c = 1 then (some ⟨x, 0, none⟩ : Option Addr) else some ⟨x, 2, none⟩) = some ⟨x, o, none⟩ ∧ (r = [] ∨ o = 2) := by
    by_cases e : c = 1
    · refine ⟨0, if_pos e, .inl (List.eq_nil_of_length_eq_zero (by omega))⟩
    · exact ⟨2, if_neg e, .inr rfl⟩
  have HNC : Hid (∀ j u, (r.flatMap wC)[j]? = some u → y2.drew.cell? ((⟨x, o, none⟩ : Addr).add j) = some u) := fun j u hj => by
    rcases ho2 with rfl | rfl
    · simp at hj
    · have hjl := (List.getElem?_eq_some_iff.1 hj).1
      rw [flat_len' (m := 2) (fun _ => rfl)] at hjl
      have := hr2.cellAt (2 + j) (by omega)
      rw [Addr.add_lit]
      refine this.trans ?_
      rw [List.getElem?_append_right (by simp)]
      simpa using hj
  have HLN : Hid ((r.flatMap wC).length = r.length * 2) := flat_len' (m := 2) (fun _ => rfl) r
  have HON : Hid (∀ u ∈ r.flatMap wC, u.oneCell' = true) := fun u hu => by
    obtain ⟨p, -, hp⟩ := List.mem_flatMap.1 hu
    simp [wC] at hp
    rcases hp with rfl | rfl <;> rfl
  have HV2 : Hid (TV B y2 b { M with mem := T.upd M.mem y v } (K + 1) t bm g cap ev us) := hv2
  have HR2 : Hid (y2.ownsRow B 52 2 (.slice (some ⟨x, 0, none⟩) (r.length + 1) c) (r.length + 1) ([.int .i64 y, .int .i64 v] ++ r.flatMap wC)) := hr2
  have hxg : g ≠ x := by
    have h1 := HV.out.tw k _ x hu rfl
    have h2 := HV.out.tg
    rintro rfl
    omega
  clear hv2 hr2 x0 x1 o0 o1 c1 c11 d12 HST HKK
  go_wp2_with fail
  go_region_law ((refine step_append_spare (by rfl) _ _ 45 (by rfl) B 52 iw 2 Tryd.underlying45 hiw hp1 x 0 c [] (by rfl) HRD.out _ r.length _ (r.flatMap wC) (by rfl) HLN.out HNC.out HON.out (by omega) ?_; intro Y6 ho6 hg6; have m6 : Y6.cell? ⟨g, k * 13 + 12, none⟩ = some (.slice (some ⟨x, 0, none⟩) (r.length + 1) c) := hg6.cell d2 (by simpa using hxg); have z6 : Y6.frozen? ⟨g, k * 13 + 12, none⟩ = false := (hg6.frozen_far ⟨g, k * 13 + 12, none⟩ HV2.out.gl (by simpa using hxg)).trans g2))
  all_goals
    go_wp2
    go_ret
    rw [Nat.zero_add, List.nil_append] at ho6
    obtain ⟨r1, r2⟩ := HV2.out.wait hk hu (X := y2.drew) (Below.refl _ _).drew ho6 hg6 (fun x hx => .inl hx)
    exact ⟨rfl, _, _, r1, (St.ofBelow t b1).trans (St.trans ⟨fun _ _ => rfl, fun k hk h0 => hon2.block k hk (by rw [h0]; decide), hon2.size, hon2.os, hon2.tape, hon2.output⟩ r2)⟩

end Go.Proofs.YtneclfaamgfoeaaDoor

/- All of a thread's stores leave; a load, a store. -/
namespace Go.Proofs.YtneclfaamgfoeaaDoor
open Go.RowKit Go.Maps
set_option linter.unusedVariables false
set_option linter.unusedSimpArgs false

def WsOk (ws : List T.Wait) : Prop := ws.length ≤ 1000 ∧ ∀ p ∈ ws, (Lit.int .i64 p.1).wf = true ∧ (Lit.int .i64 p.2).wf = true

set_option maxRecDepth 100000 in
set_option maxHeartbeats 4000000 in
theorem leaveAll_any {B : Nat} {w : World} {b : Nat} {M : T.Mach} {K : Nat} {t : Nat → Nat} {bm g cap : Nat} {ev : Value} {us : List Value} (h : TV B w b M K t bm g cap ev us) {k q : Nat} (hk : k < M.ts.length) (hq : q = k * 13) (hok : WsOk (M.th k).ws) (hK : K + 1000 < maxLen) :
    Calls Tryd.prog 83 #[.pointer (some ⟨b, 0, none⟩), .pointer (some ⟨g, q, none⟩)] w fun e w' => e = .returned (.tuple #[]) ∧ ∃ t' us', TV B w' b (T.drain M k) (K + (M.th k).ws.length) t' bm g cap ev us' ∧ St t t' w w' := by
  obtain ⟨n, hN⟩ : ∃ n, (M.th k).ws.length = n := ⟨_, rfl⟩
  have HOK : Hid (WsOk (M.th k).ws) := hok
  have hn := hok.1
  rw [hN] at hn
  have HV : Hid (∃ t' us', TV B w b (M.put k (T.upds M.mem ((M.th k).ws.take 0)) ⟨(M.th k).c, (M.th k).ws.drop 0⟩) (K + 0) t' bm g cap ev us' ∧ St t t' w w) := ⟨t, us, by
    have e : M.put k (T.upds M.mem ((M.th k).ws.take 0)) ⟨(M.th k).c, (M.th k).ws.drop 0⟩ = M := T.put_same hk
    rw [e]; exact h, St.refl _ _⟩
  rw [hN]
  have HQ : Hid (q = k * 13) := hq
  clear h hok hq
  go_enter Tryd.func83, Tryd.ntmps83
  go_wp2
  go_loopg [] n (fun r wq => ∃ i : Nat, i ≤ n ∧ n - i ≤ r ∧ Hid (∃ t' us', TV B wq b (M.put k (T.upds M.mem ((M.th k).ws.take i)) ⟨(M.th k).c, (M.th k).ws.drop i⟩) (K + i) t' bm g cap ev us' ∧ St t t' w wq))
  case atStart => exact ⟨0, Nat.zero_le _, Nat.le_refl _, HV⟩
  case round =>
    obtain ⟨i, hi, hr, HW⟩ := hrel
    obtain ⟨t', us', hv, hst⟩ := HW.out
    have hk1 : k < (M.put k (T.upds M.mem ((M.th k).ws.take i)) ⟨(M.th k).c, (M.th k).ws.drop i⟩).ts.length := by rw [T.len_put]; exact hk
    have e1 := T.th_put hk (T.upds M.mem ((M.th k).ws.take i)) ⟨(M.th k).c, (M.th k).ws.drop i⟩
    have HST : Hid (St t t' w wr) := hst
    by_cases hlt : i < n
    · have hil : i < (M.th k).ws.length := by omega
      have hd : (M.th k).ws.drop i = (M.th k).ws[i] :: (M.th k).ws.drop (i + 1) := List.drop_eq_getElem_cons hil
      obtain ⟨p1, p2⟩ := HOK.out.2 (M.th k).ws[i] (List.getElem_mem _)
      have HL := leave_yes hv hk1 HQ.out (y := (M.th k).ws[i].1) (v := (M.th k).ws[i].2) (r := (M.th k).ws.drop (i + 1)) (by rw [e1]; exact hd) p1 p2 (by omega) (by rw [List.length_drop]; omega)
      rw [T.put_put, e1, show (M.put k (T.upds M.mem ((M.th k).ws.take i)) ⟨(M.th k).c, (M.th k).ws.drop i⟩).mem = T.upds M.mem ((M.th k).ws.take i) from rfl, ← T.upds_snoc, List.take_append_getElem hil] at HL
      have HLL : Hid (Calls Tryd.prog 33 #[.pointer (some ⟨b, 0, none⟩), .pointer (some ⟨g, q, none⟩)] wr fun e w' => e = .returned (.bool true) ∧ ∃ t'' us', TV B w' b (M.put k (T.upds M.mem ((M.th k).ws.take (i + 1))) ⟨(M.th k).c, (M.th k).ws.drop (i + 1)⟩) (K + i + 1) t'' bm g cap ev us' ∧ St t' t'' wr w') := HL
      clear hv hst HW HV HL e1 hk1 p1 p2 hd
      go_wp2_with fail
      refine HLL.out.mono ?_
      rintro e y ⟨rfl, t'', us'', hv2, hs2⟩
      have HR : Hid (∃ t' us', TV B y b (M.put k (T.upds M.mem ((M.th k).ws.take (i + 1))) ⟨(M.th k).c, (M.th k).ws.drop (i + 1)⟩) (K + (i + 1)) t' bm g cap ev us' ∧ St t t' w y) := ⟨t'', us'', hv2, HST.out.trans hs2⟩
      clear hv2 hs2
      go_wp2
      go_roundg (n - (i + 1))
      · exact ⟨i + 1, by omega, Nat.le_refl _, HR⟩
      · omega
    · obtain rfl : i = n := by omega
      have HL := leave_no hv hk1 HQ.out (by rw [e1]; exact List.drop_eq_nil_of_le (by omega))
      have HLL : Hid (Calls Tryd.prog 33 #[.pointer (some ⟨b, 0, none⟩), .pointer (some ⟨g, q, none⟩)] wr fun e w' => e = .returned (.bool false) ∧ w' = wr) := HL
      have HVE : Hid (TV B wr b (T.drain M k) (K + i) t' bm g cap ev us') := by
        rw [← hN, List.take_length, List.drop_length] at hv
        rw [← hN]
        exact hv
      clear hv hst HW HV HL e1 hk1
      go_wp2_with fail
      refine HLL.out.mono ?_
      rintro e y ⟨rfl, rfl⟩
      go_wp2
      go_end0
      exact ⟨rfl, t', us', HVE.out, HST.out⟩

theorem TV.waits {B : Nat} {w : World} {b : Nat} {M : T.Mach} {K : Nat} {t : Nat → Nat} {bm g cap : Nat} {ev : Value} {us : List Value} (h : TV B w b M K t bm g cap ev us) {k : Nat} (hk : k < M.ts.length) : ∃ u, us[k]? = some u ∧ w.cell? ⟨g, k * 13 + 12, none⟩ = some u ∧ w.ownsRow B 52 2 u (M.th k).ws.length ((M.th k).ws.flatMap wC) := by
  obtain ⟨u, hu⟩ := h.u hk
  exact ⟨u, hu, h.cell hk hu 12 _ rfl, h.ws k _ u (T.th_at hk) hu⟩

set_option maxRecDepth 100000 in
set_option maxHeartbeats 4000000 in
theorem tload_any {B : Nat} {w : World} {b : Nat} {M : T.Mach} {K : Nat} {t : Nat → Nat} {bm g cap : Nat} {ev : Value} {us : List Value} (h : TV B w b M K t bm g cap ev us) {k q : Nat} (hk : k < M.ts.length) (hq : q = k * 13) (hn : (M.th k).ws.length ≤ 1000) (x : Int) (hx : (Lit.int .i64 x).wf = true) (hK : K + 1000 < maxLen) :
    Calls Tryd.prog 78 #[.pointer (some ⟨b, 0, none⟩), .pointer (some ⟨g, q, none⟩), .int .i64 x] w fun e w' => e = .returned (.tuple #[.int .i64 ((T.ld M k x).getD 0), .int .i64 (T.er (T.ld M k x))]) ∧ TV B w' b M (K + 1) t bm g cap ev us ∧ St t t w w' := by
  obtain ⟨u, -, d12, hr⟩ := h.waits hk
  rw [← hq] at d12
  have c1 := h.c1
  have HN : Hid (Calls Tryd.prog 96 #[.pointer (some ⟨g, q, none⟩), .int .i64 x] w fun e w' => e = .returned (.tuple #[.int .i64 ((T.newest (M.th k).ws x).getD 0), .bool (T.newest (M.th k).ws x).isSome]) ∧ w' = w) := newest_any d12 hr hn x
  have HM : Hid (Calls Tryd.prog 37 #[.pointer (some ⟨bm, 0, none⟩), .int .i64 x] w fun e w' => e = .returned (.tuple #[.int .i64 ((M.mem x).getD 0), .int .i64 (T.er (M.mem x))]) ∧ MP B w' bm M.mem (K + 1) t ∧ On t 2 w w') := mp_load h.mem x hx (by omega) h.hB
  have HV : Hid (TV B w b M K t bm g cap ev us) := h
  clear h hq d12 hr
  unfold T.ld
  cases e : T.newest (M.th k).ws x with
  | some v =>
    rw [e] at HN
    clear e HM
    simp only [Option.getD_some, Option.isSome_some] at HN
    go_enter Tryd.func78, Tryd.ntmps78
    go_wp2_with fail
    refine HN.out.mono ?_
    rintro e y ⟨rfl, rfl⟩
    go_wp2
    go_ret2
    exact ⟨rfl, HV.out.mono (by omega), St.refl _ _⟩
  | none =>
    rw [e] at HN
    clear e
    simp only [Option.getD_none, Option.isSome_none] at HN
    simp only [Option.or_some, Option.none_or]
    obtain ⟨z, z', hz, hz'⟩ : ∃ z z' : Int, (M.mem x).getD 0 = z ∧ T.er (M.mem x) = z' := ⟨_, _, rfl, rfl⟩
    rw [hz, hz'] at HM
    rw [hz, hz']
    clear hz hz'
    go_enter Tryd.func78, Tryd.ntmps78
    go_wp2_with fail
    refine HN.out.mono ?_
    rintro e y ⟨rfl, rfl⟩
    go_wp2_with fail
    refine HM.out.mono ?_
    rintro e y2 ⟨rfl, hm, hon⟩
    have HV2 : Hid (TV B y2 b M (K + 1) t bm g cap ev us) := HV.out.memop hon hm
    have HS2 : Hid _ := hon.st (by decide)
    clear hm hon
    go_wp2
    go_ret2
    exact ⟨rfl, HV2.out, HS2.out⟩

end Go.Proofs.YtneclfaamgfoeaaDoor

/- A store that waits; an exchange. (Written by gen_store.py.) -/
namespace Go.Proofs.YtneclfaamgfoeaaDoor
open Go.RowKit Go.Maps
set_option linter.unusedVariables false
set_option linter.unusedSimpArgs false

set_option maxRecDepth 100000 in
set_option maxHeartbeats 4000000 in
theorem tstore_any {B : Nat} {w : World} {b : Nat} {M : T.Mach} {K : Nat} {t : Nat → Nat} {bm g cap : Nat} {ev : Value} {us : List Value} (h : TV B w b M K t bm g cap ev us) {k q : Nat} (hk : k < M.ts.length) (hq : q = k * 13) (hok : WsOk (M.th k).ws) (h8 : (M.th k).ws.length ≤ 8) (x n : Int) (hx : (Lit.int .i64 x).wf = true) (hK : K + 1000 < maxLen) :
    Calls Tryd.prog 79 #[.pointer (some ⟨b, 0, none⟩), .pointer (some ⟨g, q, none⟩), .int .i64 x, .int .i64 n] w fun e w' => e = .returned (.int .i64 (T.er (M.mem x))) ∧ ∃ t' us', TV B w' b (T.has (M.mem x) (T.push (T.full M k) k x n) M) (K + 2) t' bm g cap ev us' ∧ St t t' w w' := by
  have c1 := h.c1
  obtain ⟨iw, hiw, hp0, hp1, hp2⟩ := info_partsL infoW
  have HM : Hid (Calls Tryd.prog 37 #[.pointer (some ⟨bm, 0, none⟩), .int .i64 x] w fun e w' => e = .returned (.tuple #[.int .i64 ((M.mem x).getD 0), .int .i64 (T.er (M.mem x))]) ∧ MP B w' bm M.mem (K + 1) t ∧ On t 2 w w') := mp_load h.mem x hx (by omega) h.hB
  have HV : Hid (TV B w b M K t bm g cap ev us) := h
  have HQ : Hid (q = k * 13) := hq
  have HOK : Hid (WsOk (M.th k).ws) := hok
  clear h hq hok
  cases em : M.mem x with
  | none =>
    rw [em] at HM
    clear em
    simp only [T.er, Option.getD_none] at HM
    simp only [T.er, T.has]
    go_enter Tryd.func79, Tryd.ntmps79
    go_wp2_with fail
    refine HM.out.mono ?_
    rintro e y2 ⟨rfl, hm, hon⟩
    have HV2 : Hid (TV B y2 b M (K + 1) t bm g cap ev us) := HV.out.memop hon hm
    have HS2 : Hid (St t t w y2) := hon.st (by decide)
    clear hm hon
    go_wp2
    go_ret
    exact ⟨rfl, t, us, HV2.out.mono (by omega), HS2.out⟩
  | some v0 =>
    rw [em] at HM
    clear em
    simp only [T.er, Option.getD_some] at HM
    simp only [T.er, T.has]
    go_enter Tryd.func79, Tryd.ntmps79
    go_wp2_with fail
    refine HM.out.mono ?_
    rintro e y2 ⟨rfl, hm, hon⟩
    have HV2 : Hid (TV B y2 b M (K + 1) t bm g cap ev us) := HV.out.memop hon hm
    have HS2 : Hid (St t t w y2) := hon.st (by decide)
    obtain ⟨u, hu, d12, hr⟩ := HV2.out.waits hk
    obtain ⟨a0, p0, rfl, hnp0, hpm0⟩ := own_sl hr
    rw [← HQ.out] at d12
    unfold maxLen at hpm0
    clear hm hon c1 hr
    by_cases e8 : (M.th k).ws.length = 8
    · have hfull : T.full M k = T.leave M k := if_pos e8
      have HFU : Hid _ := hfull
      obtain ⟨p, r, hpr⟩ : ∃ p r, (M.th k).ws = p :: r := by
        cases e : (M.th k).ws with
        | nil => rw [e] at e8; simp at e8
        | cons p r => exact ⟨p, r, rfl⟩
      have hpw := HOK.out.2 p (by rw [hpr]; exact List.mem_cons_self)
      have hrl : r.length = 7 := by have := e8; rw [hpr] at this; simpa using this
      have hlv : T.leave M k = M.put k (T.upd M.mem p.1 p.2) ⟨(M.th k).c, r⟩ := by unfold T.leave; rw [hpr]
      have HL : Hid (Calls Tryd.prog 33 #[.pointer (some ⟨b, 0, none⟩), .pointer (some ⟨g, q, none⟩)] y2 fun e w' => e = .returned (.bool true) ∧ ∃ t' us', TV B w' b (T.leave M k) (K + 1 + 1) t' bm g cap ev us' ∧ St t t' y2 w') := by
        rw [hlv]
        exact leave_yes HV2.out hk HQ.out hpr hpw.1 hpw.2 (by omega) (by omega)
      have hk2 : k < (T.leave M k).ts.length := by rw [hlv, T.len_put]; exact hk
      have HLN : Hid (((T.leave M k).th k).ws.length = 7) := by show _ = 7; rw [hlv, T.th_put hk]; exact hrl
      rw [e8] at d12
      clear hlv hfull hpr hpw hrl e8 hu hnp0
      go_wp2_with fail
      refine HL.out.mono ?_
      rintro e y3 ⟨rfl, t1, us1, hv3, hs3⟩
      have HV3 : Hid (TV B y3 b (T.leave M k) (K + 1 + 1) t1 bm g cap ev us1) := hv3
      have HS3 : Hid (St t t1 w y3) := HS2.out.trans hs3
      clear hv3 hs3 d12
      obtain ⟨u1, hu1, d1, hr1⟩ := HV3.out.waits hk2
      obtain ⟨a1, p1, rfl, hnp, hpm⟩ := own_sl hr1
      obtain ⟨m1, hm1⟩ : ∃ m1, ((T.leave M k).th k).ws.length = m1 := ⟨_, rfl⟩
      have hg1 := HV3.out.gz (k * 13 + 12)
      rw [hm1] at d1 hnp hr1
      rw [← HQ.out] at d1 hg1
      have hm8 : m1 ≤ 7 := by have := HLN.out; omega
      have hne : ¬ (m1 : Int) = 8 := by omega
      have HB1 : Hid (Below y3.heap.size y3 (y3.alloc (.cells #[.int .i64 x, .int .i64 n] 52))) := bl_one _ _
      have HW1 : Hid ((y3.alloc (.cells #[.int .i64 x, .int .i64 n] 52)).ownsRow B 52 2 (.slice a1 m1 p1) m1 (((T.leave M k).th k).ws.flatMap wC)) := hr1.kept (gb_of_below HB1.out (some y3.heap.size)) (.inr fun e => by have := own_lt hr1 e; omega)
      have HNC : Hid (∀ j u, (wC (x, n))[j]? = some u → (y3.alloc (.cells #[.int .i64 x, .int .i64 n] 52)).cell? ((⟨y3.heap.size, 0, none⟩ : Addr).add j) = some u) := fun j u hu => by
        rw [Addr.add_lit, Nat.zero_add]
        exact cell_last _ _ _ _ _ rfl (by simpa [wC] using hu)
      have hgy : g < y3.heap.size := HV3.out.gl
      have hBy := HV3.out.hB
      have hvb : (Value.slice a1 m1 p1).ownBlock ≠ some g := fun e => by have h1 := HV3.out.tw k _ g hu1 (by rw [hm1]; exact e); have h2 := HV3.out.tg; omega
      have F12 : (y3.alloc (.cells #[.int .i64 x, .int .i64 n] 52)).cell? ⟨g, q + 12, none⟩ = some (.slice a1 m1 p1) := cell_up HB1.out d1
      have G12 : (y3.alloc (.cells #[.int .i64 x, .int .i64 n] 52)).frozen? ⟨g, q + 12, none⟩ = false := (HB1.out.frozen (p := ⟨g, q + 12, none⟩) hgy).trans hg1
      have HM1 : Hid (((T.leave M k).th k).ws.length = m1) := hm1
      have HU1 : Hid (us1[k]? = some (Value.slice a1 m1 p1)) := by rw [hm1] at hu1; exact hu1
      clear hr1 hm1 hu1
      go_wp2_with (first | (at_builtin; refine wpList_append_lies _ rfl _ _ 45 rfl B 52 iw _ 2 16 Tryd.underlying45 hiw hp0 hp1 hp2 rfl (by decide) (.slice a1 m1 p1) m1 _ rfl HW1.out ⟨y3.heap.size, 0, none⟩ 1 1 (wC (x, n)) rfl rfl HNC.out (by intro u hu; simp [wC] at hu; rcases hu with rfl | rfl <;> rfl) (by decide) (by unfold maxLen; omega) (by omega) (by simp; omega) (y3.heap.size + 1) (by simp) ?_) | go_in)
      intro x1 cp Y6 ho6 hg6 hat6 hlt6
      have m6 : Y6.cell? ⟨g, q + 12, none⟩ = some (.slice a1 m1 p1) := hg6.cell F12 (fun e => hvb e.symm)
      have z6 : Y6.frozen? ⟨g, q + 12, none⟩ = false := (hg6.frozen_far ⟨g, q + 12, none⟩ (by show g < _; simp; omega) (fun e => hvb e.symm)).trans G12
      go_wp2
      go_ret
      have ho7 : Y6.ownsRow B 52 2 (.slice (some ⟨x1, 0, none⟩) (m1 + 1) cp) (((T.leave M k).th k).ws ++ [(x, n)]).length ((((T.leave M k).th k).ws ++ [(x, n)]).flatMap wC) := by
        rw [List.length_append, List.flatMap_append, HM1.out]
        simpa using ho6
      have HATF : Hid (∀ z, (Value.slice (some ⟨x1, 0, none⟩) (m1 + 1) cp).ownBlock = some z → (Value.slice a1 m1 p1).ownBlock = some z ∨ y3.heap.size ≤ z) := fun z hz => by
        have hz' : x1 = z := by simpa [Value.ownBlock] using hz
        rw [← hz']
        exact hat6.imp id (fun e => by omega)
      obtain ⟨r1, r2⟩ := HV3.out.wait hk2 HU1.out HB1.out ho7 hg6 HATF.out
      rw [← HQ.out] at r1 r2
      rw [HFU.out]
      exact ⟨rfl, _, _, r1, HS3.out.trans r2⟩
    · have hfull : T.full M k = M := if_neg e8
      have HFU : Hid _ := hfull
      have HLN : Hid ((M.th k).ws.length ≤ 7) := by show _ ≤ 7; omega
      clear hfull hnp0 hu d12 e8
      obtain ⟨u1, hu1, d1, hr1⟩ := HV2.out.waits hk
      obtain ⟨a1, p1, rfl, hnp, hpm⟩ := own_sl hr1
      obtain ⟨m1, hm1⟩ : ∃ m1, (M.th k).ws.length = m1 := ⟨_, rfl⟩
      have hg1 := HV2.out.gz (k * 13 + 12)
      rw [hm1] at d1 hnp hr1
      rw [← HQ.out] at d1 hg1
      have hm8 : m1 ≤ 7 := by have := HLN.out; omega
      have hne : ¬ (m1 : Int) = 8 := by omega
      have HB1 : Hid (Below y2.heap.size y2 (y2.alloc (.cells #[.int .i64 x, .int .i64 n] 52))) := bl_one _ _
      have HW1 : Hid ((y2.alloc (.cells #[.int .i64 x, .int .i64 n] 52)).ownsRow B 52 2 (.slice a1 m1 p1) m1 ((M.th k).ws.flatMap wC)) := hr1.kept (gb_of_below HB1.out (some y2.heap.size)) (.inr fun e => by have := own_lt hr1 e; omega)
      have HNC : Hid (∀ j u, (wC (x, n))[j]? = some u → (y2.alloc (.cells #[.int .i64 x, .int .i64 n] 52)).cell? ((⟨y2.heap.size, 0, none⟩ : Addr).add j) = some u) := fun j u hu => by
        rw [Addr.add_lit, Nat.zero_add]
        exact cell_last _ _ _ _ _ rfl (by simpa [wC] using hu)
      have hgy : g < y2.heap.size := HV2.out.gl
      have hBy := HV2.out.hB
      have hvb : (Value.slice a1 m1 p1).ownBlock ≠ some g := fun e => by have h1 := HV2.out.tw k _ g hu1 (by rw [hm1]; exact e); have h2 := HV2.out.tg; omega
      have F12 : (y2.alloc (.cells #[.int .i64 x, .int .i64 n] 52)).cell? ⟨g, q + 12, none⟩ = some (.slice a1 m1 p1) := cell_up HB1.out d1
      have G12 : (y2.alloc (.cells #[.int .i64 x, .int .i64 n] 52)).frozen? ⟨g, q + 12, none⟩ = false := (HB1.out.frozen (p := ⟨g, q + 12, none⟩) hgy).trans hg1
      have HM1 : Hid ((M.th k).ws.length = m1) := hm1
      have HU1 : Hid (us[k]? = some (Value.slice a1 m1 p1)) := by rw [hm1] at hu1; exact hu1
      clear hr1 hm1 hu1
      go_wp2_with (first | (at_builtin; refine wpList_append_lies _ rfl _ _ 45 rfl B 52 iw _ 2 16 Tryd.underlying45 hiw hp0 hp1 hp2 rfl (by decide) (.slice a1 m1 p1) m1 _ rfl HW1.out ⟨y2.heap.size, 0, none⟩ 1 1 (wC (x, n)) rfl rfl HNC.out (by intro u hu; simp [wC] at hu; rcases hu with rfl | rfl <;> rfl) (by decide) (by unfold maxLen; omega) (by omega) (by simp; omega) (y2.heap.size + 1) (by simp) ?_) | go_in)
      intro x1 cp Y6 ho6 hg6 hat6 hlt6
      have m6 : Y6.cell? ⟨g, q + 12, none⟩ = some (.slice a1 m1 p1) := hg6.cell F12 (fun e => hvb e.symm)
      have z6 : Y6.frozen? ⟨g, q + 12, none⟩ = false := (hg6.frozen_far ⟨g, q + 12, none⟩ (by show g < _; simp; omega) (fun e => hvb e.symm)).trans G12
      go_wp2
      go_ret
      have ho7 : Y6.ownsRow B 52 2 (.slice (some ⟨x1, 0, none⟩) (m1 + 1) cp) ((M.th k).ws ++ [(x, n)]).length (((M.th k).ws ++ [(x, n)]).flatMap wC) := by
        rw [List.length_append, List.flatMap_append, HM1.out]
        simpa using ho6
      have HATF : Hid (∀ z, (Value.slice (some ⟨x1, 0, none⟩) (m1 + 1) cp).ownBlock = some z → (Value.slice a1 m1 p1).ownBlock = some z ∨ y2.heap.size ≤ z) := fun z hz => by
        have hz' : x1 = z := by simpa [Value.ownBlock] using hz
        rw [← hz']
        exact hat6.imp id (fun e => by omega)
      obtain ⟨r1, r2⟩ := HV2.out.wait hk HU1.out HB1.out ho7 hg6 HATF.out
      rw [← HQ.out] at r1 r2
      rw [HFU.out]
      exact ⟨rfl, _, _, r1.mono (by omega), HS2.out.trans r2⟩

end Go.Proofs.YtneclfaamgfoeaaDoor

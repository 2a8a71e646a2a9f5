/- The machine: threads over one memory, each with stores that wait. No walk. -/
import Derived.Test.YtffokdldgdjkhaaDoorStepMath
import Derived.Test.YtffokdldgdjkhaaDoorInsDecode
import Derived.WalkKit
import Derived.Laws.OwnMore
import Derived.Below
import Derived.Deep.AppendLies
import Derived.Deep.RegionLaw
import Derived.Deep.RegionHeld3
import Derived.Deep.DeepAppendRoom
import Derived.Deep.LoopGhost
import Derived.OwnWalk
import Derived.WalkSpells
import Derived.WalkLawsBesides
namespace Go.Proofs.YtffokdldgdjkhaaDoor.T
open Go.RowKit
set_option linter.unusedVariables false

abbrev Memo := Int → Option Int
/-- A word that is there is turned. -/
def upd (m : Memo) (x n : Int) : Memo := fun y => if y = x then (if (m x).isSome = true then some n else none) else m y
abbrev Wait := Int × Int
structure Th where
  c : S.C
  ws : List Wait
abbrev Ev := Int × Int × Int
structure Mach where
  code : ByteArray
  mem : Memo
  ts : List Th
  es : List Ev

def noC : S.C := ⟨0, 0, 0, 0, 0, 0, 0, 0, 0, 0, 0⟩
def noTh : Th := ⟨noC, []⟩
def Mach.th (M : Mach) (k : Nat) : Th := M.ts.getD k noTh
def Mach.put (M : Mach) (k : Nat) (m : Memo) (h : Th) : Mach := { M with mem := m, ts := M.ts.set k h }
def Mach.see (M : Mach) (k : Nat) (kind n : Int) : Mach := { M with es := M.es ++ [((k : Int), kind, n)] }
def upds (m : Memo) (ws : List Wait) : Memo := ws.foldl (fun m p => upd m p.1 p.2) m
def newest (ws : List Wait) (x : Int) : Option Int := (ws.reverse.find? fun p => p.1 == x).map (·.2)
/-- The oldest store leaves. -/
def leave (M : Mach) (k : Nat) : Mach :=
  match (M.th k).ws with
  | [] => M
  | p :: r => M.put k (upd M.mem p.1 p.2) ⟨(M.th k).c, r⟩
def leaves (M : Mach) (k : Nat) : Bool := !(M.th k).ws.isEmpty
def drain (M : Mach) (k : Nat) : Mach := M.put k (upds M.mem (M.th k).ws) ⟨(M.th k).c, []⟩
/-- A store that waits from now on. -/
def push (M : Mach) (k : Nat) (a v : Int) : Mach := M.put k M.mem ⟨(M.th k).c, (M.th k).ws ++ [(a, v)]⟩
def full (M : Mach) (k : Nat) : Mach := if (M.th k).ws.length = 8 then leave M k else M
def setC (M : Mach) (k : Nat) (c : S.C) : Mach := M.put k M.mem ⟨c, (M.th k).ws⟩
def swap (M : Mach) (k : Nat) (a v : Int) : Mach := { drain M k with mem := upd (drain M k).mem a v }
/-- Whether there is such a word. -/
def er (o : Option Int) : Int :=
  match o with
  | some _ => 0
  | none => 11
def has {α : Type} (o : Option Int) (x y : α) : α :=
  match o with
  | some _ => x
  | none => y
/-- What memory does of a request, what it answers, and whether it can. -/
def ansM (M : Mach) (k : Nat) (q : S.Q) : Mach :=
  if q.k = 2 then has (M.mem q.a) (push (full M k) k q.a q.v) M
  else if q.k = 3 then has (M.mem q.a) (swap M k q.a q.v) M
  else if q.k = 4 then has (M.mem q.a) (swap M k q.a (wrap64 (((drain M k).mem q.a).getD 0 + q.v))) M
  else if q.k = 5 then drain M k
  else if q.k = 6 then M.see k 1 q.v
  else M
def ld (M : Mach) (k : Nat) (a : Int) : Option Int := (newest (M.th k).ws a).or (M.mem a)
def ansN (M : Mach) (k : Nat) (q : S.Q) : Int :=
  if q.k = 1 then (ld M k q.a).getD 0
  else if q.k = 3 ∨ q.k = 4 then has (M.mem q.a) (((drain M k).mem q.a).getD 0) 0
  else 0
def ansE (M : Mach) (k : Nat) (q : S.Q) : Int :=
  if q.k = 1 then er (ld M k q.a)
  else if q.k = 2 ∨ q.k = 3 ∨ q.k = 4 then er (M.mem q.a)
  else 0
/-- The instruction at a place of the code. -/
def decOk (s : ByteArray) (at' : Int) : Bool := decide (0 ≤ at' ∧ at' ≤ (s.size : Int)) && I.dOk (I.cut s at')
def iC (c : S.C) (s : ByteArray) : S.C := S.startC c (I.hd s) (I.dA s) (I.dB s) (I.dN s) (I.psize (I.hd s))
def iQ (c : S.C) (s : ByteArray) : S.Q := S.startQ c (I.hd s) (I.dA s) (I.dB s) (I.dN s) (I.psize (I.hd s))
def trapC (c : S.C) (n : Int) : S.C := { c with st := 2, tr := n }
def plc (M : Mach) (k : Nat) : Int := wrap64 ((M.th k).c.pc - 4096)
def doIns (M : Mach) (k : Nat) : Mach :=
  if decOk M.code (plc M k) = true then
    (if ansE M k (iQ (M.th k).c (I.cut M.code (plc M k))) = 0 then
      setC (ansM M k (iQ (M.th k).c (I.cut M.code (plc M k)))) k (S.finish (iC (M.th k).c (I.cut M.code (plc M k))) (iQ (M.th k).c (I.cut M.code (plc M k))).k (iQ (M.th k).c (I.cut M.code (plc M k))).r (ansN M k (iQ (M.th k).c (I.cut M.code (plc M k)))))
    else setC M k (trapC (M.th k).c 2))
  else setC M k (trapC (M.th k).c 3)
def seen (M : Mach) (k : Nat) : Mach :=
  if (M.th k).c.st = 1 then M.see k 2 0 else if (M.th k).c.st = 2 then M.see k 3 (M.th k).c.tr else M
def goOn (M : Mach) (k : Nat) : Mach := if (M.th k).c.st = 0 then seen (doIns M k) k else M
def went (M : Mach) (k : Nat) : Bool := decide ((M.th k).c.st = 0)
/-- A pick. -/
def pk (pick : Int) : Int := if pick < 0 then -1 - pick else pick
def who (M : Mach) (pick : Int) : Nat := (pk pick / 2 % (M.ts.length : Int)).toNat
def act (M : Mach) (pick : Int) : Mach := if pk pick % 2 = 0 then goOn M (who M pick) else leave M (who M pick)
def did (M : Mach) (pick : Int) : Bool := if pk pick % 2 = 0 then went M (who M pick) else leaves M (who M pick)
def runs (M : Mach) (l : List Int) : Mach := l.foldl act M
/-- A new machine. -/
def mem0 (data : List Int) (n : Nat) : Memo := fun x =>
  if x % 8 = 0 then
    (if 1048576 ≤ x ∧ x < 1048576 + 8 * (data.length : Int) then some (data.getD ((x - 1048576) / 8).toNat 0)
    else if 2097152 ≤ x ∧ x < 2097152 + 65536 * (n : Int) then some 0 else none)
  else none
def th0 (i : Nat) (at' : Int) : Th := ⟨{ noC with pc := wrap64 (4096 + at'), r7 := 2097152 + 65536 * ((i : Int) + 1) }, []⟩
def ths0 : Nat → List Int → List Th
  | _, [] => []
  | i, a :: l => th0 i a :: ths0 (i + 1) l
def mach0 (code : ByteArray) (data : List Int) (starts : List Int) : Mach := ⟨code, mem0 data starts.length, ths0 0 starts, []⟩
def mayRun (code : ByteArray) (dlen : Nat) (starts : List Int) : Bool :=
  decide (1 ≤ starts.length ∧ starts.length ≤ 4 ∧ code.size ≤ 65536 ∧ dlen ≤ 4096) && starts.all fun a => decide (0 ≤ a ∧ a < (code.size : Int))

theorem th_put {M : Mach} {k : Nat} (h : k < M.ts.length) (m : Memo) (x : Th) : (M.put k m x).th k = x := by
  unfold Mach.th Mach.put
  simp [List.getD, h]
theorem th_put_ne {M : Mach} {k l : Nat} (h : k ≠ l) (m : Memo) (x : Th) : (M.put k m x).th l = M.th l := by
  unfold Mach.th Mach.put
  simp [List.getD, List.getElem?_set_ne h]
theorem len_put (M : Mach) (k : Nat) (m : Memo) (x : Th) : (M.put k m x).ts.length = M.ts.length := by simp [Mach.put]
theorem put_put (M : Mach) (k : Nat) (m n : Memo) (x y : Th) : (M.put k m x).put k n y = M.put k n y := by simp [Mach.put]
theorem put_same {M : Mach} {k : Nat} (h : k < M.ts.length) : M.put k M.mem (M.th k) = M := by
  unfold Mach.th Mach.put
  simp [List.getD, h]
theorem th_at {M : Mach} {k : Nat} (h : k < M.ts.length) : M.ts[k]? = some (M.th k) := by
  unfold Mach.th
  simp [List.getD, h]
theorem th_see (M : Mach) (k j : Nat) (a n : Int) : (M.see k a n).th j = M.th j := rfl
theorem upds_snoc (m : Memo) (ws : List Wait) (p : Wait) : upds m (ws ++ [p]) = upd (upds m ws) p.1 p.2 := by simp [upds]
theorem upd_some (m : Memo) (x n y : Int) : (upd m x n y).isSome = (m y).isSome := by
  unfold upd
  by_cases e : y = x
  · subst e
    rw [if_pos rfl]
    cases h : (m y).isSome <;> simp
  · rw [if_neg e]
theorem upds_some (ws : List Wait) : ∀ (m : Memo) (y : Int), (upds m ws y).isSome = (m y).isSome := by
  induction ws with
  | nil => intro m y; rfl
  | cons p r ih => intro m y; exact (ih (upd m p.1 p.2) y).trans (upd_some m p.1 p.2 y)

end Go.Proofs.YtffokdldgdjkhaaDoor.T

/- What the walks lean on. -/
namespace Go.Proofs.YtffokdldgdjkhaaDoor.X
open Go.RowKit
set_option linter.unusedVariables false

theorem get0 {α : Type} (x : α) (l : List α) : (List.toArray (x :: l))[0]? = some x := rfl
theorem get1 {α : Type} {x y : α} {l : List α} {i : Nat} (h : (List.toArray l)[i]? = some y) : (List.toArray (x :: l))[i + 1]? = some y := by simpa using h
theorem cell_last (w : World) (A : Array Value) (t g j : Nat) (hg : g = w.heap.size) {v : Value} (hv : A[j]? = some v) : (w.alloc (.cells A t)).cell? ⟨g, j, none⟩ = some v := by
  subst hg
  rw [← hv]
  simp
theorem gb_set (w : World) (a : Addr) (u : Value) : w.grownBy (w.setCell a u) (some a.block) :=
  ⟨rfl, rfl, rfl, by simp [World.setCell], fun k hk hne => Below.heap_setCell _ _ _ _ (fun e => hne (by rw [e]))⟩

end Go.Proofs.YtffokdldgdjkhaaDoor.X

/- The memory's Store, with what it leaves as it was; a memory whose blocks are as they were. -/
namespace Go.Proofs.YtffokdldgdjkhaaDoor.X
open Go.RowKit Go.Maps
set_option linter.unusedVariables false



theorem row_cong {w w' : World} {B : Nat} {v : Value} {e : TypeId} {size n : Nat} {xs : List Value} (o : w.ownsRow B e size v n xs) (h : ∀ g, v.ownBlock = some g → w'.heap[g]? = w.heap[g]?) : w'.ownsRow B e size v n xs := by
  refine ⟨o.1, ?_⟩
  rcases o.2 with h0 | ⟨g, cap, cur, rfl, hb, hg, r1, r2, r3, r4⟩
  · exact .inl h0
  · exact .inr ⟨g, cap, cur, rfl, hb, (h g rfl).trans hg, r1, r2, r3, r4⟩

def FpM (bm br bw : Nat) (lv : Value) (bs : List Nat) (k : Nat) : Prop := k = bm ∨ k = br ∨ k = bw ∨ lv.ownBlock = some k ∨ k ∈ bs


end Go.Proofs.YtffokdldgdjkhaaDoor.X

/- A machine, as it lies in memory. -/
namespace Go.Proofs.YtffokdldgdjkhaaDoor.X
open Go.RowKit Go.Maps
set_option linter.unusedVariables false

/-- What was done turned marked blocks alone; what was there bears the marks that it bore. -/
structure St (t t' : Nat → Nat) (w w' : World) : Prop where
  tag : ∀ k, k < w.heap.size → t' k = t k
  block : ∀ k, k < w.heap.size → t k = 0 → w'.heap[k]? = w.heap[k]?
  size : w.heap.size ≤ w'.heap.size
  os : w'.os = w.os
  tape : w'.tape = w.tape
  output : w'.output = w.output
theorem St.refl (t : Nat → Nat) (w : World) : St t t w w := ⟨fun _ _ => rfl, fun _ _ _ => rfl, Nat.le_refl _, rfl, rfl, rfl⟩
theorem St.ofBelow {w w' : World} (t : Nat → Nat) (h : Below w.heap.size w w') : St t t w w' := ⟨fun _ _ => rfl, fun k hk _ => h.block k hk, h.size, h.os, h.tape, h.output⟩
theorem St.trans {t t' t'' : Nat → Nat} {w w' w'' : World} (h : St t t' w w') (k : St t' t'' w' w'') : St t t'' w w'' :=
  ⟨fun x hx => (k.tag x (Nat.lt_of_lt_of_le hx h.size)).trans (h.tag x hx), fun x hx h0 => (k.block x (Nat.lt_of_lt_of_le hx h.size) ((h.tag x hx).trans h0)).trans (h.block x hx h0), Nat.le_trans h.size k.size, k.os.trans h.os, k.tape.trans h.tape, k.output.trans h.output⟩
theorem St.toBelow {t t' : Nat → Nat} {w w' : World} {B : Nat} (h : St t t' w w') (hlo : ∀ k, t k ≠ 0 → B ≤ k) (hB : B ≤ w.heap.size) : Below B w w' :=
  ⟨h.os, h.tape, h.output, h.size, fun k hk => h.block k (by omega) (Classical.byContradiction fun e => by have := hlo k e; omega)⟩
theorem St.ofGrown {w w' : World} {x : Nat} {t t' : Nat → Nat} (h : w.grownBy w' (some x)) (hx : t x ≠ 0) (ht : ∀ k, k < w.heap.size → t' k = t k) : St t t' w w' :=
  ⟨ht, fun k hk h0 => h.block k hk (fun e => by cases e; exact hx h0), h.size, h.os, h.tape, h.output⟩

def thC (i : Nat) (h : T.Th) (u : Value) : List Value := [.int .i64 h.c.r0, .int .i64 h.c.r1, .int .i64 h.c.r2, .int .i64 h.c.r3, .int .i64 h.c.r4, .int .i64 h.c.r5, .int .i64 h.c.r6, .int .i64 h.c.r7, .int .i64 h.c.pc, .int .i64 h.c.st, .int .i64 h.c.tr, .int .i64 i, u]
def wC (p : T.Wait) : List Value := [.int .i64 p.1, .int .i64 p.2]
def eC (e : T.Ev) : List Value := [.int .i64 e.1, .int .i64 e.2.1, .int .i64 e.2.2]


section
variable {B : Nat} {w w' : World} {b : Nat} {M : T.Mach} {K : Nat} {t t' : Nat → Nat} {bm g cap : Nat} {ev : Value} {us : List Value}
theorem blk_cell {w w' : World} {p : Addr} {v : Value} (e : w'.heap[p.block]? = w.heap[p.block]?) (h : w.cell? p = some v) : w'.cell? p = some v := (World.cell?_of_block e).trans h
theorem blk_froz {w w' : World} {p : Addr} {v : Bool} (e : w'.heap[p.block]? = w.heap[p.block]?) (h : w.frozen? p = v) : w'.frozen? p = v := (World.frozen?_of_block e).trans h
theorem own_lt {w : World} {B : Nat} {v : Value} {e : TypeId} {size n : Nat} {xs : List Value} (o : w.ownsRow B e size v n xs) {x : Nat} (h : v.ownBlock = some x) : x < w.heap.size := (o.lt x h).2

end

end Go.Proofs.YtffokdldgdjkhaaDoor.X

/- Lists in rows of their own; append of a whole list, nil or not, onto such a row. -/
namespace Go.Proofs.YtffokdldgdjkhaaDoor.X
open Go.RowKit Go.Maps
set_option linter.unusedVariables false

theorem gb_of_below {w x : World} (h : Below w.heap.size w x) (r : Option Nat) : w.grownBy x r := ⟨h.os, h.tape, h.output, h.size, fun k hk _ => h.block k hk⟩

theorem bl_one (w : World) (x : Obj) : Below w.heap.size w (w.alloc x) := (Below.refl _ _).alloc (Nat.le_refl _) _

theorem info_partsL {P : Program} {t : TypeId} {z : Option Value} {k m : Nat} (h : (P.info? t).map (fun i => (i.zero, i.size, i.bytes)) = some (z, k, m)) : ∃ i, P.info? t = some i ∧ i.zero = z ∧ i.size = k ∧ i.bytes = m := by
  cases e : P.info? t with
  | none => rw [e] at h; simp at h
  | some i => rw [e] at h; simp at h; exact ⟨i, rfl, h.1, h.2.1, h.2.2⟩

theorem flat_at {α : Type} (f : α → List Value) (m : Nat) (d : α) (hm : ∀ x, (f x).length = m) : ∀ (l : List α) (i j : Nat), i < l.length → j < m → (l.flatMap f)[i * m + j]? = (f (l.getD i d))[j]?
  | [], i, j, hi, _ => by simp at hi
  | x :: l, 0, j, hi, hj => by
    rw [List.flatMap_cons, Nat.zero_mul, Nat.zero_add, List.getElem?_append_left (by rw [hm]; exact hj)]
    rfl
  | x :: l, i + 1, j, hi, hj => by
    rw [List.flatMap_cons, List.getElem?_append_right (by rw [hm, Nat.succ_mul]; omega), hm, show (i + 1) * m + j - m = i * m + j by rw [Nat.succ_mul]; omega, flat_at f m d hm l i j (by simpa using hi) hj]
    rfl
theorem row_at {w : World} {B : Nat} {ty : TypeId} {m n : Nat} {v : Value} {α : Type} {f : α → List Value} {l : List α} (d : α) (hm : ∀ x, (f x).length = m) (h : w.ownsRow B ty m v n (l.flatMap f)) (hn : l.length = n) :
    ∃ a c, v = .slice a n c ∧ (a = none → n = 0 ∧ c = 0) ∧ (n = 0 ∨ ∃ b off, a = some ⟨b, off, none⟩ ∧ ∀ i, i < n → ∀ j u, j < m → (f (l.getD i d))[j]? = some u → w.cell? ⟨b, off + i * m + j, none⟩ = some u) := by
  rcases h.2 with ⟨rfl, rfl⟩ | ⟨g, cap, cur, rfl, hb, hh, h1, h2, h3, h4⟩
  · exact ⟨none, 0, rfl, fun _ => ⟨rfl, rfl⟩, .inl rfl⟩
  · refine ⟨_, _, rfl, fun e => (by cases e), .inr ⟨g, 0, rfl, fun i hi j u hj hu => ?_⟩⟩
    have hlt : i * m + j < n * m := by
      have : (i + 1) * m ≤ n * m := Nat.mul_le_mul_right m hi
      rw [Nat.succ_mul] at this
      omega
    rw [Nat.zero_add, h.cellAt _ hlt, flat_at f m d hm l i j (by omega) hj]
    exact hu

/-- append of a whole list, nil or not, onto a row of one's own. -/
theorem run_append_more (w : World) (B : Nat) (t e : TypeId) (i0 : TypeInfo) (z : Value) (size bytes : Nat) (ht : Tryd.prog.underlying t = some (.slice e)) (hi : Tryd.prog.info? e = some i0) (hz : i0.zero = some z) (hsize : i0.size = size) (hby : i0.bytes = bytes) (hzs : z.cells.size = size) (hsz : 0 < size)
    {v : Value} {n : Nat} {xs : List Value} (hown : w.ownsRow B e size v n xs) (hB : B ≤ w.heap.size)
    {a : Option Addr} {l c : Nat} {cs : List Value} (hnil : a = none → l = 0 ∧ c = 0) (hlen : cs.length = l * size) (hcells : ∀ ad, a = some ad → ∀ j u, cs[j]? = some u → w.cell? (ad.add j) = some u) (h1 : ∀ u ∈ cs, u.oneCell' = true) (hb : (n + l) * bytes ≤ 140737488355328) (hm : n + l ≤ 140737488355328) (ty : TypeId) :
    ∃ v' w', (Builtin.append_ #[t, t] ty #[v, .slice a l c]).run Tryd.prog w = .ok v' w' ∧ w'.ownsRow B e size v' (n + l) (xs ++ cs) ∧ w.grownBy w' v.ownBlock ∧ ∀ g, v'.ownBlock = some g → v.ownBlock = some g ∨ w.heap.size ≤ g := by
  cases a with
  | none =>
    obtain ⟨rfl, rfl⟩ := hnil rfl
    obtain rfl : cs = [] := List.eq_nil_of_length_eq_zero (by simpa using hlen)
    exact ⟨_, _, run_append_owned_none (P := Tryd.prog) w B t ty e i0 size ht hi v n xs hown, by simpa using hown, gb_of_below (Below.refl _ _) _, fun g hg => .inl hg⟩
  | some ad =>
    obtain ⟨v', w', hr, ho, hg, -, h5⟩ := run_append_own_at (P := Tryd.prog) w B t ty e i0 z size bytes ht hi hz hsize hby hzs hsz v n xs hown ad l c cs hlen (hcells ad rfl) h1 (by unfold maxLen; omega) hb hB
    refine ⟨v', w', hr, ho, hg, fun g hg' => ?_⟩
    rcases h5 with h5 | h5
    · exact .inl (h5 ▸ hg')
    · rw [h5] at hg'
      cases hg'
      exact .inr (Nat.le_refl _)
theorem wpList_append_more {ops : Array Oper} {rest : List Oper} {o : Oper} {ac : Act} {w : World} {Q : Exit → Act → World → Prop} (hgd : o.guard = none) (s x : Operand) (t : TypeId)
    (ho : o.op = .call { callee := .builtin .append, args := #[s, x], argTypes := #[t, t] }) (B : Nat) (e : TypeId) (i0 : TypeInfo) (z : Value) (size bytes : Nat) (ht : Tryd.prog.underlying t = some (.slice e)) (hi : Tryd.prog.info? e = some i0) (hz : i0.zero = some z) (hsize : i0.size = size) (hby : i0.bytes = bytes) (hzs : z.cells.size = size) (hsz : 0 < size)
    {v : Value} {n : Nat} {xs : List Value} (hs : ac.eval s = v) (hown : w.ownsRow B e size v n xs) (hB : B ≤ w.heap.size)
    {a : Option Addr} {l c : Nat} {cs : List Value} (hx : ac.eval x = .slice a l c) (hnil : a = none → l = 0 ∧ c = 0) (hlen : cs.length = l * size) (hcells : ∀ ad, a = some ad → ∀ j u, cs[j]? = some u → w.cell? (ad.add j) = some u) (h1 : ∀ u ∈ cs, u.oneCell' = true) (hb : (n + l) * bytes ≤ 140737488355328) (hm : n + l ≤ 140737488355328)
    (hk : ∀ v' w', w'.ownsRow B e size v' (n + l) (xs ++ cs) → w.grownBy w' v.ownBlock → (∀ g, v'.ownBlock = some g → v.ownBlock = some g ∨ w.heap.size ≤ g) → wpList Tryd.prog ops Q rest (ac.put o.dst v') w') : wpList Tryd.prog ops Q (o :: rest) ac w := by
  refine wpList_plain hgd fun K hK => ?_
  obtain ⟨v', w', hr, h2, h3, h4⟩ := run_append_more w B t e i0 z size bytes ht hi hz hsize hby hzs hsz hown hB hnil hlen hcells h1 hb hm o.type
  unfold Oper.wp execOp
  simp only [ho, resolve, invoke, builtin, Sem.run_bind, Sem.run_pure, Result.andThen_ok, List.map_toArray, List.map_cons, List.map_nil, hs, hx, hr]
  exact hK _ _ (hk v' w' h2 h3 h4)

theorem flat_cells {α : Type} {w : World} {f : α → List Value} {m : Nat} {l : List α} {d : α} {b off : Nat} (hm : ∀ x, (f x).length = m) (hm0 : 0 < m) (h : ∀ i, i < l.length → ∀ j u, j < m → (f (l.getD i d))[j]? = some u → w.cell? ⟨b, off + i * m + j, none⟩ = some u) : ∀ q u, (l.flatMap f)[q]? = some u → w.cell? ⟨b, off + q, none⟩ = some u := by
  intro q u hu
  have hl : (l.flatMap f).length = l.length * m := by
    clear h hu
    induction l with
    | nil => simp
    | cons x l ih => rw [List.flatMap_cons, List.length_append, hm, ih, List.length_cons, Nat.succ_mul]; omega
  have hq : q < l.length * m := by rw [← hl]; exact (List.getElem?_eq_some_iff.1 hu).1
  have hqd : q / m * m + q % m = q := by rw [Nat.mul_comm]; exact Nat.div_add_mod q m
  have hi : q / m < l.length := Nat.div_lt_of_lt_mul (by rw [Nat.mul_comm]; exact hq)
  have hj : q % m < m := Nat.mod_lt _ hm0
  have h2 := h (q / m) hi (q % m) u hj (by rw [← flat_at f m d hm l _ _ hi hj, hqd]; exact hu)
  rwa [Nat.add_assoc, hqd] at h2
theorem flat_len' {α : Type} {f : α → List Value} {m : Nat} (hm : ∀ x, (f x).length = m) (l : List α) : (l.flatMap f).length = l.length * m := by
  induction l with
  | nil => simp
  | cons x l ih => rw [List.flatMap_cons, List.length_append, hm, ih, List.length_cons, Nat.succ_mul]; omega

theorem step_append_more {ops : Array Oper} {o : Oper} {ac : Act} {w : World} {K : Act → World → Prop} {Q : Exit → Act → World → Prop} {E : Prop} (hgd : o.guard = none) (s x : Operand) (t : TypeId)
    (ho : o.op = .call { callee := .builtin .append, args := #[s, x], argTypes := #[t, t] }) (B : Nat) (e : TypeId) (i0 : TypeInfo) (z : Value) (size bytes : Nat) (ht : Tryd.prog.underlying t = some (.slice e)) (hi : Tryd.prog.info? e = some i0) (hz : i0.zero = some z) (hsize : i0.size = size) (hby : i0.bytes = bytes) (hzs : z.cells.size = size) (hsz : 0 < size)
    {v : Value} {n : Nat} {xs : List Value} (hs : ac.eval s = v) (hown : w.ownsRow B e size v n xs) (hB : B ≤ w.heap.size)
    {a : Option Addr} {l c : Nat} {cs : List Value} (hx : ac.eval x = .slice a l c) (hnil : a = none → l = 0 ∧ c = 0) (hlen : cs.length = l * size) (hcells : ∀ ad, a = some ad → ∀ j u, cs[j]? = some u → w.cell? (ad.add j) = some u) (h1 : ∀ u ∈ cs, u.oneCell' = true) (hb : (n + l) * bytes ≤ 140737488355328) (hm : n + l ≤ 140737488355328)
    (hk : ∀ v' w', w'.ownsRow B e size v' (n + l) (xs ++ cs) → w.grownBy w' v.ownBlock → (∀ g, v'.ownBlock = some g → v.ownBlock = some g ∨ w.heap.size ≤ g) → K (ac.put o.dst v') w') : if Region.wanted o (yielded ops ac.tmps) = true then Oper.wp Tryd.prog o ac w K Q else E := by
  have hw : Region.wanted o (yielded ops ac.tmps) = true := by simp [Region.wanted, hgd]
  rw [if_pos hw]
  obtain ⟨v', w', hr, h2, h3, h4⟩ := run_append_more w B t e i0 z size bytes ht hi hz hsize hby hzs hsz hown hB hnil hlen hcells h1 hb hm o.type
  unfold Oper.wp execOp
  simp only [ho, resolve, invoke, builtin, Sem.run_bind, Sem.run_pure, Result.andThen_ok, List.map_toArray, List.map_cons, List.map_nil, hs, hx, hr]
  exact hk v' w' h2 h3 h4

end Go.Proofs.YtffokdldgdjkhaaDoor.X

/- The newest store that waits; a trap; what is seen. -/
namespace Go.Proofs.YtffokdldgdjkhaaDoor.X
open Go.RowKit Go.Maps
set_option linter.unusedVariables false
set_option linter.unusedSimpArgs false


theorem cell_up {w w' : World} {p : Addr} {v : Value} (hb : Below w.heap.size w w') (h : w.cell? p = some v) : w'.cell? p = some v := (hb.cell (p := p) (World.block_lt_of_cell? w p h)).trans h
theorem T.newest_snoc (l : List T.Wait) (p : T.Wait) (x : Int) : T.newest (l ++ [p]) x = if p.1 = x then some p.2 else T.newest l x := by
  unfold T.newest
  rw [List.reverse_append, List.reverse_singleton, List.singleton_append, List.find?_cons]
  by_cases e : p.1 = x
  · rw [if_pos e, show (p.1 == x) = true by simpa using e]; rfl
  · rw [if_neg e, show (p.1 == x) = false by simpa using e]
theorem own_sl {x : World} {B : Nat} {ty : TypeId} {m n : Nat} {v : Value} {cs : List Value} (h : x.ownsRow B ty m v n cs) : ∃ a c, v = .slice a n c ∧ n ≤ c ∧ c ≤ maxLen := by
  rcases h.2 with ⟨rfl, rfl⟩ | ⟨g, cap, cur, rfl, -, -, h1, h2, -⟩
  · exact ⟨none, 0, rfl, Nat.le_refl _, Nat.zero_le _⟩
  · exact ⟨_, cap, rfl, h1, h2⟩


section
variable {B : Nat} {w w' : World} {b : Nat} {M : T.Mach} {K : Nat} {t t' : Nat → Nat} {bm g cap : Nat} {ev : Value} {us : List Value}
theorem set_same {α : Type} {l : List α} {k : Nat} {x : α} (h : l[k]? = some x) : l.set k x = l := by
  apply List.ext_getElem?
  intro i
  by_cases e : k = i
  · subst e; rw [List.getElem?_set_self (List.getElem?_eq_some_iff.1 h).1, h]
  · rw [List.getElem?_set_ne e]
theorem thC_len (k : Nat) (h : T.Th) (u : Value) : (thC k h u).length = 13 := rfl
theorem off_ne {g a b : Nat} (h : a ≠ b) : (⟨g, a, none⟩ : Addr) ≠ ⟨g, b, none⟩ := fun e => h (by have := congrArg Addr.off e; simpa using this)
end


end Go.Proofs.YtffokdldgdjkhaaDoor.X

/- What is seen. -/
namespace Go.Proofs.YtffokdldgdjkhaaDoor.X
open Go.RowKit Go.Maps
set_option linter.unusedVariables false
set_option linter.unusedSimpArgs false

theorem infoE : (Tryd.prog.info? 101).map (fun i => (i.zero, i.size, i.bytes)) = some (some (.agg #[.int .i64 0, .int .i64 0, .int .i64 0]), 3, 24) := by kernel_rfl
theorem infoW : (Tryd.prog.info? 94).map (fun i => (i.zero, i.size, i.bytes)) = some (some (.agg #[.int .i64 0, .int .i64 0]), 2, 16) := by kernel_rfl
def mark (t : Nat → Nat) (x c : Nat) : Nat → Nat := fun k => if k = x then c else t k
theorem mark_at (t : Nat → Nat) (x c : Nat) : mark t x c x = c := if_pos rfl



end Go.Proofs.YtffokdldgdjkhaaDoor.X

/- A thread's oldest store leaves. -/
namespace Go.Proofs.YtffokdldgdjkhaaDoor.X
open Go.RowKit Go.Maps
set_option linter.unusedVariables false
set_option linter.unusedSimpArgs false

/-- append onto a row with room, of cells that lie wherever. -/
theorem step_append_spare {ops : Array Oper} {o : Oper} {ac : Act} {w : World} {K : Act → World → Prop} {Q : Exit → Act → World → Prop} {E : Prop} (hgd : o.guard = none) (s x : Operand) (t : TypeId)
    (ho : o.op = .call { callee := .builtin .append, args := #[s, x], argTypes := #[t, t] })
    (base : Nat) (e : TypeId) (i : TypeInfo) (size : Nat) (ht : Tryd.prog.underlying t = some (.slice e)) (hi : Tryd.prog.info? e = some i) (hsize : i.size = size)
    (g n cap : Nat) (xs : List Value) (hs : ac.eval s = .slice (some ⟨g, 0, none⟩) n cap) (hown : w.ownsRow base e size (.slice (some ⟨g, 0, none⟩) n cap) n xs)
    (ad : Addr) (m c : Nat) (news : List Value) (hx : ac.eval x = .slice (some ad) m c) (hl : news.length = m * size) (hnews : ∀ j u, news[j]? = some u → w.cell? (ad.add j) = some u) (h1 : ∀ u ∈ news, u.oneCell' = true)
    (hroom : n + m ≤ cap)
    (hk : ∀ w', w'.ownsRow base e size (.slice (some ⟨g, 0, none⟩) (n + m) cap) (n + m) (xs ++ news) → w.grownBy w' (some g) → K (ac.put o.dst (.slice (some ⟨g, 0, none⟩) (n + m) cap)) w') : if Region.wanted o (yielded ops ac.tmps) = true then Oper.wp Tryd.prog o ac w K Q else E := by
  have hw : Region.wanted o (yielded ops ac.tmps) = true := by simp [Region.wanted, hgd]
  rw [if_pos hw]
  exact wp_append_own_spare w s x t ho base e i size ht hi hsize g n cap xs hs hown ad m c news hx hl hnews h1 hroom hk

def markO (t : Nat → Nat) (u : Value) (c : Nat) : Nat → Nat := fun q => if u.ownBlock = some q then c else t q



end Go.Proofs.YtffokdldgdjkhaaDoor.X

/- What waits fits. -/
namespace Go.Proofs.YtffokdldgdjkhaaDoor
open Go.RowKit

def WsOk (ws : List T.Wait) : Prop := ws.length ≤ 1000 ∧ ∀ p ∈ ws, (Lit.int .i64 p.1).wf = true ∧ (Lit.int .i64 p.2).wf = true
theorem T.ansM_bad {M : T.Mach} {k : Nat} {q : S.Q} (h : ¬ T.ansE M k q = 0) : T.ansM M k q = M := by
  unfold T.ansE at h
  unfold T.ansM
  by_cases h1 : q.k = 1
  · rw [if_neg (by omega), if_neg (by omega), if_neg (by omega), if_neg (by omega), if_neg (by omega)]
  · rw [if_neg h1] at h
    by_cases h2 : q.k = 2 ∨ q.k = 3 ∨ q.k = 4
    · rw [if_pos h2] at h
      cases e : M.mem q.a with
      | some v => rw [e] at h; exact absurd rfl h
      | none => simp [T.has]; omega
    · rw [if_neg h2] at h; exact absurd rfl h
theorem T.len_leave (M : T.Mach) (k : Nat) : (T.leave M k).ts.length = M.ts.length := by
  unfold T.leave
  split
  · rfl
  · exact T.len_put _ _ _ _
theorem T.len_full (M : T.Mach) (k : Nat) : (T.full M k).ts.length = M.ts.length := by
  unfold T.full
  split
  · exact T.len_leave M k
  · rfl
theorem T.ansM_len (M : T.Mach) (k : Nat) (q : S.Q) : (T.ansM M k q).ts.length = M.ts.length := by
  unfold T.ansM
  cases M.mem q.a with
  | none => simp only [T.has]; repeat' split
            all_goals first | rfl | exact T.len_put _ _ _ _
  | some v =>
    simp only [T.has]
    repeat' split
    all_goals first | rfl | exact T.len_put _ _ _ _ | exact (T.len_put _ _ _ _).trans (T.len_full M k)
theorem T.doIns_yes {M : T.Mach} {k : Nat} (h : T.decOk M.code (T.plc M k) = true) : T.doIns M k = if T.ansE M k (T.iQ (M.th k).c (I.cut M.code (T.plc M k))) = 0 then
      T.setC (T.ansM M k (T.iQ (M.th k).c (I.cut M.code (T.plc M k)))) k (S.finish (T.iC (M.th k).c (I.cut M.code (T.plc M k))) (T.iQ (M.th k).c (I.cut M.code (T.plc M k))).k (T.iQ (M.th k).c (I.cut M.code (T.plc M k))).r (T.ansN M k (T.iQ (M.th k).c (I.cut M.code (T.plc M k)))))
    else T.setC M k (T.trapC (M.th k).c 2) := if_pos h
theorem T.doIns_no {M : T.Mach} {k : Nat} (h : ¬ T.decOk M.code (T.plc M k) = true) : T.doIns M k = T.setC M k (T.trapC (M.th k).c 3) := if_neg h
theorem S.asked_wf (c : S.C) (op : Int) (a b : Nat) (n x : Int) : (Lit.int .i64 (S.asked c op a b n (wrap64 x)).a).wf = true ∧ (Lit.int .i64 (S.asked c op a b n (wrap64 x)).v).wf = true := by
  unfold S.asked
  repeat' split
  all_goals exact ⟨by first | exact wrap64_wf _ | rfl, by first | exact wrap64_wf _ | rfl⟩
theorem S.startQ_wf (c : S.C) (op a b n z : Int) : (Lit.int .i64 (S.startQ c op a b n z).a).wf = true ∧ (Lit.int .i64 (S.startQ c op a b n z).v).wf = true := by
  unfold S.startQ
  split
  · exact S.asked_wf _ _ _ _ _ _
  · exact ⟨rfl, rfl⟩
/-- What is asked of a machine's threads. -/
def MOk (M : T.Mach) : Prop := ∀ k, k < M.ts.length → WsOk (M.th k).ws ∧ (M.th k).ws.length ≤ 8

end Go.Proofs.YtffokdldgdjkhaaDoor

/- All of a thread's stores leave; a load, a store. -/
namespace Go.Proofs.YtffokdldgdjkhaaDoor.X
open Go.RowKit Go.Maps
set_option linter.unusedVariables false
set_option linter.unusedSimpArgs false





end Go.Proofs.YtffokdldgdjkhaaDoor.X

/- An instruction is done. (Written by gen_ins.py.) -/
namespace Go.Proofs.YtffokdldgdjkhaaDoor.X
open Go.RowKit Go.Maps
set_option linter.unusedVariables false
set_option linter.unusedSimpArgs false

theorem Tab.of {t t' : Nat → Nat} {w w' : World} (h : Tab w) (hs : St t t' w w') (h0 : t 0 = 0) (h1 : t 1 = 0) : Tab w' :=
  ⟨fun o => (World.cell?_of_block (a := ⟨0, o, none⟩) (hs.block 0 (by have := h.2.2; omega) h0)).trans (h.1 o), fun o => (World.cell?_of_block (a := ⟨1, o, none⟩) (hs.block 1 (by have := h.2.2; omega) h1)).trans (h.2.1 o), Nat.le_trans h.2.2 hs.size⟩


section
variable {B : Nat} {w w' : World} {b : Nat} {M : T.Mach} {K : Nat} {t t' : Nat → Nat} {bm g cap : Nat} {ev : Value} {us : List Value}
end



end Go.Proofs.YtffokdldgdjkhaaDoor.X

/- A thread's step; a pick. -/
namespace Go.Proofs.YtffokdldgdjkhaaDoor.X
open Go.RowKit Go.Maps
set_option linter.unusedVariables false
set_option linter.unusedSimpArgs false

theorem T.len_setC (M : T.Mach) (k : Nat) (c : S.C) : (T.setC M k c).ts.length = M.ts.length := T.len_put _ _ _ _
theorem T.doIns_len (M : T.Mach) (k : Nat) : (T.doIns M k).ts.length = M.ts.length := by
  unfold T.doIns
  repeat' split
  · exact (T.len_setC _ _ _).trans (T.ansM_len _ _ _)
  · exact T.len_setC _ _ _
  · exact T.len_setC _ _ _
theorem T.es_put (M : T.Mach) (k : Nat) (m : T.Memo) (h : T.Th) : (M.put k m h).es = M.es := rfl
theorem T.es_leave (M : T.Mach) (k : Nat) : (T.leave M k).es = M.es := by
  unfold T.leave
  split <;> rfl
theorem T.es_full (M : T.Mach) (k : Nat) : (T.full M k).es = M.es := by
  unfold T.full
  split
  · exact T.es_leave M k
  · rfl
theorem T.ansM_es (M : T.Mach) (k : Nat) (q : S.Q) : (T.ansM M k q).es = if q.k = 6 then M.es ++ [((k : Int), 1, q.v)] else M.es := by
  unfold T.ansM
  by_cases h6 : q.k = 6
  · rw [if_pos h6, if_neg (by omega), if_neg (by omega), if_neg (by omega), if_neg (by omega), if_pos h6]
    rfl
  · rw [if_neg h6]
    cases M.mem q.a with
    | none =>
      simp only [T.has]
      repeat' split
      all_goals first | rfl | omega
    | some v =>
      simp only [T.has]
      repeat' split
      all_goals first | rfl | omega | exact T.es_full M k
theorem T.doIns_es (M : T.Mach) (k : Nat) : (T.doIns M k).es.length ≤ M.es.length + 1 := by
  unfold T.doIns
  repeat' split
  · show (T.ansM M k _).es.length ≤ _
    rw [T.ansM_es]
    split
    · simp
    · omega
  · show M.es.length ≤ _; omega
  · show M.es.length ≤ _; omega









end Go.Proofs.YtffokdldgdjkhaaDoor.X

/- What a machine shows: a thread, a word, its events. (Written by gen_view.py.) -/
namespace Go.Proofs.YtffokdldgdjkhaaDoor.X
open Go.RowKit Go.Maps
set_option linter.unusedVariables false
set_option linter.unusedSimpArgs false

/-- What comes back is a row of one's own. -/
def RowIs (B : Nat) (ty : TypeId) (m : Nat) (e : Ending) (w' : World) (n : Nat) (cs : List Value) : Prop := ∃ v', e = .returned v' ∧ w'.ownsRow B ty m v' n cs
theorem cell_new0 (w : World) (ty : TypeId) : (w.alloc (.cells #[] ty)).heap[w.heap.size]? = some (.cells #[] ty) := by rw [← World.alloc_eq]; simp
theorem own_new0 (w : World) (ty : TypeId) (m : Nat) : (w.alloc (.cells #[] ty)).ownsRow w.heap.size ty m (.slice (some ⟨w.heap.size, 0, none⟩) 0 0) 0 [] :=
  ⟨by simp, .inr ⟨w.heap.size, 0, #[], rfl, Nat.le_refl _, cell_new0 w ty, Nat.zero_le _, Nat.zero_le _, by simp, by simp⟩⟩
theorem own_mono {w : World} {B B' : Nat} {ty : TypeId} {m n : Nat} {v : Value} {cs : List Value} (h : w.ownsRow B ty m v n cs) (hl : B' ≤ B) : w.ownsRow B' ty m v n cs := by
  refine ⟨h.1, ?_⟩
  rcases h.2 with h0 | ⟨g, cap, cur, e, h1, h2⟩
  · exact .inl h0
  · exact .inr ⟨g, cap, cur, e, Nat.le_trans hl h1, h2⟩
theorem below_new {w x y : World} {v : Value} (hb : Below w.heap.size w x) (hg : x.grownBy y v.ownBlock) (hv : ∀ g, v.ownBlock = some g → w.heap.size ≤ g) : Below w.heap.size w y :=
  ⟨hg.os.trans hb.os, hg.tape.trans hb.tape, hg.output.trans hb.output, Nat.le_trans hb.size hg.size, fun k hk => (hg.block k (Nat.lt_of_lt_of_le hk hb.size) (fun e => by have := hv k e.symm; omega)).trans (hb.block k hk)⟩





theorem ch_below {w z : World} {B q : Nat} (h : Below B w z) (hq : B ≤ q) (c : S.C) : Below B w (((((((((((z.setCell ⟨q, 0, none⟩ (.int .i64 c.r0)).setCell ⟨q, 1, none⟩ (.int .i64 c.r1)).setCell ⟨q, 2, none⟩ (.int .i64 c.r2)).setCell ⟨q, 3, none⟩ (.int .i64 c.r3)).setCell ⟨q, 4, none⟩ (.int .i64 c.r4)).setCell ⟨q, 5, none⟩ (.int .i64 c.r5)).setCell ⟨q, 6, none⟩ (.int .i64 c.r6)).setCell ⟨q, 7, none⟩ (.int .i64 c.r7)).setCell ⟨q, 8, none⟩ (.int .i64 c.pc)).setCell ⟨q, 9, none⟩ (.int .i64 c.st)).setCell ⟨q, 10, none⟩ (.int .i64 c.tr)) :=
  ((((((((((h.setCell hq _).setCell hq _).setCell hq _).setCell hq _).setCell hq _).setCell hq _).setCell hq _).setCell hq _).setCell hq _).setCell hq _).setCell hq _
theorem ch1_own {z : World} {B q o : Nat} {ty : TypeId} {m n : Nat} {v u : Value} {cs : List Value} (h : z.ownsRow B ty m v n cs) (hq : q < B) : (z.setCell ⟨q, o, none⟩ u).ownsRow B ty m v n cs :=
  h.kept (gb_set _ ⟨q, o, none⟩ _) (.inr fun e => by have := (h.lt _ e).1; simp only at this; omega)
theorem ch_own {z : World} {B q : Nat} {ty : TypeId} {m n : Nat} {v : Value} {cs : List Value} (h : z.ownsRow B ty m v n cs) (hq : q < B) (c : S.C) : ((((((((((((z.setCell ⟨q, 0, none⟩ (.int .i64 c.r0)).setCell ⟨q, 1, none⟩ (.int .i64 c.r1)).setCell ⟨q, 2, none⟩ (.int .i64 c.r2)).setCell ⟨q, 3, none⟩ (.int .i64 c.r3)).setCell ⟨q, 4, none⟩ (.int .i64 c.r4)).setCell ⟨q, 5, none⟩ (.int .i64 c.r5)).setCell ⟨q, 6, none⟩ (.int .i64 c.r6)).setCell ⟨q, 7, none⟩ (.int .i64 c.r7)).setCell ⟨q, 8, none⟩ (.int .i64 c.pc)).setCell ⟨q, 9, none⟩ (.int .i64 c.st)).setCell ⟨q, 10, none⟩ (.int .i64 c.tr))).ownsRow B ty m v n cs :=
  ch1_own (ch1_own (ch1_own (ch1_own (ch1_own (ch1_own (ch1_own (ch1_own (ch1_own (ch1_own (ch1_own h hq) hq) hq) hq) hq) hq) hq) hq) hq) hq) hq

/-- A thread, as Thread tells it. -/
def ThIs (B : Nat) (e : Ending) (w' : World) (h : T.Th) : Prop := ∃ v', e = .returned (.tuple #[h.c.v, v']) ∧ w'.ownsRow B 94 2 v' h.ws.length (h.ws.flatMap wC)


end Go.Proofs.YtffokdldgdjkhaaDoor.X

/- An image as it is handed over; where its threads begin; whether it may run. -/
namespace Go.Proofs.YtffokdldgdjkhaaDoor.X
open Go.RowKit Go.Maps
set_option linter.unusedVariables false
set_option linter.unusedSimpArgs false

structure Sym where
  name : ByteArray
  kind : Int
  pos : Int
def noSym : Sym := ⟨{ data := #[] }, 0, 0⟩
/-- Lists as they lie. -/
structure IntsV (w : World) (a : Option Addr) (len cap : Nat) (zs : List Int) : Prop where
  count : zs.length = len
  fits : ∀ n ∈ zs, (Lit.int .i64 n).wf = true
  nilOf : a = none → len = 0 ∧ cap = 0
  room : len ≤ cap ∧ cap ≤ maxLen
  cells : len = 0 ∨ ∃ b off, a = some ⟨b, off, none⟩ ∧ ∀ i, i < len → w.cell? ⟨b, off + i, none⟩ = some (.int .i64 (zs.getD i 0))
structure SymsV (w : World) (a : Option Addr) (len cap : Nat) (ss : List Sym) : Prop where
  count : ss.length = len
  fits : ∀ s ∈ ss, s.name.size ≤ maxLen ∧ (Lit.int .i64 s.kind).wf = true ∧ (Lit.int .i64 s.pos).wf = true
  nilOf : a = none → len = 0 ∧ cap = 0
  room : len ≤ cap ∧ cap ≤ maxLen
  cells : len = 0 ∨ ∃ b off, a = some ⟨b, off, none⟩ ∧ ∀ i, i < len → w.cell? ⟨b, off + i * 3, none⟩ = some (.string (ss.getD i noSym).name) ∧ w.cell? ⟨b, off + i * 3 + 1, none⟩ = some (.int .i64 (ss.getD i noSym).kind) ∧ w.cell? ⟨b, off + i * 3 + 2, none⟩ = some (.int .i64 (ss.getD i noSym).pos)
theorem IntsV.below {w w1 : World} {a : Option Addr} {len cap : Nat} {zs : List Int} (h : IntsV w a len cap zs) (hb : Below w.heap.size w w1) : IntsV w1 a len cap zs := by
  refine ⟨h.count, h.fits, h.nilOf, h.room, ?_⟩
  rcases h.cells with h0 | ⟨b, off, ha, hc⟩
  · exact .inl h0
  · exact .inr ⟨b, off, ha, fun i hi => (hb.cell (p := ⟨b, off + i, none⟩) (World.block_lt_of_cell? w ⟨b, off + i, none⟩ (hc i hi))).trans (hc i hi)⟩
theorem SymsV.below {w w1 : World} {a : Option Addr} {len cap : Nat} {ss : List Sym} (h : SymsV w a len cap ss) (hb : Below w.heap.size w w1) : SymsV w1 a len cap ss := by
  refine ⟨h.count, h.fits, h.nilOf, h.room, ?_⟩
  rcases h.cells with h0 | ⟨b, off, ha, hc⟩
  · exact .inl h0
  · refine .inr ⟨b, off, ha, fun i hi => ?_⟩
    obtain ⟨k0, k1, k2⟩ := hc i hi
    have hbl : b < w.heap.size := World.block_lt_of_cell? w ⟨b, off + i * 3, none⟩ k0
    exact ⟨(hb.cell (p := ⟨b, off + i * 3, none⟩) hbl).trans k0, (hb.cell (p := ⟨b, off + i * 3 + 1, none⟩) hbl).trans k1, (hb.cell (p := ⟨b, off + i * 3 + 2, none⟩) hbl).trans k2⟩
/-- An image. -/
structure ImgD where
  code : ByteArray
  data : List Int
  syms : List Sym
structure ImgV (w : World) (v : Value) (m : ImgD) : Prop where
  form : ∃ a1 l1 c1 a2 l2 c2, v = .agg #[.string m.code, .slice a1 l1 c1, .slice a2 l2 c2] ∧ m.code.size ≤ maxLen ∧ IntsV w a1 l1 c1 m.data ∧ SymsV w a2 l2 c2 m.syms
theorem ImgV.below {w w1 : World} {v : Value} {m : ImgD} (h : ImgV w v m) (hb : Below w.heap.size w w1) : ImgV w1 v m := by
  obtain ⟨a1, l1, c1, a2, l2, c2, e, hs, h1, h2⟩ := h.form
  exact ⟨⟨a1, l1, c1, a2, l2, c2, e, hs, h1.below hb, h2.below hb⟩⟩
def intC (n : Int) : List Value := [.int .i64 n]
theorem infoN : (Tryd.prog.info? 3).map (fun i => (i.zero, i.size, i.bytes)) = some (some (.int .i64 0), 1, 8) := by kernel_rfl
/-- Where the threads begin. -/
def strt (ss : List Sym) : List Int := (ss.filter fun s => decide (s.kind = 3)).map Sym.pos
theorem strt_snoc (ss : List Sym) {k : Nat} (h : k < ss.length) : strt (ss.take (k + 1)) = strt (ss.take k) ++ (if (ss.getD k noSym).kind = 3 then [(ss.getD k noSym).pos] else []) := by
  rw [List.take_succ_eq_append_getElem h]
  have e : ss.getD k noSym = ss[k] := by simp [List.getD, h]
  rw [e]
  unfold strt
  rw [List.filter_append, List.map_append]
  congr 1
  by_cases hk : ss[k].kind = 3 <;> simp [hk]
theorem strt_len (ss : List Sym) : (strt ss).length ≤ ss.length := by
  unfold strt; rw [List.length_map]; exact List.length_filter_le _ _
theorem own_below {w w' : World} {B : Nat} {ty : TypeId} {m n : Nat} {v : Value} {cs : List Value} (h : w.ownsRow B ty m v n cs) (hb : Below w.heap.size w w') : w'.ownsRow B ty m v n cs :=
  row_cong h (fun g hg => hb.block g (own_lt h hg))
theorem ints_own {w : World} {B : Nat} {v : Value} {n : Nat} {zs : List Int} {ty : TypeId} (h : w.ownsRow B ty 1 v n (zs.flatMap intC)) (hn : zs.length = n) (hf : ∀ z ∈ zs, (Lit.int .i64 z).wf = true) : ∃ a c, v = .slice a n c ∧ IntsV w a n c zs := by
  obtain ⟨a, c, rfl, h1, h2⟩ := row_at (m := 1) (f := intC) 0 (fun _ => rfl) h hn
  obtain ⟨a', c', e, h3, h4⟩ := own_sl h
  cases e
  refine ⟨a, c, rfl, ⟨hn, hf, h1, ⟨h3, h4⟩, ?_⟩⟩
  rcases h2 with h2 | ⟨b, off, rfl, h2⟩
  · exact .inl h2
  · refine .inr ⟨b, off, rfl, fun i hi => ?_⟩
    have := h2 i hi 0 _ (by decide) rfl
    simpa using this


end Go.Proofs.YtffokdldgdjkhaaDoor.X

/- The document's memory: the data, then all stacks. No walk. -/
namespace Go.Proofs.YtffokdldgdjkhaaDoor
open Go.RowKit
set_option linter.unusedVariables false

namespace T
def memoOf (D S : List Int) : Memo := fun x =>
  if x % 8 = 0 then
    (if 1048576 ≤ x ∧ x < 1048576 + 8 * (D.length : Int) then some (D.getD ((x - 1048576) / 8).toNat 0)
    else if 2097152 ≤ x ∧ x < 2097152 + 8 * (S.length : Int) then some (S.getD ((x - 2097152) / 8).toNat 0) else none)
  else none
theorem memoOf_new (D : List Int) (n : Nat) : mem0 D n = memoOf D (List.replicate (8192 * n) 0) := by
  funext x
  unfold mem0 memoOf
  rw [List.length_replicate]
  by_cases h8 : x % 8 = 0
  · rw [if_pos h8, if_pos h8]
    by_cases h1 : 1048576 ≤ x ∧ x < 1048576 + 8 * (D.length : Int)
    · rw [if_pos h1, if_pos h1]
    · rw [if_neg h1, if_neg h1]
      by_cases h2 : 2097152 ≤ x ∧ x < 2097152 + 65536 * (n : Int)
      · rw [if_pos h2, if_pos (by omega)]
        congr 1
        rw [List.getD_eq_getElem?_getD, List.getElem?_replicate]
        split <;> rfl
      · rw [if_neg h2, if_neg (by omega)]
  · rw [if_neg h8, if_neg h8]
theorem memoOf_D {D S : List Int} {i : Nat} (hi : i < D.length) : memoOf D S (1048576 + 8 * (i : Int)) = some (D.getD i 0) := by
  unfold memoOf
  rw [if_pos (by omega), if_pos (by omega), show ((1048576 + 8 * (i : Int) - 1048576) / 8).toNat = i by omega]
theorem memoOf_S {D S : List Int} {i : Nat} (hi : i < S.length) (hD : D.length ≤ 4096) : memoOf D S (2097152 + 8 * (i : Int)) = some (S.getD i 0) := by
  unfold memoOf
  rw [if_pos (by omega), if_neg (by omega), if_pos (by omega), show ((2097152 + 8 * (i : Int) - 2097152) / 8).toNat = i by omega]
theorem memoOf_no {D S : List Int} {a : Int} (h : ¬ a % 8 = 0 ∨ (¬ (1048576 ≤ a ∧ a < 1048576 + 8 * (D.length : Int)) ∧ ¬ (2097152 ≤ a ∧ a < 2097152 + 8 * (S.length : Int)))) : memoOf D S a = none := by
  unfold memoOf
  by_cases h8 : a % 8 = 0
  · rw [if_pos h8]
    rcases h with h | ⟨h1, h2⟩
    · exact absurd h8 h
    · rw [if_neg h1, if_neg h2]
  · rw [if_neg h8]
theorem memoOf_cases (D S : List Int) (a : Int) : (∃ i : Nat, i < D.length ∧ a = 1048576 + 8 * (i : Int)) ∨ (∃ i : Nat, i < S.length ∧ a = 2097152 + 8 * (i : Int)) ∨ (¬ a % 8 = 0 ∨ (¬ (1048576 ≤ a ∧ a < 1048576 + 8 * (D.length : Int)) ∧ ¬ (2097152 ≤ a ∧ a < 2097152 + 8 * (S.length : Int)))) := by
  by_cases h8 : a % 8 = 0
  · by_cases h1 : 1048576 ≤ a ∧ a < 1048576 + 8 * (D.length : Int)
    · exact .inl ⟨((a - 1048576) / 8).toNat, by omega, by omega⟩
    · by_cases h2 : 2097152 ≤ a ∧ a < 2097152 + 8 * (S.length : Int)
      · exact .inr (.inl ⟨((a - 2097152) / 8).toNat, by omega, by omega⟩)
      · exact .inr (.inr (.inr ⟨h1, h2⟩))
  · exact .inr (.inr (.inl h8))
theorem getD_set (l : List Int) (i j : Nat) (v : Int) (hi : i < l.length) : (l.set i v).getD j 0 = if i = j then v else l.getD j 0 := by
  rw [List.getD_eq_getElem?_getD, List.getElem?_set]
  by_cases e : i = j
  · rw [if_pos e, if_pos e, if_pos (by omega)]; rfl
  · rw [if_neg e, if_neg e, List.getD_eq_getElem?_getD]
theorem upd_D {D S : List Int} {i : Nat} (hi : i < D.length) (v : Int) : upd (memoOf D S) (1048576 + 8 * (i : Int)) v = memoOf (D.set i v) S := by
  funext y
  unfold upd
  rw [memoOf_D hi]
  by_cases e : y = 1048576 + 8 * (i : Int)
  · rw [if_pos e, if_pos (show (some (D.getD i 0)).isSome = true from rfl), e, memoOf_D (by simpa using hi), getD_set _ _ _ _ hi, if_pos rfl]
  · rw [if_neg e]
    unfold memoOf
    rw [List.length_set]
    by_cases h8 : y % 8 = 0
    · rw [if_pos h8, if_pos h8]
      by_cases h1 : 1048576 ≤ y ∧ y < 1048576 + 8 * (D.length : Int)
      · rw [if_pos h1, if_pos h1, getD_set _ _ _ _ hi, if_neg (by omega)]
      · rw [if_neg h1, if_neg h1]
    · rw [if_neg h8, if_neg h8]
theorem upd_S {D S : List Int} {i : Nat} (hi : i < S.length) (hD : D.length ≤ 4096) (v : Int) : upd (memoOf D S) (2097152 + 8 * (i : Int)) v = memoOf D (S.set i v) := by
  funext y
  unfold upd
  rw [memoOf_S hi hD]
  by_cases e : y = 2097152 + 8 * (i : Int)
  · rw [if_pos e, if_pos (show (some (S.getD i 0)).isSome = true from rfl), e, memoOf_S (by simpa using hi) hD, getD_set _ _ _ _ hi, if_pos rfl]
  · rw [if_neg e]
    unfold memoOf
    rw [List.length_set]
    by_cases h8 : y % 8 = 0
    · rw [if_pos h8, if_pos h8]
      by_cases h1 : 1048576 ≤ y ∧ y < 1048576 + 8 * (D.length : Int)
      · rw [if_pos h1, if_pos h1]
      · rw [if_neg h1, if_neg h1]
        by_cases h2 : 2097152 ≤ y ∧ y < 2097152 + 8 * (S.length : Int)
        · rw [if_pos h2, if_pos h2, getD_set _ _ _ _ hi, if_neg (by omega)]
        · rw [if_neg h2, if_neg h2]
    · rw [if_neg h8, if_neg h8]
theorem upd_nil {m : Memo} {a : Int} (h : m a = none) (v : Int) : upd m a v = m := by
  funext y
  unfold upd
  by_cases e : y = a
  · rw [if_pos e, h, e, h]; rfl
  · rw [if_neg e]

end T

theorem wf_bounds {x : Int} (h : (Lit.int .i64 x).wf = true) : -9223372036854775808 ≤ x ∧ x ≤ 9223372036854775807 := by
  have := h
  simp [Lit.wf, IntKind.min, IntKind.max, IntKind.signed, IntKind.bits] at this
  exact this

end Go.Proofs.YtffokdldgdjkhaaDoor

/- The document's machine, as it lies in memory. -/
namespace Go.Proofs.YtffokdldgdjkhaaDoor.X
open Go.RowKit Go.Maps
set_option linter.unusedVariables false
set_option linter.unusedSimpArgs false

def intR (l : List Int) : List Value := l.map (Value.int .i64)
theorem intR_len (l : List Int) : (intR l).length = l.length := by simp [intR]
theorem intR_at {l : List Int} {i : Nat} (h : i < l.length) : (intR l)[i]? = some (.int .i64 (l.getD i 0)) := by simp [intR, List.getD, h]
theorem intR_set (l : List Int) (i : Nat) (v : Int) : (intR l).set i (.int .i64 v) = intR (l.set i v) := by simp [intR, List.map_set]
def xC (h : T.Th) (u : Value) : List Value := [.int .i64 h.c.r0, .int .i64 h.c.r1, .int .i64 h.c.r2, .int .i64 h.c.r3, .int .i64 h.c.r4, .int .i64 h.c.r5, .int .i64 h.c.r6, .int .i64 h.c.r7, .int .i64 h.c.pc, .int .i64 h.c.st, .int .i64 h.c.tr, u]
theorem xC_len (h : T.Th) (u : Value) : (xC h u).length = 12 := rfl

/-- The document's machine. Marks: 1 the block, 2 the data, 3 the stacks, 4 the threads, 5 the events, 6 and on the stores that wait. -/
structure XV (B : Nat) (w : World) (b : Nat) (M : T.Mach) (t : Nat → Nat) (D S : List Int) (vd vs : Value) (g cap : Nat) (ev : Value) (us : List Value) : Prop where
  c0 : w.cell? ⟨b, 0, none⟩ = some (.string M.code)
  c1 : w.cell? ⟨b, 1, none⟩ = some vd
  c2 : w.cell? ⟨b, 2, none⟩ = some vs
  c3 : w.cell? ⟨b, 3, none⟩ = some (.slice (some ⟨g, 0, none⟩) M.ts.length cap)
  c4 : w.cell? ⟨b, 4, none⟩ = some ev
  fz : ∀ o, w.frozen? ⟨b, o, none⟩ = false
  tb : t b = 1
  room : M.ts.length ≤ cap ∧ cap ≤ maxLen ∧ 0 < M.ts.length ∧ M.ts.length ≤ 4
  mem : M.mem = T.memoOf D S
  dl : D.length ≤ 4096
  sl : S.length ≤ 32768
  dat : w.ownsRow B 2 1 vd D.length (intR D)
  td : ∀ x, vd.ownBlock = some x → t x = 2
  stk : w.ownsRow B 2 1 vs S.length (intR S)
  tst : ∀ x, vs.ownBlock = some x → t x = 3
  tg : t g = 4
  gz : ∀ o, w.frozen? ⟨g, o, none⟩ = false
  len : us.length = M.ts.length
  tc : ∀ (k : Nat) (h : T.Th) (u : Value), M.ts[k]? = some h → us[k]? = some u → ∀ (j : Nat) (x : Value), (xC h u)[j]? = some x → w.cell? ⟨g, k * 12 + j, none⟩ = some x
  ws : ∀ (k : Nat) (h : T.Th) (u : Value), M.ts[k]? = some h → us[k]? = some u → w.ownsRow B 94 2 u h.ws.length (h.ws.flatMap wC)
  tw : ∀ (k : Nat) (u : Value) (x : Nat), us[k]? = some u → u.ownBlock = some x → t x = 6 + k
  evs : w.ownsRow B 101 3 ev M.es.length (M.es.flatMap eC)
  te : ∀ x, ev.ownBlock = some x → t x = 5
  lt : ∀ k, t k ≠ 0 → B ≤ k ∧ k < w.heap.size

section
variable {B : Nat} {w w' : World} {b : Nat} {M : T.Mach} {t t' : Nat → Nat} {D S D' S' : List Int} {vd vs : Value} {g cap : Nat} {ev : Value} {us : List Value}
theorem XV.bl (h : XV B w b M t D S vd vs g cap ev us) : b < w.heap.size := World.block_lt_of_cell? w ⟨b, 0, none⟩ h.c0
theorem XV.gl (h : XV B w b M t D S vd vs g cap ev us) : g < w.heap.size := (h.lt g (by rw [h.tg]; decide)).2
theorem XV.hB (h : XV B w b M t D S vd vs g cap ev us) : B ≤ w.heap.size := by have := h.bl; have := (h.lt b (by rw [h.tb]; decide)).1; omega
/-- All marked blocks are as they were. -/
theorem XV.keep (h : XV B w b M t D S vd vs g cap ev us) (hb : ∀ k, k < w.heap.size → t k ≠ 0 → w'.heap[k]? = w.heap[k]?) (ht : ∀ k, k < w.heap.size → t k ≠ 0 → t' k = t k) (hlt : ∀ k, t' k ≠ 0 → B ≤ k ∧ k < w'.heap.size) : XV B w' b M t' D S vd vs g cap ev us := by
  have eb := hb b h.bl (by rw [h.tb]; decide)
  have eg := hb g h.gl (by rw [h.tg]; decide)
  refine { c0 := blk_cell eb h.c0, c1 := blk_cell eb h.c1, c2 := blk_cell eb h.c2, c3 := blk_cell eb h.c3, c4 := blk_cell eb h.c4, fz := fun o => blk_froz eb (h.fz o), tb := (ht b h.bl (by rw [h.tb]; decide)).trans h.tb, room := h.room, mem := h.mem, dl := h.dl, sl := h.sl, dat := row_cong h.dat (fun q hq => hb q (own_lt h.dat hq) (by rw [h.td q hq]; decide)), td := fun x h1 => (ht x (own_lt h.dat h1) (by rw [h.td x h1]; decide)).trans (h.td x h1), stk := row_cong h.stk (fun q hq => hb q (own_lt h.stk hq) (by rw [h.tst q hq]; decide)), tst := fun x h1 => (ht x (own_lt h.stk h1) (by rw [h.tst x h1]; decide)).trans (h.tst x h1), tg := (ht g h.gl (by rw [h.tg]; decide)).trans h.tg, gz := fun o => blk_froz eg (h.gz o), len := h.len, tc := fun k x u h1 h2 j v h3 => blk_cell eg (h.tc k x u h1 h2 j v h3), ws := fun k x u h1 h2 => row_cong (h.ws k x u h1 h2) (fun q hq => hb q (own_lt (h.ws k x u h1 h2) hq) (by rw [h.tw k u q h2 hq]; omega)), tw := fun k u x h1 h2 => ?_, evs := row_cong h.evs (fun q hq => hb q (own_lt h.evs hq) (by rw [h.te q hq]; decide)), te := fun x h1 => (ht x (own_lt h.evs h1) (by rw [h.te x h1]; decide)).trans (h.te x h1), lt := hlt }
  have hk : k < M.ts.length := by rw [← h.len]; exact (List.getElem?_eq_some_iff.1 h1).1
  exact (ht x (own_lt (h.ws k _ u (T.th_at hk) h1) h2) (by rw [h.tw k u x h1 h2]; omega)).trans (h.tw k u x h1 h2)
theorem XV.below (h : XV B w b M t D S vd vs g cap ev us) (hb : Below w.heap.size w w') : XV B w' b M t D S vd vs g cap ev us :=
  h.keep (fun k hk _ => hb.block k hk) (fun _ _ _ => rfl) (fun k hk => ⟨(h.lt k hk).1, Nat.lt_of_lt_of_le (h.lt k hk).2 hb.size⟩)
theorem XV.frame {p p' : Nat → Nat} (h : XV B w b M t D S vd vs g cap ev us) (hs : St p p' w w') (hd : ∀ k, t k ≠ 0 → p k = 0) : XV B w' b M t D S vd vs g cap ev us :=
  h.keep (fun k hk e => hs.block k hk (hd k e)) (fun _ _ _ => rfl) (fun k hk => ⟨(h.lt k hk).1, Nat.lt_of_lt_of_le (h.lt k hk).2 hs.size⟩)
/-- A word of memory is another one. -/
theorem XV.memop {m' : T.Memo} (h : XV B w b M t D S vd vs g cap ev us) (hb : ∀ q, q < w.heap.size → t q ≠ 2 → t q ≠ 3 → w'.heap[q]? = w.heap[q]?) (hs : w.heap.size ≤ w'.heap.size)
    (h1 : w'.ownsRow B 2 1 vd D'.length (intR D')) (h2 : w'.ownsRow B 2 1 vs S'.length (intR S')) (hl1 : D'.length ≤ 4096) (hl2 : S'.length ≤ 32768) (hm : m' = T.memoOf D' S') : XV B w' b { M with mem := m' } t D' S' vd vs g cap ev us := by
  have eb := hb b h.bl (by rw [h.tb]; decide) (by rw [h.tb]; decide)
  have eg := hb g h.gl (by rw [h.tg]; decide) (by rw [h.tg]; decide)
  exact { c0 := blk_cell eb h.c0, c1 := blk_cell eb h.c1, c2 := blk_cell eb h.c2, c3 := blk_cell eb h.c3, c4 := blk_cell eb h.c4, fz := fun o => blk_froz eb (h.fz o), tb := h.tb, room := h.room, mem := hm, dl := hl1, sl := hl2, dat := h1, td := h.td, stk := h2, tst := h.tst, tg := h.tg, gz := fun o => blk_froz eg (h.gz o), len := h.len, tc := fun k x u h1 h2 j v h3 => blk_cell eg (h.tc k x u h1 h2 j v h3), ws := fun k x u h1 h2 => row_cong (h.ws k x u h1 h2) (fun q hq => hb q (own_lt (h.ws k x u h1 h2) hq) (by rw [h.tw k u q h2 hq]; omega) (by rw [h.tw k u q h2 hq]; omega)), tw := h.tw, evs := row_cong h.evs (fun q hq => hb q (own_lt h.evs hq) (by rw [h.te q hq]; decide) (by rw [h.te q hq]; decide)), te := h.te, lt := fun k hk => ⟨(h.lt k hk).1, Nat.lt_of_lt_of_le (h.lt k hk).2 hs⟩ }
/-- A thread's cells were stored over. -/
theorem XV.thr {k : Nat} {h' : T.Th} {u' : Value} (h : XV B w b M t D S vd vs g cap ev us) (hk : k < M.ts.length)
    (hb : ∀ q, q < w.heap.size → t q ≠ 4 → t q ≠ 6 + k → w'.heap[q]? = w.heap[q]?) (hs : w.heap.size ≤ w'.heap.size)
    (hc : ∀ (j : Nat) (x : Value), (xC h' u')[j]? = some x → w'.cell? ⟨g, k * 12 + j, none⟩ = some x) (ho : ∀ o, o < k * 12 ∨ k * 12 + 12 ≤ o → w'.cell? ⟨g, o, none⟩ = w.cell? ⟨g, o, none⟩) (hz : ∀ o, w'.frozen? ⟨g, o, none⟩ = false)
    (hw : w'.ownsRow B 94 2 u' h'.ws.length (h'.ws.flatMap wC)) (hu : ∀ x, u'.ownBlock = some x → t' x = 6 + k)
    (ht : ∀ q, q < w.heap.size → t' q = t q) (hlt : ∀ q, t' q ≠ 0 → B ≤ q ∧ q < w'.heap.size) : XV B w' b (M.put k M.mem h') t' D S vd vs g cap ev (us.set k u') := by
  have eb := hb b h.bl (by rw [h.tb]; decide) (by rw [h.tb]; omega)
  have hkl : k < us.length := by rw [h.len]; exact hk
  have at' : ∀ i x, (M.ts.set k h')[i]? = some x → (i = k ∧ x = h') ∨ (i ≠ k ∧ M.ts[i]? = some x) := fun i x hx => by
    by_cases e : k = i
    · subst e
      rw [List.getElem?_set_self hk] at hx
      exact .inl ⟨rfl, by simpa using hx.symm⟩
    · rw [List.getElem?_set_ne e] at hx
      exact .inr ⟨fun q => e q.symm, hx⟩
  have au : ∀ i x, (us.set k u')[i]? = some x → (i = k ∧ x = u') ∨ (i ≠ k ∧ us[i]? = some x) := fun i x hx => by
    by_cases e : k = i
    · subst e
      rw [List.getElem?_set_self hkl] at hx
      exact .inl ⟨rfl, by simpa using hx.symm⟩
    · rw [List.getElem?_set_ne e] at hx
      exact .inr ⟨fun q => e q.symm, hx⟩
  have hrow : ∀ {ty : TypeId} {m n : Nat} {v : Value} {cs : List Value} (c : Nat), w.ownsRow B ty m v n cs → (∀ x, v.ownBlock = some x → t x = c) → c ≠ 4 → c ≠ 6 + k → w'.ownsRow B ty m v n cs := fun c o m1 n1 n2 => row_cong o (fun q hq => hb q (own_lt o hq) (by rw [m1 q hq]; exact n1) (by rw [m1 q hq]; exact n2))
  refine { c0 := blk_cell eb h.c0, c1 := blk_cell eb h.c1, c2 := blk_cell eb h.c2, c3 := ?_, c4 := blk_cell eb h.c4, fz := fun o => blk_froz eb (h.fz o), tb := (ht b h.bl).trans h.tb, room := by rw [T.len_put]; exact h.room, mem := h.mem, dl := h.dl, sl := h.sl, dat := hrow 2 h.dat h.td (by decide) (by omega), td := fun x h1 => (ht x (own_lt h.dat h1)).trans (h.td x h1), stk := hrow 3 h.stk h.tst (by decide) (by omega), tst := fun x h1 => (ht x (own_lt h.stk h1)).trans (h.tst x h1), tg := (ht g h.gl).trans h.tg, gz := hz, len := by rw [T.len_put, List.length_set]; exact h.len, tc := fun i x u h1 h2 j v h3 => ?_, ws := fun i x u h1 h2 => ?_, tw := fun i u x h1 h2 => ?_, evs := hrow 5 h.evs h.te (by decide) (by omega), te := fun x h1 => (ht x (own_lt h.evs h1)).trans (h.te x h1), lt := hlt }
  · rw [T.len_put]; exact blk_cell eb h.c3
  · rcases at' i x h1 with ⟨rfl, rfl⟩ | ⟨hne, h1'⟩
    · rcases au i u h2 with ⟨-, rfl⟩ | ⟨hne, h2'⟩
      · exact hc j v h3
      · exact absurd rfl hne
    · rcases au i u h2 with ⟨rfl, rfl⟩ | ⟨hne, h2'⟩
      · exact absurd rfl hne
      · have hj : j < 12 := (List.getElem?_eq_some_iff.1 h3).1
        rw [ho _ (by omega)]
        exact h.tc i x u h1' h2' j v h3
  · rcases at' i x h1 with ⟨rfl, rfl⟩ | ⟨hne, h1'⟩
    · rcases au i u h2 with ⟨-, rfl⟩ | ⟨hne, h2'⟩
      · exact hw
      · exact absurd rfl hne
    · rcases au i u h2 with ⟨rfl, rfl⟩ | ⟨hne, h2'⟩
      · exact absurd rfl hne
      · exact hrow (6 + i) (h.ws i x u h1' h2') (fun q hq => h.tw i u q h2' hq) (by omega) (by omega)
  · rcases au i u h1 with ⟨rfl, rfl⟩ | ⟨hne, h1'⟩
    · exact hu x h2
    · have hil : i < M.ts.length := by rw [← h.len]; exact (List.getElem?_eq_some_iff.1 h1').1
      exact (ht x (own_lt (h.ws i _ u (T.th_at hil) h1') h2)).trans (h.tw i u x h1' h2)
/-- An event more. -/
theorem XV.event {k : Nat} {a n : Int} {ev' : Value} (h : XV B w b M t D S vd vs g cap ev us)
    (hb : ∀ q, q < w.heap.size → t q ≠ 1 → t q ≠ 5 → w'.heap[q]? = w.heap[q]?) (hs : w.heap.size ≤ w'.heap.size)
    (h4 : w'.cell? ⟨b, 4, none⟩ = some ev') (ho : ∀ o, o ≠ 4 → w'.cell? ⟨b, o, none⟩ = w.cell? ⟨b, o, none⟩) (hz : ∀ o, w'.frozen? ⟨b, o, none⟩ = false)
    (hw : w'.ownsRow B 101 3 ev' (M.es.length + 1) (M.es.flatMap eC ++ eC ((k : Int), a, n))) (hu : ∀ x, ev'.ownBlock = some x → t' x = 5)
    (ht : ∀ q, q < w.heap.size → t' q = t q) (hlt : ∀ q, t' q ≠ 0 → B ≤ q ∧ q < w'.heap.size) : XV B w' b (M.see k a n) t' D S vd vs g cap ev' us := by
  have eg := hb g h.gl (by rw [h.tg]; decide) (by rw [h.tg]; decide)
  have hrow : ∀ {ty : TypeId} {m n : Nat} {v : Value} {cs : List Value} (c : Nat), w.ownsRow B ty m v n cs → (∀ x, v.ownBlock = some x → t x = c) → c ≠ 1 → c ≠ 5 → w'.ownsRow B ty m v n cs := fun c o m1 n1 n2 => row_cong o (fun q hq => hb q (own_lt o hq) (by rw [m1 q hq]; exact n1) (by rw [m1 q hq]; exact n2))
  refine { c0 := (ho 0 (by decide)).trans h.c0, c1 := (ho 1 (by decide)).trans h.c1, c2 := (ho 2 (by decide)).trans h.c2, c3 := (ho 3 (by decide)).trans h.c3, c4 := h4, fz := hz, tb := (ht b h.bl).trans h.tb, room := h.room, mem := h.mem, dl := h.dl, sl := h.sl, dat := hrow 2 h.dat h.td (by decide) (by decide), td := fun x h1 => (ht x (own_lt h.dat h1)).trans (h.td x h1), stk := hrow 3 h.stk h.tst (by decide) (by decide), tst := fun x h1 => (ht x (own_lt h.stk h1)).trans (h.tst x h1), tg := (ht g h.gl).trans h.tg, gz := fun o => blk_froz eg (h.gz o), len := h.len, tc := fun i x u h1 h2 j v h3 => blk_cell eg (h.tc i x u h1 h2 j v h3), ws := fun i x u h1 h2 => hrow (6 + i) (h.ws i x u h1 h2) (fun q hq => h.tw i u q h2 hq) (by omega) (by omega), tw := fun i u x h1 h2 => ?_, evs := ?_, te := hu, lt := hlt }
  · have hil : i < M.ts.length := by rw [← h.len]; exact (List.getElem?_eq_some_iff.1 h1).1
    exact (ht x (own_lt (h.ws i _ u (T.th_at hil) h1) h2)).trans (h.tw i u x h1 h2)
  · show w'.ownsRow B _ 3 ev' (M.es ++ [((k : Int), a, n)]).length ((M.es ++ [((k : Int), a, n)]).flatMap eC)
    rw [List.length_append, List.flatMap_append]
    simpa using hw
theorem XV.u {k : Nat} (h : XV B w b M t D S vd vs g cap ev us) (hk : k < M.ts.length) : ∃ u, us[k]? = some u := ⟨_, List.getElem?_eq_getElem (by rw [h.len]; exact hk)⟩
theorem XV.cell {k : Nat} {u : Value} (h : XV B w b M t D S vd vs g cap ev us) (hk : k < M.ts.length) (hu : us[k]? = some u) (j : Nat) (x : Value) (hj : (xC (M.th k) u)[j]? = some x) : w.cell? ⟨g, k * 12 + j, none⟩ = some x := h.tc k _ u (T.th_at hk) hu j x hj
end

/-- The document's machine, behind whatever. -/
def XW (B : Nat) (w : World) (b : Nat) (M : T.Mach) (t : Nat → Nat) (vd vs : Value) (g cap : Nat) : Prop := ∃ D S ev us, XV B w b M t D S vd vs g cap ev us
/-- A word of the data, of the stacks, is stored over. -/
theorem XV.setD {B : Nat} {w : World} {b : Nat} {M : T.Mach} {t : Nat → Nat} {D S : List Int} {vd vs : Value} {g cap : Nat} {ev : Value} {us : List Value} (h : XV B w b M t D S vd vs g cap ev us) {x i n c : Nat} (hv : vd = .slice (some ⟨x, 0, none⟩) n c) (hi : i < D.length) (v : Int) :
    XV B (w.setCell ⟨x, i, none⟩ (.int .i64 v)) b { M with mem := T.upd M.mem (1048576 + 8 * (i : Int)) v } t (D.set i v) S vd vs g cap ev us ∧ St t t w (w.setCell ⟨x, i, none⟩ (.int .i64 v)) := by
  have hd := h.dat
  have hx := h.td
  have hn : n = D.length := by obtain ⟨a', c', e, -⟩ := own_sl hd; rw [hv] at e; cases e; rfl
  subst hn
  rw [hv] at hd hx
  have htx : t x = 2 := hx x rfl
  obtain ⟨s1, s2⟩ := hd.stored i (.int .i64 v)
  rw [intR_set] at s1
  have hb : ∀ q, q < w.heap.size → t q ≠ 2 → (w.setCell ⟨x, i, none⟩ (.int .i64 v)).heap[q]? = w.heap[q]? := fun q hq h2 => s2.block q hq (fun e => h2 (by cases e; exact htx))
  refine ⟨h.memop (fun q hq h2 _ => hb q hq h2) s2.size ?_ ?_ (by rw [List.length_set]; exact h.dl) h.sl (by rw [h.mem]; exact T.upd_D hi v), ⟨fun _ _ => rfl, fun q hq h0 => hb q hq (by rw [h0]; decide), s2.size, s2.os, s2.tape, s2.output⟩⟩
  · rw [hv, List.length_set]; exact s1
  · exact h.stk.kept s2 (.inr fun e => by have := h.tst x e; omega)
theorem XV.setS {B : Nat} {w : World} {b : Nat} {M : T.Mach} {t : Nat → Nat} {D S : List Int} {vd vs : Value} {g cap : Nat} {ev : Value} {us : List Value} (h : XV B w b M t D S vd vs g cap ev us) {x i n c : Nat} (hv : vs = .slice (some ⟨x, 0, none⟩) n c) (hi : i < S.length) (v : Int) :
    XV B (w.setCell ⟨x, i, none⟩ (.int .i64 v)) b { M with mem := T.upd M.mem (2097152 + 8 * (i : Int)) v } t D (S.set i v) vd vs g cap ev us ∧ St t t w (w.setCell ⟨x, i, none⟩ (.int .i64 v)) := by
  have hd := h.stk
  have hx := h.tst
  have hn : n = S.length := by obtain ⟨a', c', e, -⟩ := own_sl hd; rw [hv] at e; cases e; rfl
  subst hn
  rw [hv] at hd hx
  have htx : t x = 3 := hx x rfl
  obtain ⟨s1, s2⟩ := hd.stored i (.int .i64 v)
  rw [intR_set] at s1
  have hb : ∀ q, q < w.heap.size → t q ≠ 3 → (w.setCell ⟨x, i, none⟩ (.int .i64 v)).heap[q]? = w.heap[q]? := fun q hq h2 => s2.block q hq (fun e => h2 (by cases e; exact htx))
  refine ⟨h.memop (fun q hq _ h2 => hb q hq h2) s2.size ?_ ?_ h.dl (by rw [List.length_set]; exact h.sl) (by rw [h.mem]; exact T.upd_S hi h.dl v), ⟨fun _ _ => rfl, fun q hq h0 => hb q hq (by rw [h0]; decide), s2.size, s2.os, s2.tape, s2.output⟩⟩
  · exact h.dat.kept s2 (.inr fun e => by have := h.td x e; omega)
  · rw [hv, List.length_set]; exact s1

end Go.Proofs.YtffokdldgdjkhaaDoor.X

/- The document's machine: a word of its memory. -/
namespace Go.Proofs.YtffokdldgdjkhaaDoor.X
open Go.RowKit Go.Maps
set_option linter.unusedVariables false
set_option linter.unusedSimpArgs false

section
variable {B : Nat} {w : World} {b : Nat} {M : T.Mach} {t : Nat → Nat} {D Sk : List Int} {vd vs : Value} {g cap : Nat} {ev : Value} {us : List Value}

set_option maxRecDepth 100000 in
set_option maxHeartbeats 4000000 in
theorem place_D (h : XV B w b M t D Sk vd vs g cap ev us) {i : Nat} (hi : i < D.length) {a : Int} (ha : a = 1048576 + 8 * (i : Int)) :
    Calls Tryd.prog 55 #[.pointer (some ⟨b, 0, none⟩), .int .i64 a] w fun e w' => e = .returned (.tuple #[vd, .int .i64 i, .bool true]) ∧ w' = w := by
  have c1 := h.c1
  obtain ⟨ad, cd, hv, -⟩ := own_sl h.dat
  have hd := h.dl
  subst hv
  obtain ⟨n, hn⟩ : ∃ n, D.length = n := ⟨_, rfl⟩
  rw [hn] at c1 hi hd ⊢
  have h0 : (0 : Int) ≤ a := by omega
  have h8 : a % 8 = 0 := by omega
  have h1 : 1048576 ≤ a := by omega
  have h2 : a ≤ 1081344 := by omega
  have e4 : (a - 1048576) / 8 = (i : Int) := by omega
  have e3 : (a - 1048576).tdiv 8 = (i : Int) := by rw [Int.tdiv_eq_ediv_of_nonneg (by omega)]; omega
  have e5 : a - 1048576 < 8 * (n : Int) := by omega
  clear h hn ha
  go_enter Tryd.func55, Tryd.ntmps55
  go_wp2
  go_ret3
  exact ⟨rfl, rfl⟩

set_option maxRecDepth 100000 in
set_option maxHeartbeats 4000000 in
theorem place_S (h : XV B w b M t D Sk vd vs g cap ev us) {i : Nat} (hi : i < Sk.length) {a : Int} (ha : a = 2097152 + 8 * (i : Int)) :
    Calls Tryd.prog 55 #[.pointer (some ⟨b, 0, none⟩), .int .i64 a] w fun e w' => e = .returned (.tuple #[vs, .int .i64 i, .bool true]) ∧ w' = w := by
  have c1 := h.c1
  have c2 := h.c2
  obtain ⟨ad, cd, hv, -⟩ := own_sl h.dat
  obtain ⟨a2, c2', hv2, -⟩ := own_sl h.stk
  have hd := h.dl
  have hd2 := h.sl
  subst hv
  subst hv2
  obtain ⟨n, hn⟩ : ∃ n, D.length = n := ⟨_, rfl⟩
  obtain ⟨m, hm⟩ : ∃ m, Sk.length = m := ⟨_, rfl⟩
  rw [hn] at c1 hd
  rw [hm] at c2 hi hd2 ⊢
  have h0 : (0 : Int) ≤ a := by omega
  have h8 : a % 8 = 0 := by omega
  have h1 : 1048576 ≤ a := by omega
  have h1' : 2097152 ≤ a := by omega
  have h2 : a ≤ 2359296 := by omega
  have e4 : (a - 2097152) / 8 = (i : Int) := by omega
  have e3 : (a - 2097152).tdiv 8 = (i : Int) := by rw [Int.tdiv_eq_ediv_of_nonneg (by omega)]; omega
  have e5 : ¬ a - 1048576 < 8 * (n : Int) := by omega
  have e6 : a - 2097152 < 8 * (m : Int) := by omega
  clear h hn hm ha
  go_enter Tryd.func55, Tryd.ntmps55
  go_wp2
  go_ret3
  exact ⟨rfl, rfl⟩

set_option maxRecDepth 100000 in
set_option maxHeartbeats 4000000 in
theorem place_no (h : XV B w b M t D Sk vd vs g cap ev us) {a : Int} (haw : (Lit.int .i64 a).wf = true) (hno : ¬ a % 8 = 0 ∨ (¬ (1048576 ≤ a ∧ a < 1048576 + 8 * (D.length : Int)) ∧ ¬ (2097152 ≤ a ∧ a < 2097152 + 8 * (Sk.length : Int)))) :
    Calls Tryd.prog 55 #[.pointer (some ⟨b, 0, none⟩), .int .i64 a] w fun e w' => e = .returned (.tuple #[.slice none 0 0, .int .i64 0, .bool false]) ∧ w' = w := by
  have c1 := h.c1
  have c2 := h.c2
  obtain ⟨ad, cd, hv, -⟩ := own_sl h.dat
  obtain ⟨a2, c2', hv2, -⟩ := own_sl h.stk
  have hd := h.dl
  have hd2 := h.sl
  subst hv
  subst hv2
  obtain ⟨n, hn⟩ : ∃ n, D.length = n := ⟨_, rfl⟩
  obtain ⟨m, hm⟩ : ∃ m, Sk.length = m := ⟨_, rfl⟩
  rw [hn] at c1 hd hno
  rw [hm] at c2 hd2 hno
  obtain ⟨hlo, hhi⟩ := wf_bounds haw
  clear h hn hm
  by_cases h0 : a < 0
  · clear hno
    go_enter Tryd.func55, Tryd.ntmps55
    go_wp2
    go_ret3
    exact ⟨rfl, rfl⟩
  have h0' : (0 : Int) ≤ a := by omega
  by_cases h8 : a % 8 = 0
  · have hno2 : ¬ (1048576 ≤ a ∧ a < 1048576 + 8 * (n : Int)) ∧ ¬ (2097152 ≤ a ∧ a < 2097152 + 8 * (m : Int)) := by omega
    clear hno
    by_cases h1 : a < 1048576
    · have h2 : a < 2097152 := by omega
      clear hno2
      go_enter Tryd.func55, Tryd.ntmps55
      go_wp2
      go_ret3
      exact ⟨rfl, rfl⟩
    · have h1' : 1048576 ≤ a := by omega
      have e5 : ¬ a - 1048576 < 8 * (n : Int) := by omega
      by_cases h2 : a < 2097152
      · clear hno2
        go_enter Tryd.func55, Tryd.ntmps55
        go_wp2
        go_ret3
        exact ⟨rfl, rfl⟩
      · have h2' : 2097152 ≤ a := by omega
        have e6 : ¬ a - 2097152 < 8 * (m : Int) := by omega
        clear hno2
        go_enter Tryd.func55, Tryd.ntmps55
        go_wp2
        go_ret3
        exact ⟨rfl, rfl⟩
  · clear hno
    go_enter Tryd.func55, Tryd.ntmps55
    go_wp2
    go_ret3
    exact ⟨rfl, rfl⟩

/-- A word of a row. -/
theorem row_word {w : World} {B n : Nat} {v : Value} {l : List Int} (o : w.ownsRow B 2 1 v n (intR l)) (hn : n = l.length) {i : Nat} (hi : i < n) : ∃ x c, v = .slice (some ⟨x, 0, none⟩) n c ∧ n ≤ c ∧ c ≤ maxLen ∧ w.cell? ⟨x, i, none⟩ = some (.int .i64 (l.getD i 0)) ∧ w.frozen? ⟨x, i, none⟩ = false := by
  rcases o.2 with ⟨-, h0⟩ | ⟨x, c, cur, rfl, h1, h2, h3, h4, -⟩
  · omega
  · refine ⟨x, c, rfl, h3, h4, ?_, o.frozenAt i⟩
    rw [o.cellAt i (by omega)]
    exact intR_at (by omega)

set_option maxRecDepth 100000 in
set_option maxHeartbeats 4000000 in
theorem xword_any (h : XV B w b M t D Sk vd vs g cap ev us) {a : Int} (haw : (Lit.int .i64 a).wf = true) :
    Calls Tryd.prog 58 #[.pointer (some ⟨b, 0, none⟩), .int .i64 a] w fun e w' => e = .returned (.tuple #[.int .i64 ((M.mem a).getD 0), .int .i64 (T.er (M.mem a))]) ∧ w' = w := by
  rcases T.memoOf_cases D Sk a with ⟨i, hi, ha⟩ | ⟨i, hi, ha⟩ | hno
  · have hm : M.mem a = some (D.getD i 0) := by rw [h.mem, ha]; exact T.memoOf_D hi
    rw [hm]
    have HP : Hid _ := place_D h hi ha
    obtain ⟨x, c, rfl, hc1, hc2, d0, -⟩ := row_word h.dat rfl hi
    unfold maxLen at hc2
    have hdl := h.dl
    obtain ⟨n, hn⟩ : ∃ n, D.length = n := ⟨_, rfl⟩
    rw [hn] at hi hc1 HP hdl
    obtain ⟨z, hz⟩ : ∃ z, D.getD i 0 = z := ⟨_, rfl⟩
    rw [hz] at d0 ⊢
    have i1 : (i : Int) < (n : Int) := by omega
    have i0 : (0 : Int) ≤ (i : Int) := by omega
    clear h hm hn hz ha haw
    go_enter Tryd.func58, Tryd.ntmps58
    go_wp2_with fail
    refine Calls.mono HP.out ?_
    rintro e y ⟨rfl, rfl⟩
    go_wp2
    go_ret2
    exact ⟨rfl, rfl⟩
  · have hm : M.mem a = some (Sk.getD i 0) := by rw [h.mem, ha]; exact T.memoOf_S hi h.dl
    rw [hm]
    have HP : Hid _ := place_S h hi ha
    obtain ⟨x, c, rfl, hc1, hc2, d0, -⟩ := row_word h.stk rfl hi
    unfold maxLen at hc2
    have hdl := h.sl
    obtain ⟨n, hn⟩ : ∃ n, Sk.length = n := ⟨_, rfl⟩
    rw [hn] at hi hc1 HP hdl
    obtain ⟨z, hz⟩ : ∃ z, Sk.getD i 0 = z := ⟨_, rfl⟩
    rw [hz] at d0 ⊢
    have i1 : (i : Int) < (n : Int) := by omega
    have i0 : (0 : Int) ≤ (i : Int) := by omega
    clear h hm hn hz ha haw
    go_enter Tryd.func58, Tryd.ntmps58
    go_wp2_with fail
    refine Calls.mono HP.out ?_
    rintro e y ⟨rfl, rfl⟩
    go_wp2
    go_ret2
    exact ⟨rfl, rfl⟩
  · have hm : M.mem a = none := by rw [h.mem]; exact T.memoOf_no hno
    rw [hm]
    have HP : Hid _ := place_no h haw hno
    clear h hm hno haw
    go_enter Tryd.func58, Tryd.ntmps58
    go_wp2_with fail
    refine Calls.mono HP.out ?_
    rintro e y ⟨rfl, rfl⟩
    go_wp2
    go_ret2
    exact ⟨rfl, rfl⟩

/-- The document's machine has become this one. -/
def XGone (B : Nat) (w w' : World) (b : Nat) (M : T.Mach) (t : Nat → Nat) (vd vs : Value) (g cap : Nat) : Prop := ∃ t' D' S' ev' us', XV B w' b M t' D' S' vd vs g cap ev' us' ∧ St t t' w w'

set_option maxRecDepth 100000 in
set_option maxHeartbeats 4000000 in
theorem xset_any (h : XV B w b M t D Sk vd vs g cap ev us) {a : Int} (haw : (Lit.int .i64 a).wf = true) (v : Int) :
    Calls Tryd.prog 39 #[.pointer (some ⟨b, 0, none⟩), .int .i64 a, .int .i64 v] w fun e w' => e = .returned (.tuple #[]) ∧ ∃ D' S', XV B w' b { M with mem := T.upd M.mem a v } t D' S' vd vs g cap ev us ∧ St t t w w' := by
  rcases T.memoOf_cases D Sk a with ⟨i, hi, ha⟩ | ⟨i, hi, ha⟩ | hno
  · have HP : Hid _ := place_D h hi ha
    obtain ⟨x, c, hvd, hc1, hc2, d0, f0⟩ := row_word h.dat rfl hi
    have HX : Hid _ := h.setD hvd hi v
    rw [← ha] at HX
    subst hvd
    unfold maxLen at hc2
    have hdl := h.dl
    obtain ⟨n, hn⟩ : ∃ n, D.length = n := ⟨_, rfl⟩
    rw [hn] at hi hc1 HP hdl HX
    have i1 : (i : Int) < (n : Int) := by omega
    have i0 : (0 : Int) ≤ (i : Int) := by omega
    rw [hn]
    clear h hn ha haw
    go_enter Tryd.func39, Tryd.ntmps39
    go_wp2_with fail
    refine Calls.mono HP.out ?_
    rintro e y ⟨rfl, rfl⟩
    go_wp2
    go_end0
    exact ⟨rfl, _, _, HX.out.1, HX.out.2⟩
  · have HP : Hid _ := place_S h hi ha
    obtain ⟨x, c, hvd, hc1, hc2, d0, f0⟩ := row_word h.stk rfl hi
    have HX : Hid _ := h.setS hvd hi v
    rw [← ha] at HX
    subst hvd
    unfold maxLen at hc2
    have hdl := h.sl
    obtain ⟨n, hn⟩ : ∃ n, Sk.length = n := ⟨_, rfl⟩
    rw [hn] at hi hc1 HP hdl HX
    have i1 : (i : Int) < (n : Int) := by omega
    have i0 : (0 : Int) ≤ (i : Int) := by omega
    rw [hn]
    clear h hn ha haw
    go_enter Tryd.func39, Tryd.ntmps39
    go_wp2_with fail
    refine Calls.mono HP.out ?_
    rintro e y ⟨rfl, rfl⟩
    go_wp2
    go_end0
    exact ⟨rfl, _, _, HX.out.1, HX.out.2⟩
  · have hm : M.mem a = none := by rw [h.mem]; exact T.memoOf_no hno
    have HP : Hid _ := place_no h haw hno
    have HX : Hid (XV B w b { M with mem := T.upd M.mem a v } t D Sk vd vs g cap ev us) := by
      show XV _ _ _ _ _ _ _ _ _ _ _ _ _
      rw [T.upd_nil hm]
      exact h
    clear h hm hno haw
    go_enter Tryd.func39, Tryd.ntmps39
    go_wp2_with fail
    refine Calls.mono HP.out ?_
    rintro e y ⟨rfl, rfl⟩
    go_wp2
    go_end0
    exact ⟨rfl, _, _, HX.out, St.refl _ _⟩

end

end Go.Proofs.YtffokdldgdjkhaaDoor.X

/- The document's machine: a thread's registers, a row that waits, an event. (Written by gen_xregs.py.) -/
namespace Go.Proofs.YtffokdldgdjkhaaDoor.X
open Go.RowKit Go.Maps
set_option linter.unusedVariables false
set_option linter.unusedSimpArgs false

theorem tA {l : List Oper} {i : Nat} {y : Oper} (h : l[i]? = some y) : (List.toArray l)[i]? = some y := by simpa using h
/-- An operation that yields the same in every world that meets S is taken first. -/
theorem tk {P : Program} {ops : Array Oper} {Q : Exit → Act → World → Prop} {md : Region.Mode} {S : World → Prop} {i : Nat} {oi : Oper} {v : Value} {fuel : Nat} {listed : Array Bool} {a : Act} {w : World} (hi : ops[i]? = some oi) (hb : (Region.noSelect ops && (Region.free md ops listed i && (Region.ready md ops listed).contains i)) = true)
    (hQ : ∀ c a w, Q (.panic c) (a.put oi.dst v) w → Q (.panic c) a w) (hy : YieldsIf P ops S oi v a) (hS : S w) (h : wpAnyH P md ops Q S fuel (listed.setIfInBounds i true) (a.put oi.dst v) w) : wpAnyH P md ops Q S (fuel + 1) listed a w :=
  wpAnyH_take hi (Bool.and_eq_true_iff.1 hb).1 (Bool.and_eq_true_iff.1 (Bool.and_eq_true_iff.1 hb).2).1 (Bool.and_eq_true_iff.1 (Bool.and_eq_true_iff.1 hb).2).2 hQ hy hS h
section
variable {B : Nat} {w w' : World} {b : Nat} {M : T.Mach} {t t' : Nat → Nat} {D Sk : List Int} {vd vs : Value} {g cap : Nat} {ev : Value} {us : List Value}
/-- One of a thread's registers was stored over. -/
theorem XV.reg {k : Nat} {u : Value} {h' : T.Th} (h : XV B w b M t D Sk vd vs g cap ev us) (hk : k < M.ts.length) (hu : us[k]? = some u) (j : Nat) (v : Value) (hj : j < 12) (hw : h'.ws = (M.th k).ws) (hc : xC h' u = (xC (M.th k) u).set j v) :
    XV B (w.setCell ⟨g, k * 12 + j, none⟩ v) b (M.put k M.mem h') t D Sk vd vs g cap ev us ∧ St t t w (w.setCell ⟨g, k * 12 + j, none⟩ v) := by
  have hg := gb_set w ⟨g, k * 12 + j, none⟩ v
  have hne : ∀ q, q < w.heap.size → t q ≠ 4 → (w.setCell ⟨g, k * 12 + j, none⟩ v).heap[q]? = w.heap[q]? := fun q hq h3 => hg.block q hq (fun e => h3 (by cases e; exact h.tg))
  have H := h.thr (w' := w.setCell ⟨g, k * 12 + j, none⟩ v) (t' := t) (h' := h') (u' := u) hk (fun q hq h3 _ => hne q hq h3) hg.size ?_ ?_ ?_ ?_ (fun x hx => h.tw k u x hu hx) (fun _ _ => rfl) (fun q hq => ⟨(h.lt q hq).1, by rw [World.size_setCell]; exact (h.lt q hq).2⟩)
  · rw [set_same hu] at H
    exact ⟨H, St.ofGrown hg (by show t g ≠ 0; rw [h.tg]; decide) (fun _ _ => rfl)⟩
  · intro i x hx
    rw [hc] at hx
    by_cases e : j = i
    · subst e
      rw [List.getElem?_set_self (by rw [xC_len]; exact hj)] at hx
      cases hx
      refine World.cell?_setCell_same' _ _ _ ?_
      obtain ⟨y, hy⟩ : ∃ y, (xC (M.th k) u)[j]? = some y := ⟨_, List.getElem?_eq_getElem (by rw [xC_len]; exact hj)⟩
      rw [h.cell hk hu j y hy]
      rfl
    · rw [List.getElem?_set_ne e] at hx
      rw [World.cell?_setCell_other _ _ _ _ (off_ne (by omega))]
      exact h.cell hk hu i x hx
  · intro o ho
    exact World.cell?_setCell_other _ _ _ _ (off_ne (by omega))
  · intro o
    rw [World.frozen?_setCell]
    exact h.gz o
  · rw [hw]
    exact (h.ws k _ u (T.th_at hk) hu).kept hg (.inr fun e => by have h1 := h.tw k u _ hu e; have h2 := h.tg; simp only at h1; omega)
theorem XV.reg1 {k : Nat} {u : Value} {x x' : S.C} {ws : List T.Wait} (h : XV B w b (M.put k M.mem ⟨x, ws⟩) t D Sk vd vs g cap ev us) (hk : k < M.ts.length) (hu : us[k]? = some u) (j : Nat) (v : Value) (hj : j < 12) (hc : xC ⟨x', ws⟩ u = (xC ⟨x, ws⟩ u).set j v) :
    XV B (w.setCell ⟨g, k * 12 + j, none⟩ v) b (M.put k M.mem ⟨x', ws⟩) t D Sk vd vs g cap ev us ∧ St t t w (w.setCell ⟨g, k * 12 + j, none⟩ v) := by
  have f := T.th_put hk M.mem ⟨x, ws⟩
  obtain ⟨q, a⟩ := h.reg (h' := ⟨x', ws⟩) (by rw [T.len_put]; exact hk) hu j v hj (by rw [f]) (by rw [f]; exact hc)
  rw [T.put_put] at q
  exact ⟨q, a⟩
/-- All of a thread's registers were stored over. -/
theorem XV.regs {k p : Nat} (h : XV B w b M t D Sk vd vs g cap ev us) (hk : k < M.ts.length) (hp : p = k * 12) (d : S.C) :
    XV B (((((((((((w.setCell ⟨g, p, none⟩ (.int .i64 d.r0)).setCell ⟨g, p + 1, none⟩ (.int .i64 d.r1)).setCell ⟨g, p + 2, none⟩ (.int .i64 d.r2)).setCell ⟨g, p + 3, none⟩ (.int .i64 d.r3)).setCell ⟨g, p + 4, none⟩ (.int .i64 d.r4)).setCell ⟨g, p + 5, none⟩ (.int .i64 d.r5)).setCell ⟨g, p + 6, none⟩ (.int .i64 d.r6)).setCell ⟨g, p + 7, none⟩ (.int .i64 d.r7)).setCell ⟨g, p + 8, none⟩ (.int .i64 d.pc)).setCell ⟨g, p + 9, none⟩ (.int .i64 d.st)).setCell ⟨g, p + 10, none⟩ (.int .i64 d.tr)) b (T.setC M k d) t D Sk vd vs g cap ev us ∧ St t t w (((((((((((w.setCell ⟨g, p, none⟩ (.int .i64 d.r0)).setCell ⟨g, p + 1, none⟩ (.int .i64 d.r1)).setCell ⟨g, p + 2, none⟩ (.int .i64 d.r2)).setCell ⟨g, p + 3, none⟩ (.int .i64 d.r3)).setCell ⟨g, p + 4, none⟩ (.int .i64 d.r4)).setCell ⟨g, p + 5, none⟩ (.int .i64 d.r5)).setCell ⟨g, p + 6, none⟩ (.int .i64 d.r6)).setCell ⟨g, p + 7, none⟩ (.int .i64 d.r7)).setCell ⟨g, p + 8, none⟩ (.int .i64 d.pc)).setCell ⟨g, p + 9, none⟩ (.int .i64 d.st)).setCell ⟨g, p + 10, none⟩ (.int .i64 d.tr)) := by
  subst hp
  obtain ⟨u, hu⟩ := h.u hk
  have s0 : St t t w w := St.refl t w
  have e0 : M.th k = ⟨(M.th k).c, (M.th k).ws⟩ := rfl
  have q0 : XV B w b (M.put k M.mem ⟨(M.th k).c, (M.th k).ws⟩) t D Sk vd vs g cap ev us := by rw [← e0, T.put_same hk]; exact h
  obtain ⟨q1, a1⟩ := q0.reg1 (x' := ⟨d.r0, (M.th k).c.r1, (M.th k).c.r2, (M.th k).c.r3, (M.th k).c.r4, (M.th k).c.r5, (M.th k).c.r6, (M.th k).c.r7, (M.th k).c.pc, (M.th k).c.st, (M.th k).c.tr⟩) hk hu 0 (.int .i64 d.r0) (by decide) rfl
  have s1 := s0.trans a1
  obtain ⟨q2, a2⟩ := q1.reg1 (x' := ⟨d.r0, d.r1, (M.th k).c.r2, (M.th k).c.r3, (M.th k).c.r4, (M.th k).c.r5, (M.th k).c.r6, (M.th k).c.r7, (M.th k).c.pc, (M.th k).c.st, (M.th k).c.tr⟩) hk hu 1 (.int .i64 d.r1) (by decide) rfl
  have s2 := s1.trans a2
  obtain ⟨q3, a3⟩ := q2.reg1 (x' := ⟨d.r0, d.r1, d.r2, (M.th k).c.r3, (M.th k).c.r4, (M.th k).c.r5, (M.th k).c.r6, (M.th k).c.r7, (M.th k).c.pc, (M.th k).c.st, (M.th k).c.tr⟩) hk hu 2 (.int .i64 d.r2) (by decide) rfl
  have s3 := s2.trans a3
  obtain ⟨q4, a4⟩ := q3.reg1 (x' := ⟨d.r0, d.r1, d.r2, d.r3, (M.th k).c.r4, (M.th k).c.r5, (M.th k).c.r6, (M.th k).c.r7, (M.th k).c.pc, (M.th k).c.st, (M.th k).c.tr⟩) hk hu 3 (.int .i64 d.r3) (by decide) rfl
  have s4 := s3.trans a4
  obtain ⟨q5, a5⟩ := q4.reg1 (x' := ⟨d.r0, d.r1, d.r2, d.r3, d.r4, (M.th k).c.r5, (M.th k).c.r6, (M.th k).c.r7, (M.th k).c.pc, (M.th k).c.st, (M.th k).c.tr⟩) hk hu 4 (.int .i64 d.r4) (by decide) rfl
  have s5 := s4.trans a5
  obtain ⟨q6, a6⟩ := q5.reg1 (x' := ⟨d.r0, d.r1, d.r2, d.r3, d.r4, d.r5, (M.th k).c.r6, (M.th k).c.r7, (M.th k).c.pc, (M.th k).c.st, (M.th k).c.tr⟩) hk hu 5 (.int .i64 d.r5) (by decide) rfl
  have s6 := s5.trans a6
  obtain ⟨q7, a7⟩ := q6.reg1 (x' := ⟨d.r0, d.r1, d.r2, d.r3, d.r4, d.r5, d.r6, (M.th k).c.r7, (M.th k).c.pc, (M.th k).c.st, (M.th k).c.tr⟩) hk hu 6 (.int .i64 d.r6) (by decide) rfl
  have s7 := s6.trans a7
  obtain ⟨q8, a8⟩ := q7.reg1 (x' := ⟨d.r0, d.r1, d.r2, d.r3, d.r4, d.r5, d.r6, d.r7, (M.th k).c.pc, (M.th k).c.st, (M.th k).c.tr⟩) hk hu 7 (.int .i64 d.r7) (by decide) rfl
  have s8 := s7.trans a8
  obtain ⟨q9, a9⟩ := q8.reg1 (x' := ⟨d.r0, d.r1, d.r2, d.r3, d.r4, d.r5, d.r6, d.r7, d.pc, (M.th k).c.st, (M.th k).c.tr⟩) hk hu 8 (.int .i64 d.pc) (by decide) rfl
  have s9 := s8.trans a9
  obtain ⟨q10, a10⟩ := q9.reg1 (x' := ⟨d.r0, d.r1, d.r2, d.r3, d.r4, d.r5, d.r6, d.r7, d.pc, d.st, (M.th k).c.tr⟩) hk hu 9 (.int .i64 d.st) (by decide) rfl
  have s10 := s9.trans a10
  obtain ⟨q11, a11⟩ := q10.reg1 (x' := ⟨d.r0, d.r1, d.r2, d.r3, d.r4, d.r5, d.r6, d.r7, d.pc, d.st, d.tr⟩) hk hu 10 (.int .i64 d.tr) (by decide) rfl
  have s11 := s10.trans a11
  exact ⟨q11, s11⟩
/-- A thread's row of waiting stores is another one, or has others in it. -/
theorem XV.wait (h : XV B w b M t D Sk vd vs g cap ev us) {k : Nat} (hk : k < M.ts.length) {u u' : Value} (hu : us[k]? = some u) {X Y : World} (hb1 : Below w.heap.size w X) {ws' : List T.Wait} {r : Option Nat}
    (ho : Y.ownsRow B 94 2 u' ws'.length (ws'.flatMap wC)) (hg : X.grownBy Y r) (hr : r = none ∨ r = u.ownBlock) (hat : ∀ x, u'.ownBlock = some x → u.ownBlock = some x ∨ w.heap.size ≤ x) :
    XV B (Y.setCell ⟨g, k * 12 + 11, none⟩ u') b (M.put k M.mem ⟨(M.th k).c, ws'⟩) (markO t u' (6 + k)) D Sk vd vs g cap ev (us.set k u') ∧ St t (markO t u' (6 + k)) w (Y.setCell ⟨g, k * 12 + 11, none⟩ u') := by
  have hs : w.heap.size ≤ Y.heap.size := Nat.le_trans hb1.size hg.size
  have hgl := h.gl
  have hgr : ∀ q, some q = r → u.ownBlock = some q := fun q e => by
    rcases hr with rfl | rfl
    · cases e
    · exact e.symm
  have htag : ∀ q, q < w.heap.size → markO t u' (6 + k) q = t q := fun q hq => by
    unfold markO
    by_cases e : u'.ownBlock = some q
    · rw [if_pos e]
      rcases hat q e with h1 | h1
      · exact (h.tw k u q hu h1).symm
      · omega
    · rw [if_neg e]
  have evb : u.ownBlock ≠ some g := fun e => by have h1 := h.tw k u g hu e; have h2 := h.tg; omega
  have evb' : u'.ownBlock ≠ some g := fun e => by
    rcases hat g e with h1 | h1
    · exact evb h1
    · omega
  have hgs := gb_set Y ⟨g, k * 12 + 11, none⟩ u'
  have hold : ∀ q, q < w.heap.size → t q ≠ 4 → t q ≠ 6 + k → (Y.setCell ⟨g, k * 12 + 11, none⟩ u').heap[q]? = w.heap[q]? := fun q hq h1 h4 =>
    (hgs.block q (Nat.lt_of_lt_of_le hq hs) (fun e => h1 (by cases e; exact h.tg))).trans ((hg.block q (Nat.lt_of_lt_of_le hq hb1.size) (fun e => h4 (h.tw k u q hu (hgr q e)))).trans (hb1.block q hq))
  have hYb : Y.heap[g]? = w.heap[g]? := (hg.block g (Nat.lt_of_lt_of_le hgl hb1.size) (fun e => evb (hgr g e))).trans (hb1.block g hgl)
  have hcY : ∀ o, Y.cell? ⟨g, o, none⟩ = w.cell? ⟨g, o, none⟩ := fun o => World.cell?_of_block (a := ⟨g, o, none⟩) hYb
  refine ⟨h.thr hk hold (by rw [World.size_setCell]; exact hs) ?_ ?_ ?_ ?_ ?_ htag ?_, ⟨htag, fun q hq h0 => hold q hq (by rw [h0]; decide) (by rw [h0]; omega), by rw [World.size_setCell]; exact hs, hg.os.trans hb1.os, hg.tape.trans hb1.tape, hg.output.trans hb1.output⟩⟩
  · intro i x hx
    by_cases e : i = 11
    · subst e
      have : x = u' := by simpa [xC] using hx.symm
      subst this
      exact World.cell?_setCell_same' _ _ _ (by rw [hcY, h.cell hk hu 11 _ rfl]; rfl)
    · have hi : i < 12 := (List.getElem?_eq_some_iff.1 hx).1
      rw [World.cell?_setCell_other _ _ _ _ (off_ne (by omega)), hcY]
      refine h.cell hk hu i x ?_
      rw [← hx]
      match i, hi, e with
      | 0, _, _ => rfl
      | 1, _, _ => rfl
      | 2, _, _ => rfl
      | 3, _, _ => rfl
      | 4, _, _ => rfl
      | 5, _, _ => rfl
      | 6, _, _ => rfl
      | 7, _, _ => rfl
      | 8, _, _ => rfl
      | 9, _, _ => rfl
      | 10, _, _ => rfl
      | 11, _, e => exact absurd rfl e
  · intro o ho
    rw [World.cell?_setCell_other _ _ _ _ (off_ne (by omega))]
    exact hcY o
  · intro o
    rw [World.frozen?_setCell]
    exact blk_froz (p := ⟨g, o, none⟩) hYb (h.gz o)
  · exact ho.kept hgs (.inr evb')
  · intro y hy
    exact if_pos hy
  · intro q hq
    rw [World.size_setCell]
    unfold markO at hq
    by_cases e : u'.ownBlock = some q
    · exact ho.lt q e
    · rw [if_neg e] at hq
      exact ⟨(h.lt q hq).1, Nat.lt_of_lt_of_le (h.lt q hq).2 hs⟩
/-- An event is kept. -/
theorem XV.saw (h : XV B w b M t D Sk vd vs g cap ev us) {X Y : World} {k x cp : Nat} {a n : Int} (hb1 : Below w.heap.size w X)
    (ho : Y.ownsRow B 101 3 (.slice (some ⟨x, 0, none⟩) (M.es.length + 1) cp) (M.es.length + 1) (M.es.flatMap eC ++ eC ((k : Int), a, n))) (hg : X.grownBy Y ev.ownBlock) (hat : ev.ownBlock = some x ∨ w.heap.size ≤ x) :
    XV B (Y.setCell ⟨b, 4, none⟩ (.slice (some ⟨x, 0, none⟩) (M.es.length + 1) cp)) b (M.see k a n) (mark t x 5) D Sk vd vs g cap (.slice (some ⟨x, 0, none⟩) (M.es.length + 1) cp) us ∧ St t (mark t x 5) w (Y.setCell ⟨b, 4, none⟩ (.slice (some ⟨x, 0, none⟩) (M.es.length + 1) cp)) := by
  have hxl := ho.lt x rfl
  have hs : w.heap.size ≤ Y.heap.size := Nat.le_trans hb1.size hg.size
  have hbl := h.bl
  have htag : ∀ q, q < w.heap.size → mark t x 5 q = t q := fun q hq => by
    unfold mark
    by_cases e : q = x
    · subst e
      rw [if_pos rfl]
      rcases hat with h1 | h1
      · exact (h.te q h1).symm
      · omega
    · rw [if_neg e]
  have evb : ev.ownBlock ≠ some b := fun e => by have h1 := h.te b e; have h2 := h.tb; omega
  have hgs := gb_set Y ⟨b, 4, none⟩ (.slice (some ⟨x, 0, none⟩) (M.es.length + 1) cp)
  have hold : ∀ q, q < w.heap.size → t q ≠ 1 → t q ≠ 5 → (Y.setCell ⟨b, 4, none⟩ (.slice (some ⟨x, 0, none⟩) (M.es.length + 1) cp)).heap[q]? = w.heap[q]? := fun q hq h1 h4 =>
    (hgs.block q (Nat.lt_of_lt_of_le hq hs) (fun e => h1 (by cases e; exact h.tb))).trans ((hg.block q (Nat.lt_of_lt_of_le hq hb1.size) (fun e => h4 (h.te q e.symm))).trans (hb1.block q hq))
  have hYb : Y.heap[b]? = w.heap[b]? := (hg.block b (Nat.lt_of_lt_of_le hbl hb1.size) (fun e => evb e.symm)).trans (hb1.block b hbl)
  have hcY : ∀ o, Y.cell? ⟨b, o, none⟩ = w.cell? ⟨b, o, none⟩ := fun o => World.cell?_of_block (a := ⟨b, o, none⟩) hYb
  have hxb : x ≠ b := by
    rintro rfl
    rcases hat with h1 | h1
    · exact evb h1
    · omega
  refine ⟨h.event hold (by rw [World.size_setCell]; exact hs) ?_ ?_ ?_ ?_ ?_ htag ?_, ⟨htag, fun q hq h0 => hold q hq (by rw [h0]; decide) (by rw [h0]; decide), by rw [World.size_setCell]; exact hs, hg.os.trans hb1.os, hg.tape.trans hb1.tape, hg.output.trans hb1.output⟩⟩
  · exact World.cell?_setCell_same' _ _ _ (by rw [hcY, h.c4]; rfl)
  · intro o ho
    rw [World.cell?_setCell_other _ _ _ _ (off_ne (fun e => ho e.symm))]
    exact hcY o
  · intro o
    rw [World.frozen?_setCell]
    exact blk_froz (p := ⟨b, o, none⟩) hYb (h.fz o)
  · exact ho.kept hgs (.inr fun e => by cases e; exact hxb rfl)
  · intro y hy
    cases hy
    exact mark_at _ _ _
  · intro q hq
    rw [World.size_setCell]
    unfold mark at hq
    by_cases e : q = x
    · subst e; exact hxl
    · rw [if_neg e] at hq
      exact ⟨(h.lt q hq).1, Nat.lt_of_lt_of_le (h.lt q hq).2 hs⟩
end

end Go.Proofs.YtffokdldgdjkhaaDoor.X

/- The document's machine: the oldest store leaves; all leave; what a thread sees. -/
namespace Go.Proofs.YtffokdldgdjkhaaDoor.X
open Go.RowKit Go.Maps
set_option linter.unusedVariables false
set_option linter.unusedSimpArgs false

section
variable {B : Nat} {w : World} {b : Nat} {M : T.Mach} {t : Nat → Nat} {D Sk : List Int} {vd vs : Value} {g cap : Nat} {ev : Value} {us : List Value}

set_option maxRecDepth 100000 in
set_option maxHeartbeats 4000000 in
theorem xleave_no (h : XV B w b M t D Sk vd vs g cap ev us) {k : Nat} (hk : k < M.ts.length) (he : (M.th k).ws = []) :
    Calls Tryd.prog 19 #[.pointer (some ⟨b, 0, none⟩), .int .i64 k] w fun e w' => e = .returned (.bool false) ∧ w' = w := by
  obtain ⟨u, hu⟩ := h.u hk
  have d11 := h.cell hk hu 11 _ rfl
  have hr := h.ws k _ u (T.th_at hk) hu
  rw [he] at hr
  obtain ⟨a, c, rfl, hnc, hcm⟩ := own_sl hr
  simp only [List.length_nil] at d11
  have c3 := h.c3
  have hro := h.room
  obtain ⟨n, hn⟩ : ∃ n, M.ts.length = n := ⟨_, rfl⟩
  rw [hn] at c3 hro hk
  obtain ⟨r1, r2, r3, r4⟩ := hro
  unfold maxLen at r2
  have i1 : (k : Int) < (n : Int) := by omega
  have i0 : (0 : Int) ≤ (k : Int) := by omega
  clear h hr hu hn
  go_enter Tryd.func19, Tryd.ntmps19
  go_wp2
  go_ret
  exact ⟨rfl, rfl⟩

set_option maxRecDepth 100000 in
set_option maxHeartbeats 4000000 in
theorem xleave_yes (h : XV B w b M t D Sk vd vs g cap ev us) {k : Nat} (hk : k < M.ts.length) {y v : Int} {r : List T.Wait} (he : (M.th k).ws = (y, v) :: r) (hy : (Lit.int .i64 y).wf = true) (hr8 : r.length ≤ 1000) :
    Calls Tryd.prog 19 #[.pointer (some ⟨b, 0, none⟩), .int .i64 k] w fun e w' => e = .returned (.bool true) ∧ XGone B w w' b (M.put k (T.upd M.mem y v) ⟨(M.th k).c, r⟩) t vd vs g cap := by
  obtain ⟨u, hu⟩ := h.u hk
  have d11 := h.cell hk hu 11 _ rfl
  have hr := h.ws k _ u (T.th_at hk) hu
  rw [he] at hr
  obtain ⟨a, c, rfl, hnc, hcm⟩ := own_sl hr
  rcases hr.2 with ⟨hn, -⟩ | ⟨x, c', cur, hsl, -⟩
  · cases hn
  obtain ⟨rfl, -, rfl⟩ : a = some ⟨x, 0, none⟩ ∧ True ∧ c = c' := by cases hsl; exact ⟨rfl, trivial, rfl⟩
  have x0 := hr.cellAt 0 (by simp)
  have x1 := hr.cellAt 1 (by simp; omega)
  simp only [List.length_cons, List.flatMap_cons, wC] at d11 x0 x1 hnc hr
  simp at x0 x1
  have c3 := h.c3
  have hro := h.room
  obtain ⟨n, hn⟩ : ∃ n, M.ts.length = n := ⟨_, rfl⟩
  have HTL : Hid (M.ts.length = n) := hn
  rw [hn] at c3 hro hk
  obtain ⟨r1, r2, r3, r4⟩ := hro
  unfold maxLen at r2 hcm
  have i1 : (k : Int) < (n : Int) := by omega
  have i0 : (0 : Int) ≤ (k : Int) := by omega
  obtain ⟨iw, hiw, hp0, hp1, hp2⟩ := info_partsL infoW
  have HV : Hid (XV B w b M t D Sk vd vs g cap ev us) := h
  have HV1 : Hid (XV B w.drew b M t D Sk vd vs g cap ev us) := h.below (Below.refl _ _).drew
  have HE : Hid ((M.th k).ws = (y, v) :: r) := he
  have HU : Hid (us[k]? = some (.slice (some ⟨x, 0, none⟩) (r.length + 1) c)) := hu
  have HKK : Hid (∀ (y2 : World) (D' S' : List Int), XV B y2 b { M with mem := T.upd M.mem y v } t D' S' vd vs g cap ev us → y2.cell? ⟨x, 0, none⟩ = some (.int .i64 y) ∧ y2.cell? ⟨x, 1, none⟩ = some (.int .i64 v) ∧ y2.ownsRow B 94 2 (.slice (some ⟨x, 0, none⟩) (r.length + 1) c) (r.length + 1) ([.int .i64 y, .int .i64 v] ++ r.flatMap wC)) := fun y2 D' S' hv => by
    have h1 : y2.ownsRow B 94 2 (.slice (some ⟨x, 0, none⟩) (r.length + 1) c) (r.length + 1) ([.int .i64 y, .int .i64 v] ++ r.flatMap wC) := by
      have h0 := hv.ws k (M.th k) _ (T.th_at (by rw [HTL.out]; exact hk)) HU.out
      rw [HE.out] at h0
      exact h0
    exact ⟨h1.cellAt 0 (by omega), h1.cellAt 1 (by omega), h1⟩
  have HST : Hid _ := xset_any HV1.out hy v
  clear h hr hsl he hu hn
  go_enter Tryd.func19, Tryd.ntmps19
  go_wp2_with fail
  go_region_held3 (fun w' : World => w'.cell? ⟨x, 0, none⟩ = some (.int .i64 y) ∧ w'.cell? ⟨x, 1, none⟩ = some (.int .i64 v)) (first | exact ⟨x0, x1⟩ | exact ⟨(HKK.out _ _ _ hv2).1, (HKK.out _ _ _ hv2).2.1⟩) ((go_at_call 39; refine Calls.mono HST.out ?_; rintro e y2 ⟨rfl, D2, S2, hv2, hs2⟩))
  obtain ⟨-, -, hr2⟩ := HKK.out _ _ _ hv2
  have d2 : y2.cell? ⟨g, k * 12 + 11, none⟩ = some (.slice (some ⟨x, 0, none⟩) (r.length + 1) c) := hv2.tc k (M.th k) _ (T.th_at (by rw [HTL.out]; exact hk)) HU.out 11 _ rfl
  have c32 : y2.cell? ⟨b, 3, none⟩ = some (.slice (some ⟨g, 0, none⟩) n cap) := by have := hv2.c3; rw [show (({ M with mem := T.upd M.mem y v } : T.Mach)).ts.length = n from HTL.out] at this; exact this
  have g2 := hv2.gz (k * 12 + 11)
  have hone : (1 : Int) ≤ (r.length : Int) + 1 := by omega
  obtain ⟨o, hif, ho2⟩ : ∃ o : Nat, (if c = 1 then (some ⟨x, 0, none⟩ : Option Addr) else some ⟨x, 2, none⟩) = some ⟨x, o, none⟩ ∧ (r = [] ∨ o = 2) := by
    by_cases e : c = 1
    · refine ⟨0, if_pos e, .inl (List.eq_nil_of_length_eq_zero (by omega))⟩
    · exact ⟨2, if_neg e, .inr rfl⟩
  have HNC : Hid (∀ ad : Addr, (some ⟨x, o, none⟩ : Option Addr) = some ad → ∀ j u, (r.flatMap wC)[j]? = some u → y2.drew.cell? (ad.add j) = some u) := fun ad had j u hj => by
    cases had
    rcases ho2 with rfl | rfl
    · simp at hj
    · have hjl := (List.getElem?_eq_some_iff.1 hj).1
      rw [flat_len' (m := 2) (fun _ => rfl)] at hjl
      have := hr2.cellAt (2 + j) (by omega)
      rw [Addr.add_lit]
      refine this.trans ?_
      rw [List.getElem?_append_right (by simp)]
      simpa using hj
  have HLN : Hid ((r.flatMap wC).length = r.length * 2) := flat_len' (m := 2) (fun _ => rfl) r
  have HON : Hid (∀ u ∈ r.flatMap wC, u.oneCell' = true) := fun u hu => by
    obtain ⟨p, -, hp⟩ := List.mem_flatMap.1 hu
    simp [wC] at hp
    rcases hp with rfl | rfl <;> rfl
  have HV2 : Hid (XV B y2 b { M with mem := T.upd M.mem y v } t D2 S2 vd vs g cap ev us) := hv2
  have HS2 : Hid (St t t w.drew y2) := hs2
  have HNIL : Hid (y2.drew.ownsRow B 94 2 (.slice none 0 0) 0 []) := World.ownsRow_nil _ _ _ _
  have HB2 : Hid (B ≤ y2.drew.heap.size) := hv2.hB
  have hgl2 := hv2.gl
  clear hv2 hs2 hr2 x0 x1 c3 d11 HST HKK HV1
  go_wp2_with fail
  go_region_law ((refine step_append_more (by rfl) _ _ 44 (by rfl) B 94 iw _ 2 16 Tryd.underlying44 hiw hp0 hp1 hp2 (by rfl) (by decide) (by rfl) HNIL.out HB2.out (by rfl) (fun e => by cases e) HLN.out HNC.out HON.out (by omega) (by omega) ?_; intro v6 Y6 ho6 hg6 hat6; obtain ⟨a6, c6, rfl, -⟩ := own_sl ho6; have m6 : Y6.cell? ⟨g, k * 12 + 11, none⟩ = some (.slice (some ⟨x, 0, none⟩) (r.length + 1) c) := hg6.cell d2 (by simp [Value.ownBlock]); have m36 : Y6.cell? ⟨b, 3, none⟩ = some (.slice (some ⟨g, 0, none⟩) n cap) := hg6.cell c32 (by simp [Value.ownBlock]); have z6 : Y6.frozen? ⟨g, k * 12 + 11, none⟩ = false := (hg6.frozen_far ⟨g, k * 12 + 11, none⟩ hgl2 (by simp [Value.ownBlock])).trans g2))
  all_goals
    go_wp2
    go_ret
    rw [Nat.zero_add, List.nil_append] at ho6
    obtain ⟨r1, r2⟩ := HV2.out.wait (k := k) (by show k < M.ts.length; rw [HTL.out]; exact hk) HU.out (X := y2.drew) (Below.refl _ _).drew ho6 hg6 (.inl rfl) (fun x hx => (hat6 x (by simpa using hx)).imp (fun e => by cases e) id)
    exact ⟨rfl, _, _, _, _, _, r1, (St.ofBelow t (Below.refl _ _).drew).trans (HS2.out.trans r2)⟩

end

end Go.Proofs.YtffokdldgdjkhaaDoor.X

/- The document's machine: what a thread sees; all its stores leave. -/
namespace Go.Proofs.YtffokdldgdjkhaaDoor.X
open Go.RowKit Go.Maps
set_option linter.unusedVariables false
set_option linter.unusedSimpArgs false

section
variable {B : Nat} {w : World} {b : Nat} {M : T.Mach} {t : Nat → Nat} {D Sk : List Int} {vd vs : Value} {g cap : Nat} {ev : Value} {us : List Value}

theorem T.ld_get (M : T.Mach) (k : Nat) (a : Int) : (T.ld M k a).getD 0 = (T.newest (M.th k).ws a).getD ((M.mem a).getD 0) := by
  unfold T.ld
  cases T.newest (M.th k).ws a <;> rfl

set_option maxRecDepth 100000 in
set_option maxHeartbeats 4000000 in
theorem xload_any (h : XV B w b M t D Sk vd vs g cap ev us) {k : Nat} (hk : k < M.ts.length) {a : Int} (haw : (Lit.int .i64 a).wf = true) (h8 : (M.th k).ws.length ≤ 1000) :
    Calls Tryd.prog 59 #[.pointer (some ⟨b, 0, none⟩), .int .i64 k, .int .i64 a] w fun e w' => e = .returned (.tuple #[.int .i64 ((T.ld M k a).getD 0), .bool (M.mem a).isSome]) ∧ w' = w := by
  rw [T.ld_get]
  obtain ⟨u, hu⟩ := h.u hk
  have d11 := h.cell hk hu 11 _ rfl
  have ho := h.ws k _ u (T.th_at hk) hu
  have HW : Hid _ := xword_any h haw
  obtain ⟨ws, hws⟩ : ∃ ws, (M.th k).ws = ws := ⟨_, rfl⟩
  rw [hws] at ho h8 ⊢
  obtain ⟨z0, hz0⟩ : ∃ z0, (M.mem a).getD 0 = z0 := ⟨_, rfl⟩
  have hiS : (M.mem a).isSome = decide (T.er (M.mem a) = 0) := by cases M.mem a <;> rfl
  rw [hiS]
  obtain ⟨z1, hz1⟩ : ∃ z1, T.er (M.mem a) = z1 := ⟨_, rfl⟩
  rw [hz0, hz1] at HW
  rw [hz0, hz1]
  obtain ⟨ad, c, rfl, -, hat⟩ := row_at (m := 2) (f := wC) (0, 0) (fun _ => rfl) ho rfl
  obtain ⟨hnc, hcm⟩ : ws.length ≤ c ∧ c ≤ maxLen := by obtain ⟨a', c', e, h1, h2⟩ := own_sl ho; cases e; exact ⟨h1, h2⟩
  have c3 := h.c3
  have hro := h.room
  obtain ⟨n, hn⟩ : ∃ n, M.ts.length = n := ⟨_, rfl⟩
  rw [hn] at c3 hro hk
  obtain ⟨r1, r2, r3, r4⟩ := hro
  unfold maxLen at r2 hcm
  have i1 : (k : Int) < (n : Int) := by omega
  have i0 : (0 : Int) ≤ (k : Int) := by omega
  have HAT : Hid _ := hat
  obtain ⟨l, hl⟩ : ∃ l, ws.length = l := ⟨_, rfl⟩
  have HG : Hid (∀ i, i < l → T.newest (ws.take (i + 1)) a = if (ws.getD i (0, 0)).1 = a then some (ws.getD i (0, 0)).2 else T.newest (ws.take i) a) := fun i hi => by
    have hi' : i < ws.length := by omega
    rw [List.take_succ_eq_append_getElem hi', T.newest_snoc]
    simp [List.getD, hi']
  have HTK : Hid (ws.take l = ws) := by show _ = _; rw [← hl, List.take_length]
  have HT0 : Hid (z0 = (T.newest (ws.take 0) a).getD z0) := rfl
  rw [hl] at d11 h8 hnc HAT
  clear h ho hu hn hat hl hws hiS hz0 hz1 haw
  go_enter Tryd.func59, Tryd.ntmps59
  go_wp2_with fail
  refine Calls.mono HW.out ?_
  rintro e y ⟨rfl, rfl⟩
  go_wp2_with fail
  go_loopg [8, 11] l (fun r nv iv wq => ∃ (i : Nat) (z : Int), iv = .int .i64 i ∧ nv = .int .i64 z ∧ i ≤ l ∧ l - i ≤ r ∧ Hid (z = (T.newest (ws.take i) a).getD z0) ∧ wq = y)
  case atStart => exact ⟨0, z0, rfl, rfl, Nat.zero_le _, by omega, HT0, rfl⟩
  case round =>
    obtain ⟨i, z, rfl, rfl, hi, hr, HZ, rfl⟩ := hrel
    by_cases hlt : i < l
    · rcases HAT.out with h0 | ⟨gb, off, rfl, hc⟩
      · omega
      have q0 := hc i hlt 0 _ (by decide) rfl
      have q1 := hc i hlt 1 _ (by decide) rfl
      have HE2 : Hid _ := HG.out i hlt
      obtain ⟨x, v, hp⟩ : ∃ x v, ws.getD i (0, 0) = (x, v) := ⟨_, _, rfl⟩
      rw [hp] at q0 q1 HE2
      simp only [Nat.add_zero] at q0 q1
      have j1 : (i : Int) < (l : Int) := by omega
      have j0 : (0 : Int) ≤ (i : Int) := by omega
      clear hc hp
      by_cases e : x = a
      · subst e
        have HZ2 : Hid (v = (T.newest (ws.take (i + 1)) x).getD z0) := by show _ = _; rw [HE2.out, if_pos rfl]; rfl
        go_wp2
        go_roundg (l - (i + 1))
        · exact ⟨i + 1, v, rfl, rfl, by omega, Nat.le_refl _, HZ2, rfl⟩
        · omega
      · have HZ2 : Hid (z = (T.newest (ws.take (i + 1)) a).getD z0) := by show _ = _; rw [HE2.out, if_neg e]; exact HZ.out
        go_wp2
        go_roundg (l - (i + 1))
        · exact ⟨i + 1, z, rfl, rfl, by omega, Nat.le_refl _, HZ2, rfl⟩
        · omega
    · obtain rfl : i = l := by omega
      have HZ2 : Hid (z = (T.newest ws a).getD z0) := by have := HZ.out; rw [HTK.out] at this; exact this
      go_wp2
      go_ret2
      rw [HZ2.out]
      exact ⟨rfl, rfl⟩

set_option maxRecDepth 100000 in
set_option maxHeartbeats 4000000 in
theorem xdrain_any (h : XV B w b M t D Sk vd vs g cap ev us) {k : Nat} (hk : k < M.ts.length) (hok : WsOk (M.th k).ws) :
    Calls Tryd.prog 61 #[.pointer (some ⟨b, 0, none⟩), .int .i64 k] w fun e w' => e = .returned (.tuple #[]) ∧ XGone B w w' b (T.drain M k) t vd vs g cap := by
  obtain ⟨n, hN⟩ : ∃ n, (M.th k).ws.length = n := ⟨_, rfl⟩
  have HOK : Hid (WsOk (M.th k).ws) := hok
  have hn := hok.1
  rw [hN] at hn
  have HV : Hid (XGone B w w b (M.put k (T.upds M.mem ((M.th k).ws.take 0)) ⟨(M.th k).c, (M.th k).ws.drop 0⟩) t vd vs g cap) := ⟨t, D, Sk, ev, us, by
    have e : M.put k (T.upds M.mem ((M.th k).ws.take 0)) ⟨(M.th k).c, (M.th k).ws.drop 0⟩ = M := T.put_same hk
    rw [e]; exact h, St.refl _ _⟩
  clear h hok
  go_enter Tryd.func61, Tryd.ntmps61
  go_wp2
  go_loopg [] n (fun r wq => ∃ i : Nat, i ≤ n ∧ n - i ≤ r ∧ Hid (XGone B w wq b (M.put k (T.upds M.mem ((M.th k).ws.take i)) ⟨(M.th k).c, (M.th k).ws.drop i⟩) t vd vs g cap))
  case atStart => exact ⟨0, Nat.zero_le _, Nat.le_refl _, HV⟩
  case round =>
    obtain ⟨i, hi, hr, HW⟩ := hrel
    obtain ⟨t', D', S', ev', us', hv, hst⟩ := HW.out
    have hk1 : k < (M.put k (T.upds M.mem ((M.th k).ws.take i)) ⟨(M.th k).c, (M.th k).ws.drop i⟩).ts.length := by rw [T.len_put]; exact hk
    have e1 := T.th_put hk (T.upds M.mem ((M.th k).ws.take i)) ⟨(M.th k).c, (M.th k).ws.drop i⟩
    have HST : Hid (St t t' w wr) := hst
    obtain ⟨u, hu⟩ := hv.u hk1
    have d11 := hv.cell hk1 hu 11 _ rfl
    have ho := hv.ws k _ u (T.th_at hk1) hu
    rw [e1] at ho
    have c3 := hv.c3
    have hro := hv.room
    rw [T.len_put] at c3 hro
    obtain ⟨q, hq⟩ : ∃ q, M.ts.length = q := ⟨_, rfl⟩
    have HQ : Hid (M.ts.length = q) := hq
    rw [hq] at c3 hro
    obtain ⟨r1, r2, r3, r4⟩ := hro
    have hkq : k < q := by omega
    have i1 : (k : Int) < (q : Int) := by omega
    have i0 : (0 : Int) ≤ (k : Int) := by omega
    unfold maxLen at r2
    obtain ⟨a, c, rfl, hnc, hcm⟩ := own_sl ho
    simp only [List.length_drop, hN] at d11
    by_cases hlt : i < n
    · have hil : i < (M.th k).ws.length := by omega
      have hd : (M.th k).ws.drop i = (M.th k).ws[i] :: (M.th k).ws.drop (i + 1) := List.drop_eq_getElem_cons hil
      obtain ⟨p1, p2⟩ := HOK.out.2 (M.th k).ws[i] (List.getElem_mem _)
      have HL := xleave_yes hv hk1 (y := (M.th k).ws[i].1) (v := (M.th k).ws[i].2) (r := (M.th k).ws.drop (i + 1)) (by rw [e1]; exact hd) p1 (by rw [List.length_drop]; omega)
      rw [T.put_put, e1, show (M.put k (T.upds M.mem ((M.th k).ws.take i)) ⟨(M.th k).c, (M.th k).ws.drop i⟩).mem = T.upds M.mem ((M.th k).ws.take i) from rfl, ← T.upds_snoc, List.take_append_getElem hil] at HL
      have HLL : Hid (Calls Tryd.prog 19 #[.pointer (some ⟨b, 0, none⟩), .int .i64 k] wr fun e w' => e = .returned (.bool true) ∧ XGone B wr w' b (M.put k (T.upds M.mem ((M.th k).ws.take (i + 1))) ⟨(M.th k).c, (M.th k).ws.drop (i + 1)⟩) t' vd vs g cap) := HL
      obtain ⟨m, hm⟩ : ∃ m : Nat, n - i = m + 1 := ⟨n - i - 1, by omega⟩
      rw [hm] at d11
      have hpos : (0 : Int) < (m : Int) + 1 := by omega
      clear hv hst HW HV HL e1 hk1 p1 p2 hd ho hu hnc hcm
      go_wp2_with fail
      refine HLL.out.mono ?_
      rintro e y ⟨rfl, t'', D'', S'', ev'', us'', hv2, hs2⟩
      have HR : Hid (XGone B w y b (M.put k (T.upds M.mem ((M.th k).ws.take (i + 1))) ⟨(M.th k).c, (M.th k).ws.drop (i + 1)⟩) t vd vs g cap) := ⟨t'', D'', S'', ev'', us'', hv2, HST.out.trans hs2⟩
      clear hv2 hs2
      go_wp2
      go_roundg (n - (i + 1))
      · exact ⟨i + 1, by omega, Nat.le_refl _, HR⟩
      · omega
    · obtain rfl : i = n := by omega
      have HVE : Hid (XGone B w wr b (T.drain M k) t vd vs g cap) := by
        rw [← hN, List.take_length, List.drop_length] at hv
        exact ⟨t', D', S', ev', us', hv, hst⟩
      rw [Nat.sub_self] at d11
      clear hv hst HW HV e1 hk1 ho hu hnc hcm
      go_wp2
      go_end0
      exact ⟨rfl, HVE.out⟩

end

end Go.Proofs.YtffokdldgdjkhaaDoor.X

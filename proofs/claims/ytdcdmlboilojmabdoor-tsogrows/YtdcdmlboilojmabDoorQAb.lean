/- The machine: threads over one memory, each with stores that wait. No walk. -/
import Derived.Test.YtdcdmlboilojmabDoorQAa
import Derived.WalkKit
import Derived.Maps.OwnSet
import Derived.Lib.SlKeysI
import Derived.Test.YtdcdmlboilojmabDoorProg
import Derived.WalkSpells
import Derived.WalkLawsBesides
import Derived.OpenShut
namespace Go.Proofs.YtdcdmlboilojmabDoor.T
open Go.RowKit
set_option linter.unusedVariables false

abbrev Memo := Int → Option Int
/-- A word that is there is turned. -/
def upd (m : Memo) (x n : Int) : Memo := fun y => if y = x then (if (m x).isSome = true then some n else none) else m y
abbrev Wait := Int × Int
structure Th where
  c : S.C
  ws : List Wait
abbrev Ev := Int × Int × Int
structure Mach where
  code : ByteArray
  mem : Memo
  ts : List Th
  es : List Ev

def noC : S.C := ⟨0, 0, 0, 0, 0, 0, 0, 0, 0, 0, 0⟩
def noTh : Th := ⟨noC, []⟩
def Mach.th (M : Mach) (k : Nat) : Th := M.ts.getD k noTh
def Mach.put (M : Mach) (k : Nat) (m : Memo) (h : Th) : Mach := { M with mem := m, ts := M.ts.set k h }
def Mach.see (M : Mach) (k : Nat) (kind n : Int) : Mach := { M with es := M.es ++ [((k : Int), kind, n)] }
def upds (m : Memo) (ws : List Wait) : Memo := ws.foldl (fun m p => upd m p.1 p.2) m
def newest (ws : List Wait) (x : Int) : Option Int := (ws.reverse.find? fun p => p.1 == x).map (·.2)
/-- The oldest store leaves. -/
def leave (M : Mach) (k : Nat) : Mach :=
  match (M.th k).ws with
  | [] => M
  | p :: r => M.put k (upd M.mem p.1 p.2) ⟨(M.th k).c, r⟩
def leaves (M : Mach) (k : Nat) : Bool := !(M.th k).ws.isEmpty
def drain (M : Mach) (k : Nat) : Mach := M.put k (upds M.mem (M.th k).ws) ⟨(M.th k).c, []⟩
/-- A store that waits from now on. -/
def push (M : Mach) (k : Nat) (a v : Int) : Mach := M.put k M.mem ⟨(M.th k).c, (M.th k).ws ++ [(a, v)]⟩
def full (M : Mach) (k : Nat) : Mach := if (M.th k).ws.length = 8 then leave M k else M
def setC (M : Mach) (k : Nat) (c : S.C) : Mach := M.put k M.mem ⟨c, (M.th k).ws⟩
def swap (M : Mach) (k : Nat) (a v : Int) : Mach := { drain M k with mem := upd (drain M k).mem a v }
/-- Whether there is such a word. -/
def er (o : Option Int) : Int :=
  match o with
  | some _ => 0
  | none => 11
def has {α : Type} (o : Option Int) (x y : α) : α :=
  match o with
  | some _ => x
  | none => y
/-- What memory does of a request, what it answers, and whether it can. -/
def ansM (M : Mach) (k : Nat) (q : S.Q) : Mach :=
  if q.k = 2 then has (M.mem q.a) (push (full M k) k q.a q.v) M
  else if q.k = 3 then has (M.mem q.a) (swap M k q.a q.v) M
  else if q.k = 4 then has (M.mem q.a) (swap M k q.a (wrap64 (((drain M k).mem q.a).getD 0 + q.v))) M
  else if q.k = 5 then drain M k
  else if q.k = 6 then M.see k 1 q.v
  else M
def ld (M : Mach) (k : Nat) (a : Int) : Option Int := (newest (M.th k).ws a).or (M.mem a)
def ansN (M : Mach) (k : Nat) (q : S.Q) : Int :=
  if q.k = 1 then (ld M k q.a).getD 0
  else if q.k = 3 ∨ q.k = 4 then has (M.mem q.a) (((drain M k).mem q.a).getD 0) 0
  else 0
def ansE (M : Mach) (k : Nat) (q : S.Q) : Int :=
  if q.k = 1 then er (ld M k q.a)
  else if q.k = 2 ∨ q.k = 3 ∨ q.k = 4 then er (M.mem q.a)
  else 0
/-- The instruction at a place of the code. -/
def decOk (s : ByteArray) (at' : Int) : Bool := decide (0 ≤ at' ∧ at' ≤ (s.size : Int)) && I.dOk (I.cut s at')
def iC (c : S.C) (s : ByteArray) : S.C := S.startC c (I.hd s) (I.dA s) (I.dB s) (I.dN s) (I.psize (I.hd s))
def iQ (c : S.C) (s : ByteArray) : S.Q := S.startQ c (I.hd s) (I.dA s) (I.dB s) (I.dN s) (I.psize (I.hd s))
def trapC (c : S.C) (n : Int) : S.C := { c with st := 2, tr := n }
def plc (M : Mach) (k : Nat) : Int := wrap64 ((M.th k).c.pc - 4096)
def doIns (M : Mach) (k : Nat) : Mach :=
  if decOk M.code (plc M k) = true then
    (if ansE M k (iQ (M.th k).c (I.cut M.code (plc M k))) = 0 then
      setC (ansM M k (iQ (M.th k).c (I.cut M.code (plc M k)))) k (S.finish (iC (M.th k).c (I.cut M.code (plc M k))) (iQ (M.th k).c (I.cut M.code (plc M k))).k (iQ (M.th k).c (I.cut M.code (plc M k))).r (ansN M k (iQ (M.th k).c (I.cut M.code (plc M k)))))
    else setC M k (trapC (M.th k).c 2))
  else setC M k (trapC (M.th k).c 3)
def seen (M : Mach) (k : Nat) : Mach :=
  if (M.th k).c.st = 1 then M.see k 2 0 else if (M.th k).c.st = 2 then M.see k 3 (M.th k).c.tr else M
def goOn (M : Mach) (k : Nat) : Mach := if (M.th k).c.st = 0 then seen (doIns M k) k else M
def went (M : Mach) (k : Nat) : Bool := decide ((M.th k).c.st = 0)
/-- A pick. -/
def pk (pick : Int) : Int := if pick < 0 then -1 - pick else pick
def who (M : Mach) (pick : Int) : Nat := (pk pick / 2 % (M.ts.length : Int)).toNat
def act (M : Mach) (pick : Int) : Mach := if pk pick % 2 = 0 then goOn M (who M pick) else leave M (who M pick)
def did (M : Mach) (pick : Int) : Bool := if pk pick % 2 = 0 then went M (who M pick) else leaves M (who M pick)
def runs (M : Mach) (l : List Int) : Mach := l.foldl act M
/-- A new machine. -/
def mem0 (data : List Int) (n : Nat) : Memo := fun x =>
  if x % 8 = 0 then
    (if 1048576 ≤ x ∧ x < 1048576 + 8 * (data.length : Int) then some (data.getD ((x - 1048576) / 8).toNat 0)
    else if 2097152 ≤ x ∧ x < 2097152 + 65536 * (n : Int) then some 0 else none)
  else none
def th0 (i : Nat) (at' : Int) : Th := ⟨{ noC with pc := wrap64 (4096 + at'), r7 := 2097152 + 65536 * ((i : Int) + 1) }, []⟩
def ths0 : Nat → List Int → List Th
  | _, [] => []
  | i, a :: l => th0 i a :: ths0 (i + 1) l
def mach0 (code : ByteArray) (data : List Int) (starts : List Int) : Mach := ⟨code, mem0 data starts.length, ths0 0 starts, []⟩
def mayRun (code : ByteArray) (dlen : Nat) (starts : List Int) : Bool :=
  decide (1 ≤ starts.length ∧ starts.length ≤ 4 ∧ code.size ≤ 65536 ∧ dlen ≤ 4096) && starts.all fun a => decide (0 ≤ a ∧ a < (code.size : Int))

theorem th_put {M : Mach} {k : Nat} (h : k < M.ts.length) (m : Memo) (x : Th) : (M.put k m x).th k = x := by
  unfold Mach.th Mach.put
  simp [List.getD, h]
theorem th_put_ne {M : Mach} {k l : Nat} (h : k ≠ l) (m : Memo) (x : Th) : (M.put k m x).th l = M.th l := by
  unfold Mach.th Mach.put
  simp [List.getD, List.getElem?_set_ne h]
theorem len_put (M : Mach) (k : Nat) (m : Memo) (x : Th) : (M.put k m x).ts.length = M.ts.length := by simp [Mach.put]
theorem put_put (M : Mach) (k : Nat) (m n : Memo) (x y : Th) : (M.put k m x).put k n y = M.put k n y := by simp [Mach.put]
theorem put_same {M : Mach} {k : Nat} (h : k < M.ts.length) : M.put k M.mem (M.th k) = M := by
  unfold Mach.th Mach.put
  simp [List.getD, h]
theorem th_at {M : Mach} {k : Nat} (h : k < M.ts.length) : M.ts[k]? = some (M.th k) := by
  unfold Mach.th
  simp [List.getD, h]
theorem th_see (M : Mach) (k j : Nat) (a n : Int) : (M.see k a n).th j = M.th j := rfl
theorem upds_snoc (m : Memo) (ws : List Wait) (p : Wait) : upds m (ws ++ [p]) = upd (upds m ws) p.1 p.2 := by simp [upds]
theorem upd_some (m : Memo) (x n y : Int) : (upd m x n y).isSome = (m y).isSome := by
  unfold upd
  by_cases e : y = x
  · subst e
    rw [if_pos rfl]
    cases h : (m y).isSome <;> simp
  · rw [if_neg e]
theorem upds_some (ws : List Wait) : ∀ (m : Memo) (y : Int), (upds m ws y).isSome = (m y).isSome := by
  induction ws with
  | nil => intro m y; rfl
  | cons p r ih => intro m y; exact (ih (upd m p.1 p.2) y).trans (upd_some m p.1 p.2 y)

end Go.Proofs.YtdcdmlboilojmabDoor.T

/- Sets of numbers, lists that rise, footprints: no program in sight. -/
namespace Go.Proofs.YtdcdmlboilojmabDoor.M
open Go.RowKit Go.Maps

/-- A set of numbers, as a map reads. -/
def set (l : List Int) : DataW Unit := setOf (.agg []) (l.map (Lit.int .i64))

theorem set_nil : set [] = .map [] := rfl
theorem set_snoc (l : List Int) (x : Int) : set (l ++ [x]) = (set l).put (.int .i64 x) (.agg []) := by
  unfold set
  rw [List.map_append, List.map_cons, List.map_nil, setOf_snoc]

theorem any_int (x : Int) : ∀ l : List Int, l.any ((fun y : Lit => y.sameKey (.int .i64 x)) ∘ Lit.int .i64) = l.contains x
  | [] => rfl
  | a :: r => by
    rw [List.any_cons, List.contains_cons, any_int x r]
    congr 1
    show decide (IntKind.i64 = IntKind.i64 ∧ a = x) = (x == a)
    by_cases e : a = x
    · subst e; simp
    · have e' : ¬ x = a := fun h => e h.symm
      simp [e, e']

theorem has_set (l : List Int) (x : Int) : Maps.has (set l) (.int .i64 x) = l.contains x := by
  unfold set
  rw [has_setOf _ _ _ (fun y hy => by obtain ⟨_, _, rfl⟩ := List.mem_map.1 hy; trivial), List.any_map]
  exact any_int x _

/-- Is a number in both lists? -/
def meets (a b : List Int) : Bool := b.any fun x => a.contains x

theorem meets_iff (a b : List Int) : meets a b = true ↔ ∃ x, x ∈ a ∧ x ∈ b := by
  simp only [meets, List.any_eq_true, List.contains_iff_mem]
  exact ⟨fun ⟨x, h1, h2⟩ => ⟨x, h2, h1⟩, fun ⟨x, h1, h2⟩ => ⟨x, h2, h1⟩⟩

theorem meets_comm (a b : List Int) : meets a b = meets b a := by
  rw [Bool.eq_iff_iff, meets_iff, meets_iff]
  exact ⟨fun ⟨x, h1, h2⟩ => ⟨x, h2, h1⟩, fun ⟨x, h1, h2⟩ => ⟨x, h2, h1⟩⟩

/-- A list that rises, and holds just these numbers. -/
structure Ris (L : List Int) (p : Int → Prop) : Prop where
  up : L.Pairwise (· < ·)
  mem : ∀ x, x ∈ L ↔ p x

theorem ris_unique {L K : List Int} {p q : Int → Prop} (h : Ris L p) (k : Ris K q) (e : ∀ x, p x ↔ q x) : L = K := by
  have nd : ∀ {l : List Int}, l.Pairwise (· < ·) → l.Nodup := fun hl => hl.imp fun hab => by omega
  have hp : L.Perm K := (List.perm_ext_iff_of_nodup (nd h.up) (nd k.up)).2 fun x => by rw [h.mem, k.mem, e]
  exact List.Perm.eq_of_pairwise (le := (· < ·)) (fun a b _ _ h1 h2 => by omega) h.up k.up hp

/-- The keys of a set, sorted. -/
theorem ris_sorted {w : World} {P : Program} {k : TypeId} {R : Value → Option (DataW Unit × List MemPlace)} {b n : Nat} {D : DataW Unit} (hown : w.ownsMap P k R b n D) (K : Keyed P k) {ss : List Int} (hk : P.underlying k = some (.int .i64)) (hp : ss.Perm (intKeys D)) :
    Ris (ss.mergeSort (fun x y => decide (x ≤ y))) (fun x => Maps.has D (.int .i64 x) = true) := by
  obtain ⟨es, hD, hpw, _⟩ := hown.entries K
  obtain ⟨es', hD', hko⟩ := hown.keysOf
  obtain rfl : es = es' := by rw [hD] at hD'; simpa using hD'
  subst hD
  have hx : ∀ p ∈ es, ∃ x, p.1 = .int .i64 x := fun p hp => by
    obtain ⟨v, hv⟩ := hko p hp
    obtain ⟨x, _, hx, _⟩ := Maps.keyOf_i64 hk hv
    exact ⟨x, hx⟩
  have nd : (intKeys (.map es)).Nodup := by
    refine List.pairwise_map.2 (hpw.imp_of_mem fun {p q} hp' hq' hne e => hne ?_)
    obtain ⟨a, ha⟩ := hx p hp'
    obtain ⟨b, hb⟩ := hx q hq'
    rw [ha, hb] at e ⊢
    exact congrArg _ e
  have hm : ∀ x, x ∈ intKeys (.map es) ↔ Maps.has (.map es) (.int .i64 x) = true := by
    intro x
    rw [Maps.has_eq, List.any_eq_true]
    unfold intKeys
    rw [List.mem_map]
    constructor
    · rintro ⟨p, hp', rfl⟩
      obtain ⟨a, ha⟩ := hx p hp'
      exact ⟨p, hp', by rw [ha]; simp [Lit.sameKey]; rfl⟩
    · rintro ⟨p, hp', hs⟩
      obtain ⟨a, ha⟩ := hx p hp'
      rw [ha] at hs
      have e : a = x := by simpa [Lit.sameKey] using hs
      subst e
      exact ⟨p, hp', by rw [ha]; rfl⟩
  have hperm := (List.mergeSort_perm ss (fun x y => decide (x ≤ y))).trans hp
  refine ⟨?_, fun x => by rw [hperm.mem_iff, hm]⟩
  have tr : ∀ a b c : Int, decide (a ≤ b) = true → decide (b ≤ c) = true → decide (a ≤ c) = true := fun a b c h1 h2 => by simp only [decide_eq_true_eq] at *; omega
  have to : ∀ a b : Int, (decide (a ≤ b) || decide (b ≤ a)) = true := fun a b => by simp only [Bool.or_eq_true, decide_eq_true_eq]; omega
  have hle := List.pairwise_mergeSort (le := fun x y : Int => decide (x ≤ y)) tr to ss
  have hnd : (ss.mergeSort (fun x y => decide (x ≤ y))).Nodup := hperm.nodup_iff.2 nd
  exact hle.imp₂ (fun a b h1 h2 => by simp at h1; omega) hnd

end Go.Proofs.YtdcdmlboilojmabDoor.M

/- What mem.meet, mem.Clash and few come to. -/
namespace Go.Proofs.YtdcdmlboilojmabDoor
open Go.RowKit Go.Maps

/-- A list of numbers that lies somewhere. -/
structure View (w : World) (a : Option Addr) (len cap : Nat) (zs : List Int) : Prop where
  count : zs.length = len
  fits : ∀ n ∈ zs, (Lit.int .i64 n).wf = true
  nilOf : a = none → len = 0 ∧ cap = 0
  cells : len = 0 ∨ ∃ b off, a = some ⟨b, off, none⟩ ∧ ∀ i, i < len → w.cell? ⟨b, off + i, none⟩ = some (.int .i64 (zs.getD i 0))

theorem View.below {w w1 : World} {a : Option Addr} {len cap : Nat} {zs : List Int} (h : View w a len cap zs) (hb : Below w.heap.size w w1) : View w1 a len cap zs := by
  refine ⟨h.count, h.fits, h.nilOf, ?_⟩
  rcases h.cells with h0 | ⟨b, off, ha, hc⟩
  · exact .inl h0
  · refine .inr ⟨b, off, ha, fun i hi => ?_⟩
    have hi' := hc i hi
    exact (hb.cell (p := ⟨b, off + i, none⟩) (World.block_lt_of_cell? w ⟨b, off + i, none⟩ hi')).trans hi'

theorem view_nil (w : World) : View w none 0 0 [] := ⟨rfl, by simp, fun _ => ⟨rfl, rfl⟩, .inl rfl⟩

theorem view_own {w : World} {B n : Nat} {v : Value} {zs : List Int} (hf : ∀ n ∈ zs, (Lit.int .i64 n).wf = true) (h : w.ownsRow B 2 1 v n (zs.map (Value.int .i64))) : ∃ a cap, v = .slice a n cap ∧ View w a n cap zs := by
  have hl : zs.length = n := by simpa using h.1
  rcases h.2 with ⟨rfl, rfl⟩ | ⟨g, cap, cur, rfl, hb, hg, hnc, hcm, hcs, htake⟩
  · exact ⟨none, 0, rfl, hl, hf, fun _ => ⟨rfl, rfl⟩, .inl rfl⟩
  · refine ⟨some ⟨g, 0, none⟩, cap, rfl, hl, hf, by simp, .inr ⟨g, 0, rfl, fun i hi => ?_⟩⟩
    have hc := h.cellAt i (by omega)
    rw [Nat.zero_add, hc]
    simp [List.getD, show i < zs.length by omega]

theorem lawK : Keyed Tryd.prog 2 := int_keyed Tryd.underlying2
theorem zeroU (w : World) : (zeroValue 119).run Tryd.prog w = .ok (.agg #[]) w := by kernel_rfl

theorem getD_wf {zs : List Int} (h : ∀ n ∈ zs, (Lit.int .i64 n).wf = true) (k : Nat) : (Lit.int .i64 (zs.getD k 0)).wf = true := by
  by_cases hk : k < zs.length
  · have e : zs.getD k 0 = zs[k] := by simp [List.getD, hk]
    rw [e]; exact h _ (List.getElem_mem _)
  · have e : zs.getD k 0 = 0 := by simp [List.getD, hk]
    rw [e]; decide

theorem take_snoc (zs : List Int) (k : Nat) (h : k < zs.length) : zs.take (k + 1) = zs.take k ++ [zs.getD k 0] := by
  rw [List.take_succ_eq_append_getElem h]; simp [List.getD, h]

theorem meets_take (za zb : List Int) (k : Nat) (h : k < zb.length) (h0 : M.meets za (zb.take k) = false) : M.meets za (zb.take (k + 1)) = za.contains (zb.getD k 0) := by
  rw [take_snoc zb k h]
  simp only [M.meets, List.any_append, List.any_cons, List.any_nil, Bool.or_false] at h0 ⊢
  rw [h0, Bool.false_or]

theorem meets_of_take (za zb : List Int) (k : Nat) (h : M.meets za (zb.take k) = true) : M.meets za zb = true := by
  rw [M.meets_iff] at h ⊢
  obtain ⟨x, h1, h2⟩ := h
  exact ⟨x, h1, List.mem_of_mem_take h2⟩

/-- A footprint as it is handed over. -/
structure FootV (w : World) (v : Value) (rs ws : List Int) : Prop where
  form : ∃ a l c a' l' c', v = .agg #[.slice a l c, .slice a' l' c'] ∧ View w a l c rs ∧ View w a' l' c' ws

theorem FootV.below {w w1 : World} {v : Value} {rs ws : List Int} (h : FootV w v rs ws) (hb : Below w.heap.size w w1) : FootV w1 v rs ws := by
  obtain ⟨a, l, c, a', l', c', hv, h1, h2⟩ := h.form
  exact ⟨a, l, c, a', l', c', hv, h1.below hb, h2.below hb⟩

theorem cell_last (w : World) (A : Array Value) (t g j : Nat) (hg : g = w.heap.size) {v : Value} (hv : A[j]? = some v) : (w.alloc (.cells A t)).cell? ⟨g, j, none⟩ = some v := by
  subst hg
  rw [← hv]
  simp

def clash (ra wa rb wb : List Int) : Bool := M.meets wa wb || M.meets wa rb || M.meets wb ra

end Go.Proofs.YtdcdmlboilojmabDoor

/- Sets of numbers, lists that rise, footprints: no program in sight. -/
import Derived.WalkKit
import Derived.Maps.OwnSet
import Derived.Lib.SlKeysI
namespace Go.Proofs.Ytfkpbmopneleiaa.M
open Go.RowKit Go.Maps

/-- A set of numbers, as a map reads. -/
def set (l : List Int) : DataW Unit := setOf (.agg []) (l.map (Lit.int .i64))

theorem set_nil : set [] = .map [] := rfl
theorem set_snoc (l : List Int) (x : Int) : set (l ++ [x]) = (set l).put (.int .i64 x) (.agg []) := by
  unfold set
  rw [List.map_append, List.map_cons, List.map_nil, setOf_snoc]

theorem any_int (x : Int) : ∀ l : List Int, l.any ((fun y : Lit => y.sameKey (.int .i64 x)) ∘ Lit.int .i64) = l.contains x
  | [] => rfl
  | a :: r => by
    rw [List.any_cons, List.contains_cons, any_int x r]
    congr 1
    show decide (IntKind.i64 = IntKind.i64 ∧ a = x) = (x == a)
    by_cases e : a = x
    · subst e; simp
    · have e' : ¬ x = a := fun h => e h.symm
      simp [e, e']

theorem has_set (l : List Int) (x : Int) : Maps.has (set l) (.int .i64 x) = l.contains x := by
  unfold set
  rw [has_setOf _ _ _ (fun y hy => by obtain ⟨_, _, rfl⟩ := List.mem_map.1 hy; trivial), List.any_map]
  exact any_int x _

/-- Is a number in both lists? -/
def meets (a b : List Int) : Bool := b.any fun x => a.contains x

theorem meets_iff (a b : List Int) : meets a b = true ↔ ∃ x, x ∈ a ∧ x ∈ b := by
  simp only [meets, List.any_eq_true, List.contains_iff_mem]
  exact ⟨fun ⟨x, h1, h2⟩ => ⟨x, h2, h1⟩, fun ⟨x, h1, h2⟩ => ⟨x, h2, h1⟩⟩

theorem meets_comm (a b : List Int) : meets a b = meets b a := by
  rw [Bool.eq_iff_iff, meets_iff, meets_iff]
  exact ⟨fun ⟨x, h1, h2⟩ => ⟨x, h2, h1⟩, fun ⟨x, h1, h2⟩ => ⟨x, h2, h1⟩⟩

/-- A list that rises, and holds just these numbers. -/
structure Ris (L : List Int) (p : Int → Prop) : Prop where
  up : L.Pairwise (· < ·)
  mem : ∀ x, x ∈ L ↔ p x

theorem ris_unique {L K : List Int} {p q : Int → Prop} (h : Ris L p) (k : Ris K q) (e : ∀ x, p x ↔ q x) : L = K := by
  have nd : ∀ {l : List Int}, l.Pairwise (· < ·) → l.Nodup := fun hl => hl.imp fun hab => by omega
  have hp : L.Perm K := (List.perm_ext_iff_of_nodup (nd h.up) (nd k.up)).2 fun x => by rw [h.mem, k.mem, e]
  exact List.Perm.eq_of_pairwise (le := (· < ·)) (fun a b _ _ h1 h2 => by omega) h.up k.up hp

/-- The keys of a set, sorted. -/
theorem ris_sorted {w : World} {P : Program} {k : TypeId} {R : Value → Option (DataW Unit × List MemPlace)} {b n : Nat} {D : DataW Unit} (hown : w.ownsMap P k R b n D) (K : Keyed P k) {ss : List Int} (hk : P.underlying k = some (.int .i64)) (hp : ss.Perm (intKeys D)) :
    Ris (ss.mergeSort (fun x y => decide (x ≤ y))) (fun x => Maps.has D (.int .i64 x) = true) := by
  obtain ⟨es, hD, hpw, _⟩ := hown.entries K
  obtain ⟨es', hD', hko⟩ := hown.keysOf
  obtain rfl : es = es' := by rw [hD] at hD'; simpa using hD'
  subst hD
  have hx : ∀ p ∈ es, ∃ x, p.1 = .int .i64 x := fun p hp => by
    obtain ⟨v, hv⟩ := hko p hp
    obtain ⟨x, _, hx, _⟩ := Maps.keyOf_i64 hk hv
    exact ⟨x, hx⟩
  have nd : (intKeys (.map es)).Nodup := by
    refine List.pairwise_map.2 (hpw.imp_of_mem fun {p q} hp' hq' hne e => hne ?_)
    obtain ⟨a, ha⟩ := hx p hp'
    obtain ⟨b, hb⟩ := hx q hq'
    rw [ha, hb] at e ⊢
    exact congrArg _ e
  have hm : ∀ x, x ∈ intKeys (.map es) ↔ Maps.has (.map es) (.int .i64 x) = true := by
    intro x
    rw [Maps.has_eq, List.any_eq_true]
    unfold intKeys
    rw [List.mem_map]
    constructor
    · rintro ⟨p, hp', rfl⟩
      obtain ⟨a, ha⟩ := hx p hp'
      exact ⟨p, hp', by rw [ha]; simp [Lit.sameKey]; rfl⟩
    · rintro ⟨p, hp', hs⟩
      obtain ⟨a, ha⟩ := hx p hp'
      rw [ha] at hs
      have e : a = x := by simpa [Lit.sameKey] using hs
      subst e
      exact ⟨p, hp', by rw [ha]; rfl⟩
  have hperm := (List.mergeSort_perm ss (fun x y => decide (x ≤ y))).trans hp
  refine ⟨?_, fun x => by rw [hperm.mem_iff, hm]⟩
  have tr : ∀ a b c : Int, decide (a ≤ b) = true → decide (b ≤ c) = true → decide (a ≤ c) = true := fun a b c h1 h2 => by simp only [decide_eq_true_eq] at *; omega
  have to : ∀ a b : Int, (decide (a ≤ b) || decide (b ≤ a)) = true := fun a b => by simp only [Bool.or_eq_true, decide_eq_true_eq]; omega
  have hle := List.pairwise_mergeSort (le := fun x y : Int => decide (x ≤ y)) tr to ss
  have hnd : (ss.mergeSort (fun x y => decide (x ≤ y))).Nodup := hperm.nodup_iff.2 nd
  exact hle.imp₂ (fun a b h1 h2 => by simp at h1; omega) hnd

end Go.Proofs.Ytfkpbmopneleiaa.M

/- Whether an item may be; whether items may. -/
import Derived.Test.YtgjingleolhkbaaGreatDoorAsTab
import Derived.Deep.RegionHeld3
namespace Go.Proofs.YtgjingleolhkbaaGreatDoor
open Go.RowKit
set_option linter.unusedVariables false
set_option linter.unusedSimpArgs false

theorem isEmpty_str {l : X.By} (h : l ≠ []) : (X.str l).toList.isEmpty = false := by
  rw [ByteArray.toList_eq, str_list]
  cases l with | nil => exact absurd rfl h | cons => rfl
theorem isEmpty_nil {l : X.By} (h : l = []) : (X.str l).toList.isEmpty = true := by
  rw [ByteArray.toList_eq, str_list, h]
  rfl
/-- What 'rowOf' answers. -/
def RowOut (w : World) (r : Option (X.By × X.By)) (e : Ending) (w' : World) : Prop :=
  (match r with | none => e = .returned (.tuple #[.agg #[.string { data := #[] }, .string { data := #[] }], .bool false]) | some p => e = .returned (.tuple #[.agg #[.string (X.str p.1), .string (X.str p.2)], .bool true])) ∧ Below w.heap.size w w'

set_option maxRecDepth 100000 in
set_option maxHeartbeats 4000000 in
theorem rowOf_any (op : Int) (w : World) (ht : Tab w) :
    Calls Tryz.prog 89 #[.int .i64 op] w (RowOut w (X.rowOf op)) := by
  by_cases h0 : op < 0
  · have HR : Hid (X.rowOf op = none) := by show _ = _; unfold X.rowOf; rw [if_neg (by omega)]
    clear ht
    go_enter Tryz.func89, Tryz.ntmps89
    go_wp2
    refine bodyPost_ret (v := .tuple #[.agg #[.string { data := #[] }, .string { data := #[] }], .bool false]) ?_ rfl ?_
    · simp [results, Tryz.results89, go_sem]
    · unfold RowOut; rw [HR.out]; exact ⟨rfl, bl1 _ _⟩
  by_cases h1 : 34 ≤ op
  · have HR : Hid (X.rowOf op = none) := by show _ = _; unfold X.rowOf; rw [if_neg (by omega)]
    clear ht
    go_enter Tryz.func89, Tryz.ntmps89
    go_wp2
    refine bodyPost_ret (v := .tuple #[.agg #[.string { data := #[] }, .string { data := #[] }], .bool false]) ?_ rfl ?_
    · simp [results, Tryz.results89, go_sem]
    · unfold RowOut; rw [HR.out]; exact ⟨rfl, bl1 _ _⟩
  obtain ⟨k, rfl⟩ : ∃ k : Nat, op = k := ⟨op.toNat, by omega⟩
  have hk : k < 34 := by omega
  obtain ⟨c1, c2⟩ := ht.rw k hk
  have hz := ht.hz
  have z0 : 0 < w.heap.size := by omega
  have d1 := fun o => (Below.cell (p := ⟨0, k * 2, none⟩) (bl1 w o) z0).trans c1
  have d2 := fun o => (Below.cell (p := ⟨0, k * 2 + 1, none⟩) (bl1 w o) z0).trans c2
  clear ht hz
  by_cases he : (X.row k).1 = []
  · have HR : Hid (X.rowOf k = none) := by show _ = _; unfold X.rowOf; rw [if_neg (by simp [he])]
    have hE := isEmpty_nil he
    clear he
    generalize X.str (X.row k).1 = b1 at *
    generalize X.str (X.row k).2 = b2 at *
    go_enter Tryz.func89, Tryz.ntmps89
    go_wp2
    refine bodyPost_ret (v := .tuple #[.agg #[.string { data := #[] }, .string { data := #[] }], .bool false]) ?_ rfl ?_
    · simp [results, Tryz.results89, go_sem]
    · unfold RowOut; rw [HR.out]; exact ⟨rfl, bl1 _ _⟩
  · have HR : Hid (X.rowOf k = some (X.row k)) := by show _ = _; unfold X.rowOf; rw [if_pos ⟨by omega, by omega, by simpa using he⟩]; simp
    have hE := isEmpty_str he
    have HO : Hid (∀ (e : Ending) (w' : World), e = .returned (.tuple #[.agg #[.string (X.str (X.row k).1), .string (X.str (X.row k).2)], .bool true]) → Below w.heap.size w w' → RowOut w (X.rowOf k) e w') := fun e w' h1 h2 => by unfold RowOut; rw [HR.out]; exact ⟨h1, h2⟩
    clear he
    generalize X.str (X.row k).1 = b1 at *
    generalize X.str (X.row k).2 = b2 at *
    go_enter Tryz.func89, Tryz.ntmps89
    go_wp2
    refine bodyPost_ret (v := .tuple #[.agg #[.string b1, .string b2], .bool true]) ?_ rfl ?_
    · simp [results, Tryz.results89, go_sem]
    · exact HO.out _ _ rfl (bl1 _ _)

/-! ### Instructions -/
set_option maxHeartbeats 4000000 in
theorem has_int (m b : ByteArray) (c : Int) (h0 : 0 ≤ c) (h1 : c < 256) (w : World) :
    Calls Tryz.prog 90 #[.agg #[.string m, .string b], .int .u8 c] w fun e w' => e = .returned (.bool (X.has b.data.toList (UInt8.ofNat c.toNat))) ∧ Below w.heap.size w w' := by
  obtain ⟨k, rfl⟩ : ∃ k : Nat, c = k := ⟨c.toNat, by omega⟩
  refine (has_any m b k (by omega) w).mono ?_
  rintro e w' ⟨rfl, rfl⟩
  exact ⟨by simp, bl1 _ _⟩
theorem cell_thru {w w1 : World} (hb : Below w.heap.size w w1) {b o : Nat} {u : Value} (h : w.cell? ⟨b, o, none⟩ = some u) : w1.cell? ⟨b, o, none⟩ = some u :=
  (hb.cell (p := ⟨b, o, none⟩) (World.block_lt_of_cell? w ⟨b, o, none⟩ h)).trans h
theorem row_cell {w : World} {a : Array Value} {t : TypeId} {k : Nat} {u : Value} (h : a[k]? = some u) : (w.alloc (.cells a t)).cell? ⟨w.heap.size, k, none⟩ = some u := by
  rw [World.cell?_alloc_new]; exact h
theorem neq_empty {s : ByteArray} : s.toList.isEmpty = decide (s.data.toList = []) := by
  rw [ByteArray.toList_eq]; cases s.data.toList <;> simp

/-- What an instruction's item must be: each question apart. -/
def insQ (nm : X.By) (op a b n : Int) (r : X.By) : Bool := decide (X.has r 64 = decide (nm ≠ [])) && ((decide (nm = []) || X.name nm) && ((decide (a = 0) || X.has r 65) && ((decide (b = 0) || X.has r 66) && ((decide (n = 0) || X.has r 78) && (X.isReg a && (X.isReg b && X.numOk op n))))))
theorem tA {l : List Oper} {i : Nat} {y : Oper} (h : l[i]? = some y) : (List.toArray l)[i]? = some y := by simpa using h
/-- An operation that yields the same in every world that meets S is taken first. -/
theorem tk {P : Program} {ops : Array Oper} {Q : Exit → Act → World → Prop} {md : Region.Mode} {S : World → Prop} {i : Nat} {oi : Oper} {v : Value} {fuel : Nat} {listed : Array Bool} {a : Act} {w : World} (hi : ops[i]? = some oi) (hb : (Region.noSelect ops && (Region.free md ops listed i && (Region.ready md ops listed).contains i)) = true)
    (hQ : ∀ c a w, Q (.panic c) (a.put oi.dst v) w → Q (.panic c) a w) (hy : YieldsIf P ops S oi v a) (hS : S w) (h : wpAnyH P md ops Q S fuel (listed.setIfInBounds i true) (a.put oi.dst v) w) : wpAnyH P md ops Q S (fuel + 1) listed a w :=
  wpAnyH_take hi (Bool.and_eq_true_iff.1 hb).1 (Bool.and_eq_true_iff.1 (Bool.and_eq_true_iff.1 hb).2).1 (Bool.and_eq_true_iff.1 (Bool.and_eq_true_iff.1 hb).2).2 hQ hy hS h
def insR (op a b n : Int) (r : X.By) : Bool := (decide (a = 0) || X.has r 65) && ((decide (b = 0) || X.has r 66) && ((decide (n = 0) || X.has r 78) && (X.isReg a && (X.isReg b && X.numOk op n))))
theorem insOk_eq {t : X.It} {r : X.By × X.By} (h : X.rowOf t.op = some r) : X.insOk t = insQ t.name t.op t.a t.b t.n r.2 := by
  unfold X.insOk; rw [h]; rfl
theorem insOk_none {t : X.It} (h : X.rowOf t.op = none) : X.insOk t = false := by
  unfold X.insOk; rw [h]

theorem hid_trans {A B C : World} (h : Hid (Below A.heap.size A B)) (h2 : Below B.heap.size B C) : Hid (Below A.heap.size A C) := h.out.trans (h2.mono h.out.size)
theorem ne_i {x y : Int} (h : ¬ x = y) : (x != y) = true := by simp [h]
theorem eq_i {x y : Int} (h : x = y) : (x != y) = false := by simp [h]

end Go.Proofs.YtgjingleolhkbaaGreatDoor

/- Whether an item may be; whether items may. -/
import Derived.Test.YtgjingleolhkbaaGreatDoorTAc
import Derived.Laws.StructEq
import Derived.Test.YtgjingleolhkbaaGreatDoorRows
import Derived.ProofKit
import Derived.ShutString
import Derived.ChangeOld
import Derived.ChangeMaps5
import Derived.Below
import Derived.Carry
import Derived.OpenShut
import Derived.Lib.SmallJoins
import Derived.Deep.Slices
import Derived.Deep.Strs
import Derived.Lib.LaidTab
import Derived.Stop.LaidErr
import Derived.Shelf.Vars
import Derived.Shelf.Strings.Shaped
import Derived.Test.YtgjingleolhkbaaGreatDoorTAb
import Derived.Deep.MidRow
import Derived.WalkKit
import Derived.Laws.BytesArg
import Derived.Test.YtgjingleolhkbaaGreatDoorProg
namespace Go.Proofs.YtgjingleolhkbaaGreatDoor
open Go.RowKit
set_option linter.unusedVariables false
set_option linter.unusedSimpArgs false

set_option maxRecDepth 100000 in
theorem eqIns (op a b n : Int) (w : World) : (Op.equalIn 10000 42 (.agg #[.int .i64 op, .int .i64 a, .int .i64 b, .int .i64 n]) (.agg #[.int .i64 0, .int .i64 0, .int .i64 0, .int .i64 0])).run Tryz.prog w = .ok (decide (op = 0 ∧ a = 0 ∧ b = 0 ∧ n = 0)) w := by
 have e : decide (op = 0 ∧ a = 0 ∧ b = 0 ∧ n = 0) = ((op == 0) && ((a == 0) && ((b == 0) && (n == 0)))) := by
  rw [Bool.eq_iff_iff]; simp
 rw [e]
 cases h1 : (op == (0 : Int))
 ·go_simp
 cases h2 : (a == (0 : Int))
 ·go_simp
 cases h3 : (b == (0 : Int))
 ·go_simp
 cases h4 : (n == (0 : Int))
 ·go_simp
 ·go_simp

set_option maxRecDepth 100000 in
set_option maxHeartbeats 40000000 in
theorem mayBe_any (k : Int) (nm : ByteArray) (op a b n : Int) (aw : Option Addr) (lw cw : Nat) (ws : List Int) (hlen : ws.length = lw) (hs : nm.size ≤ maxLen) (w : World) (ht : Tab w) :
  Calls Tryz.prog 44 #[.agg #[.int .i64 k, .string nm, .int .i64 op, .int .i64 a, .int .i64 b, .int .i64 n, .slice aw lw cw]] w fun e w' => e = .returned (.bool (X.itOk ⟨k, nm.data.toList, op, a, b, n, ws⟩)) ∧ Below w.heap.size w w' := by
 have hEq := eqIns op a b n
 obtain ⟨zI, hzI⟩ : ∃ zI, X.zeroIns ⟨k, nm.data.toList, op, a, b, n, ws⟩ = zI := ⟨_, rfl⟩
 have hEq' : ∀ w, (Op.equalIn 10000 42 (.agg #[.int .i64 op, .int .i64 a, .int .i64 b, .int .i64 n]) (.agg #[.int .i64 0, .int .i64 0, .int .i64 0, .int .i64 0])).run Tryz.prog w = .ok zI w := by rw [← hzI]; exact hEq
 clear hEq
 have HT : Hid _ := ht
 clear ht
 by_cases hk1 : k = 1
 ·subst hk1
  have HR : Hid (X.itOk ⟨1, nm.data.toList, op, a, b, n, ws⟩ = (X.name nm.data.toList && (decide (ws = []) && zI))) := by show _ = _; rw [← hzI]; simp [X.itOk]
  cases hnm : X.name nm.data.toList
  ·skip
   go_enter Tryz.func44, Tryz.ntmps44
   go_wp2_with (go_at_call 68; refine (nameMayBe_any nm hs _).mono ?_; rw [hnm]; rintro e y ⟨rfl, rfl⟩)
   go_ret
   exact ⟨ret_b (by rw [HR.out]; simp only [Bool.and_true, Bool.true_and, Bool.false_and, Bool.and_false, Bool.and_self, hnm]), bl1 _ _⟩
  ·by_cases hl0 : lw = 0
   ·have hl0' : decide (ws = []) = true := decide_eq_true (List.eq_nil_of_length_eq_zero (by omega))
    have hl1 : ((lw : Int) == 0) = true := by simp [hl0]
    clear hl0 hlen hzI
    cases zI
    ·skip
     go_enter Tryz.func44, Tryz.ntmps44
     go_wp2_with (go_at_call 68; refine (nameMayBe_any nm hs _).mono ?_; rw [hnm]; rintro e y ⟨rfl, rfl⟩)
     go_ret
     exact ⟨ret_b (by rw [HR.out]; simp only [Bool.and_true, Bool.true_and, Bool.false_and, Bool.and_false, Bool.and_self, hnm, hl0']), bl1 _ _⟩
    ·skip
     go_enter Tryz.func44, Tryz.ntmps44
     go_wp2_with (go_at_call 68; refine (nameMayBe_any nm hs _).mono ?_; rw [hnm]; rintro e y ⟨rfl, rfl⟩)
     go_ret
     exact ⟨ret_b (by rw [HR.out]; simp only [Bool.and_true, Bool.true_and, Bool.false_and, Bool.and_false, Bool.and_self, hnm, hl0']), bl1 _ _⟩
   ·have hl0' : decide (ws = []) = false := decide_eq_false (fun e => hl0 (by rw [← hlen, e]; rfl))
    have hl1 : ((lw : Int) == 0) = false := by simp [hl0]
    clear hl0 hlen hzI
    go_enter Tryz.func44, Tryz.ntmps44
    go_wp2_with (go_at_call 68; refine (nameMayBe_any nm hs _).mono ?_; rw [hnm]; rintro e y ⟨rfl, rfl⟩)
    go_ret
    exact ⟨ret_b (by rw [HR.out]; simp only [Bool.and_true, Bool.true_and, Bool.false_and, Bool.and_false, Bool.and_self, hnm, hl0']), bl1 _ _⟩
 by_cases hk4 : k = 4
 ·subst hk4
  have HR : Hid (X.itOk ⟨4, nm.data.toList, op, a, b, n, ws⟩ = (X.name nm.data.toList && (decide (ws = []) && zI))) := by show _ = _; rw [← hzI]; simp [X.itOk]
  cases hnm : X.name nm.data.toList
  ·skip
   go_enter Tryz.func44, Tryz.ntmps44
   go_wp2_with (go_at_call 68; refine (nameMayBe_any nm hs _).mono ?_; rw [hnm]; rintro e y ⟨rfl, rfl⟩)
   go_ret
   exact ⟨ret_b (by rw [HR.out]; simp only [Bool.and_true, Bool.true_and, Bool.false_and, Bool.and_false, Bool.and_self, hnm]), bl1 _ _⟩
  ·by_cases hl0 : lw = 0
   ·have hl0' : decide (ws = []) = true := decide_eq_true (List.eq_nil_of_length_eq_zero (by omega))
    have hl1 : ((lw : Int) == 0) = true := by simp [hl0]
    clear hl0 hlen hzI
    cases zI
    ·skip
     go_enter Tryz.func44, Tryz.ntmps44
     go_wp2_with (go_at_call 68; refine (nameMayBe_any nm hs _).mono ?_; rw [hnm]; rintro e y ⟨rfl, rfl⟩)
     go_ret
     exact ⟨ret_b (by rw [HR.out]; simp only [Bool.and_true, Bool.true_and, Bool.false_and, Bool.and_false, Bool.and_self, hnm, hl0']), bl1 _ _⟩
    ·skip
     go_enter Tryz.func44, Tryz.ntmps44
     go_wp2_with (go_at_call 68; refine (nameMayBe_any nm hs _).mono ?_; rw [hnm]; rintro e y ⟨rfl, rfl⟩)
     go_ret
     exact ⟨ret_b (by rw [HR.out]; simp only [Bool.and_true, Bool.true_and, Bool.false_and, Bool.and_false, Bool.and_self, hnm, hl0']), bl1 _ _⟩
   ·have hl0' : decide (ws = []) = false := decide_eq_false (fun e => hl0 (by rw [← hlen, e]; rfl))
    have hl1 : ((lw : Int) == 0) = false := by simp [hl0]
    clear hl0 hlen hzI
    go_enter Tryz.func44, Tryz.ntmps44
    go_wp2_with (go_at_call 68; refine (nameMayBe_any nm hs _).mono ?_; rw [hnm]; rintro e y ⟨rfl, rfl⟩)
    go_ret
    exact ⟨ret_b (by rw [HR.out]; simp only [Bool.and_true, Bool.true_and, Bool.false_and, Bool.and_false, Bool.and_self, hnm, hl0']), bl1 _ _⟩
 by_cases hk5 : k = 5
 ·subst hk5
  have HR : Hid (X.itOk ⟨5, nm.data.toList, op, a, b, n, ws⟩ = (X.name nm.data.toList && (decide (ws = []) && zI))) := by show _ = _; rw [← hzI]; simp [X.itOk]
  cases hnm : X.name nm.data.toList
  ·skip
   go_enter Tryz.func44, Tryz.ntmps44
   go_wp2_with (go_at_call 68; refine (nameMayBe_any nm hs _).mono ?_; rw [hnm]; rintro e y ⟨rfl, rfl⟩)
   go_ret
   exact ⟨ret_b (by rw [HR.out]; simp only [Bool.and_true, Bool.true_and, Bool.false_and, Bool.and_false, Bool.and_self, hnm]), bl1 _ _⟩
  ·by_cases hl0 : lw = 0
   ·have hl0' : decide (ws = []) = true := decide_eq_true (List.eq_nil_of_length_eq_zero (by omega))
    have hl1 : ((lw : Int) == 0) = true := by simp [hl0]
    clear hl0 hlen hzI
    cases zI
    ·skip
     go_enter Tryz.func44, Tryz.ntmps44
     go_wp2_with (go_at_call 68; refine (nameMayBe_any nm hs _).mono ?_; rw [hnm]; rintro e y ⟨rfl, rfl⟩)
     go_ret
     exact ⟨ret_b (by rw [HR.out]; simp only [Bool.and_true, Bool.true_and, Bool.false_and, Bool.and_false, Bool.and_self, hnm, hl0']), bl1 _ _⟩
    ·skip
     go_enter Tryz.func44, Tryz.ntmps44
     go_wp2_with (go_at_call 68; refine (nameMayBe_any nm hs _).mono ?_; rw [hnm]; rintro e y ⟨rfl, rfl⟩)
     go_ret
     exact ⟨ret_b (by rw [HR.out]; simp only [Bool.and_true, Bool.true_and, Bool.false_and, Bool.and_false, Bool.and_self, hnm, hl0']), bl1 _ _⟩
   ·have hl0' : decide (ws = []) = false := decide_eq_false (fun e => hl0 (by rw [← hlen, e]; rfl))
    have hl1 : ((lw : Int) == 0) = false := by simp [hl0]
    clear hl0 hlen hzI
    go_enter Tryz.func44, Tryz.ntmps44
    go_wp2_with (go_at_call 68; refine (nameMayBe_any nm hs _).mono ?_; rw [hnm]; rintro e y ⟨rfl, rfl⟩)
    go_ret
    exact ⟨ret_b (by rw [HR.out]; simp only [Bool.and_true, Bool.true_and, Bool.false_and, Bool.and_false, Bool.and_self, hnm, hl0']), bl1 _ _⟩
 by_cases hk3 : k = 3
 ·subst hk3
  have HR : Hid (X.itOk ⟨3, nm.data.toList, op, a, b, n, ws⟩ = (X.name nm.data.toList && (decide (1 ≤ lw) && (decide (lw ≤ 4096) && zI)))) := by show _ = _; rw [← hzI, ← hlen]; simp [X.itOk]
  cases hnm : X.name nm.data.toList
  ·skip
   go_enter Tryz.func44, Tryz.ntmps44
   go_wp2_with (go_at_call 68; refine (nameMayBe_any nm hs _).mono ?_; rw [hnm]; rintro e y ⟨rfl, rfl⟩)
   go_ret
   exact ⟨ret_b (by rw [HR.out]; simp only [Bool.and_true, Bool.true_and, Bool.false_and, Bool.and_false, Bool.and_self, hnm]), bl1 _ _⟩
  ·by_cases h1 : 1 ≤ lw
   ·have h1' : decide (1 ≤ lw) = true := decide_eq_true h1
    have h1i : (1 : Int) ≤ lw := by omega
    by_cases h2 : lw ≤ 4096
    ·have h2' : decide (lw ≤ 4096) = true := decide_eq_true h2
     have h2i : (lw : Int) ≤ 4096 := by omega
     clear hlen hzI
     cases zI
     ·skip
      go_enter Tryz.func44, Tryz.ntmps44
      go_wp2_with (go_at_call 68; refine (nameMayBe_any nm hs _).mono ?_; rw [hnm]; rintro e y ⟨rfl, rfl⟩)
      go_ret
      exact ⟨ret_b (by rw [HR.out]; simp only [Bool.and_true, Bool.true_and, Bool.false_and, Bool.and_false, Bool.and_self, hnm, h1', h2']), bl1 _ _⟩
     ·skip
      go_enter Tryz.func44, Tryz.ntmps44
      go_wp2_with (go_at_call 68; refine (nameMayBe_any nm hs _).mono ?_; rw [hnm]; rintro e y ⟨rfl, rfl⟩)
      go_ret
      exact ⟨ret_b (by rw [HR.out]; simp only [Bool.and_true, Bool.true_and, Bool.false_and, Bool.and_false, Bool.and_self, hnm, h1', h2']), bl1 _ _⟩
    ·have h2' : decide (lw ≤ 4096) = false := decide_eq_false h2
     have h2i : ¬ (lw : Int) ≤ 4096 := by omega
     clear hlen hzI
     go_enter Tryz.func44, Tryz.ntmps44
     go_wp2_with (go_at_call 68; refine (nameMayBe_any nm hs _).mono ?_; rw [hnm]; rintro e y ⟨rfl, rfl⟩)
     go_ret
     exact ⟨ret_b (by rw [HR.out]; simp only [Bool.and_true, Bool.true_and, Bool.false_and, Bool.and_false, Bool.and_self, hnm, h1', h2']), bl1 _ _⟩
   ·have h1' : decide (1 ≤ lw) = false := decide_eq_false h1
    have h1i : ¬ (1 : Int) ≤ lw := by omega
    clear hlen hzI
    go_enter Tryz.func44, Tryz.ntmps44
    go_wp2_with (go_at_call 68; refine (nameMayBe_any nm hs _).mono ?_; rw [hnm]; rintro e y ⟨rfl, rfl⟩)
    go_ret
    exact ⟨ret_b (by rw [HR.out]; simp only [Bool.and_true, Bool.true_and, Bool.false_and, Bool.and_false, Bool.and_self, hnm, h1']), bl1 _ _⟩
 by_cases hk2 : k = 2
 ·subst hk2
  have HR : Hid (X.itOk ⟨2, nm.data.toList, op, a, b, n, ws⟩ = (X.insOk ⟨2, nm.data.toList, op, a, b, n, ws⟩ && decide (ws = []))) := by show _ = _; simp [X.itOk]
  have hi := fun w h => insMayBe_any 2 nm op a b n aw lw cw ws hs w h
  cases hI : X.insOk ⟨2, nm.data.toList, op, a, b, n, ws⟩
  ·rw [hI] at hi
   go_enter Tryz.func44, Tryz.ntmps44
   go_wp2_with fail
   refine (hi _ (HT.out.alloc _)).mono ?_
   rintro e y ⟨rfl, hb⟩
   have HB : Hid _ := hb
   clear hb hEq' hi
   go_wp2_with fail
   go_ret
   exact ⟨ret_b (by rw [HR.out, hI]; rfl), (bl1 _ _).trans (HB.out.mono (bl1 _ _).size)⟩
  ·rw [hI] at hi
   obtain ⟨z, hz⟩ : ∃ z, decide (ws = []) = z := ⟨_, rfl⟩
   have hl1 : ((lw : Int) == 0) = z := by rw [← hz, Bool.eq_iff_iff]; simp [← hlen]
   have HR : Hid (X.itOk ⟨2, nm.data.toList, op, a, b, n, ws⟩ = z) := by show _ = _; rw [HR.out, hI, hz]; rfl
   clear hz hlen hzI
   have HC : Hid (∀ y, Below (w.alloc (.cells #[.int .i64 2, .string nm, .int .i64 op, .int .i64 a, .int .i64 b, .int .i64 n, .slice aw lw cw] 44)).heap.size (w.alloc (.cells #[.int .i64 2, .string nm, .int .i64 op, .int .i64 a, .int .i64 b, .int .i64 n, .slice aw lw cw] 44)) y → y.cell? ⟨w.heap.size, 6, none⟩ = some (.slice aw lw cw)) := fun y hy => cell_thru hy (row_cell rfl)
   go_enter Tryz.func44, Tryz.ntmps44
   go_wp2_with fail
   refine (hi _ (HT.out.alloc _)).mono ?_
   rintro e y ⟨rfl, hb⟩
   have q6 := HC.out _ hb
   have HB : Hid _ := hb
   clear hb hEq' hi
   cases z <;> go_wp2_with fail
   all_goals
    go_ret
    exact ⟨ret_b (by rw [HR.out]), (bl1 _ _).trans (HB.out.mono (bl1 _ _).size)⟩
 have HR : Hid (X.itOk ⟨k, nm.data.toList, op, a, b, n, ws⟩ = false) := by show _ = _; simp [X.itOk, hk1, hk2, hk3, hk4, hk5]
 have h1 : (k == 1) = false := by simp [hk1]
 have h2 : (k == 2) = false := by simp [hk2]
 have h3 : (k == 3) = false := by simp [hk3]
 have h4 : (k == 4) = false := by simp [hk4]
 have h5 : (k == 5) = false := by simp [hk5]
 clear hk1 hk2 hk3 hk4 hk5 hEq' hlen hzI
 go_enter Tryz.func44, Tryz.ntmps44
 go_wp2_with fail
 go_ret
 exact ⟨ret_b HR.out.symm, bl1 _ _⟩

/-! ### Items as they lie -/
structure IntsV (w : World) (a : Option Addr) (len cap : Nat) (zs : List Int) : Prop where
 count : zs.length = len
 room : len ≤ cap ∧ cap ≤ maxLen
 cells : len = 0 ∨ ∃ b off, a = some ⟨b, off, none⟩ ∧ ∀ i, i < len → w.cell? ⟨b, off + i, none⟩ = some (.int .i64 (zs.getD i 0))
theorem IntsV.below {w w1 : World} {a : Option Addr} {n c : Nat} {zs : List Int} (h : IntsV w a n c zs) (hb : Below w.heap.size w w1) : IntsV w1 a n c zs := by
 refine ⟨h.count, h.room, ?_⟩
 rcases h.cells with h0 | ⟨b, off, e, hc⟩
 ·exact .inl h0
 ·exact .inr ⟨b, off, e, fun i hi => cell_thru hb (hc i hi)⟩
structure ItsV (w : World) (a : Option Addr) (len cap : Nat) (ts : List X.It) : Prop where
 count : ts.length = len
 room : len ≤ cap ∧ cap ≤ maxLen
 fit : ∀ t ∈ ts, t.name.length ≤ maxLen ∧ X.fitsIt t
 cells : len = 0 ∨ ∃ b off, a = some ⟨b, off, none⟩ ∧ ∀ i, i < len → ∃ aw lw cw, w.cell? ⟨b, off + i * 7, none⟩ = some (.int .i64 (ts.getD i X.noIt).kind) ∧ w.cell? ⟨b, off + i * 7 + 1, none⟩ = some (.string (X.str (ts.getD i X.noIt).name)) ∧ w.cell? ⟨b, off + i * 7 + 2, none⟩ = some (.int .i64 (ts.getD i X.noIt).op) ∧ w.cell? ⟨b, off + i * 7 + 3, none⟩ = some (.int .i64 (ts.getD i X.noIt).a) ∧ w.cell? ⟨b, off + i * 7 + 4, none⟩ = some (.int .i64 (ts.getD i X.noIt).b) ∧ w.cell? ⟨b, off + i * 7 + 5, none⟩ = some (.int .i64 (ts.getD i X.noIt).n) ∧ w.cell? ⟨b, off + i * 7 + 6, none⟩ = some (.slice aw lw cw) ∧ IntsV w aw lw cw (ts.getD i X.noIt).words
theorem ItsV.below {w w1 : World} {a : Option Addr} {n c : Nat} {ts : List X.It} (h : ItsV w a n c ts) (hb : Below w.heap.size w w1) : ItsV w1 a n c ts := by
 refine ⟨h.count, h.room, h.fit, ?_⟩
 rcases h.cells with h0 | ⟨b, off, e, hc⟩
 ·exact .inl h0
 ·refine .inr ⟨b, off, e, fun i hi => ?_⟩
  obtain ⟨aw, lw, cw, h0, h1, h2, h3, h4, h5, h6, h7⟩ := hc i hi
  exact ⟨aw, lw, cw, cell_thru hb h0, cell_thru hb h1, cell_thru hb h2, cell_thru hb h3, cell_thru hb h4, cell_thru hb h5, cell_thru hb h6, h7.below hb⟩
theorem ItsV.at {w : World} {a : Option Addr} {n c : Nat} {ts : List X.It} (h : ItsV w a n c ts) {i : Nat} (hi : i < n) : ∃ b off t aw lw cw, a = some ⟨b, off, none⟩ ∧ ts.getD i X.noIt = t ∧ t ∈ ts ∧ w.cell? ⟨b, off + i * 7, none⟩ = some (.int .i64 t.kind) ∧ w.cell? ⟨b, off + i * 7 + 1, none⟩ = some (.string (X.str t.name)) ∧ w.cell? ⟨b, off + i * 7 + 2, none⟩ = some (.int .i64 t.op) ∧ w.cell? ⟨b, off + i * 7 + 3, none⟩ = some (.int .i64 t.a) ∧ w.cell? ⟨b, off + i * 7 + 4, none⟩ = some (.int .i64 t.b) ∧ w.cell? ⟨b, off + i * 7 + 5, none⟩ = some (.int .i64 t.n) ∧ w.cell? ⟨b, off + i * 7 + 6, none⟩ = some (.slice aw lw cw) ∧ IntsV w aw lw cw t.words := by
 rcases h.cells with h0 | ⟨b, off, e, hc⟩
 ·omega
 ·obtain ⟨aw, lw, cw, h7⟩ := hc i hi
  refine ⟨b, off, _, aw, lw, cw, e, rfl, ?_, h7⟩
  have : i < ts.length := by rw [h.count]; exact hi
  simp [List.getD, this]
theorem mem_take {ts : List X.It} {k : Nat} {p : X.It → Prop} (h : ∀ t ∈ ts.take k, p t) (hk : k < ts.length) (hp : p (ts.getD k X.noIt)) : ∀ t ∈ ts.take (k + 1), p t := by
 intro t ht
 rw [List.take_add_one, List.getElem?_eq_getElem hk] at ht
 rcases List.mem_append.1 ht with ht | ht
 ·exact h t ht
 ·simp at ht; subst ht; simpa [List.getD, hk] using hp

set_option maxRecDepth 100000 in
set_option maxHeartbeats 8000000 in
theorem check_any {w : World} {al : Option Addr} {l c : Nat} {ts : List X.It} (h : ItsV w al l c ts) (ht : Tab w) :
  Calls Tryz.prog 22 #[.slice al l c] w fun e w' => e = .returned (.int .i64 (if X.itsOk ts = true then 0 else 1)) ∧ Below w.heap.size w w' := by
 have H : Hid _ := h
 have HT : Hid _ := ht
 have hm : l ≤ 9223372036854775807 := by have := h.room; unfold maxLen at this; omega
 have hcount := h.count
 clear h ht
 generalize hz : (if X.itsOk ts = true then (0 : Int) else 1) = z
 have HZ : Hid _ := hz
 clear hz
 by_cases hbig : 20000 < l
 ·have HR : Hid (¬ X.itsOk ts = true) := fun e => by have := (X.itsOk_iff.1 e).1; omega
  clear hcount
  go_enter Tryz.func22, Tryz.ntmps22
  go_wp2_with fail
  go_ret
  exact ⟨ret_i (by have := HZ.out; rw [if_neg HR.out] at this; exact this), Below.refl _ _⟩
 have hdec : ¬ (20000 : Int) < l := by omega
 have HCT : Hid (ts.length = l) := hcount
 clear hcount
 go_enter Tryz.func22, Tryz.ntmps22
 go_wp2_with fail
 go_loopg [10] l (fun r iv wq => ∃ (k : Nat), iv = .int .i64 k ∧ k ≤ l ∧ l - k ≤ r ∧ Hid (∀ t ∈ ts.take k, X.itOk t = true) ∧ Hid (Below w.heap.size w wq))
 case atStart => exact ⟨0, rfl, Nat.zero_le _, by omega, (fun t ht => by simp at ht : ∀ t ∈ ts.take 0, X.itOk t = true), Below.refl _ _⟩
 case round =>
  obtain ⟨k, rfl, hk, hr, HAL, HB⟩ := hrel
  by_cases hlt : k < l
  ·obtain ⟨b, off, t, aw, lw, cw, rfl, hg, hmem, c0, c1, c2, c3, c4, c5, c6, hi⟩ := (H.out.below HB.out).at hlt
   have hfit := H.out.fit t hmem
   have hcall := fun w h => mayBe_any t.kind (X.str t.name) t.op t.a t.b t.n aw lw cw t.words hi.count (by rw [str_size]; exact hfit.1) w h
   simp only [str_list] at hcall
   have HG : Hid _ := hg
   have HM : Hid _ := hmem
   have HTR : Hid (Tab wr) := HT.out.below HB.out
   have hii : (k : Int) < l := by omega
   have hin : 0 ≤ (k : Int) := by omega
   clear hfit hi hg hmem
   obtain ⟨kd, nm, op, a, bb, n, ws⟩ := t
   simp only at c0 c1 c2 c3 c4 c5 hcall
   cases hok : X.itOk ⟨kd, nm, op, a, bb, n, ws⟩
   ·rw [hok] at hcall
    have HR : Hid (¬ X.itsOk ts = true) := fun e => by have := (X.itsOk_iff.1 e).2 _ HM.out; rw [hok] at this; cases this
    go_wp2_with fail
    refine (hcall _ (HTR.out.alloc _)).mono ?_
    rintro e y ⟨rfl, hb⟩
    have HB2 : Hid _ := hb
    clear hb hcall c0 c1 c2 c3 c4 c5 c6
    go_wp2_with fail
    go_ret
    exact ⟨ret_i (by have := HZ.out; rw [if_neg HR.out] at this; exact this), HB.out.trans (((bl1 _ _).trans (HB2.out.mono (bl1 _ _).size)).mono HB.out.size)⟩
   ·rw [hok] at hcall
    have HN : Hid (∀ t ∈ ts.take (k + 1), X.itOk t = true) := mem_take HAL.out (by rw [HCT.out]; exact hlt) (by rw [HG.out]; exact hok)
    go_wp2_with fail
    refine (hcall _ (HTR.out.alloc _)).mono ?_
    rintro e y ⟨rfl, hb⟩
    have HB2 : Hid _ := hb
    clear hb hcall c0 c1 c2 c3 c4 c5 c6
    go_wp2_with fail
    go_roundg (l - (k + 1))
    case measure => omega
    case rel => exact ⟨k + 1, by go_num, by omega, Nat.le_refl _, HN.out, HB.out.trans (((bl1 _ _).trans (HB2.out.mono (bl1 _ _).size)).mono HB.out.size)⟩
  ·obtain rfl : k = l := by omega
   have HR : Hid (X.itsOk ts = true) := X.itsOk_iff.2 ⟨by rw [HCT.out]; omega, fun t ht => HAL.out t (by rw [← HCT.out, List.take_length]; exact ht)⟩
   have hii : ¬ (k : Int) < k := by omega
   go_wp2_with fail
   go_ret
   exact ⟨ret_i (by have := HZ.out; rw [if_pos HR.out] at this; exact this), HB.out⟩

end Go.Proofs.YtgjingleolhkbaaGreatDoor

/- The arguments of layer 9's statements, opened. -/
namespace Go.Proofs.YtgjingleolhkbaaGreatDoor
open Go.ChangeShapes Go.WideShapes Go.ChangeAt Go.RowKit Go.Joins
set_option linter.unusedVariables false
set_option linter.unusedSimpArgs false

section
variable {H : Type} {enc : TypeId × Value → H} {w : World} {base : Nat} {spare : Nat → Bool} {held : Bool}
theorem cell_str : Tryz.prog.cellsOf 9 = 1 := by kernel_rfl
end

/-! ### The variables -/
theorem gRows : Tryz.prog.globalNamed "cotter/asmtext.rows" = some 0 := by kernel_rfl
theorem gES : Tryz.prog.globalNamed "strconv.ErrSyntax" = some 4 := by kernel_rfl
theorem gER : Tryz.prog.globalNamed "strconv.ErrRange" = some 5 := by kernel_rfl
theorem tRows : (Tryz.prog.globals[0]?).map (·.type) = some 143 := by kernel_rfl
theorem tES : (Tryz.prog.globals[4]?).map (·.type) = some 157 := by kernel_rfl
theorem tER : (Tryz.prog.globals[5]?).map (·.type) = some 157 := by kernel_rfl
theorem cRows : Tryz.prog.cellsOf 143 = 68 := by kernel_rfl
theorem cRow : Tryz.prog.cellsOf 125 = 2 := by kernel_rfl
theorem cES : Tryz.prog.cellsOf 185 = 1 := by kernel_rfl
theorem star : "*" ++ "errors.errorString" = "*errors.errorString" := by decide
theorem rowES (u : TypeId) (h : Tryz.prog.typeName? 3 u = some "*errors.errorString") : u = 183 :=
 typeName_ptr_named (nm := "errors.errorString") (by rw [star]; kernel_rfl) (by kernel_rfl) (by decide) u (by rw [star]; exact h)

theorem tPow : (Tryz.prog.globals[6]?).map (·.type) = some 187 := by kernel_rfl
theorem cPow : Tryz.prog.cellsOf 187 = 20 := by kernel_rfl
theorem cU64 : Tryz.prog.cellsOf 116 = 1 := by kernel_rfl
theorem laidPow : Rows.laid_internal_strconv_uint64pow10 (H := Unit) = Lib.tabData .u64 Lib.pow10Tab := by rfl
def rowD (r : X.By × X.By) : DataW Unit := .agg [.lit (.string r.1), .lit (.string r.2)]
theorem laidRows : Rows.laid_cotter_asmtext_rows (H := Unit) = .agg (X.rows.map rowD) := by rfl

set_option maxRecDepth 100000 in
theorem rows_of_trod {W : World} {fuel : Nat} {cs : List Value} {p : List MemPlace} {enc : TypeId × Value → Unit} {base : Nat} {sp : Nat → Bool} {held : Bool}
  (h : DataW.trod enc Tryz.prog W base sp held fuel 143 cs = some (Rows.laid_cotter_asmtext_rows, p)) : ∀ k, k < 34 → cs[k * 2]? = some (.string (X.str (X.row k).1)) ∧ cs[k * 2 + 1]? = some (.string (X.str (X.row k).2)) := by
 obtain ⟨xs, m, -, hx, hl, hn, hel⟩ := DataW.trod_array Tryz.underlying143 h
 rw [cRows] at hl
 rw [cRow] at hel
 have hx1 : xs.map (·.1) = X.rows.map rowD := by
  simp only [Prod.mk.injEq] at hx
  have h1 := hx.1
  rw [laidRows] at h1
  injection h1 with h1
  exact h1.symm
 intro k hk
 have h1 := hel k hk
 obtain ⟨y, hy⟩ : ∃ y, xs[k]? = some y := ⟨xs[k], List.getElem?_eq_getElem (by omega)⟩
 rw [hy] at h1
 have h2 : (xs.map (·.1))[k]? = some y.1 := by rw [List.getElem?_map, hy]; rfl
 have hrow : X.rows[k]? = some (X.row k) := by simp [X.row, List.getD, X.rows_length, hk]
 rw [hx1, List.getElem?_map, hrow] at h2
 have h3 : rowD (X.row k) = y.1 := Option.some.inj h2
 obtain ⟨y0, y1, n, e0, hl2, g0, g1⟩ := trod_struct2 Tryz.underlying125 h1
 simp only [cell_str] at g0 g1
 obtain ⟨s0, q0, d0, -⟩ := DataW.trod_string Tryz.underlying9 g0
 obtain ⟨s1, q1, d1, -⟩ := DataW.trod_string Tryz.underlying9 g1
 rw [e0, d0, d1] at h3
 simp only [rowD, DataW.agg.injEq, List.cons.injEq, DataW.lit.injEq, Lit.string.injEq, and_true] at h3
 obtain ⟨p0, p1⟩ := h3
 have k0 := congrArg (·[0]?) q0
 have k1 := congrArg (·[0]?) q1
 simp only [List.getElem?_take, List.getElem?_drop, List.getElem?_cons_zero] at k0 k1
 have z0 : s0 = X.str (X.row k).1 := by rw [p0, str_eq]
 have z1 : s1 = X.str (X.row k).2 := by rw [p1, str_eq]
 rw [← z0, ← z1]
 exact ⟨by simpa using k0, by simpa using k1⟩
theorem maxlen_of {W : World} (h : W.ShapedOpen Tryz.prog) : ∃ m, W.cell? ⟨3, 0, none⟩ = some (.int .i64 m) :=
 Go.Proofs.cell_of_shapedOpen_int (zero := #[.int .i64 0]) (t := 3) h (of_decide_eq_true (by kernel_rfl)) (by kernel_rfl) rfl (by kernel_rfl) (by kernel_rfl) Tryz.underlying3
theorem gB64 : Tryz.prog.globalNamed "math/bits.deBruijn64tab" = some 8 := by kernel_rfl
theorem size_of {W : World} {cs : Array Value} (h : W.var? Tryz.prog "math/bits.deBruijn64tab" = some cs) : 9 ≤ W.heap.size := by
 unfold World.var? at h
 rw [gB64] at h
 simp only [Option.bind_some] at h
 cases hc : W.heap[8]? with
 | none => rw [hc] at h; cases h
 | some o => have := (Array.getElem?_eq_some_iff.1 hc).1; omega

theorem tab_of_laid {W : World} (h : laidMetH Tryz.prog Rows.asmTextsRow.laid W) (hsh : W.ShapedOpen Tryz.prog) : Tab W := by
 have h9 : laidMet Tryz.prog Rows.asmTextsRow.laid W := h
 have h' := h9.tail.tail
 obtain ⟨ps6, ⟨g6, t6, cs6, f6, p6, q6, hg6, ht6, hv6, hd6, _, _⟩, _, _⟩ := h'.tail
 have h2 := h'.tail.tail
 have h3 := h2.tail
 have h4 := h3.tail
 have h5 := h4.tail
 have hp : Lib.TabIs Tryz.prog W "internal/strconv.uint64pow10" .u64 Lib.pow10Tab := by
  have e : (Rows.laid_internal_strconv_uint64pow10 (H := Unit)) = Lib.tabData .u64 Lib.pow10Tab := laidPow
  exact Lib.tabIs_of_head (rest := [("strconv.ErrRange", Rows.laid_strconv_ErrRange), ("strconv.ErrSyntax", Rows.laid_strconv_ErrSyntax), ("cotter/asmtext.rows", Rows.laid_cotter_asmtext_rows)]) gPow tPow Tryz.underlying187 Tryz.underlying116 cU64 cPow (by rw [← e]; exact h2)
 obtain ⟨a0, s0, hv0, -, -, -⟩ := laid_sentinel h3 gER tER Tryz.underlying157 rowES Tryz.underlying183 Tryz.underlying185 rfl rfl Tryz.underlying9 cES cell_str
 obtain ⟨a1, s1, hv1, -, -, -⟩ := laid_sentinel h4 gES tES Tryz.underlying157 rowES Tryz.underlying183 Tryz.underlying185 rfl rfl Tryz.underlying9 cES cell_str
 obtain ⟨ps, ⟨g2, t2, cs2, f2, p2, q2, hg2, ht2, hv2, hd2, _, _⟩, _, _⟩ := h5
 obtain rfl := Option.some.inj (gRows.symm.trans hg2)
 obtain rfl := Option.some.inj (tRows.symm.trans ht2)
 have k0 := World.var?_cell gER hv0 0
 have k1 := World.var?_cell gES hv1 0
 have k2 := World.var?_cell hg2 hv2
 have e0 := rows_of_trod hd2
 exact ⟨fun k hk => ⟨by rw [k2 (k * 2), ← Array.getElem?_toList, (e0 k hk).1], by rw [k2 (k * 2 + 1), ← Array.getElem?_toList, (e0 k hk).2]⟩, maxlen_of hsh, hp, ⟨_, by simpa using k1, .inr ⟨_, _, rfl⟩⟩, ⟨_, by simpa using k0, .inr ⟨_, _, rfl⟩⟩, size_of hv6⟩

end Go.Proofs.YtgjingleolhkbaaGreatDoor

/- The instruction of a mnemonic. -/
namespace Go.Proofs.YtgjingleolhkbaaGreatDoor
open Go.RowKit
set_option linter.unusedVariables false
set_option linter.unusedSimpArgs false

def X.rowsL : List Value := X.rows.flatMap fun r => [.string (X.str r.1), .string (X.str r.2)]
theorem cases34 {P : Nat → Prop} (k : Nat) (h : k < 34) (h0 : P 0) (h1 : P 1) (h2 : P 2) (h3 : P 3) (h4 : P 4) (h5 : P 5) (h6 : P 6) (h7 : P 7) (h8 : P 8) (h9 : P 9) (h10 : P 10) (h11 : P 11) (h12 : P 12) (h13 : P 13) (h14 : P 14) (h15 : P 15) (h16 : P 16) (h17 : P 17) (h18 : P 18) (h19 : P 19) (h20 : P 20) (h21 : P 21) (h22 : P 22) (h23 : P 23) (h24 : P 24) (h25 : P 25) (h26 : P 26) (h27 : P 27) (h28 : P 28) (h29 : P 29) (h30 : P 30) (h31 : P 31) (h32 : P 32) (h33 : P 33) : P k := by
 rcases (show k = 0 ∨ k = 1 ∨ k = 2 ∨ k = 3 ∨ k = 4 ∨ k = 5 ∨ k = 6 ∨ k = 7 ∨ k = 8 ∨ k = 9 ∨ k = 10 ∨ k = 11 ∨ k = 12 ∨ k = 13 ∨ k = 14 ∨ k = 15 ∨ k = 16 ∨ k = 17 ∨ k = 18 ∨ k = 19 ∨ k = 20 ∨ k = 21 ∨ k = 22 ∨ k = 23 ∨ k = 24 ∨ k = 25 ∨ k = 26 ∨ k = 27 ∨ k = 28 ∨ k = 29 ∨ k = 30 ∨ k = 31 ∨ k = 32 ∨ k = 33 by omega) with rfl | rfl | rfl | rfl | rfl | rfl | rfl | rfl | rfl | rfl | rfl | rfl | rfl | rfl | rfl | rfl | rfl | rfl | rfl | rfl | rfl | rfl | rfl | rfl | rfl | rfl | rfl | rfl | rfl | rfl | rfl | rfl | rfl | rfl <;> assumption
set_option maxRecDepth 100000 in
theorem index_rows (k : Nat) (hk : k < 34) (w : World) : (Instr.index 143 (.agg X.rowsL.toArray) (.int .i64 k)).run Tryz.prog w = .ok (.agg #[.string (X.str (X.row k).1), .string (X.str (X.row k).2)]) w := by
 refine cases34 (P := fun k => (Instr.index 143 (.agg X.rowsL.toArray) (.int .i64 k)).run Tryz.prog w = .ok (.agg #[.string (X.str (X.row k).1), .string (X.str (X.row k).2)]) w) k hk ?_ ?_ ?_ ?_ ?_ ?_ ?_ ?_ ?_ ?_ ?_ ?_ ?_ ?_ ?_ ?_ ?_ ?_ ?_ ?_ ?_ ?_ ?_ ?_ ?_ ?_ ?_ ?_ ?_ ?_ ?_ ?_ ?_ ?_
 all_goals rfl
theorem rowsL_length : X.rowsL.length = 68 := rfl
theorem rowsL_at (k : Nat) (hk : k < 34) : X.rowsL[k * 2]? = some (.string (X.str (X.row k).1)) ∧ X.rowsL[k * 2 + 1]? = some (.string (X.str (X.row k).2)) := by
 refine cases34 (P := fun k => X.rowsL[k * 2]? = some (.string (X.str (X.row k).1)) ∧ X.rowsL[k * 2 + 1]? = some (.string (X.str (X.row k).2))) k hk ?_ ?_ ?_ ?_ ?_ ?_ ?_ ?_ ?_ ?_ ?_ ?_ ?_ ?_ ?_ ?_ ?_ ?_ ?_ ?_ ?_ ?_ ?_ ?_ ?_ ?_ ?_ ?_ ?_ ?_ ?_ ?_ ?_ ?_
 all_goals exact ⟨rfl, rfl⟩
theorem rows_range {w : World} (ht : Tab w) : w.rangeAt 0 0 X.rowsL := by
 intro j v hv
 have hj : j < 68 := by have := (List.getElem?_eq_some_iff.1 hv).1; rw [rowsL_length] at this; exact this
 obtain ⟨h1, h2⟩ := rowsL_at (j / 2) (by omega)
 obtain ⟨h3, h4⟩ := ht.rw (j / 2) (by omega)
 rw [Nat.zero_add]
 by_cases e : j % 2 = 0
 ·rw [show j = j / 2 * 2 by omega] at hv ⊢
  rw [h1] at hv
  cases hv
  exact h3
 ·rw [show j = j / 2 * 2 + 1 by omega] at hv ⊢
  rw [h2] at hv
  cases hv
  exact h4
theorem opOf_yes {m : X.By} {k : Nat} (hk : k < 34) (h : (X.row k).1 = m) (hno : ∀ j, j < k → (X.row j).1 ≠ m) : X.opOf m = some k := by
 unfold X.opOf
 rw [List.findIdx?_eq_some_iff_getElem]
 have hg : ∀ j, (hj : j < 34) → X.rows[j]'(by rw [X.rows_length]; exact hj) = X.row j := fun j hj => by simp [X.row, List.getD, X.rows_length, hj]
 refine ⟨by rw [X.rows_length]; exact hk, by rw [hg k hk]; simpa using h, fun j hj => ?_⟩
 rw [hg j (by omega)]
 simpa using hno j hj
theorem opOf_no {m : X.By} (hno : ∀ j, j < 34 → (X.row j).1 ≠ m) : X.opOf m = none := by
 unfold X.opOf
 rw [List.findIdx?_eq_none_iff]
 intro x hx
 obtain ⟨j, hj, rfl⟩ := List.mem_iff_getElem.1 hx
 have hj' : j < 34 := by rw [X.rows_length] at hj; exact hj
 have := hno j hj'
 simp only [X.row, List.getD, List.getElem?_eq_getElem hj, Option.getD_some] at this
 simpa using this
def OpOut (w : World) (r : Option Nat) (e : Ending) (w' : World) : Prop := (match r with | none => e = .returned (.tuple #[.int .i64 0, .bool false]) | some k => e = .returned (.tuple #[.int .i64 (k : Int), .bool true])) ∧ Below w.heap.size w w'

set_option maxRecDepth 100000 in
set_option maxHeartbeats 8000000 in
theorem opOf_any (s : ByteArray) (w : World) (ht : Tab w) :
  Calls Tryz.prog 115 #[.string s] w (OpOut w (X.opOf s.data.toList)) := by
 have HG : Hid _ := rows_range ht
 have hz := ht.hz
 have z0 : 0 < w.heap.size := by omega
 clear ht
 go_enter Tryz.func115, Tryz.ntmps115
 have hA := index_rows
 go_wp2_with (refine wpList_load_mid (by rfl) 143 (.global 0) (by rfl) 0 0 (by rfl) X.rowsL _ HG.out Tryz.underlying143 (by rfl) (by rw [rowsL_length]; kernel_rfl) ?_; simp only [Act.put, List.setIfInBounds_toArray, List.set_cons_zero, List.set_cons_succ]; generalize Value.agg X.rowsL.toArray = A at hA ⊢)
 go_loopg [7] 34 (fun r i wq => ∃ (k : Nat), i = .int .i64 k ∧ k ≤ 34 ∧ 34 - k ≤ r ∧ Hid (∀ j, j < k → (X.row j).1 ≠ s.data.toList) ∧ Hid (Below w.heap.size w wq))
 case atStart => exact ⟨0, rfl, Nat.zero_le _, by omega, (fun j hj => by omega : ∀ j, j < 0 → (X.row j).1 ≠ s.data.toList), Below.refl _ _⟩
 case round =>
  obtain ⟨k, rfl, hk, hr, HA, HB⟩ := hrel
  by_cases hlt : k < 34
  ·have hix := hA k hlt
   by_cases he : (X.row k).1 = s.data.toList
   ·have he' : ((X.str (X.row k).1).toList == s.toList) = true := toList_eq' (by rw [str_list]; exact he)
    have HR : Hid (X.opOf s.data.toList = some k) := opOf_yes hlt he HA.out
    clear he hA
    generalize X.str (X.row k).1 = b1 at *
    generalize X.str (X.row k).2 = b2 at *
    go_wp2_with fail
    go_ret2
    unfold OpOut; rw [HR.out]; exact ⟨rfl, HB.out.alloc HB.out.size _⟩
   ·have he' : ((X.str (X.row k).1).toList == s.toList) = false := toList_ne' (by rw [str_list]; exact he)
    have HN : Hid (∀ j, j < k + 1 → (X.row j).1 ≠ s.data.toList) := fun j hj => by
     by_cases e : j = k
     ·subst e; exact he
     ·exact HA.out j (by omega)
    clear he hA
    generalize X.str (X.row k).1 = b1 at *
    generalize X.str (X.row k).2 = b2 at *
    go_wp2_with fail
    go_roundg (34 - (k + 1))
    case measure => omega
    case rel => exact ⟨k + 1, by go_num, by omega, Nat.le_refl _, HN.out, HB.out.alloc HB.out.size _⟩
  ·obtain rfl : k = 34 := by omega
   have HR : Hid (X.opOf s.data.toList = none) := opOf_no HA.out
   clear hA
   go_wp2_with fail
   go_ret2
   unfold OpOut; rw [HR.out]; exact ⟨rfl, HB.out⟩

end Go.Proofs.YtgjingleolhkbaaGreatDoor

/- The forms of instructions, by their numbers: no program in sight. -/
namespace Go.Proofs.YtgjingleolhkbaaGreatDoor.J.I

def form (op : Int) : Int :=
 if op = 1 then 1 else if 2 ≤ op ∧ op ≤ 16 then 2 else if op = 17 ∨ op = 18 ∨ op = 28 ∨ op = 29 then 3 else if op = 19 ∨ op = 21 ∨ op = 22 then 4
 else if op = 20 ∨ op = 23 then 5 else if op = 24 ∨ op = 30 ∨ op = 32 then 6 else if op = 25 then 7 else if op = 26 ∨ op = 27 then 8 else if op = 31 then 9
 else if op = 33 then 10 else 0
def hasA (f : Int) : Bool := f == 1 || f == 2 || f == 3 || f == 4 || f == 8 || f == 9
def hasB (f : Int) : Bool := f == 2 || f == 3
def numB (f : Int) : Int := if f = 1 then 8 else if f = 3 ∨ f = 4 ∨ f = 5 then 4 else if f = 7 ∨ f = 8 ∨ f = 10 then 1 else 0
def size (op : Int) : Int :=
 if form op = 0 then 0 else if hasA (form op) = true then 1 + (numB (form op) + 1) else 1 + numB (form op)

theorem cases33 (op : Int) (h1 : 1 ≤ op) (h2 : op ≤ 33) : op = 1 ∨ op = 2 ∨ op = 3 ∨ op = 4 ∨ op = 5 ∨ op = 6 ∨ op = 7 ∨ op = 8 ∨ op = 9 ∨ op = 10 ∨ op = 11 ∨ op = 12 ∨ op = 13 ∨ op = 14 ∨ op = 15 ∨ op = 16 ∨ op = 17 ∨ op = 18 ∨ op = 19 ∨ op = 20 ∨ op = 21 ∨ op = 22 ∨ op = 23 ∨ op = 24 ∨ op = 25 ∨ op = 26 ∨ op = 27 ∨ op = 28 ∨ op = 29 ∨ op = 30 ∨ op = 31 ∨ op = 32 ∨ op = 33 := by omega
theorem form_none {op : Int} (h : op < 1 ∨ 33 < op) : form op = 0 := by
 unfold form
 rw [if_neg (by omega), if_neg (by omega), if_neg (by omega), if_neg (by omega), if_neg (by omega), if_neg (by omega), if_neg (by omega), if_neg (by omega), if_neg (by omega), if_neg (by omega)]
theorem form_range (op : Int) : 0 ≤ form op ∧ form op ≤ 10 := by
 unfold form
 repeat (split; omega)
 omega
theorem form_some {op : Int} (h1 : 1 ≤ op) (h2 : op ≤ 33) : form op ≠ 0 := by
 unfold form
 intro h
 repeat (split at h; omega)
 omega
theorem size_none {op : Int} (h : op < 1 ∨ 33 < op) : size op = 0 := if_pos (form_none h)

end Go.Proofs.YtgjingleolhkbaaGreatDoor.J.I

/- Plain facts on 64-bit numbers, the bits of a count, and what an instruction makes of two numbers: no program in sight. -/
namespace Go.Proofs.YtgjingleolhkbaaGreatDoor.J.W
open Go.RowKit

end Go.Proofs.YtgjingleolhkbaaGreatDoor.J.W

/- Plain facts on numbers as bytes: no program in sight. -/
namespace Go.Proofs.YtgjingleolhkbaaGreatDoor.J.W
open Go.RowKit

def sx (size u : Int) : Int := if size = 1 then (u + 128) % 256 - 128 else if size = 4 then wrap32 u else wrap64 u

def byteAt (n : Int) (i : Nat) : Int := n / 256 ^ i % 256
def bytesOf (n : Int) (s : Nat) : List Int := (List.range s).map (byteAt n)

def isSz (size : Int) : Bool := size == 1 || size == 4 || size == 8
def bytesE (n size : Int) : Int := if isSz size then (if sx size n = n then 0 else 7) else 1
def bytesV (n size : Int) : List Int := if isSz size then (if sx size n = n then bytesOf n size.toNat else []) else []

theorem bytesOf_length (n : Int) (s : Nat) : (bytesOf n s).length = s := by simp [bytesOf]

theorem bytesOf_succ (n : Int) (k : Nat) : bytesOf n (k + 1) = bytesOf n k ++ [byteAt n k] := by
 simp [bytesOf, List.range_succ]

def rowK (n : Int) (s k : Nat) : List Int := bytesOf n k ++ List.replicate (s - k) 0

theorem rowK_length (n : Int) (s k : Nat) (h : k ≤ s) : (rowK n s k).length = s := by simp [rowK, bytesOf]; omega

theorem rowK_zero (n : Int) (s : Nat) : rowK n s 0 = List.replicate s 0 := by simp [rowK, bytesOf]

theorem rowK_full (n : Int) (s : Nat) : rowK n s s = bytesOf n s := by simp [rowK]

theorem rowK_set (n : Int) (s k : Nat) (h : k < s) : (rowK n s k).set k (byteAt n k) = rowK n s (k + 1) := by
 unfold rowK
 rw [List.set_append_right _ _ (by simp [bytesOf]), bytesOf_succ]
 have e : s - k = (s - (k + 1)) + 1 := by omega
 simp [bytesOf_length, e, List.replicate_succ]

theorem pow256 (k : Nat) : (2 : Int) ^ (8 * k) = 256 ^ k := by
 rw [Int.pow_mul]; rfl

theorem rowK_store (n : Int) (s k : Nat) (h : k < s) : ((rowK n s k).map (Value.int .u8)).set k (.int .u8 (n / 2 ^ (8 * k) % 256)) = (rowK n s (k + 1)).map (Value.int .u8) := by
 rw [← rowK_set n s k h, List.map_set, pow256]; rfl

theorem byteU (n : Int) (k : Nat) (hk : k < 8) : (n % 18446744073709551616) / 256 ^ k % 256 = byteAt n k := by
 unfold byteAt
 rcases (show k = 0 ∨ k = 1 ∨ k = 2 ∨ k = 3 ∨ k = 4 ∨ k = 5 ∨ k = 6 ∨ k = 7 by omega) with rfl | rfl | rfl | rfl | rfl | rfl | rfl | rfl <;> omega

theorem pow256_succ (x : Int) (k : Nat) : x / 256 ^ k / 256 = x / 256 ^ (k + 1) := by
 have : (0 : Int) ≤ 256 ^ k := Int.pow_nonneg (by decide)
 rw [Int.ediv_ediv_of_nonneg this, Int.pow_succ]

theorem sx1 (u : Int) : wrap64 (IntKind.u64.wrap (u * 72057594037927936)) / 72057594037927936 = (u + 128) % 256 - 128 := by
 rw [IntKind.wrap_u64]; unfold wrap64; omega
theorem sx4 (u : Int) : wrap64 (IntKind.u64.wrap (u * 4294967296)) / 4294967296 = wrap32 u := by
 rw [IntKind.wrap_u64]; unfold wrap64 wrap32; omega
theorem sx8 (u : Int) : wrap64 (IntKind.u64.wrap u) = wrap64 u := by
 rw [IntKind.wrap_u64]; unfold wrap64; omega
theorem sx_u (size n : Int) (h : isSz size = true) : sx size (IntKind.u64.wrap n) = sx size n := by
 simp [isSz] at h
 rw [IntKind.wrap_u64]; unfold sx wrap64 wrap32
 rcases h with (rfl | rfl) | rfl <;> simp <;> omega

end Go.Proofs.YtgjingleolhkbaaGreatDoor.J.W

/- The program's forms, the tables that hold them, and an instruction's bytes: no walk. -/
namespace Go.Proofs.YtgjingleolhkbaaGreatDoor.J
open Go.RowKit

abbrev I.nums : Array Value := #[.int .i64 0, .int .i64 8, .int .i64 3, .int .i64 3, .int .i64 3, .int .i64 3, .int .i64 3, .int .i64 3, .int .i64 3, .int .i64 3, .int .i64 3, .int .i64 3, .int .i64 3, .int .i64 3, .int .i64 3, .int .i64 3, .int .i64 3, .int .i64 9, .int .i64 9, .int .i64 7, .int .i64 5, .int .i64 7, .int .i64 7, .int .i64 5, .int .i64 1, .int .i64 4, .int .i64 6, .int .i64 6, .int .i64 9, .int .i64 9, .int .i64 1, .int .i64 2, .int .i64 1, .int .i64 10]
abbrev I.forms : Array Value := #[.int .i64 0, .int .i64 0, .bool false, .int .i64 0, .int .i64 0, .bool false, .int .i64 1, .int .i64 0, .bool false, .int .i64 2, .int .i64 0, .bool false, .int .i64 0, .int .i64 1, .bool false, .int .i64 0, .int .i64 4, .bool false, .int .i64 1, .int .i64 1, .bool false, .int .i64 1, .int .i64 4, .bool false, .int .i64 1, .int .i64 8, .bool false, .int .i64 2, .int .i64 4, .bool false, .int .i64 0, .int .i64 1, .bool true]

def Tab (w : World) : Prop := (∀ o, w.cell? ⟨1, o, none⟩ = I.nums[o]?) ∧ (∀ o, w.cell? ⟨2, o, none⟩ = I.forms[o]?) ∧ 3 ≤ w.heap.size
theorem Tab.below {w w' : World} (h : Tab w) (hb : Below w.heap.size w w') : Tab w' :=
 ⟨fun o => (hb.cell (p := ⟨1, o, none⟩) (by have := h.2.2; simp; omega)).trans (h.1 o), fun o => (hb.cell (p := ⟨2, o, none⟩) (by have := h.2.2; simp; omega)).trans (h.2.1 o), Nat.le_trans h.2.2 hb.size⟩
theorem Tab.alloc {w : World} (h : Tab w) (x : Obj) : Tab (w.alloc x) := h.below ((Below.refl _ _).alloc (Nat.le_refl _) _)
theorem Tab.drew {w : World} (h : Tab w) : Tab w.drew := ⟨h.1, h.2.1, h.2.2⟩

namespace I
def regs (op : Int) : Int := if hasB (form op) then 2 else if hasA (form op) then 1 else 0
def num (op : Int) : Int := numB (form op)
def nat (op : Int) : Bool := op == 33
abbrev fv (op : Int) : Value := .agg #[.int .i64 (regs op), .int .i64 (num op), .bool (nat op)]
def is (op : Int) : Bool := decide (1 ≤ op ∧ op ≤ 33)
theorem regs_range (op : Int) : regs op = 0 ∨ regs op = 1 ∨ regs op = 2 := by
 unfold regs; split
 ·omega
 ·split <;> omega
theorem num_range (op : Int) : num op = 0 ∨ num op = 1 ∨ num op = 4 ∨ num op = 8 := by
 unfold num numB
 repeat (split; omega)
 omega
def isr (r : Int) : Bool := decide (0 ≤ r ∧ r < 8)
theorem isr_yes {r : Int} (h : 0 ≤ r ∧ r < 8) : isr r = true := decide_eq_true h
theorem isr_no {r : Int} (h : ¬ (0 ≤ r ∧ r < 8)) : isr r = false := decide_eq_false h
def bad (r m a b n : Int) : Bool := a != 0 && decide (r < 1) || b != 0 && decide (r < 2) || n != 0 && m == 0
def bears (r m a b n : Int) : Bool := !(bad r m a b n) && (isr a && isr b)
end I
end Go.Proofs.YtgjingleolhkbaaGreatDoor.J

/- What the rows' list gives: the two tables stand in memory as the program's text lays them. -/
namespace Go.Proofs.YtgjingleolhkbaaGreatDoor.J
open Go.ChangeShapes Go.WideShapes Go.ChangeAt Go.RowKit Go.Joins

theorem gForms : Tryz.prog.globalNamed "cotter/ins.forms" = some 2 := by kernel_rfl
theorem gNums : Tryz.prog.globalNamed "cotter/ins.formNumbers" = some 1 := by kernel_rfl
theorem tForms : (Tryz.prog.globals[2]?).map (·.type) = some 146 := by kernel_rfl
theorem tNums : (Tryz.prog.globals[1]?).map (·.type) = some 145 := by kernel_rfl
theorem cForms : Tryz.prog.cellsOf 146 = 33 := by kernel_rfl
theorem cNums : Tryz.prog.cellsOf 145 = 34 := by kernel_rfl
theorem cForm : Tryz.prog.cellsOf 130 = 3 := by kernel_rfl
theorem cInt : Tryz.prog.cellsOf 3 = 1 := by kernel_rfl
theorem cBool : Tryz.prog.cellsOf 4 = 1 := by kernel_rfl

theorem trod_form {W : World} {fuel : Nat} {cs : List Value} {r m : Int} {t : Bool} {p : List MemPlace} {enc : TypeId × Value → Unit} {base : Nat} {sp : Nat → Bool} {held : Bool}
  (h : DataW.trod enc Tryz.prog W base sp held fuel 130 cs = some (.agg [.lit (.int .i64 r), .lit (.int .i64 m), .lit (.bool t)], p)) : cs[0]? = some (.int .i64 r) ∧ cs[1]? = some (.int .i64 m) ∧ cs[2]? = some (.bool t) := by
 obtain ⟨y0, y1, y2, n, hx, -, h0, h1, h2⟩ := Deep.trod_struct3 Tryz.underlying130 h
 obtain ⟨a0, e0, g0, -⟩ := DataW.trod_int Tryz.underlying3 h0
 obtain ⟨a1, e1, g1, -⟩ := DataW.trod_int Tryz.underlying3 h1
 obtain ⟨a2, e2, g2⟩ := DataW.trod_bool Tryz.underlying4 h2
 subst g0 g1 g2
 simp at hx
 obtain ⟨⟨rfl, rfl, rfl⟩, -⟩ := hx
 have k0 := congrArg (·[0]?) e0
 have k1 := congrArg (·[0]?) e1
 have k2 := congrArg (·[0]?) e2
 simp [cInt, cBool, List.getElem?_drop] at k0 k1 k2
 exact ⟨k0, k1, k2⟩

theorem forms_of_trod {W : World} {fuel : Nat} {cs : List Value} {p : List MemPlace} {enc : TypeId × Value → Unit} {base : Nat} {sp : Nat → Bool} {held : Bool}
  (h : DataW.trod enc Tryz.prog W base sp held fuel 146 cs = some (Rows.laid_cotter_ins_forms, p)) : ∀ o : Nat, cs[o]? = I.forms[o]? := by
 obtain ⟨xs, m, -, hx, hl, hn, hel⟩ := DataW.trod_array Tryz.underlying146 h
 rw [cForms] at hl
 rw [cForm] at hel
 match xs, hn, hx with
 | [⟨x0, p0⟩, ⟨x1, p1⟩, ⟨x2, p2⟩, ⟨x3, p3⟩, ⟨x4, p4⟩, ⟨x5, p5⟩, ⟨x6, p6⟩, ⟨x7, p7⟩, ⟨x8, p8⟩, ⟨x9, p9⟩, ⟨xa, pa⟩], _, hx =>
  simp only [Rows.laid_cotter_ins_forms, List.map_cons, List.map_nil, Prod.mk.injEq, DataW.agg.injEq, List.cons.injEq, and_true] at hx
  obtain ⟨⟨rfl, rfl, rfl, rfl, rfl, rfl, rfl, rfl, rfl, rfl, rfl⟩, -⟩ := hx
  have k0 := trod_form (hel 0 (by decide))
  have k1 := trod_form (hel 1 (by decide))
  have k2 := trod_form (hel 2 (by decide))
  have k3 := trod_form (hel 3 (by decide))
  have k4 := trod_form (hel 4 (by decide))
  have k5 := trod_form (hel 5 (by decide))
  have k6 := trod_form (hel 6 (by decide))
  have k7 := trod_form (hel 7 (by decide))
  have k8 := trod_form (hel 8 (by decide))
  have k9 := trod_form (hel 9 (by decide))
  have ka := trod_form (hel 10 (by decide))
  simp only [List.getElem?_take, List.getElem?_drop] at k0 k1 k2 k3 k4 k5 k6 k7 k8 k9 ka
  intro o
  by_cases ho : o < 33
  ·obtain ⟨q, r, hr, rfl⟩ : ∃ q r, r < 3 ∧ o = q * 3 + r := ⟨o / 3, o % 3, by omega, by omega⟩
   have hq : q < 11 := by omega
   rcases (show q = 0 ∨ q = 1 ∨ q = 2 ∨ q = 3 ∨ q = 4 ∨ q = 5 ∨ q = 6 ∨ q = 7 ∨ q = 8 ∨ q = 9 ∨ q = 10 by omega) with rfl | rfl | rfl | rfl | rfl | rfl | rfl | rfl | rfl | rfl | rfl <;>
    rcases (show r = 0 ∨ r = 1 ∨ r = 2 by omega) with rfl | rfl | rfl
   all_goals first | exact k0.1 | exact k0.2.1 | exact k0.2.2 | exact k1.1 | exact k1.2.1 | exact k1.2.2 | exact k2.1 | exact k2.2.1 | exact k2.2.2 | exact k3.1 | exact k3.2.1 | exact k3.2.2 | exact k4.1 | exact k4.2.1 | exact k4.2.2 | exact k5.1 | exact k5.2.1 | exact k5.2.2 | exact k6.1 | exact k6.2.1 | exact k6.2.2 | exact k7.1 | exact k7.2.1 | exact k7.2.2 | exact k8.1 | exact k8.2.1 | exact k8.2.2 | exact k9.1 | exact k9.2.1 | exact k9.2.2 | exact ka.1 | exact ka.2.1 | exact ka.2.2
  ·rw [List.getElem?_eq_none (by omega), Array.getElem?_eq_none (by simp; omega)]

theorem nums_eq : ([0, 8, 3, 3, 3, 3, 3, 3, 3, 3, 3, 3, 3, 3, 3, 3, 3, 9, 9, 7, 5, 7, 7, 5, 1, 4, 6, 6, 9, 9, 1, 2, 1, 10].map fun z => Value.int .i64 z) = I.nums.toList := by kernel_rfl

theorem tab_of_laid {W : World} (h : laidMetH Tryz.prog Rows.asmTextsRow.laid W) : Tab W := by
 have h' : laidMet Tryz.prog Rows.asmTextsRow.laid W := h
 obtain ⟨ps, ⟨g0, t0, cs0, f0, p0, q0, hg0, ht0, hv0, hd0, ⟨g1, t1, cs1, f1, p1, q1, hg1, ht1, hv1, hd1, _, _⟩, _⟩, _⟩ := h'
 obtain rfl := Option.some.inj (gForms.symm.trans hg0)
 obtain rfl := Option.some.inj (gNums.symm.trans hg1)
 obtain rfl := Option.some.inj (tForms.symm.trans ht0)
 obtain rfl := Option.some.inj (tNums.symm.trans ht1)
 have e0 := forms_of_trod hd0
 have e1 := Lib.cells_of_tab (zs := [0, 8, 3, 3, 3, 3, 3, 3, 3, 3, 3, 3, 3, 3, 3, 3, 3, 9, 9, 7, 5, 7, 7, 5, 1, 4, 6, 6, 9, 9, 1, 2, 1, 10]) Tryz.underlying145 Tryz.underlying3 cInt cNums hd1
 have k0 := World.var?_cell hg0 hv0
 have k1 := World.var?_cell hg1 hv1
 have f0 : ∀ o, W.cell? ⟨2, o, none⟩ = I.forms[o]? := fun o => by rw [k0 o, ← Array.getElem?_toList, e0 o]
 have f1 : ∀ o, W.cell? ⟨1, o, none⟩ = I.nums[o]? := fun o => by rw [k1 o, ← Array.getElem?_toList, e1, nums_eq, Array.getElem?_toList]
 have hz := World.block_lt_of_cell? W ⟨2, 0, none⟩ (f0 0)
 exact ⟨f1, f0, hz⟩

end Go.Proofs.YtgjingleolhkbaaGreatDoor.J

/- Sets of temps: seven words each. -/
import Derived.Test.YtljgpngbkmembaaDoorAMAc
import Derived.Laws.BitsAllLaws
import Derived.Deep.Heap
import Derived.Test.YtljgpngbkmembaaDoorAMAa
import Derived.Deep.LoopGhost
import Derived.Test.YtljgpngbkmembaaDoorAMAb
import Derived.OrdersIn
import Derived.OrdersHeld
import Derived.Deep.RegionHeld
import Derived.RangeFuncLeaves
import Derived.Sort.LoopGhostIn
namespace Go.Proofs.YtljgpngbkmembaaDoor
open Go.RowKit Go.Maps
set_option linter.unusedVariables false
set_option linter.unusedSimpArgs false
theorem has_bit {v : Nat} (hv : v < 18446744073709551616) (k : Nat) : (bits .and .u64 ((v : Int) / 2 ^ k) 1 == 1) = v.testBit k := by
  have e : ((v : Int) / 2 ^ k) = ((v / 2 ^ k : Nat) : Int) := by
    rw [Int.natCast_ediv, Int.natCast_pow]
    rfl
  have hb : v / 2 ^ k < 18446744073709551616 := Nat.lt_of_le_of_lt (Nat.div_le_self _ _) hv
  have := u64_and_nat (v / 2 ^ k) 1 hb (by decide)
  rw [e, show (1 : Int) = ((1 : Nat) : Int) from rfl, this, Nat.and_one_is_mod, Nat.testBit_eq_decide_div_mod_eq]
  generalize v / 2 ^ k % 2 = m
  by_cases h : m = 1
  · subst h; rfl
  · rw [decide_eq_false h]
    have : ¬ ((m : Int) = ((1 : Nat) : Int)) := by omega
    simpa using this
theorem pow_lt64 {k : Nat} (h : k < 64) : 2 ^ k < 18446744073709551616 := Nat.pow_lt_pow_right (n := 64) (by decide) h
theorem wrap_pow {k : Nat} (h : k < 64) : IntKind.u64.wrap (2 ^ k) = ((2 ^ k : Nat) : Int) := by
  have h1 := pow_lt64 h
  have e : ((2 : Int) ^ k) = ((2 ^ k : Nat) : Int) := by rw [Int.natCast_pow]; rfl
  rw [e]
  have W : ∀ m : Int, IntKind.u64.wrap m = m % 18446744073709551616 := fun m => by simp [IntKind.wrap, IntKind.bits, IntKind.signed]
  rw [W]
  have Z : ∀ m : Nat, m < 18446744073709551616 → (m : Int) % 18446744073709551616 = (m : Int) := fun m hm => by omega
  exact Z _ h1
theorem or_bit {v : Nat} (hv : v < 18446744073709551616) {k : Nat} (h : k < 64) : bits .or .u64 (v : Int) (IntKind.u64.wrap (2 ^ k)) = ((v ||| 2 ^ k : Nat) : Int) := by
  rw [wrap_pow h]
  exact u64_or_nat v (2 ^ k) hv (pow_lt64 h)
theorem not_bit {v : Nat} (hv : v < 18446744073709551616) {k : Nat} (h : k < 64) : bits .andNot .u64 (v : Int) (IntKind.u64.wrap (2 ^ k)) = ((v &&& (18446744073709551615 - 2 ^ k) : Nat) : Int) := by
  rw [wrap_pow h]
  exact u64_andNot_nat v (2 ^ k) hv (pow_lt64 h)
set_option maxRecDepth 100000 in
theorem has_any (b o : Nat) (t v : Nat) (ht : t < 448) (hv : v < 18446744073709551616) (w : World) (hc : w.cell? ⟨b, o + t / 64, none⟩ = some (.int .u64 v)) : Calls Tryd.prog 50 #[.pointer (some ⟨b, o, none⟩), .int .i64 (t : Int)] w fun e w' => e = .returned (.bool (v.testBit (t % 64))) ∧ w' = w := by
  have HV : Hid (∀ k, (bits .and .u64 ((v : Int) / 2 ^ k) 1 == 1) = v.testBit k) := has_bit hv
  have hv1 : (v : Int) < 18446744073709551616 := by omega
  have h1 : (t : Int) < 448 := by omega
  have h0 : 0 ≤ (t : Int) := by omega
  have hq0 : 0 ≤ (t : Int) / 64 := by omega
  have hq1 : (t : Int) / 64 < 7 := by omega
  have hr0 : 0 ≤ (t : Int) % 64 := by omega
  have hr1 : (t : Int) % 64 < 64 := by omega
  go_enter Tryd.func50, Tryd.ntmps50
  go_wp2_with fail
  rw [HV.out]
  go_ret
  exact ⟨rfl, rfl⟩
set_option maxRecDepth 100000 in
theorem add_any (b o : Nat) (t v : Nat) (ht : t < 448) (hv : v < 18446744073709551616) (w : World) (hc : w.cell? ⟨b, o + t / 64, none⟩ = some (.int .u64 v)) (hz : w.frozen? ⟨b, o + t / 64, none⟩ = false) : Calls Tryd.prog 47 #[.pointer (some ⟨b, o, none⟩), .int .i64 (t : Int)] w fun e w' => e = .returned (.tuple #[]) ∧ w' = (w.setCell ⟨b, o + t / 64, none⟩ (.int .u64 ((v ||| 2 ^ (t % 64) : Nat) : Int))).drew := by
  have HV : Hid (bits .or .u64 (v : Int) (IntKind.u64.wrap (2 ^ (t % 64))) = ((v ||| 2 ^ (t % 64) : Nat) : Int)) := or_bit hv (Nat.mod_lt _ (by decide))
  have hv1 : (v : Int) < 18446744073709551616 := by omega
  have h1 : (t : Int) < 448 := by omega
  have h0 : 0 ≤ (t : Int) := by omega
  have hq0 : 0 ≤ (t : Int) / 64 := by omega
  have hq1 : (t : Int) / 64 < 7 := by omega
  have hr0 : 0 ≤ (t : Int) % 64 := by omega
  have hr1 : (t : Int) % 64 < 64 := by omega
  go_enter Tryd.func47, Tryd.ntmps47
  go_region
  rw [HV.out]
  go_end0
  exact ⟨rfl, rfl⟩
set_option maxRecDepth 100000 in
theorem remove_any (b o : Nat) (t v : Nat) (ht : t < 448) (hv : v < 18446744073709551616) (w : World) (hc : w.cell? ⟨b, o + t / 64, none⟩ = some (.int .u64 v)) (hz : w.frozen? ⟨b, o + t / 64, none⟩ = false) : Calls Tryd.prog 65 #[.pointer (some ⟨b, o, none⟩), .int .i64 (t : Int)] w fun e w' => e = .returned (.tuple #[]) ∧ w' = (w.setCell ⟨b, o + t / 64, none⟩ (.int .u64 ((v &&& (18446744073709551615 - 2 ^ (t % 64)) : Nat) : Int))).drew := by
  have HV : Hid (bits .andNot .u64 (v : Int) (IntKind.u64.wrap (2 ^ (t % 64))) = ((v &&& (18446744073709551615 - 2 ^ (t % 64)) : Nat) : Int)) := not_bit hv (Nat.mod_lt _ (by decide))
  have hv1 : (v : Int) < 18446744073709551616 := by omega
  have h1 : (t : Int) < 448 := by omega
  have h0 : 0 ≤ (t : Int) := by omega
  have hq0 : 0 ≤ (t : Int) / 64 := by omega
  have hq1 : (t : Int) / 64 < 7 := by omega
  have hr0 : 0 ≤ (t : Int) % 64 := by omega
  have hr1 : (t : Int) % 64 < 64 := by omega
  go_enter Tryd.func65, Tryd.ntmps65
  go_region
  rw [HV.out]
  go_end0
  exact ⟨rfl, rfl⟩
end Go.Proofs.YtljgpngbkmembaaDoor

/- A set that is written to, and all that is not. -/
namespace Go.Proofs.YtljgpngbkmembaaDoor
open Go.RowKit Go.Maps
set_option linter.unusedVariables false
set_option linter.unusedSimpArgs false
/-- One world is as another but for the seven cells of a set. -/
structure Upd (w y : World) (b o : Nat) : Prop where
  os : y.os = w.os
  tape : y.tape = w.tape
  output : y.output = w.output
  size : y.heap.size = w.heap.size
  far : ∀ i, i ≠ b → y.heap[i]? = w.heap[i]?
  cell : ∀ q, q < o ∨ o + 7 ≤ q → y.cell? ⟨b, q, none⟩ = w.cell? ⟨b, q, none⟩
  froz : ∀ q, y.frozen? ⟨b, q, none⟩ = w.frozen? ⟨b, q, none⟩
theorem Upd.refl (w : World) (b o : Nat) : Upd w w b o := ⟨rfl, rfl, rfl, rfl, fun _ _ => rfl, fun _ _ => rfl, fun _ => rfl⟩
theorem Upd.trans {w y z : World} {b o : Nat} (h : Upd w y b o) (g : Upd y z b o) : Upd w z b o :=
  ⟨g.os.trans h.os, g.tape.trans h.tape, g.output.trans h.output, g.size.trans h.size, fun i hi => (g.far i hi).trans (h.far i hi), fun q hq => (g.cell q hq).trans (h.cell q hq), fun q => (g.froz q).trans (h.froz q)⟩
theorem Upd.put (w : World) {b o j : Nat} (hj : j < 7) (v : Value) : Upd w (w.setCell ⟨b, o + j, none⟩ v).drew b o := by
  refine ⟨rfl, rfl, rfl, by show (w.setCell _ v).heap.size = _; simp [World.setCell], fun i hi => ?_, fun q hq => ?_, fun q => ?_⟩
  · exact Go.Deep.blk_setCell_other _ _ _ _ hi
  · rw [World.cell?_drew]
    exact World.cell?_setCell_other _ _ _ _ (by simp <;> omega)
  · rw [World.frozen?_drew, World.frozen?_setCell]
theorem Upd.below {w y : World} {b o B : Nat} (h : Upd w y b o) (hb : B ≤ b) (hB : B ≤ w.heap.size) : Below B w y :=
  ⟨h.os, h.tape, h.output, by rw [h.size]; exact Nat.le_refl _, fun i hi => h.far i (by omega)⟩
end Go.Proofs.YtljgpngbkmembaaDoor

/- A set as a value, and as it lies. -/
namespace Go.Proofs.YtljgpngbkmembaaDoor
open Go.RowKit Go.Maps
set_option linter.unusedVariables false
set_option linter.unusedSimpArgs false
def setCs (u : Nat → Nat) : Array Value := #[.int .u64 (u 0 : Int), .int .u64 (u 1 : Int), .int .u64 (u 2 : Int), .int .u64 (u 3 : Int), .int .u64 (u 4 : Int), .int .u64 (u 5 : Int), .int .u64 (u 6 : Int)]
theorem set_index (u : Nat → Nat) (W : World) {i : Nat} (hi : i < 7) : (Instr.index 54 (.agg (setCs u)) (.int .i64 (i : Int))).run Tryd.prog W = .ok (.int .u64 (u i : Int)) W := by
  rcases (show i = 0 ∨ i = 1 ∨ i = 2 ∨ i = 3 ∨ i = 4 ∨ i = 5 ∨ i = 6 by omega) with rfl | rfl | rfl | rfl | rfl | rfl | rfl <;>
    simp [Instr.index, run_underlying Tryd.underlying54, asIntOf, setCs, go_sem]
/-- A set, as it lies. -/
def SetAt (W : World) (b o : Nat) (u : Nat → Nat) : Prop := ∀ j, j < 7 → W.cell? ⟨b, o + j, none⟩ = some (.int .u64 (u j : Int))
theorem SetAt.sub {W y : World} {b o : Nat} {u : Nat → Nat} (h : SetAt W b o u) (hs : Sub W y) : SetAt y b o u := fun j hj => hs _ _ _ (h j hj)
/-- A box of one's own. -/
structure Bx (x : World) (b : Nat) (vs : List Value) : Prop where
  c : ∀ j u, vs[j]? = some u → x.cell? ⟨b, j, none⟩ = some u
  f : ∀ o, x.frozen? ⟨b, o, none⟩ = false
  lt : b < x.heap.size
theorem Bx.new (w : World) (a : Array Value) (t : TypeId) : Bx (w.alloc (.cells a t)) w.heap.size a.toList :=
  ⟨fun j u hu => ncell_at (by simpa using hu), fun o => World.frozen?_alloc_at _ _ _ _ (by simp), by simp⟩
theorem Bx.bel {x y : World} {b n : Nat} {vs : List Value} (h : Bx x b vs) (hb : Below n x y) (hn : b < n) : Bx y b vs :=
  ⟨fun j u hu => (hb.cell (p := ⟨b, j, none⟩) hn).trans (h.c j u hu), fun o => (hb.frozen (p := ⟨b, o, none⟩) hn).trans (h.f o), Nat.lt_of_lt_of_le h.lt hb.size⟩
theorem Bx.below {x y : World} {b : Nat} {vs : List Value} (h : Bx x b vs) (hb : Below x.heap.size x y) : Bx y b vs := h.bel hb h.lt
theorem Bx.put {x : World} {b : Nat} {vs : List Value} (h : Bx x b vs) (k : Nat) (hk : k < vs.length) (u : Value) : Bx (x.setCell ⟨b, k, none⟩ u) b (vs.set k u) := by
  refine ⟨fun j v hv => ?_, fun o => by rw [World.frozen?_setCell]; exact h.f o, by rw [World.size_setCell]; exact h.lt⟩
  by_cases e : k = j
  · subst e
    rw [List.getElem?_set_self hk] at hv
    cases hv
    refine World.cell?_setCell_same' _ _ _ ?_
    rw [h.c k vs[k] (by simp [hk])]
    rfl
  · rw [List.getElem?_set_ne e] at hv
    rw [World.cell?_setCell_other _ _ _ _ (fun e' => e (by have := congrArg Addr.off e'; simpa using this))]
    exact h.c j v hv
theorem Bx.far {x : World} {b q o : Nat} {vs : List Value} (h : Bx x b vs) (hq : q ≠ b) (u : Value) : Bx (x.setCell ⟨q, o, none⟩ u) b vs :=
  ⟨fun j v hv => (World.cell?_setCell_far _ ⟨q, o, none⟩ ⟨b, j, none⟩ _ hq).trans (h.c j v hv), fun o' => by rw [World.frozen?_setCell]; exact h.f o', by rw [World.size_setCell]; exact h.lt⟩
theorem Bx.drew {x : World} {b : Nat} {vs : List Value} (h : Bx x b vs) : Bx x.drew b vs := ⟨fun j v hv => by rw [World.cell?_drew]; exact h.c j v hv, fun o => by rw [World.frozen?_drew]; exact h.f o, h.lt⟩
/-- A box that holds a set. -/
theorem Bx.set {x : World} {b : Nat} {u : Nat → Nat} (h : Bx x b (setCs u).toList) : SetAt x b 0 u := fun j hj => by
  rw [Nat.zero_add]
  apply h.c
  rcases (show j = 0 ∨ j = 1 ∨ j = 2 ∨ j = 3 ∨ j = 4 ∨ j = 5 ∨ j = 6 by omega) with rfl | rfl | rfl | rfl | rfl | rfl | rfl <;> rfl
theorem Bx.ofSet {x : World} {b : Nat} {u : Nat → Nat} (h : SetAt x b 0 u) (hf : ∀ o, x.frozen? ⟨b, o, none⟩ = false) (hl : b < x.heap.size) : Bx x b (setCs u).toList :=
  ⟨fun j v hv => by
    have hj : j < 7 := by
      have := (List.getElem?_eq_some_iff.1 hv).1
      simpa [setCs] using this
    have h2 := h j hj
    rw [Nat.zero_add] at h2
    rw [h2, ← hv]
    rcases (show j = 0 ∨ j = 1 ∨ j = 2 ∨ j = 3 ∨ j = 4 ∨ j = 5 ∨ j = 6 by omega) with rfl | rfl | rfl | rfl | rfl | rfl | rfl <;> rfl, hf, hl⟩
/-- Sets, one behind the other. -/
structure SetsV (w : World) (a : Option Addr) (l c : Nat) (U : Nat → Nat → Nat) : Prop where
  nilOf : a = none → l = 0 ∧ c = 0
  room : l ≤ c ∧ c ≤ maxLen
  cells : l = 0 ∨ ∃ b off, a = some ⟨b, off, none⟩ ∧ ∀ i, i < l → SetAt w b (off + i * 7) (U i)
theorem SetsV.sub {w y : World} {a : Option Addr} {l c : Nat} {U : Nat → Nat → Nat} (h : SetsV w a l c U) (hs : Sub w y) : SetsV y a l c U :=
  ⟨h.nilOf, h.room, h.cells.imp id fun ⟨b, off, e, hc⟩ => ⟨b, off, e, fun i hi => (hc i hi).sub hs⟩⟩
theorem SetsV.at {w : World} {a : Option Addr} {l c : Nat} {U : Nat → Nat → Nat} (h : SetsV w a l c U) {i : Nat} (hi : i < l) : ∃ b off, a = some ⟨b, off, none⟩ ∧ SetAt w b (off + i * 7) (U i) := by
  rcases h.cells with h0 | ⟨b, off, e, hc⟩
  · omega
  · exact ⟨b, off, e, hc i hi⟩
end Go.Proofs.YtljgpngbkmembaaDoor

/- The set's Join. -/
namespace Go.Proofs.YtljgpngbkmembaaDoor
open Go.RowKit Go.Maps
set_option linter.unusedVariables false
set_option linter.unusedSimpArgs false
def JnR (W0 : World) (b o : Nat) (v u : Nat → Nat) (i : Nat) (y : World) : Prop := Upd W0 y b o ∧ ∀ j, j < 7 → y.cell? ⟨b, o + j, none⟩ = some (.int .u64 ((if j < i then v j ||| u j else v j : Nat) : Int))
theorem JnR.step {W0 y : World} {b o : Nat} {v u : Nat → Nat} {i : Nat} (h : JnR W0 b o v u i y) (hi : i < 7) : JnR W0 b o v u (i + 1) (y.setCell ⟨b, o + i, none⟩ (.int .u64 ((v i ||| u i : Nat) : Int))).drew := by
  refine ⟨h.1.trans (Upd.put y hi _), fun j hj => ?_⟩
  rw [World.cell?_drew]
  by_cases e : j = i
  · subst e
    rw [if_pos (by omega)]
    exact World.cell?_setCell_same _ _ _ (h.2 j hj)
  · rw [World.cell?_setCell_other _ _ _ _ (by simp <;> omega), h.2 j hj]
    by_cases h2 : j < i
    · rw [if_pos h2, if_pos (by omega)]
    · rw [if_neg h2, if_neg (by omega)]
set_option maxRecDepth 100000 in
set_option maxHeartbeats 4000000 in
theorem join_any (b o : Nat) (v u : Nat → Nat) (hv : ∀ j, j < 7 → v j < 18446744073709551616) (hu : ∀ j, j < 7 → u j < 18446744073709551616) (w : World) (hb : b < w.heap.size) (hc : ∀ j, j < 7 → w.cell? ⟨b, o + j, none⟩ = some (.int .u64 (v j : Int))) (hz : ∀ j, j < 7 → w.frozen? ⟨b, o + j, none⟩ = false) :
    Calls Tryd.prog 59 #[.pointer (some ⟨b, o, none⟩), .agg (setCs u)] w fun e y => e = .returned (.tuple #[]) ∧ JnR (w.alloc (.cells (setCs u) 54)) b o v u 7 y := by
  obtain ⟨W0, hW0⟩ : ∃ W0, w.alloc (.cells (setCs u) 54) = W0 := ⟨_, rfl⟩
  have hbl : Below w.heap.size w W0 := by rw [← hW0]; exact bl1 _ _
  have HST : Hid (JnR W0 b o v u 0 W0) := ⟨Upd.refl _ _ _, fun j hj => by rw [if_neg (by omega)]; exact cell_thru hbl (hc j hj)⟩
  have HZ : Hid (∀ j, j < 7 → W0.frozen? ⟨b, o + j, none⟩ = false) := fun j hj => (hbl.frozen (p := ⟨b, o + j, none⟩) hb).trans (hz j hj)
  have HO : Hid (∀ j, j < 7 → bits .or .u64 (v j : Int) (u j : Int) = ((v j ||| u j : Nat) : Int)) := fun j hj => u64_or_nat _ _ (hv j hj) (hu j hj)
  have m0 : W0.cell? ⟨w.heap.size, 0, none⟩ = some (.int .u64 (u 0 : Int)) := by rw [← hW0]; exact ncell_at rfl
  have m1 : W0.cell? ⟨w.heap.size, 1, none⟩ = some (.int .u64 (u 1 : Int)) := by rw [← hW0]; exact ncell_at rfl
  have m2 : W0.cell? ⟨w.heap.size, 2, none⟩ = some (.int .u64 (u 2 : Int)) := by rw [← hW0]; exact ncell_at rfl
  have m3 : W0.cell? ⟨w.heap.size, 3, none⟩ = some (.int .u64 (u 3 : Int)) := by rw [← hW0]; exact ncell_at rfl
  have m4 : W0.cell? ⟨w.heap.size, 4, none⟩ = some (.int .u64 (u 4 : Int)) := by rw [← hW0]; exact ncell_at rfl
  have m5 : W0.cell? ⟨w.heap.size, 5, none⟩ = some (.int .u64 (u 5 : Int)) := by rw [← hW0]; exact ncell_at rfl
  have m6 : W0.cell? ⟨w.heap.size, 6, none⟩ = some (.int .u64 (u 6 : Int)) := by rw [← hW0]; exact ncell_at rfl
  rw [hW0]
  clear hc hz hbl hv hu
  unfold setCs at hW0 ⊢
  go_enter Tryd.func59, Tryd.ntmps59
  go_wp2_with fail
  clear hW0 m0 m1 m2 m3 m4 m5 m6
  go_loopg [4, 5, 7] 7 (fun g z4 z5 iv wq => ∃ (i : Nat), g = 7 - i ∧ iv = .int .i64 i ∧ i ≤ 7 ∧ Hid (JnR W0 b o v u i wq))
  case atStart => exact ⟨0, rfl, rfl, by decide, HST⟩
  case round =>
    obtain ⟨i, rfl, rfl, hi, HI⟩ := hrel
    by_cases hin : i < 7
    · have HN : Hid (JnR W0 b o v u (i + 1) (wr.setCell ⟨b, o + i, none⟩ (.int .u64 ((v i ||| u i : Nat) : Int))).drew) := HI.out.step hin
      have c1 := HI.out.2 i hin
      rw [if_neg (Nat.lt_irrefl i)] at c1
      have z1 := (HI.out.1.froz (o + i)).trans (HZ.out i hin)
      have HV := HO.out i hin
      rcases (show i = 0 ∨ i = 1 ∨ i = 2 ∨ i = 3 ∨ i = 4 ∨ i = 5 ∨ i = 6 by omega) with rfl | rfl | rfl | rfl | rfl | rfl | rfl
      · have HX : ∀ W : World, (Instr.index 54 (.agg #[.int .u64 (u 0 : Int), .int .u64 (u 1 : Int), .int .u64 (u 2 : Int), .int .u64 (u 3 : Int), .int .u64 (u 4 : Int), .int .u64 (u 5 : Int), .int .u64 (u 6 : Int)]) (.int .i64 0)).run Tryd.prog W = .ok (.int .u64 (u 0 : Int)) W := fun W => set_index u W (i := 0) (by decide)
        have HVV : Hid (bits .or .u64 (v 0 : Int) (u 0 : Int) = ((v 0 ||| u 0 : Nat) : Int)) := HV
        rw [Nat.add_zero] at c1 z1 HN
        clear hin hi HV
        go_wp2_with fail
        go_region
        rw [HVV.out]
        go_wp2_with fail
        go_roundg (7 - (0 + 1))
        case measure => omega
        case rel => exact ⟨0 + 1, rfl, by go_num, by omega, HN⟩
      · have HX : ∀ W : World, (Instr.index 54 (.agg #[.int .u64 (u 0 : Int), .int .u64 (u 1 : Int), .int .u64 (u 2 : Int), .int .u64 (u 3 : Int), .int .u64 (u 4 : Int), .int .u64 (u 5 : Int), .int .u64 (u 6 : Int)]) (.int .i64 1)).run Tryd.prog W = .ok (.int .u64 (u 1 : Int)) W := fun W => set_index u W (i := 1) (by decide)
        have HVV : Hid (bits .or .u64 (v 1 : Int) (u 1 : Int) = ((v 1 ||| u 1 : Nat) : Int)) := HV
        clear hin hi HV
        go_wp2_with fail
        go_region
        rw [HVV.out]
        go_wp2_with fail
        go_roundg (7 - (1 + 1))
        case measure => omega
        case rel => exact ⟨1 + 1, rfl, by go_num, by omega, HN⟩
      · have HX : ∀ W : World, (Instr.index 54 (.agg #[.int .u64 (u 0 : Int), .int .u64 (u 1 : Int), .int .u64 (u 2 : Int), .int .u64 (u 3 : Int), .int .u64 (u 4 : Int), .int .u64 (u 5 : Int), .int .u64 (u 6 : Int)]) (.int .i64 2)).run Tryd.prog W = .ok (.int .u64 (u 2 : Int)) W := fun W => set_index u W (i := 2) (by decide)
        have HVV : Hid (bits .or .u64 (v 2 : Int) (u 2 : Int) = ((v 2 ||| u 2 : Nat) : Int)) := HV
        clear hin hi HV
        go_wp2_with fail
        go_region
        rw [HVV.out]
        go_wp2_with fail
        go_roundg (7 - (2 + 1))
        case measure => omega
        case rel => exact ⟨2 + 1, rfl, by go_num, by omega, HN⟩
      · have HX : ∀ W : World, (Instr.index 54 (.agg #[.int .u64 (u 0 : Int), .int .u64 (u 1 : Int), .int .u64 (u 2 : Int), .int .u64 (u 3 : Int), .int .u64 (u 4 : Int), .int .u64 (u 5 : Int), .int .u64 (u 6 : Int)]) (.int .i64 3)).run Tryd.prog W = .ok (.int .u64 (u 3 : Int)) W := fun W => set_index u W (i := 3) (by decide)
        have HVV : Hid (bits .or .u64 (v 3 : Int) (u 3 : Int) = ((v 3 ||| u 3 : Nat) : Int)) := HV
        clear hin hi HV
        go_wp2_with fail
        go_region
        rw [HVV.out]
        go_wp2_with fail
        go_roundg (7 - (3 + 1))
        case measure => omega
        case rel => exact ⟨3 + 1, rfl, by go_num, by omega, HN⟩
      · have HX : ∀ W : World, (Instr.index 54 (.agg #[.int .u64 (u 0 : Int), .int .u64 (u 1 : Int), .int .u64 (u 2 : Int), .int .u64 (u 3 : Int), .int .u64 (u 4 : Int), .int .u64 (u 5 : Int), .int .u64 (u 6 : Int)]) (.int .i64 4)).run Tryd.prog W = .ok (.int .u64 (u 4 : Int)) W := fun W => set_index u W (i := 4) (by decide)
        have HVV : Hid (bits .or .u64 (v 4 : Int) (u 4 : Int) = ((v 4 ||| u 4 : Nat) : Int)) := HV
        clear hin hi HV
        go_wp2_with fail
        go_region
        rw [HVV.out]
        go_wp2_with fail
        go_roundg (7 - (4 + 1))
        case measure => omega
        case rel => exact ⟨4 + 1, rfl, by go_num, by omega, HN⟩
      · have HX : ∀ W : World, (Instr.index 54 (.agg #[.int .u64 (u 0 : Int), .int .u64 (u 1 : Int), .int .u64 (u 2 : Int), .int .u64 (u 3 : Int), .int .u64 (u 4 : Int), .int .u64 (u 5 : Int), .int .u64 (u 6 : Int)]) (.int .i64 5)).run Tryd.prog W = .ok (.int .u64 (u 5 : Int)) W := fun W => set_index u W (i := 5) (by decide)
        have HVV : Hid (bits .or .u64 (v 5 : Int) (u 5 : Int) = ((v 5 ||| u 5 : Nat) : Int)) := HV
        clear hin hi HV
        go_wp2_with fail
        go_region
        rw [HVV.out]
        go_wp2_with fail
        go_roundg (7 - (5 + 1))
        case measure => omega
        case rel => exact ⟨5 + 1, rfl, by go_num, by omega, HN⟩
      · have HX : ∀ W : World, (Instr.index 54 (.agg #[.int .u64 (u 0 : Int), .int .u64 (u 1 : Int), .int .u64 (u 2 : Int), .int .u64 (u 3 : Int), .int .u64 (u 4 : Int), .int .u64 (u 5 : Int), .int .u64 (u 6 : Int)]) (.int .i64 6)).run Tryd.prog W = .ok (.int .u64 (u 6 : Int)) W := fun W => set_index u W (i := 6) (by decide)
        have HVV : Hid (bits .or .u64 (v 6 : Int) (u 6 : Int) = ((v 6 ||| u 6 : Nat) : Int)) := HV
        clear hin hi HV
        go_wp2_with fail
        go_region
        rw [HVV.out]
        go_wp2_with fail
        go_roundg (7 - (6 + 1))
        case measure => omega
        case rel => exact ⟨6 + 1, rfl, by go_num, by omega, HN⟩
    · have hi7 : i = 7 := by omega
      subst hi7
      go_wp2_with fail
      go_end0
      exact ⟨rfl, HI.out⟩
end Go.Proofs.YtljgpngbkmembaaDoor

/- What is live behind an operation. -/
namespace Go.Proofs.YtljgpngbkmembaaDoor
open Go.RowKit Go.Maps Go.Shelf
attribute [local go_sem] Oper.semAt_some
set_option linter.unusedVariables false
set_option linter.unusedSimpArgs false
theorem next_any (a : Option Addr) (l c : Nat) (i : Int) (w : World) : Calls Tryd.prog 58 #[.slice a l c, .int .i64 i] w fun e w' => e = .returned (.func (.func 71) #[] #[.pointer (some ⟨w.heap.size, 0, none⟩), .pointer (some ⟨w.heap.size + 1, 0, none⟩)]) ∧ w' = (w.alloc (.cells #[.slice a l c] 22)).alloc (.cells #[.int .i64 i] 3) := by
  go_enter Tryd.func58, Tryd.ntmps58
  go_wp2_with fail
  go_ret
  exact ⟨rfl, rfl⟩
theorem Bx.upd {x y : World} {q b o : Nat} {vs : List Value} (h : Bx x q vs) (hu : Upd x y b o) (hq : q ≠ b) : Bx y q vs :=
  ⟨fun j u hj => (World.cell?_of_block (w := x) (a := ⟨q, j, none⟩) (hu.far q hq)).trans (h.c j u hj), fun o' => (World.frozen?_of_block (w := x) (a := ⟨q, o', none⟩) (hu.far q hq)).trans (h.f o'), by rw [hu.size]; exact h.lt⟩
theorem Abv.upd {B : Nat} {x y : World} {b o : Nat} (hu : Upd x y b o) (hb : b < B) : Abv B x y := ⟨by rw [hu.size]; exact Nat.le_refl _, fun k hk _ => hu.far k (by omega)⟩
/-- A set in a box, joined by another one. -/
theorem JnR.bx {x y : World} {b : Nat} {v u : Nat → Nat} (h : JnR x b 0 v u 7 y) (hx : Bx x b (setCs v).toList) : Bx y b (setCs (fun q => v q ||| u q)).toList :=
  Bx.ofSet (fun j hj => by have := h.2 j hj; rw [if_pos hj] at this; exact this) (fun o => (h.1.froz o).trans (hx.f o)) (by rw [h.1.size]; exact hx.lt)
theorem not_cells {W : World} {l b : Nat} {o : Obj} {v : Value} {vs : List Value} (hl : W.heap[l]? = some o) (ho : o.isCells = false) (h : Bx W b (v :: vs)) : b ≠ l := by
  rintro rfl
  have := h.c 0 v rfl
  unfold World.cell? at this
  simp only [hl] at this
  cases o <;> simp_all [Obj.isCells]
/-- A set stored over a box. -/
def put7 (W : World) (b : Nat) (u : Nat → Nat) : World := ((((((W.setCell ⟨b, 0, none⟩ (.int .u64 (u 0 : Int))).setCell ⟨b, 1, none⟩ (.int .u64 (u 1 : Int))).setCell ⟨b, 2, none⟩ (.int .u64 (u 2 : Int))).setCell ⟨b, 3, none⟩ (.int .u64 (u 3 : Int))).setCell ⟨b, 4, none⟩ (.int .u64 (u 4 : Int))).setCell ⟨b, 5, none⟩ (.int .u64 (u 5 : Int))).setCell ⟨b, 6, none⟩ (.int .u64 (u 6 : Int))
theorem put7_bx {W : World} {b : Nat} {u v : Nat → Nat} (h : Bx W b (setCs v).toList) : Bx (put7 W b u) b (setCs u).toList := by
  have := ((((((h.put 0 (by simp [setCs]) (.int .u64 (u 0 : Int))).put 1 (by simp [setCs]) (.int .u64 (u 1 : Int))).put 2 (by simp [setCs]) (.int .u64 (u 2 : Int))).put 3 (by simp [setCs]) (.int .u64 (u 3 : Int))).put 4 (by simp [setCs]) (.int .u64 (u 4 : Int))).put 5 (by simp [setCs]) (.int .u64 (u 5 : Int))).put 6 (by simp [setCs]) (.int .u64 (u 6 : Int))
  exact this
theorem put7_far {W : World} {b q : Nat} {u : Nat → Nat} (hq : q ≠ b) : (put7 W b u).heap[q]? = W.heap[q]? := by
  unfold put7
  repeat rw [Below.heap_setCell _ _ _ _ hq]
theorem put7_below {W : World} {b n : Nat} (u : Nat → Nat) (hn : n ≤ b) : Below n W (put7 W b u) := by
  unfold put7
  exact ((((((((Below.refl n W).setCell hn _).setCell hn _).setCell hn _).setCell hn _).setCell hn _).setCell hn _).setCell hn _)
theorem put7_fin {W : World} {b D : Nat} {u v : Nat → Nat} (h : Bx W b (setCs v).toList) (hD : W.heap[D]? = some (.deferred (some []))) : (put7 W b u).heap[D]? = some (.deferred (some [])) ∧ Bx ((put7 W b u).putObj D (.deferred none)) b (setCs u).toList ∧ ∀ n, n ≤ b → n ≤ D → Below n W ((put7 W b u).putObj D (.deferred none)) := by
  have hne : b ≠ D := not_cells hD rfl h
  have h2 := (put7_far (u := u) (Ne.symm hne)).trans hD
  have hx := put7_bx (u := u) h
  refine ⟨h2, ?_, fun n h1 h3 => (put7_below u h1).trans (below_put _ _ h3)⟩
  have hk : ((put7 W b u).putObj D (.deferred none)).heap[b]? = (put7 W b u).heap[b]? := World.putObj_heap_other hne
  exact ⟨fun j v hj => (World.cell?_of_block (w := put7 W b u) (a := ⟨b, j, none⟩) hk).trans (hx.c j v hj), fun o => (World.frozen?_of_block (w := put7 W b u) (a := ⟨b, o, none⟩) hk).trans (hx.f o), by simpa using hx.lt⟩
/-- The loop's state. -/
structure BhI (w : World) (aa : Option Addr) (la ca : Nat) (U : Nat → Nat → Nat) (js : List Nat) (a : Option Addr) (l c i : Nat) (k : Nat) (W : World) : Prop where
  low : Below w.heap.size w W
  b4 : Bx W w.heap.size [.slice aa la ca]
  b6 : Bx W (w.heap.size + 1) (setCs F.zero7).toList
  b7 : Bx W (w.heap.size + 2) (setCs (F.orAll U (js.take k))).toList
  b8 : Bx W (w.heap.size + 3) [.slice a l c]
  b9 : Bx W (w.heap.size + 4) [.int .i64 (i : Int)]
set_option maxRecDepth 100000 in
set_option maxHeartbeats 8000000 in
theorem behind_any {w : World} {f : F.Fn} {a aa : Option Addr} {l c ca : Nat} {U : Nat → Nat → Nat} {i : Nat} (h : OpsV w a l c f.code) (hm : F.mayF f = true) (hi : i < l) (hs : SetsV w aa l ca U) (hU : ∀ j, j < l → F.Set7 (U j)) (ht : Shp w) :
    Calls Tryd.prog 42 #[.slice a l c, .slice aa l ca, .int .i64 i] w fun e w' => e = .returned (.agg (setCs (F.orAll U (F.nxt (F.at_ f i) i)))) ∧ Below w.heap.size w w' := by
  have hC := h.count
  have hop := F.op_kind (F.may_op hm (i := i) (by omega))
  have HNX : Hid (∀ j ∈ F.nxt (F.at_ f i) i, j < l) := fun j hj => by have := F.nxt_in hm (by omega : i < f.code.length) j hj; omega
  have HU : Hid _ := hU
  obtain ⟨js, hjs⟩ : ∃ js, F.nxt (F.at_ f i) i = js := ⟨_, rfl⟩
  have hgo := (next_goes (w.heap.size + 3) (w.heap.size + 4) a l c i f.code hi ⟨by show 0 ≤ (F.at_ f i).op; omega, hop.2⟩ (fun hld => by
    have ho := F.may_op hm (i := i) (by omega)
    show 0 ≤ (F.at_ f i).dest
    have hld : F.leads (F.at_ f i) = true := hld
    unfold F.leads at hld
    unfold F.opOk at ho
    rw [Bool.or_eq_true, decide_eq_true_eq, decide_eq_true_eq] at hld
    rcases hld with e | e <;> simp [e, F.inT] at ho <;> omega)).goes
  have HGO : Hid (Goes Tryd.prog 71 #[.pointer (some ⟨w.heap.size + 3, 0, none⟩), .pointer (some ⟨w.heap.size + 4, 0, none⟩)] (fun x : Nat => #[.int .i64 (x : Int)]) js (NxtRd (w.heap.size + 3) (w.heap.size + 4) a l c i f.code)) := by
    show Goes _ _ _ _ _ _; rw [← hjs]; exact hgo
  rw [hjs] at HNX ⊢
  clear hgo hop
  have HO : Hid _ := h
  have HS : Hid _ := hs
  have HT : Hid _ := ht
  clear h hs ht hU hm hjs
  refine (callsIn_wide (n := 6)).1 ?_
  refine callsIn_of_wp_marks Tryd.func42 rfl trivial ?_ rfl
  simp only [Tryd.ntmps42, List.size_toArray, List.length_cons, List.length_nil, Nat.reduceAdd, Nat.reduceSub, Array.replicate_succ, Array.replicate_zero, List.push_toArray, List.append_toArray, List.nil_append, List.cons_append]
  have HZ : ∀ w : World, w.alloc (.cells #[.int .u64 0, .int .u64 0, .int .u64 0, .int .u64 0, .int .u64 0, .int .u64 0, .int .u64 0] 54) = w.alloc (.cells (setCs F.zero7) 54) := fun _ => rfl
  have HI0 : Hid (BhI w aa l ca U js a l c i 0 (((((w.alloc (.cells #[.slice aa l ca] 71)).alloc (.cells (setCs F.zero7) 54)).alloc (.cells (setCs F.zero7) 54)).alloc (.cells #[.slice a l c] 22)).alloc (.cells #[.int .i64 i] 3))) := by
    have x4 := Bx.new w #[.slice aa l ca] 71
    obtain ⟨A1, hA1⟩ : ∃ A1, w.alloc (.cells #[.slice aa l ca] 71) = A1 := ⟨_, rfl⟩
    have b1 : Below w.heap.size w A1 := by rw [← hA1]; exact bl1 _ _
    have s1 : A1.heap.size = w.heap.size + 1 := by rw [← hA1]; simp
    rw [hA1] at x4 ⊢
    have x6 := Bx.new A1 (setCs F.zero7) 54
    have x4 := x4.below (bl1 A1 (.cells (setCs F.zero7) 54))
    have b2 := b1.alloc b1.size (.cells (setCs F.zero7) 54)
    obtain ⟨A2, hA2⟩ : ∃ A2, A1.alloc (.cells (setCs F.zero7) 54) = A2 := ⟨_, rfl⟩
    have s2 : A2.heap.size = w.heap.size + 2 := by rw [← hA2]; simp [s1]
    rw [hA2] at x4 x6 b2 ⊢
    have x7 := Bx.new A2 (setCs F.zero7) 54
    have x4 := x4.below (bl1 A2 (.cells (setCs F.zero7) 54))
    have x6 := x6.below (bl1 A2 (.cells (setCs F.zero7) 54))
    have b3 := b2.alloc b2.size (.cells (setCs F.zero7) 54)
    obtain ⟨A3, hA3⟩ : ∃ A3, A2.alloc (.cells (setCs F.zero7) 54) = A3 := ⟨_, rfl⟩
    have s3 : A3.heap.size = w.heap.size + 3 := by rw [← hA3]; simp [s2]
    rw [hA3] at x4 x6 x7 b3 ⊢
    have y1 := Bx.new A3 #[.slice a l c] 22
    have b4 := bl1 A3 (.cells #[.slice a l c] 22)
    obtain ⟨A4, hA4⟩ : ∃ A4, A3.alloc (.cells #[.slice a l c] 22) = A4 := ⟨_, rfl⟩
    have s4 : A4.heap.size = w.heap.size + 4 := by rw [← hA4]; simp [s3]
    rw [hA4] at y1 b4 ⊢
    have y2 := Bx.new A4 #[.int .i64 i] 3
    have b5 := b4.alloc b4.size (.cells #[.int .i64 i] 3)
    have y1 := y1.below (bl1 A4 (.cells #[.int .i64 i] 3))
    rw [s1] at x6
    rw [s2] at x7
    rw [s3] at y1
    rw [s4] at y2
    have bw := b3.trans (b5.mono b3.size)
    exact ⟨bw, x4.below b5, x6.below b5, x7.below b5, y1, y2⟩
  gi_wp2
  refine ⟨trivial, (callsIn_wide.2 (next_any a l c i _)).mono ?_⟩
  rintro e y ⟨rfl, rfl⟩
  simp only [HZ, World.size_alloc]
  clear HZ
  have HSZ : Hid (w.heap.size + 5 = (((((w.alloc (.cells #[.slice aa l ca] 71)).alloc (.cells (setCs F.zero7) 54)).alloc (.cells (setCs F.zero7) 54)).alloc (.cells #[.slice a l c] 22)).alloc (.cells #[.int .i64 i] 3)).heap.size) := by show _ = _; simp
  generalize (((((w.alloc (.cells #[.slice aa l ca] 71)).alloc (.cells (setCs F.zero7) 54)).alloc (.cells (setCs F.zero7) 54)).alloc (.cells #[.slice a l c] 22)).alloc (.cells #[.int .i64 i] 3)) = W0 at HI0 HSZ ⊢
  gi_wp2
  refine range_a1 (β := Nat) (gf := 71) (lb := #[.pointer (some ⟨w.heap.size + 3, 0, none⟩), .pointer (some ⟨w.heap.size + 4, 0, none⟩)]) HGO.out rfl (enters_of Tryd.func71 (by kernel_rfl) rfl)
    (BhI w aa l ca U js a l c i) (fun _ => False) .ret ?a1 (fun _ => rfl) ?assign ?I (fun _ _ h _ => h.elim) (fun k A h => ⟨h.b8.c 0 _ rfl, h.b9.c 0 _ rfl, HO.out.below h.low, HT.out.below h.low⟩) HI0.out ?body ?done (fun _ _ _ h _ => h.elim)
  case assign =>
    intro l x W K hK
    gi_wp2
    exact hK
  case I =>
    intro k A B hA hB
    have hs := HSZ.out
    exact ⟨hA.low.trans (hB.mono (by omega)), hA.b4.bel hB (by omega), hA.b6.bel hB (by omega), hA.b7.bel hB (by omega), hA.b8.bel hB (by omega), hA.b9.bel hB (by omega)⟩
  case body =>
    rintro lp k j W hk hI hl1 hl2 -
    have hjl : j < l := HNX.out j (List.mem_of_getElem? hk)
    have hjl2 : (j : Int) < l := by omega
    have hj0 : 0 ≤ (j : Int) := by omega
    have hs := HSZ.out
    have HK : Hid (js[k]? = some j) := hk
    have HI : Hid _ := hI
    obtain ⟨bs, off, rfl, hset⟩ := (HS.out.sub (below_sub hI.low)).at hjl
    have s0 := hset 0 (by decide)
    have s1 := hset 1 (by decide)
    have s2 := hset 2 (by decide)
    have s3 := hset 3 (by decide)
    have s4 := hset 4 (by decide)
    have s5 := hset 5 (by decide)
    have s6 := hset 6 (by decide)
    rw [Nat.add_zero] at s0
    have c4 := hI.b4.c 0 _ rfl
    have hrm := HS.out.room
    have HJN := join_any (w.heap.size + 1 + 1) 0 (F.orAll U (js.take k)) (U j) (F.orAll_set7 (fun q hq => HU.out q (HNX.out q (List.mem_of_mem_take hq)))) (HU.out j hjl) W hI.b7.lt (fun q hq => by have := hI.b7.set q hq; exact this) (fun q hq => hI.b7.f _)
    unfold setCs at HJN
    clear hk hset HI0 hI
    gi_wp2
    refine ⟨trivial, (CallsIn.inRound lp (callsIn_wide.2 HJN)).mono ?_⟩
    rintro e y ⟨rfl, hj⟩
    have HJ : Hid (JnR (W.alloc (.cells (setCs (U j)) 54)) (w.heap.size + 2) 0 (F.orAll U (js.take k)) (U j) 7 y) := hj
    clear hj HJN
    gi_wp2
    have bl : Below W.heap.size W (W.alloc (.cells (setCs (U j)) 54)) := bl1 _ _
    have hu := HJ.out.1
    refine ⟨(Abv.below bl).trans (Abv.upd hu (by omega)), ?_⟩
    have hI := HI.out
    refine ⟨(hI.low.trans (bl.mono hI.low.size)).trans (hu.below (by omega) (by have := hI.low.size; simp; omega)), (hI.b4.below bl).upd hu (by omega), (hI.b6.below bl).upd hu (by omega), ?_, (hI.b8.below bl).upd hu (by omega), (hI.b9.below bl).upd hu (by omega)⟩
    rw [F.orAll_take U js HK.out]
    exact HJ.out.bx (hI.b7.below bl)
  case done =>
    rintro D W hD hI hK
    have hs := HSZ.out
    have c0 := hI.b7.c 0 _ rfl
    have c1 := hI.b7.c 1 _ rfl
    have c2 := hI.b7.c 2 _ rfl
    have c3 := hI.b7.c 3 _ rfl
    have c4 := hI.b7.c 4 _ rfl
    have c5 := hI.b7.c 5 _ rfl
    have c6 := hI.b7.c 6 _ rfl
    have z0 := hI.b6.c 0 _ rfl
    have z1 := hI.b6.c 1 _ rfl
    have z2 := hI.b6.c 2 _ rfl
    have z3 := hI.b6.c 3 _ rfl
    have z4 := hI.b6.c 4 _ rfl
    have z5 := hI.b6.c 5 _ rfl
    have z6 := hI.b6.c 6 _ rfl
    have f0 := hI.b6.f 0
    have f1 := hI.b6.f 1
    have f2 := hI.b6.f 2
    have f3 := hI.b6.f 3
    have f4 := hI.b6.f 4
    have f5 := hI.b6.f 5
    have f6 := hI.b6.f 6
    have HI : Hid _ := hI
    have HK : Hid _ := hK
    rw [List.take_length] at c0 c1 c2 c3 c4 c5 c6
    clear hI hK HI0
    gi_wp2
    obtain ⟨e1, e2, e3⟩ := put7_fin (u := F.orAll U js) HI.out.b6 HK.out
    have g0 := e2.c 0 _ rfl
    have g1 := e2.c 1 _ rfl
    have g2 := e2.c 2 _ rfl
    have g3 := e2.c 3 _ rfl
    have g4 := e2.c 4 _ rfl
    have g5 := e2.c 5 _ rfl
    have g6 := e2.c 6 _ rfl
    refine ⟨by simp, .inl ⟨_, _, rfl, run_takeDeferred e1, ?_⟩⟩
    refine ⟨.agg (setCs (F.orAll U js)), ?_, rfl, HI.out.low.trans (e3 _ (by omega) (by omega))⟩
    unfold put7 at g0 g1 g2 g3 g4 g5 g6
    simp [results, Tryd.results42, go_sem, g0, g1, g2, g3, g4, g5, g6, put7, setCs]
end Go.Proofs.YtljgpngbkmembaaDoor

/- A table of rows of numbers, each of one's own. -/
namespace Go.Proofs.YtljgpngbkmembaaDoor
open Go.RowKit Go.Maps
set_option linter.unusedVariables false
set_option linter.unusedSimpArgs false
theorem gb_set (w : World) (a : Addr) (u : Value) : w.grownBy (w.setCell a u) (some a.block) :=
  ⟨rfl, rfl, rfl, by rw [World.size_setCell]; exact Nat.le_refl _, fun k _ hk => Below.heap_setCell _ _ _ _ (fun e => hk (by rw [e]))⟩
theorem gb_of_below {w x : World} (h : Below w.heap.size w x) (r : Option Nat) : w.grownBy x r := ⟨h.os, h.tape, h.output, h.size, fun k hk _ => h.block k hk⟩
theorem gb_put {W : World} {l : Nat} (o : Obj) : W.grownBy (W.putObj l o) (some l) :=
  ⟨rfl, rfl, rfl, by simp, fun k _ hk => World.putObj_heap_other (fun e => hk (by rw [e]))⟩
theorem own_cells {W : World} {B : Nat} {ty : TypeId} {k n : Nat} {v : Value} {cs : List Value} (h : W.ownsRow B ty k v n cs) {b : Nat} (e : v.ownBlock = some b) : ∃ cur, W.heap[b]? = some (.cells cur ty (0, 0)) := by
  rcases h.2 with ⟨e1, -⟩ | ⟨g, cap, cur, e1, -, hh, -⟩
  · rw [e1] at e; cases e
  · rw [e1] at e
    cases e
    exact ⟨cur, hh⟩
theorem blk_ne {W : World} {b q : Nat} {T T' : TypeId} {c c' : Array Value} {f f' : Nat × Nat} (h : W.heap[b]? = some (.cells c T f)) (g : W.heap[q]? = some (.cells c' T' f')) (hT : T ≠ T') : b ≠ q := fun e => by
  subst e
  rw [h] at g
  cases g
  exact hT rfl
theorem blk_set {W : World} {g i : Nat} {T : TypeId} {cs : Array Value} {fr : Nat × Nat} (h : W.heap[g]? = some (.cells cs T fr)) (u : Value) : ∃ cs', (W.setCell ⟨g, i, none⟩ u).heap[g]? = some (.cells cs' T fr) := by
  have hlt := (Array.getElem?_eq_some_iff.1 h).1
  refine ⟨cs.setIfInBounds i u, ?_⟩
  show (W.heap.modify g _)[g]? = _
  rw [Array.getElem?_eq_getElem (by rw [Array.size_modify]; exact hlt), Array.getElem_modify_self]
  have h2 := (Array.getElem?_eq_some_iff.1 h).2
  rw [h2]
  rfl
theorem blk_fro {W : World} {g o : Nat} {T : TypeId} {cs : Array Value} (h : W.heap[g]? = some (.cells cs T (0, 0))) : W.frozen? ⟨g, o, none⟩ = false := by
  unfold World.frozen?
  simp only [h]
  simp
/-- The table. -/
structure FR (B : Nat) (W : World) (g n : Nat) (vs : Nat → Value) (L : Nat → List Int) : Prop where
  ge : B ≤ g
  blk : ∃ cs, W.heap[g]? = some (.cells cs 30)
  cell : ∀ i, i < n → W.cell? ⟨g, i, none⟩ = some (vs i)
  own : ∀ i, i < n → W.ownsRow B 3 1 (vs i) (L i).length ((L i).map iV)
  inj : ∀ i j b, i < n → j < n → (vs i).ownBlock = some b → (vs j).ownBlock = some b → i = j
variable {B : Nat} {W y : World} {g n : Nat} {vs : Nat → Value} {L : Nat → List Int}
theorem FR.below (h : FR B W g n vs L) (hb : Below W.heap.size W y) : FR B y g n vs L := by
  obtain ⟨cs, hc⟩ := h.blk
  exact ⟨h.ge, ⟨cs, (hb.block _ (Array.getElem?_eq_some_iff.1 hc).1).trans hc⟩, fun i hi => cell_thru hb (h.cell i hi), fun i hi => row_below (h.own i hi) hb, h.inj⟩
theorem FR.put (h : FR B W g n vs L) {l : Nat} {o : Obj} (hl : W.heap[l]? = some o) (ho : o.isCells = false) (o' : Obj) : FR B (W.putObj l o') g n vs L := by
  obtain ⟨cs, hc⟩ := h.blk
  have hne : ∀ {q : Nat} {c : Array Value} {T : TypeId} {f : Nat × Nat}, W.heap[q]? = some (.cells c T f) → q ≠ l := fun hq e => by
    subst e
    rw [hl] at hq
    cases hq
    cases ho
  refine ⟨h.ge, ⟨cs, (World.putObj_heap_other (hne hc)).trans hc⟩, fun i hi => ?_, fun i hi => ?_, h.inj⟩
  · exact (World.cell?_of_block (w := W) (a := ⟨g, i, none⟩) (World.putObj_heap_other (hne hc))).trans (h.cell i hi)
  · refine (h.own i hi).kept (gb_put o') ?_
    cases e : (vs i).ownBlock with
    | none => exact .inl rfl
    | some b =>
      obtain ⟨cur, hcur⟩ := own_cells (h.own i hi) e
      exact .inr (fun e2 => hne hcur (by cases e2; rfl))
theorem FR.gcell (h : FR B W g n vs L) {i : Nat} : W.frozen? ⟨g, i, none⟩ = false := by
  obtain ⟨cs, hc⟩ := h.blk
  exact blk_fro hc
theorem FR.lt (h : FR B W g n vs L) : g < W.heap.size := by
  obtain ⟨cs, hc⟩ := h.blk
  exact (Array.getElem?_eq_some_iff.1 hc).1
theorem FR.rowg (h : FR B W g n vs L) {i : Nat} (hi : i < n) : (vs i).ownBlock ≠ some g := fun e => by
  obtain ⟨cs, hc⟩ := h.blk
  obtain ⟨cur, hcur⟩ := own_cells (h.own i hi) e
  exact blk_ne hcur hc (by decide) rfl
theorem Bx.gb {x y : World} {b : Nat} {r : Option Nat} {vs : List Value} (h : Bx x b vs) (hg : x.grownBy y r) (hne : some b ≠ r) : Bx y b vs :=
  ⟨fun j u hu => hg.cell (h.c j u hu) (by simpa using hne), fun o => (hg.frozen_far ⟨b, o, none⟩ h.lt (by simpa using hne)).trans (h.f o), Nat.lt_of_lt_of_le h.lt hg.size⟩
/-- A row grows by one number. -/
theorem FR.push (h : FR B W g n vs L) {i : Nat} (hi : i < n) {x1 cp H : Nat} {t : Int} (hg : W.grownBy y (vs i).ownBlock)
    (ho : y.ownsRow B 3 1 (.slice (some ⟨x1, 0, none⟩) ((L i).length + 1) cp) ((L i).length + 1) ((L i).map iV ++ [iV t])) (hx : (vs i).ownBlock = some x1 ∨ x1 = H) (hH : W.heap.size ≤ H ∨ ∀ j, j < n → (vs j).ownBlock ≠ some H) :
    FR B (y.setCell ⟨g, i, none⟩ (.slice (some ⟨x1, 0, none⟩) ((L i).length + 1) cp)) g n (fun j => if j = i then .slice (some ⟨x1, 0, none⟩) ((L i).length + 1) cp else vs j) (fun j => if j = i then L i ++ [t] else L j) := by
  obtain ⟨cs, hc⟩ := h.blk
  have hyc : y.heap[g]? = some (.cells cs 30) := (hg.block g (Array.getElem?_eq_some_iff.1 hc).1 (fun e => h.rowg hi e.symm)).trans hc
  have hyg : ∀ j, j < n → y.cell? ⟨g, j, none⟩ = some (vs j) := fun j hj => (World.cell?_of_block (w := W) (a := ⟨g, j, none⟩) (hyc.trans hc.symm)).trans (h.cell j hj)
  have hx1 : x1 ≠ g := by
    obtain ⟨cur, hcur⟩ := own_cells ho (b := x1) rfl
    exact blk_ne hcur hyc (by decide)
  have hnew : ∀ j, j < n → (vs j).ownBlock = some x1 → j = i := fun j hj e => by
    rcases hx with hx | rfl
    · exact h.inj j i x1 hj hi e hx
    · rcases hH with hH | hH
      · obtain ⟨cur, hcur⟩ := own_cells (h.own j hj) e
        have := (Array.getElem?_eq_some_iff.1 hcur).1
        omega
      · exact absurd e (hH j hj)
  refine ⟨h.ge, blk_set hyc _, fun j hj => ?_, fun j hj => ?_, fun j k b hj hk e1 e2 => ?_⟩
  · by_cases e : j = i
    · subst e
      rw [if_pos rfl]
      exact World.cell?_setCell_same' _ _ _ (by rw [hyg j hj]; rfl)
    · rw [if_neg e, World.cell?_setCell_other _ _ _ _ (by first | (simp; done) | (simp; exact fun e' => absurd e'.symm e))]
      exact hyg j hj
  · by_cases e : j = i
    · subst e
      simp only [if_true]
      rw [List.length_append, List.map_append]
      exact ho.kept (gb_set _ _ _) (.inr (fun e => hx1 (by simpa [Value.ownBlock] using e)))
    · simp only [if_neg e]
      have h1 : y.ownsRow B 3 1 (vs j) (L j).length ((L j).map iV) := by
        refine (h.own j hj).kept hg ?_
        cases e2 : (vs j).ownBlock with
        | none => exact .inl rfl
        | some b => exact .inr (fun e3 => e (h.inj j i b hj hi e2 e3.symm))
      refine h1.kept (gb_set _ _ _) ?_
      cases e2 : (vs j).ownBlock with
      | none => exact .inl rfl
      | some b => exact .inr (fun e3 => h.rowg hj (by rw [e2]; exact e3))
  · by_cases h1 : j = i
    · by_cases h2 : k = i
      · omega
      · simp only [if_pos h1, if_neg h2] at e1 e2
        have : x1 = b := by simpa [Value.ownBlock] using e1
        subst this
        exact absurd (hnew k hk e2) h2
    · by_cases h2 : k = i
      · simp only [if_neg h1, if_pos h2] at e1 e2
        have : x1 = b := by simpa [Value.ownBlock] using e2
        subst this
        exact absurd (hnew j hj e1) h1
      · simp only [if_neg h1, if_neg h2] at e1 e2
        exact h.inj j k b hj hk e1 e2
/-- A row, read as numbers. -/
theorem FR.num (h : FR B W g n vs L) {i : Nat} (hi : i < n) (hf : ∀ z ∈ L i, (Lit.int .i64 z).wf = true) : ∃ a c, vs i = .slice a (L i).length c ∧ NumV W a (L i).length c (L i) := by
  have ho := h.own i hi
  rcases ho.2 with ⟨e1, h0⟩ | ⟨b, cap, cur, e1, -⟩
  · refine ⟨none, 0, by rw [e1, h0], ?_⟩
    rw [h0]
    exact ⟨h0, hf, fun _ => ⟨rfl, rfl⟩, ⟨Nat.le_refl _, Nat.zero_le _⟩, .inl rfl⟩
  · rw [e1] at ho
    exact ⟨_, _, e1, num_of_row ho rfl hf⟩
theorem FR.start (w : World) (n : Nat) : FR w.heap.size (w.alloc (.cells (List.replicate n (.slice none 0 0)).toArray 30)) w.heap.size n (fun _ => .slice none 0 0) (fun _ => []) :=
  ⟨Nat.le_refl _, ⟨_, World.alloc_heap_new _ _⟩, fun i hi => ncell_at (by simp [hi]), fun i hi => World.ownsRow_nil _ _ _ _, fun i j b hi hj e => by cases e⟩
end Go.Proofs.YtljgpngbkmembaaDoor

/- A region that draws its order, within a round: walked as anywhere. -/
namespace Go.Proofs.YtljgpngbkmembaaDoor
open Go.RowKit
set_option linter.unusedVariables false
def noDefer (o : Oper) : Bool := match o.op with | .defer _ => false | _ => true
theorem noDefer_spec {o : Oper} (h : noDefer o = true) : ∀ c, o.op ≠ .defer c := fun c e => by
  unfold noDefer at h
  rw [e] at h
  cases h
theorem rowsIn_of {l n : Nat} {P : Program} {row : String} {args : Array Value} {w : World} {R : Value → World → Prop} (h : Rows P row args w R) : RowsIn (Fence.wide.inRound l) n P row args w R :=
  fun c cs _ => by
    obtain ⟨v, w', hr, hs⟩ := h c cs
    exact ⟨v, w', hr, stepsIn_wide.2 hs⟩
theorem opIn_of {l n : Nat} {P : Program} {o : Oper} {a : Act} {w : World} {K : Act → World → Prop} {Q : Exit → Act → World → Prop} (hd : noDefer o = true) (h : o.wp P a w K Q) : o.wpIn (Fence.wide.inRound l) n P a w K Q := by
  refine ⟨fun _ _ => trivial, ?_⟩
  rw [Fence.inRound_round, Oper.semAt_some _ _ _ (noDefer_spec hd)]
  unfold Oper.wp at h
  generalize (execOp a.eval o).run P w = r at *
  cases r with
  | ok x w' =>
    have hn : ∀ p : Prop, (Fence.wide.inRound l).depth.isSome = true → p := fun p hh => absurd hh (by simp [Fence.wide])
    cases x with
    | value v => exact h
    | skip => exact h
    | defer d => exact h
    | enter f args => exact ⟨hn _, CallsIn.inRound l (callsIn_wide.2 h)⟩
    | row row args => exact ⟨hn _, rowsIn_of h⟩
    | round l f tmps assign body => exact h.elim
    | _ => exact h
  | halt x w' => cases x <;> simp only [Oper.upon, Oper.uponIn] at h ⊢ <;> exact h
theorem wpAnyIn_of {l n : Nat} {P : Program} {md : Region.Mode} {ops : Array Oper} {Q : Exit → Act → World → Prop} (hd : ops.all noDefer = true) (hQ : ¬ LetsOut Q) : ∀ (fuel : Nat) (listed : Array Bool) (a : Act) (w : World), wpAny P md ops Q fuel listed a w → wpAnyIn (Fence.wide.inRound l) n P md ops Q fuel listed a w := by
  intro fuel
  induction fuel with
  | zero => exact fun listed a w h => h
  | succ fuel ih =>
    intro listed a w h
    refine ⟨h.1, fun i hi => ?_⟩
    have h1 := wpOp_mono (K' := wpAnyIn (Fence.wide.inRound l) n P md ops Q fuel (listed.setIfInBounds i true)) (fun a w hh => ih _ a w hh) (h.2 i hi)
    unfold wpOp at h1
    unfold wpOpIn
    cases ho : ops[i]? with
    | none => rw [ho] at h1; exact h1
    | some o =>
      rw [ho] at h1
      simp only at h1 ⊢
      have hdo : noDefer o = true := by
        obtain ⟨hlt, rfl⟩ := Array.getElem?_eq_some_iff.1 ho
        exact (Array.all_eq_true.1 hd) i hlt
      split
      · rename_i hw
        rw [if_pos hw] at h1
        rcases h1 with h1 | ⟨-, h2⟩
        · exact opIn_of hdo h1
        · exact absurd h2 hQ
      · rename_i hw
        rw [if_neg hw] at h1
        exact ⟨fun _ _ => trivial, h1⟩
/-- The beginning of a walk by hand: S is what holds all along. -/
theorem region_round {l n id : Nat} {P : Program} {ops : Array Oper} {Q : Exit → Act → World → Prop} {a : Act} {w : World} {S : World → Prop} (hm : P.follows .mixedOrders = true) (hd : ops.all noDefer = true) (hQ : ¬ LetsOut Q) (hS : S w.drew)
    (h : S w.drew → wpAnyH P .any ops Q S ops.size (Array.replicate ops.size false) a w.drew) : (Code.region id ops true).wpIn (Fence.wide.inRound l) n P Q a w :=
  wpIn_region_any hm (wpAnyIn_of hd hQ _ _ _ _ (wpAny_of_held _ _ _ _ (h hS)))
/-- An operation that yields the same in every world that meets S is taken first. -/
theorem tkr {P : Program} {ops : Array Oper} {Q : Exit → Act → World → Prop} {md : Region.Mode} {S : World → Prop} {i : Nat} {oi : Oper} {v : Value} {fuel : Nat} {listed : Array Bool} {a : Act} {w : World} (hi : ops[i]? = some oi) (hb : (Region.noSelect ops && (Region.free md ops listed i && (Region.ready md ops listed).contains i)) = true)
    (hQ : ∀ c a w, Q (.panic c) (a.put oi.dst v) w → Q (.panic c) a w) (hy : YieldsIf P ops S oi v a) (hS : S w) (h : wpAnyH P md ops Q S fuel (listed.setIfInBounds i true) (a.put oi.dst v) w) : wpAnyH P md ops Q S (fuel + 1) listed a w :=
  wpAnyH_take hi (Bool.and_eq_true_iff.1 hb).1 (Bool.and_eq_true_iff.1 (Bool.and_eq_true_iff.1 hb).2).1 (Bool.and_eq_true_iff.1 (Bool.and_eq_true_iff.1 hb).2).2 hQ hy hS h
end Go.Proofs.YtljgpngbkmembaaDoor

/- The marks that loops over functions leave on an activation. -/
namespace Go.Proofs.YtljgpngbkmembaaDoor
open Go.RowKit Go.Maps
set_option linter.unusedVariables false
set_option linter.unusedSimpArgs false
abbrev mk (D : Nat) : Deferred := { target := .collected D, args := #[] }
/-- The marks' blocks, as they lie. -/
structure Mk (B : Nat) (W : World) (Ds : List Nat) : Prop where
  nd : Ds.Nodup
  ge : ∀ D ∈ Ds, B ≤ D
  blk : ∀ D ∈ Ds, W.heap[D]? = some (.deferred (some []))
theorem Mk.nil (B : Nat) (W : World) : Mk B W [] := ⟨List.nodup_nil, (fun D h => by cases h), (fun D h => by cases h)⟩
theorem Mk.lt {B : Nat} {W : World} {Ds : List Nat} (h : Mk B W Ds) : ∀ D ∈ Ds, D < W.heap.size := fun D hD => (Array.getElem?_eq_some_iff.1 (h.blk D hD)).1
theorem Mk.below {B : Nat} {W y : World} {Ds : List Nat} (h : Mk B W Ds) (hb : Below W.heap.size W y) : Mk B y Ds := ⟨h.nd, h.ge, fun D hD => (hb.block _ (h.lt D hD)).trans (h.blk D hD)⟩
theorem Mk.bel {B n : Nat} {W y : World} {Ds : List Nat} (h : Mk B W Ds) (hn : ∀ D ∈ Ds, D < n) (hb : Below n W y) : Mk B y Ds := ⟨h.nd, h.ge, fun D hD => (hb.block _ (hn D hD)).trans (h.blk D hD)⟩
theorem Mk.put {B l : Nat} {W : World} {Ds : List Nat} (h : Mk B W Ds) (hl : ∀ D ∈ Ds, D < l) (o : Obj) : Mk B (W.putObj l o) Ds := ⟨h.nd, h.ge, fun D hD => (World.putObj_heap_other (by have := hl D hD; omega)).trans (h.blk D hD)⟩
theorem Mk.kf {B : Nat} {W y : World} {Ds : List Nat} (h : Mk B W Ds) (hk : Kf B W y) : Mk B y Ds := ⟨h.nd, h.ge, fun D hD => hk D _ (h.ge D hD) (h.blk D hD) rfl⟩
theorem Mk.cons {B D : Nat} {W : World} {Ds : List Nat} (h : Mk B W Ds) (hD : W.heap[D]? = some (.deferred (some []))) (hB : B ≤ D) (hl : ∀ E ∈ Ds, E < D) : Mk B W (D :: Ds) :=
  ⟨List.nodup_cons.2 ⟨fun hm => by have := hl D hm; omega, h.nd⟩, (fun E hE => (List.mem_cons.1 hE).elim (fun e => e ▸ hB) (h.ge E)), (fun E hE => (List.mem_cons.1 hE).elim (fun e => e ▸ hD) (h.blk E))⟩
/-- A function leaves, its marks taken one by one. -/
theorem leave_marks {n : Nat} {P : Program} {fn : Func} {tmps : Array Value} {R : Ending → World → Prop} {B : Nat} : ∀ (Ds : List Nat) (W : World), Mk B W Ds → (∀ W', Below B W W' → (∀ (k : Nat) (o : Obj), W.heap[k]? = some o → o.isCells = true → W'.heap[k]? = some o) → LeavesIn Fence.wide n P fn tmps R [] .returning W') → LeavesInM Fence.wide n P fn tmps R (Ds.map mk) .returning W := by
  intro Ds
  induction Ds with
  | nil => exact fun W _ h => h W (Below.refl _ _) (fun _ _ h _ => h)
  | cons D Ds ih =>
    intro W hM h
    have hD := hM.blk D List.mem_cons_self
    have hnd := List.nodup_cons.1 hM.nd
    refine ⟨by simp, .inl ⟨D, _, rfl, run_takeDeferred hD, ih _ ⟨hnd.2, fun E hE => hM.ge E (List.mem_cons_of_mem _ hE), fun E hE => ?_⟩ fun W' hb hc => ?_⟩⟩
    · exact (World.putObj_heap_other (fun e => by subst e; exact hnd.1 hE)).trans (hM.blk E (List.mem_cons_of_mem _ hE))
    · refine h W' ((below_put _ _ (hM.ge D List.mem_cons_self)).trans hb) (fun k o hk ho => hc k o ((World.putObj_heap_other (fun e => ?_)).trans hk) ho)
      subst e
      rw [hD] at hk
      cases hk
      cases ho
/-- What is so behind every cell stays so. -/
theorem Bx.cells {x y : World} {b : Nat} {v : Value} {vs : List Value} (h : Bx x b (v :: vs)) (hc : ∀ (k : Nat) (o : Obj), x.heap[k]? = some o → o.isCells = true → y.heap[k]? = some o) (hs : x.heap.size ≤ y.heap.size) : Bx y b (v :: vs) := by
  have hb : y.heap[b]? = x.heap[b]? := by
    have := h.c 0 v rfl
    unfold World.cell? at this
    cases ho : x.heap[b]? with
    | none => simp [ho] at this
    | some o =>
      refine hc b o ho ?_
      cases o <;> simp_all [Obj.isCells]
  exact ⟨fun j u hu => (World.cell?_of_block (w := x) (a := ⟨b, j, none⟩) hb).trans (h.c j u hu), fun o => (World.frozen?_of_block (w := x) (a := ⟨b, o, none⟩) hb).trans (h.f o), Nat.lt_of_lt_of_le h.lt hs⟩
theorem Bx.obj {W : World} {b l : Nat} {o : Obj} {v : Value} {vs : List Value} (h : Bx W b (v :: vs)) (hl : W.heap[l]? = some o) (ho : o.isCells = false) (o' : Obj) : Bx (W.putObj l o') b (v :: vs) := by
  have hne := not_cells hl ho h
  have hk : (W.putObj l o').heap[b]? = W.heap[b]? := World.putObj_heap_other hne
  exact ⟨fun j u hu => (World.cell?_of_block (w := W) (a := ⟨b, j, none⟩) hk).trans (h.c j u hu), fun o => (World.frozen?_of_block (w := W) (a := ⟨b, o, none⟩) hk).trans (h.f o), by simpa using h.lt⟩
theorem FR.cells {B : Nat} {W y : World} {g n : Nat} {vs : Nat → Value} {L : Nat → List Int} (h : FR B W g n vs L) (hc : ∀ (k : Nat) (o : Obj), W.heap[k]? = some o → o.isCells = true → y.heap[k]? = some o) : FR B y g n vs L := by
  obtain ⟨cs, hcs⟩ := h.blk
  refine ⟨h.ge, ⟨cs, hc _ _ hcs rfl⟩, fun i hi => (World.cell?_of_block (w := W) (a := ⟨g, i, none⟩) ((hc _ _ hcs rfl).trans hcs.symm)).trans (h.cell i hi), fun i hi => ?_, h.inj⟩
  have ho := h.own i hi
  refine ⟨ho.1, ?_⟩
  rcases ho.2 with e | ⟨b, cap, cur, e, hb, hh, rest⟩
  · exact .inl e
  · exact .inr ⟨b, cap, cur, e, hb, hc _ _ hh rfl, rest⟩
theorem Kf.below {B : Nat} {W W' : World} (h : Below W.heap.size W W') : Kf B W W' := fun k o _ hk _ => (h.block k (Array.getElem?_eq_some_iff.1 hk).1).trans hk
theorem Kf.trans {B : Nat} {A W W' : World} (h : Kf B A W) (h2 : Kf B W W') : Kf B A W' := fun k o hb hk ho => h2 k o hb (h k o hb hk ho) ho
theorem KT.trans {T : TypeId} {B : Nat} {A W W' : World} (h : KT T B A W) (h2 : KT T B W W') : KT T B A W' := fun q cs fr hq hc => h2 q cs fr hq (h q cs fr hq hc)
theorem KT.below {T : TypeId} {B : Nat} {W W' : World} (h : Below W.heap.size W W') : KT T B W W' := fun q cs fr _ hc => (h.block q (Array.getElem?_eq_some_iff.1 hc).1).trans hc
/-- A row of another type was written to. -/
theorem keep_gb {T : TypeId} {B : Nat} {W W' : World} {r : Option Nat} (hg : W.grownBy W' r) (hr : ∀ b, r = some b → ∃ c T' f, W.heap[b]? = some (.cells c T' f) ∧ T' ≠ T) : Kf B W W' ∧ KT T B W W' := by
  refine ⟨fun k o _ hk ho => ?_, fun q cs fr _ hc => ?_⟩
  · refine (hg.block k (Array.getElem?_eq_some_iff.1 hk).1 (fun e => ?_)).trans hk
    obtain ⟨c, T', f, hc, -⟩ := hr k e.symm
    rw [hk] at hc
    cases hc
    cases ho
  · refine (hg.block q (Array.getElem?_eq_some_iff.1 hc).1 (fun e => ?_)).trans hc
    obtain ⟨c, T', f, hc2, hT⟩ := hr q e.symm
    rw [hc] at hc2
    cases hc2
    exact hT rfl
end Go.Proofs.YtljgpngbkmembaaDoor

/- A box that a call stores into; 'set'. -/
import Derived.Test.YtgjingleolhkbaaGreatDoorAsSaid
import Derived.Test.YtgjingleolhkbaaGreatDoorAsOp
namespace Go.Proofs.YtgjingleolhkbaaGreatDoor
open Go.RowKit
set_option linter.unusedVariables false
set_option linter.unusedSimpArgs false

structure Bx (x : World) (b : Nat) (vs : List Value) : Prop where
  c : ∀ j u, vs[j]? = some u → x.cell? ⟨b, j, none⟩ = some u
  f : ∀ o, x.frozen? ⟨b, o, none⟩ = false
  lt : b < x.heap.size
theorem Bx.new (w : World) (a : Array Value) (t : TypeId) : Bx (w.alloc (.cells a t)) w.heap.size a.toList :=
  ⟨fun j u hu => row_cell (by simpa using hu), fun o => World.frozen?_alloc_at _ _ _ _ rfl, by simp⟩
theorem Bx.below {x y : World} {b : Nat} {vs : List Value} (h : Bx x b vs) (hb : Below x.heap.size x y) : Bx y b vs :=
  ⟨fun j u hu => cell_thru hb (h.c j u hu), fun o => (hb.frozen (p := ⟨b, o, none⟩) h.lt).trans (h.f o), Nat.lt_of_lt_of_le h.lt hb.size⟩
theorem Bx.gb {x y : World} {b r : Nat} {vs : List Value} (h : Bx x b vs) (hg : x.grownBy y (some r)) (hne : b ≠ r) : Bx y b vs :=
  ⟨fun j u hu => hg.cell (h.c j u hu) (by simpa using hne), fun o => (hg.frozen_far ⟨b, o, none⟩ h.lt (by simpa using hne)).trans (h.f o), Nat.lt_of_lt_of_le h.lt hg.size⟩
theorem Bx.put {x : World} {b : Nat} {vs : List Value} (h : Bx x b vs) (k : Nat) (hk : k < vs.length) (u : Value) : Bx (x.setCell ⟨b, k, none⟩ u) b (vs.set k u) := by
  refine ⟨fun j v hv => ?_, fun o => by rw [World.frozen?_setCell]; exact h.f o, by rw [World.size_setCell]; exact h.lt⟩
  by_cases e : k = j
  · subst e
    rw [List.getElem?_set_self hk] at hv
    cases hv
    refine World.cell?_setCell_same' _ _ _ ?_
    rw [h.c k vs[k] (by simp [hk])]
    rfl
  · rw [List.getElem?_set_ne e] at hv
    rw [World.cell?_setCell_other _ _ _ _ (fun e' => e (by have := congrArg Addr.off e'; simpa using this))]
    exact h.c j v hv
theorem gb_set (w : World) (a : Addr) (u : Value) : w.grownBy (w.setCell a u) (some a.block) :=
  ⟨rfl, rfl, rfl, by rw [World.size_setCell]; exact Nat.le_refl _, fun k _ hk => Below.heap_setCell _ _ _ _ (fun e => hk (by rw [e]))⟩
theorem gbt {w w1 w2 : World} {r : Option Nat} (h : w.grownBy w1 r) (k : w1.grownBy w2 r) : w.grownBy w2 r :=
  ⟨k.os.trans h.os, k.tape.trans h.tape, k.output.trans h.output, Nat.le_trans h.size k.size, fun i hi hr => (k.block i (Nat.lt_of_lt_of_le hi h.size) hr).trans (h.block i hi hr)⟩
theorem gb_of_below {w x : World} (h : Below w.heap.size w x) (r : Option Nat) : w.grownBy x r := ⟨h.os, h.tape, h.output, h.size, fun k hk _ => h.block k hk⟩
theorem below_gb {w x y : World} {B b : Nat} (h : Below B w x) (hg : x.grownBy y (some b)) (hB : B ≤ b) (hw : B ≤ x.heap.size) : Below B w y :=
  ⟨hg.os.trans h.os, hg.tape.trans h.tape, hg.output.trans h.output, Nat.le_trans h.size hg.size, fun i hi => (hg.block i (by omega) (fun e => by cases e; omega)).trans (h.block i hi)⟩
theorem Tab.gb {w w' : World} {b : Nat} (h : Tab w) (hg : w.grownBy w' (some b)) (hb : 9 ≤ b) : Tab w' := by
  have hz := h.hz
  have k : ∀ a : Nat, a < 9 → w'.heap[a]? = w.heap[a]? := fun a ha => hg.block a (by omega) (fun e => by cases e; omega)
  have kc : ∀ a o, a < 9 → w'.cell? ⟨a, o, none⟩ = w.cell? ⟨a, o, none⟩ := fun a o ha => by
    unfold World.cell?
    simp only
    rw [k a ha]
  obtain ⟨e1, h1, h2⟩ := h.es
  obtain ⟨e2, h3, h4⟩ := h.er
  obtain ⟨m, h5⟩ := h.ml
  refine ⟨fun j hj => ⟨(kc 0 _ (by omega)).trans (h.rw j hj).1, (kc 0 _ (by omega)).trans (h.rw j hj).2⟩, ⟨m, (kc 3 0 (by omega)).trans h5⟩, ?_, ⟨e1, (kc 4 0 (by omega)).trans h1, h2⟩, ⟨e2, (kc 5 0 (by omega)).trans h3, h4⟩, Nat.le_trans hz hg.size⟩
  have hp := h.pw
  unfold Lib.TabIs World.var? at *
  rw [gPow] at *
  simp only [Option.bind_some] at hp ⊢
  rw [k 6 (by omega)]
  exact hp

/-- An item's cells. -/
def itC (t : X.It) (v : Value) : List Value := [.int .i64 t.kind, .string (X.str t.name), .int .i64 t.op, .int .i64 t.a, .int .i64 t.b, .int .i64 t.n, v]
/-- What 'set' leaves. -/
def SetOut (w : World) (b : Nat) (v : Value) (r : Option X.It) (e : Ending) (w' : World) : Prop :=
  ∃ ok, e = .returned (.bool ok) ∧ (ok = true → ∃ t', r = some t' ∧ Bx w' b (itC t' v)) ∧ (ok = false → r = none) ∧ w.grownBy w' (some b)

set_option maxRecDepth 100000 in
set_option maxHeartbeats 8000000 in
theorem set_any (kd : Int) (nm : X.By) (op a bb n : Int) (ws : List Int) (v : Value) (b : Nat) (c : UInt8) (s : ByteArray) (hs : s.size ≤ 200000) (w : World) (ht : Tab w) (hb : Bx w b (itC ⟨kd, nm, op, a, bb, n, ws⟩ v)) :
    Calls Tryz.prog 116 #[.pointer (some ⟨b, 0, none⟩), .int .u8 c.toNat, .string s] w (SetOut w b v (X.set ⟨kd, nm, op, a, bb, n, ws⟩ c s.data.toList)) := by
  have e65 : c.toNat = 65 ↔ c = 65 := ⟨fun e => UInt8.toNat_inj.1 (by rw [e]; rfl), fun e => by rw [e]; rfl⟩
  have e66 : c.toNat = 66 ↔ c = 66 := ⟨fun e => UInt8.toNat_inj.1 (by rw [e]; rfl), fun e => by rw [e]; rfl⟩
  have e78 : c.toNat = 78 ↔ c = 78 := ⟨fun e => UInt8.toNat_inj.1 (by rw [e]; rfl), fun e => by rw [e]; rfl⟩
  have e64 : c.toNat = 64 ↔ c = 64 := ⟨fun e => UInt8.toNat_inj.1 (by rw [e]; rfl), fun e => by rw [e]; rfl⟩
  have HX : Hid _ := hb
  have HT : Hid _ := ht
  have c1 := hb.c 1 _ rfl
  have c3 := hb.c 3 _ rfl
  have c4 := hb.c 4 _ rfl
  have c5 := hb.c 5 _ rfl
  have f1 := hb.f 1
  have f3 := hb.f 3
  have f4 := hb.f 4
  have f5 := hb.f 5
  have hlt := hb.lt
  clear hb ht
  by_cases h65 : c.toNat = 65
  · have HR : Hid (X.set ⟨kd, nm, op, a, bb, n, ws⟩ c s.data.toList = (X.reg s.data.toList).map fun x => ⟨kd, nm, op, x, bb, n, ws⟩) := by show _ = _; unfold X.set; rw [if_pos (e65.1 h65)]
    have hreg := register_any s
    rw [h65]
    clear h65 e65 e66 e78 e64
    cases hr : X.reg s.data.toList with
    | none =>
      rw [hr] at HR
      go_enter Tryz.func116, Tryz.ntmps116
      go_wp2_with (go_at_call 126; refine (hreg _).mono ?_; rw [hr]; rintro e y ⟨rfl, rfl⟩)
      go_ret
      exact ⟨false, rfl, (fun h => by cases h), fun _ => HR.out, gb_set _ _ _⟩
    | some x =>
      rw [hr] at HR
      go_enter Tryz.func116, Tryz.ntmps116
      go_wp2_with (go_at_call 126; refine (hreg _).mono ?_; rw [hr]; rintro e y ⟨rfl, rfl⟩)
      go_ret
      exact ⟨true, rfl, fun _ => ⟨_, HR.out, HX.out.put 3 (by simp [itC]) _⟩, (fun h => by cases h), gb_set _ _ _⟩
  by_cases h66 : c.toNat = 66
  · have HR : Hid (X.set ⟨kd, nm, op, a, bb, n, ws⟩ c s.data.toList = (X.reg s.data.toList).map fun x => ⟨kd, nm, op, a, x, n, ws⟩) := by show _ = _; unfold X.set; rw [if_neg (fun e => h65 (e65.2 e)), if_pos (e66.1 h66)]
    have hreg := register_any s
    rw [h66]
    clear h65 h66 e65 e66 e78 e64
    cases hr : X.reg s.data.toList with
    | none =>
      rw [hr] at HR
      go_enter Tryz.func116, Tryz.ntmps116
      go_wp2_with (go_at_call 126; refine (hreg _).mono ?_; rw [hr]; rintro e y ⟨rfl, rfl⟩)
      go_ret
      exact ⟨false, rfl, (fun h => by cases h), fun _ => HR.out, gb_set _ _ _⟩
    | some x =>
      rw [hr] at HR
      go_enter Tryz.func116, Tryz.ntmps116
      go_wp2_with (go_at_call 126; refine (hreg _).mono ?_; rw [hr]; rintro e y ⟨rfl, rfl⟩)
      go_ret
      exact ⟨true, rfl, fun _ => ⟨_, HR.out, HX.out.put 4 (by simp [itC]) _⟩, (fun h => by cases h), gb_set _ _ _⟩
  by_cases h78 : c.toNat = 78
  · have HR : Hid (X.set ⟨kd, nm, op, a, bb, n, ws⟩ c s.data.toList = (X.num s.data.toList).map fun x => ⟨kd, nm, op, a, bb, x, ws⟩) := by show _ = _; unfold X.set; rw [if_neg (fun e => h65 (e65.2 e)), if_neg (fun e => h66 (e66.2 e)), if_pos (e78.1 h78)]
    have hnum := number_any s (by omega)
    rw [h78]
    clear h65 h66 h78 e65 e66 e78 e64 c1 c3 c4 f1 f3 f4
    go_enter Tryz.func116, Tryz.ntmps116
    go_wp2_with fail
    refine (hnum _ HT.out).mono ?_
    rintro e y ⟨z, ok, rfl, ⟨h1, h2⟩, hb⟩
    have HB : Hid (Below w.heap.size w y) := hb
    have d5 := cell_thru hb c5
    have g5 : y.frozen? ⟨b, 5, none⟩ = false := (hb.frozen (p := ⟨b, 5, none⟩) hlt).trans f5
    have hlt2 : b < y.heap.size := Nat.lt_of_lt_of_le hlt hb.size
    clear hb c5 f5 hnum
    cases ok with
    | false =>
      have HN : Hid (X.num s.data.toList = none) := h2 rfl
      clear h1 h2
      go_wp2_with fail
      go_ret
      exact ⟨false, rfl, (fun h => by cases h), (fun _ => by rw [HR.out, HN.out]; rfl), gbt (gb_of_below HB.out _) (gb_set _ _ _)⟩
    | true =>
      have HN : Hid (X.num s.data.toList = some z) := h1 rfl
      clear h1 h2
      go_wp2_with fail
      go_ret
      exact ⟨true, rfl, (fun _ => ⟨_, by rw [HR.out, HN.out]; rfl, (HX.out.below HB.out).put 5 (by simp [itC]) _⟩), (fun h => by cases h), gbt (gb_of_below HB.out _) (gb_set _ _ _)⟩
  have k1 : ((c.toNat : Int) == 65) = false := by simp; omega
  have k2 : ((c.toNat : Int) == 66) = false := by simp; omega
  have k3 : ((c.toNat : Int) == 78) = false := by simp; omega
  by_cases h64 : c.toNat = 64
  · have HR : Hid (X.set ⟨kd, nm, op, a, bb, n, ws⟩ c s.data.toList = some ⟨kd, s.data.toList, op, a, bb, n, ws⟩) := by show _ = _; unfold X.set; rw [if_neg (fun e => h65 (e65.2 e)), if_neg (fun e => h66 (e66.2 e)), if_neg (fun e => h78 (e78.2 e)), if_pos (e64.1 h64)]
    have HP := HX.out.put 1 (by simp [itC]) (.string s)
    have HP2 : Hid (Bx (w.setCell ⟨b, 1, none⟩ (.string s)) b (itC ⟨kd, s.data.toList, op, a, bb, n, ws⟩ v)) := by
      have e : (itC ⟨kd, nm, op, a, bb, n, ws⟩ v).set 1 (.string s) = itC ⟨kd, s.data.toList, op, a, bb, n, ws⟩ v := by simp [itC, str_eq]
      rw [e] at HP
      exact HP
    clear HP
    rw [h64]
    clear h65 h66 h78 h64 e65 e66 e78 e64 k1 k2 k3
    go_enter Tryz.func116, Tryz.ntmps116
    go_wp2_with fail
    go_ret
    exact ⟨true, rfl, fun _ => ⟨_, HR.out, HP2.out⟩, (fun h => by cases h), gb_set _ _ _⟩
  · have HR : Hid (X.set ⟨kd, nm, op, a, bb, n, ws⟩ c s.data.toList = none) := by show _ = _; unfold X.set; rw [if_neg (fun e => h65 (e65.2 e)), if_neg (fun e => h66 (e66.2 e)), if_neg (fun e => h78 (e78.2 e)), if_neg (fun e => h64 (e64.2 e))]
    have k4 : ((c.toNat : Int) == 64) = false := by simp; omega
    clear h65 h66 h78 h64 e65 e66 e78 e64
    go_enter Tryz.func116, Tryz.ntmps116
    go_wp2_with fail
    go_ret
    exact ⟨false, rfl, (fun h => by cases h), fun _ => HR.out, gb_of_below (Below.refl _ _) _⟩

end Go.Proofs.YtgjingleolhkbaaGreatDoor

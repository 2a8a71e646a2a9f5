/- What Read comes to: a reader of its own, object, and the panic that is recovered. -/
import Derived.Test.YtmplnkfjaeegdaaDoorPObjD
import Derived.Recover
import Derived.Deep.LoopGhost
import Derived.BigQuiet
import Derived.Test.YtmplnkfjaeegdaaDoorRows
import Derived.ProofKit
import Derived.ShutString
import Derived.ChangeOld
import Derived.ChangeMaps5
import Derived.Below
import Derived.Carry
import Derived.Lib.SmallJoins
import Derived.Deep.Slices
import Derived.Deep.Strs
namespace Go.Proofs.YtmplnkfjaeegdaaDoor
set_option maxRecDepth 100000
open Go.RowKit Go.Maps Go.Lib
set_option linter.unusedVariables false

theorem catch_panicking (b0 b1 : Nat) (hne : b0 ≠ b1) (u : TypeId) (pv : Value) (older : List PanicEntry) (w : World) (v0 v1 v2 v3 v4 : Value) (c0 : w.cell? ⟨b0, 0, none⟩ = some v0) (c1 : w.cell? ⟨b0, 1, none⟩ = some v1) (c2 : w.cell? ⟨b0, 2, none⟩ = some v2) (c3 : w.cell? ⟨b0, 3, none⟩ = some v3) (c4 : w.cell? ⟨b1, 0, none⟩ = some v4) (z0 : ∀ o, w.frozen? ⟨b0, o, none⟩ = false) (z1 : ∀ o, w.frozen? ⟨b1, o, none⟩ = false) :
    CallsD Tryd.prog 80 #[.pointer (some ⟨b0, 0, none⟩), .pointer (some ⟨b1, 0, none⟩)] (.panicking ({ v := .iface u pv, recovered := false } :: older)) w fun e u' w' =>
      e = .returned (.tuple #[]) ∧ u' = .panicking ({ v := .iface u pv, recovered := true } :: older) ∧ w' = ((((w.setCell ⟨b0, 0, none⟩ (.string { data := #[] })).setCell ⟨b0, 1, none⟩ (.slice none 0 0)).setCell ⟨b0, 2, none⟩ (.slice none 0 0)).setCell ⟨b0, 3, none⟩ (.slice none 0 0)).setCell ⟨b1, 0, none⟩ (.int .i64 9) := by
  refine callsD_of_wpS Tryd.func80 rfl fun k₀ cs hu => ?_
  apply wpS_seq
  apply wpS_region
  simp [wpOpsS, go_sem, recoverD, hu, Tryd.ntmps80, Exit.thenS]
  refine wpS_cond (t := true) (by simp [Act.eval, Array.replicate]) ?_
  simp only [if_true]
  apply wpS_region
  simp [wpOpsS, go_sem, c0, c1, c2, c3, c4, z0, z1, bodyPostS, results, Tryd.results80]

theorem catch_idle (b0 b1 : Nat) (w : World) :
    CallsD Tryd.prog 80 #[.pointer (some ⟨b0, 0, none⟩), .pointer (some ⟨b1, 0, none⟩)] .returning w fun e u' w' => e = .returned (.tuple #[]) ∧ u' = .returning ∧ w' = w := by
  refine callsD_of_wpS Tryd.func80 rfl fun c₀ cs hu => ?_
  apply wpS_seq
  apply wpS_region
  simp [wpOpsS, go_sem, recoverD, hu, Tryd.ntmps80, Exit.thenS]
  refine wpS_cond (t := false) (by simp [Act.eval, Array.replicate]) ?_
  simp only [Bool.false_eq_true, if_false]
  refine wpS_of_wp (wp_skip ?_)
  cases c₀
  simp_all [bodyPostS, results, Tryd.results80]

def noObjV : Value := .agg #[.string { data := #[] }, .slice none 0 0, .slice none 0 0, .slice none 0 0]
theorem grown_toBelow {w x : World} {B br : Nat} (h : w.grownBy x (some br)) (hB : B ≤ w.heap.size) (hb : B ≤ br) : Below B w x := (Below.refl B w).grown h hB (fun b e => by cases e; exact hb)

theorem own_base {w : World} {B B' : Nat} {v : Value} {e : TypeId} {size n : Nat} {xs : List Value} (o : w.ownsRow B e size v n xs) (h : B' ≤ B) : w.ownsRow B' e size v n xs := by
  refine ⟨o.1, ?_⟩
  rcases o.2 with h1 | ⟨g, cap, cur, h1, h2, h3⟩
  · exact .inl h1
  · exact .inr ⟨g, cap, cur, h1, Nat.le_trans h h2, h3⟩
theorem ObjF.far {B : Nat} {w : World} {v : Value} {o : ObjD} (h : ObjF B w v o) (a : Addr) (u : Value) (ha : a.block < B) : ObjF B (w.setCell a u) v o := by
  obtain ⟨v1, v2, v3, e, o1, o2, o3⟩ := h.form
  exact ⟨⟨v1, v2, v3, e, o1.kept (gb_setO w a u) (.inr fun e => by have := (o1.lt _ e).1; omega), o2.kept (gb_setO w a u) (.inr fun e => by have := (o2.lt _ e).1; omega), o3.kept (gb_setO w a u) (.inr fun e => by have := (o3.lt _ e).1; omega)⟩, h.isin⟩
theorem ObjF.mono {B B' : Nat} {w : World} {v : Value} {o : ObjD} (h : ObjF B w v o) (hb : B' ≤ B) : ObjF B' w v o := by
  obtain ⟨v1, v2, v3, e, o1, o2, o3⟩ := h.form
  exact ⟨⟨v1, v2, v3, e, own_base o1 hb, own_base o2 hb, own_base o3 hb⟩, h.isin⟩
theorem below_five {B b0 b1 : Nat} {w y : World} (h : Below B w y) (h0 : B ≤ b0) (h1 : B ≤ b1) (u0 u1 u2 u3 u4 : Value) : Below B w (((((y.setCell ⟨b0, 0, none⟩ u0).setCell ⟨b0, 1, none⟩ u1).setCell ⟨b0, 2, none⟩ u2).setCell ⟨b0, 3, none⟩ u3).setCell ⟨b1, 0, none⟩ u4) :=
  ((((h.setCell h0 u0).setCell h0 u1).setCell h0 u2).setCell h0 u3).setCell h1 u4

set_option maxRecDepth 100000 in
set_option maxHeartbeats 4000000 in
theorem read_any (s : ByteArray) (hs : s.size ≤ maxLen) (w : World) :
    Calls Tryd.prog 56 #[.string s] w fun e w' => ((∃ o, rdObj s = some o ∧ ∃ v, e = .returned (.tuple #[v, .int .i64 0]) ∧ ObjF w.heap.size w' v o) ∨ (rdObj s = none ∧ e = .returned (.tuple #[noObjV, .int .i64 9]))) ∧ Below w.heap.size w w' := by
  have hmf : ∀ (fn : Fn) (first cap : Array Value) (w : World), (Instr.makeFunc fn first cap).run Tryd.prog w = .ok (.func fn first cap) w := fun _ _ _ _ => rfl
  obtain ⟨W1, hW1⟩ : ∃ W1, w.alloc (.cells #[.string { data := #[] }, .slice none 0 0, .slice none 0 0, .slice none 0 0] 90) = W1 := ⟨_, rfl⟩
  have s1 : W1.heap.size = w.heap.size + 1 := by subst hW1; simp
  have b1 : Below w.heap.size w W1 := by subst hW1; exact bl_one _ _
  obtain ⟨W2, hW2⟩ : ∃ W2, W1.alloc (.cells #[.int .i64 0] 29) = W2 := ⟨_, rfl⟩
  have s2 : W2.heap.size = w.heap.size + 1 + 1 := by subst hW2; simp; omega
  have b2 : Below W1.heap.size W1 W2 := by subst hW2; exact bl_one _ _
  obtain ⟨W3, hW3⟩ : ∃ W3, W2.alloc (.cells #[.string s, .int .i64 0] 135) = W3 := ⟨_, rfl⟩
  have s3 : W3.heap.size = w.heap.size + 1 + 1 + 1 := by subst hW3; simp; omega
  have b3 : Below W2.heap.size W2 W3 := by subst hW3; exact bl_one _ _
  have HBL : Hid (Below w.heap.size w W3) := (b1.trans (b2.mono (by omega))).trans (b3.mono (by omega))
  have HR : Hid (RdV W3 (w.heap.size + 1 + 1) s 0) := ⟨by subst hW3; exact cell_last s2.symm rfl, by subst hW3; exact cell_last s2.symm rfl, fun o => by subst hW3; exact World.frozen?_alloc_at _ _ _ _ s2.symm, Nat.zero_le _, hs⟩
  have HC : Hid (Cells W3 w.heap.size [.string { data := #[] }, .slice none 0 0, .slice none 0 0, .slice none 0 0]) := fun j u hu => cell_thru b3 (cell_thru b2 (by subst hW1; exact cell_last rfl (by simpa using hu)))
  have HE : Hid (W3.cell? ⟨w.heap.size + 1, 0, none⟩ = some (.int .i64 0)) := cell_thru b3 (by subst hW2; exact cell_last s1.symm rfl)
  have HZ0 : Hid (∀ o, W3.frozen? ⟨w.heap.size, o, none⟩ = false) := fun o => by
    rw [b3.frozen (p := ⟨w.heap.size, o, none⟩) (by show w.heap.size < _; omega), b2.frozen (p := ⟨w.heap.size, o, none⟩) (by show w.heap.size < _; omega)]
    subst hW1; exact World.frozen?_alloc_at _ _ _ _ rfl
  have HZ1 : Hid (∀ o, W3.frozen? ⟨w.heap.size + 1, o, none⟩ = false) := fun o => by
    rw [b3.frozen (p := ⟨w.heap.size + 1, o, none⟩) (by show w.heap.size + 1 < _; omega)]
    subst hW2; exact World.frozen?_alloc_at _ _ _ _ s1.symm
  clear b1 b2 b3
  go_enter_defers Tryd.func56, Tryd.ntmps56
  go_wp2_with fail
  refine (robj_any HR.out).mono ?_
  rintro e y ⟨⟨o, ho, v, rfl, hF⟩ | ⟨ho, c, rfl⟩, hg⟩
  · obtain ⟨v1, v2, v3, rfl, o1, o2, o3⟩ := hF.form
    obtain ⟨a1, c1, rfl⟩ := own_slice o1
    obtain ⟨a2, c2, rfl⟩ := own_slice o2
    obtain ⟨a3, c3, rfl⟩ := own_slice o3
    have q0 := grown_cell hg (HC.out 0 _ rfl) (by omega)
    have q1 := grown_cell hg (HC.out 1 _ rfl) (by omega)
    have q2 := grown_cell hg (HC.out 2 _ rfl) (by omega)
    have q3 := grown_cell hg (HC.out 3 _ rfl) (by omega)
    have q4 := grown_cell hg HE.out (by omega)
    have z0 := fun o => grown_froz (o := o) hg (by omega) (by omega) (HZ0.out o)
    have z1 := fun o => grown_froz (o := o) hg (by omega) (by omega) (HZ1.out o)
    have HO : Hid _ := ho
    have HF : Hid _ := hF
    have HG : Hid _ := hg
    have HIN : Hid _ := hF.isin
    have O1 : Hid _ := o1
    have O2 : Hid _ := o2
    have O3 : Hid _ := o3
    clear ho hF hg o1 o2 o3
    go_wp2
    refine leaves_cons (f := 80) (args := #[.pointer (some ⟨w.heap.size, 0, none⟩), .pointer (some ⟨w.heap.size + 1, 0, none⟩)]) (by simp) (by simp [go_sem]) ?_
    refine (catch_idle w.heap.size (w.heap.size + 1) _).mono ?_
    rintro e u' w'' ⟨rfl, rfl, rfl⟩
    simp [Leaves, settle, results, Tryd.results56, go_sem, q0, q1, q2, q3, q4]
    have hl0 : w.heap.size < W3.heap.size + 1 := by omega
    have hl1 : w.heap.size + 1 < W3.heap.size + 1 := by omega
    refine ⟨⟨o, HO.out, (((((HF.out.far _ _ hl0).far _ _ hl0).far _ _ hl0).far _ _ hl0).far _ _ hl1).mono (by omega)⟩, below_five (HBL.out.trans (grown_toBelow HG.out (by omega) (by omega))) (Nat.le_refl _) (Nat.le_succ _) _ _ _ _ _⟩
  · have q0 := grown_cell hg (HC.out 0 _ rfl) (by omega)
    have q1 := grown_cell hg (HC.out 1 _ rfl) (by omega)
    have q2 := grown_cell hg (HC.out 2 _ rfl) (by omega)
    have q3 := grown_cell hg (HC.out 3 _ rfl) (by omega)
    have q4 := grown_cell hg HE.out (by omega)
    have z0 := fun o => grown_froz (o := o) hg (by omega) (by omega) (HZ0.out o)
    have z1 := fun o => grown_froz (o := o) hg (by omega) (by omega) (HZ1.out o)
    have HO : Hid _ := ho
    have HG : Hid _ := hg
    clear ho hg
    go_wp2
    refine leaves_cons (f := 80) (args := #[.pointer (some ⟨w.heap.size, 0, none⟩), .pointer (some ⟨w.heap.size + 1, 0, none⟩)]) (by simp) (by simp [go_sem]) ?_
    refine (catch_panicking w.heap.size (w.heap.size + 1) (by omega) _ _ [] _ _ _ _ _ _ q0 q1 q2 q3 q4 z0 z1).mono ?_
    rintro e u' w'' ⟨rfl, rfl, rfl⟩
    simp [Leaves, settle, results, Tryd.results56, go_sem, q0, q1, q2, q3, q4]
    exact ⟨⟨HO.out, rfl⟩, below_five (HBL.out.trans (grown_toBelow HG.out (by omega) (by omega))) (Nat.le_refl _) (Nat.le_succ _) _ _ _ _ _⟩

end Go.Proofs.YtmplnkfjaeegdaaDoor

/- What the document's SameData, SameSyms and Same come to. (Written by gen_same.py.) -/
namespace Go.Proofs.YtmplnkfjaeegdaaDoor
set_option maxRecDepth 100000
open Go.RowKit Go.Maps Go.Lib
set_option linter.unusedVariables false

theorem bl_drewN {B : Nat} {x y : World} (h : Below B x y) (m : Nat) : Below B x (y.drewN m) := ⟨h.os, h.tape, h.output, h.size, h.block⟩
theorem list_ext_getD {α : Type} {xs ys : List α} (d : α) (hl : xs.length = ys.length) (h : ∀ i, i < xs.length → xs.getD i d = ys.getD i d) : xs = ys := by
  refine List.ext_getElem hl fun i h1 h2 => ?_
  have := h i h1
  simpa [List.getD, h1, h2] using this
theorem bool_of (P : Prop) : ∃ b : Bool, (b = true ↔ P) := by
  by_cases h : P
  · exact ⟨true, by simp [h]⟩
  · exact ⟨false, by simp [h]⟩
theorem bool_no {b : Bool} {P : Prop} (h : b = true ↔ P) (hn : ¬ P) : b = false := by
  cases b with
  | false => rfl
  | true => exact absurd (h.1 rfl) hn
theorem toList_ne {a b : ByteArray} (h : ¬ a = b) : (a.toList == b.toList) = false := by
  rw [ByteArray.toList_eq, ByteArray.toList_eq]
  exact beq_eq_false_iff_ne.2 (fun e => h (bytes_ext e))
theorem symEq_yes (n : ByteArray) (k p : Int) (w : World) : (Op.equalIn 10000 66 (.agg #[.string n, .int .i64 k, .int .i64 p]) (.agg #[.string n, .int .i64 k, .int .i64 p])).run Tryd.prog w = .ok true w := by
  go_simp
theorem symEq_no {n n' : ByteArray} {k p k' p' : Int} (h : ¬ (⟨n, k, p⟩ : Sym) = ⟨n', k', p'⟩) (w : World) : (Op.equalIn 10000 66 (.agg #[.string n, .int .i64 k, .int .i64 p]) (.agg #[.string n', .int .i64 k', .int .i64 p'])).run Tryd.prog w = .ok false w := by
  by_cases h1 : n = n'
  · subst h1
    by_cases h2 : k = k'
    · subst h2
      by_cases h3 : p = p'
      · subst h3; exact absurd rfl h
      · clear h
        go_simp
    · clear h
      go_simp
  · clear h
    have hd := toList_ne h1
    go_simp
theorem relEq_yes (p k : Int) (n : ByteArray) (a : Int) (w : World) : (Op.equalIn 10000 156 (.agg #[.int .i64 p, .int .i64 k, .string n, .int .i64 a]) (.agg #[.int .i64 p, .int .i64 k, .string n, .int .i64 a])).run Tryd.prog w = .ok true w := by
  go_simp
theorem relEq_no {n n' : ByteArray} {k p a k' p' a' : Int} (h : ¬ (⟨p, k, n, a⟩ : Rel) = ⟨p', k', n', a'⟩) (w : World) : (Op.equalIn 10000 156 (.agg #[.int .i64 p, .int .i64 k, .string n, .int .i64 a]) (.agg #[.int .i64 p', .int .i64 k', .string n', .int .i64 a'])).run Tryd.prog w = .ok false w := by
  by_cases h1 : p = p'
  · subst h1
    by_cases h2 : k = k'
    · subst h2
      by_cases h3 : n = n'
      · subst h3
        by_cases h4 : a = a'
        · subst h4; exact absurd rfl h
        · clear h
          go_simp
      · clear h
        have hd := toList_ne h3
        go_simp
    · clear h
      go_simp
  · clear h
    go_simp

set_option maxRecDepth 100000 in
set_option maxHeartbeats 4000000 in
theorem samedata_any {w : World} {a1 a2 : Option Addr} {l1 c1 l2 c2 : Nat} {xs ys : List Int} (h1 : IntsV w a1 l1 c1 xs) (h2 : IntsV w a2 l2 c2 ys) (hm : l1 ≤ maxLen) (bb : Bool) (hbb : bb = true ↔ xs = ys) :
    Calls Tryd.prog 31 #[.slice a1 l1 c1, .slice a2 l2 c2] w fun e w' => e = .returned (.bool bb) ∧ Below w.heap.size w w' := by
  have HBB : Hid _ := hbb
  have H1 : Hid _ := h1
  have H2 : Hid _ := h2
  have hm' : l1 ≤ 9223372036854775807 := by unfold maxLen at hm; omega
  clear h1 h2 hm hbb
  by_cases hl : l1 = l2
  rotate_left
  · have HNO : Hid (¬ xs = ys) := fun e => hl (by rw [← H1.out.count, ← H2.out.count, e])
    have hd : ((l1 : Int) != (l2 : Int)) = true := by simp; omega
    go_enter Tryd.func31, Tryd.ntmps31
    go_wp2
    go_ret
    exact ⟨by rw [bool_no HBB.out HNO.out]; rfl, Below.refl _ _⟩
  subst hl
  have hd : ((l1 : Int) != (l1 : Int)) = false := by simp
  go_enter Tryd.func31, Tryd.ntmps31
  go_wp2_with fail
  go_loopg [5] l1 (fun r iv wq => ∃ (k : Nat), iv = .int .i64 k ∧ k ≤ l1 ∧ l1 - k ≤ r ∧ Hid (∀ j, j < k → xs.getD j 0 = ys.getD j 0) ∧ Hid (Below w.heap.size w wq))
  case atStart => exact ⟨0, rfl, Nat.zero_le _, by omega, (fun j hj => by omega : ∀ j, j < 0 → xs.getD j 0 = ys.getD j 0), Below.refl _ _⟩
  case round =>
    obtain ⟨k, rfl, hk, hr, HAL, HBL⟩ := hrel
    by_cases hlt : k < l1
    · rcases H1.out.cells with h0 | ⟨b, off, hA, hc⟩
      · omega
      rcases H2.out.cells with h0 | ⟨b', off', hA', hc'⟩
      · omega
      have k0 := hc k hlt
      have k0' := hc' k hlt
      have hb0 := World.block_lt_of_cell? w ⟨b, off + k, none⟩ k0
      have hb1 := World.block_lt_of_cell? w ⟨b', off' + k, none⟩ k0'
      have q0 := (HBL.out.cell (p := ⟨b, off + k, none⟩) hb0).trans k0
      have r0 := (HBL.out.cell (p := ⟨b', off' + k, none⟩) hb1).trans k0'
      have HNE : Hid (∀ {x y : Int}, xs.getD k 0 = x → ys.getD k 0 = y → x ≠ y → ¬ xs = ys) := fun hx hy hne e => hne (by rw [← hx, ← hy, e])
      have HEQ : Hid (∀ {x y : Int}, xs.getD k 0 = x → ys.getD k 0 = y → x = y → ∀ j, j < k + 1 → xs.getD j 0 = ys.getD j 0) := fun hx hy he j hj => by
        by_cases hjk : j = k
        · rw [hjk, hx, hy, he]
        · exact HAL.out j (by omega)
      obtain ⟨x, hx⟩ : ∃ x, xs.getD k 0 = x := ⟨_, rfl⟩
      obtain ⟨y, hy⟩ : ∃ y, ys.getD k 0 = y := ⟨_, rfl⟩
      rw [hx] at q0
      rw [hy] at r0
      have HX : Hid _ := hx
      have HY : Hid _ := hy
      subst hA
      subst hA'
      have hii : (k : Int) < l1 := by omega
      have hin : 0 ≤ (k : Int) := by omega
      clear hc hc' k0 k0' hx hy hb0 hb1
      by_cases he : (x : Int) = y
      · have HNX : Hid _ := HEQ.out HX.out HY.out he
        have hde : (x != y) = false := by simp [he]
        clear he
        go_wp2_with fail
        go_quiet (fail)
        go_wp2_with fail
        go_roundg (l1 - (k + 1))
        case measure => omega
        case rel => exact ⟨k + 1, by first | rfl | (congr 1; omega), by omega, Nat.le_refl _, HNX.out, bl_drewN HBL.out _⟩
      · have HNO : Hid _ := HNE.out HX.out HY.out he
        have hde : (x != y) = true := by simp [he]
        clear he
        go_wp2_with fail
        go_quiet (fail)
        go_wp2
        go_ret
        exact ⟨by rw [bool_no HBB.out HNO.out]; rfl, bl_drewN HBL.out _⟩
    · obtain rfl : l1 = k := by omega
      have HYES : Hid (xs = ys) := list_ext_getD 0 (by rw [H1.out.count, H2.out.count]) (fun i hi => HAL.out i (by rw [← H1.out.count]; exact hi))
      go_wp2_with fail
      go_ret
      exact ⟨by rw [HBB.out.2 HYES.out]; rfl, HBL.out⟩

set_option maxRecDepth 100000 in
set_option maxHeartbeats 4000000 in
theorem samesyms_any {w : World} {a1 a2 : Option Addr} {l1 c1 l2 c2 : Nat} {xs ys : List Sym} (h1 : SymsV w a1 l1 c1 xs) (h2 : SymsV w a2 l2 c2 ys) (hm : l1 ≤ maxLen) (bb : Bool) (hbb : bb = true ↔ xs = ys) :
    Calls Tryd.prog 32 #[.slice a1 l1 c1, .slice a2 l2 c2] w fun e w' => e = .returned (.bool bb) ∧ Below w.heap.size w w' := by
  have HBB : Hid _ := hbb
  have H1 : Hid _ := h1
  have H2 : Hid _ := h2
  have hm' : l1 ≤ 9223372036854775807 := by unfold maxLen at hm; omega
  clear h1 h2 hm hbb
  by_cases hl : l1 = l2
  rotate_left
  · have HNO : Hid (¬ xs = ys) := fun e => hl (by rw [← H1.out.count, ← H2.out.count, e])
    have hd : ((l1 : Int) != (l2 : Int)) = true := by simp; omega
    go_enter Tryd.func32, Tryd.ntmps32
    go_wp2
    go_ret
    exact ⟨by rw [bool_no HBB.out HNO.out]; rfl, Below.refl _ _⟩
  subst hl
  have hd : ((l1 : Int) != (l1 : Int)) = false := by simp
  go_enter Tryd.func32, Tryd.ntmps32
  go_wp2_with fail
  go_loopg [5] l1 (fun r iv wq => ∃ (k : Nat), iv = .int .i64 k ∧ k ≤ l1 ∧ l1 - k ≤ r ∧ Hid (∀ j, j < k → xs.getD j noSym = ys.getD j noSym) ∧ Hid (Below w.heap.size w wq))
  case atStart => exact ⟨0, rfl, Nat.zero_le _, by omega, (fun j hj => by omega : ∀ j, j < 0 → xs.getD j noSym = ys.getD j noSym), Below.refl _ _⟩
  case round =>
    obtain ⟨k, rfl, hk, hr, HAL, HBL⟩ := hrel
    by_cases hlt : k < l1
    · rcases H1.out.cells with h0 | ⟨b, off, hA, hc⟩
      · omega
      rcases H2.out.cells with h0 | ⟨b', off', hA', hc'⟩
      · omega
      obtain ⟨k0, k1, k2⟩ := hc k hlt
      obtain ⟨k0', k1', k2'⟩ := hc' k hlt
      have hb0 := World.block_lt_of_cell? w ⟨b, off + k * 3, none⟩ k0
      have hb1 := World.block_lt_of_cell? w ⟨b', off' + k * 3, none⟩ k0'
      have q0 := (HBL.out.cell (p := ⟨b, off + k * 3, none⟩) hb0).trans k0
      have r0 := (HBL.out.cell (p := ⟨b', off' + k * 3, none⟩) hb1).trans k0'
      have q1 := (HBL.out.cell (p := ⟨b, off + k * 3 + 1, none⟩) hb0).trans k1
      have r1 := (HBL.out.cell (p := ⟨b', off' + k * 3 + 1, none⟩) hb1).trans k1'
      have q2 := (HBL.out.cell (p := ⟨b, off + k * 3 + 2, none⟩) hb0).trans k2
      have r2 := (HBL.out.cell (p := ⟨b', off' + k * 3 + 2, none⟩) hb1).trans k2'
      have HNE : Hid (∀ {x y : Sym}, xs.getD k noSym = x → ys.getD k noSym = y → x ≠ y → ¬ xs = ys) := fun hx hy hne e => hne (by rw [← hx, ← hy, e])
      have HEQ : Hid (∀ {x y : Sym}, xs.getD k noSym = x → ys.getD k noSym = y → x = y → ∀ j, j < k + 1 → xs.getD j noSym = ys.getD j noSym) := fun hx hy he j hj => by
        by_cases hjk : j = k
        · rw [hjk, hx, hy, he]
        · exact HAL.out j (by omega)
      obtain ⟨⟨xn, xk, xp⟩, hx⟩ : ∃ x, xs.getD k noSym = x := ⟨_, rfl⟩
      obtain ⟨⟨yn, yk, yp⟩, hy⟩ : ∃ y, ys.getD k noSym = y := ⟨_, rfl⟩
      rw [hx] at q0 q1 q2
      rw [hy] at r0 r1 r2
      simp only at q0 r0 q1 r1 q2 r2
      have HX : Hid _ := hx
      have HY : Hid _ := hy
      subst hA
      subst hA'
      have hii : (k : Int) < l1 := by omega
      have hin : 0 ≤ (k : Int) := by omega
      clear hc hc' k0 k0' k1 k1' k2 k2' hx hy hb0 hb1
      by_cases he : (⟨xn, xk, xp⟩ : Sym) = ⟨yn, yk, yp⟩
      · have HNX : Hid _ := HEQ.out HX.out HY.out he
        injection he with en ek ep
        subst en
        subst ek
        subst ep
        have hde := fun w => symEq_yes xn xk xp w
        go_wp2_with fail
        go_quiet (fail)
        go_wp2_with fail
        go_roundg (l1 - (k + 1))
        case measure => omega
        case rel => exact ⟨k + 1, by first | rfl | (congr 1; omega), by omega, Nat.le_refl _, HNX.out, bl_drewN HBL.out _⟩
      · have HNO : Hid _ := HNE.out HX.out HY.out he
        have hde := fun w => symEq_no he w
        clear he
        go_wp2_with fail
        go_quiet (fail)
        go_wp2
        go_ret
        exact ⟨by rw [bool_no HBB.out HNO.out]; rfl, bl_drewN HBL.out _⟩
    · obtain rfl : l1 = k := by omega
      have HYES : Hid (xs = ys) := list_ext_getD noSym (by rw [H1.out.count, H2.out.count]) (fun i hi => HAL.out i (by rw [← H1.out.count]; exact hi))
      go_wp2_with fail
      go_ret
      exact ⟨by rw [HBB.out.2 HYES.out]; rfl, HBL.out⟩

end Go.Proofs.YtmplnkfjaeegdaaDoor

/- Objects that may be, their forms: what the laws need. No program in sight. -/
namespace Go.Proofs.YtmplnkfjaeegdaaDoor
set_option maxRecDepth 100000
open Go.RowKit Go.Maps Go.Lib
set_option linter.unusedVariables false

theorem sym_in {cl dl : Nat} {s : Sym} (h : symOk cl dl s = true) (h1 : cl ≤ 65536) (h2 : dl ≤ 4096) : SymIn s := by
  unfold symOk nameOk at h
  simp only [Bool.and_eq_true, decide_eq_true_eq] at h
  obtain ⟨⟨a1, a2⟩, a3, a4⟩ := h
  unfold roomOf at a4
  refine ⟨a2, ?_, a3, ?_⟩
  · split at a4
    · omega
    · split at a4
      · omega
      · omega
  · split at a4
    · omega
    · split at a4
      · omega
      · omega
theorem rel_in {cl : Nat} {fr : Int} {r : Rel} (h : relOk cl fr r = true) (h0 : 0 ≤ fr) (h1 : cl ≤ 65536) (hw : (Lit.int .i64 r.add).wf = true) : RelIn r ∧ 0 ≤ r.pos + 4 := by
  unfold relOk nameOk addOk at h
  simp only [Bool.and_eq_true, decide_eq_true_eq] at h
  obtain ⟨⟨a1, a2⟩, ⟨a3, a4⟩, a5⟩ := h
  refine ⟨⟨⟨by omega, by omega⟩, ?_, a4, hw⟩, by omega⟩
  split at a5
  · omega
  · split at a5
    · omega
    · cases a5
theorem may_in {o : ObjD} (hm : o.may = true) (hd : ∀ x ∈ o.data, (Lit.int .i64 x).wf = true) (hr : ∀ x ∈ o.rels, (Lit.int .i64 x.add).wf = true) : ObjIn o := by
  obtain ⟨m1, m2, m3, m4⟩ := may_parts hm
  unfold symsOk at m3
  unfold relsOk at m4
  simp only [Bool.and_eq_true, decide_eq_true_eq, List.all_eq_true, List.mem_range] at m3 m4
  refine ⟨m1, ⟨m2, hd⟩, ⟨m3.1, fun x hx => ?_⟩, ⟨m4.1, ?_⟩⟩
  · obtain ⟨i, hi, rfl⟩ := getD_of_mem hx noSym
    have := m3.2 i hi
    unfold symAt at this
    rw [Bool.and_eq_true] at this
    exact sym_in this.2 m1 m2
  · have key : ∀ i, i < o.rels.length → RelIn (o.rels.getD i noRel) ∧ 0 ≤ (o.rels.getD i noRel).pos + 4 := by
      intro i
      induction i with
      | zero => exact fun hi => rel_in (m4.2 0 hi) (by simp [freeAt]) m1 (hr _ (by simp [List.getD, hi]))
      | succ i ih =>
        intro hi
        have h0 := (ih (by omega)).2
        exact rel_in (m4.2 (i + 1) hi) (by simpa [freeAt] using h0) m1 (hr _ (by simp [List.getD, hi]))
    intro x hx
    obtain ⟨i, hi, rfl⟩ := getD_of_mem hx noRel
    exact (key i hi).1
theorem txt_bd {s : ByteArray} (h : s.size ≤ 65536) : ∀ n ∈ txt s, 0 ≤ n ∧ n ≤ 255 := fun n hn => by
  rcases List.mem_append.1 hn with h1 | h1
  · exact W.put_bd _ (by omega) (by omega) n h1
  · exact nums_bd s n h1
theorem form_bd {o : ObjD} (h : ObjIn o) : ∀ n ∈ formB o, 0 ≤ n ∧ n ≤ 255 := fun n hn => by
  obtain ⟨h1, ⟨h2, h3⟩, ⟨h4, h5⟩, ⟨h6, h7⟩⟩ := h
  simp only [formB, List.mem_append, List.mem_flatMap] at hn
  rcases hn with (((hn | hn) | (hn | ⟨x, hx, hn⟩)) | (hn | ⟨x, hx, hn⟩)) | (hn | ⟨x, hx, hn⟩)
  · simp at hn; omega
  · exact txt_bd h1 n hn
  · exact W.put_bd _ (by omega) (by omega) n hn
  · exact (long_len (h3 x hx)).2 n hn
  · exact W.put_bd _ (by omega) (by omega) n hn
  · obtain ⟨a1, a2, a3⟩ := h5 x hx
    simp only [symB, List.mem_append, List.mem_singleton] at hn
    rcases hn with hn | hn | hn
    · exact txt_bd (by omega) n hn
    · omega
    · exact W.put_bd _ (by omega) (by omega) n hn
  · exact W.put_bd _ (by omega) (by omega) n hn
  · obtain ⟨a1, a2, a3, a4⟩ := h7 x hx
    simp only [relB, List.mem_append, List.mem_singleton] at hn
    rcases hn with hn | hn | hn | hn
    · exact W.put_bd _ (by omega) (by omega) n hn
    · omega
    · exact txt_bd (by omega) n hn
    · exact (long_len a4).2 n hn
/-- The form of an object. -/
def wrB (o : ObjD) : ByteArray := strOfNums (formB o)
theorem nums_wr {o : ObjD} (h : ObjIn o) : nums (wrB o) = formB o := nums_of (form_bd h)
theorem rd_wr {o : ObjD} (h : ObjIn o) (hm : o.may = true) : rdObj (wrB o) = some o := obj_compl h hm (nums_wr h)
theorem wr_rd {s : ByteArray} {o : ObjD} (h : rdObj s = some o) : wrB o = s := by
  unfold wrB
  rw [← (obj_sound h).1, str_nums]
theorem wr_inj {o p : ObjD} (ho : ObjIn o) (hp : ObjIn p) (hm : o.may = true) (hn : p.may = true) (h : wrB o = wrB p) : o = p := by
  have h1 := rd_wr ho hm
  rw [h, rd_wr hp hn] at h1
  exact (Option.some.inj h1).symm
theorem wr_size {o : ObjD} (h : ObjIn o) : (wrB o).size ≤ 100000000 := by
  have h0 := nums_wr h
  rw [← nums_len, h0]
  obtain ⟨h1, ⟨h2, h3⟩, ⟨h4, h5⟩, ⟨h6, h7⟩⟩ := h
  have a1 := nums_len o.code
  have a2 := W.put_length (o.code.size : Int)
  have a3 := W.put_length (o.data.length : Int)
  have a4 := W.put_length (o.syms.length : Int)
  have a5 := W.put_length (o.rels.length : Int)
  have b1 := flat_len long 8 o.data (fun x hx => by have := (long_len (h3 x hx)).1; omega)
  have b2 := flat_len symB 1100 o.syms (fun x hx => symB_len (by have := (h5 x hx).1; omega))
  have b3 := flat_len relB 1100 o.rels (fun x hx => relB_len (by have := (h7 x hx).2.2.1; omega) (h7 x hx).2.2.2)
  simp only [formB, txt, List.length_append, List.length_cons, List.length_nil]
  omega
/-- Of a form a part, or a form with more behind it, is none's. -/
theorem rd_cut {o : ObjD} (h : ObjIn o) {k : Nat} (hk : k < (wrB o).size) : rdObj (sub (wrB o) 0 k) = none := by
  cases e : rdObj (sub (wrB o) 0 k) with
  | none => rfl
  | some p =>
    obtain ⟨h1, h2, h3⟩ := obj_sound e
    rw [nums_sub] at h1
    have h4 : formB o = formB p ++ (formB o).drop k := by
      rw [← h1, ← nums_wr h]
      exact (List.take_append_drop k _).symm
    have h5 := form_cut h h2 (form_bd h) h4
    have h6 := congrArg List.length h5
    have h7 := nums_len (wrB o)
    rw [nums_wr h] at h7
    rw [List.length_drop, List.length_nil] at h6
    omega
theorem rd_more {o : ObjD} (h : ObjIn o) (r : ByteArray) (hr : 0 < r.size) : rdObj (wrB o ++ r) = none := by
  cases e : rdObj (wrB o ++ r) with
  | none => rfl
  | some p =>
    obtain ⟨h1, h2, h3⟩ := obj_sound e
    have hn : nums (wrB o ++ r) = formB o ++ nums r := by
      rw [← nums_wr h]
      unfold nums W.tail
      simp
    rw [hn] at h1
    have h5 := form_cut h2 h (form_bd h2) h1.symm
    have h6 := congrArg List.length h5
    rw [nums_len, List.length_nil] at h6
    omega
theorem ObjV.isin {w : World} {v : Value} {o : ObjD} (h : ObjV w v o) (hm : o.may = true) : ObjIn o := by
  obtain ⟨a1, l1, c1, a2, l2, c2, a3, l3, c3, e, hs, h1, h2, h3⟩ := h.form
  exact may_in hm h1.fits (fun x hx => (h3.fits x hx).2.2.2)

end Go.Proofs.YtmplnkfjaeegdaaDoor

/- The arguments of layer 6's statements, opened: an object. (Written by gen_open.py.) -/
namespace Go.Proofs.YtmplnkfjaeegdaaDoor
set_option maxRecDepth 100000
open Go.ChangeShapes Go.WideShapes Go.ChangeAt Go.RowKit Go.Joins

section
variable {H : Type} {enc : TypeId × Value → H} {w : World} {base : Nat} {spare : Nat → Bool} {held : Bool}

theorem cell_i64 : Tryd.prog.cellsOf 2 = 1 := by kernel_rfl
theorem cell_int : Tryd.prog.cellsOf 3 = 1 := by kernel_rfl
theorem cell_str : Tryd.prog.cellsOf 9 = 1 := by kernel_rfl
theorem open_I {fuel : Nat} {v : Value} {x : DataW H × List MemPlace} (hsp : ∀ b, spare b = true) (h : DataW.trod enc Tryd.prog w base spare held fuel 22 [v] = some x) : ∃ a l c zs, v = .slice a l c ∧ IntsV w a l c zs ∧ zs.length ≤ maxLen := by
  rcases open_ints Tryd.underlying22 Tryd.underlying2 cell_i64 h with ⟨hcs, -⟩ | ⟨a, l, c, zs, hcs, -, hl, hm, hz, -, hcell, hwz⟩
  · simp at hcs
    subst hcs
    exact ⟨none, 0, 0, [], rfl, ⟨rfl, by simp, fun _ => ⟨rfl, rfl⟩, .inl rfl⟩, by decide⟩
  · simp at hcs
    subst hcs
    rw [hsp, if_pos rfl] at hz
    refine ⟨some a, l, c, zs.take l, rfl, ⟨by simp; omega, fun n hn => hwz n (List.mem_of_mem_take hn), fun e => (by cases e), ?_⟩, by simp; omega⟩
    by_cases h0 : l = 0
    · exact .inl h0
    · obtain ⟨b, off, rfl, hc'⟩ := ints_at hcell (by omega)
      refine .inr ⟨b, off, rfl, fun i hi => ?_⟩
      rw [hc' i (by omega)]
      simp [List.getD, hi]

theorem cell_S : Tryd.prog.cellsOf 66 = 3 := by kernel_rfl
set_option maxRecDepth 100000 in
theorem trod_S {fuel : Nat} {cs : List Value} {x : DataW H × List MemPlace} (h : DataW.trod enc Tryd.prog w base spare held fuel 66 cs = some x) :
    ∃ r : Sym, cs = [.string r.name, .int .i64 r.kind, .int .i64 r.pos] ∧ (r.name.size ≤ maxLen ∧ (Lit.int .i64 r.kind).wf = true ∧ (Lit.int .i64 r.pos).wf = true) := by
  obtain ⟨y0, y1, y2, n, -, hl, h0, h1, h2⟩ := Deep.trod_struct3 Tryd.underlying66 h
  rw [cell_S] at hl
  match cs, hl with
  | [u0, u1, u2], _ =>
    simp only [cell_int, cell_str] at h0 h1 h2
    obtain ⟨z0, e0, -, w0⟩ := DataW.trod_string Tryd.underlying9 h0
    obtain ⟨z1, e1, -, w1⟩ := DataW.trod_int Tryd.underlying3 h1
    obtain ⟨z2, e2, -, w2⟩ := DataW.trod_int Tryd.underlying3 h2
    simp at e0 e1 e2
    subst e0 e1 e2
    exact ⟨⟨z0, z1, z2⟩, rfl, w0, w1, w2⟩
/-- A list, as it is read. -/
theorem open_S {fuel : Nat} {v : Value} {x : DataW H × List MemPlace} (hsp : ∀ b, spare b = true) (h : DataW.trod enc Tryd.prog w base spare held fuel 23 [v] = some x) :
    ∃ a len cap rs, v = .slice a len cap ∧ SymsV w a len cap rs ∧ rs.length ≤ maxLen := by
  rcases Deep.open_slice Tryd.underlying23 h with ⟨hcs, -⟩ | ⟨a, len, cap, m, n, D, Pl, hcs, -, hl, hm, hmm, -, hx⟩
  · simp at hcs
    subst hcs
    exact ⟨none, 0, 0, [], rfl, ⟨rfl, by simp, fun _ => ⟨rfl, rfl⟩, .inl rfl⟩, by decide⟩
  · simp at hcs
    subst hcs
    rw [hsp, if_pos rfl] at hmm
    subst hmm
    have hel : ∀ i, i < len → ∃ (r : Sym), w.cells? base (a.add (i * 3)) 3 = some [.string r.name, .int .i64 r.kind, .int .i64 r.pos] ∧ (r.name.size ≤ maxLen ∧ (Lit.int .i64 r.kind).wf = true ∧ (Lit.int .i64 r.pos).wf = true) := by
      intro i hi
      obtain ⟨cs', h1, h2⟩ := hx i (by omega)
      rw [cell_S] at h1
      obtain ⟨r, rfl, hr⟩ := trod_S h2
      exact ⟨r, h1, hr⟩
    have hf : ∃ f : Nat → Sym, ∀ i, i < len → w.cells? base (a.add (i * 3)) 3 = some [.string (f i).name, .int .i64 (f i).kind, .int .i64 (f i).pos] ∧ ((f i).name.size ≤ maxLen ∧ (Lit.int .i64 (f i).kind).wf = true ∧ (Lit.int .i64 (f i).pos).wf = true) :=
      ⟨fun i => if h : i < len then Classical.choose (hel i h) else noSym, fun i hi => by
        have := Classical.choose_spec (hel i hi)
        simp only [dif_pos hi]
        exact this⟩
    obtain ⟨f, hf⟩ := hf
    have hget : ∀ i, i < len → ((List.range len).map f).getD i noSym = f i := fun i hi => by simp [List.getD, hi]
    refine ⟨some a, len, m, (List.range len).map f, rfl, ⟨by simp, ?_, fun e => (by cases e), ?_⟩, by simp; omega⟩
    · intro r hr
      obtain ⟨i, hi, rfl⟩ := List.mem_map.1 hr
      exact (hf i (by simpa using hi)).2
    · by_cases h0 : len = 0
      · exact .inl h0
      · have c0 : ∀ i, i < len → ∀ j u, [.string (f i).name, .int .i64 (f i).kind, .int .i64 (f i).pos][j]? = some u → w.cell? ((a.add (i * 3)).add j) = some u := fun i hi j u hu => by
          obtain ⟨-, -, hx⟩ := World.cells?_some (hf i hi).1
          have hj : j < 3 := by have := (List.getElem?_eq_some_iff.1 hu).1; simpa using this
          rw [hx j hj]
          exact hu
        obtain ⟨b, off, spot⟩ := a
        have hspot : spot = none := by
          have := c0 0 (by omega) 0 _ rfl
          rw [Addr.add_add] at this
          simpa [Addr.add] using World.cell?_spot this
        subst hspot
        refine .inr ⟨b, off, rfl, fun i hi => ?_⟩
        rw [hget i hi]
        have k := c0 i hi
        simp only [Addr.add_lit] at k
        exact ⟨k 0 _ rfl, k 1 _ rfl, k 2 _ rfl⟩

theorem cell_R : Tryd.prog.cellsOf 156 = 4 := by kernel_rfl
set_option maxRecDepth 100000 in
theorem trod_R {fuel : Nat} {cs : List Value} {x : DataW H × List MemPlace} (h : DataW.trod enc Tryd.prog w base spare held fuel 156 cs = some x) :
    ∃ r : Rel, cs = [.int .i64 r.pos, .int .i64 r.kind, .string r.name, .int .i64 r.add] ∧ (r.name.size ≤ maxLen ∧ (Lit.int .i64 r.kind).wf = true ∧ (Lit.int .i64 r.pos).wf = true ∧ (Lit.int .i64 r.add).wf = true) := by
  obtain ⟨y0, y1, y2, y3, n, -, hl, h0, h1, h2, h3⟩ := trod_struct4 Tryd.underlying156 h
  rw [cell_R] at hl
  match cs, hl with
  | [u0, u1, u2, u3], _ =>
    simp only [cell_i64, cell_int, cell_str] at h0 h1 h2 h3
    obtain ⟨z0, e0, -, w0⟩ := DataW.trod_int Tryd.underlying3 h0
    obtain ⟨z1, e1, -, w1⟩ := DataW.trod_int Tryd.underlying3 h1
    obtain ⟨z2, e2, -, w2⟩ := DataW.trod_string Tryd.underlying9 h2
    obtain ⟨z3, e3, -, w3⟩ := DataW.trod_int Tryd.underlying2 h3
    simp at e0 e1 e2 e3
    subst e0 e1 e2 e3
    exact ⟨⟨z0, z1, z2, z3⟩, rfl, w2, w1, w0, w3⟩
/-- A list, as it is read. -/
theorem open_R {fuel : Nat} {v : Value} {x : DataW H × List MemPlace} (hsp : ∀ b, spare b = true) (h : DataW.trod enc Tryd.prog w base spare held fuel 88 [v] = some x) :
    ∃ a len cap rs, v = .slice a len cap ∧ RelsV w a len cap rs ∧ rs.length ≤ maxLen := by
  rcases Deep.open_slice Tryd.underlying88 h with ⟨hcs, -⟩ | ⟨a, len, cap, m, n, D, Pl, hcs, -, hl, hm, hmm, -, hx⟩
  · simp at hcs
    subst hcs
    exact ⟨none, 0, 0, [], rfl, ⟨rfl, by simp, fun _ => ⟨rfl, rfl⟩, .inl rfl⟩, by decide⟩
  · simp at hcs
    subst hcs
    rw [hsp, if_pos rfl] at hmm
    subst hmm
    have hel : ∀ i, i < len → ∃ (r : Rel), w.cells? base (a.add (i * 4)) 4 = some [.int .i64 r.pos, .int .i64 r.kind, .string r.name, .int .i64 r.add] ∧ (r.name.size ≤ maxLen ∧ (Lit.int .i64 r.kind).wf = true ∧ (Lit.int .i64 r.pos).wf = true ∧ (Lit.int .i64 r.add).wf = true) := by
      intro i hi
      obtain ⟨cs', h1, h2⟩ := hx i (by omega)
      rw [cell_R] at h1
      obtain ⟨r, rfl, hr⟩ := trod_R h2
      exact ⟨r, h1, hr⟩
    have hf : ∃ f : Nat → Rel, ∀ i, i < len → w.cells? base (a.add (i * 4)) 4 = some [.int .i64 (f i).pos, .int .i64 (f i).kind, .string (f i).name, .int .i64 (f i).add] ∧ ((f i).name.size ≤ maxLen ∧ (Lit.int .i64 (f i).kind).wf = true ∧ (Lit.int .i64 (f i).pos).wf = true ∧ (Lit.int .i64 (f i).add).wf = true) :=
      ⟨fun i => if h : i < len then Classical.choose (hel i h) else noRel, fun i hi => by
        have := Classical.choose_spec (hel i hi)
        simp only [dif_pos hi]
        exact this⟩
    obtain ⟨f, hf⟩ := hf
    have hget : ∀ i, i < len → ((List.range len).map f).getD i noRel = f i := fun i hi => by simp [List.getD, hi]
    refine ⟨some a, len, m, (List.range len).map f, rfl, ⟨by simp, ?_, fun e => (by cases e), ?_⟩, by simp; omega⟩
    · intro r hr
      obtain ⟨i, hi, rfl⟩ := List.mem_map.1 hr
      exact (hf i (by simpa using hi)).2
    · by_cases h0 : len = 0
      · exact .inl h0
      · have c0 : ∀ i, i < len → ∀ j u, [.int .i64 (f i).pos, .int .i64 (f i).kind, .string (f i).name, .int .i64 (f i).add][j]? = some u → w.cell? ((a.add (i * 4)).add j) = some u := fun i hi j u hu => by
          obtain ⟨-, -, hx⟩ := World.cells?_some (hf i hi).1
          have hj : j < 4 := by have := (List.getElem?_eq_some_iff.1 hu).1; simpa using this
          rw [hx j hj]
          exact hu
        obtain ⟨b, off, spot⟩ := a
        have hspot : spot = none := by
          have := c0 0 (by omega) 0 _ rfl
          rw [Addr.add_add] at this
          simpa [Addr.add] using World.cell?_spot this
        subst hspot
        refine .inr ⟨b, off, rfl, fun i hi => ?_⟩
        rw [hget i hi]
        have k := c0 i hi
        simp only [Addr.add_lit] at k
        exact ⟨k 0 _ rfl, k 1 _ rfl, k 2 _ rfl, k 3 _ rfl⟩

set_option maxRecDepth 100000 in
theorem open_obj {r : Reach} {b0 : Nat} {v : Value} {d : DataW H} {p : List MemPlace} (hsp : ∀ b, spare b = true) (hv : Value.okWide Tryd.prog w r b0 90 v) (h : DataW.Trod enc Tryd.prog w base spare held 90 v d p) :
    ∃ o, ObjV w v o ∧ o.data.length ≤ maxLen ∧ o.syms.length ≤ maxLen ∧ o.rels.length ≤ maxLen := by
  obtain ⟨v0, v1, v2, v3, y0, y1, y2, y3, n, rfl, -, -, h0, h1, h2, h3⟩ := open_agg4 Tryd.underlying90 (by kernel_rfl) (by kernel_rfl) hv h
  obtain ⟨s, e0, -, hs⟩ := DataW.trod_string Tryd.underlying9 h0
  obtain ⟨a1, l1, c1, z1, rfl, V1, k1⟩ := open_I hsp h1
  obtain ⟨a2, l2, c2, z2, rfl, V2, k2⟩ := open_S hsp h2
  obtain ⟨a3, l3, c3, z3, rfl, V3, k3⟩ := open_R hsp h3
  simp at e0
  subst e0
  exact ⟨⟨s, z1, z2, z3⟩, ⟨⟨_, _, _, _, _, _, _, _, _, rfl, hs, V1, V2, V3⟩⟩, k1, k2, k3⟩
end
end Go.Proofs.YtmplnkfjaeegdaaDoor

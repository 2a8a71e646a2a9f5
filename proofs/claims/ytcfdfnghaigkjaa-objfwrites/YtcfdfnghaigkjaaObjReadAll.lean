/- What Read comes to: a reader of its own, object, and the panic that is recovered. -/
import Derived.Test.YtcfdfnghaigkjaaObjObject
import Derived.Recover
namespace Go.Proofs.Ytcfdfnghaigkjaa
open Go.RowKit Go.Maps Go.Lib
set_option linter.unusedVariables false

theorem catch_panicking (b0 b1 : Nat) (hne : b0 ≠ b1) (u : TypeId) (pv : Value) (older : List PanicEntry) (w : World) (v0 v1 v2 v3 v4 : Value) (c0 : w.cell? ⟨b0, 0, none⟩ = some v0) (c1 : w.cell? ⟨b0, 1, none⟩ = some v1) (c2 : w.cell? ⟨b0, 2, none⟩ = some v2) (c3 : w.cell? ⟨b0, 3, none⟩ = some v3) (c4 : w.cell? ⟨b1, 0, none⟩ = some v4) (z0 : ∀ o, w.frozen? ⟨b0, o, none⟩ = false) (z1 : ∀ o, w.frozen? ⟨b1, o, none⟩ = false) :
    CallsD Try.prog 28 #[.pointer (some ⟨b0, 0, none⟩), .pointer (some ⟨b1, 0, none⟩)] (.panicking ({ v := .iface u pv, recovered := false } :: older)) w fun e u' w' =>
      e = .returned (.tuple #[]) ∧ u' = .panicking ({ v := .iface u pv, recovered := true } :: older) ∧ w' = ((((w.setCell ⟨b0, 0, none⟩ (.string { data := #[] })).setCell ⟨b0, 1, none⟩ (.slice none 0 0)).setCell ⟨b0, 2, none⟩ (.slice none 0 0)).setCell ⟨b0, 3, none⟩ (.slice none 0 0)).setCell ⟨b1, 0, none⟩ (.int .i64 9) := by
  refine callsD_of_wpS Try.func28 rfl fun k₀ cs hu => ?_
  apply wpS_seq
  apply wpS_region
  simp [wpOpsS, go_sem, recoverD, hu, Try.ntmps28, Exit.thenS]
  refine wpS_cond (t := true) (by simp [Act.eval, Array.replicate]) ?_
  simp only [if_true]
  apply wpS_region
  simp [wpOpsS, go_sem, c0, c1, c2, c3, c4, z0, z1, bodyPostS, results, Try.results28]

theorem catch_idle (b0 b1 : Nat) (w : World) :
    CallsD Try.prog 28 #[.pointer (some ⟨b0, 0, none⟩), .pointer (some ⟨b1, 0, none⟩)] .returning w fun e u' w' => e = .returned (.tuple #[]) ∧ u' = .returning ∧ w' = w := by
  refine callsD_of_wpS Try.func28 rfl fun c₀ cs hu => ?_
  apply wpS_seq
  apply wpS_region
  simp [wpOpsS, go_sem, recoverD, hu, Try.ntmps28, Exit.thenS]
  refine wpS_cond (t := false) (by simp [Act.eval, Array.replicate]) ?_
  simp only [Bool.false_eq_true, if_false]
  refine wpS_of_wp (wp_skip ?_)
  cases c₀
  simp_all [bodyPostS, results, Try.results28]

def noObjV : Value := .agg #[.string { data := #[] }, .slice none 0 0, .slice none 0 0, .slice none 0 0]
theorem grown_toBelow {w x : World} {B br : Nat} (h : w.grownBy x (some br)) (hB : B ≤ w.heap.size) (hb : B ≤ br) : Below B w x := (Below.refl B w).grown h hB (fun b e => by cases e; exact hb)

theorem own_base {w : World} {B B' : Nat} {v : Value} {e : TypeId} {size n : Nat} {xs : List Value} (o : w.ownsRow B e size v n xs) (h : B' ≤ B) : w.ownsRow B' e size v n xs := by
  refine ⟨o.1, ?_⟩
  rcases o.2 with h1 | ⟨g, cap, cur, h1, h2, h3⟩
  · exact .inl h1
  · exact .inr ⟨g, cap, cur, h1, Nat.le_trans h h2, h3⟩
theorem ObjF.far {B : Nat} {w : World} {v : Value} {o : ObjD} (h : ObjF B w v o) (a : Addr) (u : Value) (ha : a.block < B) : ObjF B (w.setCell a u) v o := by
  obtain ⟨v1, v2, v3, e, o1, o2, o3⟩ := h.form
  exact ⟨⟨v1, v2, v3, e, o1.kept (gb_setO w a u) (.inr fun e => by have := (o1.lt _ e).1; omega), o2.kept (gb_setO w a u) (.inr fun e => by have := (o2.lt _ e).1; omega), o3.kept (gb_setO w a u) (.inr fun e => by have := (o3.lt _ e).1; omega)⟩, h.isin⟩
theorem ObjF.mono {B B' : Nat} {w : World} {v : Value} {o : ObjD} (h : ObjF B w v o) (hb : B' ≤ B) : ObjF B' w v o := by
  obtain ⟨v1, v2, v3, e, o1, o2, o3⟩ := h.form
  exact ⟨⟨v1, v2, v3, e, own_base o1 hb, own_base o2 hb, own_base o3 hb⟩, h.isin⟩
theorem below_five {B b0 b1 : Nat} {w y : World} (h : Below B w y) (h0 : B ≤ b0) (h1 : B ≤ b1) (u0 u1 u2 u3 u4 : Value) : Below B w (((((y.setCell ⟨b0, 0, none⟩ u0).setCell ⟨b0, 1, none⟩ u1).setCell ⟨b0, 2, none⟩ u2).setCell ⟨b0, 3, none⟩ u3).setCell ⟨b1, 0, none⟩ u4) :=
  ((((h.setCell h0 u0).setCell h0 u1).setCell h0 u2).setCell h0 u3).setCell h1 u4

set_option maxRecDepth 100000 in
set_option maxHeartbeats 4000000 in
theorem read_any (s : ByteArray) (hs : s.size ≤ maxLen) (w : World) :
    Calls Try.prog 16 #[.string s] w fun e w' => ((∃ o, rdObj s = some o ∧ ∃ v, e = .returned (.tuple #[v, .int .i64 0]) ∧ ObjF w.heap.size w' v o) ∨ (rdObj s = none ∧ e = .returned (.tuple #[noObjV, .int .i64 9]))) ∧ Below w.heap.size w w' := by
  have hmf : ∀ (fn : Fn) (first cap : Array Value) (w : World), (Instr.makeFunc fn first cap).run Try.prog w = .ok (.func fn first cap) w := fun _ _ _ _ => rfl
  obtain ⟨W1, hW1⟩ : ∃ W1, w.alloc (.cells #[.string { data := #[] }, .slice none 0 0, .slice none 0 0, .slice none 0 0] 26) = W1 := ⟨_, rfl⟩
  have s1 : W1.heap.size = w.heap.size + 1 := by subst hW1; simp
  have b1 : Below w.heap.size w W1 := by subst hW1; exact bl_one _ _
  obtain ⟨W2, hW2⟩ : ∃ W2, W1.alloc (.cells #[.int .i64 0] 30) = W2 := ⟨_, rfl⟩
  have s2 : W2.heap.size = w.heap.size + 1 + 1 := by subst hW2; simp; omega
  have b2 : Below W1.heap.size W1 W2 := by subst hW2; exact bl_one _ _
  obtain ⟨W3, hW3⟩ : ∃ W3, W2.alloc (.cells #[.string s, .int .i64 0] 55) = W3 := ⟨_, rfl⟩
  have s3 : W3.heap.size = w.heap.size + 1 + 1 + 1 := by subst hW3; simp; omega
  have b3 : Below W2.heap.size W2 W3 := by subst hW3; exact bl_one _ _
  have HBL : Hid (Below w.heap.size w W3) := (b1.trans (b2.mono (by omega))).trans (b3.mono (by omega))
  have HR : Hid (RdV W3 (w.heap.size + 1 + 1) s 0) := ⟨by subst hW3; exact cell_last s2.symm rfl, by subst hW3; exact cell_last s2.symm rfl, fun o => by subst hW3; exact World.frozen?_alloc_at _ _ _ _ s2.symm, Nat.zero_le _, hs⟩
  have HC : Hid (Cells W3 w.heap.size [.string { data := #[] }, .slice none 0 0, .slice none 0 0, .slice none 0 0]) := fun j u hu => cell_thru b3 (cell_thru b2 (by subst hW1; exact cell_last rfl (by simpa using hu)))
  have HE : Hid (W3.cell? ⟨w.heap.size + 1, 0, none⟩ = some (.int .i64 0)) := cell_thru b3 (by subst hW2; exact cell_last s1.symm rfl)
  have HZ0 : Hid (∀ o, W3.frozen? ⟨w.heap.size, o, none⟩ = false) := fun o => by
    rw [b3.frozen (p := ⟨w.heap.size, o, none⟩) (by show w.heap.size < _; omega), b2.frozen (p := ⟨w.heap.size, o, none⟩) (by show w.heap.size < _; omega)]
    subst hW1; exact World.frozen?_alloc_at _ _ _ _ rfl
  have HZ1 : Hid (∀ o, W3.frozen? ⟨w.heap.size + 1, o, none⟩ = false) := fun o => by
    rw [b3.frozen (p := ⟨w.heap.size + 1, o, none⟩) (by show w.heap.size + 1 < _; omega)]
    subst hW2; exact World.frozen?_alloc_at _ _ _ _ s1.symm
  clear b1 b2 b3
  go_enter_defers Try.func16, Try.ntmps16
  go_wp2_with fail
  refine (robj_any HR.out).mono ?_
  rintro e y ⟨⟨o, ho, v, rfl, hF⟩ | ⟨ho, c, rfl⟩, hg⟩
  · obtain ⟨v1, v2, v3, rfl, o1, o2, o3⟩ := hF.form
    obtain ⟨a1, c1, rfl⟩ := own_slice o1
    obtain ⟨a2, c2, rfl⟩ := own_slice o2
    obtain ⟨a3, c3, rfl⟩ := own_slice o3
    have q0 := grown_cell hg (HC.out 0 _ rfl) (by omega)
    have q1 := grown_cell hg (HC.out 1 _ rfl) (by omega)
    have q2 := grown_cell hg (HC.out 2 _ rfl) (by omega)
    have q3 := grown_cell hg (HC.out 3 _ rfl) (by omega)
    have q4 := grown_cell hg HE.out (by omega)
    have z0 := fun o => grown_froz (o := o) hg (by omega) (by omega) (HZ0.out o)
    have z1 := fun o => grown_froz (o := o) hg (by omega) (by omega) (HZ1.out o)
    have HO : Hid _ := ho
    have HF : Hid _ := hF
    have HG : Hid _ := hg
    have HIN : Hid _ := hF.isin
    have O1 : Hid _ := o1
    have O2 : Hid _ := o2
    have O3 : Hid _ := o3
    clear ho hF hg o1 o2 o3
    go_wp2
    refine leaves_cons (f := 28) (args := #[.pointer (some ⟨w.heap.size, 0, none⟩), .pointer (some ⟨w.heap.size + 1, 0, none⟩)]) (by simp) (by simp [go_sem]) ?_
    refine (catch_idle w.heap.size (w.heap.size + 1) _).mono ?_
    rintro e u' w'' ⟨rfl, rfl, rfl⟩
    simp [Leaves, settle, results, Try.results16, go_sem, q0, q1, q2, q3, q4]
    have hl0 : w.heap.size < W3.heap.size + 1 := by omega
    have hl1 : w.heap.size + 1 < W3.heap.size + 1 := by omega
    refine ⟨⟨o, HO.out, (((((HF.out.far _ _ hl0).far _ _ hl0).far _ _ hl0).far _ _ hl0).far _ _ hl1).mono (by omega)⟩, below_five (HBL.out.trans (grown_toBelow HG.out (by omega) (by omega))) (Nat.le_refl _) (Nat.le_succ _) _ _ _ _ _⟩
  · have q0 := grown_cell hg (HC.out 0 _ rfl) (by omega)
    have q1 := grown_cell hg (HC.out 1 _ rfl) (by omega)
    have q2 := grown_cell hg (HC.out 2 _ rfl) (by omega)
    have q3 := grown_cell hg (HC.out 3 _ rfl) (by omega)
    have q4 := grown_cell hg HE.out (by omega)
    have z0 := fun o => grown_froz (o := o) hg (by omega) (by omega) (HZ0.out o)
    have z1 := fun o => grown_froz (o := o) hg (by omega) (by omega) (HZ1.out o)
    have HO : Hid _ := ho
    have HG : Hid _ := hg
    clear ho hg
    go_wp2
    refine leaves_cons (f := 28) (args := #[.pointer (some ⟨w.heap.size, 0, none⟩), .pointer (some ⟨w.heap.size + 1, 0, none⟩)]) (by simp) (by simp [go_sem]) ?_
    refine (catch_panicking w.heap.size (w.heap.size + 1) (by omega) _ _ [] _ _ _ _ _ _ q0 q1 q2 q3 q4 z0 z1).mono ?_
    rintro e u' w'' ⟨rfl, rfl, rfl⟩
    simp [Leaves, settle, results, Try.results16, go_sem, q0, q1, q2, q3, q4]
    exact ⟨⟨HO.out, rfl⟩, below_five (HBL.out.trans (grown_toBelow HG.out (by omega) (by omega))) (Nat.le_refl _) (Nat.le_succ _) _ _ _ _ _⟩

end Go.Proofs.Ytcfdfnghaigkjaa

/- What the document's Reader comes to. (Written by gen_rread.py.) -/
import Derived.Test.YtmpmfjplnajjdaaObjRefMay
import Derived.BigQuiet
import Derived.Test.YtmpmfjplnajjdaaObjRefTake
namespace Go.Proofs.Ytmpmfjplnajjdaa
open Go.RowKit Go.Maps Go.Lib
set_option linter.unusedVariables false

/-- The document's reader: its text, its place, whether something lacked. -/
structure RX (w : World) (br : Nat) (s : ByteArray) (i : Nat) (bad : Bool) : Prop where
  c0 : w.cell? ⟨br, 0, none⟩ = some (.string s)
  c1 : w.cell? ⟨br, 1, none⟩ = some (.int .i64 i)
  c2 : w.cell? ⟨br, 2, none⟩ = some (.bool bad)
  fz : ∀ o, w.frozen? ⟨br, o, none⟩ = false
  le : i ≤ s.size
  sz : s.size ≤ maxLen
theorem RX.lt {w : World} {br : Nat} {s : ByteArray} {i : Nat} {b : Bool} (h : RX w br s i b) : br < w.heap.size := World.block_lt_of_cell? w ⟨br, 0, none⟩ h.c0
theorem RX.set {w : World} {br : Nat} {s : ByteArray} {i : Nat} {b : Bool} (h : RX w br s i b) (j : Nat) (hj : j ≤ s.size) : RX (w.setCell ⟨br, 1, none⟩ (.int .i64 j)) br s j b :=
  ⟨(World.cell?_setCell_other _ _ _ _ (by simp)).trans h.c0, World.cell?_setCell_same' _ _ _ (by rw [h.c1]; rfl), (World.cell?_setCell_other _ _ _ _ (by simp)).trans h.c2, fun o => by rw [World.frozen?_setCell]; exact h.fz o, hj, h.sz⟩
theorem RX.spoil {w : World} {br : Nat} {s : ByteArray} {i : Nat} {b : Bool} (h : RX w br s i b) : RX (w.setCell ⟨br, 2, none⟩ (.bool true)) br s i true :=
  ⟨(World.cell?_setCell_other _ _ _ _ (by simp)).trans h.c0, (World.cell?_setCell_other _ _ _ _ (by simp)).trans h.c1, World.cell?_setCell_same' _ _ _ (by rw [h.c2]; rfl), fun o => by rw [World.frozen?_setCell]; exact h.fz o, h.le, h.sz⟩
theorem RX.below {w w' : World} {br : Nat} {s : ByteArray} {i : Nat} {b : Bool} (h : RX w br s i b) (hb : Below w.heap.size w w') : RX w' br s i b :=
  ⟨cell_thru hb h.c0, cell_thru hb h.c1, cell_thru hb h.c2, fun o => (hb.frozen (p := ⟨br, o, none⟩) h.lt).trans (h.fz o), h.le, h.sz⟩
theorem RX.drew {w : World} {br : Nat} {s : ByteArray} {i : Nat} {b : Bool} (h : RX w br s i b) : RX w.drew br s i b := h.below (Below.refl _ _).drew
theorem RX.drewN {w : World} {br : Nat} {s : ByteArray} {i : Nat} {b : Bool} (h : RX w br s i b) (n : Nat) : RX (w.drewN n) br s i b := h.below (bl_drewN (Below.refl _ _) n)
theorem RX.grown {w x : World} {br : Nat} {s : ByteArray} {i : Nat} {b : Bool} {row : Option Nat} (h : RX w br s i b) (g : w.grownBy x row) (hne : row ≠ some br) : RX x br s i b :=
  ⟨grown_row g h.c0 hne, grown_row g h.c1 hne, grown_row g h.c2 hne, fun o => (g.frozen_far ⟨br, o, none⟩ h.lt (fun e => hne e.symm)).trans (h.fz o), h.le, h.sz⟩
/-- How a call of a reader that is good ends. -/
def GoodR {α : Type} (w : World) (br : Nat) (s : ByteArray) (f : Option (α × Nat)) (val : α → Value) (d : Value) (e : Ending) (w' : World) : Prop :=
  ((∃ a j, f = some (a, j) ∧ e = .returned (val a) ∧ RX w' br s j false) ∨ (f = none ∧ e = .returned d ∧ ∃ j, RX w' br s j true)) ∧ w.grownBy w' (some br)
/-- And one of a reader that is bad. -/
def BadR (w : World) (br : Nat) (s : ByteArray) (d : Value) (e : Ending) (w' : World) : Prop := e = .returned d ∧ (∃ j, RX w' br s j true) ∧ w.grownBy w' (some br)
theorem gb_refl (w : World) (r : Option Nat) : w.grownBy w r := ⟨rfl, rfl, rfl, Nat.le_refl _, fun _ _ _ => rfl⟩
theorem gb_below {w x : World} (h : Below w.heap.size w x) (r : Option Nat) : w.grownBy x r := ⟨h.os, h.tape, h.output, h.size, fun k hk _ => h.block k hk⟩
theorem gb_then {w x : World} {r : Option Nat} {br : Nat} (h : w.grownBy x (some br)) (o : Nat) (u : Value) : w.grownBy (x.setCell ⟨br, o, none⟩ u) (some br) := grown_trans h (gb_setO x ⟨br, o, none⟩ u)

set_option maxRecDepth 100000 in
set_option maxHeartbeats 2000000 in
theorem xnum_yes {w : World} {br : Nat} {s : ByteArray} {i : Nat} (h : RX w br s i false) (n : Nat) (hn : n ≤ 1000000000) (x : Int) (m : Nat) (hx : W.takeG 0 0 (W.tail s i) = some (x, m)) (hx0 : 0 ≤ x) (hxm : x ≤ n) :
    Calls Try.prog 31 #[.pointer (some ⟨br, 0, none⟩), .int .i64 n] w fun e w' => e = .returned (.int .i64 x) ∧ RX w' br s (i + m) false ∧ w.grownBy w' (some br) := by
  have c0 := h.c0
  have c1 := h.c1
  have hi := h.le
  have HR : Hid _ := h
  have HS : Hid _ := h.sz
  have HX : Hid _ := hx
  have hml : i + m ≤ s.size := by have := (takeG_len _ _ _ _ _ hx).2; have := W.tail_length s i; omega
  have HT : Hid (W.take s i = (x, ((i + m : Nat) : Int), 0)) := by
    show _ = _
    unfold W.take
    rw [if_neg (by omega), Int.toNat_natCast, W.takeR_some s i x m hx]
    simp
  have d0 : decide ((n : Int) < x) = false := by simp; omega
  have hs' : s.size ≤ 9223372036854775807 := by have := h.sz; unfold maxLen at this; omega
  clear h hx
  go_enter Try.func31, Try.ntmps31
  go_wp2_with fail
  refine wp_region_held_drew (S := (fun w' : World => w'.cell? ⟨br, 0, none⟩ = some (.string s) ∧ w'.cell? ⟨br, 1, none⟩ = some (.int .i64 i))) (by kernel_rfl) ⟨c0, c1⟩ (fun hHeld => ?_)
  refine wpAnyH_take (i := 0) (v := ?_) (get0 _ _) (by kernel_rfl) (by kernel_rfl) (by kernel_rfl) (fun _ _ _ h => h) (Or.inl ⟨by rfl, ?_⟩) (by assumption) ?_
  rotate_left
  · (intro w hSw; (try dsimp only at hSw); go_simp <;> with_reducible rfl)
  simp only [Act.put, List.setIfInBounds_toArray, List.set_cons_zero, List.set_cons_succ]
  refine wpAnyH_take (i := 1) (v := ?_) (get1 (get0 _ _)) (by kernel_rfl) (by kernel_rfl) (by kernel_rfl) (fun _ _ _ h => h) (Or.inl ⟨by rfl, ?_⟩) (by assumption) ?_
  rotate_left
  · (intro w hSw; (try dsimp only at hSw); go_simp <;> with_reducible rfl)
  simp only [Act.put, List.setIfInBounds_toArray, List.set_cons_zero, List.set_cons_succ]
  refine wpAnyH_take (i := 2) (v := ?_) (get1 (get1 (get0 _ _))) (by kernel_rfl) (by kernel_rfl) (by kernel_rfl) (fun _ _ _ h => h) (Or.inl ⟨by rfl, ?_⟩) (by assumption) ?_
  rotate_left
  · (intro w hSw; (try dsimp only at hSw); go_simp <;> with_reducible rfl)
  simp only [Act.put, List.setIfInBounds_toArray, List.set_cons_zero, List.set_cons_succ]
  refine wpAnyH_take (i := 3) (v := ?_) (get1 (get1 (get1 (get0 _ _)))) (by kernel_rfl) (by kernel_rfl) (by kernel_rfl) (fun _ _ _ h => h) (Or.inl ⟨by rfl, ?_⟩) (by assumption) ?_
  rotate_left
  · (intro w hSw; (try dsimp only at hSw); go_simp <;> with_reducible rfl)
  simp only [Act.put, List.setIfInBounds_toArray, List.set_cons_zero, List.set_cons_succ]
  refine wpAnyH_take (i := 4) (v := ?_) (get1 (get1 (get1 (get1 (get0 _ _))))) (by kernel_rfl) (by kernel_rfl) (by kernel_rfl) (fun _ _ _ h => h) (Or.inl ⟨by rfl, ?_⟩) (by assumption) ?_
  rotate_left
  · (intro w hSw; (try dsimp only at hSw); go_simp <;> with_reducible rfl)
  simp only [Act.put, List.setIfInBounds_toArray, List.set_cons_zero, List.set_cons_succ]
  refine wpAnyH_take (i := 5) (v := ?_) (get1 (get1 (get1 (get1 (get1 (get0 _ _)))))) (by kernel_rfl) (by kernel_rfl) (by kernel_rfl) (fun _ _ _ h => h) (Or.inl ⟨by rfl, ?_⟩) (by assumption) ?_
  rotate_left
  · (intro w hSw; (try dsimp only at hSw); go_simp <;> with_reducible rfl)
  simp only [Act.put, List.setIfInBounds_toArray, List.set_cons_zero, List.set_cons_succ]
  refine wpAnyH_take (i := 6) (v := ?_) (get1 (get1 (get1 (get1 (get1 (get1 (get0 _ _))))))) (by kernel_rfl) (by kernel_rfl) (by kernel_rfl) (fun _ _ _ h => h) (Or.inl ⟨by rfl, ?_⟩) (by assumption) ?_
  rotate_left
  · (intro w hSw; (try dsimp only at hSw); go_simp <;> with_reducible rfl)
  simp only [Act.put, List.setIfInBounds_toArray, List.set_cons_zero, List.set_cons_succ]
  refine wpAnyH_take (i := 7) (v := ?_) (get1 (get1 (get1 (get1 (get1 (get1 (get1 (get0 _ _)))))))) (by kernel_rfl) (by kernel_rfl) (by kernel_rfl) (fun _ _ _ h => h) (Or.inl ⟨by rfl, ?_⟩) (by assumption) ?_
  rotate_left
  · (intro w hSw; (try dsimp only at hSw); go_simp <;> with_reducible rfl)
  simp only [Act.put, List.setIfInBounds_toArray, List.set_cons_zero, List.set_cons_succ]
  refine wpAnyH_ready (rs := [8]) (by kernel_rfl) (by simp) ?_
  refine AllReadyH.cons (get1 (get1 (get1 (get1 (get1 (get1 (get1 (get1 (get0 _ _))))))))) (fun K hK => ?_) AllReadyH.nil
  go_simp
  refine (reftake_any s i HS.out _).mono ?_
  rintro e y1 ⟨rfl, rfl⟩
  rw [HT.out]
  try go_wp2_with fail
  refine hK.out _ _ hHeld (fun hHeld => ?_)
  clear hK K
  try simp only [Act.put, List.setIfInBounds_toArray, List.set_cons_zero, List.set_cons_succ]
  refine wpAnyH_take (i := 9) (v := ?_) (get1 (get1 (get1 (get1 (get1 (get1 (get1 (get1 (get1 (get0 _ _)))))))))) (by kernel_rfl) (by kernel_rfl) (by kernel_rfl) (fun _ _ _ h => h) (Or.inl ⟨by rfl, ?_⟩) (by assumption) ?_
  rotate_left
  · (intro w hSw; (try dsimp only at hSw); go_simp <;> with_reducible rfl)
  simp only [Act.put, List.setIfInBounds_toArray, List.set_cons_zero, List.set_cons_succ]
  refine wpAnyH_take (i := 10) (v := ?_) (get1 (get1 (get1 (get1 (get1 (get1 (get1 (get1 (get1 (get1 (get0 _ _))))))))))) (by kernel_rfl) (by kernel_rfl) (by kernel_rfl) (fun _ _ _ h => h) (Or.inl ⟨by rfl, ?_⟩) (by assumption) ?_
  rotate_left
  · (intro w hSw; (try dsimp only at hSw); go_simp <;> with_reducible rfl)
  simp only [Act.put, List.setIfInBounds_toArray, List.set_cons_zero, List.set_cons_succ]
  refine wpAnyH_take (i := 11) (v := ?_) (get1 (get1 (get1 (get1 (get1 (get1 (get1 (get1 (get1 (get1 (get1 (get0 _ _)))))))))))) (by kernel_rfl) (by kernel_rfl) (by kernel_rfl) (fun _ _ _ h => h) (Or.inl ⟨by rfl, ?_⟩) (by assumption) ?_
  rotate_left
  · (intro w hSw; (try dsimp only at hSw); go_simp <;> with_reducible rfl)
  simp only [Act.put, List.setIfInBounds_toArray, List.set_cons_zero, List.set_cons_succ]
  refine wpAnyH_take (i := 12) (v := ?_) (get1 (get1 (get1 (get1 (get1 (get1 (get1 (get1 (get1 (get1 (get1 (get1 (get0 _ _))))))))))))) (by kernel_rfl) (by kernel_rfl) (by kernel_rfl) (fun _ _ _ h => h) (Or.inl ⟨by rfl, ?_⟩) (by assumption) ?_
  rotate_left
  · (intro w hSw; (try dsimp only at hSw); go_simp <;> with_reducible rfl)
  simp only [Act.put, List.setIfInBounds_toArray, List.set_cons_zero, List.set_cons_succ]
  refine wpAnyH_take (i := 13) (v := ?_) (get1 (get1 (get1 (get1 (get1 (get1 (get1 (get1 (get1 (get1 (get1 (get1 (get1 (get0 _ _)))))))))))))) (by kernel_rfl) (by kernel_rfl) (by kernel_rfl) (fun _ _ _ h => h) (Or.inl ⟨by rfl, ?_⟩) (by assumption) ?_
  rotate_left
  · (intro w hSw; (try dsimp only at hSw); go_simp <;> with_reducible rfl)
  simp only [Act.put, List.setIfInBounds_toArray, List.set_cons_zero, List.set_cons_succ]
  refine wpAnyH_take (i := 14) (v := ?_) (get1 (get1 (get1 (get1 (get1 (get1 (get1 (get1 (get1 (get1 (get1 (get1 (get1 (get1 (get0 _ _))))))))))))))) (by kernel_rfl) (by kernel_rfl) (by kernel_rfl) (fun _ _ _ h => h) (Or.inl ⟨by rfl, ?_⟩) (by assumption) ?_
  rotate_left
  · (intro w hSw; (try dsimp only at hSw); go_simp <;> with_reducible rfl)
  simp only [Act.put, List.setIfInBounds_toArray, List.set_cons_zero, List.set_cons_succ]
  refine wpAnyH_take (i := 15) (v := ?_) (get1 (get1 (get1 (get1 (get1 (get1 (get1 (get1 (get1 (get1 (get1 (get1 (get1 (get1 (get1 (get0 _ _)))))))))))))))) (by kernel_rfl) (by kernel_rfl) (by kernel_rfl) (fun _ _ _ h => h) (Or.inl ⟨by rfl, ?_⟩) (by assumption) ?_
  rotate_left
  · (intro w hSw; (try dsimp only at hSw); go_simp <;> with_reducible rfl)
  simp only [Act.put, List.setIfInBounds_toArray, List.set_cons_zero, List.set_cons_succ]
  refine wpAnyH_done (by kernel_rfl) ?_ _
  clear hHeld
  have j1 := HR.out.drew.c1
  have j2 := HR.out.drew.c2
  have z1 := HR.out.drew.fz 1
  have z2 := HR.out.drew.fz 2
  clear c0 c1
  go_wp2
  go_ret
  have hr := HR.out.drew.set (i + m) hml
  have hg := gb_then (r := none) (gb_below (Below.refl _ w).drew (some br)) 1 (.int .i64 ((i + m : Nat) : Int))
  simp only [Int.natCast_add] at hr hg
  exact ⟨rfl, hr, hg⟩

set_option maxRecDepth 100000 in
set_option maxHeartbeats 2000000 in
theorem xnum_no {w : World} {br : Nat} {s : ByteArray} {i : Nat} (h : RX w br s i false) (n : Nat) (hn : n ≤ 1000000000) (hx : W.takeG 0 0 (W.tail s i) = none) :
    Calls Try.prog 31 #[.pointer (some ⟨br, 0, none⟩), .int .i64 n] w fun e w' => e = .returned (.int .i64 0) ∧ RX w' br s i true ∧ w.grownBy w' (some br) := by
  have c0 := h.c0
  have c1 := h.c1
  have hi := h.le
  have HR : Hid _ := h
  have HS : Hid _ := h.sz
  have HX : Hid _ := hx
  have HT : Hid (W.take s i = (0, 0, 9)) := by
    show _ = _
    unfold W.take
    rw [if_neg (by omega), Int.toNat_natCast, W.takeR_none s i hx]
  have hs' : s.size ≤ 9223372036854775807 := by have := h.sz; unfold maxLen at this; omega
  clear h hx
  go_enter Try.func31, Try.ntmps31
  go_wp2_with fail
  refine wp_region_held_drew (S := (fun w' : World => w'.cell? ⟨br, 0, none⟩ = some (.string s) ∧ w'.cell? ⟨br, 1, none⟩ = some (.int .i64 i))) (by kernel_rfl) ⟨c0, c1⟩ (fun hHeld => ?_)
  refine wpAnyH_take (i := 0) (v := ?_) (get0 _ _) (by kernel_rfl) (by kernel_rfl) (by kernel_rfl) (fun _ _ _ h => h) (Or.inl ⟨by rfl, ?_⟩) (by assumption) ?_
  rotate_left
  · (intro w hSw; (try dsimp only at hSw); go_simp <;> with_reducible rfl)
  simp only [Act.put, List.setIfInBounds_toArray, List.set_cons_zero, List.set_cons_succ]
  refine wpAnyH_take (i := 1) (v := ?_) (get1 (get0 _ _)) (by kernel_rfl) (by kernel_rfl) (by kernel_rfl) (fun _ _ _ h => h) (Or.inl ⟨by rfl, ?_⟩) (by assumption) ?_
  rotate_left
  · (intro w hSw; (try dsimp only at hSw); go_simp <;> with_reducible rfl)
  simp only [Act.put, List.setIfInBounds_toArray, List.set_cons_zero, List.set_cons_succ]
  refine wpAnyH_take (i := 2) (v := ?_) (get1 (get1 (get0 _ _))) (by kernel_rfl) (by kernel_rfl) (by kernel_rfl) (fun _ _ _ h => h) (Or.inl ⟨by rfl, ?_⟩) (by assumption) ?_
  rotate_left
  · (intro w hSw; (try dsimp only at hSw); go_simp <;> with_reducible rfl)
  simp only [Act.put, List.setIfInBounds_toArray, List.set_cons_zero, List.set_cons_succ]
  refine wpAnyH_take (i := 3) (v := ?_) (get1 (get1 (get1 (get0 _ _)))) (by kernel_rfl) (by kernel_rfl) (by kernel_rfl) (fun _ _ _ h => h) (Or.inl ⟨by rfl, ?_⟩) (by assumption) ?_
  rotate_left
  · (intro w hSw; (try dsimp only at hSw); go_simp <;> with_reducible rfl)
  simp only [Act.put, List.setIfInBounds_toArray, List.set_cons_zero, List.set_cons_succ]
  refine wpAnyH_take (i := 4) (v := ?_) (get1 (get1 (get1 (get1 (get0 _ _))))) (by kernel_rfl) (by kernel_rfl) (by kernel_rfl) (fun _ _ _ h => h) (Or.inl ⟨by rfl, ?_⟩) (by assumption) ?_
  rotate_left
  · (intro w hSw; (try dsimp only at hSw); go_simp <;> with_reducible rfl)
  simp only [Act.put, List.setIfInBounds_toArray, List.set_cons_zero, List.set_cons_succ]
  refine wpAnyH_take (i := 5) (v := ?_) (get1 (get1 (get1 (get1 (get1 (get0 _ _)))))) (by kernel_rfl) (by kernel_rfl) (by kernel_rfl) (fun _ _ _ h => h) (Or.inl ⟨by rfl, ?_⟩) (by assumption) ?_
  rotate_left
  · (intro w hSw; (try dsimp only at hSw); go_simp <;> with_reducible rfl)
  simp only [Act.put, List.setIfInBounds_toArray, List.set_cons_zero, List.set_cons_succ]
  refine wpAnyH_take (i := 6) (v := ?_) (get1 (get1 (get1 (get1 (get1 (get1 (get0 _ _))))))) (by kernel_rfl) (by kernel_rfl) (by kernel_rfl) (fun _ _ _ h => h) (Or.inl ⟨by rfl, ?_⟩) (by assumption) ?_
  rotate_left
  · (intro w hSw; (try dsimp only at hSw); go_simp <;> with_reducible rfl)
  simp only [Act.put, List.setIfInBounds_toArray, List.set_cons_zero, List.set_cons_succ]
  refine wpAnyH_take (i := 7) (v := ?_) (get1 (get1 (get1 (get1 (get1 (get1 (get1 (get0 _ _)))))))) (by kernel_rfl) (by kernel_rfl) (by kernel_rfl) (fun _ _ _ h => h) (Or.inl ⟨by rfl, ?_⟩) (by assumption) ?_
  rotate_left
  · (intro w hSw; (try dsimp only at hSw); go_simp <;> with_reducible rfl)
  simp only [Act.put, List.setIfInBounds_toArray, List.set_cons_zero, List.set_cons_succ]
  refine wpAnyH_ready (rs := [8]) (by kernel_rfl) (by simp) ?_
  refine AllReadyH.cons (get1 (get1 (get1 (get1 (get1 (get1 (get1 (get1 (get0 _ _))))))))) (fun K hK => ?_) AllReadyH.nil
  go_simp
  refine (reftake_any s i HS.out _).mono ?_
  rintro e y1 ⟨rfl, rfl⟩
  rw [HT.out]
  try go_wp2_with fail
  refine hK.out _ _ hHeld (fun hHeld => ?_)
  clear hK K
  try simp only [Act.put, List.setIfInBounds_toArray, List.set_cons_zero, List.set_cons_succ]
  refine wpAnyH_take (i := 9) (v := ?_) (get1 (get1 (get1 (get1 (get1 (get1 (get1 (get1 (get1 (get0 _ _)))))))))) (by kernel_rfl) (by kernel_rfl) (by kernel_rfl) (fun _ _ _ h => h) (Or.inl ⟨by rfl, ?_⟩) (by assumption) ?_
  rotate_left
  · (intro w hSw; (try dsimp only at hSw); go_simp <;> with_reducible rfl)
  simp only [Act.put, List.setIfInBounds_toArray, List.set_cons_zero, List.set_cons_succ]
  refine wpAnyH_take (i := 10) (v := ?_) (get1 (get1 (get1 (get1 (get1 (get1 (get1 (get1 (get1 (get1 (get0 _ _))))))))))) (by kernel_rfl) (by kernel_rfl) (by kernel_rfl) (fun _ _ _ h => h) (Or.inl ⟨by rfl, ?_⟩) (by assumption) ?_
  rotate_left
  · (intro w hSw; (try dsimp only at hSw); go_simp <;> with_reducible rfl)
  simp only [Act.put, List.setIfInBounds_toArray, List.set_cons_zero, List.set_cons_succ]
  refine wpAnyH_take (i := 11) (v := ?_) (get1 (get1 (get1 (get1 (get1 (get1 (get1 (get1 (get1 (get1 (get1 (get0 _ _)))))))))))) (by kernel_rfl) (by kernel_rfl) (by kernel_rfl) (fun _ _ _ h => h) (Or.inl ⟨by rfl, ?_⟩) (by assumption) ?_
  rotate_left
  · (intro w hSw; (try dsimp only at hSw); go_simp <;> with_reducible rfl)
  simp only [Act.put, List.setIfInBounds_toArray, List.set_cons_zero, List.set_cons_succ]
  refine wpAnyH_take (i := 12) (v := ?_) (get1 (get1 (get1 (get1 (get1 (get1 (get1 (get1 (get1 (get1 (get1 (get1 (get0 _ _))))))))))))) (by kernel_rfl) (by kernel_rfl) (by kernel_rfl) (fun _ _ _ h => h) (Or.inl ⟨by rfl, ?_⟩) (by assumption) ?_
  rotate_left
  · (intro w hSw; (try dsimp only at hSw); go_simp <;> with_reducible rfl)
  simp only [Act.put, List.setIfInBounds_toArray, List.set_cons_zero, List.set_cons_succ]
  refine wpAnyH_take (i := 13) (v := ?_) (get1 (get1 (get1 (get1 (get1 (get1 (get1 (get1 (get1 (get1 (get1 (get1 (get1 (get0 _ _)))))))))))))) (by kernel_rfl) (by kernel_rfl) (by kernel_rfl) (fun _ _ _ h => h) (Or.inl ⟨by rfl, ?_⟩) (by assumption) ?_
  rotate_left
  · (intro w hSw; (try dsimp only at hSw); go_simp <;> with_reducible rfl)
  simp only [Act.put, List.setIfInBounds_toArray, List.set_cons_zero, List.set_cons_succ]
  refine wpAnyH_take (i := 14) (v := ?_) (get1 (get1 (get1 (get1 (get1 (get1 (get1 (get1 (get1 (get1 (get1 (get1 (get1 (get1 (get0 _ _))))))))))))))) (by kernel_rfl) (by kernel_rfl) (by kernel_rfl) (fun _ _ _ h => h) (Or.inl ⟨by rfl, ?_⟩) (by assumption) ?_
  rotate_left
  · (intro w hSw; (try dsimp only at hSw); go_simp <;> with_reducible rfl)
  simp only [Act.put, List.setIfInBounds_toArray, List.set_cons_zero, List.set_cons_succ]
  refine wpAnyH_take (i := 15) (v := ?_) (get1 (get1 (get1 (get1 (get1 (get1 (get1 (get1 (get1 (get1 (get1 (get1 (get1 (get1 (get1 (get0 _ _)))))))))))))))) (by kernel_rfl) (by kernel_rfl) (by kernel_rfl) (fun _ _ _ h => h) (Or.inl ⟨by rfl, ?_⟩) (by assumption) ?_
  rotate_left
  · (intro w hSw; (try dsimp only at hSw); go_simp <;> with_reducible rfl)
  simp only [Act.put, List.setIfInBounds_toArray, List.set_cons_zero, List.set_cons_succ]
  refine wpAnyH_done (by kernel_rfl) ?_ _
  clear hHeld
  have j1 := HR.out.drew.c1
  have j2 := HR.out.drew.c2
  have z1 := HR.out.drew.fz 1
  have z2 := HR.out.drew.fz 2
  clear c0 c1
  go_wp2
  go_ret
  exact ⟨rfl, HR.out.drew.spoil, gb_then (r := none) (gb_below (Below.refl _ w).drew (some br)) 2 (.bool true)⟩

set_option maxRecDepth 100000 in
set_option maxHeartbeats 2000000 in
theorem xnum_big {w : World} {br : Nat} {s : ByteArray} {i : Nat} (h : RX w br s i false) (n : Nat) (hn : n ≤ 1000000000) (x : Int) (m : Nat) (hx : W.takeG 0 0 (W.tail s i) = some (x, m)) (hxm : (n : Int) < x) :
    Calls Try.prog 31 #[.pointer (some ⟨br, 0, none⟩), .int .i64 n] w fun e w' => e = .returned (.int .i64 0) ∧ RX w' br s i true ∧ w.grownBy w' (some br) := by
  have c0 := h.c0
  have c1 := h.c1
  have hi := h.le
  have HR : Hid _ := h
  have HS : Hid _ := h.sz
  have HX : Hid _ := hx
  have hml : i + m ≤ s.size := by have := (takeG_len _ _ _ _ _ hx).2; have := W.tail_length s i; omega
  have HT : Hid (W.take s i = (x, ((i + m : Nat) : Int), 0)) := by
    show _ = _
    unfold W.take
    rw [if_neg (by omega), Int.toNat_natCast, W.takeR_some s i x m hx]
    simp
  have d0 : decide ((n : Int) < x) = true := by simp; omega
  have hs' : s.size ≤ 9223372036854775807 := by have := h.sz; unfold maxLen at this; omega
  clear h hx
  go_enter Try.func31, Try.ntmps31
  go_wp2_with fail
  refine wp_region_held_drew (S := (fun w' : World => w'.cell? ⟨br, 0, none⟩ = some (.string s) ∧ w'.cell? ⟨br, 1, none⟩ = some (.int .i64 i))) (by kernel_rfl) ⟨c0, c1⟩ (fun hHeld => ?_)
  refine wpAnyH_take (i := 0) (v := ?_) (get0 _ _) (by kernel_rfl) (by kernel_rfl) (by kernel_rfl) (fun _ _ _ h => h) (Or.inl ⟨by rfl, ?_⟩) (by assumption) ?_
  rotate_left
  · (intro w hSw; (try dsimp only at hSw); go_simp <;> with_reducible rfl)
  simp only [Act.put, List.setIfInBounds_toArray, List.set_cons_zero, List.set_cons_succ]
  refine wpAnyH_take (i := 1) (v := ?_) (get1 (get0 _ _)) (by kernel_rfl) (by kernel_rfl) (by kernel_rfl) (fun _ _ _ h => h) (Or.inl ⟨by rfl, ?_⟩) (by assumption) ?_
  rotate_left
  · (intro w hSw; (try dsimp only at hSw); go_simp <;> with_reducible rfl)
  simp only [Act.put, List.setIfInBounds_toArray, List.set_cons_zero, List.set_cons_succ]
  refine wpAnyH_take (i := 2) (v := ?_) (get1 (get1 (get0 _ _))) (by kernel_rfl) (by kernel_rfl) (by kernel_rfl) (fun _ _ _ h => h) (Or.inl ⟨by rfl, ?_⟩) (by assumption) ?_
  rotate_left
  · (intro w hSw; (try dsimp only at hSw); go_simp <;> with_reducible rfl)
  simp only [Act.put, List.setIfInBounds_toArray, List.set_cons_zero, List.set_cons_succ]
  refine wpAnyH_take (i := 3) (v := ?_) (get1 (get1 (get1 (get0 _ _)))) (by kernel_rfl) (by kernel_rfl) (by kernel_rfl) (fun _ _ _ h => h) (Or.inl ⟨by rfl, ?_⟩) (by assumption) ?_
  rotate_left
  · (intro w hSw; (try dsimp only at hSw); go_simp <;> with_reducible rfl)
  simp only [Act.put, List.setIfInBounds_toArray, List.set_cons_zero, List.set_cons_succ]
  refine wpAnyH_take (i := 4) (v := ?_) (get1 (get1 (get1 (get1 (get0 _ _))))) (by kernel_rfl) (by kernel_rfl) (by kernel_rfl) (fun _ _ _ h => h) (Or.inl ⟨by rfl, ?_⟩) (by assumption) ?_
  rotate_left
  · (intro w hSw; (try dsimp only at hSw); go_simp <;> with_reducible rfl)
  simp only [Act.put, List.setIfInBounds_toArray, List.set_cons_zero, List.set_cons_succ]
  refine wpAnyH_take (i := 5) (v := ?_) (get1 (get1 (get1 (get1 (get1 (get0 _ _)))))) (by kernel_rfl) (by kernel_rfl) (by kernel_rfl) (fun _ _ _ h => h) (Or.inl ⟨by rfl, ?_⟩) (by assumption) ?_
  rotate_left
  · (intro w hSw; (try dsimp only at hSw); go_simp <;> with_reducible rfl)
  simp only [Act.put, List.setIfInBounds_toArray, List.set_cons_zero, List.set_cons_succ]
  refine wpAnyH_take (i := 6) (v := ?_) (get1 (get1 (get1 (get1 (get1 (get1 (get0 _ _))))))) (by kernel_rfl) (by kernel_rfl) (by kernel_rfl) (fun _ _ _ h => h) (Or.inl ⟨by rfl, ?_⟩) (by assumption) ?_
  rotate_left
  · (intro w hSw; (try dsimp only at hSw); go_simp <;> with_reducible rfl)
  simp only [Act.put, List.setIfInBounds_toArray, List.set_cons_zero, List.set_cons_succ]
  refine wpAnyH_take (i := 7) (v := ?_) (get1 (get1 (get1 (get1 (get1 (get1 (get1 (get0 _ _)))))))) (by kernel_rfl) (by kernel_rfl) (by kernel_rfl) (fun _ _ _ h => h) (Or.inl ⟨by rfl, ?_⟩) (by assumption) ?_
  rotate_left
  · (intro w hSw; (try dsimp only at hSw); go_simp <;> with_reducible rfl)
  simp only [Act.put, List.setIfInBounds_toArray, List.set_cons_zero, List.set_cons_succ]
  refine wpAnyH_ready (rs := [8]) (by kernel_rfl) (by simp) ?_
  refine AllReadyH.cons (get1 (get1 (get1 (get1 (get1 (get1 (get1 (get1 (get0 _ _))))))))) (fun K hK => ?_) AllReadyH.nil
  go_simp
  refine (reftake_any s i HS.out _).mono ?_
  rintro e y1 ⟨rfl, rfl⟩
  rw [HT.out]
  try go_wp2_with fail
  refine hK.out _ _ hHeld (fun hHeld => ?_)
  clear hK K
  try simp only [Act.put, List.setIfInBounds_toArray, List.set_cons_zero, List.set_cons_succ]
  refine wpAnyH_take (i := 9) (v := ?_) (get1 (get1 (get1 (get1 (get1 (get1 (get1 (get1 (get1 (get0 _ _)))))))))) (by kernel_rfl) (by kernel_rfl) (by kernel_rfl) (fun _ _ _ h => h) (Or.inl ⟨by rfl, ?_⟩) (by assumption) ?_
  rotate_left
  · (intro w hSw; (try dsimp only at hSw); go_simp <;> with_reducible rfl)
  simp only [Act.put, List.setIfInBounds_toArray, List.set_cons_zero, List.set_cons_succ]
  refine wpAnyH_take (i := 10) (v := ?_) (get1 (get1 (get1 (get1 (get1 (get1 (get1 (get1 (get1 (get1 (get0 _ _))))))))))) (by kernel_rfl) (by kernel_rfl) (by kernel_rfl) (fun _ _ _ h => h) (Or.inl ⟨by rfl, ?_⟩) (by assumption) ?_
  rotate_left
  · (intro w hSw; (try dsimp only at hSw); go_simp <;> with_reducible rfl)
  simp only [Act.put, List.setIfInBounds_toArray, List.set_cons_zero, List.set_cons_succ]
  refine wpAnyH_take (i := 11) (v := ?_) (get1 (get1 (get1 (get1 (get1 (get1 (get1 (get1 (get1 (get1 (get1 (get0 _ _)))))))))))) (by kernel_rfl) (by kernel_rfl) (by kernel_rfl) (fun _ _ _ h => h) (Or.inl ⟨by rfl, ?_⟩) (by assumption) ?_
  rotate_left
  · (intro w hSw; (try dsimp only at hSw); go_simp <;> with_reducible rfl)
  simp only [Act.put, List.setIfInBounds_toArray, List.set_cons_zero, List.set_cons_succ]
  refine wpAnyH_take (i := 12) (v := ?_) (get1 (get1 (get1 (get1 (get1 (get1 (get1 (get1 (get1 (get1 (get1 (get1 (get0 _ _))))))))))))) (by kernel_rfl) (by kernel_rfl) (by kernel_rfl) (fun _ _ _ h => h) (Or.inl ⟨by rfl, ?_⟩) (by assumption) ?_
  rotate_left
  · (intro w hSw; (try dsimp only at hSw); go_simp <;> with_reducible rfl)
  simp only [Act.put, List.setIfInBounds_toArray, List.set_cons_zero, List.set_cons_succ]
  refine wpAnyH_take (i := 13) (v := ?_) (get1 (get1 (get1 (get1 (get1 (get1 (get1 (get1 (get1 (get1 (get1 (get1 (get1 (get0 _ _)))))))))))))) (by kernel_rfl) (by kernel_rfl) (by kernel_rfl) (fun _ _ _ h => h) (Or.inl ⟨by rfl, ?_⟩) (by assumption) ?_
  rotate_left
  · (intro w hSw; (try dsimp only at hSw); go_simp <;> with_reducible rfl)
  simp only [Act.put, List.setIfInBounds_toArray, List.set_cons_zero, List.set_cons_succ]
  refine wpAnyH_take (i := 14) (v := ?_) (get1 (get1 (get1 (get1 (get1 (get1 (get1 (get1 (get1 (get1 (get1 (get1 (get1 (get1 (get0 _ _))))))))))))))) (by kernel_rfl) (by kernel_rfl) (by kernel_rfl) (fun _ _ _ h => h) (Or.inl ⟨by rfl, ?_⟩) (by assumption) ?_
  rotate_left
  · (intro w hSw; (try dsimp only at hSw); go_simp <;> with_reducible rfl)
  simp only [Act.put, List.setIfInBounds_toArray, List.set_cons_zero, List.set_cons_succ]
  refine wpAnyH_take (i := 15) (v := ?_) (get1 (get1 (get1 (get1 (get1 (get1 (get1 (get1 (get1 (get1 (get1 (get1 (get1 (get1 (get1 (get0 _ _)))))))))))))))) (by kernel_rfl) (by kernel_rfl) (by kernel_rfl) (fun _ _ _ h => h) (Or.inl ⟨by rfl, ?_⟩) (by assumption) ?_
  rotate_left
  · (intro w hSw; (try dsimp only at hSw); go_simp <;> with_reducible rfl)
  simp only [Act.put, List.setIfInBounds_toArray, List.set_cons_zero, List.set_cons_succ]
  refine wpAnyH_done (by kernel_rfl) ?_ _
  clear hHeld
  have j1 := HR.out.drew.c1
  have j2 := HR.out.drew.c2
  have z1 := HR.out.drew.fz 1
  have z2 := HR.out.drew.fz 2
  clear c0 c1
  go_wp2
  go_ret
  exact ⟨rfl, HR.out.drew.spoil, gb_then (r := none) (gb_below (Below.refl _ w).drew (some br)) 2 (.bool true)⟩

set_option maxRecDepth 100000 in
set_option maxHeartbeats 2000000 in
theorem xnum_bad {w : World} {br : Nat} {s : ByteArray} {i : Nat} (h : RX w br s i true) (n : Nat) (hn : n ≤ 1000000000)  :
    Calls Try.prog 31 #[.pointer (some ⟨br, 0, none⟩), .int .i64 n] w fun e w' => e = .returned (.int .i64 0) ∧ RX w' br s i true ∧ w.grownBy w' (some br) := by
  have c0 := h.c0
  have c1 := h.c1
  have hi := h.le
  have HR : Hid _ := h
  have HS : Hid _ := h.sz
  have hs' : s.size ≤ 9223372036854775807 := by have := h.sz; unfold maxLen at this; omega
  clear h 
  go_enter Try.func31, Try.ntmps31
  go_wp2_with fail
  refine wp_region_held_drew (S := (fun w' : World => w'.cell? ⟨br, 0, none⟩ = some (.string s) ∧ w'.cell? ⟨br, 1, none⟩ = some (.int .i64 i))) (by kernel_rfl) ⟨c0, c1⟩ (fun hHeld => ?_)
  refine wpAnyH_take (i := 0) (v := ?_) (get0 _ _) (by kernel_rfl) (by kernel_rfl) (by kernel_rfl) (fun _ _ _ h => h) (Or.inl ⟨by rfl, ?_⟩) (by assumption) ?_
  rotate_left
  · (intro w hSw; (try dsimp only at hSw); go_simp <;> with_reducible rfl)
  simp only [Act.put, List.setIfInBounds_toArray, List.set_cons_zero, List.set_cons_succ]
  refine wpAnyH_take (i := 1) (v := ?_) (get1 (get0 _ _)) (by kernel_rfl) (by kernel_rfl) (by kernel_rfl) (fun _ _ _ h => h) (Or.inl ⟨by rfl, ?_⟩) (by assumption) ?_
  rotate_left
  · (intro w hSw; (try dsimp only at hSw); go_simp <;> with_reducible rfl)
  simp only [Act.put, List.setIfInBounds_toArray, List.set_cons_zero, List.set_cons_succ]
  refine wpAnyH_take (i := 2) (v := ?_) (get1 (get1 (get0 _ _))) (by kernel_rfl) (by kernel_rfl) (by kernel_rfl) (fun _ _ _ h => h) (Or.inl ⟨by rfl, ?_⟩) (by assumption) ?_
  rotate_left
  · (intro w hSw; (try dsimp only at hSw); go_simp <;> with_reducible rfl)
  simp only [Act.put, List.setIfInBounds_toArray, List.set_cons_zero, List.set_cons_succ]
  refine wpAnyH_take (i := 3) (v := ?_) (get1 (get1 (get1 (get0 _ _)))) (by kernel_rfl) (by kernel_rfl) (by kernel_rfl) (fun _ _ _ h => h) (Or.inl ⟨by rfl, ?_⟩) (by assumption) ?_
  rotate_left
  · (intro w hSw; (try dsimp only at hSw); go_simp <;> with_reducible rfl)
  simp only [Act.put, List.setIfInBounds_toArray, List.set_cons_zero, List.set_cons_succ]
  refine wpAnyH_take (i := 4) (v := ?_) (get1 (get1 (get1 (get1 (get0 _ _))))) (by kernel_rfl) (by kernel_rfl) (by kernel_rfl) (fun _ _ _ h => h) (Or.inl ⟨by rfl, ?_⟩) (by assumption) ?_
  rotate_left
  · (intro w hSw; (try dsimp only at hSw); go_simp <;> with_reducible rfl)
  simp only [Act.put, List.setIfInBounds_toArray, List.set_cons_zero, List.set_cons_succ]
  refine wpAnyH_take (i := 5) (v := ?_) (get1 (get1 (get1 (get1 (get1 (get0 _ _)))))) (by kernel_rfl) (by kernel_rfl) (by kernel_rfl) (fun _ _ _ h => h) (Or.inl ⟨by rfl, ?_⟩) (by assumption) ?_
  rotate_left
  · (intro w hSw; (try dsimp only at hSw); go_simp <;> with_reducible rfl)
  simp only [Act.put, List.setIfInBounds_toArray, List.set_cons_zero, List.set_cons_succ]
  refine wpAnyH_take (i := 6) (v := ?_) (get1 (get1 (get1 (get1 (get1 (get1 (get0 _ _))))))) (by kernel_rfl) (by kernel_rfl) (by kernel_rfl) (fun _ _ _ h => h) (Or.inl ⟨by rfl, ?_⟩) (by assumption) ?_
  rotate_left
  · (intro w hSw; (try dsimp only at hSw); go_simp <;> with_reducible rfl)
  simp only [Act.put, List.setIfInBounds_toArray, List.set_cons_zero, List.set_cons_succ]
  refine wpAnyH_take (i := 7) (v := ?_) (get1 (get1 (get1 (get1 (get1 (get1 (get1 (get0 _ _)))))))) (by kernel_rfl) (by kernel_rfl) (by kernel_rfl) (fun _ _ _ h => h) (Or.inl ⟨by rfl, ?_⟩) (by assumption) ?_
  rotate_left
  · (intro w hSw; (try dsimp only at hSw); go_simp <;> with_reducible rfl)
  simp only [Act.put, List.setIfInBounds_toArray, List.set_cons_zero, List.set_cons_succ]
  refine wpAnyH_ready (rs := [8]) (by kernel_rfl) (by simp) ?_
  refine AllReadyH.cons (get1 (get1 (get1 (get1 (get1 (get1 (get1 (get1 (get0 _ _))))))))) (fun K hK => ?_) AllReadyH.nil
  go_simp
  refine (reftake_any s i HS.out _).mono ?_
  rintro e y1 ⟨rfl, rfl⟩
  obtain ⟨⟨x0, x1, x2⟩, hx⟩ : ∃ x, W.take s i = x := ⟨_, rfl⟩
  rw [hx]
  clear hx
  try go_wp2_with fail
  refine hK.out _ _ hHeld (fun hHeld => ?_)
  clear hK K
  try simp only [Act.put, List.setIfInBounds_toArray, List.set_cons_zero, List.set_cons_succ]
  refine wpAnyH_take (i := 9) (v := ?_) (get1 (get1 (get1 (get1 (get1 (get1 (get1 (get1 (get1 (get0 _ _)))))))))) (by kernel_rfl) (by kernel_rfl) (by kernel_rfl) (fun _ _ _ h => h) (Or.inl ⟨by rfl, ?_⟩) (by assumption) ?_
  rotate_left
  · (intro w hSw; (try dsimp only at hSw); go_simp <;> with_reducible rfl)
  simp only [Act.put, List.setIfInBounds_toArray, List.set_cons_zero, List.set_cons_succ]
  refine wpAnyH_take (i := 10) (v := ?_) (get1 (get1 (get1 (get1 (get1 (get1 (get1 (get1 (get1 (get1 (get0 _ _))))))))))) (by kernel_rfl) (by kernel_rfl) (by kernel_rfl) (fun _ _ _ h => h) (Or.inl ⟨by rfl, ?_⟩) (by assumption) ?_
  rotate_left
  · (intro w hSw; (try dsimp only at hSw); go_simp <;> with_reducible rfl)
  simp only [Act.put, List.setIfInBounds_toArray, List.set_cons_zero, List.set_cons_succ]
  refine wpAnyH_take (i := 11) (v := ?_) (get1 (get1 (get1 (get1 (get1 (get1 (get1 (get1 (get1 (get1 (get1 (get0 _ _)))))))))))) (by kernel_rfl) (by kernel_rfl) (by kernel_rfl) (fun _ _ _ h => h) (Or.inl ⟨by rfl, ?_⟩) (by assumption) ?_
  rotate_left
  · (intro w hSw; (try dsimp only at hSw); go_simp <;> with_reducible rfl)
  simp only [Act.put, List.setIfInBounds_toArray, List.set_cons_zero, List.set_cons_succ]
  refine wpAnyH_take (i := 12) (v := ?_) (get1 (get1 (get1 (get1 (get1 (get1 (get1 (get1 (get1 (get1 (get1 (get1 (get0 _ _))))))))))))) (by kernel_rfl) (by kernel_rfl) (by kernel_rfl) (fun _ _ _ h => h) (Or.inl ⟨by rfl, ?_⟩) (by assumption) ?_
  rotate_left
  · (intro w hSw; (try dsimp only at hSw); go_simp <;> with_reducible rfl)
  simp only [Act.put, List.setIfInBounds_toArray, List.set_cons_zero, List.set_cons_succ]
  refine wpAnyH_take (i := 13) (v := ?_) (get1 (get1 (get1 (get1 (get1 (get1 (get1 (get1 (get1 (get1 (get1 (get1 (get1 (get0 _ _)))))))))))))) (by kernel_rfl) (by kernel_rfl) (by kernel_rfl) (fun _ _ _ h => h) (Or.inl ⟨by rfl, ?_⟩) (by assumption) ?_
  rotate_left
  · (intro w hSw; (try dsimp only at hSw); go_simp <;> with_reducible rfl)
  simp only [Act.put, List.setIfInBounds_toArray, List.set_cons_zero, List.set_cons_succ]
  refine wpAnyH_take (i := 14) (v := ?_) (get1 (get1 (get1 (get1 (get1 (get1 (get1 (get1 (get1 (get1 (get1 (get1 (get1 (get1 (get0 _ _))))))))))))))) (by kernel_rfl) (by kernel_rfl) (by kernel_rfl) (fun _ _ _ h => h) (Or.inl ⟨by rfl, ?_⟩) (by assumption) ?_
  rotate_left
  · (intro w hSw; (try dsimp only at hSw); go_simp <;> with_reducible rfl)
  simp only [Act.put, List.setIfInBounds_toArray, List.set_cons_zero, List.set_cons_succ]
  refine wpAnyH_take (i := 15) (v := ?_) (get1 (get1 (get1 (get1 (get1 (get1 (get1 (get1 (get1 (get1 (get1 (get1 (get1 (get1 (get1 (get0 _ _)))))))))))))))) (by kernel_rfl) (by kernel_rfl) (by kernel_rfl) (fun _ _ _ h => h) (Or.inl ⟨by rfl, ?_⟩) (by assumption) ?_
  rotate_left
  · (intro w hSw; (try dsimp only at hSw); go_simp <;> with_reducible rfl)
  simp only [Act.put, List.setIfInBounds_toArray, List.set_cons_zero, List.set_cons_succ]
  refine wpAnyH_done (by kernel_rfl) ?_ _
  clear hHeld
  have j1 := HR.out.drew.c1
  have j2 := HR.out.drew.c2
  have z1 := HR.out.drew.fz 1
  have z2 := HR.out.drew.fz 2
  clear c0 c1
  go_wp2
  go_ret
  exact ⟨rfl, HR.out.drew.spoil, gb_then (r := none) (gb_below (Below.refl _ w).drew (some br)) 2 (.bool true)⟩

theorem xnum_any {w : World} {br : Nat} {s : ByteArray} {i : Nat} (h : RX w br s i false) (n : Nat) (hm : n ≤ 1000000000) :
    Calls Try.prog 31 #[.pointer (some ⟨br, 0, none⟩), .int .i64 n] w fun e w' => GoodR w br s (rdUp s i n) (Value.int .i64) (.int .i64 0) e w' := by
  cases hx : W.takeG 0 0 (W.tail s i) with
  | none =>
    refine (xnum_no h n hm hx).mono ?_
    rintro e w' ⟨rfl, hf, hg⟩
    exact ⟨.inr ⟨by unfold rdUp; rw [hx], rfl, _, hf⟩, hg⟩
  | some p =>
    obtain ⟨x, m⟩ := p
    have hx0 := takeG_nonneg _ _ _ _ _ (fun c hc => (W.tail_bd s i c hc).1) (by decide) hx
    by_cases hle : x ≤ n
    · refine (xnum_yes h n hm x m hx hx0 hle).mono ?_
      rintro e w' ⟨rfl, hr, hg⟩
      exact ⟨.inl ⟨x, i + m, by unfold rdUp; rw [hx]; exact if_pos hle, rfl, hr⟩, hg⟩
    · refine (xnum_big h n hm x m hx (by omega)).mono ?_
      rintro e w' ⟨rfl, hf, hg⟩
      exact ⟨.inr ⟨by unfold rdUp; rw [hx]; exact if_neg hle, rfl, _, hf⟩, hg⟩

set_option maxRecDepth 100000 in
set_option maxHeartbeats 2000000 in
theorem xbytes_yes {w : World} {br : Nat} {s : ByteArray} {i : Nat} (h : RX w br s i false) (n : Nat) (hn : i + n ≤ s.size) :
    Calls Try.prog 33 #[.pointer (some ⟨br, 0, none⟩), .int .i64 n] w fun e w' => e = .returned (.string (sub s i n)) ∧ RX w' br s (i + n) false ∧ w.grownBy w' (some br) := by
  have c0 := h.c0
  have c1 := h.c1
  have c2 := h.c2
  have hi := h.le
  have z1 := h.fz 1
  have z2 := h.fz 2
  have HR : Hid _ := h
  have hs' : s.size ≤ 9223372036854775807 := by have := h.sz; unfold maxLen at this; omega
  have d0 : decide ((s.size : Int) - i < n) = false := by simp; omega
  obtain ⟨k, hk⟩ : ∃ k, i + n = k := ⟨_, rfl⟩
  rw [hk]
  have hkk : (i : Int) + n = (k : Int) := by omega
  have hlow : (k : Int) - n = i := by omega
  have hks : (k : Int) ≤ s.size := by omega
  have hik : (i : Int) ≤ k := by omega
  have HSUB : Hid (sub s i n = s.extract i k) := by show _ = _; unfold sub; rw [hk]
  have HK : Hid (k ≤ s.size) := by show k ≤ _; omega
  clear hk
  clear h
  go_enter Try.func33, Try.ntmps33
  go_wp2_with fail
  go_quiet (fail)
  go_wp2_with fail
  have HRY : Hid _ := (HR.out.drewN nq).set k HK.out
  have HGY : Hid _ := gb_then (r := none) (gb_below (bl_drewN (Below.refl _ w) nq) (some br)) 1 (.int .i64 k)
  obtain ⟨Y, hY⟩ : ∃ Y, (w.drewN nq).setCell ⟨br, 1, none⟩ (.int .i64 k) = Y := ⟨_, rfl⟩
  rw [hY] at HRY HGY ⊢
  have e0 := HRY.out.c0
  have e1 := HRY.out.c1
  clear c0 c1 c2 z1 z2 hkk
  go_quiet (fail)
  go_wp2
  go_ret
  exact ⟨by rw [HSUB.out]; rfl, HRY.out.drewN _, grown_trans HGY.out (gb_below (bl_drewN (Below.refl _ Y) _) (some br))⟩

set_option maxRecDepth 100000 in
set_option maxHeartbeats 2000000 in
theorem xbytes_no {w : World} {br : Nat} {s : ByteArray} {i : Nat} (h : RX w br s i false) (n : Nat) (hn : s.size < i + n) (hm : n ≤ 1000000000) :
    Calls Try.prog 33 #[.pointer (some ⟨br, 0, none⟩), .int .i64 n] w fun e w' => e = .returned (.string { data := #[] }) ∧ RX w' br s i true ∧ w.grownBy w' (some br) := by
  have c0 := h.c0
  have c1 := h.c1
  have c2 := h.c2
  have hi := h.le
  have z1 := h.fz 1
  have z2 := h.fz 2
  have HR : Hid _ := h
  have hs' : s.size ≤ 9223372036854775807 := by have := h.sz; unfold maxLen at this; omega
  have d0 : decide ((s.size : Int) - i < n) = true := by simp; omega
  clear h
  go_enter Try.func33, Try.ntmps33
  go_wp2_with fail
  go_quiet (fail)
  go_wp2
  go_ret
  exact ⟨rfl, (HR.out.drewN _).spoil, gb_then (r := none) (gb_below (bl_drewN (Below.refl _ w) _) (some br)) 2 (.bool true)⟩

set_option maxRecDepth 100000 in
set_option maxHeartbeats 2000000 in
theorem xbytes_bad {w : World} {br : Nat} {s : ByteArray} {i : Nat} (h : RX w br s i true) (n : Nat)  :
    Calls Try.prog 33 #[.pointer (some ⟨br, 0, none⟩), .int .i64 n] w fun e w' => e = .returned (.string { data := #[] }) ∧ RX w' br s i true ∧ w.grownBy w' (some br) := by
  have c0 := h.c0
  have c1 := h.c1
  have c2 := h.c2
  have hi := h.le
  have z1 := h.fz 1
  have z2 := h.fz 2
  have HR : Hid _ := h
  have hs' : s.size ≤ 9223372036854775807 := by have := h.sz; unfold maxLen at this; omega
  clear h
  go_enter Try.func33, Try.ntmps33
  go_wp2_with fail
  go_quiet (fail)
  go_wp2
  go_ret
  exact ⟨rfl, (HR.out.drewN _).spoil, gb_then (r := none) (gb_below (bl_drewN (Below.refl _ w) _) (some br)) 2 (.bool true)⟩

theorem xbytes_any {w : World} {br : Nat} {s : ByteArray} {i : Nat} (h : RX w br s i false) (n : Nat) (hm : n ≤ 1000000000) :
    Calls Try.prog 33 #[.pointer (some ⟨br, 0, none⟩), .int .i64 n] w fun e w' => GoodR w br s (rdTake s i n) Value.string (.string { data := #[] }) e w' := by
  by_cases hn : i + n ≤ s.size
  · refine (xbytes_yes h n hn).mono ?_
    rintro e w' ⟨rfl, hr, hg⟩
    exact ⟨.inl ⟨_, _, if_pos hn, rfl, hr⟩, hg⟩
  · refine (xbytes_no h n (by omega) hm).mono ?_
    rintro e w' ⟨rfl, hf, hg⟩
    exact ⟨.inr ⟨if_neg hn, rfl, _, hf⟩, hg⟩

set_option maxRecDepth 100000 in
set_option maxHeartbeats 2000000 in
theorem xone_any {w : World} {br : Nat} {s : ByteArray} {i : Nat} (h : RX w br s i false) :
    Calls Try.prog 32 #[.pointer (some ⟨br, 0, none⟩)] w fun e w' => GoodR w br s (rdKind s i) (Value.int .i64) (.int .i64 0) e w' := by
  have HR : Hid _ := h
  clear h
  go_enter Try.func32, Try.ntmps32
  go_wp2_with fail
  refine (xbytes_any HR.out 1 (by decide)).mono ?_
  rintro e w1 ⟨⟨t, j, hf, rfl, hr⟩ | ⟨hf, rfl, j, hr⟩, hg⟩
  · have hsz : t.size = 1 := by
      unfold rdTake at hf
      split at hf
      · next hle => simp at hf; rw [← hf.1]; exact sub_size hle
      · cases hf
    have HF : Hid (rdKind s i = some ((t[0].toNat : Int), j)) := by
      show _ = _
      simp only [rdKind, hf, nums, W.tail_cons t 0 (by omega)]
      rfl
    have HR1 : Hid _ := hr
    have HG : Hid _ := hg
    have hne : t.toList.isEmpty = false := by
      rw [ByteArray.toList_eq]
      cases hl : t.data.toList with
      | nil => have := congrArg List.length hl; simp at this; simp [this] at hsz
      | cons _ _ => rfl
    have hb := UInt8.toNat_lt t[0]
    clear hf hr hg
    go_wp2
    go_ret
    exact ⟨.inl ⟨_, _, HF.out, rfl, HR1.out⟩, HG.out⟩
  · have HF : Hid (rdKind s i = none) := by show _ = _; unfold rdKind; rw [hf]
    clear hf
    go_wp2
    go_ret
    exact ⟨.inr ⟨HF.out, rfl, j, hr⟩, hg⟩
set_option maxRecDepth 100000 in
theorem xone_bad {w : World} {br : Nat} {s : ByteArray} {i : Nat} (h : RX w br s i true) :
    Calls Try.prog 32 #[.pointer (some ⟨br, 0, none⟩)] w fun e w' => BadR w br s (.int .i64 0) e w' := by
  have HR : Hid _ := h
  clear h
  go_enter Try.func32, Try.ntmps32
  go_wp2_with fail
  refine (xbytes_bad HR.out 1).mono ?_
  rintro e w1 ⟨rfl, hr, hg⟩
  go_wp2
  go_ret
  exact ⟨rfl, ⟨_, hr⟩, hg⟩
set_option maxRecDepth 100000 in
set_option maxHeartbeats 2000000 in
theorem xwide_any {w : World} {br : Nat} {s : ByteArray} {i : Nat} (h : RX w br s i false) :
    Calls Try.prog 34 #[.pointer (some ⟨br, 0, none⟩)] w fun e w' => GoodR w br s (rdLong s i) (Value.int .i64) (.int .i64 0) e w' := by
  have HR : Hid _ := h
  clear h
  go_enter Try.func34, Try.ntmps34
  go_wp2_with fail
  refine (xbytes_any HR.out 8 (by decide)).mono ?_
  rintro e w1 ⟨⟨t, j, hf, rfl, hr⟩ | ⟨hf, rfl, j, hr⟩, hg⟩
  · have HF : Hid (rdLong s i = some (W.numV t, j)) := by show _ = _; unfold rdLong; rw [hf]
    have HR1 : Hid _ := hr
    have HG : Hid _ := hg
    clear hf hr hg
    go_wp2_with fail
    refine (rnumber_any t _).mono ?_
    rintro e w2 ⟨rfl, rfl⟩
    go_wp2
    go_ret
    exact ⟨.inl ⟨_, _, HF.out, rfl, HR1.out⟩, HG.out⟩
  · have HF : Hid (rdLong s i = none) := by show _ = _; unfold rdLong; rw [hf]
    clear hf
    go_wp2_with fail
    refine (rnumber_any _ _).mono ?_
    rintro e w2 ⟨rfl, rfl⟩
    rw [show W.numV { data := #[] } = 0 from rfl]
    go_wp2
    go_ret
    exact ⟨.inr ⟨HF.out, rfl, j, hr⟩, hg⟩
set_option maxRecDepth 100000 in
theorem xwide_bad {w : World} {br : Nat} {s : ByteArray} {i : Nat} (h : RX w br s i true) :
    Calls Try.prog 34 #[.pointer (some ⟨br, 0, none⟩)] w fun e w' => BadR w br s (.int .i64 0) e w' := by
  have HR : Hid _ := h
  clear h
  go_enter Try.func34, Try.ntmps34
  go_wp2_with fail
  refine (xbytes_bad HR.out 8).mono ?_
  rintro e w1 ⟨rfl, hr, hg⟩
  go_wp2_with fail
  refine (rnumber_any _ _).mono ?_
  rintro e w2 ⟨rfl, rfl⟩
  rw [show W.numV { data := #[] } = 0 from rfl]
  go_wp2
  go_ret
  exact ⟨rfl, ⟨_, hr⟩, hg⟩

end Go.Proofs.Ytmpmfjplnajjdaa

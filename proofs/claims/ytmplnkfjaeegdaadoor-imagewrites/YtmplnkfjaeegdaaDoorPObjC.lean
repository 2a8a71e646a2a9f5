/- What the reader's small ones come to. (Written by gen_piece.py.) -/
import Derived.Test.YtmplnkfjaeegdaaDoorPObjA
import Derived.Test.YtmplnkfjaeegdaaDoorPWord
import Derived.Test.YtmplnkfjaeegdaaDoorPObjB
namespace Go.Proofs.YtmplnkfjaeegdaaDoor
set_option maxRecDepth 100000
open Go.RowKit Go.Maps
set_option linter.unusedVariables false

/-- A piece of a string. -/
def sub (s : ByteArray) (i n : Nat) : ByteArray := s.extract i (i + n)
/-- A panic of the reader's. -/
def Fails (e : Ending) : Prop := ∃ c : Int, e = .panicked [{ v := .iface 29 (.int .i64 c), recovered := false }]
/-- A reader: its text, its place. -/
structure RdV (w : World) (br : Nat) (s : ByteArray) (i : Nat) : Prop where
  c0 : w.cell? ⟨br, 0, none⟩ = some (.string s)
  c1 : w.cell? ⟨br, 1, none⟩ = some (.int .i64 i)
  fz : ∀ o, w.frozen? ⟨br, o, none⟩ = false
  le : i ≤ s.size
  sz : s.size ≤ maxLen
theorem RdV.set {w : World} {br : Nat} {s : ByteArray} {i : Nat} (h : RdV w br s i) (j : Nat) (hj : j ≤ s.size) : RdV (w.setCell ⟨br, 1, none⟩ (.int .i64 j)) br s j :=
  ⟨(World.cell?_setCell_other _ _ _ _ (by simp)).trans h.c0, World.cell?_setCell_same' _ _ _ (by rw [h.c1]; rfl), fun o => by rw [World.frozen?_setCell]; exact h.fz o, hj, h.sz⟩

theorem RdV.drew {w : World} {br : Nat} {s : ByteArray} {i : Nat} (h : RdV w br s i) : RdV w.drew br s i := ⟨h.c0, h.c1, h.fz, h.le, h.sz⟩
theorem RdV.below {w w' : World} {br : Nat} {s : ByteArray} {i : Nat} (h : RdV w br s i) (hb : Below w.heap.size w w') : RdV w' br s i :=
  ⟨cell_thru hb h.c0, cell_thru hb h.c1, fun o => (hb.frozen (p := ⟨br, o, none⟩) (World.block_lt_of_cell? w ⟨br, 0, none⟩ h.c0)).trans (h.fz o), h.le, h.sz⟩
theorem takeG_len : ∀ (l : List Int) (g : Nat) (x v : Int) (m : Nat), W.takeG g x l = some (v, m) → g < m ∧ m ≤ g + l.length
  | [], g, x, v, m, h => by simp [W.takeG] at h
  | c :: r, g, x, v, m, h => by
    by_cases hb : (g = 9 ∧ 1 < c) ∨ (0 < g ∧ c = 0)
    · rw [W.takeG_no g x c r hb] at h; cases h
    · by_cases hc : c < 128
      · rw [W.takeG_last g x c r hb hc] at h
        simp at h
        simp only [List.length_cons]
        omega
      · rw [W.takeG_more g x c r hb (by omega)] at h
        have := takeG_len r (g + 1) _ v m h
        simp only [List.length_cons]
        omega

set_option maxRecDepth 100000 in
theorem piece_yes (s : ByteArray) (i n : Nat) (h : i + n ≤ s.size) (hs : s.size ≤ maxLen) (w : World) : Calls Tryd.prog 111 #[.string s, .int .i64 i, .int .i64 n] w fun e w' => e = .returned (.string (sub s i n)) ∧ w' = w := by
  have hs' : s.size ≤ 9223372036854775807 := by unfold maxLen at hs; omega
  have d0 : decide ((s.size : Int) - i < n) = false := by simp; omega
  go_enter Tryd.func111, Tryd.ntmps111
  go_wp2
  go_ret
  exact ⟨rfl, rfl⟩
set_option maxRecDepth 100000 in
theorem piece_no (s : ByteArray) (i n : Nat) (hi : i ≤ s.size) (h : s.size < i + n) (hn : n ≤ 1000000000) (hs : s.size ≤ maxLen) (w : World) : Calls Tryd.prog 111 #[.string s, .int .i64 i, .int .i64 n] w fun e w' => Fails e ∧ w' = w := by
  have hs' : s.size ≤ 9223372036854775807 := by unfold maxLen at hs; omega
  have d0 : decide ((s.size : Int) - i < n) = true := by simp; omega
  go_enter Tryd.func111, Tryd.ntmps111
  go_wp2
  exact ⟨rfl, ⟨_, rfl⟩, rfl⟩

set_option maxRecDepth 100000 in
theorem num_yes (s : ByteArray) (i : Nat) (hi : i ≤ s.size) (hs : s.size ≤ maxLen) (x : Int) (n : Nat) (h : W.takeG 0 0 (W.tail s i) = some (x, n)) (w : World) : Calls Tryd.prog 112 #[.string s, .int .i64 i] w fun e w' => e = .returned (.tuple #[.int .u64 x, .int .i64 (i + n : Nat)]) ∧ Below w.heap.size w w' := by
  have HT : Hid (W.take s i = (x, ((i + n : Nat) : Int), 0)) := by
    show _ = _
    unfold W.take
    rw [if_neg (by omega), Int.toNat_natCast, W.takeR_some s i x n h]
    simp
  go_enter Tryd.func112, Tryd.ntmps112
  go_wp2_with fail
  refine (take_any s i hs _).mono ?_
  rintro e w1 ⟨rfl, hb⟩
  rw [HT.out]
  go_wp2
  go_ret2
  exact ⟨rfl, hb⟩
set_option maxRecDepth 100000 in
theorem num_no (s : ByteArray) (i : Nat) (hi : i ≤ s.size) (hs : s.size ≤ maxLen) (h : W.takeG 0 0 (W.tail s i) = none) (w : World) : Calls Tryd.prog 112 #[.string s, .int .i64 i] w fun e w' => Fails e ∧ Below w.heap.size w w' := by
  have HT : Hid (W.take s i = (0, 0, 9)) := by
    show _ = _
    unfold W.take
    rw [if_neg (by omega), Int.toNat_natCast, W.takeR_none s i h]
  go_enter Tryd.func112, Tryd.ntmps112
  go_wp2_with fail
  refine (take_any s i hs _).mono ?_
  rintro e w1 ⟨rfl, hb⟩
  rw [HT.out]
  go_wp2
  exact ⟨rfl, ⟨_, rfl⟩, hb⟩

theorem gb_setO (w : World) (a : Addr) (u : Value) : w.grownBy (w.setCell a u) (some a.block) :=
  ⟨rfl, rfl, rfl, by rw [World.size_setCell]; exact Nat.le_refl _, fun k _ hk => Below.heap_setCell _ _ _ _ (fun e => hk (by rw [e]))⟩

set_option maxRecDepth 100000 in
set_option maxHeartbeats 1000000 in
theorem rtake_yes {w : World} {br : Nat} {s : ByteArray} {i : Nat} (h : RdV w br s i) (n : Nat) (hn : i + n ≤ s.size) :
    Calls Tryd.prog 101 #[.pointer (some ⟨br, 0, none⟩), .int .i64 n] w fun e w' => e = .returned (.string (sub s i n)) ∧ RdV w' br s (i + n) ∧ w.grownBy w' (some br) := by
  have c0 := h.c0
  have c1 := h.c1
  have z1 := h.fz 1
  have hi := h.le
  have HR : Hid _ := h
  have HS : Hid _ := h.sz
  have hs' : s.size ≤ 9223372036854775807 := by have := h.sz; unfold maxLen at this; omega
  clear h
  go_enter Tryd.func101, Tryd.ntmps101
  go_wp2_with fail
  refine wp_region_held_drew (S := (fun w' : World => w'.cell? ⟨br, 0, none⟩ = some (.string s) ∧ w'.cell? ⟨br, 1, none⟩ = some (.int .i64 i))) (by kernel_rfl) ⟨c0, c1⟩ (fun hHeld => ?_)
  refine wpAnyH_take (i := 0) (v := ?_) (get0 _ _) (by kernel_rfl) (by kernel_rfl) (by kernel_rfl) (fun _ _ _ h => h) (Or.inl ⟨by rfl, ?_⟩) (by assumption) ?_
  rotate_left
  · (intro w hSw; (try dsimp only at hSw); go_simp <;> with_reducible rfl)
  simp only [Act.put, List.setIfInBounds_toArray, List.set_cons_zero, List.set_cons_succ]
  refine wpAnyH_take (i := 1) (v := ?_) (get1 (get0 _ _)) (by kernel_rfl) (by kernel_rfl) (by kernel_rfl) (fun _ _ _ h => h) (Or.inl ⟨by rfl, ?_⟩) (by assumption) ?_
  rotate_left
  · (intro w hSw; (try dsimp only at hSw); go_simp <;> with_reducible rfl)
  simp only [Act.put, List.setIfInBounds_toArray, List.set_cons_zero, List.set_cons_succ]
  refine wpAnyH_take (i := 2) (v := ?_) (get1 (get1 (get0 _ _))) (by kernel_rfl) (by kernel_rfl) (by kernel_rfl) (fun _ _ _ h => h) (Or.inl ⟨by rfl, ?_⟩) (by assumption) ?_
  rotate_left
  · (intro w hSw; (try dsimp only at hSw); go_simp <;> with_reducible rfl)
  simp only [Act.put, List.setIfInBounds_toArray, List.set_cons_zero, List.set_cons_succ]
  refine wpAnyH_take (i := 3) (v := ?_) (get1 (get1 (get1 (get0 _ _)))) (by kernel_rfl) (by kernel_rfl) (by kernel_rfl) (fun _ _ _ h => h) (Or.inl ⟨by rfl, ?_⟩) (by assumption) ?_
  rotate_left
  · (intro w hSw; (try dsimp only at hSw); go_simp <;> with_reducible rfl)
  simp only [Act.put, List.setIfInBounds_toArray, List.set_cons_zero, List.set_cons_succ]
  refine wpAnyH_take (i := 4) (v := ?_) (get1 (get1 (get1 (get1 (get0 _ _))))) (by kernel_rfl) (by kernel_rfl) (by kernel_rfl) (fun _ _ _ h => h) (Or.inl ⟨by rfl, ?_⟩) (by assumption) ?_
  rotate_left
  · (intro w hSw; (try dsimp only at hSw); go_simp <;> with_reducible rfl)
  simp only [Act.put, List.setIfInBounds_toArray, List.set_cons_zero, List.set_cons_succ]
  refine wpAnyH_take (i := 5) (v := ?_) (get1 (get1 (get1 (get1 (get1 (get0 _ _)))))) (by kernel_rfl) (by kernel_rfl) (by kernel_rfl) (fun _ _ _ h => h) (Or.inl ⟨by rfl, ?_⟩) (by assumption) ?_
  rotate_left
  · (intro w hSw; (try dsimp only at hSw); go_simp <;> with_reducible rfl)
  simp only [Act.put, List.setIfInBounds_toArray, List.set_cons_zero, List.set_cons_succ]
  refine wpAnyH_take (i := 6) (v := ?_) (get1 (get1 (get1 (get1 (get1 (get1 (get0 _ _))))))) (by kernel_rfl) (by kernel_rfl) (by kernel_rfl) (fun _ _ _ h => h) (Or.inl ⟨by rfl, ?_⟩) (by assumption) ?_
  rotate_left
  · (intro w hSw; (try dsimp only at hSw); go_simp <;> with_reducible rfl)
  simp only [Act.put, List.setIfInBounds_toArray, List.set_cons_zero, List.set_cons_succ]
  refine wpAnyH_take (i := 7) (v := ?_) (get1 (get1 (get1 (get1 (get1 (get1 (get1 (get0 _ _)))))))) (by kernel_rfl) (by kernel_rfl) (by kernel_rfl) (fun _ _ _ h => h) (Or.inl ⟨by rfl, ?_⟩) (by assumption) ?_
  rotate_left
  · (intro w hSw; (try dsimp only at hSw); go_simp <;> with_reducible rfl)
  simp only [Act.put, List.setIfInBounds_toArray, List.set_cons_zero, List.set_cons_succ]
  refine wpAnyH_take (i := 8) (v := ?_) (get1 (get1 (get1 (get1 (get1 (get1 (get1 (get1 (get0 _ _))))))))) (by kernel_rfl) (by kernel_rfl) (by kernel_rfl) (fun _ _ _ h => h) (Or.inl ⟨by rfl, ?_⟩) (by assumption) ?_
  rotate_left
  · (intro w hSw; (try dsimp only at hSw); go_simp <;> with_reducible rfl)
  simp only [Act.put, List.setIfInBounds_toArray, List.set_cons_zero, List.set_cons_succ]
  refine wpAnyH_ready (rs := [9]) (by kernel_rfl) (by simp) ?_
  refine AllReadyH.cons (get1 (get1 (get1 (get1 (get1 (get1 (get1 (get1 (get1 (get0 _ _)))))))))) (fun K hK => ?_) AllReadyH.nil
  go_simp
  refine (piece_yes s i n hn HS.out _).mono ?_
  rintro e y1 ⟨rfl, rfl⟩
  have sy := hHeld
  clear hHeld
  try go_wp2_with fail
  refine hK.out _ _ sy (fun hHeld => ?_)
  clear hK K
  try simp only [Act.put, List.setIfInBounds_toArray, List.set_cons_zero, List.set_cons_succ]
  refine wpAnyH_take (i := 10) (v := ?_) (get1 (get1 (get1 (get1 (get1 (get1 (get1 (get1 (get1 (get1 (get0 _ _))))))))))) (by kernel_rfl) (by kernel_rfl) (by kernel_rfl) (fun _ _ _ h => h) (Or.inl ⟨by rfl, ?_⟩) (by assumption) ?_
  rotate_left
  · (intro w hSw; (try dsimp only at hSw); go_simp <;> with_reducible rfl)
  simp only [Act.put, List.setIfInBounds_toArray, List.set_cons_zero, List.set_cons_succ]
  refine wpAnyH_done (by kernel_rfl) ?_ _
  clear hHeld sy
  go_wp2
  go_ret
  have hg := gb_setO w ⟨br, 1, none⟩ (.int .i64 ((i + n : Nat) : Int))
  have hr := (HR.out.set (i + n) hn).drew
  simp only [Int.natCast_add] at hr hg
  exact ⟨rfl, hr, ⟨hg.os, hg.tape, hg.output, hg.size, hg.block⟩⟩

set_option maxRecDepth 100000 in
set_option maxHeartbeats 1000000 in
theorem rtake_no {w : World} {br : Nat} {s : ByteArray} {i : Nat} (h : RdV w br s i) (n : Nat) (hn : s.size < i + n) (hm : n ≤ 1000000000) :
    Calls Tryd.prog 101 #[.pointer (some ⟨br, 0, none⟩), .int .i64 n] w fun e w' => Fails e ∧ w.grownBy w' (some br) := by
  have c0 := h.c0
  have c1 := h.c1
  have z1 := h.fz 1
  have hi := h.le
  have HR : Hid _ := h
  have HS : Hid _ := h.sz
  have hs' : s.size ≤ 9223372036854775807 := by have := h.sz; unfold maxLen at this; omega
  clear h
  go_enter Tryd.func101, Tryd.ntmps101
  go_wp2_with fail
  refine wp_region_held_drew (S := (fun w' : World => w'.cell? ⟨br, 0, none⟩ = some (.string s) ∧ w'.cell? ⟨br, 1, none⟩ = some (.int .i64 i))) (by kernel_rfl) ⟨c0, c1⟩ (fun hHeld => ?_)
  refine wpAnyH_take (i := 0) (v := ?_) (get0 _ _) (by kernel_rfl) (by kernel_rfl) (by kernel_rfl) (fun _ _ _ h => h) (Or.inl ⟨by rfl, ?_⟩) (by assumption) ?_
  rotate_left
  · (intro w hSw; (try dsimp only at hSw); go_simp <;> with_reducible rfl)
  simp only [Act.put, List.setIfInBounds_toArray, List.set_cons_zero, List.set_cons_succ]
  refine wpAnyH_take (i := 1) (v := ?_) (get1 (get0 _ _)) (by kernel_rfl) (by kernel_rfl) (by kernel_rfl) (fun _ _ _ h => h) (Or.inl ⟨by rfl, ?_⟩) (by assumption) ?_
  rotate_left
  · (intro w hSw; (try dsimp only at hSw); go_simp <;> with_reducible rfl)
  simp only [Act.put, List.setIfInBounds_toArray, List.set_cons_zero, List.set_cons_succ]
  refine wpAnyH_take (i := 2) (v := ?_) (get1 (get1 (get0 _ _))) (by kernel_rfl) (by kernel_rfl) (by kernel_rfl) (fun _ _ _ h => h) (Or.inl ⟨by rfl, ?_⟩) (by assumption) ?_
  rotate_left
  · (intro w hSw; (try dsimp only at hSw); go_simp <;> with_reducible rfl)
  simp only [Act.put, List.setIfInBounds_toArray, List.set_cons_zero, List.set_cons_succ]
  refine wpAnyH_take (i := 3) (v := ?_) (get1 (get1 (get1 (get0 _ _)))) (by kernel_rfl) (by kernel_rfl) (by kernel_rfl) (fun _ _ _ h => h) (Or.inl ⟨by rfl, ?_⟩) (by assumption) ?_
  rotate_left
  · (intro w hSw; (try dsimp only at hSw); go_simp <;> with_reducible rfl)
  simp only [Act.put, List.setIfInBounds_toArray, List.set_cons_zero, List.set_cons_succ]
  refine wpAnyH_take (i := 4) (v := ?_) (get1 (get1 (get1 (get1 (get0 _ _))))) (by kernel_rfl) (by kernel_rfl) (by kernel_rfl) (fun _ _ _ h => h) (Or.inl ⟨by rfl, ?_⟩) (by assumption) ?_
  rotate_left
  · (intro w hSw; (try dsimp only at hSw); go_simp <;> with_reducible rfl)
  simp only [Act.put, List.setIfInBounds_toArray, List.set_cons_zero, List.set_cons_succ]
  refine wpAnyH_take (i := 5) (v := ?_) (get1 (get1 (get1 (get1 (get1 (get0 _ _)))))) (by kernel_rfl) (by kernel_rfl) (by kernel_rfl) (fun _ _ _ h => h) (Or.inl ⟨by rfl, ?_⟩) (by assumption) ?_
  rotate_left
  · (intro w hSw; (try dsimp only at hSw); go_simp <;> with_reducible rfl)
  simp only [Act.put, List.setIfInBounds_toArray, List.set_cons_zero, List.set_cons_succ]
  refine wpAnyH_take (i := 6) (v := ?_) (get1 (get1 (get1 (get1 (get1 (get1 (get0 _ _))))))) (by kernel_rfl) (by kernel_rfl) (by kernel_rfl) (fun _ _ _ h => h) (Or.inl ⟨by rfl, ?_⟩) (by assumption) ?_
  rotate_left
  · (intro w hSw; (try dsimp only at hSw); go_simp <;> with_reducible rfl)
  simp only [Act.put, List.setIfInBounds_toArray, List.set_cons_zero, List.set_cons_succ]
  refine wpAnyH_take (i := 7) (v := ?_) (get1 (get1 (get1 (get1 (get1 (get1 (get1 (get0 _ _)))))))) (by kernel_rfl) (by kernel_rfl) (by kernel_rfl) (fun _ _ _ h => h) (Or.inl ⟨by rfl, ?_⟩) (by assumption) ?_
  rotate_left
  · (intro w hSw; (try dsimp only at hSw); go_simp <;> with_reducible rfl)
  simp only [Act.put, List.setIfInBounds_toArray, List.set_cons_zero, List.set_cons_succ]
  refine wpAnyH_take (i := 8) (v := ?_) (get1 (get1 (get1 (get1 (get1 (get1 (get1 (get1 (get0 _ _))))))))) (by kernel_rfl) (by kernel_rfl) (by kernel_rfl) (fun _ _ _ h => h) (Or.inl ⟨by rfl, ?_⟩) (by assumption) ?_
  rotate_left
  · (intro w hSw; (try dsimp only at hSw); go_simp <;> with_reducible rfl)
  simp only [Act.put, List.setIfInBounds_toArray, List.set_cons_zero, List.set_cons_succ]
  refine wpAnyH_ready (rs := [9]) (by kernel_rfl) (by simp) ?_
  refine AllReadyH.cons (get1 (get1 (get1 (get1 (get1 (get1 (get1 (get1 (get1 (get0 _ _)))))))))) (fun K hK => ?_) AllReadyH.nil
  go_simp
  refine (piece_no s i n hi hn hm HS.out _).mono ?_
  rintro e y1 ⟨⟨c, rfl⟩, rfl⟩
  try go_wp2
  exact ⟨rfl, ⟨c, rfl⟩, ⟨rfl, rfl, rfl, Nat.le_refl _, fun _ _ _ => rfl⟩⟩

set_option maxRecDepth 100000 in
set_option maxHeartbeats 1000000 in
theorem rup_yes {w : World} {br : Nat} {s : ByteArray} {i : Nat} (h : RdV w br s i) (n : Nat) (hn : n ≤ 1000000000) (x : Int) (m : Nat) (hx : W.takeG 0 0 (W.tail s i) = some (x, m)) (hx0 : 0 ≤ x) (hxm : x ≤ n) :
    Calls Tryd.prog 102 #[.pointer (some ⟨br, 0, none⟩), .int .i64 n] w fun e w' => e = .returned (.int .i64 x) ∧ RdV w' br s (i + m) ∧ w.grownBy w' (some br) := by
  have c0 := h.c0
  have c1 := h.c1
  have hi := h.le
  have HR : Hid _ := h
  have HS : Hid _ := h.sz
  have HX : Hid _ := hx
  have hs' : s.size ≤ 9223372036854775807 := by have := h.sz; unfold maxLen at this; omega
  have hml : i + m ≤ s.size := by have := (takeG_len _ _ _ _ _ hx).2; have := W.tail_length s i; omega
  have d0 : decide ((n : Int) < x) = false := by simp; omega
  clear h hx
  go_enter Tryd.func102, Tryd.ntmps102
  go_wp2_with fail
  refine wp_region_held_drew (S := (fun w' : World => w'.cell? ⟨br, 0, none⟩ = some (.string s) ∧ w'.cell? ⟨br, 1, none⟩ = some (.int .i64 i))) (by kernel_rfl) ⟨c0, c1⟩ (fun hHeld => ?_)
  refine wpAnyH_take (i := 0) (v := ?_) (get0 _ _) (by kernel_rfl) (by kernel_rfl) (by kernel_rfl) (fun _ _ _ h => h) (Or.inl ⟨by rfl, ?_⟩) (by assumption) ?_
  rotate_left
  · (intro w hSw; (try dsimp only at hSw); go_simp <;> with_reducible rfl)
  simp only [Act.put, List.setIfInBounds_toArray, List.set_cons_zero, List.set_cons_succ]
  refine wpAnyH_take (i := 1) (v := ?_) (get1 (get0 _ _)) (by kernel_rfl) (by kernel_rfl) (by kernel_rfl) (fun _ _ _ h => h) (Or.inl ⟨by rfl, ?_⟩) (by assumption) ?_
  rotate_left
  · (intro w hSw; (try dsimp only at hSw); go_simp <;> with_reducible rfl)
  simp only [Act.put, List.setIfInBounds_toArray, List.set_cons_zero, List.set_cons_succ]
  refine wpAnyH_take (i := 2) (v := ?_) (get1 (get1 (get0 _ _))) (by kernel_rfl) (by kernel_rfl) (by kernel_rfl) (fun _ _ _ h => h) (Or.inl ⟨by rfl, ?_⟩) (by assumption) ?_
  rotate_left
  · (intro w hSw; (try dsimp only at hSw); go_simp <;> with_reducible rfl)
  simp only [Act.put, List.setIfInBounds_toArray, List.set_cons_zero, List.set_cons_succ]
  refine wpAnyH_take (i := 3) (v := ?_) (get1 (get1 (get1 (get0 _ _)))) (by kernel_rfl) (by kernel_rfl) (by kernel_rfl) (fun _ _ _ h => h) (Or.inl ⟨by rfl, ?_⟩) (by assumption) ?_
  rotate_left
  · (intro w hSw; (try dsimp only at hSw); go_simp <;> with_reducible rfl)
  simp only [Act.put, List.setIfInBounds_toArray, List.set_cons_zero, List.set_cons_succ]
  refine wpAnyH_take (i := 4) (v := ?_) (get1 (get1 (get1 (get1 (get0 _ _))))) (by kernel_rfl) (by kernel_rfl) (by kernel_rfl) (fun _ _ _ h => h) (Or.inl ⟨by rfl, ?_⟩) (by assumption) ?_
  rotate_left
  · (intro w hSw; (try dsimp only at hSw); go_simp <;> with_reducible rfl)
  simp only [Act.put, List.setIfInBounds_toArray, List.set_cons_zero, List.set_cons_succ]
  refine wpAnyH_take (i := 5) (v := ?_) (get1 (get1 (get1 (get1 (get1 (get0 _ _)))))) (by kernel_rfl) (by kernel_rfl) (by kernel_rfl) (fun _ _ _ h => h) (Or.inl ⟨by rfl, ?_⟩) (by assumption) ?_
  rotate_left
  · (intro w hSw; (try dsimp only at hSw); go_simp <;> with_reducible rfl)
  simp only [Act.put, List.setIfInBounds_toArray, List.set_cons_zero, List.set_cons_succ]
  refine wpAnyH_take (i := 6) (v := ?_) (get1 (get1 (get1 (get1 (get1 (get1 (get0 _ _))))))) (by kernel_rfl) (by kernel_rfl) (by kernel_rfl) (fun _ _ _ h => h) (Or.inl ⟨by rfl, ?_⟩) (by assumption) ?_
  rotate_left
  · (intro w hSw; (try dsimp only at hSw); go_simp <;> with_reducible rfl)
  simp only [Act.put, List.setIfInBounds_toArray, List.set_cons_zero, List.set_cons_succ]
  refine wpAnyH_take (i := 7) (v := ?_) (get1 (get1 (get1 (get1 (get1 (get1 (get1 (get0 _ _)))))))) (by kernel_rfl) (by kernel_rfl) (by kernel_rfl) (fun _ _ _ h => h) (Or.inl ⟨by rfl, ?_⟩) (by assumption) ?_
  rotate_left
  · (intro w hSw; (try dsimp only at hSw); go_simp <;> with_reducible rfl)
  simp only [Act.put, List.setIfInBounds_toArray, List.set_cons_zero, List.set_cons_succ]
  refine wpAnyH_ready (rs := [8]) (by kernel_rfl) (by simp) ?_
  refine AllReadyH.cons (get1 (get1 (get1 (get1 (get1 (get1 (get1 (get1 (get0 _ _))))))))) (fun K hK => ?_) AllReadyH.nil
  go_simp
  refine (num_yes s i hi HS.out x m HX.out _).mono ?_
  rintro e y1 ⟨rfl, hb1⟩
  have HR1 : Hid (RdV y1 br s i) := HR.out.drew.below hb1
  have sy : y1.cell? ⟨br, 0, none⟩ = some (.string s) ∧ y1.cell? ⟨br, 1, none⟩ = some (.int .i64 i) := ⟨HR1.out.c0, HR1.out.c1⟩
  clear hHeld
  try go_wp2_with fail
  refine hK.out _ _ sy (fun hHeld => ?_)
  clear hK K
  try simp only [Act.put, List.setIfInBounds_toArray, List.set_cons_zero, List.set_cons_succ]
  refine wpAnyH_take (i := 9) (v := ?_) (get1 (get1 (get1 (get1 (get1 (get1 (get1 (get1 (get1 (get0 _ _)))))))))) (by kernel_rfl) (by kernel_rfl) (by kernel_rfl) (fun _ _ _ h => h) (Or.inl ⟨by rfl, ?_⟩) (by assumption) ?_
  rotate_left
  · (intro w hSw; (try dsimp only at hSw); go_simp <;> with_reducible rfl)
  simp only [Act.put, List.setIfInBounds_toArray, List.set_cons_zero, List.set_cons_succ]
  refine wpAnyH_take (i := 10) (v := ?_) (get1 (get1 (get1 (get1 (get1 (get1 (get1 (get1 (get1 (get1 (get0 _ _))))))))))) (by kernel_rfl) (by kernel_rfl) (by kernel_rfl) (fun _ _ _ h => h) (Or.inl ⟨by rfl, ?_⟩) (by assumption) ?_
  rotate_left
  · (intro w hSw; (try dsimp only at hSw); go_simp <;> with_reducible rfl)
  simp only [Act.put, List.setIfInBounds_toArray, List.set_cons_zero, List.set_cons_succ]
  refine wpAnyH_take (i := 11) (v := ?_) (get1 (get1 (get1 (get1 (get1 (get1 (get1 (get1 (get1 (get1 (get1 (get0 _ _)))))))))))) (by kernel_rfl) (by kernel_rfl) (by kernel_rfl) (fun _ _ _ h => h) (Or.inl ⟨by rfl, ?_⟩) (by assumption) ?_
  rotate_left
  · (intro w hSw; (try dsimp only at hSw); go_simp <;> with_reducible rfl)
  simp only [Act.put, List.setIfInBounds_toArray, List.set_cons_zero, List.set_cons_succ]
  refine wpAnyH_take (i := 12) (v := ?_) (get1 (get1 (get1 (get1 (get1 (get1 (get1 (get1 (get1 (get1 (get1 (get1 (get0 _ _))))))))))))) (by kernel_rfl) (by kernel_rfl) (by kernel_rfl) (fun _ _ _ h => h) (Or.inl ⟨by rfl, ?_⟩) (by assumption) ?_
  rotate_left
  · (intro w hSw; (try dsimp only at hSw); go_simp <;> with_reducible rfl)
  simp only [Act.put, List.setIfInBounds_toArray, List.set_cons_zero, List.set_cons_succ]
  refine wpAnyH_take (i := 13) (v := ?_) (get1 (get1 (get1 (get1 (get1 (get1 (get1 (get1 (get1 (get1 (get1 (get1 (get1 (get0 _ _)))))))))))))) (by kernel_rfl) (by kernel_rfl) (by kernel_rfl) (fun _ _ _ h => h) (Or.inl ⟨by rfl, ?_⟩) (by assumption) ?_
  rotate_left
  · (intro w hSw; (try dsimp only at hSw); go_simp <;> with_reducible rfl)
  simp only [Act.put, List.setIfInBounds_toArray, List.set_cons_zero, List.set_cons_succ]
  refine wpAnyH_done (by kernel_rfl) ?_ _
  have j1 := HR1.out.c1
  have z1 := HR1.out.fz 1
  clear hHeld sy
  go_wp2
  go_ret
  have hg := gb_setO y1 ⟨br, 1, none⟩ (.int .i64 ((i + m : Nat) : Int))
  have hr := HR1.out.set (i + m) hml
  have gw : w.grownBy (y1.setCell ⟨br, 1, none⟩ (.int .i64 ((i + m : Nat) : Int))) (some br) := ⟨hg.os.trans hb1.os, hg.tape.trans hb1.tape, hg.output.trans hb1.output, Nat.le_trans hb1.size hg.size, fun k hk hne => (hg.block k (Nat.lt_of_lt_of_le hk hb1.size) hne).trans (hb1.block k hk)⟩
  simp only [Int.natCast_add] at hr gw
  exact ⟨rfl, hr, gw⟩

set_option maxRecDepth 100000 in
set_option maxHeartbeats 1000000 in
theorem rup_no {w : World} {br : Nat} {s : ByteArray} {i : Nat} (h : RdV w br s i) (n : Nat) (hn : n ≤ 1000000000) (hx : W.takeG 0 0 (W.tail s i) = none) :
    Calls Tryd.prog 102 #[.pointer (some ⟨br, 0, none⟩), .int .i64 n] w fun e w' => Fails e ∧ w.grownBy w' (some br) := by
  have c0 := h.c0
  have c1 := h.c1
  have hi := h.le
  have HR : Hid _ := h
  have HS : Hid _ := h.sz
  have HX : Hid _ := hx
  have hs' : s.size ≤ 9223372036854775807 := by have := h.sz; unfold maxLen at this; omega
  clear h hx
  go_enter Tryd.func102, Tryd.ntmps102
  go_wp2_with fail
  refine wp_region_held_drew (S := (fun w' : World => w'.cell? ⟨br, 0, none⟩ = some (.string s) ∧ w'.cell? ⟨br, 1, none⟩ = some (.int .i64 i))) (by kernel_rfl) ⟨c0, c1⟩ (fun hHeld => ?_)
  refine wpAnyH_take (i := 0) (v := ?_) (get0 _ _) (by kernel_rfl) (by kernel_rfl) (by kernel_rfl) (fun _ _ _ h => h) (Or.inl ⟨by rfl, ?_⟩) (by assumption) ?_
  rotate_left
  · (intro w hSw; (try dsimp only at hSw); go_simp <;> with_reducible rfl)
  simp only [Act.put, List.setIfInBounds_toArray, List.set_cons_zero, List.set_cons_succ]
  refine wpAnyH_take (i := 1) (v := ?_) (get1 (get0 _ _)) (by kernel_rfl) (by kernel_rfl) (by kernel_rfl) (fun _ _ _ h => h) (Or.inl ⟨by rfl, ?_⟩) (by assumption) ?_
  rotate_left
  · (intro w hSw; (try dsimp only at hSw); go_simp <;> with_reducible rfl)
  simp only [Act.put, List.setIfInBounds_toArray, List.set_cons_zero, List.set_cons_succ]
  refine wpAnyH_take (i := 2) (v := ?_) (get1 (get1 (get0 _ _))) (by kernel_rfl) (by kernel_rfl) (by kernel_rfl) (fun _ _ _ h => h) (Or.inl ⟨by rfl, ?_⟩) (by assumption) ?_
  rotate_left
  · (intro w hSw; (try dsimp only at hSw); go_simp <;> with_reducible rfl)
  simp only [Act.put, List.setIfInBounds_toArray, List.set_cons_zero, List.set_cons_succ]
  refine wpAnyH_take (i := 3) (v := ?_) (get1 (get1 (get1 (get0 _ _)))) (by kernel_rfl) (by kernel_rfl) (by kernel_rfl) (fun _ _ _ h => h) (Or.inl ⟨by rfl, ?_⟩) (by assumption) ?_
  rotate_left
  · (intro w hSw; (try dsimp only at hSw); go_simp <;> with_reducible rfl)
  simp only [Act.put, List.setIfInBounds_toArray, List.set_cons_zero, List.set_cons_succ]
  refine wpAnyH_take (i := 4) (v := ?_) (get1 (get1 (get1 (get1 (get0 _ _))))) (by kernel_rfl) (by kernel_rfl) (by kernel_rfl) (fun _ _ _ h => h) (Or.inl ⟨by rfl, ?_⟩) (by assumption) ?_
  rotate_left
  · (intro w hSw; (try dsimp only at hSw); go_simp <;> with_reducible rfl)
  simp only [Act.put, List.setIfInBounds_toArray, List.set_cons_zero, List.set_cons_succ]
  refine wpAnyH_take (i := 5) (v := ?_) (get1 (get1 (get1 (get1 (get1 (get0 _ _)))))) (by kernel_rfl) (by kernel_rfl) (by kernel_rfl) (fun _ _ _ h => h) (Or.inl ⟨by rfl, ?_⟩) (by assumption) ?_
  rotate_left
  · (intro w hSw; (try dsimp only at hSw); go_simp <;> with_reducible rfl)
  simp only [Act.put, List.setIfInBounds_toArray, List.set_cons_zero, List.set_cons_succ]
  refine wpAnyH_take (i := 6) (v := ?_) (get1 (get1 (get1 (get1 (get1 (get1 (get0 _ _))))))) (by kernel_rfl) (by kernel_rfl) (by kernel_rfl) (fun _ _ _ h => h) (Or.inl ⟨by rfl, ?_⟩) (by assumption) ?_
  rotate_left
  · (intro w hSw; (try dsimp only at hSw); go_simp <;> with_reducible rfl)
  simp only [Act.put, List.setIfInBounds_toArray, List.set_cons_zero, List.set_cons_succ]
  refine wpAnyH_take (i := 7) (v := ?_) (get1 (get1 (get1 (get1 (get1 (get1 (get1 (get0 _ _)))))))) (by kernel_rfl) (by kernel_rfl) (by kernel_rfl) (fun _ _ _ h => h) (Or.inl ⟨by rfl, ?_⟩) (by assumption) ?_
  rotate_left
  · (intro w hSw; (try dsimp only at hSw); go_simp <;> with_reducible rfl)
  simp only [Act.put, List.setIfInBounds_toArray, List.set_cons_zero, List.set_cons_succ]
  refine wpAnyH_ready (rs := [8]) (by kernel_rfl) (by simp) ?_
  refine AllReadyH.cons (get1 (get1 (get1 (get1 (get1 (get1 (get1 (get1 (get0 _ _))))))))) (fun K hK => ?_) AllReadyH.nil
  go_simp
  refine (num_no s i hi HS.out HX.out _).mono ?_
  rintro e y1 ⟨⟨c, rfl⟩, hb1⟩
  try go_wp2
  exact ⟨rfl, ⟨c, rfl⟩, ⟨hb1.os, hb1.tape, hb1.output, hb1.size, fun k hk _ => hb1.block k hk⟩⟩

set_option maxRecDepth 100000 in
set_option maxHeartbeats 1000000 in
theorem rup_big {w : World} {br : Nat} {s : ByteArray} {i : Nat} (h : RdV w br s i) (n : Nat) (hn : n ≤ 1000000000) (x : Int) (m : Nat) (hx : W.takeG 0 0 (W.tail s i) = some (x, m)) (hxm : (n : Int) < x) :
    Calls Tryd.prog 102 #[.pointer (some ⟨br, 0, none⟩), .int .i64 n] w fun e w' => Fails e ∧ w.grownBy w' (some br) := by
  have c0 := h.c0
  have c1 := h.c1
  have hi := h.le
  have HR : Hid _ := h
  have HS : Hid _ := h.sz
  have HX : Hid _ := hx
  have hs' : s.size ≤ 9223372036854775807 := by have := h.sz; unfold maxLen at this; omega
  have hml : i + m ≤ s.size := by have := (takeG_len _ _ _ _ _ hx).2; have := W.tail_length s i; omega
  have d0 : decide ((n : Int) < x) = true := by simp; omega
  clear h hx
  go_enter Tryd.func102, Tryd.ntmps102
  go_wp2_with fail
  refine wp_region_held_drew (S := (fun w' : World => w'.cell? ⟨br, 0, none⟩ = some (.string s) ∧ w'.cell? ⟨br, 1, none⟩ = some (.int .i64 i))) (by kernel_rfl) ⟨c0, c1⟩ (fun hHeld => ?_)
  refine wpAnyH_take (i := 0) (v := ?_) (get0 _ _) (by kernel_rfl) (by kernel_rfl) (by kernel_rfl) (fun _ _ _ h => h) (Or.inl ⟨by rfl, ?_⟩) (by assumption) ?_
  rotate_left
  · (intro w hSw; (try dsimp only at hSw); go_simp <;> with_reducible rfl)
  simp only [Act.put, List.setIfInBounds_toArray, List.set_cons_zero, List.set_cons_succ]
  refine wpAnyH_take (i := 1) (v := ?_) (get1 (get0 _ _)) (by kernel_rfl) (by kernel_rfl) (by kernel_rfl) (fun _ _ _ h => h) (Or.inl ⟨by rfl, ?_⟩) (by assumption) ?_
  rotate_left
  · (intro w hSw; (try dsimp only at hSw); go_simp <;> with_reducible rfl)
  simp only [Act.put, List.setIfInBounds_toArray, List.set_cons_zero, List.set_cons_succ]
  refine wpAnyH_take (i := 2) (v := ?_) (get1 (get1 (get0 _ _))) (by kernel_rfl) (by kernel_rfl) (by kernel_rfl) (fun _ _ _ h => h) (Or.inl ⟨by rfl, ?_⟩) (by assumption) ?_
  rotate_left
  · (intro w hSw; (try dsimp only at hSw); go_simp <;> with_reducible rfl)
  simp only [Act.put, List.setIfInBounds_toArray, List.set_cons_zero, List.set_cons_succ]
  refine wpAnyH_take (i := 3) (v := ?_) (get1 (get1 (get1 (get0 _ _)))) (by kernel_rfl) (by kernel_rfl) (by kernel_rfl) (fun _ _ _ h => h) (Or.inl ⟨by rfl, ?_⟩) (by assumption) ?_
  rotate_left
  · (intro w hSw; (try dsimp only at hSw); go_simp <;> with_reducible rfl)
  simp only [Act.put, List.setIfInBounds_toArray, List.set_cons_zero, List.set_cons_succ]
  refine wpAnyH_take (i := 4) (v := ?_) (get1 (get1 (get1 (get1 (get0 _ _))))) (by kernel_rfl) (by kernel_rfl) (by kernel_rfl) (fun _ _ _ h => h) (Or.inl ⟨by rfl, ?_⟩) (by assumption) ?_
  rotate_left
  · (intro w hSw; (try dsimp only at hSw); go_simp <;> with_reducible rfl)
  simp only [Act.put, List.setIfInBounds_toArray, List.set_cons_zero, List.set_cons_succ]
  refine wpAnyH_take (i := 5) (v := ?_) (get1 (get1 (get1 (get1 (get1 (get0 _ _)))))) (by kernel_rfl) (by kernel_rfl) (by kernel_rfl) (fun _ _ _ h => h) (Or.inl ⟨by rfl, ?_⟩) (by assumption) ?_
  rotate_left
  · (intro w hSw; (try dsimp only at hSw); go_simp <;> with_reducible rfl)
  simp only [Act.put, List.setIfInBounds_toArray, List.set_cons_zero, List.set_cons_succ]
  refine wpAnyH_take (i := 6) (v := ?_) (get1 (get1 (get1 (get1 (get1 (get1 (get0 _ _))))))) (by kernel_rfl) (by kernel_rfl) (by kernel_rfl) (fun _ _ _ h => h) (Or.inl ⟨by rfl, ?_⟩) (by assumption) ?_
  rotate_left
  · (intro w hSw; (try dsimp only at hSw); go_simp <;> with_reducible rfl)
  simp only [Act.put, List.setIfInBounds_toArray, List.set_cons_zero, List.set_cons_succ]
  refine wpAnyH_take (i := 7) (v := ?_) (get1 (get1 (get1 (get1 (get1 (get1 (get1 (get0 _ _)))))))) (by kernel_rfl) (by kernel_rfl) (by kernel_rfl) (fun _ _ _ h => h) (Or.inl ⟨by rfl, ?_⟩) (by assumption) ?_
  rotate_left
  · (intro w hSw; (try dsimp only at hSw); go_simp <;> with_reducible rfl)
  simp only [Act.put, List.setIfInBounds_toArray, List.set_cons_zero, List.set_cons_succ]
  refine wpAnyH_ready (rs := [8]) (by kernel_rfl) (by simp) ?_
  refine AllReadyH.cons (get1 (get1 (get1 (get1 (get1 (get1 (get1 (get1 (get0 _ _))))))))) (fun K hK => ?_) AllReadyH.nil
  go_simp
  refine (num_yes s i hi HS.out x m HX.out _).mono ?_
  rintro e y1 ⟨rfl, hb1⟩
  have HR1 : Hid (RdV y1 br s i) := HR.out.drew.below hb1
  have sy : y1.cell? ⟨br, 0, none⟩ = some (.string s) ∧ y1.cell? ⟨br, 1, none⟩ = some (.int .i64 i) := ⟨HR1.out.c0, HR1.out.c1⟩
  clear hHeld
  try go_wp2_with fail
  refine hK.out _ _ sy (fun hHeld => ?_)
  clear hK K
  try simp only [Act.put, List.setIfInBounds_toArray, List.set_cons_zero, List.set_cons_succ]
  refine wpAnyH_take (i := 9) (v := ?_) (get1 (get1 (get1 (get1 (get1 (get1 (get1 (get1 (get1 (get0 _ _)))))))))) (by kernel_rfl) (by kernel_rfl) (by kernel_rfl) (fun _ _ _ h => h) (Or.inl ⟨by rfl, ?_⟩) (by assumption) ?_
  rotate_left
  · (intro w hSw; (try dsimp only at hSw); go_simp <;> with_reducible rfl)
  simp only [Act.put, List.setIfInBounds_toArray, List.set_cons_zero, List.set_cons_succ]
  refine wpAnyH_take (i := 10) (v := ?_) (get1 (get1 (get1 (get1 (get1 (get1 (get1 (get1 (get1 (get1 (get0 _ _))))))))))) (by kernel_rfl) (by kernel_rfl) (by kernel_rfl) (fun _ _ _ h => h) (Or.inl ⟨by rfl, ?_⟩) (by assumption) ?_
  rotate_left
  · (intro w hSw; (try dsimp only at hSw); go_simp <;> with_reducible rfl)
  simp only [Act.put, List.setIfInBounds_toArray, List.set_cons_zero, List.set_cons_succ]
  refine wpAnyH_take (i := 11) (v := ?_) (get1 (get1 (get1 (get1 (get1 (get1 (get1 (get1 (get1 (get1 (get1 (get0 _ _)))))))))))) (by kernel_rfl) (by kernel_rfl) (by kernel_rfl) (fun _ _ _ h => h) (Or.inl ⟨by rfl, ?_⟩) (by assumption) ?_
  rotate_left
  · (intro w hSw; (try dsimp only at hSw); go_simp <;> with_reducible rfl)
  simp only [Act.put, List.setIfInBounds_toArray, List.set_cons_zero, List.set_cons_succ]
  refine wpAnyH_take (i := 12) (v := ?_) (get1 (get1 (get1 (get1 (get1 (get1 (get1 (get1 (get1 (get1 (get1 (get1 (get0 _ _))))))))))))) (by kernel_rfl) (by kernel_rfl) (by kernel_rfl) (fun _ _ _ h => h) (Or.inl ⟨by rfl, ?_⟩) (by assumption) ?_
  rotate_left
  · (intro w hSw; (try dsimp only at hSw); go_simp <;> with_reducible rfl)
  simp only [Act.put, List.setIfInBounds_toArray, List.set_cons_zero, List.set_cons_succ]
  refine wpAnyH_take (i := 13) (v := ?_) (get1 (get1 (get1 (get1 (get1 (get1 (get1 (get1 (get1 (get1 (get1 (get1 (get1 (get0 _ _)))))))))))))) (by kernel_rfl) (by kernel_rfl) (by kernel_rfl) (fun _ _ _ h => h) (Or.inl ⟨by rfl, ?_⟩) (by assumption) ?_
  rotate_left
  · (intro w hSw; (try dsimp only at hSw); go_simp <;> with_reducible rfl)
  simp only [Act.put, List.setIfInBounds_toArray, List.set_cons_zero, List.set_cons_succ]
  refine wpAnyH_done (by kernel_rfl) ?_ _
  have j1 := HR1.out.c1
  have z1 := HR1.out.fz 1
  clear hHeld sy
  go_wp2
  exact ⟨rfl, ⟨_, rfl⟩, ⟨hb1.os, hb1.tape, hb1.output, hb1.size, fun k hk _ => hb1.block k hk⟩⟩

end Go.Proofs.YtmplnkfjaeegdaaDoor

/- What the reader's calls come to. -/
namespace Go.Proofs.YtmplnkfjaeegdaaDoor
set_option maxRecDepth 100000
open Go.RowKit Go.Maps Go.Lib
set_option linter.unusedVariables false

/-- Readers: what is read at a place, and the place behind it; or that nothing is. -/
def rdTake (s : ByteArray) (i n : Nat) : Option (ByteArray × Nat) := if i + n ≤ s.size then some (sub s i n, i + n) else none
def rdUp (s : ByteArray) (i n : Nat) : Option (Int × Nat) := match W.takeG 0 0 (W.tail s i) with | some (x, m) => if x ≤ n then some (x, i + m) else none | none => none
def rdLong (s : ByteArray) (i : Nat) : Option (Int × Nat) := match rdTake s i 8 with | some (t, j) => some (W.numV t, j) | none => none
def rdName (s : ByteArray) (i : Nat) : Option (ByteArray × Nat) := match rdUp s i 28 with | some (x, j) => rdTake s j x.toNat | none => none

/-- How a reader's call ends. -/
def Reads {α : Type} (w : World) (br : Nat) (s : ByteArray) (f : Option (α × Nat)) (val : α → Value) (e : Ending) (w' : World) : Prop :=
  ((∃ a j, f = some (a, j) ∧ e = .returned (val a) ∧ RdV w' br s j) ∨ (f = none ∧ Fails e)) ∧ w.grownBy w' (some br)

theorem takeG_nonneg : ∀ (l : List Int) (g : Nat) (x v : Int) (m : Nat), (∀ c ∈ l, 0 ≤ c) → 0 ≤ x → W.takeG g x l = some (v, m) → 0 ≤ v
  | [], g, x, v, m, _, _, h => by simp [W.takeG] at h
  | c :: r, g, x, v, m, hc, hx, h => by
    have hc0 : 0 ≤ c := hc c (by simp)
    have hp : 0 ≤ c % 128 * 128 ^ g := Int.mul_nonneg (Int.emod_nonneg _ (by decide)) (Int.pow_nonneg (by decide))
    by_cases hb : (g = 9 ∧ 1 < c) ∨ (0 < g ∧ c = 0)
    · rw [W.takeG_no g x c r hb] at h; cases h
    · by_cases hl : c < 128
      · rw [W.takeG_last g x c r hb hl] at h
        simp at h
        omega
      · rw [W.takeG_more g x c r hb (by omega)] at h
        exact takeG_nonneg r (g + 1) _ v m (fun y hy => hc y (by simp [hy])) (by omega) h
theorem rdUp_nonneg {s : ByteArray} {i n : Nat} {x : Int} {j : Nat} (h : rdUp s i n = some (x, j)) : 0 ≤ x ∧ x ≤ n := by
  unfold rdUp at h
  split at h
  · next x' m hx =>
    split at h
    · next hle =>
      simp at h
      obtain ⟨rfl, rfl⟩ := h
      exact ⟨takeG_nonneg _ _ _ _ _ (fun c hc => (W.tail_bd s i c hc).1) (by decide) hx, hle⟩
    · cases h
  · cases h
theorem sub_size {s : ByteArray} {i n : Nat} (h : i + n ≤ s.size) : (sub s i n).size = n := by
  unfold sub
  rw [ByteArray.size_extract]
  omega

theorem rtake_any {w : World} {br : Nat} {s : ByteArray} {i : Nat} (h : RdV w br s i) (n : Nat) (hm : n ≤ 1000000000) :
    Calls Tryd.prog 101 #[.pointer (some ⟨br, 0, none⟩), .int .i64 n] w fun e w' => Reads w br s (rdTake s i n) Value.string e w' := by
  by_cases hn : i + n ≤ s.size
  · refine (rtake_yes h n hn).mono ?_
    rintro e w' ⟨rfl, hr, hg⟩
    exact ⟨.inl ⟨_, _, if_pos hn, rfl, hr⟩, hg⟩
  · refine (rtake_no h n (by omega) hm).mono ?_
    rintro e w' ⟨hf, hg⟩
    exact ⟨.inr ⟨if_neg hn, hf⟩, hg⟩
theorem rup_any {w : World} {br : Nat} {s : ByteArray} {i : Nat} (h : RdV w br s i) (n : Nat) (hm : n ≤ 1000000000) :
    Calls Tryd.prog 102 #[.pointer (some ⟨br, 0, none⟩), .int .i64 n] w fun e w' => Reads w br s (rdUp s i n) (Value.int .i64) e w' := by
  cases hx : W.takeG 0 0 (W.tail s i) with
  | none =>
    refine (rup_no h n hm hx).mono ?_
    rintro e w' ⟨hf, hg⟩
    exact ⟨.inr ⟨by unfold rdUp; rw [hx], hf⟩, hg⟩
  | some p =>
    obtain ⟨x, m⟩ := p
    by_cases hle : x ≤ n
    · refine (rup_yes h n hm x m hx (takeG_nonneg _ _ _ _ _ (fun c hc => (W.tail_bd s i c hc).1) (by decide) hx) hle).mono ?_
      rintro e w' ⟨rfl, hr, hg⟩
      exact ⟨.inl ⟨x, i + m, by unfold rdUp; rw [hx]; exact if_pos hle, rfl, hr⟩, hg⟩
    · refine (rup_big h n hm x m hx (by omega)).mono ?_
      rintro e w' ⟨hf, hg⟩
      exact ⟨.inr ⟨by unfold rdUp; rw [hx]; exact if_neg hle, hf⟩, hg⟩

theorem grown_trans {w w1 w2 : World} {br : Nat} (h : w.grownBy w1 (some br)) (k : w1.grownBy w2 (some br)) : w.grownBy w2 (some br) :=
  ⟨k.os.trans h.os, k.tape.trans h.tape, k.output.trans h.output, Nat.le_trans h.size k.size, fun j hj hne => (k.block j (Nat.lt_of_lt_of_le hj h.size) hne).trans (h.block j hj hne)⟩
theorem grown_below {w w1 w2 : World} {br : Nat} (h : w.grownBy w1 (some br)) (k : Below w1.heap.size w1 w2) : w.grownBy w2 (some br) :=
  grown_trans h ⟨k.os, k.tape, k.output, k.size, fun j hj _ => k.block j hj⟩

set_option maxRecDepth 100000 in
set_option maxHeartbeats 1000000 in
theorem rlong_any {w : World} {br : Nat} {s : ByteArray} {i : Nat} (h : RdV w br s i) :
    Calls Tryd.prog 103 #[.pointer (some ⟨br, 0, none⟩)] w fun e w' => Reads w br s (rdLong s i) (Value.int .i64) e w' := by
  have HR : Hid _ := h
  clear h
  go_enter Tryd.func103, Tryd.ntmps103
  go_wp2_with fail
  refine (rtake_any HR.out 8 (by decide)).mono ?_
  rintro e w1 ⟨⟨t, j, hf, rfl, hr⟩ | ⟨hf, c, rfl⟩, hg⟩
  · have hE : W.numE t = 0 := by
      unfold rdTake at hf
      split at hf
      · next hle =>
        simp at hf
        obtain ⟨rfl, rfl⟩ := hf
        unfold W.numE
        rw [sub_size hle]
        rfl
      · cases hf
    have HE : Hid _ := hE
    have HF : Hid (rdLong s i = some (W.numV t, j)) := by show _ = _; unfold rdLong; rw [hf]
    have HR1 : Hid _ := hr
    have HG : Hid _ := hg
    clear hE hf hr hg
    go_wp2_with fail
    refine (number_any t _).mono ?_
    rintro e w2 ⟨rfl, rfl⟩
    rw [HE.out]
    go_wp2
    go_ret
    exact ⟨.inl ⟨_, _, HF.out, rfl, HR1.out⟩, HG.out⟩
  · have HF : Hid (rdLong s i = none) := by show _ = _; unfold rdLong; rw [hf]
    clear hf
    go_wp2
    exact ⟨rfl, .inr ⟨HF.out, c, rfl⟩, hg⟩

set_option maxRecDepth 100000 in
set_option maxHeartbeats 1000000 in
theorem rname_any {w : World} {br : Nat} {s : ByteArray} {i : Nat} (h : RdV w br s i) :
    Calls Tryd.prog 113 #[.pointer (some ⟨br, 0, none⟩)] w fun e w' => Reads w br s (rdName s i) Value.string e w' := by
  have HR : Hid _ := h
  clear h
  go_enter Tryd.func113, Tryd.ntmps113
  go_wp2_with fail
  refine (rup_any HR.out 28 (by decide)).mono ?_
  rintro e w1 ⟨⟨x, j, hf, rfl, hr⟩ | ⟨hf, c, rfl⟩, hg⟩
  · obtain ⟨hx0, hx1⟩ := rdUp_nonneg hf
    obtain ⟨n, rfl⟩ : ∃ n : Nat, x = n := ⟨x.toNat, by omega⟩
    have HF : Hid (rdName s i = rdTake s j n) := by show _ = _; unfold rdName; rw [hf]; simp
    have HR1 : Hid _ := hr
    have HG : Hid _ := hg
    clear hf hr hg
    go_wp2_with fail
    refine (rtake_any HR1.out n (by omega)).mono ?_
    rintro e w2 ⟨⟨t, j2, hf2, rfl, hr2⟩ | ⟨hf2, c, rfl⟩, hg2⟩
    · have HF2 : Hid (rdName s i = some (t, j2)) := HF.out.trans hf2
      have HR2 : Hid _ := hr2
      have HG2 : Hid _ := grown_trans HG.out hg2
      clear hf2 hr2 hg2
      go_wp2
      go_ret
      exact ⟨.inl ⟨_, _, HF2.out, rfl, HR2.out⟩, HG2.out⟩
    · have HF2 : Hid (rdName s i = none) := HF.out.trans hf2
      have HG2 : Hid _ := grown_trans HG.out hg2
      clear hf2 hg2
      go_wp2
      exact ⟨rfl, .inr ⟨HF2.out, c, rfl⟩, HG2.out⟩
  · have HF : Hid (rdName s i = none) := by show _ = _; unfold rdName; rw [hf]
    clear hf
    go_wp2
    exact ⟨rfl, .inr ⟨HF.out, c, rfl⟩, hg⟩

end Go.Proofs.YtmplnkfjaeegdaaDoor

/- What the reader's kind comes to. -/
namespace Go.Proofs.YtmplnkfjaeegdaaDoor
set_option maxRecDepth 100000
open Go.RowKit Go.Maps Go.Lib
set_option linter.unusedVariables false

def rdKind (s : ByteArray) (i : Nat) : Option (Int × Nat) := match rdTake s i 1 with | some (t, j) => some ((nums t).getD 0 0, j) | none => none

set_option maxRecDepth 100000 in
set_option maxHeartbeats 1000000 in
theorem rkind_any {w : World} {br : Nat} {s : ByteArray} {i : Nat} (h : RdV w br s i) :
    Calls Tryd.prog 114 #[.pointer (some ⟨br, 0, none⟩)] w fun e w' => Reads w br s (rdKind s i) (Value.int .i64) e w' := by
  have HR : Hid _ := h
  clear h
  go_enter Tryd.func114, Tryd.ntmps114
  go_wp2_with fail
  refine (rtake_any HR.out 1 (by decide)).mono ?_
  rintro e w1 ⟨⟨t, j, hf, rfl, hr⟩ | ⟨hf, c, rfl⟩, hg⟩
  · have ht : t.size = 1 := by
      unfold rdTake at hf
      split at hf
      · next hle =>
        simp at hf
        obtain ⟨rfl, rfl⟩ := hf
        exact sub_size hle
      · cases hf
    have HF : Hid (rdKind s i = some ((nums t).getD 0 0, j)) := by show _ = _; unfold rdKind; rw [hf]
    have HNT : Hid ((nums t).getD 0 0 = (t[0].toNat : Int)) := by
      show _ = _
      unfold nums
      rw [W.tail_cons t 0 (by omega)]
      rfl
    have HR1 : Hid _ := hr
    have HG : Hid _ := hg
    have h0 : 0 < t.size := by omega
    clear hf hr hg
    go_wp2
    go_ret
    refine ⟨.inl ⟨_, _, HF.out, ?_, HR1.out⟩, HG.out⟩
    rw [HNT.out]
    have hw : wrap64 (t[0].toNat : Int) = (t[0].toNat : Int) := by have := t[0].toNat_lt; unfold wrap64; omega
    show Ending.returned (Value.int .i64 (wrap64 (t[0].toNat : Int))) = _
    rw [hw]
  · have HF : Hid (rdKind s i = none) := by show _ = _; unfold rdKind; rw [hf]
    clear hf
    go_wp2
    exact ⟨rfl, .inr ⟨HF.out, c, rfl⟩, hg⟩

end Go.Proofs.YtmplnkfjaeegdaaDoor

/- What the reader's sym and reloc come to. (Written by gen_symread.py.) -/
namespace Go.Proofs.YtmplnkfjaeegdaaDoor
set_option maxRecDepth 100000
open Go.RowKit Go.Maps Go.Lib
set_option linter.unusedVariables false

theorem RdV.lt {w : World} {br : Nat} {s : ByteArray} {i : Nat} (h : RdV w br s i) : br < w.heap.size := World.block_lt_of_cell? w ⟨br, 0, none⟩ h.c0
theorem RdV.far {w : World} {br : Nat} {s : ByteArray} {i : Nat} (h : RdV w br s i) (a : Addr) (v : Value) (hne : a.block ≠ br) : RdV (w.setCell a v) br s i :=
  ⟨(World.cell?_setCell_far _ _ _ _ hne).trans h.c0, (World.cell?_setCell_far _ _ _ _ hne).trans h.c1, fun o => by rw [World.frozen?_setCell]; exact h.fz o, h.le, h.sz⟩
theorem grown_far {w x : World} {br : Nat} (h : w.grownBy x (some br)) (a : Addr) (v : Value) (ha : w.heap.size ≤ a.block) : w.grownBy (x.setCell a v) (some br) :=
  ⟨h.os, h.tape, h.output, by rw [World.size_setCell]; exact h.size, fun k hk hne => (Below.heap_setCell _ _ _ _ (by omega)).trans (h.block k hk hne)⟩
theorem grown_cell {w x : World} {br b o : Nat} {v : Value} (h : w.grownBy x (some br)) (hc : w.cell? ⟨b, o, none⟩ = some v) (hne : b ≠ br) : x.cell? ⟨b, o, none⟩ = some v := h.cell hc (by simpa using hne)
theorem grown_froz {w x : World} {br b o : Nat} (h : w.grownBy x (some br)) (hb : b < w.heap.size) (hne : b ≠ br) (hf : w.frozen? ⟨b, o, none⟩ = false) : x.frozen? ⟨b, o, none⟩ = false := (h.frozen_far ⟨b, o, none⟩ hb (by simpa using hne)).trans hf

def Cells (x : World) (b : Nat) (vs : List Value) : Prop := ∀ j u, vs[j]? = some u → x.cell? ⟨b, j, none⟩ = some u
/-- The call's two blocks, beside the reader. -/
structure Bx (w x : World) (br : Nat) (s : ByteArray) (i : Nat) (vs rs : List Value) : Prop where
  rd : RdV x br s i
  g : w.grownBy x (some br)
  a : Cells x (w.heap.size + 1) vs
  r : Cells x w.heap.size rs
  az : ∀ o, x.frozen? ⟨w.heap.size + 1, o, none⟩ = false
  rz : ∀ o, x.frozen? ⟨w.heap.size, o, none⟩ = false
  sz : w.heap.size + 2 ≤ x.heap.size
  lt : br < w.heap.size
theorem Bx.call {w x y : World} {br : Nat} {s : ByteArray} {i j : Nat} {vs rs : List Value} (h : Bx w x br s i vs rs) (hr : RdV y br s j) (hg : x.grownBy y (some br)) : Bx w y br s j vs rs :=
  have hl := h.lt
  have hz := h.sz
  ⟨hr, grown_trans h.g hg, fun k u hu => grown_cell hg (h.a k u hu) (by omega), fun k u hu => grown_cell hg (h.r k u hu) (by omega), fun o => grown_froz hg (by omega) (by omega) (h.az o), fun o => grown_froz hg (by omega) (by omega) (h.rz o), Nat.le_trans h.sz hg.size, h.lt⟩
theorem Bx.put {w x : World} {br : Nat} {s : ByteArray} {i : Nat} {vs rs : List Value} (h : Bx w x br s i vs rs) (k : Nat) (hk : k < vs.length) (u : Value) : Bx w (x.setCell ⟨w.heap.size + 1, k, none⟩ u) br s i (vs.set k u) rs :=
  have hl := h.lt
  ⟨h.rd.far _ _ (by show w.heap.size + 1 ≠ br; omega), grown_far h.g _ _ (by show w.heap.size ≤ w.heap.size + 1; omega), fun j v hv => by
    by_cases e : k = j
    · subst e
      rw [List.getElem?_set_self hk] at hv
      cases hv
      refine World.cell?_setCell_same' _ _ _ ?_
      rw [h.a k vs[k] (by simp [hk])]
      rfl
    · rw [List.getElem?_set_ne e] at hv
      rw [World.cell?_setCell_other _ _ _ _ (fun e' => e (by have := congrArg Addr.off e'; simpa using this))]
      exact h.a j v hv, fun j v hv => (World.cell?_setCell_far _ _ _ _ (by show w.heap.size + 1 ≠ w.heap.size; omega)).trans (h.r j v hv), fun o => by rw [World.frozen?_setCell]; exact h.az o, fun o => by rw [World.frozen?_setCell]; exact h.rz o, by rw [World.size_setCell]; exact h.sz, h.lt⟩

def rdSym (s : ByteArray) (i : Nat) : Option (Sym × Nat) := match rdName s i with
  | some (nm, j) => match rdKind s j with
    | some (kd, k) => match rdUp s k 65536 with
      | some (ps, l) => some (⟨nm, kd, ps⟩, l)
      | none => none
    | none => none
  | none => none
def rdRel (s : ByteArray) (i : Nat) : Option (Rel × Nat) := match rdUp s i 65536 with
  | some (ps, j) => match rdKind s j with
    | some (kd, k) => match rdName s k with
      | some (nm, l) => match rdLong s l with
        | some (ad, m) => some (⟨ps, kd, nm, ad⟩, m)
        | none => none
      | none => none
    | none => none
  | none => none
def symV (x : Sym) : Value := .agg #[.string x.name, .int .i64 x.kind, .int .i64 x.pos]
def relV (x : Rel) : Value := .agg #[.int .i64 x.pos, .int .i64 x.kind, .string x.name, .int .i64 x.add]

set_option maxRecDepth 100000 in
set_option maxHeartbeats 2000000 in
theorem rsym_any {w : World} {br : Nat} {s : ByteArray} {i : Nat} (h : RdV w br s i) :
    Calls Tryd.prog 104 #[.pointer (some ⟨br, 0, none⟩)] w fun e w' => Reads w br s (rdSym s i) symV e w' := by
  have hbr := h.lt
  obtain ⟨W1, hW1⟩ : ∃ W1, w.alloc (.cells #[.string { data := #[] }, .int .i64 0, .int .i64 0] 66) = W1 := ⟨_, rfl⟩
  have s1 : W1.heap.size = w.heap.size + 1 := by subst hW1; simp
  have b1 : Below w.heap.size w W1 := by subst hW1; exact bl_one _ _
  obtain ⟨W2, hW2⟩ : ∃ W2, W1.alloc (.cells #[.string { data := #[] }, .int .i64 0, .int .i64 0] 66) = W2 := ⟨_, rfl⟩
  have b2 : Below W1.heap.size W1 W2 := by subst hW2; exact bl_one _ _
  have s2 : W2.heap.size = w.heap.size + 1 + 1 := by subst hW2; simp; omega
  have r0 : W2.cell? ⟨w.heap.size, 0, none⟩ = some (.string { data := #[] }) := by subst hW2; rw [World.cell?_alloc_past _ _ _ (by omega)]; subst hW1; exact cell_last rfl rfl
  have a0 : W2.cell? ⟨w.heap.size + 1, 0, none⟩ = some (.string { data := #[] }) := by subst hW2; exact cell_last s1.symm rfl
  have r1 : W2.cell? ⟨w.heap.size, 1, none⟩ = some (.int .i64 0) := by subst hW2; rw [World.cell?_alloc_past _ _ _ (by omega)]; subst hW1; exact cell_last rfl rfl
  have a1 : W2.cell? ⟨w.heap.size + 1, 1, none⟩ = some (.int .i64 0) := by subst hW2; exact cell_last s1.symm rfl
  have r2 : W2.cell? ⟨w.heap.size, 2, none⟩ = some (.int .i64 0) := by subst hW2; rw [World.cell?_alloc_past _ _ _ (by omega)]; subst hW1; exact cell_last rfl rfl
  have a2 : W2.cell? ⟨w.heap.size + 1, 2, none⟩ = some (.int .i64 0) := by subst hW2; exact cell_last s1.symm rfl
  have rz : ∀ o, W2.frozen? ⟨w.heap.size, o, none⟩ = false := fun o => by subst hW2; rw [World.frozen?_alloc_past _ _ _ (by omega)]; subst hW1; exact World.frozen?_alloc_at _ _ _ _ rfl
  have az : ∀ o, W2.frozen? ⟨w.heap.size + 1, o, none⟩ = false := fun o => by subst hW2; exact World.frozen?_alloc_at _ _ _ _ s1.symm
  have b12 : Below w.heap.size w W2 := b1.trans (b2.mono (by omega))
  have HR : Hid (RdV W2 br s i) := h.below b12
  have HG : Hid (w.grownBy W2 (some br)) := ⟨b12.os, b12.tape, b12.output, b12.size, fun k hk _ => b12.block k hk⟩
  have n0 : w.heap.size ≠ br := by omega
  have n1 : w.heap.size + 1 ≠ br := by omega
  have HCA : Cells W2 (w.heap.size + 1) [.string { data := #[] }, .int .i64 0, .int .i64 0] := fun j u hu => by
    match j, hu with
    | 0, hu => cases hu; exact a0
    | 1, hu => cases hu; exact a1
    | 2, hu => cases hu; exact a2
    | j + 3, hu => simp at hu
  have HCR : Cells W2 w.heap.size [.string { data := #[] }, .int .i64 0, .int .i64 0] := fun j u hu => by
    match j, hu with
    | 0, hu => cases hu; exact r0
    | 1, hu => cases hu; exact r1
    | 2, hu => cases hu; exact r2
    | j + 3, hu => simp at hu
  have HB : Hid (Bx w W2 br s i [.string { data := #[] }, .int .i64 0, .int .i64 0] [.string { data := #[] }, .int .i64 0, .int .i64 0]) := ⟨HR.out, HG.out, HCA, HCR, az, rz, by omega, hbr⟩
  clear h b1 b2 b12 HR HG az rz a0 r0 a1 r1 a2 r2 HCA HCR s2
  go_enter Tryd.func104, Tryd.ntmps104
  go_wp2_with fail
  refine (rname_any HB.out.rd).mono ?_
  rintro e y0 ⟨⟨nm, j0, hf, rfl, hr⟩ | ⟨hf, c, rfl⟩, hg⟩
  rotate_left
  · have HF : Hid (rdSym s i = none) := by show _ = _; simp only [rdSym, hf]
    have HGG : Hid _ := grown_trans HB.out.g hg
    clear hf hg
    go_wp2
    exact ⟨rfl, .inr ⟨HF.out, c, rfl⟩, HGG.out⟩
  have F0 : Hid _ := hf
  have HBy : Hid _ := HB.out.call hr hg
  have q := HBy.out.a 0 (.string { data := #[] }) rfl
  have z := HBy.out.az 0
  obtain ⟨Y0, hY0⟩ : ∃ Y, y0.setCell ⟨w.heap.size + 1, 0, none⟩ (.string nm) = Y := ⟨_, rfl⟩
  have hp := HBy.out.put 0 (by simp) (.string nm)
  rw [hY0] at hp
  have HB : Hid (Bx w Y0 br s j0 [.string nm, .int .i64 0, .int .i64 0] [.string { data := #[] }, .int .i64 0, .int .i64 0]) := hp
  clear hf hr hg hp
  go_wp2_with fail
  clear q z
  refine (rkind_any HB.out.rd).mono ?_
  rintro e y1 ⟨⟨kd, j1, hf, rfl, hr⟩ | ⟨hf, c, rfl⟩, hg⟩
  rotate_left
  · have HF : Hid (rdSym s i = none) := by show _ = _; simp only [rdSym, F0.out, hf]
    have HGG : Hid _ := grown_trans HB.out.g hg
    clear hf hg
    go_wp2
    exact ⟨rfl, .inr ⟨HF.out, c, rfl⟩, HGG.out⟩
  have F1 : Hid _ := hf
  have HBy : Hid _ := HB.out.call hr hg
  have q := HBy.out.a 1 (.int .i64 0) rfl
  have z := HBy.out.az 1
  obtain ⟨Y1, hY1⟩ : ∃ Y, y1.setCell ⟨w.heap.size + 1, 1, none⟩ (.int .i64 kd) = Y := ⟨_, rfl⟩
  have hp := HBy.out.put 1 (by simp) (.int .i64 kd)
  rw [hY1] at hp
  have HB : Hid (Bx w Y1 br s j1 [.string nm, .int .i64 kd, .int .i64 0] [.string { data := #[] }, .int .i64 0, .int .i64 0]) := hp
  clear hf hr hg hp
  go_wp2_with fail
  clear q z
  refine (rup_any HB.out.rd 65536 (by decide)).mono ?_
  rintro e y2 ⟨⟨ps, j2, hf, rfl, hr⟩ | ⟨hf, c, rfl⟩, hg⟩
  rotate_left
  · have HF : Hid (rdSym s i = none) := by show _ = _; simp only [rdSym, F0.out, F1.out, hf]
    have HGG : Hid _ := grown_trans HB.out.g hg
    clear hf hg
    go_wp2
    exact ⟨rfl, .inr ⟨HF.out, c, rfl⟩, HGG.out⟩
  have F2 : Hid _ := hf
  have HBy : Hid _ := HB.out.call hr hg
  have q := HBy.out.a 2 (.int .i64 0) rfl
  have z := HBy.out.az 2
  obtain ⟨Y2, hY2⟩ : ∃ Y, y2.setCell ⟨w.heap.size + 1, 2, none⟩ (.int .i64 ps) = Y := ⟨_, rfl⟩
  have hp := HBy.out.put 2 (by simp) (.int .i64 ps)
  rw [hY2] at hp
  have HB : Hid (Bx w Y2 br s j2 [.string nm, .int .i64 kd, .int .i64 ps] [.string { data := #[] }, .int .i64 0, .int .i64 0]) := hp
  clear hf hr hg hp
  have p0 := HB.out.a 0 (.string nm) rfl
  have o0 := HB.out.r 0 (.string { data := #[] }) rfl
  have w0 := HB.out.rz 0
  have p1 := HB.out.a 1 (.int .i64 kd) rfl
  have o1 := HB.out.r 1 (.int .i64 0) rfl
  have w1 := HB.out.rz 1
  have p2 := HB.out.a 2 (.int .i64 ps) rfl
  have o2 := HB.out.r 2 (.int .i64 0) rfl
  have w2 := HB.out.rz 2
  have HF : Hid (rdSym s i = some (⟨nm, kd, ps⟩, j2)) := by show _ = _; simp only [rdSym, F0.out, F1.out, F2.out]
  have HRF : Hid _ := HB.out.rd
  have HGF : Hid _ := HB.out.g
  go_wp2
  refine bodyPost_ret (v := symV ⟨nm, kd, ps⟩) (by simp [results, Tryd.results104, go_sem, symV, o0, o1, o2]) rfl ?_
  refine ⟨.inl ⟨_, _, HF.out, rfl, RdV.far (RdV.far (RdV.far (HRF.out) _ _ n0) _ _ n0) _ _ n0⟩, grown_far (grown_far (grown_far (HGF.out) _ _ (Nat.le_refl _)) _ _ (Nat.le_refl _)) _ _ (Nat.le_refl _)⟩

set_option maxRecDepth 100000 in
set_option maxHeartbeats 2000000 in
theorem rrel_any {w : World} {br : Nat} {s : ByteArray} {i : Nat} (h : RdV w br s i) :
    Calls Tryd.prog 105 #[.pointer (some ⟨br, 0, none⟩)] w fun e w' => Reads w br s (rdRel s i) relV e w' := by
  have hbr := h.lt
  obtain ⟨W1, hW1⟩ : ∃ W1, w.alloc (.cells #[.int .i64 0, .int .i64 0, .string { data := #[] }, .int .i64 0] 156) = W1 := ⟨_, rfl⟩
  have s1 : W1.heap.size = w.heap.size + 1 := by subst hW1; simp
  have b1 : Below w.heap.size w W1 := by subst hW1; exact bl_one _ _
  obtain ⟨W2, hW2⟩ : ∃ W2, W1.alloc (.cells #[.int .i64 0, .int .i64 0, .string { data := #[] }, .int .i64 0] 156) = W2 := ⟨_, rfl⟩
  have b2 : Below W1.heap.size W1 W2 := by subst hW2; exact bl_one _ _
  have s2 : W2.heap.size = w.heap.size + 1 + 1 := by subst hW2; simp; omega
  have r0 : W2.cell? ⟨w.heap.size, 0, none⟩ = some (.int .i64 0) := by subst hW2; rw [World.cell?_alloc_past _ _ _ (by omega)]; subst hW1; exact cell_last rfl rfl
  have a0 : W2.cell? ⟨w.heap.size + 1, 0, none⟩ = some (.int .i64 0) := by subst hW2; exact cell_last s1.symm rfl
  have r1 : W2.cell? ⟨w.heap.size, 1, none⟩ = some (.int .i64 0) := by subst hW2; rw [World.cell?_alloc_past _ _ _ (by omega)]; subst hW1; exact cell_last rfl rfl
  have a1 : W2.cell? ⟨w.heap.size + 1, 1, none⟩ = some (.int .i64 0) := by subst hW2; exact cell_last s1.symm rfl
  have r2 : W2.cell? ⟨w.heap.size, 2, none⟩ = some (.string { data := #[] }) := by subst hW2; rw [World.cell?_alloc_past _ _ _ (by omega)]; subst hW1; exact cell_last rfl rfl
  have a2 : W2.cell? ⟨w.heap.size + 1, 2, none⟩ = some (.string { data := #[] }) := by subst hW2; exact cell_last s1.symm rfl
  have r3 : W2.cell? ⟨w.heap.size, 3, none⟩ = some (.int .i64 0) := by subst hW2; rw [World.cell?_alloc_past _ _ _ (by omega)]; subst hW1; exact cell_last rfl rfl
  have a3 : W2.cell? ⟨w.heap.size + 1, 3, none⟩ = some (.int .i64 0) := by subst hW2; exact cell_last s1.symm rfl
  have rz : ∀ o, W2.frozen? ⟨w.heap.size, o, none⟩ = false := fun o => by subst hW2; rw [World.frozen?_alloc_past _ _ _ (by omega)]; subst hW1; exact World.frozen?_alloc_at _ _ _ _ rfl
  have az : ∀ o, W2.frozen? ⟨w.heap.size + 1, o, none⟩ = false := fun o => by subst hW2; exact World.frozen?_alloc_at _ _ _ _ s1.symm
  have b12 : Below w.heap.size w W2 := b1.trans (b2.mono (by omega))
  have HR : Hid (RdV W2 br s i) := h.below b12
  have HG : Hid (w.grownBy W2 (some br)) := ⟨b12.os, b12.tape, b12.output, b12.size, fun k hk _ => b12.block k hk⟩
  have n0 : w.heap.size ≠ br := by omega
  have n1 : w.heap.size + 1 ≠ br := by omega
  have HCA : Cells W2 (w.heap.size + 1) [.int .i64 0, .int .i64 0, .string { data := #[] }, .int .i64 0] := fun j u hu => by
    match j, hu with
    | 0, hu => cases hu; exact a0
    | 1, hu => cases hu; exact a1
    | 2, hu => cases hu; exact a2
    | 3, hu => cases hu; exact a3
    | j + 4, hu => simp at hu
  have HCR : Cells W2 w.heap.size [.int .i64 0, .int .i64 0, .string { data := #[] }, .int .i64 0] := fun j u hu => by
    match j, hu with
    | 0, hu => cases hu; exact r0
    | 1, hu => cases hu; exact r1
    | 2, hu => cases hu; exact r2
    | 3, hu => cases hu; exact r3
    | j + 4, hu => simp at hu
  have HB : Hid (Bx w W2 br s i [.int .i64 0, .int .i64 0, .string { data := #[] }, .int .i64 0] [.int .i64 0, .int .i64 0, .string { data := #[] }, .int .i64 0]) := ⟨HR.out, HG.out, HCA, HCR, az, rz, by omega, hbr⟩
  clear h b1 b2 b12 HR HG az rz a0 r0 a1 r1 a2 r2 a3 r3 HCA HCR s2
  go_enter Tryd.func105, Tryd.ntmps105
  go_wp2_with fail
  refine (rup_any HB.out.rd 65536 (by decide)).mono ?_
  rintro e y0 ⟨⟨ps, j0, hf, rfl, hr⟩ | ⟨hf, c, rfl⟩, hg⟩
  rotate_left
  · have HF : Hid (rdRel s i = none) := by show _ = _; simp only [rdRel, hf]
    have HGG : Hid _ := grown_trans HB.out.g hg
    clear hf hg
    go_wp2
    exact ⟨rfl, .inr ⟨HF.out, c, rfl⟩, HGG.out⟩
  have F0 : Hid _ := hf
  have HBy : Hid _ := HB.out.call hr hg
  have q := HBy.out.a 0 (.int .i64 0) rfl
  have z := HBy.out.az 0
  obtain ⟨Y0, hY0⟩ : ∃ Y, y0.setCell ⟨w.heap.size + 1, 0, none⟩ (.int .i64 ps) = Y := ⟨_, rfl⟩
  have hp := HBy.out.put 0 (by simp) (.int .i64 ps)
  rw [hY0] at hp
  have HB : Hid (Bx w Y0 br s j0 [.int .i64 ps, .int .i64 0, .string { data := #[] }, .int .i64 0] [.int .i64 0, .int .i64 0, .string { data := #[] }, .int .i64 0]) := hp
  clear hf hr hg hp
  go_wp2_with fail
  clear q z
  refine (rkind_any HB.out.rd).mono ?_
  rintro e y1 ⟨⟨kd, j1, hf, rfl, hr⟩ | ⟨hf, c, rfl⟩, hg⟩
  rotate_left
  · have HF : Hid (rdRel s i = none) := by show _ = _; simp only [rdRel, F0.out, hf]
    have HGG : Hid _ := grown_trans HB.out.g hg
    clear hf hg
    go_wp2
    exact ⟨rfl, .inr ⟨HF.out, c, rfl⟩, HGG.out⟩
  have F1 : Hid _ := hf
  have HBy : Hid _ := HB.out.call hr hg
  have q := HBy.out.a 1 (.int .i64 0) rfl
  have z := HBy.out.az 1
  obtain ⟨Y1, hY1⟩ : ∃ Y, y1.setCell ⟨w.heap.size + 1, 1, none⟩ (.int .i64 kd) = Y := ⟨_, rfl⟩
  have hp := HBy.out.put 1 (by simp) (.int .i64 kd)
  rw [hY1] at hp
  have HB : Hid (Bx w Y1 br s j1 [.int .i64 ps, .int .i64 kd, .string { data := #[] }, .int .i64 0] [.int .i64 0, .int .i64 0, .string { data := #[] }, .int .i64 0]) := hp
  clear hf hr hg hp
  go_wp2_with fail
  clear q z
  refine (rname_any HB.out.rd).mono ?_
  rintro e y2 ⟨⟨nm, j2, hf, rfl, hr⟩ | ⟨hf, c, rfl⟩, hg⟩
  rotate_left
  · have HF : Hid (rdRel s i = none) := by show _ = _; simp only [rdRel, F0.out, F1.out, hf]
    have HGG : Hid _ := grown_trans HB.out.g hg
    clear hf hg
    go_wp2
    exact ⟨rfl, .inr ⟨HF.out, c, rfl⟩, HGG.out⟩
  have F2 : Hid _ := hf
  have HBy : Hid _ := HB.out.call hr hg
  have q := HBy.out.a 2 (.string { data := #[] }) rfl
  have z := HBy.out.az 2
  obtain ⟨Y2, hY2⟩ : ∃ Y, y2.setCell ⟨w.heap.size + 1, 2, none⟩ (.string nm) = Y := ⟨_, rfl⟩
  have hp := HBy.out.put 2 (by simp) (.string nm)
  rw [hY2] at hp
  have HB : Hid (Bx w Y2 br s j2 [.int .i64 ps, .int .i64 kd, .string nm, .int .i64 0] [.int .i64 0, .int .i64 0, .string { data := #[] }, .int .i64 0]) := hp
  clear hf hr hg hp
  go_wp2_with fail
  clear q z
  refine (rlong_any HB.out.rd).mono ?_
  rintro e y3 ⟨⟨ad, j3, hf, rfl, hr⟩ | ⟨hf, c, rfl⟩, hg⟩
  rotate_left
  · have HF : Hid (rdRel s i = none) := by show _ = _; simp only [rdRel, F0.out, F1.out, F2.out, hf]
    have HGG : Hid _ := grown_trans HB.out.g hg
    clear hf hg
    go_wp2
    exact ⟨rfl, .inr ⟨HF.out, c, rfl⟩, HGG.out⟩
  have F3 : Hid _ := hf
  have HBy : Hid _ := HB.out.call hr hg
  have q := HBy.out.a 3 (.int .i64 0) rfl
  have z := HBy.out.az 3
  obtain ⟨Y3, hY3⟩ : ∃ Y, y3.setCell ⟨w.heap.size + 1, 3, none⟩ (.int .i64 ad) = Y := ⟨_, rfl⟩
  have hp := HBy.out.put 3 (by simp) (.int .i64 ad)
  rw [hY3] at hp
  have HB : Hid (Bx w Y3 br s j3 [.int .i64 ps, .int .i64 kd, .string nm, .int .i64 ad] [.int .i64 0, .int .i64 0, .string { data := #[] }, .int .i64 0]) := hp
  clear hf hr hg hp
  have p0 := HB.out.a 0 (.int .i64 ps) rfl
  have o0 := HB.out.r 0 (.int .i64 0) rfl
  have w0 := HB.out.rz 0
  have p1 := HB.out.a 1 (.int .i64 kd) rfl
  have o1 := HB.out.r 1 (.int .i64 0) rfl
  have w1 := HB.out.rz 1
  have p2 := HB.out.a 2 (.string nm) rfl
  have o2 := HB.out.r 2 (.string { data := #[] }) rfl
  have w2 := HB.out.rz 2
  have p3 := HB.out.a 3 (.int .i64 ad) rfl
  have o3 := HB.out.r 3 (.int .i64 0) rfl
  have w3 := HB.out.rz 3
  have HF : Hid (rdRel s i = some (⟨ps, kd, nm, ad⟩, j3)) := by show _ = _; simp only [rdRel, F0.out, F1.out, F2.out, F3.out]
  have HRF : Hid _ := HB.out.rd
  have HGF : Hid _ := HB.out.g
  go_wp2
  refine bodyPost_ret (v := relV ⟨ps, kd, nm, ad⟩) (by simp [results, Tryd.results105, go_sem, relV, o0, o1, o2, o3]) rfl ?_
  refine ⟨.inl ⟨_, _, HF.out, rfl, RdV.far (RdV.far (RdV.far (RdV.far (HRF.out) _ _ n0) _ _ n0) _ _ n0) _ _ n0⟩, grown_far (grown_far (grown_far (grown_far (HGF.out) _ _ (Nat.le_refl _)) _ _ (Nat.le_refl _)) _ _ (Nat.le_refl _)) _ _ (Nat.le_refl _)⟩

end Go.Proofs.YtmplnkfjaeegdaaDoor

/- What is written is read as it was, and what is read is as it would be written: no program in sight. -/
namespace Go.Proofs.YtmplnkfjaeegdaaDoor
set_option maxRecDepth 100000
open Go.RowKit Go.Maps Go.Lib
set_option linter.unusedVariables false

theorem tail_drop (s : ByteArray) (i m : Nat) : W.tail s (i + m) = (W.tail s i).drop m := by
  unfold W.tail
  rw [← List.map_drop, List.drop_drop]
theorem tail_step {s : ByteArray} {i : Nat} {e r : List Int} (hi : i ≤ s.size) (h : W.tail s i = e ++ r) : i + e.length ≤ s.size ∧ W.tail s (i + e.length) = r := by
  have h1 := W.tail_length s i
  rw [h, List.length_append] at h1
  exact ⟨by omega, by rw [tail_drop, h]; simp⟩
theorem nums_sub (s : ByteArray) (i n : Nat) : nums (sub s i n) = (W.tail s i).take n := by
  unfold nums W.tail sub
  rw [ByteArray.data_extract, Array.toList_extract, List.drop_zero, List.extract_eq_take_drop, ← List.map_take]
  congr 2
  omega
theorem bytes_nums {a b : ByteArray} (h : nums a = nums b) : a = b := by
  unfold nums W.tail at h
  rw [List.drop_zero, List.drop_zero] at h
  refine bytes_ext ?_
  have hinj : Function.Injective (fun b : UInt8 => (b.toNat : Int)) := fun x y e => by
    have e' : (x.toNat : Int) = (y.toNat : Int) := e
    exact UInt8.toNat_inj.1 (by omega)
  exact (List.map_inj_right (fun x y e => hinj e)).1 h
theorem str_nums (s : ByteArray) : strOfNums (nums s) = s := bytes_nums (nums_of (fun n hn => by have := W.tail_bd s 0 n hn; omega))
theorem nums_bd (s : ByteArray) : ∀ n ∈ nums s, 0 ≤ n ∧ n ≤ 255 := fun n hn => by have := W.tail_bd s 0 n hn; omega

/-- A reader reads nothing but what stands there. -/
def Sound {α : Type} (f : ByteArray → Nat → Option (α × Nat)) (enc : α → List Int) (ok : α → Prop) : Prop :=
  ∀ (s : ByteArray) (i : Nat) (a : α) (j : Nat), i ≤ s.size → f s i = some (a, j) → i ≤ j ∧ j ≤ s.size ∧ W.tail s i = enc a ++ W.tail s j ∧ ok a
/-- A reader reads what stands there. -/
def Compl {α : Type} (f : ByteArray → Nat → Option (α × Nat)) (enc : α → List Int) (ok : α → Prop) : Prop :=
  ∀ (s : ByteArray) (i : Nat) (a : α) (r : List Int), i ≤ s.size → ok a → W.tail s i = enc a ++ r → f s i = some (a, i + (enc a).length)

theorem take_sound (n : Nat) : Sound (fun s i => rdTake s i n) nums (fun a => a.size = n) := by
  intro s i a j hi h
  simp only [rdTake] at h
  split at h
  · next hle =>
    simp at h
    obtain ⟨rfl, rfl⟩ := h
    refine ⟨by omega, hle, ?_, sub_size hle⟩
    rw [nums_sub, tail_drop, List.take_append_drop]
  · cases h
theorem take_compl (n : Nat) : Compl (fun s i => rdTake s i n) nums (fun a => a.size = n) := by
  intro s i a r hi ha h
  have h1 := (tail_step hi h).1
  rw [nums_len, ha] at h1
  simp only [rdTake, if_pos h1, nums_len, ha]
  have : sub s i n = a := bytes_nums (by rw [nums_sub, h, ← ha, ← nums_len a]; simp)
  rw [this]

theorem takeG_inv : ∀ (l : List Int) (g : Nat) (x v : Int) (m : Nat), g ≤ 9 → (∀ c ∈ l, 0 ≤ c ∧ c < 256) → W.takeG g x l = some (v, m) →
    ∃ u, v = x + u * 128 ^ g ∧ g < m ∧ m - g ≤ l.length ∧ l.take (m - g) = W.grps (9 - g) u ∧ 0 ≤ u ∧ (0 < g → 0 < u)
  | [], g, x, v, m, _, _, h => by simp [W.takeG] at h
  | c :: r, g, x, v, m, hg, hc, h => by
    have hc0 := hc c (by simp)
    by_cases hb : (g = 9 ∧ 1 < c) ∨ (0 < g ∧ c = 0)
    · rw [W.takeG_no g x c r hb] at h; cases h
    · by_cases hl : c < 128
      · rw [W.takeG_last g x c r hb hl] at h
        simp at h
        obtain ⟨rfl, rfl⟩ := h
        refine ⟨c, by rw [show c % 128 = c by omega], by omega, by simp, ?_, hc0.1, fun h0 => by omega⟩
        rw [W.grps_last _ _ hl, show g + 1 - g = 1 by omega]
        simp
      · rw [W.takeG_more g x c r hb (by omega)] at h
        obtain ⟨u, hv, hm, hml, ht, hu0, hu1⟩ := takeG_inv r (g + 1) _ v m (by omega) (fun y hy => hc y (by simp [hy])) h
        have hup := hu1 (by omega)
        refine ⟨c % 128 + u * 128, ?_, by omega, by simp; omega, ?_, by omega, fun _ => by omega⟩
        · rw [hv, Int.add_mul, Int.pow_succ, Int.mul_assoc u 128, Int.mul_comm 128 (128 ^ g), Int.add_assoc]
        · obtain ⟨f, hf⟩ : ∃ f, 9 - g = f + 1 := ⟨8 - g, by omega⟩
          rw [hf, W.grps_step f _ (by omega)]
          obtain ⟨q, hq⟩ : ∃ q, m - g = q + 1 := ⟨m - g - 1, by omega⟩
          rw [hq, List.take_succ_cons]
          have e1 : (c % 128 + u * 128) % 128 + 128 = c := by omega
          have e2 : (c % 128 + u * 128) / 128 = u := by omega
          rw [e1, e2, show q = m - (g + 1) by omega, ht, show 9 - (g + 1) = f by omega]
theorem up_sound (n : Nat) : Sound (fun s i => rdUp s i n) W.put (fun x => 0 ≤ x ∧ x ≤ n) := by
  intro s i a j hi h
  have hr := rdUp_nonneg h
  simp only [rdUp] at h
  split at h
  · next x m hx =>
    split at h
    · next hle =>
      simp at h
      obtain ⟨rfl, rfl⟩ := h
      obtain ⟨u, hv, hm, hml, ht, hu0, -⟩ := takeG_inv _ 0 0 x m (by omega) (W.tail_bd s i) hx
      obtain rfl : x = u := by simpa using hv
      have hl := W.tail_length s i
      refine ⟨by omega, by omega, ?_, hr⟩
      rw [tail_drop]
      have : W.put x = (W.tail s i).take m := by simpa [W.put] using ht.symm
      rw [this, List.take_append_drop]
    · cases h
  · cases h
theorem up_compl (n : Nat) (hn : n ≤ 1000000000) : Compl (fun s i => rdUp s i n) W.put (fun x => 0 ≤ x ∧ x ≤ n) := by
  intro s i a r hi ha h
  simp only [rdUp, h, W.takeG_put a r ha.1 (by omega)]
  rw [if_pos ha.2]

theorem bytesOf_num : ∀ (l : List Int) (n : Int), (∀ c ∈ l, 0 ≤ c ∧ c < 256) → n % 256 ^ l.length = W.num l → W.bytesOf n l.length = l
  | [], n, _, _ => by simp [W.bytesOf]
  | c :: r, n, hc, h => by
    have hc0 := hc c (by simp)
    rw [List.length_cons, W.bytesOf_cons]
    simp only [List.length_cons, W.num] at h
    have hb := W.num_bd r (fun y hy => hc y (by simp [hy]))
    have hP : (0 : Int) < 256 ^ r.length := Int.pow_pos (by decide)
    have key : n % 256 = c ∧ n / 256 % 256 ^ r.length = W.num r := by
      have h2 : n % (256 * 256 ^ r.length) = n % 256 + 256 * (n / 256 % 256 ^ r.length) := by
        have h1 := Int.mul_ediv_add_emod (n / 256) (256 ^ r.length)
        have h2 := Int.emod_nonneg (n / 256) (Int.ne_of_gt hP)
        have h3 := Int.emod_lt_of_pos (n / 256) hP
        generalize n / 256 % 256 ^ r.length = t at *
        generalize n / 256 / 256 ^ r.length = q at *
        have h4 : n = (n % 256 + 256 * t) + 256 * 256 ^ r.length * q := by
          rw [Int.mul_assoc]; omega
        conv => lhs; rw [h4]
        rw [Int.add_mul_emod_self_left]
        exact Int.emod_eq_of_lt (by omega) (by omega)
      rw [Int.pow_succ, Int.mul_comm, h2] at h
      omega
    rw [key.1, bytesOf_num r (n / 256) (fun y hy => hc y (by simp [hy])) key.2]
theorem long_sub {t : ByteArray} (h : t.size = 8) : long (W.numV t) = nums t ∧ (Lit.int .i64 (W.numV t)).wf = true := by
  have s8 : W.isSz (8 : Nat) = true := by decide
  have hl : (nums t).length = 8 := by rw [nums_len, h]
  have hb := W.num_bd (nums t) (W.tail_bd t 0)
  rw [hl, show (256 : Int) ^ 8 = 18446744073709551616 by decide] at hb
  have hv : W.numV t = wrap64 (W.num (nums t)) := by
    rw [W.numV, h, if_pos s8]
    rfl
  have hw : (Lit.int .i64 (W.numV t)).wf = true := by
    rw [hv]
    simp [Lit.wf, IntKind.min, IntKind.max, IntKind.signed, IntKind.bits]
    unfold wrap64
    omega
  refine ⟨?_, hw⟩
  have e : W.sx 8 (W.numV t) = W.numV t := by rw [hv]; simp [W.sx]; unfold wrap64; omega
  have s8' : W.isSz 8 = true := by decide
  have e2 : long (W.numV t) = W.bytesOf (W.numV t) 8 := by unfold long; rw [W.bytesV, if_pos s8', if_pos e]; rfl
  rw [e2]
  have := bytesOf_num (nums t) (W.numV t) (W.tail_bd t 0) (by rw [hl, show (256 : Int) ^ 8 = 18446744073709551616 by decide, hv]; unfold wrap64; omega)
  rwa [hl] at this
theorem long_sound : Sound rdLong long (fun n => (Lit.int .i64 n).wf = true) := by
  intro s i a j hi h
  simp only [rdLong] at h
  split at h
  · next t k ht =>
    simp at h
    obtain ⟨rfl, rfl⟩ := h
    obtain ⟨h1, h2, h3, h4⟩ := take_sound 8 s i t k hi ht
    obtain ⟨h5, h6⟩ := long_sub h4
    exact ⟨h1, h2, by rw [h5]; exact h3, h6⟩
  · cases h
theorem long_compl : Compl rdLong long (fun n => (Lit.int .i64 n).wf = true) := by
  intro s i a r hi ha h
  obtain ⟨hl, hb⟩ := long_len ha
  have hn := nums_of hb
  have hs : (strOfNums (long a)).size = 8 := by rw [size_of hb, hl]
  have h1 := take_compl 8 s i (strOfNums (long a)) r hi hs (by rw [hn]; exact h)
  simp only [rdLong]
  rw [show rdTake s i 8 = _ from h1]
  simp only [hn]
  have := (W.num_back a ha).2.2
  rw [show W.numV (strOfNums (long a)) = a from this]

theorem kind_sound : Sound rdKind (fun x => [x]) (fun x => 0 ≤ x ∧ x ≤ 255) := by
  intro s i a j hi h
  simp only [rdKind] at h
  split at h
  · next t k ht =>
    simp at h
    obtain ⟨rfl, rfl⟩ := h
    obtain ⟨h1, h2, h3, h4⟩ := take_sound 1 s i t k hi ht
    have hl : (nums t).length = 1 := by rw [nums_len, h4]
    obtain ⟨y, hy⟩ := List.length_eq_one_iff.1 hl
    have hb := nums_bd t y (by rw [hy]; simp)
    rw [hy] at h3
    refine ⟨h1, h2, ?_, ?_⟩
    · simpa [hy] using h3
    · simpa [hy] using hb
  · cases h
theorem kind_compl : Compl rdKind (fun x => [x]) (fun x => 0 ≤ x ∧ x ≤ 255) := by
  intro s i a r hi ha h
  have hb : ∀ n ∈ [a], 0 ≤ n ∧ n ≤ 255 := by intro n hn; simp at hn; omega
  have hn := nums_of hb
  have hs : (strOfNums [a]).size = 1 := by rw [size_of hb]; rfl
  have h1 := take_compl 1 s i (strOfNums [a]) r hi hs (by rw [hn]; exact h)
  simp only [rdKind]
  rw [show rdTake s i 1 = _ from h1]
  simp [hn]

theorem name_sound : Sound rdName txt (fun a => a.size ≤ 28) := by
  intro s i a j hi h
  simp only [rdName] at h
  split at h
  · next x k hx =>
    obtain ⟨h1, h2, h3, h4⟩ := up_sound 28 s i x k hi hx
    obtain ⟨h5, h6, h7, h8⟩ := take_sound x.toNat s k a j h2 h
    have e : (a.size : Int) = x := by omega
    refine ⟨by omega, h6, ?_, by omega⟩
    rw [h3, h7, txt, e, List.append_assoc]
  · cases h
theorem name_compl : Compl rdName txt (fun a => a.size ≤ 28) := by
  intro s i a r hi ha h
  rw [txt, List.append_assoc] at h
  have h1 := up_compl 28 (by decide) s i a.size _ hi (by omega) h
  obtain ⟨h2, h3⟩ := tail_step hi h
  have h4 := take_compl a.size s _ a r h2 rfl h3
  simp only [rdName]
  rw [show rdUp s i 28 = _ from h1]
  simp only [Int.toNat_natCast]
  rw [show rdTake s (i + (W.put a.size).length) a.size = _ from h4]
  simp [txt]
  omega

def SymIn (x : Sym) : Prop := x.name.size ≤ 28 ∧ (0 ≤ x.kind ∧ x.kind ≤ 255) ∧ 0 ≤ x.pos ∧ x.pos ≤ 65536
def RelIn (x : Rel) : Prop := (0 ≤ x.pos ∧ x.pos ≤ 65536) ∧ (0 ≤ x.kind ∧ x.kind ≤ 255) ∧ x.name.size ≤ 28 ∧ (Lit.int .i64 x.add).wf = true
theorem sym_sound : Sound rdSym symB SymIn := by
  intro s i a j hi h
  simp only [rdSym] at h
  split at h
  · next nm k hx =>
    split at h
    · next kd l hy =>
      split at h
      · next ps m hz =>
        simp at h
        obtain ⟨rfl, rfl⟩ := h
        obtain ⟨a1, a2, a3, a4⟩ := name_sound s i nm k hi hx
        obtain ⟨b1, b2, b3, b4⟩ := kind_sound s k kd l a2 hy
        obtain ⟨c1, c2, c3, c4⟩ := up_sound 65536 s l ps m b2 hz
        refine ⟨by omega, c2, ?_, a4, b4, c4⟩
        rw [a3, b3, c3]
        simp [symB]
      · cases h
    · cases h
  · cases h
theorem sym_compl : Compl rdSym symB SymIn := by
  intro s i a r hi ⟨h1, h2, h3⟩ h
  rw [symB, List.append_assoc, List.append_assoc] at h
  have e1 := name_compl s i a.name _ hi h1 h
  obtain ⟨t1, u1⟩ := tail_step hi h
  have e2 := kind_compl s _ a.kind _ t1 h2 u1
  obtain ⟨t2, u2⟩ := tail_step t1 u1
  have e3 := up_compl 65536 (by decide) s _ a.pos r t2 h3 u2
  simp only [rdSym, e1, e2]
  rw [show rdUp s (i + (txt a.name).length + [a.kind].length) 65536 = _ from e3]
  simp [symB]
  omega
theorem rel_sound : Sound rdRel relB RelIn := by
  intro s i a j hi h
  simp only [rdRel] at h
  split at h
  · next ps k hx =>
    split at h
    · next kd l hy =>
      split at h
      · next nm m hz =>
        split at h
        · next ad n hv =>
          simp at h
          obtain ⟨rfl, rfl⟩ := h
          obtain ⟨a1, a2, a3, a4⟩ := up_sound 65536 s i ps k hi hx
          obtain ⟨b1, b2, b3, b4⟩ := kind_sound s k kd l a2 hy
          obtain ⟨c1, c2, c3, c4⟩ := name_sound s l nm m b2 hz
          obtain ⟨d1, d2, d3, d4⟩ := long_sound s m ad n c2 hv
          refine ⟨by omega, d2, ?_, a4, b4, c4, d4⟩
          rw [a3, b3, c3, d3]
          simp [relB]
        · cases h
      · cases h
    · cases h
  · cases h
theorem rel_compl : Compl rdRel relB RelIn := by
  intro s i a r hi ⟨h1, h2, h3, h4⟩ h
  rw [relB, List.append_assoc, List.append_assoc, List.append_assoc] at h
  have e1 := up_compl 65536 (by decide) s i a.pos _ hi h1 h
  obtain ⟨t1, u1⟩ := tail_step hi h
  have e2 := kind_compl s _ a.kind _ t1 h2 u1
  obtain ⟨t2, u2⟩ := tail_step t1 u1
  have e3 := name_compl s _ a.name _ t2 h3 u2
  obtain ⟨t3, u3⟩ := tail_step t2 u2
  have e4 := long_compl s _ a.add r t3 h4 u3
  simp only [rdRel]
  rw [show rdUp s i 65536 = _ from e1]
  simp only [e2, e3, e4]
  simp [relB]
  omega

/-- Several, one behind the other. -/
def rdMany {α : Type} (f : ByteArray → Nat → Option (α × Nat)) : Nat → ByteArray → Nat → Option (List α × Nat)
  | 0, _, i => some ([], i)
  | n + 1, s, i => match rdMany f n s i with
    | some (l, j) => match f s j with
      | some (x, k) => some (l ++ [x], k)
      | none => none
    | none => none
theorem many_none {α : Type} {f : ByteArray → Nat → Option (α × Nat)} {s : ByteArray} {i n : Nat} (h : rdMany f n s i = none) : ∀ m, rdMany f (n + m) s i = none
  | 0 => h
  | m + 1 => by rw [← Nat.add_assoc, rdMany, many_none h m]
theorem many_cut {α : Type} {f : ByteArray → Nat → Option (α × Nat)} {s : ByteArray} {i k n : Nat} {l : List α} {j : Nat} (h : rdMany f k s i = some (l, j)) (hk : k < n) (hf : f s j = none) : rdMany f n s i = none := by
  have h1 : rdMany f (k + 1) s i = none := by rw [rdMany, h]; simp only [hf]
  have := many_none h1 (n - (k + 1))
  rwa [show k + 1 + (n - (k + 1)) = n by omega] at this
theorem many_sound {α : Type} {f : ByteArray → Nat → Option (α × Nat)} {enc : α → List Int} {ok : α → Prop} (h : Sound f enc ok) : ∀ n, Sound (rdMany f n) (List.flatMap enc) (fun l => l.length = n ∧ ∀ x ∈ l, ok x)
  | 0 => by
    intro s i a j hi e
    simp [rdMany] at e
    obtain ⟨rfl, rfl⟩ := e
    simp [hi]
  | n + 1 => by
    intro s i a j hi e
    simp only [rdMany] at e
    split at e
    · next l k hl =>
      split at e
      · next x m hx =>
        simp at e
        obtain ⟨rfl, rfl⟩ := e
        obtain ⟨a1, a2, a3, a4, a5⟩ := many_sound h n s i l k hi hl
        obtain ⟨b1, b2, b3, b4⟩ := h s k x m a2 hx
        refine ⟨by omega, b2, ?_, by simp [a4], ?_⟩
        · rw [a3, b3]; simp [List.flatMap_append]
        · intro y hy
          rcases List.mem_append.1 hy with h1 | h1
          · exact a5 y h1
          · simp at h1; rw [h1]; exact b4
      · cases e
    · cases e
theorem many_compl {α : Type} {f : ByteArray → Nat → Option (α × Nat)} {enc : α → List Int} {ok : α → Prop} (h : Compl f enc ok) : ∀ n, Compl (rdMany f n) (List.flatMap enc) (fun l => l.length = n ∧ ∀ x ∈ l, ok x)
  | 0 => by
    intro s i a r hi ⟨h1, _⟩ _
    obtain rfl := List.length_eq_zero_iff.1 h1
    simp [rdMany]
  | n + 1 => by
    intro s i a r hi ⟨h1, h2⟩ e
    rcases List.eq_nil_or_concat a with rfl | ⟨l, x, rfl⟩
    · simp at h1
    · rw [List.concat_eq_append] at *
      simp only [List.flatMap_append, List.flatMap_cons, List.flatMap_nil, List.append_nil, List.append_assoc] at e
      have e1 := many_compl h n s i l _ hi ⟨by simpa using h1, fun y hy => h2 y (by simp [hy])⟩ e
      obtain ⟨t1, u1⟩ := tail_step hi e
      have e2 := h s _ x r t1 (h2 x (by simp)) u1
      simp only [rdMany, e1, e2]
      simp [List.flatMap_append]
      omega

/-- COT1. -/
def cot1 : ByteArray := ⟨#[67, 79, 84, 49]⟩
/-- What object reads of a text, ahead of its last look. -/
def rdBody (s : ByteArray) : Option (ObjD × Nat) := match rdTake s 0 4 with
  | some (t, i0) => if t = cot1 then match rdUp s i0 65536 with
    | some (n1, i1) => match rdTake s i1 n1.toNat with
      | some (code, i2) => match rdUp s i2 4096 with
        | some (n2, i3) => match rdMany rdLong n2.toNat s i3 with
          | some (data, i4) => match rdUp s i4 1000 with
            | some (n3, i5) => match rdMany rdSym n3.toNat s i5 with
              | some (syms, i6) => match rdUp s i6 8000 with
                | some (n4, i7) => match rdMany rdRel n4.toNat s i7 with
                  | some (rels, i8) => some (⟨code, data, syms, rels⟩, i8)
                  | none => none
                | none => none
              | none => none
            | none => none
          | none => none
        | none => none
      | none => none
    | none => none else none
  | none => none
def rdObj (s : ByteArray) : Option ObjD := match rdBody s with
  | some (o, j) => if j = s.size ∧ o.may = true then some o else none
  | none => none
/-- What is read lies within. -/
def ObjIn (o : ObjD) : Prop := o.code.size ≤ 65536 ∧ (o.data.length ≤ 4096 ∧ ∀ x ∈ o.data, (Lit.int .i64 x).wf = true) ∧ (o.syms.length ≤ 1000 ∧ ∀ x ∈ o.syms, SymIn x) ∧ (o.rels.length ≤ 8000 ∧ ∀ x ∈ o.rels, RelIn x)
theorem nums_cot1 : nums cot1 = [67, 79, 84, 49] := by decide
theorem body_sound {s : ByteArray} {o : ObjD} {j : Nat} (h : rdBody s = some (o, j)) : j ≤ s.size ∧ nums s = formB o ++ W.tail s j ∧ ObjIn o := by
  unfold rdBody at h
  split at h
  · next t i0 h0 =>
    split at h
    · next ht =>
      split at h
      · next n1 i1 h1 =>
        split at h
        · next code i2 h2 =>
          split at h
          · next n2 i3 h3 =>
            split at h
            · next data i4 h4 =>
              split at h
              · next n3 i5 h5 =>
                split at h
                · next syms i6 h6 =>
                  split at h
                  · next n4 i7 h7 =>
                    split at h
                    · next rels i8 h8 =>
                      simp at h
                      obtain ⟨rfl, rfl⟩ := h
                      obtain ⟨-, q0, p0, -⟩ := take_sound 4 s 0 t i0 (Nat.zero_le _) h0
                      obtain ⟨-, q1, p1, k1⟩ := up_sound 65536 s i0 n1 i1 q0 h1
                      obtain ⟨-, q2, p2, k2⟩ := take_sound n1.toNat s i1 code i2 q1 h2
                      obtain ⟨-, q3, p3, k3⟩ := up_sound 4096 s i2 n2 i3 q2 h3
                      obtain ⟨-, q4, p4, k4, l4⟩ := many_sound long_sound n2.toNat s i3 data i4 q3 h4
                      obtain ⟨-, q5, p5, k5⟩ := up_sound 1000 s i4 n3 i5 q4 h5
                      obtain ⟨-, q6, p6, k6, l6⟩ := many_sound sym_sound n3.toNat s i5 syms i6 q5 h6
                      obtain ⟨-, q7, p7, k7⟩ := up_sound 8000 s i6 n4 i7 q6 h7
                      obtain ⟨-, q8, p8, k8, l8⟩ := many_sound rel_sound n4.toNat s i7 rels i8 q7 h8
                      have e1 : n1 = code.size := by omega
                      have e2 : n2 = data.length := by omega
                      have e3 : n3 = syms.length := by omega
                      have e4 : n4 = rels.length := by omega
                      refine ⟨q8, ?_, by show code.size ≤ _; omega, ⟨by show data.length ≤ _; omega, l4⟩, ⟨by show syms.length ≤ _; omega, l6⟩, ⟨by show rels.length ≤ _; omega, l8⟩⟩
                      show W.tail s 0 = _
                      rw [p0, p1, p2, p3, p4, p5, p6, p7, p8, ht, nums_cot1, e1, e2, e3, e4]
                      simp only [formB, txt, List.append_assoc]
                    · cases h
                  · cases h
                · cases h
              · cases h
            · cases h
          · cases h
        · cases h
      · cases h
    · cases h
  · cases h
theorem body_compl {s : ByteArray} {o : ObjD} {r : List Int} (ho : ObjIn o) (h : nums s = formB o ++ r) : rdBody s = some (o, (formB o).length) := by
  obtain ⟨c1, ⟨c2, d2⟩, ⟨c3, d3⟩, ⟨c4, d4⟩⟩ := ho
  have h' : W.tail s 0 = nums cot1 ++ (W.put o.code.size ++ (nums o.code ++ (W.put o.data.length ++ (o.data.flatMap long ++ (W.put o.syms.length ++ (o.syms.flatMap symB ++ (W.put o.rels.length ++ (o.rels.flatMap relB ++ r)))))))) := by
    rw [show W.tail s 0 = nums s from rfl, h, nums_cot1]
    simp only [formB, txt, List.append_assoc]
  have e0 := take_compl 4 s 0 cot1 _ (Nat.zero_le _) (by decide) h'
  obtain ⟨t0, u0⟩ := tail_step (Nat.zero_le _) h'
  have e1 := up_compl 65536 (by decide) s _ o.code.size _ t0 (by omega) u0
  obtain ⟨t1, u1⟩ := tail_step t0 u0
  have e2 := take_compl o.code.size s _ o.code _ t1 rfl u1
  obtain ⟨t2, u2⟩ := tail_step t1 u1
  have e3 := up_compl 4096 (by decide) s _ o.data.length _ t2 (by omega) u2
  obtain ⟨t3, u3⟩ := tail_step t2 u2
  have e4 := many_compl long_compl o.data.length s _ o.data _ t3 ⟨rfl, d2⟩ u3
  obtain ⟨t4, u4⟩ := tail_step t3 u3
  have e5 := up_compl 1000 (by decide) s _ o.syms.length _ t4 (by omega) u4
  obtain ⟨t5, u5⟩ := tail_step t4 u4
  have e6 := many_compl sym_compl o.syms.length s _ o.syms _ t5 ⟨rfl, d3⟩ u5
  obtain ⟨t6, u6⟩ := tail_step t5 u5
  have e7 := up_compl 8000 (by decide) s _ o.rels.length _ t6 (by omega) u6
  obtain ⟨t7, u7⟩ := tail_step t6 u6
  have e8 := many_compl rel_compl o.rels.length s _ o.rels _ t7 ⟨rfl, d4⟩ u7
  dsimp only at e0 e1 e2 e3 e5 e7
  simp only [rdBody, e0, e1, if_true, Int.toNat_natCast, e2, e3, e4, e5, e6, e7, e8]
  refine congrArg (fun k => some (o, k)) ?_
  rw [nums_cot1]
  simp only [formB, txt, List.length_append, List.length_cons, List.length_nil]
  omega
theorem obj_sound {s : ByteArray} {o : ObjD} (h : rdObj s = some o) : nums s = formB o ∧ ObjIn o ∧ o.may = true := by
  unfold rdObj at h
  split at h
  · next o' j hb =>
    split at h
    · next hj =>
      simp at h
      subst h
      obtain ⟨h1, h2, h3⟩ := body_sound hb
      rw [hj.1, W.tail_end s s.size (Nat.le_refl _), List.append_nil] at h2
      exact ⟨h2, h3, hj.2⟩
    · cases h
  · cases h
theorem obj_compl {s : ByteArray} {o : ObjD} (ho : ObjIn o) (hm : o.may = true) (h : nums s = formB o) : rdObj s = some o := by
  have hb := body_compl (r := []) ho (by rw [List.append_nil]; exact h)
  have hl : (formB o).length = s.size := by rw [← h, nums_len]
  simp only [rdObj, hb]
  rw [if_pos ⟨hl, hm⟩]
/-- No form stands ahead of another. -/
theorem form_cut {o p : ObjD} {r : List Int} (ho : ObjIn o) (hp : ObjIn p) (hb : ∀ n ∈ formB o, 0 ≤ n ∧ n ≤ 255) (h : formB o = formB p ++ r) : r = [] := by
  have h1 := body_compl (s := strOfNums (formB o)) (r := []) ho (by rw [List.append_nil]; exact nums_of hb)
  have h2 := body_compl (s := strOfNums (formB o)) (r := r) hp (by rw [← h]; exact nums_of hb)
  rw [h1] at h2
  simp at h2
  have := congrArg List.length h
  rw [List.length_append, h2.2] at this
  exact List.length_eq_zero_iff.1 (by omega)

end Go.Proofs.YtmplnkfjaeegdaaDoor

/- An object that is being read: its block, its rows, beside the reader. -/
namespace Go.Proofs.YtmplnkfjaeegdaaDoor
set_option maxRecDepth 100000
open Go.RowKit Go.Maps Go.Lib
set_option linter.unusedVariables false

/-- A row of the call's own. -/
structure Row where
  ty : TypeId
  k : Nat
  v : Value
  n : Nat
  cs : List Value
structure OB (w x : World) (br : Nat) (s : ByteArray) (i z : Nat) (cv : Value) (rs : List Row) (os : List Value) : Prop where
  rd : RdV x br s i
  g : w.grownBy x (some br)
  c0 : x.cell? ⟨z, 0, none⟩ = some cv
  ck : ∀ (k : Nat) (r : Row), rs[k]? = some r → x.cell? ⟨z, k + 1, none⟩ = some r.v
  fz : ∀ o, x.frozen? ⟨z, o, none⟩ = false
  res : Cells x w.heap.size os
  rz : ∀ o, x.frozen? ⟨w.heap.size, o, none⟩ = false
  own : ∀ (k : Nat) (r : Row), rs[k]? = some r → x.ownsRow (w.heap.size + 1) r.ty r.k r.v r.n r.cs ∧ r.v.ownBlock ≠ some z
  dis : ∀ (k l : Nat) (r q : Row), rs[k]? = some r → rs[l]? = some q → k ≠ l → ∀ b, r.v.ownBlock = some b → q.v.ownBlock ≠ some b
  zw : w.heap.size < z
  zl : z < x.heap.size
  lt : br < w.heap.size

theorem grown_row {w x : World} {b o : Nat} {v : Value} {row : Option Nat} (h : w.grownBy x row) (hc : w.cell? ⟨b, o, none⟩ = some v) (hne : row ≠ some b) : x.cell? ⟨b, o, none⟩ = some v := h.cell hc (fun e => hne e.symm)
theorem RdV.grown {w x : World} {br : Nat} {s : ByteArray} {i : Nat} {row : Option Nat} (h : RdV w br s i) (g : w.grownBy x row) (hne : row ≠ some br) : RdV x br s i :=
  ⟨grown_row g h.c0 hne, grown_row g h.c1 hne, fun o => (g.frozen_far ⟨br, o, none⟩ h.lt (fun e => hne e.symm)).trans (h.fz o), h.le, h.sz⟩
theorem grown_into {w x y : World} {br : Nat} {row : Option Nat} (h : w.grownBy x (some br)) (k : x.grownBy y row) (hr : ∀ b, row = some b → w.heap.size ≤ b) : w.grownBy y (some br) :=
  ⟨k.os.trans h.os, k.tape.trans h.tape, k.output.trans h.output, Nat.le_trans h.size k.size, fun j hj hne => (k.block j (Nat.lt_of_lt_of_le hj h.size) (fun e => by have := hr j e.symm; omega)).trans (h.block j hj hne)⟩

theorem OB.call {w x y : World} {br : Nat} {s : ByteArray} {i j z : Nat} {cv : Value} {rs : List Row} {os : List Value} (h : OB w x br s i z cv rs os) (hr : RdV y br s j) (hg : x.grownBy y (some br)) : OB w y br s j z cv rs os :=
  have hl := h.lt
  have hz := h.zw
  have hx := h.zl
  { rd := hr, g := grown_trans h.g hg, c0 := grown_cell hg h.c0 (by omega), ck := fun k r hk => grown_cell hg (h.ck k r hk) (by omega), fz := fun o => grown_froz hg h.zl (by omega) (h.fz o), res := fun k u hu => grown_cell hg (h.res k u hu) (by omega), rz := fun o => grown_froz hg (by omega) (by omega) (h.rz o), own := fun k r hk => ⟨(h.own k r hk).1.kept hg (.inr fun e => by have := ((h.own k r hk).1.lt _ e).1; omega), (h.own k r hk).2⟩, dis := h.dis, zw := h.zw, zl := Nat.lt_of_lt_of_le h.zl hg.size, lt := h.lt }
theorem OB.below {w x y : World} {br : Nat} {s : ByteArray} {i z : Nat} {cv : Value} {rs : List Row} {os : List Value} (h : OB w x br s i z cv rs os) (hb : Below x.heap.size x y) : OB w y br s i z cv rs os :=
  h.call (h.rd.below hb) ⟨hb.os, hb.tape, hb.output, hb.size, fun k hk _ => hb.block k hk⟩
theorem OB.drew {w x : World} {br : Nat} {s : ByteArray} {i z : Nat} {cv : Value} {rs : List Row} {os : List Value} (h : OB w x br s i z cv rs os) : OB w x.drew br s i z cv rs os := h.below (Below.refl _ _).drew
theorem OB.code {w x : World} {br : Nat} {s : ByteArray} {i z : Nat} {cv : Value} {rs : List Row} {os : List Value} (h : OB w x br s i z cv rs os) (u : Value) : OB w (x.setCell ⟨z, 0, none⟩ u) br s i z u rs os :=
  have hl := h.lt
  have hz := h.zw
  { rd := h.rd.far _ _ (by show z ≠ br; omega), g := grown_far h.g _ _ (by show w.heap.size ≤ z; omega), c0 := World.cell?_setCell_same' _ _ _ (by rw [h.c0]; rfl), ck := fun k r hk => (World.cell?_setCell_other _ _ _ _ (by simp)).trans (h.ck k r hk), fz := fun o => by rw [World.frozen?_setCell]; exact h.fz o, res := fun k u hu => (World.cell?_setCell_far _ _ _ _ (by show z ≠ w.heap.size; omega)).trans (h.res k u hu), rz := fun o => by rw [World.frozen?_setCell]; exact h.rz o, own := fun k r hk => ⟨(h.own k r hk).1.kept (gb_setO x ⟨z, 0, none⟩ u) (.inr (h.own k r hk).2), (h.own k r hk).2⟩, dis := h.dis, zw := h.zw, zl := by rw [World.size_setCell]; exact h.zl, lt := h.lt }
theorem OB.ret {w x : World} {br : Nat} {s : ByteArray} {i z : Nat} {cv : Value} {rs : List Row} {os : List Value} (h : OB w x br s i z cv rs os) (k : Nat) (hk : k < os.length) (u : Value) : OB w (x.setCell ⟨w.heap.size, k, none⟩ u) br s i z cv rs (os.set k u) :=
  have hl := h.lt
  have hz := h.zw
  { rd := h.rd.far _ _ (by show w.heap.size ≠ br; omega), g := grown_far h.g _ _ (Nat.le_refl _), c0 := (World.cell?_setCell_far _ _ _ _ (by show w.heap.size ≠ z; omega)).trans h.c0, ck := fun k r hk => (World.cell?_setCell_far _ _ _ _ (by show w.heap.size ≠ z; omega)).trans (h.ck k r hk), fz := fun o => by rw [World.frozen?_setCell]; exact h.fz o,
    res := fun j v hv => by
      by_cases e : k = j
      · subst e
        rw [List.getElem?_set_self hk] at hv
        cases hv
        refine World.cell?_setCell_same' _ _ _ ?_
        rw [h.res k os[k] (by simp [hk])]
        rfl
      · rw [List.getElem?_set_ne e] at hv
        rw [World.cell?_setCell_other _ _ _ _ (fun e' => e (by have := congrArg Addr.off e'; simpa using this))]
        exact h.res j v hv
    rz := fun o => by rw [World.frozen?_setCell]; exact h.rz o, own := fun k r hk => ⟨(h.own k r hk).1.kept (gb_setO x ⟨w.heap.size, _, none⟩ u) (.inr fun e => by have := ((h.own k r hk).1.lt _ e).1; simp at this; omega), (h.own k r hk).2⟩, dis := h.dis, zw := h.zw, zl := by rw [World.size_setCell]; exact h.zl, lt := h.lt }
theorem OB.push {w x y : World} {br : Nat} {s : ByteArray} {i z : Nat} {cv : Value} {rs : List Row} {os : List Value} (h : OB w x br s i z cv rs os) {k : Nat} {r : Row} (hk : rs[k]? = some r) {g n cap : Nat} {cs : List Value} {H : Nat} (ho : y.ownsRow (w.heap.size + 1) r.ty r.k (.slice (some ⟨g, 0, none⟩) n cap) n cs) (hg : x.grownBy y r.v.ownBlock) (hat : r.v.ownBlock = some g ∨ g = H) (hH : x.heap.size = H) :
    OB w (y.setCell ⟨z, k + 1, none⟩ (.slice (some ⟨g, 0, none⟩) n cap)) br s i z cv (rs.set k ⟨r.ty, r.k, .slice (some ⟨g, 0, none⟩) n cap, n, cs⟩) os := by
  subst hH
  have hl := h.lt
  have hz := h.zw
  have hx := h.zl
  obtain ⟨hor, hzr⟩ := h.own k r hk
  have hrb : ∀ b, r.v.ownBlock = some b → w.heap.size + 1 ≤ b := fun b e => (hor.lt b e).1
  have nbr : r.v.ownBlock ≠ some br := fun e => by have := hrb _ e; omega
  have nws : r.v.ownBlock ≠ some w.heap.size := fun e => by have := hrb _ e; omega
  have gz : g ≠ z := fun e => by
    subst e
    rcases hat with h1 | h1
    · exact hzr h1
    · omega
  have hkl : k < rs.length := (List.getElem?_eq_some_iff.1 hk).1
  have hY : RdV y br s i := h.rd.grown hg nbr
  have row : ∀ l q, (rs.set k ⟨r.ty, r.k, .slice (some ⟨g, 0, none⟩) n cap, n, cs⟩)[l]? = some q → (l = k ∧ q = ⟨r.ty, r.k, .slice (some ⟨g, 0, none⟩) n cap, n, cs⟩) ∨ (l ≠ k ∧ rs[l]? = some q) := fun l q hq => by
    by_cases e : k = l
    · subst e
      rw [List.getElem?_set_self hkl] at hq
      exact .inl ⟨rfl, by simpa using hq.symm⟩
    · rw [List.getElem?_set_ne e] at hq
      exact .inr ⟨fun e' => e e'.symm, hq⟩
  refine { rd := hY.far _ _ (by show z ≠ br; omega), g := grown_far (grown_into h.g hg (fun b e => by have := hrb b e; omega)) _ _ (by show w.heap.size ≤ z; omega), c0 := (World.cell?_setCell_other _ _ _ _ (by simp)).trans (grown_row hg h.c0 hzr), ck := ?_, fz := fun o => by rw [World.frozen?_setCell]; exact (hg.frozen_far ⟨z, o, none⟩ hx (fun e => hzr e.symm)).trans (h.fz o), res := fun j u hu => (World.cell?_setCell_far _ _ _ _ (by show z ≠ w.heap.size; omega)).trans (grown_row hg (h.res j u hu) nws), rz := fun o => by rw [World.frozen?_setCell]; exact (hg.frozen_far ⟨w.heap.size, o, none⟩ (by show w.heap.size < _; omega) (fun e => nws e.symm)).trans (h.rz o), own := ?_, dis := ?_, zw := h.zw, zl := by rw [World.size_setCell]; exact Nat.lt_of_lt_of_le hx hg.size, lt := h.lt }
  · intro l q hq
    rcases row l q hq with ⟨rfl, rfl⟩ | ⟨hne, hq'⟩
    · exact World.cell?_setCell_same' _ _ _ (by rw [grown_row hg (h.ck l r hk) hzr]; rfl)
    · exact (World.cell?_setCell_other _ _ _ _ (fun e => hne (by have := congrArg Addr.off e; simp at this; omega))).trans (grown_row hg (h.ck l q hq') hzr)
  · intro l q hq
    rcases row l q hq with ⟨rfl, rfl⟩ | ⟨hne, hq'⟩
    · exact ⟨ho.kept (gb_setO y ⟨z, _, none⟩ _) (.inr fun e => gz (by simpa [Value.ownBlock] using e)), fun e => gz (by simpa [Value.ownBlock] using e)⟩
    · obtain ⟨o1, o2⟩ := h.own l q hq'
      refine ⟨(o1.kept hg ?_).kept (gb_setO y ⟨z, _, none⟩ _) (.inr o2), o2⟩
      cases e : q.v.ownBlock with
      | none => exact .inl rfl
      | some b => exact .inr fun e' => h.dis l k q r hq' hk hne b e e'.symm
  · intro l m q p hq hp hlm b hb
    rcases row l q hq with ⟨rfl, rfl⟩ | ⟨hne, hq'⟩
    · rcases row m p hp with ⟨rfl, rfl⟩ | ⟨hne', hp'⟩
      · exact absurd rfl hlm
      · have : g = b := by simpa [Value.ownBlock] using hb
        subst this
        intro e
        rcases hat with h1 | h1
        · exact h.dis m l p r hp' hk hne' g e h1
        · have := ((h.own m p hp').1.lt _ e).2
          omega
    · rcases row m p hp with ⟨rfl, rfl⟩ | ⟨hne', hp'⟩
      · intro e
        have : g = b := by simpa [Value.ownBlock] using e
        subst this
        rcases hat with h1 | h1
        · exact h.dis l m q r hq' hk hne g hb h1
        · have := ((h.own l q hq').1.lt _ hb).2
          omega
      · exact h.dis l m q p hq' hp' hlm b hb

def intC (x : Int) : List Value := [.int .i64 x]
def symC (x : Sym) : List Value := [.string x.name, .int .i64 x.kind, .int .i64 x.pos]
def relC (x : Rel) : List Value := [.int .i64 x.pos, .int .i64 x.kind, .string x.name, .int .i64 x.add]
/-- An object whose rows are all of them new: nothing of it lies below B. -/
structure ObjF (B : Nat) (w : World) (v : Value) (o : ObjD) : Prop where
  form : ∃ v1 v2 v3, v = .agg #[.string o.code, v1, v2, v3] ∧ w.ownsRow B 2 1 v1 o.data.length (o.data.flatMap intC) ∧ w.ownsRow B 66 3 v2 o.syms.length (o.syms.flatMap symC) ∧ w.ownsRow B 156 4 v3 o.rels.length (o.rels.flatMap relC)
  isin : ObjIn o

theorem flat_at {α : Type} (f : α → List Value) (m : Nat) (d : α) (hm : ∀ x, (f x).length = m) : ∀ (l : List α) (i j : Nat), i < l.length → j < m → (l.flatMap f)[i * m + j]? = (f (l.getD i d))[j]?
  | [], i, j, hi, _ => by simp at hi
  | x :: l, 0, j, hi, hj => by
    rw [List.flatMap_cons, Nat.zero_mul, Nat.zero_add, List.getElem?_append_left (by rw [hm]; exact hj)]
    rfl
  | x :: l, i + 1, j, hi, hj => by
    rw [List.flatMap_cons, List.getElem?_append_right (by rw [hm, Nat.succ_mul]; omega), hm, show (i + 1) * m + j - m = i * m + j by rw [Nat.succ_mul]; omega, flat_at f m d hm l i j (by simpa using hi) hj]
    rfl
theorem row_at {w : World} {B : Nat} {ty : TypeId} {m n : Nat} {v : Value} {α : Type} {f : α → List Value} {l : List α} (d : α) (hm : ∀ x, (f x).length = m) (h : w.ownsRow B ty m v n (l.flatMap f)) (hn : l.length = n) :
    ∃ a c, v = .slice a n c ∧ (a = none → n = 0 ∧ c = 0) ∧ (n = 0 ∨ ∃ b off, a = some ⟨b, off, none⟩ ∧ ∀ i, i < n → ∀ j u, j < m → (f (l.getD i d))[j]? = some u → w.cell? ⟨b, off + i * m + j, none⟩ = some u) := by
  rcases h.2 with ⟨rfl, rfl⟩ | ⟨g, cap, cur, rfl, hb, hh, h1, h2, h3, h4⟩
  · exact ⟨none, 0, rfl, fun _ => ⟨rfl, rfl⟩, .inl rfl⟩
  · refine ⟨_, _, rfl, fun e => (by cases e), .inr ⟨g, 0, rfl, fun i hi j u hj hu => ?_⟩⟩
    have hlt : i * m + j < n * m := by
      have : (i + 1) * m ≤ n * m := Nat.mul_le_mul_right m hi
      rw [Nat.succ_mul] at this
      omega
    rw [Nat.zero_add, h.cellAt _ hlt, flat_at f m d hm l i j (by omega) hj]
    exact hu
theorem ObjF.toV {B : Nat} {w : World} {v : Value} {o : ObjD} (h : ObjF B w v o) : ObjV w v o := by
  obtain ⟨v1, v2, v3, rfl, o1, o2, o3⟩ := h.form
  obtain ⟨hc, ⟨-, hd⟩, ⟨-, hs⟩, ⟨-, hr⟩⟩ := h.isin
  obtain ⟨a1, c1, rfl, n1, k1⟩ := row_at (m := 1) (f := intC) 0 (fun _ => rfl) o1 rfl
  obtain ⟨a2, c2, rfl, n2, k2⟩ := row_at (m := 3) (f := symC) noSym (fun _ => rfl) o2 rfl
  obtain ⟨a3, c3, rfl, n3, k3⟩ := row_at (m := 4) (f := relC) noRel (fun _ => rfl) o3 rfl
  have w64 : ∀ {x : Int} {m : Int}, 0 ≤ x → x ≤ 65536 → (Lit.int .i64 x).wf = true := fun h0 h1 => by
    simp [Lit.wf, IntKind.min, IntKind.max, IntKind.signed, IntKind.bits]
    omega
  refine ⟨⟨_, _, _, _, _, _, _, _, _, rfl, by unfold maxLen; omega, ⟨rfl, hd, n1, ?_⟩, ⟨rfl, fun x hx => ?_, n2, ?_⟩, ⟨rfl, fun x hx => ?_, n3, ?_⟩⟩⟩
  · rcases k1 with h0 | ⟨b, off, ha, hk⟩
    · exact .inl h0
    · exact .inr ⟨b, off, ha, fun i hi => by have := hk i hi 0 _ (by decide) rfl; simpa using this⟩
  · obtain ⟨h1, h2, h3⟩ := hs x hx
    exact ⟨by unfold maxLen; omega, w64 (m := 0) h2.1 (by omega), w64 (m := 0) h3.1 h3.2⟩
  · rcases k2 with h0 | ⟨b, off, ha, hk⟩
    · exact .inl h0
    · exact .inr ⟨b, off, ha, fun i hi => ⟨by have := hk i hi 0 _ (by decide) rfl; simpa using this, hk i hi 1 _ (by decide) rfl, hk i hi 2 _ (by decide) rfl⟩⟩
  · obtain ⟨h1, h2, h3, h4⟩ := hr x hx
    exact ⟨by unfold maxLen; omega, w64 (m := 0) h2.1 (by omega), w64 (m := 0) h1.1 h1.2, h4⟩
  · rcases k3 with h0 | ⟨b, off, ha, hk⟩
    · exact .inl h0
    · exact .inr ⟨b, off, ha, fun i hi => ⟨by have := hk i hi 0 _ (by decide) rfl; simpa using this, hk i hi 1 _ (by decide) rfl, hk i hi 2 _ (by decide) rfl, hk i hi 3 _ (by decide) rfl⟩⟩
theorem ObjF.below {B : Nat} {w w1 : World} {v : Value} {o : ObjD} (h : ObjF B w v o) (hb : Below w.heap.size w w1) : ObjF B w1 v o := by
  obtain ⟨v1, v2, v3, e, o1, o2, o3⟩ := h.form
  have g : w.grownBy w1 none := ⟨hb.os, hb.tape, hb.output, hb.size, fun k hk _ => hb.block k hk⟩
  have kp : ∀ {ty : TypeId} {k : Nat} {u : Value} {n : Nat} {cs : List Value}, w.ownsRow B ty k u n cs → w1.ownsRow B ty k u n cs := fun {ty k u n cs} hu => by
    cases e : u.ownBlock with
    | none => exact hu.kept g (.inl e)
    | some b => exact hu.kept g (.inr (by rw [e]; simp))
  exact ⟨⟨v1, v2, v3, e, kp o1, kp o2, kp o3⟩, h.isin⟩

end Go.Proofs.YtmplnkfjaeegdaaDoor

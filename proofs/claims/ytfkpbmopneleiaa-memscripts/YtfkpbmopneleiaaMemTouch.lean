/- What was touched: newTouched, read, wrote. -/
import Derived.Test.YtfkpbmopneleiaaMemListed
namespace Go.Proofs.Ytfkpbmopneleiaa
open Go.RowKit Go.Maps

theorem Touch.below {w w1 : World} {bt : Nat} {rs ws : List Int} {br bw nr nw : Nat} (h : Touch w bt rs ws br bw nr nw) (hb : Below w.heap.size w w1) : Touch w1 bt rs ws br bw nr nw :=
  ⟨(hb.cell (p := ⟨bt, 0, none⟩) (World.block_lt_of_cell? w ⟨bt, 0, none⟩ h.c0)).trans h.c0, (hb.cell (p := ⟨bt, 1, none⟩) (World.block_lt_of_cell? w ⟨bt, 1, none⟩ h.c1)).trans h.c1, h.ne, h.nt, own_map h.r hb, own_map h.w' hb⟩

theorem made_maps (X : World) : ((X.alloc (.map #[] 0)).alloc (.map #[] 0)).ownsMap Try.prog 2 unitElem X.heap.size 0 (M.set []) ∧ ((X.alloc (.map #[] 0)).alloc (.map #[] 0)).ownsMap Try.prog 2 unitElem (X.heap.size + 1) 0 (M.set []) := by
  refine ⟨(World.ownsMap_made X _ _ _).alloc _, ?_⟩
  have h := World.ownsMap_made (H := Unit) (X.alloc (.map #[] 0)) Try.prog 2 unitElem
  have e : (X.alloc (.map #[] 0)).heap.size = X.heap.size + 1 := by simp
  rw [e] at h
  exact h

set_option maxRecDepth 100000 in
set_option maxHeartbeats 1000000 in
theorem new_touched (w : World) : Calls Try.prog 28 #[] w fun e w' => e = .returned (.agg #[.map (some (w.heap.size + 1)), .map (some (w.heap.size + 2))]) ∧ w'.ownsMap Try.prog 2 unitElem (w.heap.size + 1) 0 (M.set []) ∧ w'.ownsMap Try.prog 2 unitElem (w.heap.size + 2) 0 (M.set []) ∧ w'.heap.size = w.heap.size + 3 ∧ Below w.heap.size w w' := by
  have hmm := @run_makeMap Try.prog
  go_enter Try.func28, Try.ntmps28
  go_wp2
  have h := made_maps (w.alloc (.cells #[.map (some (w.heap.size + 1)), .map (some (w.heap.size + 1 + 1))] 61))
  have e : (w.alloc (.cells #[.map (some (w.heap.size + 1)), .map (some (w.heap.size + 1 + 1))] 61)).heap.size = w.heap.size + 1 := by simp
  rw [e] at h
  refine bodyPost_ret (v := .agg #[.map (some (w.heap.size + 1)), .map (some (w.heap.size + 1 + 1))]) (by simp [results, Try.results28, go_sem]) rfl ⟨rfl, h.1, h.2, by simp, ?_⟩
  exact (((Below.refl _ _).alloc (Nat.le_refl _) _).alloc (by simp) _).alloc (by simp; omega) _

set_option maxRecDepth 100000 in
set_option maxHeartbeats 1000000 in
theorem read_any {w : World} {bt : Nat} {rs ws : List Int} {br bw nr nw : Nat} (h : Touch w bt rs ws br bw nr nw) (x : Int) (hx : (Lit.int .i64 x).wf = true) (hn : nr < maxLen) :
    Calls Try.prog 37 #[.pointer (some ⟨bt, 0, none⟩), .int .i64 x] w fun e w' => e = .returned (.tuple #[]) ∧ Touch w' bt (rs ++ [x]) ws br bw (nr + 1) nw ∧ w.grownBy w' (some br) := by
  have k0 := h.c0
  have hr := h.r
  have hkey : keyOf Try.prog 2 (.int .i64 x) = some (.int .i64 x) := keyOf_int_mk Try.underlying2 hx
  have HT : Hid _ := h
  clear h hx
  go_enter Try.func37, Try.ntmps37
  go_wp2_with (first | (at_mapUpdate; refine wpList_mapUpdate_own _ rfl _ _ _ 59 rfl 2 77 lawK Try.underlying59 (unitElem (H := Unit)) br nr _ rfl hr hn _ _ _ rfl rfl hkey _ [] unitElem_mk ?_) | go_in)
  intro w1 hown1 hg1
  go_wp2
  go_end0
  have t := HT.out
  refine ⟨rfl, ⟨hg1.cell t.c0 (by simp; exact t.nt.1), hg1.cell t.c1 (by simp; exact t.nt.1), t.ne, t.nt, ?_, t.w'.kept hg1 (by simp; exact fun e => t.ne e.symm)⟩, hg1⟩
  rw [M.set_snoc]; exact hown1

set_option maxRecDepth 100000 in
set_option maxHeartbeats 1000000 in
theorem wrote_any {w : World} {bt : Nat} {rs ws : List Int} {br bw nr nw : Nat} (h : Touch w bt rs ws br bw nr nw) (x : Int) (hx : (Lit.int .i64 x).wf = true) (hn : nw < maxLen) :
    Calls Try.prog 32 #[.pointer (some ⟨bt, 0, none⟩), .int .i64 x] w fun e w' => e = .returned (.tuple #[]) ∧ Touch w' bt rs (ws ++ [x]) br bw nr (nw + 1) ∧ w.grownBy w' (some bw) := by
  have k0 := h.c1
  have hr := h.w'
  have hkey : keyOf Try.prog 2 (.int .i64 x) = some (.int .i64 x) := keyOf_int_mk Try.underlying2 hx
  have HT : Hid _ := h
  clear h hx
  go_enter Try.func32, Try.ntmps32
  go_wp2_with (first | (at_mapUpdate; refine wpList_mapUpdate_own _ rfl _ _ _ 59 rfl 2 77 lawK Try.underlying59 (unitElem (H := Unit)) bw nw _ rfl hr hn _ _ _ rfl rfl hkey _ [] unitElem_mk ?_) | go_in)
  intro w1 hown1 hg1
  go_wp2
  go_end0
  have t := HT.out
  refine ⟨rfl, ⟨hg1.cell t.c0 (by simp; exact t.nt.2), hg1.cell t.c1 (by simp; exact t.nt.2), t.ne, t.nt, t.r.kept hg1 (by simp; exact t.ne), ?_⟩, hg1⟩
  rw [M.set_snoc]; exact hown1

end Go.Proofs.Ytfkpbmopneleiaa

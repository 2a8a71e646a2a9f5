/- lex.piece: what a source begins with. -/
import Derived.Test.YtikknlkdbjaonaaGreatDoorPBAc
namespace Go.Proofs.YtikknlkdbjaonaaGreatDoor
open Go.RowKit
set_option linter.unusedVariables false
set_option linter.unusedSimpArgs false

theorem after1 {w w' : World} {a : Array Value} {t : TypeId} (hb : Below (w.alloc (.cells a t)).heap.size (w.alloc (.cells a t)) w') :
    (∀ (o : Nat) u, a[o]? = some u → w'.cell? ⟨w.heap.size, o, none⟩ = some u) ∧ (∀ o, w'.frozen? ⟨w.heap.size, o, none⟩ = false) ∧ Below w.heap.size w w' := by
  have hz : (w.alloc (.cells a t)).heap.size = w.heap.size + 1 := by simp
  refine ⟨fun o u h => ?_, fun o => ?_, ?_⟩
  · rw [hb.cell (p := ⟨w.heap.size, o, none⟩) (by rw [hz]; show w.heap.size < _; omega)]
    exact row_cell h
  · rw [hb.frozen (p := ⟨w.heap.size, o, none⟩) (by rw [hz]; show w.heap.size < _; omega), World.frozen?_alloc_at _ _ _ _ rfl]
  · exact (bl1 w _).trans (hb.mono (by rw [hz]; omega))
theorem two_of {l : X.By} {y : Nat} (h : X.first (l.drop 1) = y) (hy : y ≠ 0) : 2 ≤ l.length := by
  match l with
  | [] => simp [X.first] at h; omega
  | [c] => simp [X.first] at h; omega
  | _ :: _ :: _ => simp

set_option maxRecDepth 100000 in
set_option maxHeartbeats 1000000 in
theorem piece_32 (s : ByteArray) (hs : s.size ≤ 20000) (h0 : 0 < s.size) (hx : s[0].toNat = 32) (w : World) (ht : Tab w) :
    Calls Tryz.prog 25 #[.string s] w fun e w' => e = .returned (X.resV (X.step s.data.toList) s.data.toList) ∧ Below w.heap.size w w' := by
  have hm : s.size ≤ maxLen := by unfold maxLen; omega
  have hl : s.data.toList.length = s.size := by simp
  have hf := first_list h0
  obtain ⟨y, hy⟩ : ∃ y, X.first (s.data.toList.drop 1) = y := ⟨_, rfl⟩
  have hsec : ∀ w, Calls Tryz.prog 47 #[.string s] w fun e w' => e = .returned (.int .u8 y) ∧ w' = w := fun w => by rw [← hy]; exact second_any s hm w
  have h2 : y ≠ 0 → 2 ≤ s.size := fun h => by rw [← hl]; exact two_of hy h
  have HT : Hid _ := ht
  clear ht
  have hst : X.step s.data.toList = some (0, 1, 0) := by simp [X.step, hf, hx]
  rw [hst]
  clear hst hf
  have hc : ∀ w, Calls Tryz.prog 48 #[.int .i64 0, .string s, .int .i64 1] w fun e w' => e = .returned (.agg #[.int .i64 0, .string (X.str (s.data.toList.take 1)), .int .i64 0, .int .i64 0]) ∧ Below w.heap.size w w' := fun w => (cut_any 0 s 1 (by omega) hm w).mono (by rintro e w' ⟨rfl, rfl⟩; exact ⟨rfl, bl1 _ _⟩)
  go_enter Tryz.func25, Tryz.ntmps25
  go_wp2_with fail
  go_quiet ((go_at_call 47; exact Calls.quiet_of_same (hsec _)))
  go_wp2_with (first | (go_at_call 48; refine (hc _).mono ?_; rintro e w' ⟨rfl, HB⟩; obtain ⟨hy', hyf, hB0⟩ := after1 (w' := w') (t := 48) (a := #[.int .i64 0, .string { data := #[] }, .int .i64 0, .int .i64 0]) (w := w) (by exact (below_drew' (Below.refl (w.alloc (.cells #[.int .i64 0, .string { data := #[] }, .int .i64 0, .int .i64 0] 48)).heap.size _) nq).trans HB); have y0 : w'.cell? ⟨w.heap.size, 0, none⟩ = some (.int .i64 0) := hy' 0 _ rfl; have y1 : w'.cell? ⟨w.heap.size, 1, none⟩ = some (.string { data := #[] }) := hy' 1 _ rfl; have y2 : w'.cell? ⟨w.heap.size, 2, none⟩ = some (.int .i64 0) := hy' 2 _ rfl; have y3 : w'.cell? ⟨w.heap.size, 3, none⟩ = some (.int .i64 0) := hy' 3 _ rfl; have g0 := hyf 0; have g1 := hyf 1; have g2 := hyf 2; have g3 := hyf 3; have HBL : Hid _ := hB0; clear hy' hyf hB0 HB))
  exact bodyPost_ret (v := X.resV (some (0, 1, 0)) s.data.toList) (by simp [results, Tryz.results25, go_sem, X.resV, *]) rfl ⟨rfl, bset4 HBL.out _ _ _ _⟩

set_option maxRecDepth 100000 in
set_option maxHeartbeats 1000000 in
theorem piece_9 (s : ByteArray) (hs : s.size ≤ 20000) (h0 : 0 < s.size) (hx : s[0].toNat = 9) (w : World) (ht : Tab w) :
    Calls Tryz.prog 25 #[.string s] w fun e w' => e = .returned (X.resV (X.step s.data.toList) s.data.toList) ∧ Below w.heap.size w w' := by
  have hm : s.size ≤ maxLen := by unfold maxLen; omega
  have hl : s.data.toList.length = s.size := by simp
  have hf := first_list h0
  obtain ⟨y, hy⟩ : ∃ y, X.first (s.data.toList.drop 1) = y := ⟨_, rfl⟩
  have hsec : ∀ w, Calls Tryz.prog 47 #[.string s] w fun e w' => e = .returned (.int .u8 y) ∧ w' = w := fun w => by rw [← hy]; exact second_any s hm w
  have h2 : y ≠ 0 → 2 ≤ s.size := fun h => by rw [← hl]; exact two_of hy h
  have HT : Hid _ := ht
  clear ht
  have hst : X.step s.data.toList = some (0, 1, 0) := by simp [X.step, hf, hx]
  rw [hst]
  clear hst hf
  have hc : ∀ w, Calls Tryz.prog 48 #[.int .i64 0, .string s, .int .i64 1] w fun e w' => e = .returned (.agg #[.int .i64 0, .string (X.str (s.data.toList.take 1)), .int .i64 0, .int .i64 0]) ∧ Below w.heap.size w w' := fun w => (cut_any 0 s 1 (by omega) hm w).mono (by rintro e w' ⟨rfl, rfl⟩; exact ⟨rfl, bl1 _ _⟩)
  go_enter Tryz.func25, Tryz.ntmps25
  go_wp2_with fail
  go_quiet ((go_at_call 47; exact Calls.quiet_of_same (hsec _)))
  go_wp2_with (first | (go_at_call 48; refine (hc _).mono ?_; rintro e w' ⟨rfl, HB⟩; obtain ⟨hy', hyf, hB0⟩ := after1 (w' := w') (t := 48) (a := #[.int .i64 0, .string { data := #[] }, .int .i64 0, .int .i64 0]) (w := w) (by exact (below_drew' (Below.refl (w.alloc (.cells #[.int .i64 0, .string { data := #[] }, .int .i64 0, .int .i64 0] 48)).heap.size _) nq).trans HB); have y0 : w'.cell? ⟨w.heap.size, 0, none⟩ = some (.int .i64 0) := hy' 0 _ rfl; have y1 : w'.cell? ⟨w.heap.size, 1, none⟩ = some (.string { data := #[] }) := hy' 1 _ rfl; have y2 : w'.cell? ⟨w.heap.size, 2, none⟩ = some (.int .i64 0) := hy' 2 _ rfl; have y3 : w'.cell? ⟨w.heap.size, 3, none⟩ = some (.int .i64 0) := hy' 3 _ rfl; have g0 := hyf 0; have g1 := hyf 1; have g2 := hyf 2; have g3 := hyf 3; have HBL : Hid _ := hB0; clear hy' hyf hB0 HB))
  exact bodyPost_ret (v := X.resV (some (0, 1, 0)) s.data.toList) (by simp [results, Tryz.results25, go_sem, X.resV, *]) rfl ⟨rfl, bset4 HBL.out _ _ _ _⟩

set_option maxRecDepth 100000 in
set_option maxHeartbeats 1000000 in
theorem piece_10 (s : ByteArray) (hs : s.size ≤ 20000) (h0 : 0 < s.size) (hx : s[0].toNat = 10) (w : World) (ht : Tab w) :
    Calls Tryz.prog 25 #[.string s] w fun e w' => e = .returned (X.resV (X.step s.data.toList) s.data.toList) ∧ Below w.heap.size w w' := by
  have hm : s.size ≤ maxLen := by unfold maxLen; omega
  have hl : s.data.toList.length = s.size := by simp
  have hf := first_list h0
  obtain ⟨y, hy⟩ : ∃ y, X.first (s.data.toList.drop 1) = y := ⟨_, rfl⟩
  have hsec : ∀ w, Calls Tryz.prog 47 #[.string s] w fun e w' => e = .returned (.int .u8 y) ∧ w' = w := fun w => by rw [← hy]; exact second_any s hm w
  have h2 : y ≠ 0 → 2 ≤ s.size := fun h => by rw [← hl]; exact two_of hy h
  have HT : Hid _ := ht
  clear ht
  have hst : X.step s.data.toList = some (0, 1, 0) := by simp [X.step, hf, hx]
  rw [hst]
  clear hst hf
  have hc : ∀ w, Calls Tryz.prog 48 #[.int .i64 0, .string s, .int .i64 1] w fun e w' => e = .returned (.agg #[.int .i64 0, .string (X.str (s.data.toList.take 1)), .int .i64 0, .int .i64 0]) ∧ Below w.heap.size w w' := fun w => (cut_any 0 s 1 (by omega) hm w).mono (by rintro e w' ⟨rfl, rfl⟩; exact ⟨rfl, bl1 _ _⟩)
  go_enter Tryz.func25, Tryz.ntmps25
  go_wp2_with fail
  go_quiet ((go_at_call 47; exact Calls.quiet_of_same (hsec _)))
  go_wp2_with (first | (go_at_call 48; refine (hc _).mono ?_; rintro e w' ⟨rfl, HB⟩; obtain ⟨hy', hyf, hB0⟩ := after1 (w' := w') (t := 48) (a := #[.int .i64 0, .string { data := #[] }, .int .i64 0, .int .i64 0]) (w := w) (by exact (below_drew' (Below.refl (w.alloc (.cells #[.int .i64 0, .string { data := #[] }, .int .i64 0, .int .i64 0] 48)).heap.size _) nq).trans HB); have y0 : w'.cell? ⟨w.heap.size, 0, none⟩ = some (.int .i64 0) := hy' 0 _ rfl; have y1 : w'.cell? ⟨w.heap.size, 1, none⟩ = some (.string { data := #[] }) := hy' 1 _ rfl; have y2 : w'.cell? ⟨w.heap.size, 2, none⟩ = some (.int .i64 0) := hy' 2 _ rfl; have y3 : w'.cell? ⟨w.heap.size, 3, none⟩ = some (.int .i64 0) := hy' 3 _ rfl; have g0 := hyf 0; have g1 := hyf 1; have g2 := hyf 2; have g3 := hyf 3; have HBL : Hid _ := hB0; clear hy' hyf hB0 HB))
  exact bodyPost_ret (v := X.resV (some (0, 1, 0)) s.data.toList) (by simp [results, Tryz.results25, go_sem, X.resV, *]) rfl ⟨rfl, bset4 HBL.out _ _ _ _⟩

set_option maxRecDepth 100000 in
set_option maxHeartbeats 1000000 in
theorem piece_38 (s : ByteArray) (hs : s.size ≤ 20000) (h0 : 0 < s.size) (hx : s[0].toNat = 38) (w : World) (ht : Tab w) :
    Calls Tryz.prog 25 #[.string s] w fun e w' => e = .returned (X.resV (X.step s.data.toList) s.data.toList) ∧ Below w.heap.size w w' := by
  have hm : s.size ≤ maxLen := by unfold maxLen; omega
  have hl : s.data.toList.length = s.size := by simp
  have hf := first_list h0
  obtain ⟨y, hy⟩ : ∃ y, X.first (s.data.toList.drop 1) = y := ⟨_, rfl⟩
  have hsec : ∀ w, Calls Tryz.prog 47 #[.string s] w fun e w' => e = .returned (.int .u8 y) ∧ w' = w := fun w => by rw [← hy]; exact second_any s hm w
  have h2 : y ≠ 0 → 2 ≤ s.size := fun h => by rw [← hl]; exact two_of hy h
  have HT : Hid _ := ht
  clear ht
  by_cases hyy : y = 38
  · have hst : X.step s.data.toList = some (4, 2, 0) := by rw [List.drop_one] at hy; simp [X.step, hf, hx, hy, hyy]
    rw [hst]
    have h3 := h2 (by omega)
    have he : ((y : Int) == 38) = true := by simp; omega
    clear hyy
    clear hst hf
    have hc : ∀ w, Calls Tryz.prog 48 #[.int .i64 4, .string s, .int .i64 2] w fun e w' => e = .returned (.agg #[.int .i64 4, .string (X.str (s.data.toList.take 2)), .int .i64 0, .int .i64 0]) ∧ Below w.heap.size w w' := fun w => (cut_any 4 s 2 (by omega) hm w).mono (by rintro e w' ⟨rfl, rfl⟩; exact ⟨rfl, bl1 _ _⟩)
    go_enter Tryz.func25, Tryz.ntmps25
    go_wp2_with fail
    go_quiet ((go_at_call 47; exact Calls.quiet_of_same (hsec _)))
    go_wp2_with (first | (go_at_call 48; refine (hc _).mono ?_; rintro e w' ⟨rfl, HB⟩; obtain ⟨hy', hyf, hB0⟩ := after1 (w' := w') (t := 48) (a := #[.int .i64 0, .string { data := #[] }, .int .i64 0, .int .i64 0]) (w := w) (by exact (below_drew' (Below.refl (w.alloc (.cells #[.int .i64 0, .string { data := #[] }, .int .i64 0, .int .i64 0] 48)).heap.size _) nq).trans HB); have y0 : w'.cell? ⟨w.heap.size, 0, none⟩ = some (.int .i64 0) := hy' 0 _ rfl; have y1 : w'.cell? ⟨w.heap.size, 1, none⟩ = some (.string { data := #[] }) := hy' 1 _ rfl; have y2 : w'.cell? ⟨w.heap.size, 2, none⟩ = some (.int .i64 0) := hy' 2 _ rfl; have y3 : w'.cell? ⟨w.heap.size, 3, none⟩ = some (.int .i64 0) := hy' 3 _ rfl; have g0 := hyf 0; have g1 := hyf 1; have g2 := hyf 2; have g3 := hyf 3; have HBL : Hid _ := hB0; clear hy' hyf hB0 HB))
    exact bodyPost_ret (v := X.resV (some (4, 2, 0)) s.data.toList) (by simp [results, Tryz.results25, go_sem, X.resV, *]) rfl ⟨rfl, bset4 HBL.out _ _ _ _⟩
  · have hst : X.step s.data.toList = some (4, 1, 0) := by rw [List.drop_one] at hy; simp [X.step, hf, hx, hy, hyy]
    rw [hst]
    have he : ((y : Int) == 38) = false := by simp; omega
    clear hyy
    clear hst hf
    have hc : ∀ w, Calls Tryz.prog 48 #[.int .i64 4, .string s, .int .i64 1] w fun e w' => e = .returned (.agg #[.int .i64 4, .string (X.str (s.data.toList.take 1)), .int .i64 0, .int .i64 0]) ∧ Below w.heap.size w w' := fun w => (cut_any 4 s 1 (by omega) hm w).mono (by rintro e w' ⟨rfl, rfl⟩; exact ⟨rfl, bl1 _ _⟩)
    go_enter Tryz.func25, Tryz.ntmps25
    go_wp2_with fail
    go_quiet ((go_at_call 47; exact Calls.quiet_of_same (hsec _)))
    go_wp2_with (first | (go_at_call 48; refine (hc _).mono ?_; rintro e w' ⟨rfl, HB⟩; obtain ⟨hy', hyf, hB0⟩ := after1 (w' := w') (t := 48) (a := #[.int .i64 0, .string { data := #[] }, .int .i64 0, .int .i64 0]) (w := w) (by exact (below_drew' (Below.refl (w.alloc (.cells #[.int .i64 0, .string { data := #[] }, .int .i64 0, .int .i64 0] 48)).heap.size _) nq).trans HB); have y0 : w'.cell? ⟨w.heap.size, 0, none⟩ = some (.int .i64 0) := hy' 0 _ rfl; have y1 : w'.cell? ⟨w.heap.size, 1, none⟩ = some (.string { data := #[] }) := hy' 1 _ rfl; have y2 : w'.cell? ⟨w.heap.size, 2, none⟩ = some (.int .i64 0) := hy' 2 _ rfl; have y3 : w'.cell? ⟨w.heap.size, 3, none⟩ = some (.int .i64 0) := hy' 3 _ rfl; have g0 := hyf 0; have g1 := hyf 1; have g2 := hyf 2; have g3 := hyf 3; have HBL : Hid _ := hB0; clear hy' hyf hB0 HB))
    exact bodyPost_ret (v := X.resV (some (4, 1, 0)) s.data.toList) (by simp [results, Tryz.results25, go_sem, X.resV, *]) rfl ⟨rfl, bset4 HBL.out _ _ _ _⟩

set_option maxRecDepth 100000 in
set_option maxHeartbeats 1000000 in
theorem piece_124 (s : ByteArray) (hs : s.size ≤ 20000) (h0 : 0 < s.size) (hx : s[0].toNat = 124) (w : World) (ht : Tab w) :
    Calls Tryz.prog 25 #[.string s] w fun e w' => e = .returned (X.resV (X.step s.data.toList) s.data.toList) ∧ Below w.heap.size w w' := by
  have hm : s.size ≤ maxLen := by unfold maxLen; omega
  have hl : s.data.toList.length = s.size := by simp
  have hf := first_list h0
  obtain ⟨y, hy⟩ : ∃ y, X.first (s.data.toList.drop 1) = y := ⟨_, rfl⟩
  have hsec : ∀ w, Calls Tryz.prog 47 #[.string s] w fun e w' => e = .returned (.int .u8 y) ∧ w' = w := fun w => by rw [← hy]; exact second_any s hm w
  have h2 : y ≠ 0 → 2 ≤ s.size := fun h => by rw [← hl]; exact two_of hy h
  have HT : Hid _ := ht
  clear ht
  by_cases hyy : y = 124
  · have hst : X.step s.data.toList = some (4, 2, 0) := by rw [List.drop_one] at hy; simp [X.step, hf, hx, hy, hyy]
    rw [hst]
    have h3 := h2 (by omega)
    have he : ((y : Int) == 124) = true := by simp; omega
    clear hyy
    clear hst hf
    have hc : ∀ w, Calls Tryz.prog 48 #[.int .i64 4, .string s, .int .i64 2] w fun e w' => e = .returned (.agg #[.int .i64 4, .string (X.str (s.data.toList.take 2)), .int .i64 0, .int .i64 0]) ∧ Below w.heap.size w w' := fun w => (cut_any 4 s 2 (by omega) hm w).mono (by rintro e w' ⟨rfl, rfl⟩; exact ⟨rfl, bl1 _ _⟩)
    go_enter Tryz.func25, Tryz.ntmps25
    go_wp2_with fail
    go_quiet ((go_at_call 47; exact Calls.quiet_of_same (hsec _)))
    go_wp2_with (first | (go_at_call 48; refine (hc _).mono ?_; rintro e w' ⟨rfl, HB⟩; obtain ⟨hy', hyf, hB0⟩ := after1 (w' := w') (t := 48) (a := #[.int .i64 0, .string { data := #[] }, .int .i64 0, .int .i64 0]) (w := w) (by exact (below_drew' (Below.refl (w.alloc (.cells #[.int .i64 0, .string { data := #[] }, .int .i64 0, .int .i64 0] 48)).heap.size _) nq).trans HB); have y0 : w'.cell? ⟨w.heap.size, 0, none⟩ = some (.int .i64 0) := hy' 0 _ rfl; have y1 : w'.cell? ⟨w.heap.size, 1, none⟩ = some (.string { data := #[] }) := hy' 1 _ rfl; have y2 : w'.cell? ⟨w.heap.size, 2, none⟩ = some (.int .i64 0) := hy' 2 _ rfl; have y3 : w'.cell? ⟨w.heap.size, 3, none⟩ = some (.int .i64 0) := hy' 3 _ rfl; have g0 := hyf 0; have g1 := hyf 1; have g2 := hyf 2; have g3 := hyf 3; have HBL : Hid _ := hB0; clear hy' hyf hB0 HB))
    exact bodyPost_ret (v := X.resV (some (4, 2, 0)) s.data.toList) (by simp [results, Tryz.results25, go_sem, X.resV, *]) rfl ⟨rfl, bset4 HBL.out _ _ _ _⟩
  · have hst : X.step s.data.toList = some (4, 1, 0) := by rw [List.drop_one] at hy; simp [X.step, hf, hx, hy, hyy]
    rw [hst]
    have he : ((y : Int) == 124) = false := by simp; omega
    clear hyy
    clear hst hf
    have hc : ∀ w, Calls Tryz.prog 48 #[.int .i64 4, .string s, .int .i64 1] w fun e w' => e = .returned (.agg #[.int .i64 4, .string (X.str (s.data.toList.take 1)), .int .i64 0, .int .i64 0]) ∧ Below w.heap.size w w' := fun w => (cut_any 4 s 1 (by omega) hm w).mono (by rintro e w' ⟨rfl, rfl⟩; exact ⟨rfl, bl1 _ _⟩)
    go_enter Tryz.func25, Tryz.ntmps25
    go_wp2_with fail
    go_quiet ((go_at_call 47; exact Calls.quiet_of_same (hsec _)))
    go_wp2_with (first | (go_at_call 48; refine (hc _).mono ?_; rintro e w' ⟨rfl, HB⟩; obtain ⟨hy', hyf, hB0⟩ := after1 (w' := w') (t := 48) (a := #[.int .i64 0, .string { data := #[] }, .int .i64 0, .int .i64 0]) (w := w) (by exact (below_drew' (Below.refl (w.alloc (.cells #[.int .i64 0, .string { data := #[] }, .int .i64 0, .int .i64 0] 48)).heap.size _) nq).trans HB); have y0 : w'.cell? ⟨w.heap.size, 0, none⟩ = some (.int .i64 0) := hy' 0 _ rfl; have y1 : w'.cell? ⟨w.heap.size, 1, none⟩ = some (.string { data := #[] }) := hy' 1 _ rfl; have y2 : w'.cell? ⟨w.heap.size, 2, none⟩ = some (.int .i64 0) := hy' 2 _ rfl; have y3 : w'.cell? ⟨w.heap.size, 3, none⟩ = some (.int .i64 0) := hy' 3 _ rfl; have g0 := hyf 0; have g1 := hyf 1; have g2 := hyf 2; have g3 := hyf 3; have HBL : Hid _ := hB0; clear hy' hyf hB0 HB))
    exact bodyPost_ret (v := X.resV (some (4, 1, 0)) s.data.toList) (by simp [results, Tryz.results25, go_sem, X.resV, *]) rfl ⟨rfl, bset4 HBL.out _ _ _ _⟩

set_option maxRecDepth 100000 in
set_option maxHeartbeats 1000000 in
theorem piece_60 (s : ByteArray) (hs : s.size ≤ 20000) (h0 : 0 < s.size) (hx : s[0].toNat = 60) (w : World) (ht : Tab w) :
    Calls Tryz.prog 25 #[.string s] w fun e w' => e = .returned (X.resV (X.step s.data.toList) s.data.toList) ∧ Below w.heap.size w w' := by
  have hm : s.size ≤ maxLen := by unfold maxLen; omega
  have hl : s.data.toList.length = s.size := by simp
  have hf := first_list h0
  obtain ⟨y, hy⟩ : ∃ y, X.first (s.data.toList.drop 1) = y := ⟨_, rfl⟩
  have hsec : ∀ w, Calls Tryz.prog 47 #[.string s] w fun e w' => e = .returned (.int .u8 y) ∧ w' = w := fun w => by rw [← hy]; exact second_any s hm w
  have h2 : y ≠ 0 → 2 ≤ s.size := fun h => by rw [← hl]; exact two_of hy h
  have HT : Hid _ := ht
  clear ht
  by_cases hyy : y = 60
  · have hst : X.step s.data.toList = some (4, 2, 0) := by rw [List.drop_one] at hy; simp [X.step, hf, hx, hy, hyy]
    rw [hst]
    have h3 := h2 (by omega)
    have he : ((y : Int) == 60) = true := by simp; omega
    clear hyy
    clear hst hf
    have hc : ∀ w, Calls Tryz.prog 48 #[.int .i64 4, .string s, .int .i64 2] w fun e w' => e = .returned (.agg #[.int .i64 4, .string (X.str (s.data.toList.take 2)), .int .i64 0, .int .i64 0]) ∧ Below w.heap.size w w' := fun w => (cut_any 4 s 2 (by omega) hm w).mono (by rintro e w' ⟨rfl, rfl⟩; exact ⟨rfl, bl1 _ _⟩)
    go_enter Tryz.func25, Tryz.ntmps25
    go_wp2_with fail
    go_quiet ((go_at_call 47; exact Calls.quiet_of_same (hsec _)))
    go_wp2_with (first | (go_at_call 48; refine (hc _).mono ?_; rintro e w' ⟨rfl, HB⟩; obtain ⟨hy', hyf, hB0⟩ := after1 (w' := w') (t := 48) (a := #[.int .i64 0, .string { data := #[] }, .int .i64 0, .int .i64 0]) (w := w) (by exact (below_drew' (Below.refl (w.alloc (.cells #[.int .i64 0, .string { data := #[] }, .int .i64 0, .int .i64 0] 48)).heap.size _) nq).trans HB); have y0 : w'.cell? ⟨w.heap.size, 0, none⟩ = some (.int .i64 0) := hy' 0 _ rfl; have y1 : w'.cell? ⟨w.heap.size, 1, none⟩ = some (.string { data := #[] }) := hy' 1 _ rfl; have y2 : w'.cell? ⟨w.heap.size, 2, none⟩ = some (.int .i64 0) := hy' 2 _ rfl; have y3 : w'.cell? ⟨w.heap.size, 3, none⟩ = some (.int .i64 0) := hy' 3 _ rfl; have g0 := hyf 0; have g1 := hyf 1; have g2 := hyf 2; have g3 := hyf 3; have HBL : Hid _ := hB0; clear hy' hyf hB0 HB))
    exact bodyPost_ret (v := X.resV (some (4, 2, 0)) s.data.toList) (by simp [results, Tryz.results25, go_sem, X.resV, *]) rfl ⟨rfl, bset4 HBL.out _ _ _ _⟩
  have he : ((y : Int) == 60) = false := by simp; omega
  by_cases hyz : y = 61
  · have hst : X.step s.data.toList = some (4, 2, 0) := by rw [List.drop_one] at hy; simp [X.step, hf, hx, hy, hyz]
    rw [hst]
    have h3 := h2 (by omega)
    have he2 : ((y : Int) == 61) = true := by simp; omega
    clear hyy hyz
    clear hst hf
    have hc : ∀ w, Calls Tryz.prog 48 #[.int .i64 4, .string s, .int .i64 2] w fun e w' => e = .returned (.agg #[.int .i64 4, .string (X.str (s.data.toList.take 2)), .int .i64 0, .int .i64 0]) ∧ Below w.heap.size w w' := fun w => (cut_any 4 s 2 (by omega) hm w).mono (by rintro e w' ⟨rfl, rfl⟩; exact ⟨rfl, bl1 _ _⟩)
    go_enter Tryz.func25, Tryz.ntmps25
    go_wp2_with fail
    go_quiet ((go_at_call 47; exact Calls.quiet_of_same (hsec _)))
    go_wp2_with (first | (go_at_call 48; refine (hc _).mono ?_; rintro e w' ⟨rfl, HB⟩; obtain ⟨hy', hyf, hB0⟩ := after1 (w' := w') (t := 48) (a := #[.int .i64 0, .string { data := #[] }, .int .i64 0, .int .i64 0]) (w := w) (by exact (below_drew' (Below.refl (w.alloc (.cells #[.int .i64 0, .string { data := #[] }, .int .i64 0, .int .i64 0] 48)).heap.size _) nq).trans HB); have y0 : w'.cell? ⟨w.heap.size, 0, none⟩ = some (.int .i64 0) := hy' 0 _ rfl; have y1 : w'.cell? ⟨w.heap.size, 1, none⟩ = some (.string { data := #[] }) := hy' 1 _ rfl; have y2 : w'.cell? ⟨w.heap.size, 2, none⟩ = some (.int .i64 0) := hy' 2 _ rfl; have y3 : w'.cell? ⟨w.heap.size, 3, none⟩ = some (.int .i64 0) := hy' 3 _ rfl; have g0 := hyf 0; have g1 := hyf 1; have g2 := hyf 2; have g3 := hyf 3; have HBL : Hid _ := hB0; clear hy' hyf hB0 HB))
    exact bodyPost_ret (v := X.resV (some (4, 2, 0)) s.data.toList) (by simp [results, Tryz.results25, go_sem, X.resV, *]) rfl ⟨rfl, bset4 HBL.out _ _ _ _⟩
  · have hst : X.step s.data.toList = some (4, 1, 0) := by rw [List.drop_one] at hy; simp [X.step, hf, hx, hy, hyy, hyz]
    rw [hst]
    have he2 : ((y : Int) == 61) = false := by simp; omega
    clear hyy hyz
    clear hst hf
    have hc : ∀ w, Calls Tryz.prog 48 #[.int .i64 4, .string s, .int .i64 1] w fun e w' => e = .returned (.agg #[.int .i64 4, .string (X.str (s.data.toList.take 1)), .int .i64 0, .int .i64 0]) ∧ Below w.heap.size w w' := fun w => (cut_any 4 s 1 (by omega) hm w).mono (by rintro e w' ⟨rfl, rfl⟩; exact ⟨rfl, bl1 _ _⟩)
    go_enter Tryz.func25, Tryz.ntmps25
    go_wp2_with fail
    go_quiet ((go_at_call 47; exact Calls.quiet_of_same (hsec _)))
    go_wp2_with (first | (go_at_call 48; refine (hc _).mono ?_; rintro e w' ⟨rfl, HB⟩; obtain ⟨hy', hyf, hB0⟩ := after1 (w' := w') (t := 48) (a := #[.int .i64 0, .string { data := #[] }, .int .i64 0, .int .i64 0]) (w := w) (by exact (below_drew' (Below.refl (w.alloc (.cells #[.int .i64 0, .string { data := #[] }, .int .i64 0, .int .i64 0] 48)).heap.size _) nq).trans HB); have y0 : w'.cell? ⟨w.heap.size, 0, none⟩ = some (.int .i64 0) := hy' 0 _ rfl; have y1 : w'.cell? ⟨w.heap.size, 1, none⟩ = some (.string { data := #[] }) := hy' 1 _ rfl; have y2 : w'.cell? ⟨w.heap.size, 2, none⟩ = some (.int .i64 0) := hy' 2 _ rfl; have y3 : w'.cell? ⟨w.heap.size, 3, none⟩ = some (.int .i64 0) := hy' 3 _ rfl; have g0 := hyf 0; have g1 := hyf 1; have g2 := hyf 2; have g3 := hyf 3; have HBL : Hid _ := hB0; clear hy' hyf hB0 HB))
    exact bodyPost_ret (v := X.resV (some (4, 1, 0)) s.data.toList) (by simp [results, Tryz.results25, go_sem, X.resV, *]) rfl ⟨rfl, bset4 HBL.out _ _ _ _⟩

set_option maxRecDepth 100000 in
set_option maxHeartbeats 1000000 in
theorem piece_62 (s : ByteArray) (hs : s.size ≤ 20000) (h0 : 0 < s.size) (hx : s[0].toNat = 62) (w : World) (ht : Tab w) :
    Calls Tryz.prog 25 #[.string s] w fun e w' => e = .returned (X.resV (X.step s.data.toList) s.data.toList) ∧ Below w.heap.size w w' := by
  have hm : s.size ≤ maxLen := by unfold maxLen; omega
  have hl : s.data.toList.length = s.size := by simp
  have hf := first_list h0
  obtain ⟨y, hy⟩ : ∃ y, X.first (s.data.toList.drop 1) = y := ⟨_, rfl⟩
  have hsec : ∀ w, Calls Tryz.prog 47 #[.string s] w fun e w' => e = .returned (.int .u8 y) ∧ w' = w := fun w => by rw [← hy]; exact second_any s hm w
  have h2 : y ≠ 0 → 2 ≤ s.size := fun h => by rw [← hl]; exact two_of hy h
  have HT : Hid _ := ht
  clear ht
  by_cases hyy : y = 62
  · have hst : X.step s.data.toList = some (4, 2, 0) := by rw [List.drop_one] at hy; simp [X.step, hf, hx, hy, hyy]
    rw [hst]
    have h3 := h2 (by omega)
    have he : ((y : Int) == 62) = true := by simp; omega
    clear hyy
    clear hst hf
    have hc : ∀ w, Calls Tryz.prog 48 #[.int .i64 4, .string s, .int .i64 2] w fun e w' => e = .returned (.agg #[.int .i64 4, .string (X.str (s.data.toList.take 2)), .int .i64 0, .int .i64 0]) ∧ Below w.heap.size w w' := fun w => (cut_any 4 s 2 (by omega) hm w).mono (by rintro e w' ⟨rfl, rfl⟩; exact ⟨rfl, bl1 _ _⟩)
    go_enter Tryz.func25, Tryz.ntmps25
    go_wp2_with fail
    go_quiet ((go_at_call 47; exact Calls.quiet_of_same (hsec _)))
    go_wp2_with (first | (go_at_call 48; refine (hc _).mono ?_; rintro e w' ⟨rfl, HB⟩; obtain ⟨hy', hyf, hB0⟩ := after1 (w' := w') (t := 48) (a := #[.int .i64 0, .string { data := #[] }, .int .i64 0, .int .i64 0]) (w := w) (by exact (below_drew' (Below.refl (w.alloc (.cells #[.int .i64 0, .string { data := #[] }, .int .i64 0, .int .i64 0] 48)).heap.size _) nq).trans HB); have y0 : w'.cell? ⟨w.heap.size, 0, none⟩ = some (.int .i64 0) := hy' 0 _ rfl; have y1 : w'.cell? ⟨w.heap.size, 1, none⟩ = some (.string { data := #[] }) := hy' 1 _ rfl; have y2 : w'.cell? ⟨w.heap.size, 2, none⟩ = some (.int .i64 0) := hy' 2 _ rfl; have y3 : w'.cell? ⟨w.heap.size, 3, none⟩ = some (.int .i64 0) := hy' 3 _ rfl; have g0 := hyf 0; have g1 := hyf 1; have g2 := hyf 2; have g3 := hyf 3; have HBL : Hid _ := hB0; clear hy' hyf hB0 HB))
    exact bodyPost_ret (v := X.resV (some (4, 2, 0)) s.data.toList) (by simp [results, Tryz.results25, go_sem, X.resV, *]) rfl ⟨rfl, bset4 HBL.out _ _ _ _⟩
  have he : ((y : Int) == 62) = false := by simp; omega
  by_cases hyz : y = 61
  · have hst : X.step s.data.toList = some (4, 2, 0) := by rw [List.drop_one] at hy; simp [X.step, hf, hx, hy, hyz]
    rw [hst]
    have h3 := h2 (by omega)
    have he2 : ((y : Int) == 61) = true := by simp; omega
    clear hyy hyz
    clear hst hf
    have hc : ∀ w, Calls Tryz.prog 48 #[.int .i64 4, .string s, .int .i64 2] w fun e w' => e = .returned (.agg #[.int .i64 4, .string (X.str (s.data.toList.take 2)), .int .i64 0, .int .i64 0]) ∧ Below w.heap.size w w' := fun w => (cut_any 4 s 2 (by omega) hm w).mono (by rintro e w' ⟨rfl, rfl⟩; exact ⟨rfl, bl1 _ _⟩)
    go_enter Tryz.func25, Tryz.ntmps25
    go_wp2_with fail
    go_quiet ((go_at_call 47; exact Calls.quiet_of_same (hsec _)))
    go_wp2_with (first | (go_at_call 48; refine (hc _).mono ?_; rintro e w' ⟨rfl, HB⟩; obtain ⟨hy', hyf, hB0⟩ := after1 (w' := w') (t := 48) (a := #[.int .i64 0, .string { data := #[] }, .int .i64 0, .int .i64 0]) (w := w) (by exact (below_drew' (Below.refl (w.alloc (.cells #[.int .i64 0, .string { data := #[] }, .int .i64 0, .int .i64 0] 48)).heap.size _) nq).trans HB); have y0 : w'.cell? ⟨w.heap.size, 0, none⟩ = some (.int .i64 0) := hy' 0 _ rfl; have y1 : w'.cell? ⟨w.heap.size, 1, none⟩ = some (.string { data := #[] }) := hy' 1 _ rfl; have y2 : w'.cell? ⟨w.heap.size, 2, none⟩ = some (.int .i64 0) := hy' 2 _ rfl; have y3 : w'.cell? ⟨w.heap.size, 3, none⟩ = some (.int .i64 0) := hy' 3 _ rfl; have g0 := hyf 0; have g1 := hyf 1; have g2 := hyf 2; have g3 := hyf 3; have HBL : Hid _ := hB0; clear hy' hyf hB0 HB))
    exact bodyPost_ret (v := X.resV (some (4, 2, 0)) s.data.toList) (by simp [results, Tryz.results25, go_sem, X.resV, *]) rfl ⟨rfl, bset4 HBL.out _ _ _ _⟩
  · have hst : X.step s.data.toList = some (4, 1, 0) := by rw [List.drop_one] at hy; simp [X.step, hf, hx, hy, hyy, hyz]
    rw [hst]
    have he2 : ((y : Int) == 61) = false := by simp; omega
    clear hyy hyz
    clear hst hf
    have hc : ∀ w, Calls Tryz.prog 48 #[.int .i64 4, .string s, .int .i64 1] w fun e w' => e = .returned (.agg #[.int .i64 4, .string (X.str (s.data.toList.take 1)), .int .i64 0, .int .i64 0]) ∧ Below w.heap.size w w' := fun w => (cut_any 4 s 1 (by omega) hm w).mono (by rintro e w' ⟨rfl, rfl⟩; exact ⟨rfl, bl1 _ _⟩)
    go_enter Tryz.func25, Tryz.ntmps25
    go_wp2_with fail
    go_quiet ((go_at_call 47; exact Calls.quiet_of_same (hsec _)))
    go_wp2_with (first | (go_at_call 48; refine (hc _).mono ?_; rintro e w' ⟨rfl, HB⟩; obtain ⟨hy', hyf, hB0⟩ := after1 (w' := w') (t := 48) (a := #[.int .i64 0, .string { data := #[] }, .int .i64 0, .int .i64 0]) (w := w) (by exact (below_drew' (Below.refl (w.alloc (.cells #[.int .i64 0, .string { data := #[] }, .int .i64 0, .int .i64 0] 48)).heap.size _) nq).trans HB); have y0 : w'.cell? ⟨w.heap.size, 0, none⟩ = some (.int .i64 0) := hy' 0 _ rfl; have y1 : w'.cell? ⟨w.heap.size, 1, none⟩ = some (.string { data := #[] }) := hy' 1 _ rfl; have y2 : w'.cell? ⟨w.heap.size, 2, none⟩ = some (.int .i64 0) := hy' 2 _ rfl; have y3 : w'.cell? ⟨w.heap.size, 3, none⟩ = some (.int .i64 0) := hy' 3 _ rfl; have g0 := hyf 0; have g1 := hyf 1; have g2 := hyf 2; have g3 := hyf 3; have HBL : Hid _ := hB0; clear hy' hyf hB0 HB))
    exact bodyPost_ret (v := X.resV (some (4, 1, 0)) s.data.toList) (by simp [results, Tryz.results25, go_sem, X.resV, *]) rfl ⟨rfl, bset4 HBL.out _ _ _ _⟩

set_option maxRecDepth 100000 in
set_option maxHeartbeats 1000000 in
theorem piece_61 (s : ByteArray) (hs : s.size ≤ 20000) (h0 : 0 < s.size) (hx : s[0].toNat = 61) (w : World) (ht : Tab w) :
    Calls Tryz.prog 25 #[.string s] w fun e w' => e = .returned (X.resV (X.step s.data.toList) s.data.toList) ∧ Below w.heap.size w w' := by
  have hm : s.size ≤ maxLen := by unfold maxLen; omega
  have hl : s.data.toList.length = s.size := by simp
  have hf := first_list h0
  obtain ⟨y, hy⟩ : ∃ y, X.first (s.data.toList.drop 1) = y := ⟨_, rfl⟩
  have hsec : ∀ w, Calls Tryz.prog 47 #[.string s] w fun e w' => e = .returned (.int .u8 y) ∧ w' = w := fun w => by rw [← hy]; exact second_any s hm w
  have h2 : y ≠ 0 → 2 ≤ s.size := fun h => by rw [← hl]; exact two_of hy h
  have HT : Hid _ := ht
  clear ht
  by_cases hyy : y = 61
  · have hst : X.step s.data.toList = some (4, 2, 0) := by rw [List.drop_one] at hy; simp [X.step, hf, hx, hy, hyy]
    rw [hst]
    have h3 := h2 (by omega)
    have he : ((y : Int) == 61) = true := by simp; omega
    clear hyy
    clear hst hf
    have hc : ∀ w, Calls Tryz.prog 48 #[.int .i64 4, .string s, .int .i64 2] w fun e w' => e = .returned (.agg #[.int .i64 4, .string (X.str (s.data.toList.take 2)), .int .i64 0, .int .i64 0]) ∧ Below w.heap.size w w' := fun w => (cut_any 4 s 2 (by omega) hm w).mono (by rintro e w' ⟨rfl, rfl⟩; exact ⟨rfl, bl1 _ _⟩)
    go_enter Tryz.func25, Tryz.ntmps25
    go_wp2_with fail
    go_quiet ((go_at_call 47; exact Calls.quiet_of_same (hsec _)))
    go_wp2_with (first | (go_at_call 48; refine (hc _).mono ?_; rintro e w' ⟨rfl, HB⟩; obtain ⟨hy', hyf, hB0⟩ := after1 (w' := w') (t := 48) (a := #[.int .i64 0, .string { data := #[] }, .int .i64 0, .int .i64 0]) (w := w) (by exact (below_drew' (Below.refl (w.alloc (.cells #[.int .i64 0, .string { data := #[] }, .int .i64 0, .int .i64 0] 48)).heap.size _) nq).trans HB); have y0 : w'.cell? ⟨w.heap.size, 0, none⟩ = some (.int .i64 0) := hy' 0 _ rfl; have y1 : w'.cell? ⟨w.heap.size, 1, none⟩ = some (.string { data := #[] }) := hy' 1 _ rfl; have y2 : w'.cell? ⟨w.heap.size, 2, none⟩ = some (.int .i64 0) := hy' 2 _ rfl; have y3 : w'.cell? ⟨w.heap.size, 3, none⟩ = some (.int .i64 0) := hy' 3 _ rfl; have g0 := hyf 0; have g1 := hyf 1; have g2 := hyf 2; have g3 := hyf 3; have HBL : Hid _ := hB0; clear hy' hyf hB0 HB))
    exact bodyPost_ret (v := X.resV (some (4, 2, 0)) s.data.toList) (by simp [results, Tryz.results25, go_sem, X.resV, *]) rfl ⟨rfl, bset4 HBL.out _ _ _ _⟩
  · have hst : X.step s.data.toList = some (4, 1, 0) := by rw [List.drop_one] at hy; simp [X.step, hf, hx, hy, hyy]
    rw [hst]
    have he : ((y : Int) == 61) = false := by simp; omega
    clear hyy
    clear hst hf
    have hc : ∀ w, Calls Tryz.prog 48 #[.int .i64 4, .string s, .int .i64 1] w fun e w' => e = .returned (.agg #[.int .i64 4, .string (X.str (s.data.toList.take 1)), .int .i64 0, .int .i64 0]) ∧ Below w.heap.size w w' := fun w => (cut_any 4 s 1 (by omega) hm w).mono (by rintro e w' ⟨rfl, rfl⟩; exact ⟨rfl, bl1 _ _⟩)
    go_enter Tryz.func25, Tryz.ntmps25
    go_wp2_with fail
    go_quiet ((go_at_call 47; exact Calls.quiet_of_same (hsec _)))
    go_wp2_with (first | (go_at_call 48; refine (hc _).mono ?_; rintro e w' ⟨rfl, HB⟩; obtain ⟨hy', hyf, hB0⟩ := after1 (w' := w') (t := 48) (a := #[.int .i64 0, .string { data := #[] }, .int .i64 0, .int .i64 0]) (w := w) (by exact (below_drew' (Below.refl (w.alloc (.cells #[.int .i64 0, .string { data := #[] }, .int .i64 0, .int .i64 0] 48)).heap.size _) nq).trans HB); have y0 : w'.cell? ⟨w.heap.size, 0, none⟩ = some (.int .i64 0) := hy' 0 _ rfl; have y1 : w'.cell? ⟨w.heap.size, 1, none⟩ = some (.string { data := #[] }) := hy' 1 _ rfl; have y2 : w'.cell? ⟨w.heap.size, 2, none⟩ = some (.int .i64 0) := hy' 2 _ rfl; have y3 : w'.cell? ⟨w.heap.size, 3, none⟩ = some (.int .i64 0) := hy' 3 _ rfl; have g0 := hyf 0; have g1 := hyf 1; have g2 := hyf 2; have g3 := hyf 3; have HBL : Hid _ := hB0; clear hy' hyf hB0 HB))
    exact bodyPost_ret (v := X.resV (some (4, 1, 0)) s.data.toList) (by simp [results, Tryz.results25, go_sem, X.resV, *]) rfl ⟨rfl, bset4 HBL.out _ _ _ _⟩

set_option maxRecDepth 100000 in
set_option maxHeartbeats 1000000 in
theorem piece_33 (s : ByteArray) (hs : s.size ≤ 20000) (h0 : 0 < s.size) (hx : s[0].toNat = 33) (w : World) (ht : Tab w) :
    Calls Tryz.prog 25 #[.string s] w fun e w' => e = .returned (X.resV (X.step s.data.toList) s.data.toList) ∧ Below w.heap.size w w' := by
  have hm : s.size ≤ maxLen := by unfold maxLen; omega
  have hl : s.data.toList.length = s.size := by simp
  have hf := first_list h0
  obtain ⟨y, hy⟩ : ∃ y, X.first (s.data.toList.drop 1) = y := ⟨_, rfl⟩
  have hsec : ∀ w, Calls Tryz.prog 47 #[.string s] w fun e w' => e = .returned (.int .u8 y) ∧ w' = w := fun w => by rw [← hy]; exact second_any s hm w
  have h2 : y ≠ 0 → 2 ≤ s.size := fun h => by rw [← hl]; exact two_of hy h
  have HT : Hid _ := ht
  clear ht
  by_cases hyy : y = 61
  · have hst : X.step s.data.toList = some (4, 2, 0) := by rw [List.drop_one] at hy; simp [X.step, hf, hx, hy, hyy]
    rw [hst]
    have h3 := h2 (by omega)
    have he : ((y : Int) == 61) = true := by simp; omega
    clear hyy
    clear hst hf
    have hc : ∀ w, Calls Tryz.prog 48 #[.int .i64 4, .string s, .int .i64 2] w fun e w' => e = .returned (.agg #[.int .i64 4, .string (X.str (s.data.toList.take 2)), .int .i64 0, .int .i64 0]) ∧ Below w.heap.size w w' := fun w => (cut_any 4 s 2 (by omega) hm w).mono (by rintro e w' ⟨rfl, rfl⟩; exact ⟨rfl, bl1 _ _⟩)
    go_enter Tryz.func25, Tryz.ntmps25
    go_wp2_with fail
    go_quiet ((go_at_call 47; exact Calls.quiet_of_same (hsec _)))
    go_wp2_with (first | (go_at_call 48; refine (hc _).mono ?_; rintro e w' ⟨rfl, HB⟩; obtain ⟨hy', hyf, hB0⟩ := after1 (w' := w') (t := 48) (a := #[.int .i64 0, .string { data := #[] }, .int .i64 0, .int .i64 0]) (w := w) (by exact (below_drew' (Below.refl (w.alloc (.cells #[.int .i64 0, .string { data := #[] }, .int .i64 0, .int .i64 0] 48)).heap.size _) nq).trans HB); have y0 : w'.cell? ⟨w.heap.size, 0, none⟩ = some (.int .i64 0) := hy' 0 _ rfl; have y1 : w'.cell? ⟨w.heap.size, 1, none⟩ = some (.string { data := #[] }) := hy' 1 _ rfl; have y2 : w'.cell? ⟨w.heap.size, 2, none⟩ = some (.int .i64 0) := hy' 2 _ rfl; have y3 : w'.cell? ⟨w.heap.size, 3, none⟩ = some (.int .i64 0) := hy' 3 _ rfl; have g0 := hyf 0; have g1 := hyf 1; have g2 := hyf 2; have g3 := hyf 3; have HBL : Hid _ := hB0; clear hy' hyf hB0 HB))
    exact bodyPost_ret (v := X.resV (some (4, 2, 0)) s.data.toList) (by simp [results, Tryz.results25, go_sem, X.resV, *]) rfl ⟨rfl, bset4 HBL.out _ _ _ _⟩
  · have hst : X.step s.data.toList = some (4, 1, 0) := by rw [List.drop_one] at hy; simp [X.step, hf, hx, hy, hyy]
    rw [hst]
    have he : ((y : Int) == 61) = false := by simp; omega
    clear hyy
    clear hst hf
    have hc : ∀ w, Calls Tryz.prog 48 #[.int .i64 4, .string s, .int .i64 1] w fun e w' => e = .returned (.agg #[.int .i64 4, .string (X.str (s.data.toList.take 1)), .int .i64 0, .int .i64 0]) ∧ Below w.heap.size w w' := fun w => (cut_any 4 s 1 (by omega) hm w).mono (by rintro e w' ⟨rfl, rfl⟩; exact ⟨rfl, bl1 _ _⟩)
    go_enter Tryz.func25, Tryz.ntmps25
    go_wp2_with fail
    go_quiet ((go_at_call 47; exact Calls.quiet_of_same (hsec _)))
    go_wp2_with (first | (go_at_call 48; refine (hc _).mono ?_; rintro e w' ⟨rfl, HB⟩; obtain ⟨hy', hyf, hB0⟩ := after1 (w' := w') (t := 48) (a := #[.int .i64 0, .string { data := #[] }, .int .i64 0, .int .i64 0]) (w := w) (by exact (below_drew' (Below.refl (w.alloc (.cells #[.int .i64 0, .string { data := #[] }, .int .i64 0, .int .i64 0] 48)).heap.size _) nq).trans HB); have y0 : w'.cell? ⟨w.heap.size, 0, none⟩ = some (.int .i64 0) := hy' 0 _ rfl; have y1 : w'.cell? ⟨w.heap.size, 1, none⟩ = some (.string { data := #[] }) := hy' 1 _ rfl; have y2 : w'.cell? ⟨w.heap.size, 2, none⟩ = some (.int .i64 0) := hy' 2 _ rfl; have y3 : w'.cell? ⟨w.heap.size, 3, none⟩ = some (.int .i64 0) := hy' 3 _ rfl; have g0 := hyf 0; have g1 := hyf 1; have g2 := hyf 2; have g3 := hyf 3; have HBL : Hid _ := hB0; clear hy' hyf hB0 HB))
    exact bodyPost_ret (v := X.resV (some (4, 1, 0)) s.data.toList) (by simp [results, Tryz.results25, go_sem, X.resV, *]) rfl ⟨rfl, bset4 HBL.out _ _ _ _⟩

set_option maxRecDepth 100000 in
set_option maxHeartbeats 1000000 in
theorem piece_47 (s : ByteArray) (hs : s.size ≤ 20000) (h0 : 0 < s.size) (hx : s[0].toNat = 47) (w : World) (ht : Tab w) :
    Calls Tryz.prog 25 #[.string s] w fun e w' => e = .returned (X.resV (X.step s.data.toList) s.data.toList) ∧ Below w.heap.size w w' := by
  have hm : s.size ≤ maxLen := by unfold maxLen; omega
  have hl : s.data.toList.length = s.size := by simp
  have hf := first_list h0
  obtain ⟨y, hy⟩ : ∃ y, X.first (s.data.toList.drop 1) = y := ⟨_, rfl⟩
  have hsec : ∀ w, Calls Tryz.prog 47 #[.string s] w fun e w' => e = .returned (.int .u8 y) ∧ w' = w := fun w => by rw [← hy]; exact second_any s hm w
  have h2 : y ≠ 0 → 2 ≤ s.size := fun h => by rw [← hl]; exact two_of hy h
  have HT : Hid _ := ht
  clear ht
  by_cases hyy : y = 47
  · have hst : X.step s.data.toList = some (0, X.note s.data.toList, 0) := by rw [List.drop_one] at hy; simp [X.step, hf, hx, hy, hyy]
    rw [hst]
    have he : ((y : Int) == 47) = true := by simp; omega
    have hnl : X.note s.data.toList ≤ s.size := by rw [← hl]; exact X.span_le _ _
    have hnote := fun w h => noteSize_any s hs w h
    have hres : X.resV (some (0, X.note s.data.toList, 0)) s.data.toList = .agg #[.int .i64 0, .string (X.str (s.data.toList.take (X.note s.data.toList))), .int .i64 0, .int .i64 0] := rfl
    rw [hres]
    generalize X.note s.data.toList = n at *
    clear hyy hst hf
    go_enter Tryz.func25, Tryz.ntmps25
    go_wp2_with fail
    go_quiet ((go_at_call 47; exact Calls.quiet_of_same (hsec _)))
    have HT1 : Tab (((w.alloc (.cells #[.int .i64 0, .string { data := #[] }, .int .i64 0, .int .i64 0] 48))).drewN nq) := HT.out.below (below_drew' (bl1 _ _) _)
    have hc : ∀ w, Calls Tryz.prog 48 #[.int .i64 0, .string s, .int .i64 n] w fun e w' => e = .returned (.agg #[.int .i64 0, .string (X.str (s.data.toList.take n)), .int .i64 0, .int .i64 0]) ∧ Below w.heap.size w w' := fun w => (cut_any 0 s n hnl hm w).mono (by rintro e w' ⟨rfl, rfl⟩; exact ⟨rfl, bl1 _ _⟩)
    go_wp2_with (first | (go_at_call 49; refine (hnote _ HT1).mono ?_; rintro e w0 ⟨rfl, HB1⟩) | (go_at_call 48; refine (hc _).mono ?_; rintro e w' ⟨rfl, HB2⟩; have HB := HB1.trans (HB2.mono HB1.size); clear HB1 HB2; obtain ⟨hy', hyf, hB0⟩ := after1 (w' := w') (t := 48) (a := #[.int .i64 0, .string { data := #[] }, .int .i64 0, .int .i64 0]) (w := w) (by exact (below_drew' (Below.refl (w.alloc (.cells #[.int .i64 0, .string { data := #[] }, .int .i64 0, .int .i64 0] 48)).heap.size _) nq).trans HB); have y0 : w'.cell? ⟨w.heap.size, 0, none⟩ = some (.int .i64 0) := hy' 0 _ rfl; have y1 : w'.cell? ⟨w.heap.size, 1, none⟩ = some (.string { data := #[] }) := hy' 1 _ rfl; have y2 : w'.cell? ⟨w.heap.size, 2, none⟩ = some (.int .i64 0) := hy' 2 _ rfl; have y3 : w'.cell? ⟨w.heap.size, 3, none⟩ = some (.int .i64 0) := hy' 3 _ rfl; have g0 := hyf 0; have g1 := hyf 1; have g2 := hyf 2; have g3 := hyf 3; have HBL : Hid _ := hB0; clear hy' hyf hB0 HB))
    exact bodyPost_ret (v := .agg #[.int .i64 0, .string (X.str (s.data.toList.take n)), .int .i64 0, .int .i64 0]) (by simp [results, Tryz.results25, go_sem, *]) rfl ⟨rfl, bset4 HBL.out _ _ _ _⟩
  · have hst : X.step s.data.toList = some (4, 1, 0) := by rw [List.drop_one] at hy; simp [X.step, hf, hx, hy, hyy]
    rw [hst]
    have he : ((y : Int) == 47) = false := by simp; omega
    clear hyy
    clear hst hf
    have hc : ∀ w, Calls Tryz.prog 48 #[.int .i64 4, .string s, .int .i64 1] w fun e w' => e = .returned (.agg #[.int .i64 4, .string (X.str (s.data.toList.take 1)), .int .i64 0, .int .i64 0]) ∧ Below w.heap.size w w' := fun w => (cut_any 4 s 1 (by omega) hm w).mono (by rintro e w' ⟨rfl, rfl⟩; exact ⟨rfl, bl1 _ _⟩)
    go_enter Tryz.func25, Tryz.ntmps25
    go_wp2_with fail
    go_quiet ((go_at_call 47; exact Calls.quiet_of_same (hsec _)))
    go_wp2_with (first | (go_at_call 48; refine (hc _).mono ?_; rintro e w' ⟨rfl, HB⟩; obtain ⟨hy', hyf, hB0⟩ := after1 (w' := w') (t := 48) (a := #[.int .i64 0, .string { data := #[] }, .int .i64 0, .int .i64 0]) (w := w) (by exact (below_drew' (Below.refl (w.alloc (.cells #[.int .i64 0, .string { data := #[] }, .int .i64 0, .int .i64 0] 48)).heap.size _) nq).trans HB); have y0 : w'.cell? ⟨w.heap.size, 0, none⟩ = some (.int .i64 0) := hy' 0 _ rfl; have y1 : w'.cell? ⟨w.heap.size, 1, none⟩ = some (.string { data := #[] }) := hy' 1 _ rfl; have y2 : w'.cell? ⟨w.heap.size, 2, none⟩ = some (.int .i64 0) := hy' 2 _ rfl; have y3 : w'.cell? ⟨w.heap.size, 3, none⟩ = some (.int .i64 0) := hy' 3 _ rfl; have g0 := hyf 0; have g1 := hyf 1; have g2 := hyf 2; have g3 := hyf 3; have HBL : Hid _ := hB0; clear hy' hyf hB0 HB))
    exact bodyPost_ret (v := X.resV (some (4, 1, 0)) s.data.toList) (by simp [results, Tryz.results25, go_sem, X.resV, *]) rfl ⟨rfl, bset4 HBL.out _ _ _ _⟩

set_option maxRecDepth 100000 in
set_option maxHeartbeats 1000000 in
theorem piece_43 (s : ByteArray) (hs : s.size ≤ 20000) (h0 : 0 < s.size) (hx : s[0].toNat = 43) (w : World) (ht : Tab w) :
    Calls Tryz.prog 25 #[.string s] w fun e w' => e = .returned (X.resV (X.step s.data.toList) s.data.toList) ∧ Below w.heap.size w w' := by
  have hm : s.size ≤ maxLen := by unfold maxLen; omega
  have hl : s.data.toList.length = s.size := by simp
  have hf := first_list h0
  obtain ⟨y, hy⟩ : ∃ y, X.first (s.data.toList.drop 1) = y := ⟨_, rfl⟩
  have hsec : ∀ w, Calls Tryz.prog 47 #[.string s] w fun e w' => e = .returned (.int .u8 y) ∧ w' = w := fun w => by rw [← hy]; exact second_any s hm w
  have h2 : y ≠ 0 → 2 ≤ s.size := fun h => by rw [← hl]; exact two_of hy h
  have HT : Hid _ := ht
  clear ht
  have hst : X.step s.data.toList = some (4, 1, 0) := by simp [X.step, hf, hx, X.sgn]
  rw [hst]
  clear hst hf
  have hc : ∀ w, Calls Tryz.prog 48 #[.int .i64 4, .string s, .int .i64 1] w fun e w' => e = .returned (.agg #[.int .i64 4, .string (X.str (s.data.toList.take 1)), .int .i64 0, .int .i64 0]) ∧ Below w.heap.size w w' := fun w => (cut_any 4 s 1 (by omega) hm w).mono (by rintro e w' ⟨rfl, rfl⟩; exact ⟨rfl, bl1 _ _⟩)
  go_enter Tryz.func25, Tryz.ntmps25
  go_wp2_with fail
  go_quiet ((go_at_call 47; exact Calls.quiet_of_same (hsec _)))
  go_wp2_with (first | (go_at_call 48; refine (hc _).mono ?_; rintro e w' ⟨rfl, HB⟩; obtain ⟨hy', hyf, hB0⟩ := after1 (w' := w') (t := 48) (a := #[.int .i64 0, .string { data := #[] }, .int .i64 0, .int .i64 0]) (w := w) (by exact (below_drew' (Below.refl (w.alloc (.cells #[.int .i64 0, .string { data := #[] }, .int .i64 0, .int .i64 0] 48)).heap.size _) nq).trans HB); have y0 : w'.cell? ⟨w.heap.size, 0, none⟩ = some (.int .i64 0) := hy' 0 _ rfl; have y1 : w'.cell? ⟨w.heap.size, 1, none⟩ = some (.string { data := #[] }) := hy' 1 _ rfl; have y2 : w'.cell? ⟨w.heap.size, 2, none⟩ = some (.int .i64 0) := hy' 2 _ rfl; have y3 : w'.cell? ⟨w.heap.size, 3, none⟩ = some (.int .i64 0) := hy' 3 _ rfl; have g0 := hyf 0; have g1 := hyf 1; have g2 := hyf 2; have g3 := hyf 3; have HBL : Hid _ := hB0; clear hy' hyf hB0 HB))
  exact bodyPost_ret (v := X.resV (some (4, 1, 0)) s.data.toList) (by simp [results, Tryz.results25, go_sem, X.resV, *]) rfl ⟨rfl, bset4 HBL.out _ _ _ _⟩

set_option maxRecDepth 100000 in
set_option maxHeartbeats 1000000 in
theorem piece_45 (s : ByteArray) (hs : s.size ≤ 20000) (h0 : 0 < s.size) (hx : s[0].toNat = 45) (w : World) (ht : Tab w) :
    Calls Tryz.prog 25 #[.string s] w fun e w' => e = .returned (X.resV (X.step s.data.toList) s.data.toList) ∧ Below w.heap.size w w' := by
  have hm : s.size ≤ maxLen := by unfold maxLen; omega
  have hl : s.data.toList.length = s.size := by simp
  have hf := first_list h0
  obtain ⟨y, hy⟩ : ∃ y, X.first (s.data.toList.drop 1) = y := ⟨_, rfl⟩
  have hsec : ∀ w, Calls Tryz.prog 47 #[.string s] w fun e w' => e = .returned (.int .u8 y) ∧ w' = w := fun w => by rw [← hy]; exact second_any s hm w
  have h2 : y ≠ 0 → 2 ≤ s.size := fun h => by rw [← hl]; exact two_of hy h
  have HT : Hid _ := ht
  clear ht
  have hst : X.step s.data.toList = some (4, 1, 0) := by simp [X.step, hf, hx, X.sgn]
  rw [hst]
  clear hst hf
  have hc : ∀ w, Calls Tryz.prog 48 #[.int .i64 4, .string s, .int .i64 1] w fun e w' => e = .returned (.agg #[.int .i64 4, .string (X.str (s.data.toList.take 1)), .int .i64 0, .int .i64 0]) ∧ Below w.heap.size w w' := fun w => (cut_any 4 s 1 (by omega) hm w).mono (by rintro e w' ⟨rfl, rfl⟩; exact ⟨rfl, bl1 _ _⟩)
  go_enter Tryz.func25, Tryz.ntmps25
  go_wp2_with fail
  go_quiet ((go_at_call 47; exact Calls.quiet_of_same (hsec _)))
  go_wp2_with (first | (go_at_call 48; refine (hc _).mono ?_; rintro e w' ⟨rfl, HB⟩; obtain ⟨hy', hyf, hB0⟩ := after1 (w' := w') (t := 48) (a := #[.int .i64 0, .string { data := #[] }, .int .i64 0, .int .i64 0]) (w := w) (by exact (below_drew' (Below.refl (w.alloc (.cells #[.int .i64 0, .string { data := #[] }, .int .i64 0, .int .i64 0] 48)).heap.size _) nq).trans HB); have y0 : w'.cell? ⟨w.heap.size, 0, none⟩ = some (.int .i64 0) := hy' 0 _ rfl; have y1 : w'.cell? ⟨w.heap.size, 1, none⟩ = some (.string { data := #[] }) := hy' 1 _ rfl; have y2 : w'.cell? ⟨w.heap.size, 2, none⟩ = some (.int .i64 0) := hy' 2 _ rfl; have y3 : w'.cell? ⟨w.heap.size, 3, none⟩ = some (.int .i64 0) := hy' 3 _ rfl; have g0 := hyf 0; have g1 := hyf 1; have g2 := hyf 2; have g3 := hyf 3; have HBL : Hid _ := hB0; clear hy' hyf hB0 HB))
  exact bodyPost_ret (v := X.resV (some (4, 1, 0)) s.data.toList) (by simp [results, Tryz.results25, go_sem, X.resV, *]) rfl ⟨rfl, bset4 HBL.out _ _ _ _⟩

set_option maxRecDepth 100000 in
set_option maxHeartbeats 1000000 in
theorem piece_42 (s : ByteArray) (hs : s.size ≤ 20000) (h0 : 0 < s.size) (hx : s[0].toNat = 42) (w : World) (ht : Tab w) :
    Calls Tryz.prog 25 #[.string s] w fun e w' => e = .returned (X.resV (X.step s.data.toList) s.data.toList) ∧ Below w.heap.size w w' := by
  have hm : s.size ≤ maxLen := by unfold maxLen; omega
  have hl : s.data.toList.length = s.size := by simp
  have hf := first_list h0
  obtain ⟨y, hy⟩ : ∃ y, X.first (s.data.toList.drop 1) = y := ⟨_, rfl⟩
  have hsec : ∀ w, Calls Tryz.prog 47 #[.string s] w fun e w' => e = .returned (.int .u8 y) ∧ w' = w := fun w => by rw [← hy]; exact second_any s hm w
  have h2 : y ≠ 0 → 2 ≤ s.size := fun h => by rw [← hl]; exact two_of hy h
  have HT : Hid _ := ht
  clear ht
  have hst : X.step s.data.toList = some (4, 1, 0) := by simp [X.step, hf, hx, X.sgn]
  rw [hst]
  clear hst hf
  have hc : ∀ w, Calls Tryz.prog 48 #[.int .i64 4, .string s, .int .i64 1] w fun e w' => e = .returned (.agg #[.int .i64 4, .string (X.str (s.data.toList.take 1)), .int .i64 0, .int .i64 0]) ∧ Below w.heap.size w w' := fun w => (cut_any 4 s 1 (by omega) hm w).mono (by rintro e w' ⟨rfl, rfl⟩; exact ⟨rfl, bl1 _ _⟩)
  go_enter Tryz.func25, Tryz.ntmps25
  go_wp2_with fail
  go_quiet ((go_at_call 47; exact Calls.quiet_of_same (hsec _)))
  go_wp2_with (first | (go_at_call 48; refine (hc _).mono ?_; rintro e w' ⟨rfl, HB⟩; obtain ⟨hy', hyf, hB0⟩ := after1 (w' := w') (t := 48) (a := #[.int .i64 0, .string { data := #[] }, .int .i64 0, .int .i64 0]) (w := w) (by exact (below_drew' (Below.refl (w.alloc (.cells #[.int .i64 0, .string { data := #[] }, .int .i64 0, .int .i64 0] 48)).heap.size _) nq).trans HB); have y0 : w'.cell? ⟨w.heap.size, 0, none⟩ = some (.int .i64 0) := hy' 0 _ rfl; have y1 : w'.cell? ⟨w.heap.size, 1, none⟩ = some (.string { data := #[] }) := hy' 1 _ rfl; have y2 : w'.cell? ⟨w.heap.size, 2, none⟩ = some (.int .i64 0) := hy' 2 _ rfl; have y3 : w'.cell? ⟨w.heap.size, 3, none⟩ = some (.int .i64 0) := hy' 3 _ rfl; have g0 := hyf 0; have g1 := hyf 1; have g2 := hyf 2; have g3 := hyf 3; have HBL : Hid _ := hB0; clear hy' hyf hB0 HB))
  exact bodyPost_ret (v := X.resV (some (4, 1, 0)) s.data.toList) (by simp [results, Tryz.results25, go_sem, X.resV, *]) rfl ⟨rfl, bset4 HBL.out _ _ _ _⟩

set_option maxRecDepth 100000 in
set_option maxHeartbeats 1000000 in
theorem piece_37 (s : ByteArray) (hs : s.size ≤ 20000) (h0 : 0 < s.size) (hx : s[0].toNat = 37) (w : World) (ht : Tab w) :
    Calls Tryz.prog 25 #[.string s] w fun e w' => e = .returned (X.resV (X.step s.data.toList) s.data.toList) ∧ Below w.heap.size w w' := by
  have hm : s.size ≤ maxLen := by unfold maxLen; omega
  have hl : s.data.toList.length = s.size := by simp
  have hf := first_list h0
  obtain ⟨y, hy⟩ : ∃ y, X.first (s.data.toList.drop 1) = y := ⟨_, rfl⟩
  have hsec : ∀ w, Calls Tryz.prog 47 #[.string s] w fun e w' => e = .returned (.int .u8 y) ∧ w' = w := fun w => by rw [← hy]; exact second_any s hm w
  have h2 : y ≠ 0 → 2 ≤ s.size := fun h => by rw [← hl]; exact two_of hy h
  have HT : Hid _ := ht
  clear ht
  have hst : X.step s.data.toList = some (4, 1, 0) := by simp [X.step, hf, hx, X.sgn]
  rw [hst]
  clear hst hf
  have hc : ∀ w, Calls Tryz.prog 48 #[.int .i64 4, .string s, .int .i64 1] w fun e w' => e = .returned (.agg #[.int .i64 4, .string (X.str (s.data.toList.take 1)), .int .i64 0, .int .i64 0]) ∧ Below w.heap.size w w' := fun w => (cut_any 4 s 1 (by omega) hm w).mono (by rintro e w' ⟨rfl, rfl⟩; exact ⟨rfl, bl1 _ _⟩)
  go_enter Tryz.func25, Tryz.ntmps25
  go_wp2_with fail
  go_quiet ((go_at_call 47; exact Calls.quiet_of_same (hsec _)))
  go_wp2_with (first | (go_at_call 48; refine (hc _).mono ?_; rintro e w' ⟨rfl, HB⟩; obtain ⟨hy', hyf, hB0⟩ := after1 (w' := w') (t := 48) (a := #[.int .i64 0, .string { data := #[] }, .int .i64 0, .int .i64 0]) (w := w) (by exact (below_drew' (Below.refl (w.alloc (.cells #[.int .i64 0, .string { data := #[] }, .int .i64 0, .int .i64 0] 48)).heap.size _) nq).trans HB); have y0 : w'.cell? ⟨w.heap.size, 0, none⟩ = some (.int .i64 0) := hy' 0 _ rfl; have y1 : w'.cell? ⟨w.heap.size, 1, none⟩ = some (.string { data := #[] }) := hy' 1 _ rfl; have y2 : w'.cell? ⟨w.heap.size, 2, none⟩ = some (.int .i64 0) := hy' 2 _ rfl; have y3 : w'.cell? ⟨w.heap.size, 3, none⟩ = some (.int .i64 0) := hy' 3 _ rfl; have g0 := hyf 0; have g1 := hyf 1; have g2 := hyf 2; have g3 := hyf 3; have HBL : Hid _ := hB0; clear hy' hyf hB0 HB))
  exact bodyPost_ret (v := X.resV (some (4, 1, 0)) s.data.toList) (by simp [results, Tryz.results25, go_sem, X.resV, *]) rfl ⟨rfl, bset4 HBL.out _ _ _ _⟩

set_option maxRecDepth 100000 in
set_option maxHeartbeats 1000000 in
theorem piece_94 (s : ByteArray) (hs : s.size ≤ 20000) (h0 : 0 < s.size) (hx : s[0].toNat = 94) (w : World) (ht : Tab w) :
    Calls Tryz.prog 25 #[.string s] w fun e w' => e = .returned (X.resV (X.step s.data.toList) s.data.toList) ∧ Below w.heap.size w w' := by
  have hm : s.size ≤ maxLen := by unfold maxLen; omega
  have hl : s.data.toList.length = s.size := by simp
  have hf := first_list h0
  obtain ⟨y, hy⟩ : ∃ y, X.first (s.data.toList.drop 1) = y := ⟨_, rfl⟩
  have hsec : ∀ w, Calls Tryz.prog 47 #[.string s] w fun e w' => e = .returned (.int .u8 y) ∧ w' = w := fun w => by rw [← hy]; exact second_any s hm w
  have h2 : y ≠ 0 → 2 ≤ s.size := fun h => by rw [← hl]; exact two_of hy h
  have HT : Hid _ := ht
  clear ht
  have hst : X.step s.data.toList = some (4, 1, 0) := by simp [X.step, hf, hx, X.sgn]
  rw [hst]
  clear hst hf
  have hc : ∀ w, Calls Tryz.prog 48 #[.int .i64 4, .string s, .int .i64 1] w fun e w' => e = .returned (.agg #[.int .i64 4, .string (X.str (s.data.toList.take 1)), .int .i64 0, .int .i64 0]) ∧ Below w.heap.size w w' := fun w => (cut_any 4 s 1 (by omega) hm w).mono (by rintro e w' ⟨rfl, rfl⟩; exact ⟨rfl, bl1 _ _⟩)
  go_enter Tryz.func25, Tryz.ntmps25
  go_wp2_with fail
  go_quiet ((go_at_call 47; exact Calls.quiet_of_same (hsec _)))
  go_wp2_with (first | (go_at_call 48; refine (hc _).mono ?_; rintro e w' ⟨rfl, HB⟩; obtain ⟨hy', hyf, hB0⟩ := after1 (w' := w') (t := 48) (a := #[.int .i64 0, .string { data := #[] }, .int .i64 0, .int .i64 0]) (w := w) (by exact (below_drew' (Below.refl (w.alloc (.cells #[.int .i64 0, .string { data := #[] }, .int .i64 0, .int .i64 0] 48)).heap.size _) nq).trans HB); have y0 : w'.cell? ⟨w.heap.size, 0, none⟩ = some (.int .i64 0) := hy' 0 _ rfl; have y1 : w'.cell? ⟨w.heap.size, 1, none⟩ = some (.string { data := #[] }) := hy' 1 _ rfl; have y2 : w'.cell? ⟨w.heap.size, 2, none⟩ = some (.int .i64 0) := hy' 2 _ rfl; have y3 : w'.cell? ⟨w.heap.size, 3, none⟩ = some (.int .i64 0) := hy' 3 _ rfl; have g0 := hyf 0; have g1 := hyf 1; have g2 := hyf 2; have g3 := hyf 3; have HBL : Hid _ := hB0; clear hy' hyf hB0 HB))
  exact bodyPost_ret (v := X.resV (some (4, 1, 0)) s.data.toList) (by simp [results, Tryz.results25, go_sem, X.resV, *]) rfl ⟨rfl, bset4 HBL.out _ _ _ _⟩

set_option maxRecDepth 100000 in
set_option maxHeartbeats 1000000 in
theorem piece_40 (s : ByteArray) (hs : s.size ≤ 20000) (h0 : 0 < s.size) (hx : s[0].toNat = 40) (w : World) (ht : Tab w) :
    Calls Tryz.prog 25 #[.string s] w fun e w' => e = .returned (X.resV (X.step s.data.toList) s.data.toList) ∧ Below w.heap.size w w' := by
  have hm : s.size ≤ maxLen := by unfold maxLen; omega
  have hl : s.data.toList.length = s.size := by simp
  have hf := first_list h0
  obtain ⟨y, hy⟩ : ∃ y, X.first (s.data.toList.drop 1) = y := ⟨_, rfl⟩
  have hsec : ∀ w, Calls Tryz.prog 47 #[.string s] w fun e w' => e = .returned (.int .u8 y) ∧ w' = w := fun w => by rw [← hy]; exact second_any s hm w
  have h2 : y ≠ 0 → 2 ≤ s.size := fun h => by rw [← hl]; exact two_of hy h
  have HT : Hid _ := ht
  clear ht
  have hst : X.step s.data.toList = some (4, 1, 0) := by simp [X.step, hf, hx, X.sgn]
  rw [hst]
  clear hst hf
  have hc : ∀ w, Calls Tryz.prog 48 #[.int .i64 4, .string s, .int .i64 1] w fun e w' => e = .returned (.agg #[.int .i64 4, .string (X.str (s.data.toList.take 1)), .int .i64 0, .int .i64 0]) ∧ Below w.heap.size w w' := fun w => (cut_any 4 s 1 (by omega) hm w).mono (by rintro e w' ⟨rfl, rfl⟩; exact ⟨rfl, bl1 _ _⟩)
  go_enter Tryz.func25, Tryz.ntmps25
  go_wp2_with fail
  go_quiet ((go_at_call 47; exact Calls.quiet_of_same (hsec _)))
  go_wp2_with (first | (go_at_call 48; refine (hc _).mono ?_; rintro e w' ⟨rfl, HB⟩; obtain ⟨hy', hyf, hB0⟩ := after1 (w' := w') (t := 48) (a := #[.int .i64 0, .string { data := #[] }, .int .i64 0, .int .i64 0]) (w := w) (by exact (below_drew' (Below.refl (w.alloc (.cells #[.int .i64 0, .string { data := #[] }, .int .i64 0, .int .i64 0] 48)).heap.size _) nq).trans HB); have y0 : w'.cell? ⟨w.heap.size, 0, none⟩ = some (.int .i64 0) := hy' 0 _ rfl; have y1 : w'.cell? ⟨w.heap.size, 1, none⟩ = some (.string { data := #[] }) := hy' 1 _ rfl; have y2 : w'.cell? ⟨w.heap.size, 2, none⟩ = some (.int .i64 0) := hy' 2 _ rfl; have y3 : w'.cell? ⟨w.heap.size, 3, none⟩ = some (.int .i64 0) := hy' 3 _ rfl; have g0 := hyf 0; have g1 := hyf 1; have g2 := hyf 2; have g3 := hyf 3; have HBL : Hid _ := hB0; clear hy' hyf hB0 HB))
  exact bodyPost_ret (v := X.resV (some (4, 1, 0)) s.data.toList) (by simp [results, Tryz.results25, go_sem, X.resV, *]) rfl ⟨rfl, bset4 HBL.out _ _ _ _⟩

set_option maxRecDepth 100000 in
set_option maxHeartbeats 1000000 in
theorem piece_41 (s : ByteArray) (hs : s.size ≤ 20000) (h0 : 0 < s.size) (hx : s[0].toNat = 41) (w : World) (ht : Tab w) :
    Calls Tryz.prog 25 #[.string s] w fun e w' => e = .returned (X.resV (X.step s.data.toList) s.data.toList) ∧ Below w.heap.size w w' := by
  have hm : s.size ≤ maxLen := by unfold maxLen; omega
  have hl : s.data.toList.length = s.size := by simp
  have hf := first_list h0
  obtain ⟨y, hy⟩ : ∃ y, X.first (s.data.toList.drop 1) = y := ⟨_, rfl⟩
  have hsec : ∀ w, Calls Tryz.prog 47 #[.string s] w fun e w' => e = .returned (.int .u8 y) ∧ w' = w := fun w => by rw [← hy]; exact second_any s hm w
  have h2 : y ≠ 0 → 2 ≤ s.size := fun h => by rw [← hl]; exact two_of hy h
  have HT : Hid _ := ht
  clear ht
  have hst : X.step s.data.toList = some (4, 1, 0) := by simp [X.step, hf, hx, X.sgn]
  rw [hst]
  clear hst hf
  have hc : ∀ w, Calls Tryz.prog 48 #[.int .i64 4, .string s, .int .i64 1] w fun e w' => e = .returned (.agg #[.int .i64 4, .string (X.str (s.data.toList.take 1)), .int .i64 0, .int .i64 0]) ∧ Below w.heap.size w w' := fun w => (cut_any 4 s 1 (by omega) hm w).mono (by rintro e w' ⟨rfl, rfl⟩; exact ⟨rfl, bl1 _ _⟩)
  go_enter Tryz.func25, Tryz.ntmps25
  go_wp2_with fail
  go_quiet ((go_at_call 47; exact Calls.quiet_of_same (hsec _)))
  go_wp2_with (first | (go_at_call 48; refine (hc _).mono ?_; rintro e w' ⟨rfl, HB⟩; obtain ⟨hy', hyf, hB0⟩ := after1 (w' := w') (t := 48) (a := #[.int .i64 0, .string { data := #[] }, .int .i64 0, .int .i64 0]) (w := w) (by exact (below_drew' (Below.refl (w.alloc (.cells #[.int .i64 0, .string { data := #[] }, .int .i64 0, .int .i64 0] 48)).heap.size _) nq).trans HB); have y0 : w'.cell? ⟨w.heap.size, 0, none⟩ = some (.int .i64 0) := hy' 0 _ rfl; have y1 : w'.cell? ⟨w.heap.size, 1, none⟩ = some (.string { data := #[] }) := hy' 1 _ rfl; have y2 : w'.cell? ⟨w.heap.size, 2, none⟩ = some (.int .i64 0) := hy' 2 _ rfl; have y3 : w'.cell? ⟨w.heap.size, 3, none⟩ = some (.int .i64 0) := hy' 3 _ rfl; have g0 := hyf 0; have g1 := hyf 1; have g2 := hyf 2; have g3 := hyf 3; have HBL : Hid _ := hB0; clear hy' hyf hB0 HB))
  exact bodyPost_ret (v := X.resV (some (4, 1, 0)) s.data.toList) (by simp [results, Tryz.results25, go_sem, X.resV, *]) rfl ⟨rfl, bset4 HBL.out _ _ _ _⟩

set_option maxRecDepth 100000 in
set_option maxHeartbeats 1000000 in
theorem piece_123 (s : ByteArray) (hs : s.size ≤ 20000) (h0 : 0 < s.size) (hx : s[0].toNat = 123) (w : World) (ht : Tab w) :
    Calls Tryz.prog 25 #[.string s] w fun e w' => e = .returned (X.resV (X.step s.data.toList) s.data.toList) ∧ Below w.heap.size w w' := by
  have hm : s.size ≤ maxLen := by unfold maxLen; omega
  have hl : s.data.toList.length = s.size := by simp
  have hf := first_list h0
  obtain ⟨y, hy⟩ : ∃ y, X.first (s.data.toList.drop 1) = y := ⟨_, rfl⟩
  have hsec : ∀ w, Calls Tryz.prog 47 #[.string s] w fun e w' => e = .returned (.int .u8 y) ∧ w' = w := fun w => by rw [← hy]; exact second_any s hm w
  have h2 : y ≠ 0 → 2 ≤ s.size := fun h => by rw [← hl]; exact two_of hy h
  have HT : Hid _ := ht
  clear ht
  have hst : X.step s.data.toList = some (4, 1, 0) := by simp [X.step, hf, hx, X.sgn]
  rw [hst]
  clear hst hf
  have hc : ∀ w, Calls Tryz.prog 48 #[.int .i64 4, .string s, .int .i64 1] w fun e w' => e = .returned (.agg #[.int .i64 4, .string (X.str (s.data.toList.take 1)), .int .i64 0, .int .i64 0]) ∧ Below w.heap.size w w' := fun w => (cut_any 4 s 1 (by omega) hm w).mono (by rintro e w' ⟨rfl, rfl⟩; exact ⟨rfl, bl1 _ _⟩)
  go_enter Tryz.func25, Tryz.ntmps25
  go_wp2_with fail
  go_quiet ((go_at_call 47; exact Calls.quiet_of_same (hsec _)))
  go_wp2_with (first | (go_at_call 48; refine (hc _).mono ?_; rintro e w' ⟨rfl, HB⟩; obtain ⟨hy', hyf, hB0⟩ := after1 (w' := w') (t := 48) (a := #[.int .i64 0, .string { data := #[] }, .int .i64 0, .int .i64 0]) (w := w) (by exact (below_drew' (Below.refl (w.alloc (.cells #[.int .i64 0, .string { data := #[] }, .int .i64 0, .int .i64 0] 48)).heap.size _) nq).trans HB); have y0 : w'.cell? ⟨w.heap.size, 0, none⟩ = some (.int .i64 0) := hy' 0 _ rfl; have y1 : w'.cell? ⟨w.heap.size, 1, none⟩ = some (.string { data := #[] }) := hy' 1 _ rfl; have y2 : w'.cell? ⟨w.heap.size, 2, none⟩ = some (.int .i64 0) := hy' 2 _ rfl; have y3 : w'.cell? ⟨w.heap.size, 3, none⟩ = some (.int .i64 0) := hy' 3 _ rfl; have g0 := hyf 0; have g1 := hyf 1; have g2 := hyf 2; have g3 := hyf 3; have HBL : Hid _ := hB0; clear hy' hyf hB0 HB))
  exact bodyPost_ret (v := X.resV (some (4, 1, 0)) s.data.toList) (by simp [results, Tryz.results25, go_sem, X.resV, *]) rfl ⟨rfl, bset4 HBL.out _ _ _ _⟩

set_option maxRecDepth 100000 in
set_option maxHeartbeats 1000000 in
theorem piece_125 (s : ByteArray) (hs : s.size ≤ 20000) (h0 : 0 < s.size) (hx : s[0].toNat = 125) (w : World) (ht : Tab w) :
    Calls Tryz.prog 25 #[.string s] w fun e w' => e = .returned (X.resV (X.step s.data.toList) s.data.toList) ∧ Below w.heap.size w w' := by
  have hm : s.size ≤ maxLen := by unfold maxLen; omega
  have hl : s.data.toList.length = s.size := by simp
  have hf := first_list h0
  obtain ⟨y, hy⟩ : ∃ y, X.first (s.data.toList.drop 1) = y := ⟨_, rfl⟩
  have hsec : ∀ w, Calls Tryz.prog 47 #[.string s] w fun e w' => e = .returned (.int .u8 y) ∧ w' = w := fun w => by rw [← hy]; exact second_any s hm w
  have h2 : y ≠ 0 → 2 ≤ s.size := fun h => by rw [← hl]; exact two_of hy h
  have HT : Hid _ := ht
  clear ht
  have hst : X.step s.data.toList = some (4, 1, 0) := by simp [X.step, hf, hx, X.sgn]
  rw [hst]
  clear hst hf
  have hc : ∀ w, Calls Tryz.prog 48 #[.int .i64 4, .string s, .int .i64 1] w fun e w' => e = .returned (.agg #[.int .i64 4, .string (X.str (s.data.toList.take 1)), .int .i64 0, .int .i64 0]) ∧ Below w.heap.size w w' := fun w => (cut_any 4 s 1 (by omega) hm w).mono (by rintro e w' ⟨rfl, rfl⟩; exact ⟨rfl, bl1 _ _⟩)
  go_enter Tryz.func25, Tryz.ntmps25
  go_wp2_with fail
  go_quiet ((go_at_call 47; exact Calls.quiet_of_same (hsec _)))
  go_wp2_with (first | (go_at_call 48; refine (hc _).mono ?_; rintro e w' ⟨rfl, HB⟩; obtain ⟨hy', hyf, hB0⟩ := after1 (w' := w') (t := 48) (a := #[.int .i64 0, .string { data := #[] }, .int .i64 0, .int .i64 0]) (w := w) (by exact (below_drew' (Below.refl (w.alloc (.cells #[.int .i64 0, .string { data := #[] }, .int .i64 0, .int .i64 0] 48)).heap.size _) nq).trans HB); have y0 : w'.cell? ⟨w.heap.size, 0, none⟩ = some (.int .i64 0) := hy' 0 _ rfl; have y1 : w'.cell? ⟨w.heap.size, 1, none⟩ = some (.string { data := #[] }) := hy' 1 _ rfl; have y2 : w'.cell? ⟨w.heap.size, 2, none⟩ = some (.int .i64 0) := hy' 2 _ rfl; have y3 : w'.cell? ⟨w.heap.size, 3, none⟩ = some (.int .i64 0) := hy' 3 _ rfl; have g0 := hyf 0; have g1 := hyf 1; have g2 := hyf 2; have g3 := hyf 3; have HBL : Hid _ := hB0; clear hy' hyf hB0 HB))
  exact bodyPost_ret (v := X.resV (some (4, 1, 0)) s.data.toList) (by simp [results, Tryz.results25, go_sem, X.resV, *]) rfl ⟨rfl, bset4 HBL.out _ _ _ _⟩

set_option maxRecDepth 100000 in
set_option maxHeartbeats 1000000 in
theorem piece_91 (s : ByteArray) (hs : s.size ≤ 20000) (h0 : 0 < s.size) (hx : s[0].toNat = 91) (w : World) (ht : Tab w) :
    Calls Tryz.prog 25 #[.string s] w fun e w' => e = .returned (X.resV (X.step s.data.toList) s.data.toList) ∧ Below w.heap.size w w' := by
  have hm : s.size ≤ maxLen := by unfold maxLen; omega
  have hl : s.data.toList.length = s.size := by simp
  have hf := first_list h0
  obtain ⟨y, hy⟩ : ∃ y, X.first (s.data.toList.drop 1) = y := ⟨_, rfl⟩
  have hsec : ∀ w, Calls Tryz.prog 47 #[.string s] w fun e w' => e = .returned (.int .u8 y) ∧ w' = w := fun w => by rw [← hy]; exact second_any s hm w
  have h2 : y ≠ 0 → 2 ≤ s.size := fun h => by rw [← hl]; exact two_of hy h
  have HT : Hid _ := ht
  clear ht
  have hst : X.step s.data.toList = some (4, 1, 0) := by simp [X.step, hf, hx, X.sgn]
  rw [hst]
  clear hst hf
  have hc : ∀ w, Calls Tryz.prog 48 #[.int .i64 4, .string s, .int .i64 1] w fun e w' => e = .returned (.agg #[.int .i64 4, .string (X.str (s.data.toList.take 1)), .int .i64 0, .int .i64 0]) ∧ Below w.heap.size w w' := fun w => (cut_any 4 s 1 (by omega) hm w).mono (by rintro e w' ⟨rfl, rfl⟩; exact ⟨rfl, bl1 _ _⟩)
  go_enter Tryz.func25, Tryz.ntmps25
  go_wp2_with fail
  go_quiet ((go_at_call 47; exact Calls.quiet_of_same (hsec _)))
  go_wp2_with (first | (go_at_call 48; refine (hc _).mono ?_; rintro e w' ⟨rfl, HB⟩; obtain ⟨hy', hyf, hB0⟩ := after1 (w' := w') (t := 48) (a := #[.int .i64 0, .string { data := #[] }, .int .i64 0, .int .i64 0]) (w := w) (by exact (below_drew' (Below.refl (w.alloc (.cells #[.int .i64 0, .string { data := #[] }, .int .i64 0, .int .i64 0] 48)).heap.size _) nq).trans HB); have y0 : w'.cell? ⟨w.heap.size, 0, none⟩ = some (.int .i64 0) := hy' 0 _ rfl; have y1 : w'.cell? ⟨w.heap.size, 1, none⟩ = some (.string { data := #[] }) := hy' 1 _ rfl; have y2 : w'.cell? ⟨w.heap.size, 2, none⟩ = some (.int .i64 0) := hy' 2 _ rfl; have y3 : w'.cell? ⟨w.heap.size, 3, none⟩ = some (.int .i64 0) := hy' 3 _ rfl; have g0 := hyf 0; have g1 := hyf 1; have g2 := hyf 2; have g3 := hyf 3; have HBL : Hid _ := hB0; clear hy' hyf hB0 HB))
  exact bodyPost_ret (v := X.resV (some (4, 1, 0)) s.data.toList) (by simp [results, Tryz.results25, go_sem, X.resV, *]) rfl ⟨rfl, bset4 HBL.out _ _ _ _⟩

set_option maxRecDepth 100000 in
set_option maxHeartbeats 1000000 in
theorem piece_93 (s : ByteArray) (hs : s.size ≤ 20000) (h0 : 0 < s.size) (hx : s[0].toNat = 93) (w : World) (ht : Tab w) :
    Calls Tryz.prog 25 #[.string s] w fun e w' => e = .returned (X.resV (X.step s.data.toList) s.data.toList) ∧ Below w.heap.size w w' := by
  have hm : s.size ≤ maxLen := by unfold maxLen; omega
  have hl : s.data.toList.length = s.size := by simp
  have hf := first_list h0
  obtain ⟨y, hy⟩ : ∃ y, X.first (s.data.toList.drop 1) = y := ⟨_, rfl⟩
  have hsec : ∀ w, Calls Tryz.prog 47 #[.string s] w fun e w' => e = .returned (.int .u8 y) ∧ w' = w := fun w => by rw [← hy]; exact second_any s hm w
  have h2 : y ≠ 0 → 2 ≤ s.size := fun h => by rw [← hl]; exact two_of hy h
  have HT : Hid _ := ht
  clear ht
  have hst : X.step s.data.toList = some (4, 1, 0) := by simp [X.step, hf, hx, X.sgn]
  rw [hst]
  clear hst hf
  have hc : ∀ w, Calls Tryz.prog 48 #[.int .i64 4, .string s, .int .i64 1] w fun e w' => e = .returned (.agg #[.int .i64 4, .string (X.str (s.data.toList.take 1)), .int .i64 0, .int .i64 0]) ∧ Below w.heap.size w w' := fun w => (cut_any 4 s 1 (by omega) hm w).mono (by rintro e w' ⟨rfl, rfl⟩; exact ⟨rfl, bl1 _ _⟩)
  go_enter Tryz.func25, Tryz.ntmps25
  go_wp2_with fail
  go_quiet ((go_at_call 47; exact Calls.quiet_of_same (hsec _)))
  go_wp2_with (first | (go_at_call 48; refine (hc _).mono ?_; rintro e w' ⟨rfl, HB⟩; obtain ⟨hy', hyf, hB0⟩ := after1 (w' := w') (t := 48) (a := #[.int .i64 0, .string { data := #[] }, .int .i64 0, .int .i64 0]) (w := w) (by exact (below_drew' (Below.refl (w.alloc (.cells #[.int .i64 0, .string { data := #[] }, .int .i64 0, .int .i64 0] 48)).heap.size _) nq).trans HB); have y0 : w'.cell? ⟨w.heap.size, 0, none⟩ = some (.int .i64 0) := hy' 0 _ rfl; have y1 : w'.cell? ⟨w.heap.size, 1, none⟩ = some (.string { data := #[] }) := hy' 1 _ rfl; have y2 : w'.cell? ⟨w.heap.size, 2, none⟩ = some (.int .i64 0) := hy' 2 _ rfl; have y3 : w'.cell? ⟨w.heap.size, 3, none⟩ = some (.int .i64 0) := hy' 3 _ rfl; have g0 := hyf 0; have g1 := hyf 1; have g2 := hyf 2; have g3 := hyf 3; have HBL : Hid _ := hB0; clear hy' hyf hB0 HB))
  exact bodyPost_ret (v := X.resV (some (4, 1, 0)) s.data.toList) (by simp [results, Tryz.results25, go_sem, X.resV, *]) rfl ⟨rfl, bset4 HBL.out _ _ _ _⟩

set_option maxRecDepth 100000 in
set_option maxHeartbeats 1000000 in
theorem piece_59 (s : ByteArray) (hs : s.size ≤ 20000) (h0 : 0 < s.size) (hx : s[0].toNat = 59) (w : World) (ht : Tab w) :
    Calls Tryz.prog 25 #[.string s] w fun e w' => e = .returned (X.resV (X.step s.data.toList) s.data.toList) ∧ Below w.heap.size w w' := by
  have hm : s.size ≤ maxLen := by unfold maxLen; omega
  have hl : s.data.toList.length = s.size := by simp
  have hf := first_list h0
  obtain ⟨y, hy⟩ : ∃ y, X.first (s.data.toList.drop 1) = y := ⟨_, rfl⟩
  have hsec : ∀ w, Calls Tryz.prog 47 #[.string s] w fun e w' => e = .returned (.int .u8 y) ∧ w' = w := fun w => by rw [← hy]; exact second_any s hm w
  have h2 : y ≠ 0 → 2 ≤ s.size := fun h => by rw [← hl]; exact two_of hy h
  have HT : Hid _ := ht
  clear ht
  have hst : X.step s.data.toList = some (4, 1, 0) := by simp [X.step, hf, hx, X.sgn]
  rw [hst]
  clear hst hf
  have hc : ∀ w, Calls Tryz.prog 48 #[.int .i64 4, .string s, .int .i64 1] w fun e w' => e = .returned (.agg #[.int .i64 4, .string (X.str (s.data.toList.take 1)), .int .i64 0, .int .i64 0]) ∧ Below w.heap.size w w' := fun w => (cut_any 4 s 1 (by omega) hm w).mono (by rintro e w' ⟨rfl, rfl⟩; exact ⟨rfl, bl1 _ _⟩)
  go_enter Tryz.func25, Tryz.ntmps25
  go_wp2_with fail
  go_quiet ((go_at_call 47; exact Calls.quiet_of_same (hsec _)))
  go_wp2_with (first | (go_at_call 48; refine (hc _).mono ?_; rintro e w' ⟨rfl, HB⟩; obtain ⟨hy', hyf, hB0⟩ := after1 (w' := w') (t := 48) (a := #[.int .i64 0, .string { data := #[] }, .int .i64 0, .int .i64 0]) (w := w) (by exact (below_drew' (Below.refl (w.alloc (.cells #[.int .i64 0, .string { data := #[] }, .int .i64 0, .int .i64 0] 48)).heap.size _) nq).trans HB); have y0 : w'.cell? ⟨w.heap.size, 0, none⟩ = some (.int .i64 0) := hy' 0 _ rfl; have y1 : w'.cell? ⟨w.heap.size, 1, none⟩ = some (.string { data := #[] }) := hy' 1 _ rfl; have y2 : w'.cell? ⟨w.heap.size, 2, none⟩ = some (.int .i64 0) := hy' 2 _ rfl; have y3 : w'.cell? ⟨w.heap.size, 3, none⟩ = some (.int .i64 0) := hy' 3 _ rfl; have g0 := hyf 0; have g1 := hyf 1; have g2 := hyf 2; have g3 := hyf 3; have HBL : Hid _ := hB0; clear hy' hyf hB0 HB))
  exact bodyPost_ret (v := X.resV (some (4, 1, 0)) s.data.toList) (by simp [results, Tryz.results25, go_sem, X.resV, *]) rfl ⟨rfl, bset4 HBL.out _ _ _ _⟩

set_option maxRecDepth 100000 in
set_option maxHeartbeats 1000000 in
theorem piece_44 (s : ByteArray) (hs : s.size ≤ 20000) (h0 : 0 < s.size) (hx : s[0].toNat = 44) (w : World) (ht : Tab w) :
    Calls Tryz.prog 25 #[.string s] w fun e w' => e = .returned (X.resV (X.step s.data.toList) s.data.toList) ∧ Below w.heap.size w w' := by
  have hm : s.size ≤ maxLen := by unfold maxLen; omega
  have hl : s.data.toList.length = s.size := by simp
  have hf := first_list h0
  obtain ⟨y, hy⟩ : ∃ y, X.first (s.data.toList.drop 1) = y := ⟨_, rfl⟩
  have hsec : ∀ w, Calls Tryz.prog 47 #[.string s] w fun e w' => e = .returned (.int .u8 y) ∧ w' = w := fun w => by rw [← hy]; exact second_any s hm w
  have h2 : y ≠ 0 → 2 ≤ s.size := fun h => by rw [← hl]; exact two_of hy h
  have HT : Hid _ := ht
  clear ht
  have hst : X.step s.data.toList = some (4, 1, 0) := by simp [X.step, hf, hx, X.sgn]
  rw [hst]
  clear hst hf
  have hc : ∀ w, Calls Tryz.prog 48 #[.int .i64 4, .string s, .int .i64 1] w fun e w' => e = .returned (.agg #[.int .i64 4, .string (X.str (s.data.toList.take 1)), .int .i64 0, .int .i64 0]) ∧ Below w.heap.size w w' := fun w => (cut_any 4 s 1 (by omega) hm w).mono (by rintro e w' ⟨rfl, rfl⟩; exact ⟨rfl, bl1 _ _⟩)
  go_enter Tryz.func25, Tryz.ntmps25
  go_wp2_with fail
  go_quiet ((go_at_call 47; exact Calls.quiet_of_same (hsec _)))
  go_wp2_with (first | (go_at_call 48; refine (hc _).mono ?_; rintro e w' ⟨rfl, HB⟩; obtain ⟨hy', hyf, hB0⟩ := after1 (w' := w') (t := 48) (a := #[.int .i64 0, .string { data := #[] }, .int .i64 0, .int .i64 0]) (w := w) (by exact (below_drew' (Below.refl (w.alloc (.cells #[.int .i64 0, .string { data := #[] }, .int .i64 0, .int .i64 0] 48)).heap.size _) nq).trans HB); have y0 : w'.cell? ⟨w.heap.size, 0, none⟩ = some (.int .i64 0) := hy' 0 _ rfl; have y1 : w'.cell? ⟨w.heap.size, 1, none⟩ = some (.string { data := #[] }) := hy' 1 _ rfl; have y2 : w'.cell? ⟨w.heap.size, 2, none⟩ = some (.int .i64 0) := hy' 2 _ rfl; have y3 : w'.cell? ⟨w.heap.size, 3, none⟩ = some (.int .i64 0) := hy' 3 _ rfl; have g0 := hyf 0; have g1 := hyf 1; have g2 := hyf 2; have g3 := hyf 3; have HBL : Hid _ := hB0; clear hy' hyf hB0 HB))
  exact bodyPost_ret (v := X.resV (some (4, 1, 0)) s.data.toList) (by simp [results, Tryz.results25, go_sem, X.resV, *]) rfl ⟨rfl, bset4 HBL.out _ _ _ _⟩

set_option maxRecDepth 100000 in
set_option maxHeartbeats 1000000 in
theorem piece_num (s : ByteArray) (hs : s.size ≤ 20000) (h0 : 0 < s.size) (hd : X.dg s[0].toNat = true) (w : World) (ht : Tab w) :
    Calls Tryz.prog 25 #[.string s] w fun e w' => e = .returned (X.resV (X.step s.data.toList) s.data.toList) ∧ Below w.heap.size w w' := by
  have hm : s.size ≤ maxLen := by unfold maxLen; omega
  have hl : s.data.toList.length = s.size := by simp
  have hf := first_list h0
  obtain ⟨y, hy⟩ : ∃ y, X.first (s.data.toList.drop 1) = y := ⟨_, rfl⟩
  have hsec : ∀ w, Calls Tryz.prog 47 #[.string s] w fun e w' => e = .returned (.int .u8 y) ∧ w' = w := fun w => by rw [← hy]; exact second_any s hm w
  have h2 : y ≠ 0 → 2 ≤ s.size := fun h => by rw [← hl]; exact two_of hy h
  have HT : Hid _ := ht
  clear ht
  obtain ⟨x, hx⟩ : ∃ x, s[0].toNat = x := ⟨_, rfl⟩
  have hd' : X.dg x = true := by rw [← hx]; exact hd
  have hx2 : 48 ≤ x ∧ x ≤ 57 := by simpa [X.dg] using hd'
  have n32 : ((x : Int) == 32) = false := by simp; omega
  have n9 : ((x : Int) == 9) = false := by simp; omega
  have n10 : ((x : Int) == 10) = false := by simp; omega
  have n38 : ((x : Int) == 38) = false := by simp; omega
  have n124 : ((x : Int) == 124) = false := by simp; omega
  have n60 : ((x : Int) == 60) = false := by simp; omega
  have n62 : ((x : Int) == 62) = false := by simp; omega
  have n61 : ((x : Int) == 61) = false := by simp; omega
  have n33 : ((x : Int) == 33) = false := by simp; omega
  have n47 : ((x : Int) == 47) = false := by simp; omega
  have n43 : ((x : Int) == 43) = false := by simp; omega
  have n45 : ((x : Int) == 45) = false := by simp; omega
  have n42 : ((x : Int) == 42) = false := by simp; omega
  have n37 : ((x : Int) == 37) = false := by simp; omega
  have n94 : ((x : Int) == 94) = false := by simp; omega
  have n40 : ((x : Int) == 40) = false := by simp; omega
  have n41 : ((x : Int) == 41) = false := by simp; omega
  have n123 : ((x : Int) == 123) = false := by simp; omega
  have n125 : ((x : Int) == 125) = false := by simp; omega
  have n91 : ((x : Int) == 91) = false := by simp; omega
  have n93 : ((x : Int) == 93) = false := by simp; omega
  have n59 : ((x : Int) == 59) = false := by simp; omega
  have n44 : ((x : Int) == 44) = false := by simp; omega
  have hst : X.step s.data.toList = X.number s.data.toList := by
    unfold X.step
    simp only [hf, hx]
    rw [if_neg (by omega), if_neg (by omega), if_neg (by omega), if_neg (by omega), if_neg (by omega), if_neg (by simp [X.sgn]; omega)]
    simp [hd']
  rw [hst]
  have hfun : ∀ w, Tab w → Calls Tryz.prog 51 #[.string s] w fun e w' => e = .returned (X.resV (X.number s.data.toList) s.data.toList) ∧ Below w.heap.size w w' := fun w h => number_any s hs h0 hd w h
  obtain ⟨a0, a1, a2, a3, hv⟩ : ∃ a0 a1 a2 a3, X.resV (X.number s.data.toList) s.data.toList = .agg #[.int .i64 a0, .string a1, .int .i64 a2, .int .i64 a3] := by
    cases X.number s.data.toList with
    | none => exact ⟨_, _, _, _, rfl⟩
    | some q => exact ⟨_, _, _, _, rfl⟩
  rw [hv] at hfun ⊢
  have hdig := isDigit_any x
  rw [hd'] at hdig
  clear hst hf hx2 hd' hd 
  go_enter Tryz.func25, Tryz.ntmps25
  go_wp2_with fail
  go_quiet ((go_at_call 47; exact Calls.quiet_of_same (hsec _)))
  have HT1 : Tab (((w.alloc (.cells #[.int .i64 0, .string { data := #[] }, .int .i64 0, .int .i64 0] 48))).drewN nq) := HT.out.below (below_drew' (bl1 _ _) _)
  go_wp2_with (first | (go_at_call 50; refine (hdig _).mono ?_; rintro e w' ⟨rfl, rfl⟩) | (go_at_call 51; refine (hfun _ HT1).mono ?_; rintro e w' ⟨rfl, HB⟩; obtain ⟨hy', hyf, hB0⟩ := after1 (w' := w') (t := 48) (a := #[.int .i64 0, .string { data := #[] }, .int .i64 0, .int .i64 0]) (w := w) (by exact (below_drew' (Below.refl (w.alloc (.cells #[.int .i64 0, .string { data := #[] }, .int .i64 0, .int .i64 0] 48)).heap.size _) nq).trans HB); have y0 : w'.cell? ⟨w.heap.size, 0, none⟩ = some (.int .i64 0) := hy' 0 _ rfl; have y1 : w'.cell? ⟨w.heap.size, 1, none⟩ = some (.string { data := #[] }) := hy' 1 _ rfl; have y2 : w'.cell? ⟨w.heap.size, 2, none⟩ = some (.int .i64 0) := hy' 2 _ rfl; have y3 : w'.cell? ⟨w.heap.size, 3, none⟩ = some (.int .i64 0) := hy' 3 _ rfl; have g0 := hyf 0; have g1 := hyf 1; have g2 := hyf 2; have g3 := hyf 3; have HBL : Hid _ := hB0; clear hy' hyf hB0 HB))
  exact bodyPost_ret (v := .agg #[.int .i64 a0, .string a1, .int .i64 a2, .int .i64 a3]) (by simp [results, Tryz.results25, go_sem, *]) rfl ⟨rfl, bset4 HBL.out _ _ _ _⟩

set_option maxRecDepth 100000 in
set_option maxHeartbeats 1000000 in
theorem piece_word (s : ByteArray) (hs : s.size ≤ 20000) (h0 : 0 < s.size) (hd : X.dg s[0].toNat = false) (hno : ¬ s[0].toNat ∈ [32, 9, 10, 38, 124, 60, 62, 61, 33, 47, 43, 45, 42, 37, 94, 40, 41, 123, 125, 91, 93, 59, 44]) (w : World) (ht : Tab w) :
    Calls Tryz.prog 25 #[.string s] w fun e w' => e = .returned (X.resV (X.step s.data.toList) s.data.toList) ∧ Below w.heap.size w w' := by
  have hm : s.size ≤ maxLen := by unfold maxLen; omega
  have hl : s.data.toList.length = s.size := by simp
  have hf := first_list h0
  obtain ⟨y, hy⟩ : ∃ y, X.first (s.data.toList.drop 1) = y := ⟨_, rfl⟩
  have hsec : ∀ w, Calls Tryz.prog 47 #[.string s] w fun e w' => e = .returned (.int .u8 y) ∧ w' = w := fun w => by rw [← hy]; exact second_any s hm w
  have h2 : y ≠ 0 → 2 ≤ s.size := fun h => by rw [← hl]; exact two_of hy h
  have HT : Hid _ := ht
  clear ht
  obtain ⟨x, hx⟩ : ∃ x, s[0].toNat = x := ⟨_, rfl⟩
  have hd' : X.dg x = false := by rw [← hx]; exact hd
  have hx2 := hno
  rw [hx] at hx2
  simp only [List.mem_cons, List.not_mem_nil, or_false, not_or] at hx2
  have n32 : ((x : Int) == 32) = false := by simp; omega
  have n9 : ((x : Int) == 9) = false := by simp; omega
  have n10 : ((x : Int) == 10) = false := by simp; omega
  have n38 : ((x : Int) == 38) = false := by simp; omega
  have n124 : ((x : Int) == 124) = false := by simp; omega
  have n60 : ((x : Int) == 60) = false := by simp; omega
  have n62 : ((x : Int) == 62) = false := by simp; omega
  have n61 : ((x : Int) == 61) = false := by simp; omega
  have n33 : ((x : Int) == 33) = false := by simp; omega
  have n47 : ((x : Int) == 47) = false := by simp; omega
  have n43 : ((x : Int) == 43) = false := by simp; omega
  have n45 : ((x : Int) == 45) = false := by simp; omega
  have n42 : ((x : Int) == 42) = false := by simp; omega
  have n37 : ((x : Int) == 37) = false := by simp; omega
  have n94 : ((x : Int) == 94) = false := by simp; omega
  have n40 : ((x : Int) == 40) = false := by simp; omega
  have n41 : ((x : Int) == 41) = false := by simp; omega
  have n123 : ((x : Int) == 123) = false := by simp; omega
  have n125 : ((x : Int) == 125) = false := by simp; omega
  have n91 : ((x : Int) == 91) = false := by simp; omega
  have n93 : ((x : Int) == 93) = false := by simp; omega
  have n59 : ((x : Int) == 59) = false := by simp; omega
  have n44 : ((x : Int) == 44) = false := by simp; omega
  have hst : X.step s.data.toList = X.wordOrName s.data.toList := by
    unfold X.step
    simp only [hf, hx]
    rw [if_neg (by omega), if_neg (by omega), if_neg (by omega), if_neg (by omega), if_neg (by omega), if_neg (by simp [X.sgn]; omega)]
    simp [hd']
  rw [hst]
  have hfun : ∀ w, Tab w → Calls Tryz.prog 52 #[.string s] w fun e w' => e = .returned (X.resV (X.wordOrName s.data.toList) s.data.toList) ∧ Below w.heap.size w w' := fun w h => wordOrName_any s hs w h
  obtain ⟨a0, a1, a2, a3, hv⟩ : ∃ a0 a1 a2 a3, X.resV (X.wordOrName s.data.toList) s.data.toList = .agg #[.int .i64 a0, .string a1, .int .i64 a2, .int .i64 a3] := by
    cases X.wordOrName s.data.toList with
    | none => exact ⟨_, _, _, _, rfl⟩
    | some q => exact ⟨_, _, _, _, rfl⟩
  rw [hv] at hfun ⊢
  have hdig := isDigit_any x
  rw [hd'] at hdig
  clear hst hf hx2 hd' hd hno 
  go_enter Tryz.func25, Tryz.ntmps25
  go_wp2_with fail
  go_quiet ((go_at_call 47; exact Calls.quiet_of_same (hsec _)))
  have HT1 : Tab (((w.alloc (.cells #[.int .i64 0, .string { data := #[] }, .int .i64 0, .int .i64 0] 48))).drewN nq) := HT.out.below (below_drew' (bl1 _ _) _)
  go_wp2_with (first | (go_at_call 50; refine (hdig _).mono ?_; rintro e w' ⟨rfl, rfl⟩) | (go_at_call 52; refine (hfun _ HT1).mono ?_; rintro e w' ⟨rfl, HB⟩; obtain ⟨hy', hyf, hB0⟩ := after1 (w' := w') (t := 48) (a := #[.int .i64 0, .string { data := #[] }, .int .i64 0, .int .i64 0]) (w := w) (by exact (below_drew' (Below.refl (w.alloc (.cells #[.int .i64 0, .string { data := #[] }, .int .i64 0, .int .i64 0] 48)).heap.size _) nq).trans HB); have y0 : w'.cell? ⟨w.heap.size, 0, none⟩ = some (.int .i64 0) := hy' 0 _ rfl; have y1 : w'.cell? ⟨w.heap.size, 1, none⟩ = some (.string { data := #[] }) := hy' 1 _ rfl; have y2 : w'.cell? ⟨w.heap.size, 2, none⟩ = some (.int .i64 0) := hy' 2 _ rfl; have y3 : w'.cell? ⟨w.heap.size, 3, none⟩ = some (.int .i64 0) := hy' 3 _ rfl; have g0 := hyf 0; have g1 := hyf 1; have g2 := hyf 2; have g3 := hyf 3; have HBL : Hid _ := hB0; clear hy' hyf hB0 HB))
  exact bodyPost_ret (v := .agg #[.int .i64 a0, .string a1, .int .i64 a2, .int .i64 a3]) (by simp [results, Tryz.results25, go_sem, *]) rfl ⟨rfl, bset4 HBL.out _ _ _ _⟩

theorem piece_any (s : ByteArray) (hs : s.size ≤ 20000) (h0 : 0 < s.size) (w : World) (ht : Tab w) :
    Calls Tryz.prog 25 #[.string s] w fun e w' => e = .returned (X.resV (X.step s.data.toList) s.data.toList) ∧ Below w.heap.size w w' := by
  by_cases h : s[0].toNat ∈ [32, 9, 10, 38, 124, 60, 62, 61, 33, 47, 43, 45, 42, 37, 94, 40, 41, 123, 125, 91, 93, 59, 44]
  · simp only [List.mem_cons, List.not_mem_nil, or_false] at h
    rcases h with h | h | h | h | h | h | h | h | h | h | h | h | h | h | h | h | h | h | h | h | h | h | h
    · exact piece_32 s hs h0 h w ht
    · exact piece_9 s hs h0 h w ht
    · exact piece_10 s hs h0 h w ht
    · exact piece_38 s hs h0 h w ht
    · exact piece_124 s hs h0 h w ht
    · exact piece_60 s hs h0 h w ht
    · exact piece_62 s hs h0 h w ht
    · exact piece_61 s hs h0 h w ht
    · exact piece_33 s hs h0 h w ht
    · exact piece_47 s hs h0 h w ht
    · exact piece_43 s hs h0 h w ht
    · exact piece_45 s hs h0 h w ht
    · exact piece_42 s hs h0 h w ht
    · exact piece_37 s hs h0 h w ht
    · exact piece_94 s hs h0 h w ht
    · exact piece_40 s hs h0 h w ht
    · exact piece_41 s hs h0 h w ht
    · exact piece_123 s hs h0 h w ht
    · exact piece_125 s hs h0 h w ht
    · exact piece_91 s hs h0 h w ht
    · exact piece_93 s hs h0 h w ht
    · exact piece_59 s hs h0 h w ht
    · exact piece_44 s hs h0 h w ht
  · cases hd : X.dg s[0].toNat
    · exact piece_word s hs h0 hd h w ht
    · exact piece_num s hs h0 hd w ht

end Go.Proofs.YtikknlkdbjaonaaGreatDoor

/- The answers that the law's own examples ask for; items as Parse leaves them. -/
import Derived.Test.YtbkjiipelmfbjaaGreatDoorAsParse
import Derived.Test.YtbkjiipelmfbjaaGreatDoorAsPrintB
import Derived.Test.YtbkjiipelmfbjaaGreatDoorAsSame
namespace Go.Proofs.YtbkjiipelmfbjaaGreatDoor
open Go.RowKit Go.Maps Go.Lib
set_option linter.unusedVariables false
set_option linter.unusedSimpArgs false

theorem flat_at {α : Type} (f : α → List Value) (m : Nat) (d : α) (hm : ∀ x, (f x).length = m) : ∀ (l : List α) (i j : Nat), i < l.length → j < m → (l.flatMap f)[i * m + j]? = (f (l.getD i d))[j]?
  | [], i, j, hi, _ => by simp at hi
  | x :: l, 0, j, hi, hj => by
    rw [List.flatMap_cons, Nat.zero_mul, Nat.zero_add, List.getElem?_append_left (by rw [hm]; exact hj)]
    rfl
  | x :: l, i + 1, j, hi, hj => by
    rw [List.flatMap_cons, List.getElem?_append_right (by rw [hm, Nat.succ_mul]; omega), hm, show (i + 1) * m + j - m = i * m + j by rw [Nat.succ_mul]; omega, flat_at f m d hm l i j (by simpa using hi) hj]
    rfl
theorem ints_of_own {W : World} {B : Nat} {aw : Option Addr} {lw cw : Nat} {ns : List Int} (h : W.ownsRow B 2 1 (.slice aw lw cw) lw (iC ns)) : IntsV W aw lw cw ns := by
  have hl : ns.length = lw := by have := h.1; unfold iC at this; simpa using this
  rcases h.2 with ⟨e1, rfl⟩ | ⟨g, cap, cur, e1, -, -, h1, h2, -⟩
  · cases e1; exact ⟨hl, ⟨Nat.le_refl _, Nat.zero_le _⟩, .inl rfl⟩
  · cases e1
    refine ⟨hl, ⟨h1, h2⟩, .inr ⟨_, 0, rfl, fun i hi => ?_⟩⟩
    rw [Nat.zero_add, h.cellAt i (by omega)]
    unfold iC
    rw [List.getElem?_map]
    have : i < ns.length := by omega
    simp [List.getD, this]
theorem its_of_own {W : World} {B B' : Nat} {tv : List (X.It × Value)} {a : Option Addr} {c : Nat} (h : W.ownsRow B 32 7 (.slice a tv.length c) tv.length (tv.flatMap itF)) (ho : ItO B' W tv) (hf : ∀ t ∈ tv.map (·.1), X.fitsIt t) : ItsV W a tv.length c (tv.map (·.1)) := by
  have hfit : ∀ t ∈ tv.map (·.1), t.name.length ≤ maxLen ∧ X.fitsIt t := fun t ht => by
    obtain ⟨p, hp, rfl⟩ := List.mem_map.1 ht
    exact ⟨Nat.le_trans (ho p hp).1 (by unfold maxLen; omega), hf _ ht⟩
  rcases h.2 with ⟨e1, e2⟩ | ⟨g, cap, cur, e1, -, -, h1, h2, -⟩
  · injection e1 with e1 _ e3
    subst e1 e3
    exact ⟨by simp, ⟨by omega, Nat.zero_le _⟩, hfit, .inl e2⟩
  · injection e1 with e1 _ e3
    subst e1 e3
    refine ⟨by simp, ⟨h1, h2⟩, hfit, .inr ⟨g, 0, rfl, fun i hi => ?_⟩⟩
    have hg : (tv.map (·.1)).getD i X.noIt = (tv.getD i (X.noIt, .slice none 0 0)).1 := by simp [List.getD, hi]
    have hm : tv.getD i (X.noIt, .slice none 0 0) ∈ tv := by simp [List.getD, hi]
    obtain ⟨-, aw, lw, cw, e, hw⟩ := ho _ hm
    have hc : ∀ j u, j < 7 → (itF (tv.getD i (X.noIt, .slice none 0 0)))[j]? = some u → W.cell? ⟨g, i * 7 + j, none⟩ = some u := fun j u hj hu => by
      rw [h.cellAt _ (by omega), flat_at itF 7 (X.noIt, .slice none 0 0) itF_len tv i j hi hj]
      exact hu
    rw [hg]
    refine ⟨aw, lw, cw, ?_, ?_, ?_, ?_, ?_, ?_, ?_, ints_of_own hw⟩
    · simpa using hc 0 _ (by omega) rfl
    · simpa using hc 1 _ (by omega) rfl
    · simpa using hc 2 _ (by omega) rfl
    · simpa using hc 3 _ (by omega) rfl
    · simpa using hc 4 _ (by omega) rfl
    · simpa using hc 5 _ (by omega) rfl
    · rw [← e]; simpa using hc 6 _ (by omega) rfl
/-- What Parse leaves, as it is read. -/
def ParseV (w : World) (r : List X.It × Nat) (e : Ending) (w' : World) : Prop := ∃ a c, e = .returned (.tuple #[.slice a r.1.length c, .int .i64 r.2]) ∧ ItsV w' a r.1.length c r.1 ∧ Below w.heap.size w w'
theorem parse_v (s : ByteArray) (hs : s.size ≤ maxLen) (w : World) (ht : Tab w) :
    Calls Tryz.prog 5 #[.string s] w (ParseV w (X.parse s.data.toList)) := by
  refine (parse_any s hs w ht).mono ?_
  rintro e w' ⟨tv, a, c, rfl, h1, h2, h3, h4⟩
  obtain ⟨-, -, -, -, hf⟩ := X.parse_ok (s := s.data.toList) (l := (X.parse s.data.toList).1) (z := (X.parse s.data.toList).2) rfl
  have hl : (X.parse s.data.toList).1.length = tv.length := by rw [← h1]; simp
  have hv := its_of_own h2 h3 (by rw [h1]; exact hf)
  rw [h1] at hv
  refine ⟨a, c, by rw [hl], by rw [hl]; exact hv, h4⟩

theorem ex1 : X.parse [32, 32, 109, 111, 118, 32, 114, 49, 32, 114, 50, 32, 35, 32, 115, 111, 10, 10, 120, 58, 10] = ([⟨2, [], 2, 1, 2, 0, []⟩, ⟨1, [120], 0, 0, 0, 0, []⟩], 0) := by decide +kernel
theorem ex2 : X.parse [109, 111, 118, 105, 32, 114, 49, 32, 48, 48, 55] = ([], 2) := by decide +kernel
theorem ex3 : X.print [⟨2, [120], 19, 3, 0, -8, []⟩, ⟨3, [120], 0, 0, 0, 0, [1, -2]⟩] = ([97, 100, 114, 32, 114, 51, 32, 120, 32, 45, 56, 10, 46, 119, 111, 114, 100, 115, 32, 120, 32, 49, 32, 45, 50, 10], 0) := by decide +kernel

theorem noInts (W : World) : IntsV W none 0 0 [] := ⟨rfl, ⟨Nat.le_refl _, Nat.zero_le _⟩, .inl rfl⟩
theorem its3 (w : World) : ItsV ((w.alloc (.cells #[.int .i64 1, .int .i64 (-2)] 2)).alloc (.cells #[.int .i64 2, .string { data := #[120] }, .int .i64 19, .int .i64 3, .int .i64 0, .int .i64 (-8), .slice none 0 0, .int .i64 3, .string { data := #[120] }, .int .i64 0, .int .i64 0, .int .i64 0, .int .i64 0, .slice (some ⟨w.heap.size, 0, none⟩) 2 2] 32)) (some ⟨w.heap.size + 1, 0, none⟩) 2 2 [⟨2, [120], 19, 3, 0, -8, []⟩, ⟨3, [120], 0, 0, 0, 0, [1, -2]⟩] := by
  refine ⟨rfl, ⟨Nat.le_refl _, by unfold maxLen; omega⟩, ?_, .inr ⟨_, 0, rfl, fun i hi => ?_⟩⟩
  · intro t ht
    simp at ht
    rcases ht with rfl | rfl
    · exact ⟨by unfold maxLen; simp, ⟨⟨by decide, by decide⟩, by simp⟩⟩
    · exact ⟨by unfold maxLen; simp, ⟨⟨by decide, by decide⟩, by intro n hn; simp at hn; rcases hn with rfl | rfl <;> exact ⟨by decide, by decide⟩⟩⟩
  · have hc : ∀ j u, (#[.int .i64 2, .string { data := #[120] }, .int .i64 19, .int .i64 3, .int .i64 0, .int .i64 (-8), .slice none 0 0, .int .i64 3, .string { data := #[120] }, .int .i64 0, .int .i64 0, .int .i64 0, .int .i64 0, .slice (some ⟨w.heap.size, 0, none⟩) 2 2] : Array Value)[j]? = some u → ((w.alloc (.cells #[.int .i64 1, .int .i64 (-2)] 2)).alloc (.cells #[.int .i64 2, .string { data := #[120] }, .int .i64 19, .int .i64 3, .int .i64 0, .int .i64 (-8), .slice none 0 0, .int .i64 3, .string { data := #[120] }, .int .i64 0, .int .i64 0, .int .i64 0, .int .i64 0, .slice (some ⟨w.heap.size, 0, none⟩) 2 2] 32)).cell? ⟨w.heap.size + 1, j, none⟩ = some u := fun j u hu => by
      have := row_cell (w := w.alloc (.cells #[.int .i64 1, .int .i64 (-2)] 2)) (a := #[.int .i64 2, .string { data := #[120] }, .int .i64 19, .int .i64 3, .int .i64 0, .int .i64 (-8), .slice none 0 0, .int .i64 3, .string { data := #[120] }, .int .i64 0, .int .i64 0, .int .i64 0, .int .i64 0, .slice (some ⟨w.heap.size, 0, none⟩) 2 2]) (t := 32) (k := j) (u := u) hu
      simpa using this
    rcases (show i = 0 ∨ i = 1 by omega) with rfl | rfl
    · exact ⟨none, 0, 0, hc 0 _ rfl, hc 1 _ rfl, hc 2 _ rfl, hc 3 _ rfl, hc 4 _ rfl, hc 5 _ rfl, hc 6 _ rfl, noInts _⟩
    · refine ⟨some ⟨w.heap.size, 0, none⟩, 2, 2, hc 7 _ rfl, hc 8 _ rfl, hc 9 _ rfl, hc 10 _ rfl, hc 11 _ rfl, hc 12 _ rfl, hc 13 _ rfl, ⟨rfl, ⟨Nat.le_refl _, by unfold maxLen; omega⟩, .inr ⟨_, 0, rfl, fun k hk => ?_⟩⟩⟩
      have hd : ∀ j u, (#[.int .i64 1, .int .i64 (-2)] : Array Value)[j]? = some u → ((w.alloc (.cells #[.int .i64 1, .int .i64 (-2)] 2)).alloc (.cells #[.int .i64 2, .string { data := #[120] }, .int .i64 19, .int .i64 3, .int .i64 0, .int .i64 (-8), .slice none 0 0, .int .i64 3, .string { data := #[120] }, .int .i64 0, .int .i64 0, .int .i64 0, .int .i64 0, .slice (some ⟨w.heap.size, 0, none⟩) 2 2] 32)).cell? ⟨w.heap.size, j, none⟩ = some u := fun j u hu => cell_thru (bl1 _ _) (row_cell hu)
      rcases (show k = 0 ∨ k = 1 by omega) with rfl | rfl
      · exact hd 0 _ rfl
      · exact hd 1 _ rfl
theorem its4 (w : World) : ItsV (w.alloc (.cells #[.int .i64 2, .string { data := #[] }, .int .i64 2, .int .i64 1, .int .i64 2, .int .i64 0, .slice none 0 0, .int .i64 1, .string { data := #[120] }, .int .i64 0, .int .i64 0, .int .i64 0, .int .i64 0, .slice none 0 0] 32)) (some ⟨w.heap.size, 0, none⟩) 2 2 [⟨2, [], 2, 1, 2, 0, []⟩, ⟨1, [120], 0, 0, 0, 0, []⟩] := by
  refine ⟨rfl, ⟨Nat.le_refl _, by unfold maxLen; omega⟩, ?_, .inr ⟨_, 0, rfl, fun i hi => ?_⟩⟩
  · intro t ht
    simp at ht
    rcases ht with rfl | rfl <;> exact ⟨by unfold maxLen; simp, ⟨⟨by decide, by decide⟩, by simp⟩⟩
  · have hc : ∀ j u, (#[.int .i64 2, .string { data := #[] }, .int .i64 2, .int .i64 1, .int .i64 2, .int .i64 0, .slice none 0 0, .int .i64 1, .string { data := #[120] }, .int .i64 0, .int .i64 0, .int .i64 0, .int .i64 0, .slice none 0 0] : Array Value)[j]? = some u → (w.alloc (.cells #[.int .i64 2, .string { data := #[] }, .int .i64 2, .int .i64 1, .int .i64 2, .int .i64 0, .slice none 0 0, .int .i64 1, .string { data := #[120] }, .int .i64 0, .int .i64 0, .int .i64 0, .int .i64 0, .slice none 0 0] 32)).cell? ⟨w.heap.size, j, none⟩ = some u := fun j u hu => row_cell hu
    rcases (show i = 0 ∨ i = 1 by omega) with rfl | rfl
    · exact ⟨none, 0, 0, hc 0 _ rfl, hc 1 _ rfl, hc 2 _ rfl, hc 3 _ rfl, hc 4 _ rfl, hc 5 _ rfl, hc 6 _ rfl, noInts _⟩
    · exact ⟨none, 0, 0, hc 7 _ rfl, hc 8 _ rfl, hc 9 _ rfl, hc 10 _ rfl, hc 11 _ rfl, hc 12 _ rfl, hc 13 _ rfl, noInts _⟩
theorem px1 (w : World) (ht : Tab w) : Calls Tryz.prog 5 #[.string { data := #[32, 32, 109, 111, 118, 32, 114, 49, 32, 114, 50, 32, 35, 32, 115, 111, 10, 10, 120, 58, 10] }] w (ParseV w ([⟨2, [], 2, 1, 2, 0, []⟩, ⟨1, [120], 0, 0, 0, 0, []⟩], 0)) := by
  have h := parse_v { data := #[32, 32, 109, 111, 118, 32, 114, 49, 32, 114, 50, 32, 35, 32, 115, 111, 10, 10, 120, 58, 10] } (by unfold maxLen; simp [ByteArray.size]) w ht
  rw [show (ByteArray.data { data := #[32, 32, 109, 111, 118, 32, 114, 49, 32, 114, 50, 32, 35, 32, 115, 111, 10, 10, 120, 58, 10] }).toList = [32, 32, 109, 111, 118, 32, 114, 49, 32, 114, 50, 32, 35, 32, 115, 111, 10, 10, 120, 58, 10] from rfl, ex1] at h
  exact h
theorem px2 (w : World) (ht : Tab w) : Calls Tryz.prog 5 #[.string { data := #[109, 111, 118, 105, 32, 114, 49, 32, 48, 48, 55] }] w (ParseV w ([], 2)) := by
  have h := parse_v { data := #[109, 111, 118, 105, 32, 114, 49, 32, 48, 48, 55] } (by unfold maxLen; simp [ByteArray.size]) w ht
  rw [show (ByteArray.data { data := #[109, 111, 118, 105, 32, 114, 49, 32, 48, 48, 55] }).toList = [109, 111, 118, 105, 32, 114, 49, 32, 48, 48, 55] from rfl, ex2] at h
  exact h
theorem px3 {w : World} (ht : Tab ((w.alloc (.cells #[.int .i64 1, .int .i64 (-2)] 2)).alloc (.cells #[.int .i64 2, .string { data := #[120] }, .int .i64 19, .int .i64 3, .int .i64 0, .int .i64 (-8), .slice none 0 0, .int .i64 3, .string { data := #[120] }, .int .i64 0, .int .i64 0, .int .i64 0, .int .i64 0, .slice (some ⟨w.heap.size, 0, none⟩) 2 2] 32))) : Calls Tryz.prog 8 #[.slice (some ⟨w.heap.size + 1, 0, none⟩) 2 2] ((w.alloc (.cells #[.int .i64 1, .int .i64 (-2)] 2)).alloc (.cells #[.int .i64 2, .string { data := #[120] }, .int .i64 19, .int .i64 3, .int .i64 0, .int .i64 (-8), .slice none 0 0, .int .i64 3, .string { data := #[120] }, .int .i64 0, .int .i64 0, .int .i64 0, .int .i64 0, .slice (some ⟨w.heap.size, 0, none⟩) 2 2] 32)) fun e w' => e = .returned (.tuple #[.string { data := #[97, 100, 114, 32, 114, 51, 32, 120, 32, 45, 56, 10, 46, 119, 111, 114, 100, 115, 32, 120, 32, 49, 32, 45, 50, 10] }, .int .i64 0]) ∧ Below ((w.alloc (.cells #[.int .i64 1, .int .i64 (-2)] 2)).alloc (.cells #[.int .i64 2, .string { data := #[120] }, .int .i64 19, .int .i64 3, .int .i64 0, .int .i64 (-8), .slice none 0 0, .int .i64 3, .string { data := #[120] }, .int .i64 0, .int .i64 0, .int .i64 0, .int .i64 0, .slice (some ⟨w.heap.size, 0, none⟩) 2 2] 32)).heap.size ((w.alloc (.cells #[.int .i64 1, .int .i64 (-2)] 2)).alloc (.cells #[.int .i64 2, .string { data := #[120] }, .int .i64 19, .int .i64 3, .int .i64 0, .int .i64 (-8), .slice none 0 0, .int .i64 3, .string { data := #[120] }, .int .i64 0, .int .i64 0, .int .i64 0, .int .i64 0, .slice (some ⟨w.heap.size, 0, none⟩) 2 2] 32)) w' := by
  have h := print_any (its3 w) ht
  rw [ex3] at h
  exact h

set_option maxRecDepth 100000 in
set_option maxHeartbeats 4000000 in
theorem live_any (w : World) (ht : Tab w) :
    Calls Tryz.prog 4 #[] w fun e w' => e = .returned (.bool true) ∧ Below w.heap.size w w' := by
  have HT : Hid _ := ht
  clear ht
  go_enter Tryz.func4, Tryz.ntmps4
  go_wp2_with fail
  refine (px1 _ HT.out).mono ?_
  rintro e w1 ⟨a1, c1, rfl, hv1, hb1⟩
  have HB1 : Hid (Below w.heap.size w w1) := hb1
  have HV1 : Hid (ItsV w1 a1 2 c1 [⟨2, [], 2, 1, 2, 0, []⟩, ⟨1, [120], 0, 0, 0, 0, []⟩]) := hv1
  clear hv1 hb1
  go_wp2_with fail
  refine (px2 _ (HT.out.below HB1.out)).mono ?_
  rintro e w2 ⟨a2, c2, rfl, -, hb2⟩
  have HB2 : Hid (Below w1.heap.size w1 w2) := hb2
  have HW2 : Hid (Below w.heap.size w w2) := HB1.out.trans (hb2.mono HB1.out.size)
  clear hb2
  go_wp2_with fail
  refine (px3 (((HT.out.below HW2.out).alloc _).alloc _)).mono ?_
  rintro e w3 ⟨rfl, hb3⟩
  have HB3 : Hid (Below w2.heap.size w2 w3) := (bl2 _ _ _).trans (hb3.mono (bl2 _ _ _).size)
  clear hb3
  go_wp2_with fail
  refine (same_any (HV1.out.below (HB2.out.trans ((HB3.out.alloc HB3.out.size _).mono HB2.out.size))) (its4 w3) true (by simp)).mono ?_
  rintro e w4 ⟨rfl, hb4⟩
  have HB4 : Hid (Below w3.heap.size w3 w4) := (bl1 _ _).trans (hb4.mono (bl1 _ _).size)
  clear hb4
  go_wp2_with fail
  go_ret
  refine ⟨rfl, ?_⟩
  have h3 := HW2.out.trans (HB3.out.mono HW2.out.size)
  exact h3.trans (HB4.out.mono h3.size)

end Go.Proofs.YtbkjiipelmfbjaaGreatDoor

/- The document's one, at a sign; at any place that is no blank and no note. -/
import Derived.Test.YtfnakckiidblkaaDoorLexRefOneB
namespace Go.Proofs.YtfnakckiidblkaaDoor
open Go.RowKit
set_option linter.unusedVariables false
set_option linter.unusedSimpArgs false

set_option maxRecDepth 100000 in
set_option maxHeartbeats 4000000 in
theorem one_sign (s : ByteArray) (hs : s.size ≤ 20000) (i : Nat) (hi : i < s.size) (hl : X.lt s[i].toNat = false) (hd : X.dg s[i].toNat = false)
    (hb : ¬ (X.first (s.data.toList.drop i) = 32 ∨ X.first (s.data.toList.drop i) = 9 ∨ X.first (s.data.toList.drop i) = 10)) (hn : ¬ (X.first (s.data.toList.drop i) = 47 ∧ X.first ((s.data.toList.drop i).drop 1) = 47)) (w : World) :
    Calls Tryd.prog 16 #[.string s, .int .i64 i] w (OneOut w (s.data.toList.drop i) i) := by
  have hL : s.data.toList.length = s.size := by simp
  have hmx : maxLen = 9223372036854775807 := rfl
  have hlen : (s.data.toList.drop i).length = s.size - i := by simp
  have hne : s.data.toList.drop i ≠ [] := fun e => by rw [e] at hlen; simp at hlen; omega
  have hfd := first_drop s i hi
  have HM : Hid _ := X.sign_step hne hb hn (by rw [hfd]; exact hl) (by rw [hfd]; exact hd)
  have hsg := fun w => rsign_any (s.extract i s.size) (by rw [str_drop, str_size]; omega) w
  rw [str_drop, str_list] at hsg
  rw [← str_drop] at hsg
  obtain ⟨sg, hsgn⟩ : ∃ sg, X.sign (s.data.toList.drop i) = sg := ⟨_, rfl⟩
  rw [hsgn] at hsg
  have HSG : Hid _ := hsgn
  have hin : 0 ≤ (i : Int) := by omega
  have hii : (i : Int) < s.size := by omega
  clear hb hn hne hfd hsgn
  have hemp : sg = [] ∧ (X.str sg).toList = [] ∨ sg ≠ [] ∧ ¬ (X.str sg).toList = [] := by
    by_cases h : sg = []
    · exact .inl ⟨h, by rw [ByteArray.toList_eq, str_list]; exact h⟩
    · exact .inr ⟨h, by rw [ByteArray.toList_eq, str_list]; exact h⟩
  generalize htx : X.str sg = tx at *
  have HTX : Hid _ := htx
  clear htx
  rcases hemp with ⟨h1, h2⟩ | ⟨h1, h2⟩
  · go_enter Tryd.func16, Tryd.ntmps16
    go_wp2_with (first | (go_at_call 21; refine (rletter_any s[i].toNat _).mono ?_; rw [hl]; rintro e w' ⟨rfl, rfl⟩) | (go_at_call 23; refine (rdigit_any s[i].toNat _).mono ?_; rw [hd]; rintro e w' ⟨rfl, rfl⟩) | fail)
    refine (hsg _).mono ?_
    rintro e w3 ⟨rfl, HB⟩
    obtain ⟨hy', hyf, hB0⟩ := after1 (w' := w3) (t := 30) (a := #[.int .i64 0, .string { data := #[] }, .int .i64 0, .int .i64 0]) (w := w) HB
    have y0 : w3.cell? ⟨w.heap.size, 0, none⟩ = some (.int .i64 0) := hy' 0 _ rfl
    have y1 : w3.cell? ⟨w.heap.size, 1, none⟩ = some (.string { data := #[] }) := hy' 1 _ rfl
    have y2 : w3.cell? ⟨w.heap.size, 2, none⟩ = some (.int .i64 0) := hy' 2 _ rfl
    have y3 : w3.cell? ⟨w.heap.size, 3, none⟩ = some (.int .i64 0) := hy' 3 _ rfl
    have g0 := hyf 0
    have g1 := hyf 1
    have g2 := hyf 2
    have g3 := hyf 3
    have hz3 : w.heap.size < w3.heap.size := by have := HB.size; simp at this; omega
    have HBL : Hid _ := hB0
    clear hy' hyf hB0 HB
    go_wp2_with fail
    go_region
    all_goals
      go_wp2
      exact bodyPost_ret (v := .tuple #[.agg #[.int .i64 4, .string tx, .int .i64 0, .int .i64 i], .bool false]) (by simp [results, Tryd.results16, go_sem, *]) rfl ⟨4, tx, 0, i, false, rfl, by (repeat (first | exact HBL.out | refine Below.drew ?_ | refine Below.alloc ?_ (by simp; omega) _ | refine Below.setCell ?_ (by first | exact Nat.le_refl _ | (simp; done) | (simp; omega)) _)), .inl ⟨rfl, by rw [HM.out.1, X.signR, HSG.out, if_pos h1]⟩⟩
  · go_enter Tryd.func16, Tryd.ntmps16
    go_wp2_with (first | (go_at_call 21; refine (rletter_any s[i].toNat _).mono ?_; rw [hl]; rintro e w' ⟨rfl, rfl⟩) | (go_at_call 23; refine (rdigit_any s[i].toNat _).mono ?_; rw [hd]; rintro e w' ⟨rfl, rfl⟩) | fail)
    refine (hsg _).mono ?_
    rintro e w3 ⟨rfl, HB⟩
    obtain ⟨hy', hyf, hB0⟩ := after1 (w' := w3) (t := 30) (a := #[.int .i64 0, .string { data := #[] }, .int .i64 0, .int .i64 0]) (w := w) HB
    have y0 : w3.cell? ⟨w.heap.size, 0, none⟩ = some (.int .i64 0) := hy' 0 _ rfl
    have y1 : w3.cell? ⟨w.heap.size, 1, none⟩ = some (.string { data := #[] }) := hy' 1 _ rfl
    have y2 : w3.cell? ⟨w.heap.size, 2, none⟩ = some (.int .i64 0) := hy' 2 _ rfl
    have y3 : w3.cell? ⟨w.heap.size, 3, none⟩ = some (.int .i64 0) := hy' 3 _ rfl
    have g0 := hyf 0
    have g1 := hyf 1
    have g2 := hyf 2
    have g3 := hyf 3
    have hz3 : w.heap.size < w3.heap.size := by have := HB.size; simp at this; omega
    have HBL : Hid _ := hB0
    clear hy' hyf hB0 HB
    go_wp2_with fail
    go_region
    all_goals
      go_wp2
      exact bodyPost_ret (v := .tuple #[.agg #[.int .i64 4, .string tx, .int .i64 0, .int .i64 i], .bool true]) (by simp [results, Tryd.results16, go_sem, *]) rfl ⟨4, tx, 0, i, true, rfl, by (repeat (first | exact HBL.out | refine Below.drew ?_ | refine Below.alloc ?_ (by simp; omega) _ | refine Below.setCell ?_ (by first | exact Nat.le_refl _ | (simp; done) | (simp; omega)) _)), .inr ⟨rfl, 4, sg.length, 0, by rw [HM.out.1, X.signR, HSG.out, if_neg h1], by decide, rfl, by rw [← HTX.out]; have := HM.out.2 (by rw [HSG.out]; exact h1); rw [HSG.out] at this; rw [this], rfl, rfl⟩⟩

theorem one_any (s : ByteArray) (hs : s.size ≤ 20000) (i : Nat) (hi : i < s.size)
    (hb : ¬ (X.first (s.data.toList.drop i) = 32 ∨ X.first (s.data.toList.drop i) = 9 ∨ X.first (s.data.toList.drop i) = 10)) (hn : ¬ (X.first (s.data.toList.drop i) = 47 ∧ X.first ((s.data.toList.drop i).drop 1) = 47)) (w : World) :
    Calls Tryd.prog 16 #[.string s, .int .i64 i] w (OneOut w (s.data.toList.drop i) i) := by
  cases hl : X.lt s[i].toNat
  · cases hd : X.dg s[i].toNat
    · exact one_sign s hs i hi hl hd hb hn w
    · exact one_digit s hs i hi hd w
  · exact one_letter s hs i hi hl w

end Go.Proofs.YtfnakckiidblkaaDoor

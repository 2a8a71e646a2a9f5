/- The document's Same. -/
import Derived.Test.YtfnakckiidblkaaDoorLexRow
import Derived.Laws.StructEq
namespace Go.Proofs.YtfnakckiidblkaaDoor
open Go.RowKit Go.Maps Go.Lib
set_option linter.unusedVariables false
set_option linter.unusedSimpArgs false

abbrev noTok : X.Tok := ⟨0, [], 0, 0⟩
theorem list_ext_getD {α : Type} {xs ys : List α} (d : α) (hl : xs.length = ys.length) (h : ∀ i, i < xs.length → xs.getD i d = ys.getD i d) : xs = ys := by
  refine List.ext_getElem hl fun i h1 h2 => ?_
  have := h i h1
  simpa [List.getD, h1, h2] using this
theorem TV.at {w : World} {a : Option Addr} {n c : Nat} {ts : List X.Tok} (h : TV w a n c ts) {i : Nat} (hi : i < n) : ∃ b off, a = some ⟨b, off, none⟩ ∧ w.cell? ⟨b, off + i * 4, none⟩ = some (.int .i64 (ts.getD i noTok).kind) ∧ w.cell? ⟨b, off + i * 4 + 1, none⟩ = some (.string (X.str (ts.getD i noTok).text)) ∧ w.cell? ⟨b, off + i * 4 + 2, none⟩ = some (.int .i64 (ts.getD i noTok).n) ∧ w.cell? ⟨b, off + i * 4 + 3, none⟩ = some (.int .i64 (ts.getD i noTok).at') := by
  rcases h.cells with h0 | ⟨b, off, e, hc⟩
  · omega
  · exact ⟨b, off, e, hc i hi 0 _ (by omega) rfl, hc i hi 1 _ (by omega) rfl, hc i hi 2 _ (by omega) rfl, hc i hi 3 _ (by omega) rfl⟩

def tokEq (x y : X.Tok) : Bool := decide (x.kind = y.kind) && (decide (x.text = y.text) && (decide (x.n = y.n) && decide (x.at' = y.at')))
theorem tokEq_iff {x y : X.Tok} : tokEq x y = true ↔ x = y := by
  cases x; cases y; simp [tokEq]
theorem beq_nat (a b : Nat) : ((a : Int) == (b : Int)) = decide (a = b) := by
  rw [Bool.eq_iff_iff]; simp; omega
theorem beq_str (a b : X.By) : ((X.str a).toList == (X.str b).toList) = decide (a = b) := by
  rw [ByteArray.toList_eq, ByteArray.toList_eq, str_list, str_list]
  rw [Bool.eq_iff_iff]; simp
set_option maxRecDepth 100000 in
theorem eqTok (x y : X.Tok) (w : World) : (Op.equalIn 10000 30 (.agg #[.int .i64 x.kind, .string (X.str x.text), .int .i64 x.n, .int .i64 x.at']) (.agg #[.int .i64 y.kind, .string (X.str y.text), .int .i64 y.n, .int .i64 y.at'])).run Tryd.prog w = .ok (tokEq x y) w := by
  unfold tokEq
  rw [← beq_nat, ← beq_nat, ← beq_nat, ← beq_str]
  cases h1 : ((x.kind : Int) == (y.kind : Int))
  · go_simp
  cases h2 : ((X.str x.text).toList == (X.str y.text).toList)
  · go_simp
  cases h3 : ((x.n : Int) == (y.n : Int))
  · go_simp
  cases h4 : ((x.at' : Int) == (y.at' : Int))
  · go_simp
  · go_simp

set_option maxRecDepth 100000 in
set_option maxHeartbeats 4000000 in
theorem same_any {w : World} {a1 a2 : Option Addr} {l1 c1 l2 c2 : Nat} {xs ys : List X.Tok} (h1 : TV w a1 l1 c1 xs) (h2 : TV w a2 l2 c2 ys) :
    Calls Tryd.prog 11 #[.slice a1 l1 c1, .slice a2 l2 c2] w fun e w' => e = .returned (.bool (decide (xs = ys))) ∧ Below w.heap.size w w' := by
  have H1 : Hid _ := h1
  have H2 : Hid _ := h2
  have hm' : l1 ≤ 9223372036854775807 := by have := h1.room; unfold maxLen at this; omega
  clear h1 h2
  by_cases hl : l1 = l2
  rotate_left
  · have HNO : Hid (¬ xs = ys) := fun e => hl (by rw [← H1.out.count, ← H2.out.count, e])
    have hd : ((l1 : Int) != (l2 : Int)) = true := by simp; omega
    go_enter Tryd.func11, Tryd.ntmps11
    go_wp2
    go_ret
    exact ⟨ret_b (decide_eq_false HNO.out).symm, Below.refl _ _⟩
  subst hl
  have hd : ((l1 : Int) != (l1 : Int)) = false := by simp
  go_enter Tryd.func11, Tryd.ntmps11
  go_wp2_with fail
  go_loopg [5] l1 (fun r iv wq => ∃ (k : Nat), iv = .int .i64 k ∧ k ≤ l1 ∧ l1 - k ≤ r ∧ Hid (∀ j, j < k → xs.getD j noTok = ys.getD j noTok) ∧ Hid (Below w.heap.size w wq))
  case atStart => exact ⟨0, rfl, Nat.zero_le _, by omega, (fun j hj => by omega : ∀ j, j < 0 → xs.getD j noTok = ys.getD j noTok), Below.refl _ _⟩
  case round =>
    obtain ⟨k, rfl, hk, hr, HAL, HBL⟩ := hrel
    by_cases hlt : k < l1
    · obtain ⟨b, off, hA, q0, q1, q2, q3⟩ := H1.out.at hlt
      obtain ⟨b', off', hA', r0, r1, r2, r3⟩ := H2.out.at hlt
      have q0 := cell_thru HBL.out q0
      have q1 := cell_thru HBL.out q1
      have q2 := cell_thru HBL.out q2
      have q3 := cell_thru HBL.out q3
      have r0 := cell_thru HBL.out r0
      have r1 := cell_thru HBL.out r1
      have r2 := cell_thru HBL.out r2
      have r3 := cell_thru HBL.out r3
      have HNE : Hid (∀ {x y : X.Tok}, xs.getD k noTok = x → ys.getD k noTok = y → x ≠ y → ¬ xs = ys) := fun hx hy hne e => hne (by rw [← hx, ← hy, e])
      have HEQ : Hid (∀ {x y : X.Tok}, xs.getD k noTok = x → ys.getD k noTok = y → x = y → ∀ j, j < k + 1 → xs.getD j noTok = ys.getD j noTok) := fun hx hy he j hj => by
        by_cases hjk : j = k
        · rw [hjk, hx, hy, he]
        · exact HAL.out j (by omega)
      obtain ⟨⟨xk, xt, xn, xa⟩, hx⟩ : ∃ x, xs.getD k noTok = x := ⟨_, rfl⟩
      obtain ⟨⟨yk, yt, yn, ya⟩, hy⟩ : ∃ y, ys.getD k noTok = y := ⟨_, rfl⟩
      rw [hx] at q0 q1 q2 q3
      rw [hy] at r0 r1 r2 r3
      simp only at q0 q1 q2 q3 r0 r1 r2 r3
      have HX : Hid _ := hx
      have HY : Hid _ := hy
      subst hA
      subst hA'
      have hii : (k : Int) < l1 := by omega
      have hin : 0 ≤ (k : Int) := by omega
      have hEq := eqTok ⟨xk, xt, xn, xa⟩ ⟨yk, yt, yn, ya⟩
      simp only at hEq
      clear hx hy
      cases hq : tokEq ⟨xk, xt, xn, xa⟩ ⟨yk, yt, yn, ya⟩
      · have HNO : Hid (¬ xs = ys) := HNE.out HX.out HY.out (fun e => by rw [tokEq_iff.2 e] at hq; cases hq)
        rw [hq] at hEq
        clear hq
        go_wp2_with fail
        go_quiet (fail)
        go_wp2
        go_ret
        exact ⟨ret_b (decide_eq_false HNO.out).symm, below_drew' HBL.out _⟩
      · have HYE : Hid _ := HEQ.out HX.out HY.out (tokEq_iff.1 hq)
        rw [hq] at hEq
        clear hq
        go_wp2_with fail
        go_quiet (fail)
        go_wp2
        go_roundg (l1 - (k + 1))
        case measure => omega
        case rel => exact ⟨k + 1, by go_num, by omega, Nat.le_refl _, HYE.out, below_drew' HBL.out _⟩
    · obtain rfl : k = l1 := by omega
      have HY : Hid (xs = ys) := list_ext_getD noTok (by rw [H1.out.count, H2.out.count]) (fun i hi => HAL.out i (by rw [← H1.out.count]; exact hi))
      have hii : ¬ (k : Int) < k := by omega
      go_wp2_with fail
      go_ret
      exact ⟨ret_b (decide_eq_true HY.out).symm, HBL.out⟩

end Go.Proofs.YtfnakckiidblkaaDoor

/- Lists of acts as they are handed over; the acts that came back, as a set. -/
import Derived.Test.YtafdjmccgijmnaaHiSmall
namespace Go.Proofs.Ytafdjmccgijmnaa
open Go.RowKit
set_option linter.unusedVariables false
set_option linter.unusedSimpArgs false
namespace H
def noAc : Ac := ⟨0, 0, { data := #[] }, 0, 0, -1, 0⟩
def Ac.cs (a : Ac) : List Value := [.int .i64 a.th, .int .i64 a.dd, .string a.nm, .int .i64 a.arg, .int .i64 a.call, .int .i64 a.back, .int .i64 a.ans]
/-- The acts that came back, of the first so many. -/
def backs (ts : List Ac) : Nat → Nat
  | 0 => 0
  | k + 1 => if (ts.getD k noAc).isBack = true then wth (backs ts k) k else backs ts k
theorem backs_lt (ts : List Ac) : ∀ k, k ≤ 60 → backs ts k < 2 ^ 60
  | 0, _ => Nat.two_pow_pos 60
  | k + 1, hk => by
    rw [backs]
    have ih := backs_lt ts k (by omega)
    split
    · unfold wth
      exact Nat.or_lt_two_pow ih (Nat.pow_lt_pow_right (by decide) (by omega))
    · exact ih
theorem backs_has (ts : List Ac) (j : Nat) : ∀ k, (backs ts k).testBit j = (decide (j < k) && (ts.getD j noAc).isBack)
  | 0 => by simp [backs]
  | k + 1 => by
    have ih := backs_has ts j k
    rw [backs]
    by_cases e : j = k
    · subst e
      split
      · next hb => rw [has_wth, hb]; simp
      · next hb => rw [ih]; simp at hb; simp [hb]
    · have hk : decide (j < k + 1) = decide (j < k) := decide_eq_decide.2 (by omega)
      rw [hk]
      split
      · have hkj : ¬ k = j := fun e' => e e'.symm
        rw [has_wth, ih, show decide (k = j) = false from decide_eq_false hkj, Bool.or_false]
      · exact ih
end H
structure ActsV (w : World) (a : Option Addr) (l c : Nat) (ts : List H.Ac) : Prop where
  count : ts.length = l
  room : l ≤ c ∧ c ≤ maxLen
  cells : l = 0 ∨ ∃ b off, a = some ⟨b, off, none⟩ ∧ ∀ i, i < l → ∀ j u, (ts.getD i H.noAc).cs[j]? = some u → w.cell? ⟨b, off + i * 7 + j, none⟩ = some u
theorem hcell_thru {W y : World} (hb : Below W.heap.size W y) {p : Addr} {u : Value} (h : W.cell? p = some u) : y.cell? p = some u := (hb.cell (World.block_lt_of_cell? W p h)).trans h
theorem ActsV.below {w y : World} {a : Option Addr} {l c : Nat} {ts : List H.Ac} (h : ActsV w a l c ts) (hb : Below w.heap.size w y) : ActsV y a l c ts :=
  ⟨h.count, h.room, h.cells.imp id fun ⟨b, off, e, hc⟩ => ⟨b, off, e, fun i hi j u hu => hcell_thru hb (hc i hi j u hu)⟩⟩
theorem ActsV.at {w : World} {a : Option Addr} {l c : Nat} {ts : List H.Ac} (h : ActsV w a l c ts) {i : Nat} (hi : i < l) : ∃ b off, a = some ⟨b, off, none⟩ ∧ (w.cell? ⟨b, off + i * 7, none⟩ = some (.int .i64 (ts.getD i H.noAc).th) ∧ w.cell? ⟨b, off + i * 7 + 1, none⟩ = some (.int .i64 (ts.getD i H.noAc).dd) ∧ w.cell? ⟨b, off + i * 7 + 2, none⟩ = some (.string (ts.getD i H.noAc).nm) ∧ w.cell? ⟨b, off + i * 7 + 3, none⟩ = some (.int .i64 (ts.getD i H.noAc).arg) ∧ w.cell? ⟨b, off + i * 7 + 4, none⟩ = some (.int .i64 (ts.getD i H.noAc).call) ∧ w.cell? ⟨b, off + i * 7 + 5, none⟩ = some (.int .i64 (ts.getD i H.noAc).back) ∧ w.cell? ⟨b, off + i * 7 + 6, none⟩ = some (.int .i64 (ts.getD i H.noAc).ans)) := by
  rcases h.cells with h0 | ⟨b, off, e, hc⟩
  · omega
  · exact ⟨b, off, e, by simpa using hc i hi 0 _ rfl, hc i hi 1 _ rfl, hc i hi 2 _ rfl, hc i hi 3 _ rfl, hc i hi 4 _ rfl, hc i hi 5 _ rfl, hc i hi 6 _ rfl⟩
set_option maxRecDepth 100000 in
set_option maxHeartbeats 4000000 in
theorem backOf_any {w : World} {a : Option Addr} {l c : Nat} {ts : List H.Ac} (h : ActsV w a l c ts) (hl : l ≤ 60) : Calls Try.prog 56 #[.slice a l c] w fun e w' => e = .returned (.int .u64 (H.backs ts l)) ∧ Below w.heap.size w w' := by
  have HV : Hid _ := h
  clear h
  go_enter Try.func56, Try.ntmps56
  go_wp2_with fail
  go_loopg [3, 4, 5, 8] l (fun r sv z4 z5 iv wq => ∃ (k : Nat), r = l - k ∧ iv = .int .i64 k ∧ k ≤ l ∧ sv = .int .u64 (H.backs ts k) ∧ Hid (Below w.heap.size w wq))
  case atStart => exact ⟨0, rfl, rfl, Nat.zero_le _, rfl, Below.refl _ _⟩
  case round =>
    obtain ⟨k, rfl, rfl, hk, rfl, HB⟩ := hrel
    by_cases hlt : k < l
    · have hii : (k : Int) < l := by omega
      have hin : 0 ≤ (k : Int) := by omega
      obtain ⟨b, off, rfl, c0, c1, c2, c3, c4, c5, c6⟩ := (HV.out.below HB.out).at hlt
      have HS : Hid (H.backs ts (k + 1) = if (ts.getD k H.noAc).isBack = true then H.wth (H.backs ts k) k else H.backs ts k) := rfl
      obtain ⟨t, ht⟩ : ∃ t, ts.getD k H.noAc = t := ⟨_, rfl⟩
      rw [ht] at c0 c1 c2 c3 c4 c5 c6 HS
      clear ht
      have hbk := H.backs_lt ts k (by omega)
      obtain ⟨d, hd⟩ : ∃ d, H.backs ts k = d := ⟨_, rfl⟩
      rw [hd] at HS hbk ⊢
      clear hd
      have HIB : Hid (∀ W, Calls Try.prog 48 #[t.v] W fun e w' => e = .returned (.bool t.isBack) ∧ Below W.heap.size W w') := fun W => isBack_any t W
      have HWT : Hid (∀ W, Calls Try.prog 54 #[.int .u64 d, .int .i64 k] W fun e w' => e = .returned (.int .u64 (H.wth d k)) ∧ w' = W) := fun W => with_any d k (by omega) hbk W
      obtain ⟨ib, hib⟩ : ∃ x, t.isBack = x := ⟨_, rfl⟩
      rw [hib] at HIB HS
      clear hib hbk
      obtain ⟨th, dd, nm, arg, call, back, ans⟩ := t
      unfold H.Ac.v at HIB
      simp only at HIB c0 c1 c2 c3 c4 c5 c6
      have HB1 : Hid (Below w.heap.size w (wr.alloc (.cells #[.int .i64 th, .int .i64 dd, .string nm, .int .i64 arg, .int .i64 call, .int .i64 back, .int .i64 ans] 42))) := HB.out.trans ((hbl1 _ _).mono HB.out.size)
      cases ib
      · go_wp2_with fail
        refine (HIB.out _).mono ?_
        rintro e y ⟨rfl, hy⟩
        have HY : Hid (Below w.heap.size w y) := HB1.out.trans (hy.mono HB1.out.size)
        clear hy
        go_wp2_with fail
        go_roundg (l - (k + 1))
        case measure => omega
        case rel => exact ⟨k + 1, rfl, by go_num, by omega, by rw [HS.out]; rfl, HY⟩
      · go_wp2_with fail
        refine (HIB.out _).mono ?_
        rintro e y ⟨rfl, hy⟩
        have HY : Hid (Below w.heap.size w y) := HB1.out.trans (hy.mono HB1.out.size)
        clear hy
        go_wp2_with fail
        refine (HWT.out _).mono ?_
        rintro e y2 ⟨rfl, hy2⟩
        rw [hy2]
        clear hy2
        go_wp2_with fail
        go_roundg (l - (k + 1))
        case measure => omega
        case rel => exact ⟨k + 1, rfl, by go_num, by omega, by rw [HS.out]; rfl, HY⟩
    · obtain rfl : k = l := by omega
      have hii : ¬ (k : Int) < k := by omega
      go_wp2_with fail
      go_ret
      exact ⟨rfl, HB.out⟩

end Go.Proofs.Ytafdjmccgijmnaa

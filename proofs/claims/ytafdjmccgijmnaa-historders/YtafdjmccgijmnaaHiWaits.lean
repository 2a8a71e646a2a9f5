/- Whether an act that is still to be merged is ahead of another one. -/
import Derived.Test.YtafdjmccgijmnaaHiOrd
namespace Go.Proofs.Ytafdjmccgijmnaa
open Go.RowKit A Go.Maps
set_option linter.unusedVariables false
set_option linter.unusedSimpArgs false
namespace H
/-- The first that is so, or -1. -/
def fidx (n : Nat) (p : Nat → Bool) : Int := match (List.range n).find? p with
  | some k => k
  | none => -1
theorem fidx_at {n k : Nat} {p : Nat → Bool} (hk : k < n) (hp : p k = true) (hall : ∀ i, i < k → p i = false) : fidx n p = k := by
  have : (List.range n).find? p = some k := by
    rw [List.find?_range_eq_some]
    exact ⟨hp, List.mem_range.2 hk, fun j hj => by rw [hall j hj]; rfl⟩
  unfold fidx
  rw [this]
theorem fidx_no {n : Nat} {p : Nat → Bool} (hall : ∀ i, i < n → p i = false) : fidx n p = -1 := by
  have : (List.range n).find? p = none := by
    rw [List.find?_eq_none]
    intro x hx
    rw [hall x (List.mem_range.1 hx)]
    decide
  unfold fidx
  rw [this]
theorem fidx_any (n : Nat) (p : Nat → Bool) : decide (0 ≤ fidx n p) = (List.range n).any p := by
  unfold fidx
  cases h : (List.range n).find? p with
  | some k =>
    have h1 := List.find?_some h
    have h2 := List.mem_of_find?_eq_some h
    have : (List.range n).any p = true := List.any_eq_true.2 ⟨k, h2, h1⟩
    rw [this]
    simp
  | none =>
    have : (List.range n).any p = false := by
      rw [List.any_eq_false]
      rw [List.find?_eq_none] at h
      exact h
    rw [this]
    rfl
end H
set_option maxRecDepth 100000 in
set_option maxHeartbeats 8000000 in
theorem waits1_any {w : World} {a : Option Addr} {l c : Nat} {ts : List H.Ac} (h : ActsV w a l c ts) {bl bk : Nat} (hbl : w.cell? ⟨bl, 0, none⟩ = some (.slice a l c)) {k q : Nat} (hbk : w.cell? ⟨bk, 0, none⟩ = some (.int .i64 k)) (hk : k < l) (hq : q < l) :
    Calls Try.prog 68 #[.int .i64 q, .pointer (some ⟨bl, 0, none⟩), .pointer (some ⟨bk, 0, none⟩)] w fun e w' => e = .returned (.bool ((ts.getD q H.noAc).ahead (ts.getD k H.noAc))) ∧ Below w.heap.size w w' := by
  obtain ⟨b, off, rfl, p0, p1, p2, p3, p4, p5, p6⟩ := h.at hk
  obtain ⟨b', off', e, q0, q1, q2, q3, q4, q5, q6⟩ := h.at hq
  cases e
  have hki : (k : Int) < l := by omega
  have hkn : 0 ≤ (k : Int) := by omega
  have hqi : (q : Int) < l := by omega
  have hqn : 0 ≤ (q : Int) := by omega
  have hah := isAhead_any (ts.getD q H.noAc) (ts.getD k H.noAc) w.drew
  obtain ⟨x, hx⟩ : ∃ x, ts.getD q H.noAc = x := ⟨_, rfl⟩
  obtain ⟨z, hz⟩ : ∃ x, ts.getD k H.noAc = x := ⟨_, rfl⟩
  rw [hx] at q0 q1 q2 q3 q4 q5 q6 hah ⊢
  rw [hz] at p0 p1 p2 p3 p4 p5 p6 hah ⊢
  obtain ⟨r, hr⟩ : ∃ r, x.ahead z = r := ⟨_, rfl⟩
  rw [hr] at hah ⊢
  clear hx hz hr h
  have HS : Hid (w.drew.cell? ⟨bl, 0, none⟩ = some (.slice (some ⟨b, off, none⟩) l c) ∧ w.drew.cell? ⟨bk, 0, none⟩ = some (.int .i64 k) ∧ (w.drew.cell? ⟨b, off + q * 7, none⟩ = some (.int .i64 x.th) ∧ w.drew.cell? ⟨b, off + q * 7 + 1, none⟩ = some (.int .i64 x.dd) ∧ w.drew.cell? ⟨b, off + q * 7 + 2, none⟩ = some (.string x.nm) ∧ w.drew.cell? ⟨b, off + q * 7 + 3, none⟩ = some (.int .i64 x.arg) ∧ w.drew.cell? ⟨b, off + q * 7 + 4, none⟩ = some (.int .i64 x.call) ∧ w.drew.cell? ⟨b, off + q * 7 + 5, none⟩ = some (.int .i64 x.back) ∧ w.drew.cell? ⟨b, off + q * 7 + 6, none⟩ = some (.int .i64 x.ans)) ∧ w.drew.cell? ⟨b, off + k * 7, none⟩ = some (.int .i64 z.th) ∧ w.drew.cell? ⟨b, off + k * 7 + 1, none⟩ = some (.int .i64 z.dd) ∧ w.drew.cell? ⟨b, off + k * 7 + 2, none⟩ = some (.string z.nm) ∧ w.drew.cell? ⟨b, off + k * 7 + 3, none⟩ = some (.int .i64 z.arg) ∧ w.drew.cell? ⟨b, off + k * 7 + 4, none⟩ = some (.int .i64 z.call) ∧ w.drew.cell? ⟨b, off + k * 7 + 5, none⟩ = some (.int .i64 z.back) ∧ w.drew.cell? ⟨b, off + k * 7 + 6, none⟩ = some (.int .i64 z.ans)) := by
    simp only [World.cell?_drew]
    exact ⟨hbl, hbk, ⟨q0, q1, q2, q3, q4, q5, q6⟩, p0, p1, p2, p3, p4, p5, p6⟩
  have HKEEP : Hid (∀ y, Below w.drew.heap.size w.drew y → y.cell? ⟨bl, 0, none⟩ = some (.slice (some ⟨b, off, none⟩) l c) ∧ y.cell? ⟨bk, 0, none⟩ = some (.int .i64 k) ∧ (y.cell? ⟨b, off + q * 7, none⟩ = some (.int .i64 x.th) ∧ y.cell? ⟨b, off + q * 7 + 1, none⟩ = some (.int .i64 x.dd) ∧ y.cell? ⟨b, off + q * 7 + 2, none⟩ = some (.string x.nm) ∧ y.cell? ⟨b, off + q * 7 + 3, none⟩ = some (.int .i64 x.arg) ∧ y.cell? ⟨b, off + q * 7 + 4, none⟩ = some (.int .i64 x.call) ∧ y.cell? ⟨b, off + q * 7 + 5, none⟩ = some (.int .i64 x.back) ∧ y.cell? ⟨b, off + q * 7 + 6, none⟩ = some (.int .i64 x.ans)) ∧ y.cell? ⟨b, off + k * 7, none⟩ = some (.int .i64 z.th) ∧ y.cell? ⟨b, off + k * 7 + 1, none⟩ = some (.int .i64 z.dd) ∧ y.cell? ⟨b, off + k * 7 + 2, none⟩ = some (.string z.nm) ∧ y.cell? ⟨b, off + k * 7 + 3, none⟩ = some (.int .i64 z.arg) ∧ y.cell? ⟨b, off + k * 7 + 4, none⟩ = some (.int .i64 z.call) ∧ y.cell? ⟨b, off + k * 7 + 5, none⟩ = some (.int .i64 z.back) ∧ y.cell? ⟨b, off + k * 7 + 6, none⟩ = some (.int .i64 z.ans)) := fun y hy => by
    obtain ⟨a0, a1, ⟨a2, a3, a4, a5, a6, a7, a8⟩, a9, a10, a11, a12, a13, a14, a15⟩ := HS.out
    exact ⟨hcell_thru hy a0, hcell_thru hy a1, ⟨hcell_thru hy a2, hcell_thru hy a3, hcell_thru hy a4, hcell_thru hy a5, hcell_thru hy a6, hcell_thru hy a7, hcell_thru hy a8⟩, hcell_thru hy a9, hcell_thru hy a10, hcell_thru hy a11, hcell_thru hy a12, hcell_thru hy a13, hcell_thru hy a14, hcell_thru hy a15⟩
  clear hbl hbk q0 q1 q2 q3 q4 q5 q6 p0 p1 p2 p3 p4 p5 p6
  obtain ⟨th, dd, nm, arg, call, back, ans⟩ := x
  obtain ⟨th2, dd2, nm2, arg2, call2, back2, ans2⟩ := z
  unfold H.Ac.v at hah
  simp only at hah HS HKEEP
  go_enter Try.func68, Try.ntmps68
  go_wp2_with fail
  refine wp_region_held_drew (S := (fun w' : World => w'.cell? ⟨bl, 0, none⟩ = some (.slice (some ⟨b, off, none⟩) l c) ∧ w'.cell? ⟨bk, 0, none⟩ = some (.int .i64 k) ∧ (w'.cell? ⟨b, off + q * 7, none⟩ = some (.int .i64 th) ∧ w'.cell? ⟨b, off + q * 7 + 1, none⟩ = some (.int .i64 dd) ∧ w'.cell? ⟨b, off + q * 7 + 2, none⟩ = some (.string nm) ∧ w'.cell? ⟨b, off + q * 7 + 3, none⟩ = some (.int .i64 arg) ∧ w'.cell? ⟨b, off + q * 7 + 4, none⟩ = some (.int .i64 call) ∧ w'.cell? ⟨b, off + q * 7 + 5, none⟩ = some (.int .i64 back) ∧ w'.cell? ⟨b, off + q * 7 + 6, none⟩ = some (.int .i64 ans)) ∧ w'.cell? ⟨b, off + k * 7, none⟩ = some (.int .i64 th2) ∧ w'.cell? ⟨b, off + k * 7 + 1, none⟩ = some (.int .i64 dd2) ∧ w'.cell? ⟨b, off + k * 7 + 2, none⟩ = some (.string nm2) ∧ w'.cell? ⟨b, off + k * 7 + 3, none⟩ = some (.int .i64 arg2) ∧ w'.cell? ⟨b, off + k * 7 + 4, none⟩ = some (.int .i64 call2) ∧ w'.cell? ⟨b, off + k * 7 + 5, none⟩ = some (.int .i64 back2) ∧ w'.cell? ⟨b, off + k * 7 + 6, none⟩ = some (.int .i64 ans2))) (by kernel_rfl) HS.out (fun hHeld => ?_)
  refine tk (i := 0) (v := ?_) (tA rfl) (by kernel_rfl) (fun _ _ _ h => h) (Or.inl ⟨by rfl, ?_⟩) (by assumption) ?_
  rotate_left
  · (intro w hSw; (try dsimp only at hSw); go_simp <;> with_reducible rfl)
  simp only [Act.put, List.setIfInBounds_toArray, List.set_cons_zero, List.set_cons_succ]
  refine tk (i := 1) (v := ?_) (tA rfl) (by kernel_rfl) (fun _ _ _ h => h) (Or.inl ⟨by rfl, ?_⟩) (by assumption) ?_
  rotate_left
  · (intro w hSw; (try dsimp only at hSw); go_simp <;> with_reducible rfl)
  simp only [Act.put, List.setIfInBounds_toArray, List.set_cons_zero, List.set_cons_succ]
  refine tk (i := 2) (v := ?_) (tA rfl) (by kernel_rfl) (fun _ _ _ h => h) (Or.inl ⟨by rfl, ?_⟩) (by assumption) ?_
  rotate_left
  · (intro w hSw; (try dsimp only at hSw); go_simp <;> with_reducible rfl)
  simp only [Act.put, List.setIfInBounds_toArray, List.set_cons_zero, List.set_cons_succ]
  refine tk (i := 3) (v := ?_) (tA rfl) (by kernel_rfl) (fun _ _ _ h => h) (Or.inl ⟨by rfl, ?_⟩) (by assumption) ?_
  rotate_left
  · (intro w hSw; (try dsimp only at hSw); go_simp <;> with_reducible rfl)
  simp only [Act.put, List.setIfInBounds_toArray, List.set_cons_zero, List.set_cons_succ]
  refine tk (i := 4) (v := ?_) (tA rfl) (by kernel_rfl) (fun _ _ _ h => h) (Or.inl ⟨by rfl, ?_⟩) (by assumption) ?_
  rotate_left
  · (intro w hSw; (try dsimp only at hSw); go_simp <;> with_reducible rfl)
  simp only [Act.put, List.setIfInBounds_toArray, List.set_cons_zero, List.set_cons_succ]
  refine tk (i := 5) (v := ?_) (tA rfl) (by kernel_rfl) (fun _ _ _ h => h) (Or.inl ⟨by rfl, ?_⟩) (by assumption) ?_
  rotate_left
  · (intro w hSw; (try dsimp only at hSw); go_simp <;> with_reducible rfl)
  simp only [Act.put, List.setIfInBounds_toArray, List.set_cons_zero, List.set_cons_succ]
  refine tk (i := 6) (v := ?_) (tA rfl) (by kernel_rfl) (fun _ _ _ h => h) (Or.inl ⟨by rfl, ?_⟩) (by assumption) ?_
  rotate_left
  · (intro w hSw; (try dsimp only at hSw); go_simp <;> with_reducible rfl)
  simp only [Act.put, List.setIfInBounds_toArray, List.set_cons_zero, List.set_cons_succ]
  refine tk (i := 7) (v := ?_) (tA rfl) (by kernel_rfl) (fun _ _ _ h => h) (Or.inl ⟨by rfl, ?_⟩) (by assumption) ?_
  rotate_left
  · (intro w hSw; (try dsimp only at hSw); go_simp <;> with_reducible rfl)
  simp only [Act.put, List.setIfInBounds_toArray, List.set_cons_zero, List.set_cons_succ]
  refine wpAnyH_ready (rs := [8]) (by kernel_rfl) (by simp) ?_
  refine AllReadyH.cons (tA rfl) (fun K hK => ?_) AllReadyH.nil
  go_simp
  refine hah.mono ?_
  rintro e y ⟨rfl, hy⟩
  have HY : Hid (Below w.heap.size w y) := (Below.refl _ _).drew.trans hy
  have HS2 : Hid _ := HKEEP.out y hy
  clear hy hah
  try go_wp2_with fail
  refine hK.out _ _ HS2.out (fun hHeld => ?_)
  clear hK K
  try simp only [Act.put, List.setIfInBounds_toArray, List.set_cons_zero, List.set_cons_succ]
  refine tk (i := 9) (v := ?_) (tA rfl) (by kernel_rfl) (fun _ _ _ h => h) (Or.inl ⟨by rfl, ?_⟩) (by assumption) ?_
  rotate_left
  · (intro w hSw; (try dsimp only at hSw); go_simp <;> with_reducible rfl)
  simp only [Act.put, List.setIfInBounds_toArray, List.set_cons_zero, List.set_cons_succ]
  refine wpAnyH_done (by kernel_rfl) ?_ _
  clear hHeld
  go_wp2_with fail
  go_ret
  exact ⟨rfl, HY.out⟩
set_option maxRecDepth 100000 in
set_option maxHeartbeats 8000000 in
theorem idxN_any {w : World} {a : Option Addr} {l c : Nat} (e0 : Nat → Value) (p0 p1 : Value) (hm : l ≤ c ∧ c ≤ maxLen) (hV : l = 0 ∨ ∃ b off, a = some ⟨b, off, none⟩ ∧ ∀ i, i < l → w.cell? ⟨b, off + i, none⟩ = some (e0 i)) (pr : Nat → Bool) (hp : ∀ i, i < l → ∀ W, Below w.heap.size w W → Calls Try.prog 68 #[e0 i, p0, p1] W fun e w' => e = .returned (.bool (pr i)) ∧ Below W.heap.size W w') :
    Calls Try.prog 76 #[.slice a l c, .func (.func 68) #[] #[p0, p1]] w fun e w' => e = .returned (.int .i64 (H.fidx l pr)) ∧ Below w.heap.size w w' := by
  have HV : Hid _ := hV
  have HP : Hid _ := hp
  have hmax : maxLen = 9223372036854775807 := rfl
  clear hV hp
  obtain ⟨R, hR⟩ : ∃ R, H.fidx l pr = R := ⟨_, rfl⟩
  have HR : Hid (H.fidx l pr = R) := hR
  rw [hR]
  clear hR
  go_enter Try.func76, Try.ntmps76
  go_wp2_with fail
  go_loopg [8] l (fun r iv wq => ∃ (k : Nat), iv = .int .i64 k ∧ k ≤ l ∧ l - k ≤ r ∧ Hid (∀ i, i < k → pr i = false) ∧ Hid (Below w.heap.size w wq))
  case atStart => exact ⟨0, rfl, Nat.zero_le _, by omega, (fun i hi => by omega : ∀ i, i < 0 → pr i = false), Below.refl _ _⟩
  case round =>
    obtain ⟨k, rfl, hk, hr, HAL, HB⟩ := hrel
    by_cases hlt : k < l
    · rcases HV.out with h0 | ⟨b, off, hA, hcl⟩
      · omega
      obtain q0 := hcl k hlt
      have q0 := hcell_thru HB.out q0
      have hcall := HP.out k hlt wr HB.out
      have HYES : Hid (pr k = true → R = k) := fun hz => by rw [← HR.out]; exact H.fidx_at hlt hz HAL.out
      subst hA
      have hii : (k : Int) < l := by omega
      have hin : 0 ≤ (k : Int) := by omega
      clear hcl
      generalize e0 k = x0 at q0 hcall
      cases hpk : pr k with
      | true =>
        rw [hpk] at hcall
        have HYE : Hid (R = k) := HYES.out hpk
        clear hpk
        go_wp2_with fail
        refine hcall.mono ?_
        rintro e y ⟨rfl, hy⟩
        have HBY : Hid (Below w.heap.size w y) := HB.out.trans (hy.mono HB.out.size)
        clear hy hcall
        go_wp2_with fail
        go_ret
        exact ⟨by rw [HYE.out]; rfl, HBY.out⟩
      | false =>
        rw [hpk] at hcall
        have HALN : Hid (∀ i, i < k + 1 → pr i = false) := fun i hi => by
          by_cases e : i = k
          · subst e; exact hpk
          · exact HAL.out i (by omega)
        clear hpk
        go_wp2_with fail
        refine hcall.mono ?_
        rintro e y ⟨rfl, hy⟩
        have HBY : Hid (Below w.heap.size w y) := HB.out.trans (hy.mono HB.out.size)
        clear hy hcall
        go_wp2_with fail
        go_roundg (l - (k + 1))
        case measure => omega
        case rel => exact ⟨k + 1, by first | rfl | (congr 1; omega), by omega, Nat.le_refl _, HALN, HBY.out⟩
    · have hii : ¬ (k : Int) < l := by omega
      have HNO : Hid (R = -1) := by rw [← HR.out]; exact H.fidx_no (fun i hi => HAL.out i (by omega))
      go_wp2_with fail
      go_ret
      exact ⟨by rw [HNO.out]; rfl, HB.out⟩
set_option maxRecDepth 100000 in
theorem hasN_any {w : World} {a : Option Addr} {l c : Nat} (e0 : Nat → Value) (p0 p1 : Value) (hm : l ≤ c ∧ c ≤ maxLen) (hV : l = 0 ∨ ∃ b off, a = some ⟨b, off, none⟩ ∧ ∀ i, i < l → w.cell? ⟨b, off + i, none⟩ = some (e0 i)) (pr : Nat → Bool) (hp : ∀ i, i < l → ∀ W, Below w.heap.size w W → Calls Try.prog 68 #[e0 i, p0, p1] W fun e w' => e = .returned (.bool (pr i)) ∧ Below W.heap.size W w') :
    Calls Try.prog 67 #[.slice a l c, .func (.func 68) #[] #[p0, p1]] w fun e w' => e = .returned (.bool ((List.range l).any pr)) ∧ Below w.heap.size w w' := by
  have hidx := idxN_any e0 p0 p1 hm hV pr hp
  have HF : Hid (decide (0 ≤ H.fidx l pr) = (List.range l).any pr) := H.fidx_any l pr
  clear hV hp
  generalize H.fidx l pr = R at hidx HF
  go_enter Try.func67, Try.ntmps67
  go_wp2_with fail
  refine hidx.mono ?_
  rintro e y ⟨rfl, hy⟩
  have HY : Hid _ := hy
  clear hy hidx
  go_wp2_with fail
  go_ret
  exact ⟨by rw [← HF.out]; rfl, HY.out⟩
/-- Lists of acts' numbers as they are handed over. -/
structure OsV (w : World) (a : Option Addr) (m c : Nat) (os : List (List Nat)) : Prop where
  count : os.length = m
  room : m ≤ c ∧ c ≤ maxLen
  cells : m = 0 ∨ ∃ b off, a = some ⟨b, off, none⟩ ∧ ∀ i, i < m → ∃ a1 l1 c1, w.cell? ⟨b, off + i, none⟩ = some (.slice a1 l1 c1) ∧ NV w a1 l1 c1 (os.getD i [])
theorem OsV.below {w y : World} {a : Option Addr} {m c : Nat} {os : List (List Nat)} (h : OsV w a m c os) (hb : Below w.heap.size w y) : OsV y a m c os :=
  ⟨h.count, h.room, h.cells.imp id fun ⟨b, off, e, hc⟩ => ⟨b, off, e, fun i hi => by
    obtain ⟨a1, l1, c1, h1, h2⟩ := hc i hi
    exact ⟨a1, l1, c1, hcell_thru hb h1, h2.below hb⟩⟩⟩
namespace H
def cal (ts : List Ac) (k : Nat) : Int := (ts.getD k noAc).call
def bak (ts : List Ac) (k : Nat) : Int := (ts.getD k noAc).back
theorem getD_mem {o : List Nat} {j : Nat} (h : j < o.length) : o.getD j 0 ∈ o := by simp [List.getD, h]
theorem any_range (o : List Nat) (f : Nat → Bool) : (List.range o.length).any (fun i => f (o.getD i 0)) = o.any f := by
  rw [Bool.eq_iff_iff, List.any_eq_true, List.any_eq_true]
  constructor
  · rintro ⟨i, hi, h⟩
    rw [List.mem_range] at hi
    exact ⟨o.getD i 0, by simp [List.getD, hi], h⟩
  · rintro ⟨q, hq, h⟩
    obtain ⟨i, hi, rfl⟩ := List.getElem_of_mem hq
    exact ⟨i, List.mem_range.2 hi, by simpa [List.getD, hi] using h⟩
theorem waits_at {ts : List Ac} {os : List (List Nat)} {k i : Nat} (hi : i < os.length) (h : ((os.getD i []).any fun q => ahd (cal ts) (bak ts) q k) = true) : waits (cal ts) (bak ts) os k = true := by
  unfold waits
  exact List.any_eq_true.2 ⟨os.getD i [], by simp [List.getD, hi], h⟩
theorem waits_none {ts : List Ac} {os : List (List Nat)} {k : Nat} (h : ∀ i, i < os.length → ((os.getD i []).any fun q => ahd (cal ts) (bak ts) q k) = false) : waits (cal ts) (bak ts) os k = false := by
  unfold waits
  rw [List.any_eq_false]
  intro o ho
  obtain ⟨i, hi, rfl⟩ := List.getElem_of_mem ho
  have := h i hi
  simp only [List.getD, List.getElem?_eq_getElem hi, Option.getD_some] at this
  rw [this]; decide
end H
set_option maxRecDepth 100000 in
set_option maxHeartbeats 8000000 in
theorem waits_any {w : World} {a a2 : Option Addr} {l c m c2 : Nat} {ts : List H.Ac} {os : List (List Nat)} (h : ActsV w a l c ts) (ho : OsV w a2 m c2 os) (hlt : ∀ i, i < m → ∀ q ∈ os.getD i [], q < l) {k : Nat} (hk : k < l) :
    Calls Try.prog 47 #[.slice a l c, .slice a2 m c2, .int .i64 k] w fun e w' => e = .returned (.bool (H.waits (H.cal ts) (H.bak ts) os k)) ∧ Below w.heap.size w w' := by
  have hmf : ∀ (fn : Fn) (first cap : Array Value) (w : World), (Instr.makeFunc fn first cap).run Try.prog w = .ok (.func fn first cap) w := fun _ _ _ _ => rfl
  obtain ⟨Y1, hY1⟩ : ∃ Y, w.alloc (.cells #[.slice a l c] 23) = Y := ⟨_, rfl⟩
  obtain ⟨Y2, hY2⟩ : ∃ Y, Y1.alloc (.cells #[.int .i64 k] 3) = Y := ⟨_, rfl⟩
  have e1 : Y1.heap.size = w.heap.size + 1 := by rw [← hY1]; simp
  have hb1 : Below w.heap.size w Y1 := by rw [← hY1]; exact hbl1 _ _
  have hb2 : Below Y1.heap.size Y1 Y2 := by rw [← hY2]; exact hbl1 _ _
  have hbY : Below w.heap.size w Y2 := hb1.trans (hb2.mono hb1.size)
  have HB : Hid (Below w.heap.size w Y2) := hbY
  have HX1 : Hid (Y2.cell? ⟨w.heap.size, 0, none⟩ = some (.slice a l c)) := hcell_thru hb2 (by rw [← hY1]; simp)
  have HX2 : Hid (Y2.cell? ⟨w.heap.size + 1, 0, none⟩ = some (.int .i64 k)) := by show _ = _; rw [← hY2]; exact A.cell_last e1.symm rfl
  have HA : Hid (ActsV Y2 a l c ts) := h.below hbY
  have HO : Hid (OsV Y2 a2 m c2 os) := ho.below hbY
  have HLT : Hid (∀ i, i < m → ∀ q ∈ os.getD i [], q < l) := hlt
  have HOC : Hid (os.length = m) := ho.count
  have hm := ho.room
  have hmax : maxLen = 9223372036854775807 := rfl
  have HIN : Hid (∀ i a1 l1 c1 W, i < m → Below Y2.heap.size Y2 W → NV W a1 l1 c1 (os.getD i []) → Calls Try.prog 67 #[.slice a1 l1 c1, .func (.func 68) #[] #[.pointer (some ⟨w.heap.size, 0, none⟩), .pointer (some ⟨w.heap.size + 1, 0, none⟩)]] W fun e w' => e = .returned (.bool ((os.getD i []).any fun q => H.ahd (H.cal ts) (H.bak ts) q k)) ∧ Below W.heap.size W w') := fun i a1 l1 c1 W hi hW hN => by
    rw [← H.any_range, hN.count]
    refine hasN_any (fun j => nV ((os.getD i []).getD j 0)) _ _ hN.room hN.cells (fun j => H.ahd (H.cal ts) (H.bak ts) ((os.getD i []).getD j 0) k) (fun j hj W2 hW2 => ?_)
    have hbW := hW.trans (hW2.mono hW.size)
    exact waits1_any (HA.out.below hbW) (hcell_thru hbW HX1.out) (hcell_thru hbW HX2.out) hk (HLT.out i hi _ (H.getD_mem (by rw [hN.count]; exact hj)))
  clear h ho hlt hb1 hb2 hbY
  obtain ⟨R, hR⟩ : ∃ R, H.waits (H.cal ts) (H.bak ts) os k = R := ⟨_, rfl⟩
  have HR : Hid (H.waits (H.cal ts) (H.bak ts) os k = R) := hR
  rw [hR]
  clear hR
  go_enter Try.func47, Try.ntmps47
  go_wp2_with fail
  go_loopg [8, 11] m (fun r z8 iv wq => ∃ (j : Nat), r = m - j ∧ iv = .int .i64 j ∧ j ≤ m ∧ Hid (∀ i, i < j → ((os.getD i []).any fun q => H.ahd (H.cal ts) (H.bak ts) q k) = false) ∧ Hid (Below Y2.heap.size Y2 wq))
  case atStart => exact ⟨0, rfl, rfl, Nat.zero_le _, (fun i hi => by omega : ∀ i, i < 0 → ((os.getD i []).any fun q => H.ahd (H.cal ts) (H.bak ts) q k) = false), Below.refl _ _⟩
  case round =>
    obtain ⟨j, rfl, rfl, hj, HAL, HBW⟩ := hrel
    by_cases hjm : j < m
    · rcases HO.out.cells with h0 | ⟨b, off, hab, hcl⟩
      · omega
      subst hab
      obtain ⟨a1, l1, c1, hx, hN⟩ := hcl j hjm
      have hx := hcell_thru HBW.out hx
      have hcall := HIN.out j a1 l1 c1 wr hjm HBW.out (hN.below HBW.out)
      have HAT : Hid (((os.getD j []).any fun q => H.ahd (H.cal ts) (H.bak ts) q k) = true → R = true) := fun e => by rw [← HR.out]; exact H.waits_at (by rw [HOC.out]; exact hjm) e
      have HNX : Hid (((os.getD j []).any fun q => H.ahd (H.cal ts) (H.bak ts) q k) = false → ∀ i, i < j + 1 → ((os.getD i []).any fun q => H.ahd (H.cal ts) (H.bak ts) q k) = false) := fun e i hi => by
        by_cases e2 : i = j
        · subst e2; exact e
        · exact HAL.out i (by omega)
      have hii : (j : Int) < m := by omega
      have hin : 0 ≤ (j : Int) := by omega
      obtain ⟨q, hq⟩ : ∃ q, ((os.getD j []).any fun q => H.ahd (H.cal ts) (H.bak ts) q k) = q := ⟨_, rfl⟩
      rw [hq] at hcall HAT HNX
      clear hq hcl hN
      cases q with
      | true =>
        have HRT := HAT.out rfl
        subst HRT
        clear HAT HNX
        go_wp2_with fail
        refine hcall.mono ?_
        rintro e y ⟨rfl, hy⟩
        have HY : Hid (Below w.heap.size w y) := HB.out.trans ((HBW.out.mono HB.out.size).trans (hy.mono (Nat.le_trans HB.out.size HBW.out.size)))
        clear hy hcall
        go_wp2_with fail
        go_ret
        exact ⟨rfl, HY.out⟩
      | false =>
        have HALN := HNX.out rfl
        have HALH : Hid _ := HALN
        clear HAT HNX HALN
        go_wp2_with fail
        refine hcall.mono ?_
        rintro e y ⟨rfl, hy⟩
        have HY : Hid (Below Y2.heap.size Y2 y) := HBW.out.trans (hy.mono HBW.out.size)
        clear hy hcall
        go_wp2_with fail
        go_roundg (m - (j + 1))
        case measure => omega
        case rel => exact ⟨j + 1, rfl, by go_num, by omega, HALH, HY⟩
    · have hjj : j = m := by omega
      subst hjj
      have hii : ¬ (j : Int) < j := by omega
      have HRF : R = false := by rw [← HR.out]; exact H.waits_none (fun i hi => HAL.out i (by rw [HOC.out] at hi; exact hi))
      subst HRF
      go_wp2_with fail
      go_ret
      exact ⟨rfl, HB.out.trans (HBW.out.mono HB.out.size)⟩
end Go.Proofs.Ytafdjmccgijmnaa

/- One order of several. -/
import Derived.Test.YtafdjmccgijmnaaHiWaits
namespace Go.Proofs.Ytafdjmccgijmnaa
open Go.RowKit A Go.Maps
set_option linter.unusedVariables false
set_option linter.unusedSimpArgs false
set_option maxRecDepth 100000 in
set_option maxHeartbeats 8000000 in
theorem merge1_any {w : World} {a a2 : Option Addr} {l c m c2 : Nat} {ts : List H.Ac} {os : List (List Nat)} (h : ActsV w a l c ts) (ho : OsV w a2 m c2 os) (hlt : ∀ i, i < m → ∀ q ∈ os.getD i [], q < l) {b2 b3 : Nat} (h2 : w.cell? ⟨b2, 0, none⟩ = some (.slice a l c)) (h3 : w.cell? ⟨b3, 0, none⟩ = some (.slice a2 m c2)) {a1 : Option Addr} {l1 c1 : Nat} {o : List Nat} (hN : NV w a1 l1 c1 o) (hol : ∀ q ∈ o, q < l) :
    Calls Try.prog 46 #[.slice a1 l1 c1, .pointer (some ⟨b2, 0, none⟩), .pointer (some ⟨b3, 0, none⟩)] w fun e w' => e = .returned (.bool (H.mayGo (H.cal ts) (H.bak ts) os o)) ∧ Below w.heap.size w w' := by
  have hc := hN.count
  have hmx := hN.room
  have hmax : maxLen = 9223372036854775807 := rfl
  cases o with
  | nil =>
    obtain rfl : l1 = 0 := by simpa using hc.symm
    have HS : Hid (w.drew.cell? ⟨b2, 0, none⟩ = some (.slice a l c) ∧ w.drew.cell? ⟨b3, 0, none⟩ = some (.slice a2 m c2)) := by
      simp only [World.cell?_drew]
      exact ⟨h2, h3⟩
    clear h ho hN h2 h3 hc hol hlt
    go_enter Try.func46, Try.ntmps46
    go_wp2_with fail
    refine wp_region_held_drew (S := (fun w' : World => w'.cell? ⟨b2, 0, none⟩ = some (.slice a l c) ∧ w'.cell? ⟨b3, 0, none⟩ = some (.slice a2 m c2))) (by kernel_rfl) HS.out (fun hHeld => ?_)
    refine tk (i := 0) (v := ?_) (tA rfl) (by kernel_rfl) (fun _ _ _ h => h) (Or.inl ⟨by rfl, ?_⟩) (by assumption) ?_
    rotate_left
    · (intro w hSw; (try dsimp only at hSw); go_simp <;> with_reducible rfl)
    simp only [Act.put, List.setIfInBounds_toArray, List.set_cons_zero, List.set_cons_succ]
    refine tk (i := 1) (v := ?_) (tA rfl) (by kernel_rfl) (fun _ _ _ h => h) (Or.inl ⟨by rfl, ?_⟩) (by assumption) ?_
    rotate_left
    · (intro w hSw; (try dsimp only at hSw); go_simp <;> with_reducible rfl)
    simp only [Act.put, List.setIfInBounds_toArray, List.set_cons_zero, List.set_cons_succ]
    refine tk (i := 2) (v := ?_) (tA rfl) (by kernel_rfl) (fun _ _ _ h => h) (Or.inl ⟨by rfl, ?_⟩) (by assumption) ?_
    rotate_left
    · (intro w hSw; (try dsimp only at hSw); go_simp <;> with_reducible rfl)
    simp only [Act.put, List.setIfInBounds_toArray, List.set_cons_zero, List.set_cons_succ]
    refine tk (i := 3) (v := ?_) (tA rfl) (by kernel_rfl) (fun _ _ _ h => h) (Or.inl ⟨by rfl, ?_⟩) (by assumption) ?_
    rotate_left
    · (intro w hSw; (try dsimp only at hSw); go_simp <;> with_reducible rfl)
    simp only [Act.put, List.setIfInBounds_toArray, List.set_cons_zero, List.set_cons_succ]
    refine tk (i := 4) (v := undef) (tA rfl) (by kernel_rfl) (fun _ _ _ h => h) (Or.inr ⟨by rfl, rfl⟩) (by assumption) ?_
    simp only [Act.put, List.setIfInBounds_toArray, List.set_cons_zero, List.set_cons_succ]
    refine tk (i := 5) (v := undef) (tA rfl) (by kernel_rfl) (fun _ _ _ h => h) (Or.inr ⟨by rfl, rfl⟩) (by assumption) ?_
    simp only [Act.put, List.setIfInBounds_toArray, List.set_cons_zero, List.set_cons_succ]
    refine tk (i := 6) (v := undef) (tA rfl) (by kernel_rfl) (fun _ _ _ h => h) (Or.inr ⟨by rfl, rfl⟩) (by assumption) ?_
    simp only [Act.put, List.setIfInBounds_toArray, List.set_cons_zero, List.set_cons_succ]
    refine tk (i := 7) (v := undef) (tA rfl) (by kernel_rfl) (fun _ _ _ h => h) (Or.inr ⟨by rfl, rfl⟩) (by assumption) ?_
    simp only [Act.put, List.setIfInBounds_toArray, List.set_cons_zero, List.set_cons_succ]
    refine tk (i := 8) (v := undef) (tA rfl) (by kernel_rfl) (fun _ _ _ h => h) (Or.inr ⟨by rfl, rfl⟩) (by assumption) ?_
    simp only [Act.put, List.setIfInBounds_toArray, List.set_cons_zero, List.set_cons_succ]
    refine tk (i := 9) (v := undef) (tA rfl) (by kernel_rfl) (fun _ _ _ h => h) (Or.inr ⟨by rfl, rfl⟩) (by assumption) ?_
    simp only [Act.put, List.setIfInBounds_toArray, List.set_cons_zero, List.set_cons_succ]
    refine tk (i := 10) (v := undef) (tA rfl) (by kernel_rfl) (fun _ _ _ h => h) (Or.inr ⟨by rfl, rfl⟩) (by assumption) ?_
    simp only [Act.put, List.setIfInBounds_toArray, List.set_cons_zero, List.set_cons_succ]
    refine tk (i := 11) (v := ?_) (tA rfl) (by kernel_rfl) (fun _ _ _ h => h) (Or.inl ⟨by rfl, ?_⟩) (by assumption) ?_
    rotate_left
    · (intro w hSw; (try dsimp only at hSw); go_simp <;> with_reducible rfl)
    simp only [Act.put, List.setIfInBounds_toArray, List.set_cons_zero, List.set_cons_succ]
    refine tk (i := 12) (v := ?_) (tA rfl) (by kernel_rfl) (fun _ _ _ h => h) (Or.inl ⟨by rfl, ?_⟩) (by assumption) ?_
    rotate_left
    · (intro w hSw; (try dsimp only at hSw); go_simp <;> with_reducible rfl)
    simp only [Act.put, List.setIfInBounds_toArray, List.set_cons_zero, List.set_cons_succ]
    refine wpAnyH_done (by kernel_rfl) ?_ _
    clear hHeld
    go_wp2_with fail
    go_ret
    exact ⟨rfl, (Below.refl _ _).drew⟩
  | cons k r =>
    obtain ⟨b, off, rfl, ck⟩ := hN.at (i := 0) (by simp at hc; omega)
    simp only [List.getD_cons_zero, Nat.add_zero] at ck
    have hl1 : 0 < l1 := by simp at hc; omega
    have hgt : (0 : Int) < l1 := by omega
    have hbd : Below w.heap.size w w.drew := (Below.refl _ _).drew
    have hw := waits_any (h.below hbd) (ho.below hbd) hlt (hol k List.mem_cons_self)
    have HR : Hid (H.mayGo (H.cal ts) (H.bak ts) os (k :: r) = !(H.waits (H.cal ts) (H.bak ts) os k)) := rfl
    obtain ⟨R, hR⟩ : ∃ R, H.waits (H.cal ts) (H.bak ts) os k = R := ⟨_, rfl⟩
    rw [hR] at hw HR
    have HS : Hid (w.drew.cell? ⟨b2, 0, none⟩ = some (.slice a l c) ∧ w.drew.cell? ⟨b3, 0, none⟩ = some (.slice a2 m c2) ∧ w.drew.cell? ⟨b, off, none⟩ = some (.int .i64 k)) := by
      simp only [World.cell?_drew]
      exact ⟨h2, h3, ck⟩
    have HKEEP : Hid (∀ y, Below w.drew.heap.size w.drew y → y.cell? ⟨b2, 0, none⟩ = some (.slice a l c) ∧ y.cell? ⟨b3, 0, none⟩ = some (.slice a2 m c2) ∧ y.cell? ⟨b, off, none⟩ = some (.int .i64 k)) := fun y hy => ⟨hcell_thru hy HS.out.1, hcell_thru hy HS.out.2.1, hcell_thru hy HS.out.2.2⟩
    clear h ho hN h2 h3 hc hol hlt ck hR hbd
    go_enter Try.func46, Try.ntmps46
    go_wp2_with fail
    refine wp_region_held_drew (S := (fun w' : World => w'.cell? ⟨b2, 0, none⟩ = some (.slice a l c) ∧ w'.cell? ⟨b3, 0, none⟩ = some (.slice a2 m c2) ∧ w'.cell? ⟨b, off, none⟩ = some (.int .i64 k))) (by kernel_rfl) HS.out (fun hHeld => ?_)
    refine tk (i := 0) (v := ?_) (tA rfl) (by kernel_rfl) (fun _ _ _ h => h) (Or.inl ⟨by rfl, ?_⟩) (by assumption) ?_
    rotate_left
    · (intro w hSw; (try dsimp only at hSw); go_simp <;> with_reducible rfl)
    simp only [Act.put, List.setIfInBounds_toArray, List.set_cons_zero, List.set_cons_succ]
    refine tk (i := 1) (v := ?_) (tA rfl) (by kernel_rfl) (fun _ _ _ h => h) (Or.inl ⟨by rfl, ?_⟩) (by assumption) ?_
    rotate_left
    · (intro w hSw; (try dsimp only at hSw); go_simp <;> with_reducible rfl)
    simp only [Act.put, List.setIfInBounds_toArray, List.set_cons_zero, List.set_cons_succ]
    refine tk (i := 2) (v := ?_) (tA rfl) (by kernel_rfl) (fun _ _ _ h => h) (Or.inl ⟨by rfl, ?_⟩) (by assumption) ?_
    rotate_left
    · (intro w hSw; (try dsimp only at hSw); go_simp <;> with_reducible rfl)
    simp only [Act.put, List.setIfInBounds_toArray, List.set_cons_zero, List.set_cons_succ]
    refine tk (i := 3) (v := ?_) (tA rfl) (by kernel_rfl) (fun _ _ _ h => h) (Or.inl ⟨by rfl, ?_⟩) (by assumption) ?_
    rotate_left
    · (intro w hSw; (try dsimp only at hSw); go_simp <;> with_reducible rfl)
    simp only [Act.put, List.setIfInBounds_toArray, List.set_cons_zero, List.set_cons_succ]
    refine tk (i := 4) (v := ?_) (tA rfl) (by kernel_rfl) (fun _ _ _ h => h) (Or.inl ⟨by rfl, ?_⟩) (by assumption) ?_
    rotate_left
    · (intro w hSw; (try dsimp only at hSw); go_simp <;> with_reducible rfl)
    simp only [Act.put, List.setIfInBounds_toArray, List.set_cons_zero, List.set_cons_succ]
    refine tk (i := 5) (v := ?_) (tA rfl) (by kernel_rfl) (fun _ _ _ h => h) (Or.inl ⟨by rfl, ?_⟩) (by assumption) ?_
    rotate_left
    · (intro w hSw; (try dsimp only at hSw); go_simp <;> with_reducible rfl)
    simp only [Act.put, List.setIfInBounds_toArray, List.set_cons_zero, List.set_cons_succ]
    refine tk (i := 6) (v := ?_) (tA rfl) (by kernel_rfl) (fun _ _ _ h => h) (Or.inl ⟨by rfl, ?_⟩) (by assumption) ?_
    rotate_left
    · (intro w hSw; (try dsimp only at hSw); go_simp <;> with_reducible rfl)
    simp only [Act.put, List.setIfInBounds_toArray, List.set_cons_zero, List.set_cons_succ]
    refine tk (i := 7) (v := ?_) (tA rfl) (by kernel_rfl) (fun _ _ _ h => h) (Or.inl ⟨by rfl, ?_⟩) (by assumption) ?_
    rotate_left
    · (intro w hSw; (try dsimp only at hSw); go_simp <;> with_reducible rfl)
    simp only [Act.put, List.setIfInBounds_toArray, List.set_cons_zero, List.set_cons_succ]
    refine tk (i := 8) (v := ?_) (tA rfl) (by kernel_rfl) (fun _ _ _ h => h) (Or.inl ⟨by rfl, ?_⟩) (by assumption) ?_
    rotate_left
    · (intro w hSw; (try dsimp only at hSw); go_simp <;> with_reducible rfl)
    simp only [Act.put, List.setIfInBounds_toArray, List.set_cons_zero, List.set_cons_succ]
    refine wpAnyH_ready (rs := [9]) (by kernel_rfl) (by simp) ?_
    refine AllReadyH.cons (tA rfl) (fun K hK => ?_) AllReadyH.nil
    go_simp
    refine hw.mono ?_
    rintro e y ⟨rfl, hy⟩
    have HY : Hid (Below w.heap.size w y) := (Below.refl _ _).drew.trans hy
    have HS2 : Hid _ := HKEEP.out y hy
    clear hy hw
    try go_wp2_with fail
    refine hK.out _ _ HS2.out (fun hHeld => ?_)
    clear hK K
    try simp only [Act.put, List.setIfInBounds_toArray, List.set_cons_zero, List.set_cons_succ]
    refine tk (i := 10) (v := ?_) (tA rfl) (by kernel_rfl) (fun _ _ _ h => h) (Or.inl ⟨by rfl, ?_⟩) (by assumption) ?_
    rotate_left
    · (intro w hSw; (try dsimp only at hSw); go_simp <;> with_reducible rfl)
    simp only [Act.put, List.setIfInBounds_toArray, List.set_cons_zero, List.set_cons_succ]
    refine tk (i := 11) (v := ?_) (tA rfl) (by kernel_rfl) (fun _ _ _ h => h) (Or.inl ⟨by rfl, ?_⟩) (by assumption) ?_
    rotate_left
    · (intro w hSw; (try dsimp only at hSw); go_simp <;> with_reducible rfl)
    simp only [Act.put, List.setIfInBounds_toArray, List.set_cons_zero, List.set_cons_succ]
    refine tk (i := 12) (v := ?_) (tA rfl) (by kernel_rfl) (fun _ _ _ h => h) (Or.inl ⟨by rfl, ?_⟩) (by assumption) ?_
    rotate_left
    · (intro w hSw; (try dsimp only at hSw); go_simp <;> with_reducible rfl)
    simp only [Act.put, List.setIfInBounds_toArray, List.set_cons_zero, List.set_cons_succ]
    refine wpAnyH_done (by kernel_rfl) ?_ _
    clear hHeld
    go_wp2_with fail
    go_ret
    exact ⟨by rw [HR.out]; rfl, HY.out⟩
set_option maxRecDepth 100000 in
set_option maxHeartbeats 8000000 in
theorem idxM_any {w : World} {a : Option Addr} {l c : Nat} (e0 : Nat → Value) (p0 p1 : Value) (hm : l ≤ c ∧ c ≤ maxLen) (hV : l = 0 ∨ ∃ b off, a = some ⟨b, off, none⟩ ∧ ∀ i, i < l → w.cell? ⟨b, off + i, none⟩ = some (e0 i)) (pr : Nat → Bool) (hp : ∀ i, i < l → ∀ W, Below w.heap.size w W → Calls Try.prog 46 #[e0 i, p0, p1] W fun e w' => e = .returned (.bool (pr i)) ∧ Below W.heap.size W w') :
    Calls Try.prog 45 #[.slice a l c, .func (.func 46) #[] #[p0, p1]] w fun e w' => e = .returned (.int .i64 (H.fidx l pr)) ∧ Below w.heap.size w w' := by
  have HV : Hid _ := hV
  have HP : Hid _ := hp
  have hmax : maxLen = 9223372036854775807 := rfl
  clear hV hp
  obtain ⟨R, hR⟩ : ∃ R, H.fidx l pr = R := ⟨_, rfl⟩
  have HR : Hid (H.fidx l pr = R) := hR
  rw [hR]
  clear hR
  go_enter Try.func45, Try.ntmps45
  go_wp2_with fail
  go_loopg [8] l (fun r iv wq => ∃ (k : Nat), iv = .int .i64 k ∧ k ≤ l ∧ l - k ≤ r ∧ Hid (∀ i, i < k → pr i = false) ∧ Hid (Below w.heap.size w wq))
  case atStart => exact ⟨0, rfl, Nat.zero_le _, by omega, (fun i hi => by omega : ∀ i, i < 0 → pr i = false), Below.refl _ _⟩
  case round =>
    obtain ⟨k, rfl, hk, hr, HAL, HB⟩ := hrel
    by_cases hlt : k < l
    · rcases HV.out with h0 | ⟨b, off, hA, hcl⟩
      · omega
      obtain q0 := hcl k hlt
      have q0 := hcell_thru HB.out q0
      have hcall := HP.out k hlt wr HB.out
      have HYES : Hid (pr k = true → R = k) := fun hz => by rw [← HR.out]; exact H.fidx_at hlt hz HAL.out
      subst hA
      have hii : (k : Int) < l := by omega
      have hin : 0 ≤ (k : Int) := by omega
      clear hcl
      generalize e0 k = x0 at q0 hcall
      cases hpk : pr k with
      | true =>
        rw [hpk] at hcall
        have HYE : Hid (R = k) := HYES.out hpk
        clear hpk
        go_wp2_with fail
        refine hcall.mono ?_
        rintro e y ⟨rfl, hy⟩
        have HBY : Hid (Below w.heap.size w y) := HB.out.trans (hy.mono HB.out.size)
        clear hy hcall
        go_wp2_with fail
        go_ret
        exact ⟨by rw [HYE.out]; rfl, HBY.out⟩
      | false =>
        rw [hpk] at hcall
        have HALN : Hid (∀ i, i < k + 1 → pr i = false) := fun i hi => by
          by_cases e : i = k
          · subst e; exact hpk
          · exact HAL.out i (by omega)
        clear hpk
        go_wp2_with fail
        refine hcall.mono ?_
        rintro e y ⟨rfl, hy⟩
        have HBY : Hid (Below w.heap.size w y) := HB.out.trans (hy.mono HB.out.size)
        clear hy hcall
        go_wp2_with fail
        go_roundg (l - (k + 1))
        case measure => omega
        case rel => exact ⟨k + 1, by first | rfl | (congr 1; omega), by omega, Nat.le_refl _, HALN, HBY.out⟩
    · have hii : ¬ (k : Int) < l := by omega
      have HNO : Hid (R = -1) := by rw [← HR.out]; exact H.fidx_no (fun i hi => HAL.out i (by omega))
      go_wp2_with fail
      go_ret
      exact ⟨by rw [HNO.out]; rfl, HB.out⟩
/-- While orders are put together: the lists as they are now, what stands in the order. -/
structure MS (w0 w : World) (a a2 : Option Addr) (l c m c2 : Nat) (W : World) (vs : List Value) (os : List (List Nat)) (v : Value) (ord : List Nat) : Prop where
  low : Below w0.heap.size w0 W
  wlo : w0.heap.size ≤ w.heap.size
  siz : w.heap.size + 2 ≤ W.heap.size
  b2 : W.cell? ⟨w.heap.size, 0, none⟩ = some (.slice a l c)
  b3 : W.cell? ⟨w.heap.size + 1, 0, none⟩ = some (.slice a2 m c2)
  out : W.ownsRow w0.heap.size 27 1 (.slice a2 m c2) m vs
  olt : ∀ g, (Value.slice a2 m c2).ownBlock = some g → g < w.heap.size
  len : os.length = m
  inn : ∀ i, i < m → ∃ a1 l1 c1, vs[i]? = some (.slice a1 l1 c1) ∧ NV W a1 l1 c1 (os.getD i []) ∧ ∀ p, a1 = some p → p.block < w.heap.size ∧ (Value.slice a2 m c2).ownBlock ≠ some p.block
  row : W.ownsRow (w.heap.size + 2) 3 1 v ord.length (ord.map nV)
section
variable {w0 w : World} {a a2 : Option Addr} {l c m c2 : Nat} {W : World} {vs : List Value} {os : List (List Nat)} {v : Value} {ord : List Nat}
theorem MS.below {y : World} (h : MS w0 w a a2 l c m c2 W vs os v ord) (hb : Below W.heap.size W y) : MS w0 w a a2 l c m c2 y vs os v ord :=
  ⟨h.low.trans (hb.mono h.low.size), h.wlo, Nat.le_trans h.siz hb.size, hcell_thru hb h.b2, hcell_thru hb h.b3, hown_thru h.out hb, h.olt, h.len, fun i hi => by
    obtain ⟨a1, l1, c1, h1, h2, h3⟩ := h.inn i hi
    exact ⟨a1, l1, c1, h1, h2.below hb, h3⟩, hown_thru h.row hb⟩
theorem NV.agr {x y : World} {a1 : Option Addr} {l1 c1 : Nat} {ns : List Nat} (h : NV x a1 l1 c1 ns) (hk : ∀ p, a1 = some p → ∀ o u, x.cell? ⟨p.block, o, none⟩ = some u → y.cell? ⟨p.block, o, none⟩ = some u) : NV y a1 l1 c1 ns :=
  ⟨h.count, h.room, h.cells.imp id fun ⟨b, off, e, hc⟩ => ⟨b, off, e, fun i hi => hk _ e _ _ (hc i hi)⟩⟩
theorem MS.osv (h : MS w0 w a a2 l c m c2 W vs os v ord) : OsV W a2 m c2 os := by
  refine ⟨h.len, A.own_room h.out, ?_⟩
  by_cases hm : m = 0
  · exact .inl hm
  · right
    rcases h.out.2 with ⟨e, e2⟩ | ⟨g, cap, cur, e, -⟩
    · omega
    · simp only [Value.slice.injEq, true_and] at e
      obtain ⟨rfl, rfl⟩ := e
      refine ⟨g, 0, rfl, fun i hi => ?_⟩
      obtain ⟨a1, l1, c1, h1, h2, -⟩ := h.inn i hi
      refine ⟨a1, l1, c1, ?_, h2⟩
      rw [Nat.zero_add, h.out.cellAt i (by omega)]
      exact h1
theorem MS.grow {w1 : World} (h : MS w0 w a a2 l c m c2 W vs os v ord) (hg : W.grownBy w1 v.ownBlock) {v1 : Value} {k : Nat} (hr : w1.ownsRow (w.heap.size + 2) 3 1 v1 (ord.length + 1) (ord.map nV ++ [nV k])) : MS w0 w a a2 l c m c2 w1 vs os v1 (ord ++ [k]) := by
  have hfar : ∀ i, i < w.heap.size + 2 → some i ≠ v.ownBlock := fun i hi e => own_far h.row hi e.symm
  have hw := h.wlo
  refine ⟨⟨hg.os.trans h.low.os, hg.tape.trans h.low.tape, hg.output.trans h.low.output, Nat.le_trans h.low.size hg.size, fun i hi => (hg.block i (by have := h.low.size; omega) (hfar i (by omega))).trans (h.low.block i hi)⟩, hw, Nat.le_trans h.siz hg.size, hg.cell h.b2 (hfar _ (by show w.heap.size < _; omega)), hg.cell h.b3 (hfar _ (by show w.heap.size + 1 < _; omega)), h.out.kept hg ?_, h.olt, h.len, fun i hi => ?_, by rw [List.length_append, List.map_append]; exact hr⟩
  · cases e : (Value.slice a2 m c2).ownBlock with
    | none => exact .inl rfl
    | some g => exact .inr (hfar g (by have := h.olt g e; omega))
  · obtain ⟨a1, l1, c1, h1, h2, h3⟩ := h.inn i hi
    exact ⟨a1, l1, c1, h1, h2.agr fun p hp o u hc => hg.cell hc (hfar _ (by have := (h3 p hp).1; show p.block < _; omega)), h3⟩
theorem MS.store {g i k : Nat} {r : List Nat} (h : MS w0 w a (some ⟨g, 0, none⟩) l c m c2 W vs os v ord) (hi : i < m) {a1 a1' : Option Addr} {l1 c1 : Nat} (hv : vs[i]? = some (.slice a1 (l1 + 1) (c1 + 1))) (ho : os.getD i [] = k :: r) (ha : ∀ b off, a1 = some ⟨b, off, none⟩ → a1' = if c1 + 1 = 1 then some ⟨b, off, none⟩ else some ⟨b, off + 1, none⟩) (hs : a1.isSome = true) : MS w0 w a (some ⟨g, 0, none⟩) l c m c2 (W.setCell ⟨g, i, none⟩ (.slice a1' l1 c1)) (vs.set i (.slice a1' l1 c1)) (os.set i r) v ord := by
  have hgl : g < w.heap.size := h.olt g rfl
  have hgb : w0.heap.size ≤ g := (h.out.lt g rfl).1
  have hw := h.wlo
  have hfar : ∀ b o, b ≠ g → (W.setCell ⟨g, i, none⟩ (.slice a1' l1 c1)).cell? ⟨b, o, none⟩ = W.cell? ⟨b, o, none⟩ := fun b o hb => World.cell?_setCell_far _ ⟨g, i, none⟩ ⟨b, o, none⟩ _ (fun e => hb e.symm)
  have hlen : vs.length = m := by have := h.out.1; simpa using this
  refine ⟨h.low.setCell hgb _, hw, by rw [World.size_setCell]; exact h.siz, by rw [hfar _ _ (by omega)]; exact h.b2, by rw [hfar _ _ (by omega)]; exact h.b3, (h.out.stored i _).1, h.olt, by rw [List.length_set]; exact h.len, fun j hj => ?_, h.row.kept (gb_setO W ⟨g, i, none⟩ _) (.inr (own_far h.row (by show g < _; omega)))⟩
  by_cases e : i = j
  · subst e
    obtain ⟨q1, q2, q3, h1, h2, h3⟩ := h.inn i hj
    rw [hv] at h1
    cases h1
    rw [ho] at h2
    obtain ⟨p, hp⟩ := Option.isSome_iff_exists.1 hs
    rcases h2.cells with h0 | ⟨b, off, hab, hc⟩
    · omega
    have ha' := ha b off hab
    have hc2 : r.length = l1 := by have := h2.count; simpa using this
    have hrm := h2.room
    refine ⟨a1', l1, c1, by rw [List.getElem?_set_self (by omega)], ⟨?_, ⟨by omega, by omega⟩, ?_⟩, ?_⟩
    · rw [A.getD_set_eq _ _ _ (by rw [h.len]; exact hj)]; exact hc2
    · by_cases hl : l1 = 0
      · exact .inl hl
      · right
        rw [if_neg (by omega)] at ha'
        refine ⟨b, off + 1, ha', fun q hq => ?_⟩
        rw [hfar _ _ (fun e => (h3 _ hab).2 (by simp [Value.ownBlock, e])), A.getD_set_eq _ _ _ (by rw [h.len]; exact hj)]
        have := hc (q + 1) (by omega)
        rw [show off + 1 + q = off + (q + 1) by omega, this]
        simp
    · intro p' hp'
      rw [ha'] at hp'
      split at hp'
      · cases hp'; exact h3 ⟨b, off, none⟩ hab
      · cases hp'; exact h3 ⟨b, off, none⟩ hab
  · obtain ⟨q1, q2, q3, h1, h2, h3⟩ := h.inn j hj
    refine ⟨q1, q2, q3, by rw [List.getElem?_set_ne e]; exact h1, ?_, h3⟩
    rw [A.getD_set_ne _ _ _ e]
    exact h2.agr fun p hp o u hc => by rw [hfar _ _ (fun e => (h3 p hp).2 (by simp [Value.ownBlock, e]))]; exact hc
end
namespace H
theorem fidx_pick {ts : List Ac} {os : List (List Nat)} : fidx os.length (fun i => mayGo (cal ts) (bak ts) os (os.getD i [])) = match pick (cal ts) (bak ts) os with
    | some i => (i : Int)
    | none => -1 := by
  cases h : pick (cal ts) (bak ts) os with
  | some i =>
    unfold pick at h
    rw [List.findIdx?_eq_some_iff_getElem] at h
    obtain ⟨hi, h1, h2⟩ := h
    refine fidx_at hi (by simpa [List.getD, hi] using h1) (fun j hj => ?_)
    have := h2 j hj
    simpa [List.getD, show j < os.length by omega] using this
  | none =>
    unfold pick at h
    rw [List.findIdx?_eq_none_iff] at h
    exact fidx_no (fun i hi => h _ (by simp [List.getD, hi]))
theorem merge_none {call back : Nat → Int} {os : List (List Nat)} (h : pick call back os = none) (n : Nat) : merge call back n os = [] := by
  cases n with
  | zero => rfl
  | succ n => rw [merge, h]
end H
set_option maxRecDepth 100000 in
set_option maxHeartbeats 16000000 in
theorem merge_any {w0 w : World} {a a2 : Option Addr} {l c m c2 : Nat} {ts : List H.Ac} {os : List (List Nat)} {vs : List Value} (hA : ActsV w0 a l c ts) (hlow : Below w0.heap.size w0 w) (hlt : ∀ i, i < m → ∀ q ∈ os.getD i [], q < l) (hT : H.tot os ≤ 1000) (hrow : w.ownsRow w0.heap.size 27 1 (.slice a2 m c2) m vs) (hlen : os.length = m) (hinn : ∀ i, i < m → ∃ a1 l1 c1, vs[i]? = some (.slice a1 l1 c1) ∧ NV w a1 l1 c1 (os.getD i []) ∧ ∀ p, a1 = some p → p.block < w.heap.size ∧ (Value.slice a2 m c2).ownBlock ≠ some p.block) :
    Calls Try.prog 25 #[.slice a l c, .slice a2 m c2] w fun e W => ∃ v, e = .returned v ∧ W.ownsRow w0.heap.size 3 1 v (H.merge (H.cal ts) (H.bak ts) (H.tot os) os).length ((H.merge (H.cal ts) (H.bak ts) (H.tot os) os).map nV) ∧ Below w0.heap.size w0 W := by
  have hmf : ∀ (fn : Fn) (first cap : Array Value) (w : World), (Instr.makeFunc fn first cap).run Try.prog w = .ok (.func fn first cap) w := fun _ _ _ _ => rfl
  obtain ⟨Y1, hY1⟩ : ∃ Y, w.alloc (.cells #[.slice a l c] 23) = Y := ⟨_, rfl⟩
  obtain ⟨Y2, hY2⟩ : ∃ Y, Y1.alloc (.cells #[.slice a2 m c2] 52) = Y := ⟨_, rfl⟩
  have e1 : Y1.heap.size = w.heap.size + 1 := by rw [← hY1]; simp
  have hb1 : Below w.heap.size w Y1 := by rw [← hY1]; exact hbl1 _ _
  have hb2 : Below Y1.heap.size Y1 Y2 := by rw [← hY2]; exact hbl1 _ _
  have hbY : Below w.heap.size w Y2 := hb1.trans (hb2.mono hb1.size)
  have HMS : Hid (MS w0 w a a2 l c m c2 Y2 vs os (.slice none 0 0) []) := by
    refine ⟨hlow.trans (hbY.mono hlow.size), hlow.size, ?_, hcell_thru hb2 (by rw [← hY1]; simp), by rw [← hY2]; exact A.cell_last e1.symm rfl, hown_thru hrow hbY, fun g hg => (hrow.lt g hg).2, hlen, fun i hi => ?_, World.ownsRow_nil _ _ _ _⟩
    · rw [← hY2, World.size_alloc, e1]; exact Nat.le_refl _
    · obtain ⟨a1, l1, c1, h1, h2, h3⟩ := hinn i hi
      exact ⟨a1, l1, c1, h1, h2.below hbY, h3⟩
  have HA : Hid (ActsV w0 a l c ts) := hA
  have HLT : Hid (∀ i, i < m → ∀ q ∈ os.getD i [], q < l) := hlt
  have HAX : Hid (ActsV w0 a l c ts) := hA
  obtain ⟨R, hR⟩ : ∃ R, H.merge (H.cal ts) (H.bak ts) (H.tot os) os = R := ⟨_, rfl⟩
  have HR : Hid (H.merge (H.cal ts) (H.bak ts) (H.tot os) os = R) := hR
  have HT : Hid (H.tot os ≤ 1000) := hT
  rw [hR]
  clear hA hlow hlt hrow hlen hinn hb1 hb2 hbY hR hT
  go_enter Try.func25, Try.ntmps25
  go_wp2_with fail
  go_loopg [5, 6] (H.tot os) (fun r ov z6 wq => ∃ (vs' : List Value) (os' : List (List Nat)) (ord : List Nat), r = H.tot os' ∧ Hid (MS w0 w a a2 l c m c2 wq vs' os' ov ord) ∧ Hid (ord ++ H.merge (H.cal ts) (H.bak ts) (H.tot os') os' = R) ∧ Hid (∀ i, i < m → ∀ q ∈ os'.getD i [], q < l) ∧ ord.length + H.tot os' ≤ 1000)
  case atStart => exact ⟨vs, os, [], rfl, HMS.out, (by show _ = _; rw [List.nil_append]; exact HR.out), HLT.out, (by simpa using HT.out)⟩
  case round =>
    obtain ⟨vs', os', ord, rfl, HM, HRR, HLL, h60⟩ := hrel
    have hOV := HM.out.osv
    have HOL : Hid (os'.length = m) := HM.out.len
    have hidx : Calls Try.prog 45 #[.slice a2 m c2, .func (.func 46) #[] #[.pointer (some ⟨w.heap.size, 0, none⟩), .pointer (some ⟨w.heap.size + 1, 0, none⟩)]] wr fun e w' => e = .returned (.int .i64 (H.fidx m (fun i => H.mayGo (H.cal ts) (H.bak ts) os' (os'.getD i [])))) ∧ Below wr.heap.size wr w' := by
      refine idxM_any (fun i => vs'.getD i undef) _ _ hOV.room ?_ _ (fun i hi W hW => ?_)
      · rcases hOV.cells with h0 | ⟨b, off, hab, hc⟩
        · exact .inl h0
        · refine .inr ⟨b, off, hab, fun i hi => ?_⟩
          rcases HM.out.out.2 with ⟨e, -⟩ | ⟨g, cap, cur, e, -⟩
          · simp only [Value.slice.injEq] at e; omega
          · simp only [Value.slice.injEq, true_and] at e
            obtain ⟨rfl, rfl⟩ := e
            cases hab
            rw [Nat.zero_add, HM.out.out.cellAt i (by omega)]
            obtain ⟨q1, q2, q3, h1, -⟩ := HM.out.inn i hi
            rw [h1]
            simp [List.getD, h1]
      · obtain ⟨q1, q2, q3, h1, h2, -⟩ := HM.out.inn i hi
        have hMW := HM.out.below hW
        rw [show vs'.getD i undef = .slice q1 q2 q3 by simp [List.getD, h1]]
        exact merge1_any (HAX.out.below hMW.low) hMW.osv HLL.out hMW.b2 hMW.b3 (h2.below hW) (HLL.out i hi)
    have hfp := H.fidx_pick (ts := ts) (os := os')
    rw [HOL.out] at hfp
    rw [hfp] at hidx
    have x3 := HM.out.b3
    clear hfp hOV
    cases hpk : H.pick (H.cal ts) (H.bak ts) os' with
    | none =>
      rw [hpk] at hidx
      simp only at hidx
      have HRO : Hid (ord = R) := by
        have h1 := HRR.out
        rw [H.merge_none hpk, List.append_nil] at h1
        exact h1
      clear hpk
      go_wp2_with fail
      refine hidx.mono ?_
      rintro e y ⟨rfl, hy⟩
      have HMY := HM.out.below hy
      have HMYH : Hid _ := HMY
      clear hy hidx HMY
      go_wp2_with fail
      go_ret
      refine ⟨_, rfl, ?_, HMYH.out.low⟩
      rw [← HRO.out]
      exact A.own_base HMYH.out.row (by have := HMYH.out.wlo; omega)
    | some i =>
      rw [hpk] at hidx
      simp only at hidx
      obtain ⟨him, k, r, ho1, ho2, -⟩ := H.pick_some hpk
      have him' : i < m := by rw [← HOL.out]; exact him
      have HTS : Hid (H.tot (os'.set i r) + 1 = H.tot os') := H.tot_set ho2
      have HRN : Hid (ord ++ [k] ++ H.merge (H.cal ts) (H.bak ts) (H.tot (os'.set i r)) (os'.set i r) = R) := by
        have h1 := HRR.out
        rw [← HTS.out, H.merge, hpk] at h1
        simp only [ho1] at h1
        rw [List.append_assoc]
        exact h1
      have HLN : Hid (∀ j, j < m → ∀ q ∈ (os'.set i r).getD j [], q < l) := fun j hj q hq => by
        by_cases e : i = j
        · subst e
          rw [A.getD_set_eq _ _ _ him] at hq
          exact HLL.out i hj q (by rw [ho1]; exact List.mem_cons_of_mem _ hq)
        · rw [A.getD_set_ne _ _ _ e] at hq
          exact HLL.out j hj q hq
      have HO1 : Hid (os'.getD i [] = k :: r) := ho1
      clear hpk ho2 him ho1
      have hi0 : ¬ (i : Int) < 0 := by omega
      have hi1 : (i : Int) < m := by omega
      have hi2 : 0 ≤ (i : Int) := by omega
      have ht1 : 1 ≤ H.tot os' := by have := HTS.out; omega
      obtain ⟨i1, hi1x, hz10, hz11, hz12⟩ := hinfo infoInt
      go_wp2_with fail
      refine hidx.mono ?_
      rintro e y ⟨rfl, hy⟩
      have hMY := HM.out.below hy
      have HMY : Hid _ := hMY
      obtain ⟨g, rfl⟩ : ∃ g, a2 = some ⟨g, 0, none⟩ := by
        rcases hMY.out.2 with ⟨e, -⟩ | ⟨g, cap, cur, e, -⟩
        · simp only [Value.slice.injEq] at e; omega
        · simp only [Value.slice.injEq, true_and] at e; exact ⟨g, e.1⟩
      obtain ⟨a1, l1, c1, hv1, hN1, hf1⟩ := hMY.inn i him'
      rw [HO1.out] at hN1
      obtain ⟨b, off, hab, ck⟩ := hN1.at (i := 0) (by have := hN1.count; simp at this; omega)
      subst hab
      obtain ⟨l2, rfl⟩ : ∃ q, l1 = q + 1 := ⟨l1 - 1, by have := hN1.count; simp at this; omega⟩
      obtain ⟨c3, rfl⟩ : ∃ q, c1 = q + 1 := ⟨c1 - 1, by have := hN1.room; omega⟩
      simp only [List.getD_cons_zero, Nat.add_zero] at ck
      have cg : y.cell? ⟨g, i, none⟩ = some (.slice (some ⟨b, off, none⟩) (l2 + 1) (c3 + 1)) := by rw [hMY.out.cellAt i (by omega)]; exact hv1
      have y3 := hMY.b3
      have hls : ((l2 + 1 : Nat) : Int) > 0 := by omega
      obtain ⟨Z, hZ⟩ : ∃ Y, y.alloc (.cells #[.int .i64 k] 3) = Y := ⟨_, rfl⟩
      have hbZ : Below y.heap.size y Z := by rw [← hZ]; exact hbl1 _ _
      have HMZ : Hid (MS w0 w a (some ⟨g, 0, none⟩) l c m c2 Z vs' os' u5 ord) := hMY.below hbZ
      have HNC : Hid (∀ j u, ([.int .i64 k] : List Value)[j]? = some u → Z.cell? ((⟨y.heap.size, 0, none⟩ : Addr).add j) = some u) := by
        intro j u hu
        match j, hu with
        | 0, hu => simp at hu; subst hu; rw [← hZ]; exact A.cell_last (by simp) (by simp)
        | j + 1, hu => simp at hu
      have hsz := HMZ.out.siz
      have HV1 : Hid (vs'[i]? = some (.slice (some ⟨b, off, none⟩) (l2 + 1) (c3 + 1))) := hv1
      clear hy hidx hMY hN1 x3 hv1 hf1
      go_wp2_with (first | (at_builtin; go_loud (refine wpList_append_lies _ rfl _ _ 27 rfl (w.heap.size + 2) 3 i1 _ 1 8 Try.underlying27 hi1x hz10 hz11 hz12 rfl (by decide) u5 ord.length (ord.map nV) rfl HMZ.out.row ⟨y.heap.size, 0, none⟩ 1 1 [.int .i64 k] rfl rfl HNC.out (by intro u hu; simp at hu; subst hu; rfl) (by decide) (by unfold maxLen; omega) (by omega) hsz Z.heap.size rfl ?_; intro ga ca w1 ho1 hg1 hat1 hlt1)) | fail)
      have hM1 := HMZ.out.grow hg1 (v1 := .slice (some ⟨ga, 0, none⟩) (ord.length + 1) ca) (k := k) ho1
      have HM1 : Hid _ := hM1
      have hMD := hM1.below (Below.refl _ _).drew
      have HMD : Hid (MS w0 w a (some ⟨g, 0, none⟩) l c m c2 w1.drew vs' os' (.slice (some ⟨ga, 0, none⟩) (ord.length + 1) ca) (ord ++ [k])) := hMD
      have HS6 : Hid (w1.drew.cell? ⟨w.heap.size + 1, 0, none⟩ = some (.slice (some ⟨g, 0, none⟩) m c2)) := hMD.b3
      have cg1 : w1.cell? ⟨g, i, none⟩ = some (.slice (some ⟨b, off, none⟩) (l2 + 1) (c3 + 1)) := by rw [hM1.out.cellAt i (by omega)]; exact HV1.out
      have fg1 : w1.frozen? ⟨g, i, none⟩ = false := hM1.out.frozenAt i
      have HGW : Hid (g < w.heap.size) := hM1.olt g rfl
      have hST := (hM1.store (k := k) (r := r) (a1 := some ⟨b, off, none⟩) (l1 := l2) (c1 := c3) (a1' := if c3 = 0 then some ⟨b, off, none⟩ else some ⟨b, off + 1, none⟩) him' HV1.out HO1.out (fun b' off' e => by cases e; simp) rfl).below (Below.refl _ _).drew
      have HST : Hid _ := hST
      have hl21 : (1 : Int) ≤ (l2 : Int) + 1 := by omega
      clear hM1 hMD hST hg1 ho1 hat1 hlt1 y3 cg ck
      refine wp_region_held_drew (S := (fun w' : World => w'.cell? ⟨w.heap.size + 1, 0, none⟩ = some (.slice (some ⟨g, 0, none⟩) m c2))) (by kernel_rfl) HS6.out (fun hHeld => ?_)
      refine tk (i := 0) (v := ?_) (tA rfl) (by kernel_rfl) (fun _ _ _ h => h) (Or.inl ⟨by rfl, ?_⟩) (by assumption) ?_
      rotate_left
      · (intro w hSw; (try dsimp only at hSw); go_simp <;> with_reducible rfl)
      simp only [Act.put, List.setIfInBounds_toArray, List.set_cons_zero, List.set_cons_succ]
      refine tk (i := 1) (v := ?_) (tA rfl) (by kernel_rfl) (fun _ _ _ h => h) (Or.inl ⟨by rfl, ?_⟩) (by assumption) ?_
      rotate_left
      · (intro w hSw; (try dsimp only at hSw); go_simp <;> with_reducible rfl)
      simp only [Act.put, List.setIfInBounds_toArray, List.set_cons_zero, List.set_cons_succ]
      refine tk (i := 2) (v := ?_) (tA rfl) (by kernel_rfl) (fun _ _ _ h => h) (Or.inl ⟨by rfl, ?_⟩) (by assumption) ?_
      rotate_left
      · (intro w hSw; (try dsimp only at hSw); go_simp <;> with_reducible rfl)
      simp only [Act.put, List.setIfInBounds_toArray, List.set_cons_zero, List.set_cons_succ]
      refine tk (i := 3) (v := ?_) (tA rfl) (by kernel_rfl) (fun _ _ _ h => h) (Or.inl ⟨by rfl, ?_⟩) (by assumption) ?_
      rotate_left
      · (intro w hSw; (try dsimp only at hSw); go_simp <;> with_reducible rfl)
      simp only [Act.put, List.setIfInBounds_toArray, List.set_cons_zero, List.set_cons_succ]
      refine tk (i := 4) (v := ?_) (tA rfl) (by kernel_rfl) (fun _ _ _ h => h) (Or.inl ⟨by rfl, ?_⟩) (by assumption) ?_
      rotate_left
      · (intro w hSw; (try dsimp only at hSw); go_simp <;> with_reducible rfl)
      simp only [Act.put, List.setIfInBounds_toArray, List.set_cons_zero, List.set_cons_succ]
      refine wpAnyH_ready (rs := [5]) (by kernel_rfl) (by simp) ?_
      refine AllReadyH.cons (tA rfl) (fun K hK => ?_) AllReadyH.nil
      go_simp
      refine hK.out _ _ hHeld (fun hHeld => ?_)
      clear hK K
      try simp only [Act.put, List.setIfInBounds_toArray, List.set_cons_zero, List.set_cons_succ]
      refine tk (i := 6) (v := ?_) (tA rfl) (by kernel_rfl) (fun _ _ _ h => h) (Or.inl ⟨by rfl, ?_⟩) (by assumption) ?_
      rotate_left
      · (intro w hSw; (try dsimp only at hSw); go_simp <;> with_reducible rfl)
      simp only [Act.put, List.setIfInBounds_toArray, List.set_cons_zero, List.set_cons_succ]
      refine tk (i := 7) (v := ?_) (tA rfl) (by kernel_rfl) (fun _ _ _ h => h) (Or.inl ⟨by rfl, ?_⟩) (by assumption) ?_
      rotate_left
      · (intro w hSw; (try dsimp only at hSw); go_simp <;> with_reducible rfl)
      simp only [Act.put, List.setIfInBounds_toArray, List.set_cons_zero, List.set_cons_succ]
      refine wpAnyH_ready (rs := [8]) (by kernel_rfl) (by simp) ?_
      refine AllReadyH.cons (tA rfl) (fun K hK => ?_) AllReadyH.nil
      go_simp
      refine hK.out _ _ HST.out.b3 (fun hHeld => ?_)
      clear hK K
      try simp only [Act.put, List.setIfInBounds_toArray, List.set_cons_zero, List.set_cons_succ]
      refine wpAnyH_done (by kernel_rfl) ?_ _
      clear hHeld
      generalize (if c3 = 0 then some (⟨b, off, none⟩ : Addr) else some ⟨b, off + 1, none⟩) = ax at HST ⊢
      go_wp2_with fail
      go_roundg (H.tot (os'.set i r))
      case measure => have := HTS.out; omega
      case rel => exact ⟨_, os'.set i r, ord ++ [k], rfl, HST, HRN, HLN, by have := HTS.out; rw [List.length_append]; simp; omega⟩
end Go.Proofs.Ytafdjmccgijmnaa

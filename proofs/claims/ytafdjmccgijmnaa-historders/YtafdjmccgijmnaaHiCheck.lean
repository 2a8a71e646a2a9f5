/- Whether a history may be. -/
import Derived.Test.YtafdjmccgijmnaaHiWaits
namespace Go.Proofs.Ytafdjmccgijmnaa
open Go.RowKit A Go.Maps
set_option linter.unusedVariables false
set_option linter.unusedSimpArgs false
namespace H
def Ac.clash (a b : Ac) : Bool := decide (a.th = b.th) && (!(a.ahead b) && !(b.ahead a))
def okAt (ts : List Ac) (i : Nat) : Bool := (ts.getD i noAc).may && !((List.range i).any fun j => (ts.getD i noAc).clash (ts.getD j noAc))
def mayH (ts : List Ac) : Bool := decide (ts.length ≤ 60) && (List.range ts.length).all (okAt ts)
end H
set_option maxRecDepth 100000 in
set_option maxHeartbeats 8000000 in
theorem clash_any (a b : H.Ac) {w : World} {bb : Nat} (hc : w.cell? ⟨bb, 0, none⟩ = some (.int .i64 a.th) ∧ w.cell? ⟨bb, 1, none⟩ = some (.int .i64 a.dd) ∧ w.cell? ⟨bb, 2, none⟩ = some (.string a.nm) ∧ w.cell? ⟨bb, 3, none⟩ = some (.int .i64 a.arg) ∧ w.cell? ⟨bb, 4, none⟩ = some (.int .i64 a.call) ∧ w.cell? ⟨bb, 5, none⟩ = some (.int .i64 a.back) ∧ w.cell? ⟨bb, 6, none⟩ = some (.int .i64 a.ans)) :
    Calls Try.prog 27 #[b.v, .pointer (some ⟨bb, 0, none⟩)] w fun e w' => e = .returned (.bool (a.clash b)) ∧ Below w.heap.size w w' := by
  have HR : Hid (a.clash b = (decide (a.th = b.th) && (!(a.ahead b) && !(b.ahead a)))) := rfl
  have HAB : Hid (∀ W, Calls Try.prog 28 #[a.v, b.v] W fun e w' => e = .returned (.bool (a.ahead b)) ∧ Below W.heap.size W w') := fun W => isAhead_any a b W
  have HBA : Hid (∀ W, Calls Try.prog 28 #[b.v, a.v] W fun e w' => e = .returned (.bool (b.ahead a)) ∧ Below W.heap.size W w') := fun W => isAhead_any b a W
  obtain ⟨p, hp⟩ : ∃ q, a.ahead b = q := ⟨_, rfl⟩
  obtain ⟨q, hq⟩ : ∃ q, b.ahead a = q := ⟨_, rfl⟩
  rw [hp, hq] at HR
  rw [hp] at HAB
  rw [hq] at HBA
  clear hp hq
  obtain ⟨R, hRR⟩ : ∃ q, a.clash b = q := ⟨_, rfl⟩
  rw [hRR] at HR ⊢
  clear hRR
  obtain ⟨th, dd, nm, arg, call, back, ans⟩ := a
  obtain ⟨th2, dd2, nm2, arg2, call2, back2, ans2⟩ := b
  unfold H.Ac.v at HAB HBA ⊢
  simp only at HR HAB HBA hc ⊢
  obtain ⟨Y1, hY1⟩ : ∃ Y, w.alloc (.cells #[.int .i64 th2, .int .i64 dd2, .string nm2, .int .i64 arg2, .int .i64 call2, .int .i64 back2, .int .i64 ans2] 42) = Y := ⟨_, rfl⟩
  have hb1 : Below w.heap.size w Y1 := by rw [← hY1]; exact hbl1 _ _
  have HB1 : Hid (Below w.heap.size w Y1) := hb1
  have HK : Hid (∀ y, Below Y1.heap.size Y1 y → (y.cell? ⟨bb, 0, none⟩ = some (.int .i64 th) ∧ y.cell? ⟨bb, 1, none⟩ = some (.int .i64 dd) ∧ y.cell? ⟨bb, 2, none⟩ = some (.string nm) ∧ y.cell? ⟨bb, 3, none⟩ = some (.int .i64 arg) ∧ y.cell? ⟨bb, 4, none⟩ = some (.int .i64 call) ∧ y.cell? ⟨bb, 5, none⟩ = some (.int .i64 back) ∧ y.cell? ⟨bb, 6, none⟩ = some (.int .i64 ans)) ∧ y.cell? ⟨w.heap.size, 0, none⟩ = some (.int .i64 th2) ∧ y.cell? ⟨w.heap.size, 1, none⟩ = some (.int .i64 dd2) ∧ y.cell? ⟨w.heap.size, 2, none⟩ = some (.string nm2) ∧ y.cell? ⟨w.heap.size, 3, none⟩ = some (.int .i64 arg2) ∧ y.cell? ⟨w.heap.size, 4, none⟩ = some (.int .i64 call2) ∧ y.cell? ⟨w.heap.size, 5, none⟩ = some (.int .i64 back2) ∧ y.cell? ⟨w.heap.size, 6, none⟩ = some (.int .i64 ans2)) := fun y hy => by
    obtain ⟨x0, x1, x2, x3, x4, x5, x6⟩ := hc
    have ha : ∀ k, y.cell? ⟨w.heap.size, k, none⟩ = (#[.int .i64 th2, .int .i64 dd2, .string nm2, .int .i64 arg2, .int .i64 call2, .int .i64 back2, .int .i64 ans2] : Array Value)[k]? := fun k => by
      rw [hy.cell (p := ⟨w.heap.size, k, none⟩) (by rw [← hY1]; simp), ← hY1]
      simp
    have hf := fun o u (h : w.cell? ⟨bb, o, none⟩ = some u) => hcell_thru hy (hcell_thru hb1 h)
    exact ⟨⟨hf _ _ x0, hf _ _ x1, hf _ _ x2, hf _ _ x3, hf _ _ x4, hf _ _ x5, hf _ _ x6⟩, ha 0, ha 1, ha 2, ha 3, ha 4, ha 5, ha 6⟩
  obtain ⟨⟨x0, x1, x2, x3, x4, x5, x6⟩, z0, z1, z2, z3, z4, z5, z6⟩ := HK.out Y1 (Below.refl _ _)
  clear hc hb1
  by_cases ht : th = th2
  rotate_left
  · have et : (th == th2) = false := by simpa using ht
    rw [decide_eq_false ht] at HR
    clear ht
    go_enter Try.func27, Try.ntmps27
    go_wp2_with fail
    go_ret
    exact ⟨by rw [HR.out]; rfl, HB1.out⟩
  have et : (th == th2) = true := by simpa using ht
  rw [decide_eq_true ht] at HR
  clear ht
  go_enter Try.func27, Try.ntmps27
  go_wp2_with fail
  refine (HAB.out _).mono ?_
  rintro e y1 ⟨rfl, hy1⟩
  have HY1 : Hid (Below Y1.heap.size Y1 y1) := hy1
  clear hy1 x0 x1 x2 x3 x4 x5 x6 z0 z1 z2 z3 z4 z5 z6
  obtain ⟨⟨x0, x1, x2, x3, x4, x5, x6⟩, z0, z1, z2, z3, z4, z5, z6⟩ := HK.out y1 HY1.out
  cases p with
  | true =>
    go_wp2_with fail
    go_ret
    exact ⟨by rw [HR.out]; rfl, HB1.out.trans (HY1.out.mono HB1.out.size)⟩
  | false =>
    go_wp2_with fail
    refine (HBA.out _).mono ?_
    rintro e y2 ⟨rfl, hy2⟩
    have HY2 : Hid (Below Y1.heap.size Y1 y2) := HY1.out.trans (hy2.mono HY1.out.size)
    clear hy2 x0 x1 x2 x3 x4 x5 x6 z0 z1 z2 z3 z4 z5 z6
    go_wp2_with fail
    go_ret
    exact ⟨by rw [HR.out]; rfl, HB1.out.trans (HY2.out.mono HB1.out.size)⟩
set_option maxRecDepth 100000 in
set_option maxHeartbeats 8000000 in
theorem idxA_any {w : World} {a : Option Addr} {l c : Nat} (e0 e1 e2 e3 e4 e5 e6 : Nat → Value) (p0 : Value) (hm : l ≤ c ∧ c ≤ maxLen) (hV : l = 0 ∨ ∃ b off, a = some ⟨b, off, none⟩ ∧ ∀ i, i < l → w.cell? ⟨b, off + i * 7, none⟩ = some (e0 i) ∧ w.cell? ⟨b, off + i * 7 + 1, none⟩ = some (e1 i) ∧ w.cell? ⟨b, off + i * 7 + 2, none⟩ = some (e2 i) ∧ w.cell? ⟨b, off + i * 7 + 3, none⟩ = some (e3 i) ∧ w.cell? ⟨b, off + i * 7 + 4, none⟩ = some (e4 i) ∧ w.cell? ⟨b, off + i * 7 + 5, none⟩ = some (e5 i) ∧ w.cell? ⟨b, off + i * 7 + 6, none⟩ = some (e6 i)) (pr : Nat → Bool) (hp : ∀ i, i < l → ∀ W, Below w.heap.size w W → Calls Try.prog 27 #[.agg #[e0 i, e1 i, e2 i, e3 i, e4 i, e5 i, e6 i], p0] W fun e w' => e = .returned (.bool (pr i)) ∧ Below W.heap.size W w') :
    Calls Try.prog 49 #[.slice a l c, .func (.func 27) #[] #[p0]] w fun e w' => e = .returned (.int .i64 (H.fidx l pr)) ∧ Below w.heap.size w w' := by
  have HV : Hid _ := hV
  have HP : Hid _ := hp
  have hmax : maxLen = 9223372036854775807 := rfl
  clear hV hp
  obtain ⟨R, hR⟩ : ∃ R, H.fidx l pr = R := ⟨_, rfl⟩
  have HR : Hid (H.fidx l pr = R) := hR
  rw [hR]
  clear hR
  go_enter Try.func49, Try.ntmps49
  go_wp2_with fail
  go_loopg [8] l (fun r iv wq => ∃ (k : Nat), iv = .int .i64 k ∧ k ≤ l ∧ l - k ≤ r ∧ Hid (∀ i, i < k → pr i = false) ∧ Hid (Below w.heap.size w wq))
  case atStart => exact ⟨0, rfl, Nat.zero_le _, by omega, (fun i hi => by omega : ∀ i, i < 0 → pr i = false), Below.refl _ _⟩
  case round =>
    obtain ⟨k, rfl, hk, hr, HAL, HB⟩ := hrel
    by_cases hlt : k < l
    · rcases HV.out with h0 | ⟨b, off, hA, hcl⟩
      · omega
      obtain ⟨q0, q1, q2, q3, q4, q5, q6⟩ := hcl k hlt
      have q0 := hcell_thru HB.out q0
      have q1 := hcell_thru HB.out q1
      have q2 := hcell_thru HB.out q2
      have q3 := hcell_thru HB.out q3
      have q4 := hcell_thru HB.out q4
      have q5 := hcell_thru HB.out q5
      have q6 := hcell_thru HB.out q6
      have hcall := HP.out k hlt wr HB.out
      have HYES : Hid (pr k = true → R = k) := fun hz => by rw [← HR.out]; exact H.fidx_at hlt hz HAL.out
      subst hA
      have hii : (k : Int) < l := by omega
      have hin : 0 ≤ (k : Int) := by omega
      clear hcl
      generalize e0 k = x0 at q0 hcall
      generalize e1 k = x1 at q1 hcall
      generalize e2 k = x2 at q2 hcall
      generalize e3 k = x3 at q3 hcall
      generalize e4 k = x4 at q4 hcall
      generalize e5 k = x5 at q5 hcall
      generalize e6 k = x6 at q6 hcall
      cases hpk : pr k with
      | true =>
        rw [hpk] at hcall
        have HYE : Hid (R = k) := HYES.out hpk
        clear hpk
        go_wp2_with fail
        refine hcall.mono ?_
        rintro e y ⟨rfl, hy⟩
        have HBY : Hid (Below w.heap.size w y) := HB.out.trans (hy.mono HB.out.size)
        clear hy hcall
        go_wp2_with fail
        go_ret
        exact ⟨by rw [HYE.out]; rfl, HBY.out⟩
      | false =>
        rw [hpk] at hcall
        have HALN : Hid (∀ i, i < k + 1 → pr i = false) := fun i hi => by
          by_cases e : i = k
          · subst e; exact hpk
          · exact HAL.out i (by omega)
        clear hpk
        go_wp2_with fail
        refine hcall.mono ?_
        rintro e y ⟨rfl, hy⟩
        have HBY : Hid (Below w.heap.size w y) := HB.out.trans (hy.mono HB.out.size)
        clear hy hcall
        go_wp2_with fail
        go_roundg (l - (k + 1))
        case measure => omega
        case rel => exact ⟨k + 1, by first | rfl | (congr 1; omega), by omega, Nat.le_refl _, HALN, HBY.out⟩
    · have hii : ¬ (k : Int) < l := by omega
      have HNO : Hid (R = -1) := by rw [← HR.out]; exact H.fidx_no (fun i hi => HAL.out i (by omega))
      go_wp2_with fail
      go_ret
      exact ⟨by rw [HNO.out]; rfl, HB.out⟩
set_option maxRecDepth 100000 in
theorem hasA_any {w : World} {a : Option Addr} {l c : Nat} (e0 e1 e2 e3 e4 e5 e6 : Nat → Value) (p0 : Value) (hm : l ≤ c ∧ c ≤ maxLen) (hV : l = 0 ∨ ∃ b off, a = some ⟨b, off, none⟩ ∧ ∀ i, i < l → w.cell? ⟨b, off + i * 7, none⟩ = some (e0 i) ∧ w.cell? ⟨b, off + i * 7 + 1, none⟩ = some (e1 i) ∧ w.cell? ⟨b, off + i * 7 + 2, none⟩ = some (e2 i) ∧ w.cell? ⟨b, off + i * 7 + 3, none⟩ = some (e3 i) ∧ w.cell? ⟨b, off + i * 7 + 4, none⟩ = some (e4 i) ∧ w.cell? ⟨b, off + i * 7 + 5, none⟩ = some (e5 i) ∧ w.cell? ⟨b, off + i * 7 + 6, none⟩ = some (e6 i)) (pr : Nat → Bool) (hp : ∀ i, i < l → ∀ W, Below w.heap.size w W → Calls Try.prog 27 #[.agg #[e0 i, e1 i, e2 i, e3 i, e4 i, e5 i, e6 i], p0] W fun e w' => e = .returned (.bool (pr i)) ∧ Below W.heap.size W w') :
    Calls Try.prog 30 #[.slice a l c, .func (.func 27) #[] #[p0]] w fun e w' => e = .returned (.bool ((List.range l).any pr)) ∧ Below w.heap.size w w' := by
  have hidx := idxA_any e0 e1 e2 e3 e4 e5 e6 p0 hm hV pr hp
  have HF : Hid (decide (0 ≤ H.fidx l pr) = (List.range l).any pr) := H.fidx_any l pr
  clear hV hp
  generalize H.fidx l pr = R at hidx HF
  go_enter Try.func30, Try.ntmps30
  go_wp2_with fail
  refine hidx.mono ?_
  rintro e y ⟨rfl, hy⟩
  have HY : Hid _ := hy
  clear hy hidx
  go_wp2_with fail
  go_ret
  exact ⟨by rw [← HF.out]; rfl, HY.out⟩
set_option maxRecDepth 100000 in
set_option maxHeartbeats 8000000 in
theorem check_any {w : World} {a : Option Addr} {l c : Nat} {ts : List H.Ac} (h : ActsV w a l c ts) :
    Calls Try.prog 15 #[.slice a l c] w fun e w' => e = .returned (.int .i64 (if H.mayH ts = true then 0 else 1)) ∧ Below w.heap.size w w' := by
  have hmf : ∀ (fn : Fn) (first cap : Array Value) (w : World), (Instr.makeFunc fn first cap).run Try.prog w = .ok (.func fn first cap) w := fun _ _ _ _ => rfl
  have HV : Hid (ActsV w a l c ts) := h
  have HC : Hid (ts.length = l) := h.count
  have hm := h.room
  have hmax : maxLen = 9223372036854775807 := rfl
  obtain ⟨R, hR⟩ : ∃ R, (if H.mayH ts = true then (0 : Int) else 1) = R := ⟨_, rfl⟩
  have HR : Hid ((if H.mayH ts = true then (0 : Int) else 1) = R) := hR
  rw [hR]
  clear h hR
  by_cases h60 : l ≤ 60
  rotate_left
  · have HR1 : Hid (R = 1) := by
      show _ = _
      rw [← HR.out]
      unfold H.mayH
      rw [HC.out, decide_eq_false h60]
      rfl
    have hgt : (60 : Int) < l := by omega
    go_enter Try.func15, Try.ntmps15
    go_wp2_with fail
    go_ret
    exact ⟨by rw [HR1.out]; rfl, Below.refl _ _⟩
  have HNO : Hid (∀ i, i < l → H.okAt ts i = false → R = 1) := fun i hi e => by
    rw [← HR.out]
    unfold H.mayH
    rw [HC.out, A.all_range_no hi e, Bool.and_false]
    rfl
  have HYES : Hid ((∀ i, i < l → H.okAt ts i = true) → R = 0) := fun e => by
    rw [← HR.out]
    unfold H.mayH
    rw [HC.out, A.all_range_yes e, decide_eq_true h60]
    rfl
  have hgt : ¬ (60 : Int) < l := by omega
  go_enter Try.func15, Try.ntmps15
  go_wp2_with fail
  go_loopg [3, 4, 5, 11] l (fun r z3 z4 z5 iv wq => ∃ (k : Nat), r = l - k ∧ iv = .int .i64 k ∧ k ≤ l ∧ Hid (∀ i, i < k → H.okAt ts i = true) ∧ Hid (Below w.heap.size w wq))
  case atStart => exact ⟨0, rfl, rfl, Nat.zero_le _, (fun i hi => by omega : ∀ i, i < 0 → H.okAt ts i = true), Below.refl _ _⟩
  case round =>
    obtain ⟨k, rfl, rfl, hk, HAL, HB⟩ := hrel
    by_cases hlt : k < l
    · have hii : (k : Int) < l := by omega
      have hin : 0 ≤ (k : Int) := by omega
      have hkc : (k : Int) ≤ c := by omega
      obtain ⟨b, off, rfl, c0, c1, c2, c3, c4, c5, c6⟩ := (HV.out.below HB.out).at hlt
      have HOK : Hid (H.okAt ts k = ((ts.getD k H.noAc).may && !((List.range k).any fun j => (ts.getD k H.noAc).clash (ts.getD j H.noAc)))) := rfl
      have HNK : Hid (H.okAt ts k = false → R = 1) := HNO.out k hlt
      have HNX : Hid (H.okAt ts k = true → ∀ i, i < k + 1 → H.okAt ts i = true) := fun e i hi => by
        by_cases e2 : i = k
        · subst e2; exact e
        · exact HAL.out i (by omega)
      have hmb := fun W => amay_any (ts.getD k H.noAc) W
      have hhas : ∀ W bb, Below wr.heap.size wr W → (W.cell? ⟨bb, 0, none⟩ = some (.int .i64 (ts.getD k H.noAc).th) ∧ W.cell? ⟨bb, 1, none⟩ = some (.int .i64 (ts.getD k H.noAc).dd) ∧ W.cell? ⟨bb, 2, none⟩ = some (.string (ts.getD k H.noAc).nm) ∧ W.cell? ⟨bb, 3, none⟩ = some (.int .i64 (ts.getD k H.noAc).arg) ∧ W.cell? ⟨bb, 4, none⟩ = some (.int .i64 (ts.getD k H.noAc).call) ∧ W.cell? ⟨bb, 5, none⟩ = some (.int .i64 (ts.getD k H.noAc).back) ∧ W.cell? ⟨bb, 6, none⟩ = some (.int .i64 (ts.getD k H.noAc).ans)) → Calls Try.prog 30 #[.slice (some ⟨b, off, none⟩) k c, .func (.func 27) #[] #[.pointer (some ⟨bb, 0, none⟩)]] W fun e w' => e = .returned (.bool ((List.range k).any fun j => (ts.getD k H.noAc).clash (ts.getD j H.noAc))) ∧ Below W.heap.size W w' := fun W bb hW hbx => by
        refine hasA_any (fun j => .int .i64 (ts.getD j H.noAc).th) (fun j => .int .i64 (ts.getD j H.noAc).dd) (fun j => .string (ts.getD j H.noAc).nm) (fun j => .int .i64 (ts.getD j H.noAc).arg) (fun j => .int .i64 (ts.getD j H.noAc).call) (fun j => .int .i64 (ts.getD j H.noAc).back) (fun j => .int .i64 (ts.getD j H.noAc).ans) _ ⟨by omega, hm.2⟩ (.inr ⟨b, off, rfl, fun j hj => ?_⟩) _ (fun j hj W2 hW2 => ?_)
        · obtain ⟨b', off', e, y0, y1, y2, y3, y4, y5, y6⟩ := ((HV.out.below HB.out).below hW).at (i := j) (by omega)
          cases e
          exact ⟨y0, y1, y2, y3, y4, y5, y6⟩
        · obtain ⟨x0, x1, x2, x3, x4, x5, x6⟩ := hbx
          exact clash_any (ts.getD k H.noAc) (ts.getD j H.noAc) ⟨hcell_thru hW2 x0, hcell_thru hW2 x1, hcell_thru hW2 x2, hcell_thru hW2 x3, hcell_thru hW2 x4, hcell_thru hW2 x5, hcell_thru hW2 x6⟩
      obtain ⟨p, hp⟩ : ∃ q, (ts.getD k H.noAc).may = q := ⟨_, rfl⟩
      obtain ⟨q, hq⟩ : ∃ q, ((List.range k).any fun j => (ts.getD k H.noAc).clash (ts.getD j H.noAc)) = q := ⟨_, rfl⟩
      rw [hp, hq] at HOK
      rw [hq] at hhas
      rw [hp] at hmb
      obtain ⟨x, hx⟩ : ∃ x, ts.getD k H.noAc = x := ⟨_, rfl⟩
      rw [hx] at c0 c1 c2 c3 c4 c5 c6 hmb hhas
      clear hp hq hx
      obtain ⟨th, dd, nm, arg, call, back, ans⟩ := x
      unfold H.Ac.v at hmb
      simp only at c0 c1 c2 c3 c4 c5 c6 hmb hhas
      obtain ⟨Y1, hY1⟩ : ∃ Y, wr.alloc (.cells #[.int .i64 th, .int .i64 dd, .string nm, .int .i64 arg, .int .i64 call, .int .i64 back, .int .i64 ans] 42) = Y := ⟨_, rfl⟩
      have hb1 : Below wr.heap.size wr Y1 := by rw [← hY1]; exact hbl1 _ _
      have d0 : Y1.cell? ⟨wr.heap.size, 0, none⟩ = some (.int .i64 th) := by rw [← hY1]; simp
      have d1 : Y1.cell? ⟨wr.heap.size, 1, none⟩ = some (.int .i64 dd) := by rw [← hY1]; simp
      have d2 : Y1.cell? ⟨wr.heap.size, 2, none⟩ = some (.string nm) := by rw [← hY1]; simp
      have d3 : Y1.cell? ⟨wr.heap.size, 3, none⟩ = some (.int .i64 arg) := by rw [← hY1]; simp
      have d4 : Y1.cell? ⟨wr.heap.size, 4, none⟩ = some (.int .i64 call) := by rw [← hY1]; simp
      have d5 : Y1.cell? ⟨wr.heap.size, 5, none⟩ = some (.int .i64 back) := by rw [← hY1]; simp
      have d6 : Y1.cell? ⟨wr.heap.size, 6, none⟩ = some (.int .i64 ans) := by rw [← hY1]; simp
      have HHAS : Hid (∀ W, Below Y1.heap.size Y1 W → Calls Try.prog 30 #[.slice (some ⟨b, off, none⟩) k c, .func (.func 27) #[] #[.pointer (some ⟨wr.heap.size, 0, none⟩)]] W fun e w' => e = .returned (.bool q) ∧ Below W.heap.size W w') := fun W hW => hhas W wr.heap.size (hb1.trans (hW.mono hb1.size)) ⟨hcell_thru hW d0, hcell_thru hW d1, hcell_thru hW d2, hcell_thru hW d3, hcell_thru hW d4, hcell_thru hW d5, hcell_thru hW d6⟩
      have HB1 : Hid (Below w.heap.size w Y1) := HB.out.trans (hb1.mono HB.out.size)
      have hmay := hmb Y1
      clear hhas hmb hb1
      cases p with
      | false =>
        have HR1 := HNK.out (by rw [HOK.out]; rfl)
        subst HR1
        go_wp2_with fail
        refine hmay.mono ?_
        rintro e y ⟨rfl, hy⟩
        have HY : Hid (Below w.heap.size w y) := HB1.out.trans (hy.mono HB1.out.size)
        clear hy hmay
        go_wp2_with fail
        go_ret
        exact ⟨rfl, HY.out⟩
      | true =>
        go_wp2_with fail
        refine hmay.mono ?_
        rintro e y ⟨rfl, hy⟩
        have HY : Hid (Below w.heap.size w y) := HB1.out.trans (hy.mono HB1.out.size)
        have hcl := HHAS.out y hy
        clear hy hmay
        go_wp2_with fail
        refine hcl.mono ?_
        rintro e y2 ⟨rfl, hy2⟩
        have HY2 : Hid (Below w.heap.size w y2) := HY.out.trans (hy2.mono HY.out.size)
        clear hy2 hcl
        cases q with
        | true =>
          have HR1 := HNK.out (by rw [HOK.out]; rfl)
          subst HR1
          go_wp2_with fail
          go_ret
          exact ⟨rfl, HY2.out⟩
        | false =>
          have HN : Hid _ := HNX.out (by rw [HOK.out]; rfl)
          go_wp2_with fail
          go_roundg (l - (k + 1))
          case measure => omega
          case rel => exact ⟨k + 1, rfl, by go_num, by omega, HN, HY2⟩
    · have hkk : k = l := by omega
      subst hkk
      have hii : ¬ (k : Int) < k := by omega
      have HR0 := HYES.out HAL.out
      subst HR0
      go_wp2_with fail
      go_ret
      exact ⟨rfl, HB.out⟩
end Go.Proofs.Ytafdjmccgijmnaa

/- The order of one object's acts, by their numbers in the whole. -/
import Derived.Test.YtafdjmccgijmnaaHiFindW
namespace Go.Proofs.Ytafdjmccgijmnaa
open Go.RowKit A Go.Maps
set_option linter.unusedVariables false
set_option linter.unusedSimpArgs false
/-- A list of acts' numbers as it is handed over. -/
structure NV (w : World) (a : Option Addr) (l c : Nat) (ns : List Nat) : Prop where
  count : ns.length = l
  room : l ≤ c ∧ c ≤ maxLen
  cells : l = 0 ∨ ∃ b off, a = some ⟨b, off, none⟩ ∧ ∀ i, i < l → w.cell? ⟨b, off + i, none⟩ = some (nV (ns.getD i 0))
theorem NV.below {w y : World} {a : Option Addr} {l c : Nat} {ns : List Nat} (h : NV w a l c ns) (hb : Below w.heap.size w y) : NV y a l c ns :=
  ⟨h.count, h.room, h.cells.imp id fun ⟨b, off, e, hc⟩ => ⟨b, off, e, fun i hi => hcell_thru hb (hc i hi)⟩⟩
theorem NV.at {w : World} {a : Option Addr} {l c : Nat} {ns : List Nat} (h : NV w a l c ns) {i : Nat} (hi : i < l) : ∃ b off, a = some ⟨b, off, none⟩ ∧ w.cell? ⟨b, off + i, none⟩ = some (.int .i64 (ns.getD i 0)) := by
  rcases h.cells with h0 | ⟨b, off, e, hc⟩
  · omega
  · exact ⟨b, off, e, hc i hi⟩
def OOut (w : World) (ts : List H.Ac) (ns : List Nat) (s : List At) (e : Ending) (W : World) : Prop :=
  ∃ r v o, e = .returned (.tuple #[v, .bool r]) ∧ W.ownsRow w.heap.size 3 1 v o.length ((o.map fun k => ns.getD k 0).map nV) ∧ Below w.heap.size w W ∧ (r = true → (H.Pf ts).Ok 0 s o) ∧ (r = false → o = [] ∧ (H.Pf ts).Bad 0 s)
namespace H
/-- The first so many by their numbers in the whole. -/
def half (ns o : List Nat) (j : Nat) : List Nat := (o.take j).map (fun k => ns.getD k 0) ++ o.drop j
theorem half_zero (ns o : List Nat) : half ns o 0 = o := by simp [half]
theorem half_all (ns o : List Nat) : half ns o o.length = o.map fun k => ns.getD k 0 := by simp [half]
theorem half_len (ns o : List Nat) (j : Nat) : (half ns o j).length = o.length := by simp [half]; omega
theorem half_at (ns o : List Nat) {j : Nat} (hj : j < o.length) : (half ns o j)[j]? = some (o.getD j 0) := by
  unfold half
  rw [List.getElem?_append_right (by simp; omega)]
  simp [Nat.min_eq_left (Nat.le_of_lt hj), List.getD, hj]
theorem half_next (ns o : List Nat) {j : Nat} (hj : j < o.length) : (half ns o j).set j (ns.getD (o.getD j 0) 0) = half ns o (j + 1) := by
  unfold half
  have hd : o.drop j = o.getD j 0 :: o.drop (j + 1) := by simp [List.getD, hj]
  have ht : o.take (j + 1) = o.take j ++ [o.getD j 0] := by rw [List.take_add_one]; simp [List.getD, hj]
  rw [hd, ht, List.map_append, List.set_append_right _ _ (by simp; omega)]
  simp [Nat.min_eq_left (Nat.le_of_lt hj)]
end H
set_option maxRecDepth 100000 in
set_option maxHeartbeats 16000000 in
theorem order_any {w : World} {a ao an : Option Addr} {l c lo co ln cn : Nat} {ts : List H.Ac} {s : List At} {ns : List Nat} (hA : ActsV w a l c ts) (hl12 : l ≤ 12) (hO : AtsV w ao lo co s) (hlo : lo ≤ 1) (hN : NV w an ln cn ns) (hln : ln = l) (hmay : mayAll s = true) (hargs : ∀ x ∈ ts, (Lit.int .i64 x.arg).wf = true) :
    Calls Try.prog 24 #[.agg #[.slice ao lo co, .slice a l c, .slice an ln cn]] w (OOut w ts ns s) := by
  subst hln
  obtain ⟨Y0, hY0⟩ : ∃ Y, w.alloc (.cells #[.slice ao lo co, .slice a ln c, .slice an ln cn] 56) = Y := ⟨_, rfl⟩
  have hb0 : Below w.heap.size w Y0 := by rw [← hY0]; exact hbl1 _ _
  have c0 : Y0.cell? ⟨w.heap.size, 0, none⟩ = some (.slice ao lo co) := by rw [← hY0]; simp
  have c1 : Y0.cell? ⟨w.heap.size, 1, none⟩ = some (.slice a ln c) := by rw [← hY0]; simp
  have HC2 : Hid (Y0.cell? ⟨w.heap.size, 2, none⟩ = some (.slice an ln cn)) := by show _ = _; rw [← hY0]; simp
  have HB0 : Hid (Below w.heap.size w Y0) := hb0
  have HN : Hid (NV Y0 an ln cn ns) := hN.below hb0
  have HTC : Hid (ts.length = ln) := hA.count
  have hf := find_any (hA.below hb0) hl12 (hO.below hb0) hlo hmay hargs
  clear hA hO hN hmay hargs hb0
  go_enter Try.func24, Try.ntmps24
  go_wp2_with fail
  refine hf.mono ?_
  rintro e y ⟨r, v, o, rfl, hrow, hlow, hyes, hno⟩
  have HYES : Hid (r = true → (H.Pf ts).Ok 0 s o) := hyes
  have HNO : Hid (r = false → o = [] ∧ (H.Pf ts).Bad 0 s) := hno
  have HLT : Hid (∀ j, j < o.length → o.getD j 0 < ln) := fun j hj => by
    cases r with
    | true =>
      have := (H.ok_new _ _ _ (hyes rfl) (o.getD j 0) (by simp [List.getD, hj])).2
      have h2 : o.getD j 0 < ts.length := this
      rw [HTC.out] at h2; exact h2
    | false => rw [(hno rfl).1] at hj; simp at hj
  obtain ⟨av, cv, hv⟩ := own_form hrow
  subst hv
  have HROW : Hid (y.ownsRow Y0.heap.size 3 1 (.slice av o.length cv) o.length (o.map nV)) := hrow
  have HLOW : Hid (Below Y0.heap.size Y0 y) := hlow
  have hmx := (A.own_room hrow)
  have hmax : maxLen = 9223372036854775807 := rfl
  clear hf hrow hlow hyes hno c0 c1
  go_wp2_with fail
  obtain ⟨lo', hlo'⟩ : ∃ q, o.length = q := ⟨_, rfl⟩
  have HLO : Hid (o.length = lo') := hlo'
  rw [hlo'] at HROW HLT hmx ⊢
  clear hlo'
  go_loopg [6, 7, 18] lo' (fun q z6 z7 iv wq => ∃ (k : Nat), q = lo' - k ∧ iv = .int .i64 k ∧ k ≤ lo' ∧ Hid (wq.ownsRow Y0.heap.size 3 1 (.slice av lo' cv) lo' ((H.half ns o k).map nV)) ∧ Hid (Below Y0.heap.size Y0 wq))
  case atStart => exact ⟨0, rfl, rfl, Nat.zero_le _, by rw [H.half_zero]; exact HROW.out, HLOW.out⟩
  case round =>
    obtain ⟨k, rfl, rfl, hk, HR, HB⟩ := hrel
    by_cases hlt : k < lo'
    · have hii : (k : Int) < lo' := by omega
      have hin : 0 ≤ (k : Int) := by omega
      have hko : k < o.length := by rw [HLO.out]; exact hlt
      have HAT := H.half_at ns o hko
      have HNX := H.half_next ns o hko
      have hq := HLT.out k hlt
      obtain ⟨g, hg⟩ : ∃ g, av = some ⟨g, 0, none⟩ := by
        rcases HR.out.2 with ⟨e, -⟩ | ⟨g, cap, cur, e, -⟩
        · cases e; omega
        · cases e; exact ⟨g, rfl⟩
      subst hg
      obtain ⟨q, hqq⟩ : ∃ q, o.getD k 0 = q := ⟨_, rfl⟩
      rw [hqq] at HAT HNX hq
      obtain ⟨b, off, hab, cx⟩ := (HN.out.below HB.out).at hq
      subst hab
      have ck : wr.cell? ⟨g, k, none⟩ = some (.int .i64 q) := by
        rw [HR.out.cellAt k (by omega), List.getElem?_map, HAT]; rfl
      have fk : wr.frozen? ⟨g, k, none⟩ = false := HR.out.frozenAt k
      have hst := HR.out.stored k (nV (ns.getD q 0))
      rw [← List.map_set, HNX] at hst
      have HST : Hid _ := hst
      have c2 := hcell_thru HB.out HC2.out
      have hgb : Y0.heap.size ≤ g := (HR.out.lt g rfl).1
      have hqi : (q : Int) < ln := by omega
      have hqn : 0 ≤ (q : Int) := by omega
      have HGB : Hid (Y0.heap.size ≤ g) := hgb
      unfold nV at HST
      generalize ns.getD q 0 = z at *
      clear hst HAT HNX hqq hgb
      go_wp2_with fail
      go_roundg (lo' - (k + 1))
      case measure => omega
      case rel => exact ⟨k + 1, rfl, by go_num, by omega, HST.out.1, HB.out.setCell HGB.out _⟩
    · obtain rfl : k = lo' := by omega
      have hii : ¬ (k : Int) < k := by omega
      go_wp2_with fail
      go_ret2
      refine ⟨r, _, o, rfl, ?_, HB0.out.trans (HB.out.mono HB0.out.size), HYES.out, HNO.out⟩
      have := HR.out
      rw [← HLO.out, H.half_all] at this
      rw [← HLO.out]
      exact A.own_base this HB0.out.size
end Go.Proofs.Ytafdjmccgijmnaa

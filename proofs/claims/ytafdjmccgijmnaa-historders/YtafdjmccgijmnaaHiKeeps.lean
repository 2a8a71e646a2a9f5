/- Whether an order keeps time. -/
import Derived.Test.YtafdjmccgijmnaaHiOrd
namespace Go.Proofs.Ytafdjmccgijmnaa
open Go.RowKit A Go.Maps
set_option linter.unusedVariables false
set_option linter.unusedSimpArgs false
namespace H
def keepsB (ts : List Ac) (ns : List Nat) : Bool := (List.range ns.length).all fun i => (List.range i).all fun j => !((ts.getD (ns.getD i 0) noAc).ahead (ts.getD (ns.getD j 0) noAc))
theorem keeps_no {ts : List Ac} {ns : List Nat} {i j : Nat} (hi : i < ns.length) (hj : j < i) (h : (ts.getD (ns.getD i 0) noAc).ahead (ts.getD (ns.getD j 0) noAc) = true) : keepsB ts ns = false := by
  refine A.all_range_no hi (A.all_range_no hj ?_)
  rw [h]; rfl
theorem keeps_yes {ts : List Ac} {ns : List Nat} (h : ∀ i, i < ns.length → ∀ j, j < i → (ts.getD (ns.getD i 0) noAc).ahead (ts.getD (ns.getD j 0) noAc) = false) : keepsB ts ns = true := A.all_range_yes fun i hi => A.all_range_yes fun j hj => by rw [h i hi j hj]; rfl
end H
set_option maxRecDepth 100000 in
set_option maxHeartbeats 8000000 in
theorem keeps_any {w : World} {a a2 : Option Addr} {l c m c2 : Nat} {ts : List H.Ac} {ns : List Nat} (h : ActsV w a l c ts) (hn : NV w a2 m c2 ns) (hlt : ∀ x ∈ ns, x < l) :
    Calls Try.prog 34 #[.slice a l c, .slice a2 m c2] w fun e w' => e = .returned (.bool (H.keepsB ts ns)) ∧ Below w.heap.size w w' := by
  have HV : Hid (ActsV w a l c ts) := h
  have HN : Hid (NV w a2 m c2 ns) := hn
  have HC : Hid (ns.length = m) := hn.count
  have HLT : Hid (∀ i, i < m → ns.getD i 0 < l) := fun i hi => hlt _ (by simp [List.getD, show i < ns.length by rw [hn.count]; exact hi])
  have hmx := hn.room
  have hmax : maxLen = 9223372036854775807 := rfl
  obtain ⟨R, hR⟩ : ∃ R, H.keepsB ts ns = R := ⟨_, rfl⟩
  have HR : Hid (H.keepsB ts ns = R) := hR
  rw [hR]
  clear h hn hlt hR
  go_enter Try.func34, Try.ntmps34
  go_wp2_with fail
  go_loopg [5, 6, 8, 11] m (fun r z5 z6 z8 iv wq => ∃ (i : Nat), r = m - i ∧ iv = .int .i64 i ∧ i ≤ m ∧ Hid (∀ i', i' < i → ∀ j, j < i' → (ts.getD (ns.getD i' 0) H.noAc).ahead (ts.getD (ns.getD j 0) H.noAc) = false) ∧ Hid (Below w.heap.size w wq))
  case atStart => exact ⟨0, rfl, rfl, Nat.zero_le _, (fun i hi => by omega : ∀ i', i' < 0 → ∀ j, j < i' → (ts.getD (ns.getD i' 0) H.noAc).ahead (ts.getD (ns.getD j 0) H.noAc) = false), Below.refl _ _⟩
  case round =>
    obtain ⟨i, rfl, rfl, hi, HAL, HB⟩ := hrel
    by_cases him : i < m
    · have hii : (i : Int) < m := by omega
      have hin : 0 ≤ (i : Int) := by omega
      have hic : (i : Int) ≤ c2 := by omega
      obtain ⟨bn, on, hab, ci⟩ := (HN.out.below HB.out).at him
      subst hab
      have hp := HLT.out i him
      obtain ⟨p, hpp⟩ : ∃ q, ns.getD i 0 = q := ⟨_, rfl⟩
      have HP : Hid (ns.getD i 0 = p) := hpp
      rw [hpp] at ci hp
      clear hpp
      obtain ⟨W1, hW1⟩ : ∃ q, wr = q := ⟨_, rfl⟩
      rw [hW1] at HB ci
      go_wp2_with fail
      try rw [hW1]
      clear ci hW1
      go_loopg [8, 20] i (fun r z8 iv wq => ∃ (j : Nat), r = i - j ∧ iv = .int .i64 j ∧ j ≤ i ∧ Hid (∀ j', j' < j → (ts.getD p H.noAc).ahead (ts.getD (ns.getD j' 0) H.noAc) = false) ∧ Hid (Below w.heap.size w wq))
      case atStart => exact ⟨0, rfl, rfl, Nat.zero_le _, (fun j hj => by omega : ∀ j', j' < 0 → (ts.getD p H.noAc).ahead (ts.getD (ns.getD j' 0) H.noAc) = false), HB⟩
      case round =>
        obtain ⟨j, rfl, rfl, hj, HAJ, HBJ⟩ := hrel
        by_cases hji : j < i
        · have hjj : (j : Int) < i := by omega
          have hj0 : 0 ≤ (j : Int) := by omega
          obtain ⟨b3, o3, e3, cj⟩ := (HN.out.below HBJ.out).at (show j < m by omega)
          cases e3
          have hq := HLT.out j (by omega)
          obtain ⟨q, hqq⟩ : ∃ q, ns.getD j 0 = q := ⟨_, rfl⟩
          have HQ : Hid (ns.getD j 0 = q) := hqq
          rw [hqq] at cj hq
          clear hqq
          obtain ⟨b, off, hab, p0, p1, p2, p3, p4, p5, p6⟩ := (HV.out.below HBJ.out).at hp
          subst hab
          obtain ⟨b', off', e, q0, q1, q2, q3, q4, q5, q6⟩ := (HV.out.below HBJ.out).at hq
          cases e
          have hpi : (p : Int) < l := by omega
          have hp0 : 0 ≤ (p : Int) := by omega
          have hqi : (q : Int) < l := by omega
          have hq0 : 0 ≤ (q : Int) := by omega
          have hah := isAhead_any (ts.getD p H.noAc) (ts.getD q H.noAc) wr.drew
          have HNOA : Hid ((ts.getD p H.noAc).ahead (ts.getD q H.noAc) = true → R = false) := fun e => by rw [← HR.out]; exact H.keeps_no (i := i) (j := j) (by rw [HC.out]; exact him) hji (by rw [HP.out, HQ.out]; exact e)
          have HNXA : Hid ((ts.getD p H.noAc).ahead (ts.getD q H.noAc) = false → ∀ j', j' < j + 1 → (ts.getD p H.noAc).ahead (ts.getD (ns.getD j' 0) H.noAc) = false) := fun e j' hj' => by
            by_cases e2 : j' = j
            · subst e2; rw [HQ.out]; exact e
            · exact HAJ.out j' (by omega)
          obtain ⟨r, hr⟩ : ∃ r, (ts.getD p H.noAc).ahead (ts.getD q H.noAc) = r := ⟨_, rfl⟩
          rw [hr] at hah HNOA HNXA
          clear hr
          obtain ⟨x, hx⟩ : ∃ x, ts.getD p H.noAc = x := ⟨_, rfl⟩
          obtain ⟨z, hz⟩ : ∃ x, ts.getD q H.noAc = x := ⟨_, rfl⟩
          rw [hx] at p0 p1 p2 p3 p4 p5 p6 hah
          rw [hz] at q0 q1 q2 q3 q4 q5 q6 hah
          clear hx hz
          have HS : Hid ((wr.drew.cell? ⟨b, off + p * 7, none⟩ = some (.int .i64 x.th) ∧ wr.drew.cell? ⟨b, off + p * 7 + 1, none⟩ = some (.int .i64 x.dd) ∧ wr.drew.cell? ⟨b, off + p * 7 + 2, none⟩ = some (.string x.nm) ∧ wr.drew.cell? ⟨b, off + p * 7 + 3, none⟩ = some (.int .i64 x.arg) ∧ wr.drew.cell? ⟨b, off + p * 7 + 4, none⟩ = some (.int .i64 x.call) ∧ wr.drew.cell? ⟨b, off + p * 7 + 5, none⟩ = some (.int .i64 x.back) ∧ wr.drew.cell? ⟨b, off + p * 7 + 6, none⟩ = some (.int .i64 x.ans)) ∧ wr.drew.cell? ⟨b, off + q * 7, none⟩ = some (.int .i64 z.th) ∧ wr.drew.cell? ⟨b, off + q * 7 + 1, none⟩ = some (.int .i64 z.dd) ∧ wr.drew.cell? ⟨b, off + q * 7 + 2, none⟩ = some (.string z.nm) ∧ wr.drew.cell? ⟨b, off + q * 7 + 3, none⟩ = some (.int .i64 z.arg) ∧ wr.drew.cell? ⟨b, off + q * 7 + 4, none⟩ = some (.int .i64 z.call) ∧ wr.drew.cell? ⟨b, off + q * 7 + 5, none⟩ = some (.int .i64 z.back) ∧ wr.drew.cell? ⟨b, off + q * 7 + 6, none⟩ = some (.int .i64 z.ans)) := by
            simp only [World.cell?_drew]
            exact ⟨⟨p0, p1, p2, p3, p4, p5, p6⟩, q0, q1, q2, q3, q4, q5, q6⟩
          have HKEEP : Hid (∀ y, Below wr.drew.heap.size wr.drew y → (y.cell? ⟨b, off + p * 7, none⟩ = some (.int .i64 x.th) ∧ y.cell? ⟨b, off + p * 7 + 1, none⟩ = some (.int .i64 x.dd) ∧ y.cell? ⟨b, off + p * 7 + 2, none⟩ = some (.string x.nm) ∧ y.cell? ⟨b, off + p * 7 + 3, none⟩ = some (.int .i64 x.arg) ∧ y.cell? ⟨b, off + p * 7 + 4, none⟩ = some (.int .i64 x.call) ∧ y.cell? ⟨b, off + p * 7 + 5, none⟩ = some (.int .i64 x.back) ∧ y.cell? ⟨b, off + p * 7 + 6, none⟩ = some (.int .i64 x.ans)) ∧ y.cell? ⟨b, off + q * 7, none⟩ = some (.int .i64 z.th) ∧ y.cell? ⟨b, off + q * 7 + 1, none⟩ = some (.int .i64 z.dd) ∧ y.cell? ⟨b, off + q * 7 + 2, none⟩ = some (.string z.nm) ∧ y.cell? ⟨b, off + q * 7 + 3, none⟩ = some (.int .i64 z.arg) ∧ y.cell? ⟨b, off + q * 7 + 4, none⟩ = some (.int .i64 z.call) ∧ y.cell? ⟨b, off + q * 7 + 5, none⟩ = some (.int .i64 z.back) ∧ y.cell? ⟨b, off + q * 7 + 6, none⟩ = some (.int .i64 z.ans)) := fun y hy => by
            obtain ⟨⟨a0, a1, a2, a3, a4, a5, a6⟩, a9, a10, a11, a12, a13, a14, a15⟩ := HS.out
            exact ⟨⟨hcell_thru hy a0, hcell_thru hy a1, hcell_thru hy a2, hcell_thru hy a3, hcell_thru hy a4, hcell_thru hy a5, hcell_thru hy a6⟩, hcell_thru hy a9, hcell_thru hy a10, hcell_thru hy a11, hcell_thru hy a12, hcell_thru hy a13, hcell_thru hy a14, hcell_thru hy a15⟩
          clear p0 p1 p2 p3 p4 p5 p6 q0 q1 q2 q3 q4 q5 q6
          obtain ⟨th, dd, nm, arg, call, back, ans⟩ := x
          obtain ⟨th2, dd2, nm2, arg2, call2, back2, ans2⟩ := z
          unfold H.Ac.v at hah
          simp only at hah HS HKEEP
          go_wp2_with fail
          refine wp_region_held_drew (S := (fun w' : World => (w'.cell? ⟨b, off + p * 7, none⟩ = some (.int .i64 th) ∧ w'.cell? ⟨b, off + p * 7 + 1, none⟩ = some (.int .i64 dd) ∧ w'.cell? ⟨b, off + p * 7 + 2, none⟩ = some (.string nm) ∧ w'.cell? ⟨b, off + p * 7 + 3, none⟩ = some (.int .i64 arg) ∧ w'.cell? ⟨b, off + p * 7 + 4, none⟩ = some (.int .i64 call) ∧ w'.cell? ⟨b, off + p * 7 + 5, none⟩ = some (.int .i64 back) ∧ w'.cell? ⟨b, off + p * 7 + 6, none⟩ = some (.int .i64 ans)) ∧ w'.cell? ⟨b, off + q * 7, none⟩ = some (.int .i64 th2) ∧ w'.cell? ⟨b, off + q * 7 + 1, none⟩ = some (.int .i64 dd2) ∧ w'.cell? ⟨b, off + q * 7 + 2, none⟩ = some (.string nm2) ∧ w'.cell? ⟨b, off + q * 7 + 3, none⟩ = some (.int .i64 arg2) ∧ w'.cell? ⟨b, off + q * 7 + 4, none⟩ = some (.int .i64 call2) ∧ w'.cell? ⟨b, off + q * 7 + 5, none⟩ = some (.int .i64 back2) ∧ w'.cell? ⟨b, off + q * 7 + 6, none⟩ = some (.int .i64 ans2))) (by kernel_rfl) HS.out (fun hHeld => ?_)
          refine tk (i := 0) (v := ?_) (tA rfl) (by kernel_rfl) (fun _ _ _ h => h) (Or.inl ⟨by rfl, ?_⟩) (by assumption) ?_
          rotate_left
          · (intro w hSw; (try dsimp only at hSw); go_simp <;> with_reducible rfl)
          simp only [Act.put, List.setIfInBounds_toArray, List.set_cons_zero, List.set_cons_succ]
          refine tk (i := 1) (v := ?_) (tA rfl) (by kernel_rfl) (fun _ _ _ h => h) (Or.inl ⟨by rfl, ?_⟩) (by assumption) ?_
          rotate_left
          · (intro w hSw; (try dsimp only at hSw); go_simp <;> with_reducible rfl)
          simp only [Act.put, List.setIfInBounds_toArray, List.set_cons_zero, List.set_cons_succ]
          refine tk (i := 2) (v := ?_) (tA rfl) (by kernel_rfl) (fun _ _ _ h => h) (Or.inl ⟨by rfl, ?_⟩) (by assumption) ?_
          rotate_left
          · (intro w hSw; (try dsimp only at hSw); go_simp <;> with_reducible rfl)
          simp only [Act.put, List.setIfInBounds_toArray, List.set_cons_zero, List.set_cons_succ]
          refine tk (i := 3) (v := ?_) (tA rfl) (by kernel_rfl) (fun _ _ _ h => h) (Or.inl ⟨by rfl, ?_⟩) (by assumption) ?_
          rotate_left
          · (intro w hSw; (try dsimp only at hSw); go_simp <;> with_reducible rfl)
          simp only [Act.put, List.setIfInBounds_toArray, List.set_cons_zero, List.set_cons_succ]
          refine tk (i := 4) (v := ?_) (tA rfl) (by kernel_rfl) (fun _ _ _ h => h) (Or.inl ⟨by rfl, ?_⟩) (by assumption) ?_
          rotate_left
          · (intro w hSw; (try dsimp only at hSw); go_simp <;> with_reducible rfl)
          simp only [Act.put, List.setIfInBounds_toArray, List.set_cons_zero, List.set_cons_succ]
          refine tk (i := 5) (v := ?_) (tA rfl) (by kernel_rfl) (fun _ _ _ h => h) (Or.inl ⟨by rfl, ?_⟩) (by assumption) ?_
          rotate_left
          · (intro w hSw; (try dsimp only at hSw); go_simp <;> with_reducible rfl)
          simp only [Act.put, List.setIfInBounds_toArray, List.set_cons_zero, List.set_cons_succ]
          refine tk (i := 6) (v := ?_) (tA rfl) (by kernel_rfl) (fun _ _ _ h => h) (Or.inl ⟨by rfl, ?_⟩) (by assumption) ?_
          rotate_left
          · (intro w hSw; (try dsimp only at hSw); go_simp <;> with_reducible rfl)
          simp only [Act.put, List.setIfInBounds_toArray, List.set_cons_zero, List.set_cons_succ]
          refine tk (i := 7) (v := ?_) (tA rfl) (by kernel_rfl) (fun _ _ _ h => h) (Or.inl ⟨by rfl, ?_⟩) (by assumption) ?_
          rotate_left
          · (intro w hSw; (try dsimp only at hSw); go_simp <;> with_reducible rfl)
          simp only [Act.put, List.setIfInBounds_toArray, List.set_cons_zero, List.set_cons_succ]
          refine wpAnyH_ready (rs := [8]) (by kernel_rfl) (by simp) ?_
          refine AllReadyH.cons (tA rfl) (fun K hK => ?_) AllReadyH.nil
          go_simp
          refine hah.mono ?_
          rintro e y ⟨rfl, hy⟩
          have HY : Hid (Below wr.heap.size wr y) := (Below.refl _ _).drew.trans hy
          have HS2 : Hid _ := HKEEP.out y hy
          clear hy hah
          try go_wp2_with fail
          refine hK.out _ _ HS2.out (fun hHeld => ?_)
          clear hK K
          try simp only [Act.put, List.setIfInBounds_toArray, List.set_cons_zero, List.set_cons_succ]
          refine wpAnyH_done (by kernel_rfl) ?_ _
          clear hHeld
          cases r with
          | true =>
            have HRF := HNOA.out rfl
            subst HRF
            clear HNOA HNXA
            go_wp2_with fail
            go_ret
            exact ⟨rfl, HBJ.out.trans (HY.out.mono HBJ.out.size)⟩
          | false =>
            have HN2 : Hid _ := HNXA.out rfl
            clear HNOA HNXA
            go_wp2_with fail
            go_roundg (i - (j + 1))
            case measure => omega
            case rel => exact ⟨j + 1, rfl, by go_num, by omega, HN2, HBJ.out.trans (HY.out.mono HBJ.out.size)⟩
        · have hjj : j = i := by omega
          subst hjj
          have hji2 : ¬ (j : Int) < j := by omega
          have HN3 : Hid (∀ i', i' < j + 1 → ∀ j', j' < i' → (ts.getD (ns.getD i' 0) H.noAc).ahead (ts.getD (ns.getD j' 0) H.noAc) = false) := fun i' hi' j' hj' => by
            by_cases e : i' = j
            · subst e; rw [HP.out]; exact HAJ.out j' hj'
            · exact HAL.out i' (by omega) j' hj'
          go_wp2_with fail
          go_roundg (m - (j + 1))
          case measure => omega
          case rel => exact ⟨j + 1, rfl, by go_num, by omega, HN3, HBJ⟩
    · have hii2 : i = m := by omega
      subst hii2
      have hii : ¬ (i : Int) < i := by omega
      have HRT : R = true := by rw [← HR.out]; exact H.keeps_yes (fun i' hi' => HAL.out i' (by rw [HC.out] at hi'; exact hi'))
      subst HRT
      go_wp2_with fail
      go_ret
      exact ⟨rfl, HB.out⟩
end Go.Proofs.Ytafdjmccgijmnaa

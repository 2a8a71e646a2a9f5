/- What relocations ask for. -/
import Derived.Test.YtaoklmphcgigeaaLinkElem
import Derived.Test.YtaoklmphcgigeaaObjSmall
namespace Go.Proofs.Ytaoklmphcgigeaa
open Go.RowKit
set_option linter.unusedVariables false
set_option linter.unusedSimpArgs false

theorem ask_drop {ss : List Sym} {rs : List Rel} {k : Nat} (hk : k < rs.length) : L.ask ss (rs.drop k) = if L.askOne ss (rs.getD k noRel) = 0 then L.ask ss (rs.drop (k + 1)) else L.askOne ss (rs.getD k noRel) := by
  rw [List.drop_eq_getElem_cons hk]
  have : rs.getD k noRel = rs[k] := by simp [List.getD, hk]
  rw [this]
  rfl

set_option maxRecDepth 100000 in
set_option maxHeartbeats 4000000 in
theorem ask_any {w : World} {b bm : Nat} {ss : List Sym} {rs : List Rel} {a : Option Addr} {l c : Nat} (hm : w.cell? ⟨b, 5, none⟩ = some (.map (some bm))) (hN : NM w bm ss) (hR : RelsV w a l c rs) (hl : l < 9223372036854775807) :
    Calls Try.prog 34 #[.pointer (some ⟨b, 0, none⟩), .slice a l c] w fun e w' => e = .returned (.int .i64 (L.ask ss rs)) ∧ Below w.heap.size w w' := by
  have HR : Hid _ := hR
  have HN : Hid _ := hN
  have hcnt := hR.count
  clear hR hN
  go_enter Try.func34, Try.ntmps34
  go_wp2_with fail
  go_loopg [4, 11] l (fun r ev iv wq => ∃ (k : Nat), iv = .int .i64 k ∧ k ≤ l ∧ l - k ≤ r ∧ Hid (L.ask ss rs = L.ask ss (rs.drop k)) ∧ Hid (Below w.heap.size w wq))
  case atStart => exact ⟨0, rfl, Nat.zero_le _, by omega, (by simp : L.ask ss rs = L.ask ss (rs.drop 0)), Below.refl _ _⟩
  case round =>
    obtain ⟨k, rfl, hk, hr, HA, HB⟩ := hrel
    by_cases hlt : k < l
    · rcases HR.out.cells with h0 | ⟨rb, off, hA, hc⟩
      · omega
      obtain ⟨k0, k1, k2, k3⟩ := hc k hlt
      have hbl : rb < w.heap.size := World.block_lt_of_cell? w ⟨rb, off + k * 4, none⟩ k0
      have q0 := (HB.out.cell (p := ⟨rb, off + k * 4, none⟩) hbl).trans k0
      have q1 := (HB.out.cell (p := ⟨rb, off + k * 4 + 1, none⟩) hbl).trans k1
      have q2 := (HB.out.cell (p := ⟨rb, off + k * 4 + 2, none⟩) hbl).trans k2
      have q3 := (HB.out.cell (p := ⟨rb, off + k * 4 + 3, none⟩) hbl).trans k3
      have hfit := (HR.out.fits (rs.getD k noRel) (by simp [List.getD, show k < rs.length by omega])).1
      have HD : Hid _ := ask_drop (ss := ss) (rs := rs) (k := k) (by omega)
      have m5 := cell_thru HB.out hm
      generalize rs.getD k noRel = y at *
      obtain ⟨py, ky, ny, ay⟩ := y
      subst hA
      have hin : 0 ≤ (k : Int) := by omega
      have hii : (k : Int) < l := by omega
      clear hc k0 k1 k2 k3 hm
      simp only at q0 q1 q2 q3 hfit
      obtain ⟨Y1, hY1⟩ : ∃ Y1, wr.alloc (.cells #[.int .i64 py, .int .i64 ky, .string ny, .int .i64 ay] 45) = Y1 := ⟨_, rfl⟩
      have bY : Below wr.heap.size wr Y1 := by subst hY1; exact bl_one _ _
      have sY1 : Y1.heap.size = wr.heap.size + 1 := by subst hY1; simp
      have g1 : Y1.cell? ⟨wr.heap.size, 1, none⟩ = some (.int .i64 ky) := by subst hY1; exact cell_last rfl rfl
      have g2 : Y1.cell? ⟨wr.heap.size, 2, none⟩ = some (.string ny) := by subst hY1; exact cell_last rfl rfl
      have m5 := cell_thru bY m5
      have hN1 : NM Y1 bm ss := (HN.out.below HB.out).below bY
      have bZ : ∀ o : Obj, Below Y1.heap.size Y1 (Y1.alloc o).drew := fun o => (bl_one _ _).drew
      have hbY1 : b < Y1.heap.size := World.block_lt_of_cell? Y1 ⟨b, 5, none⟩ m5
      have hlk := (hN1.below (Below.refl _ _).drew).look ny hfit
      have hlk2 := fun o => (hN1.below (bZ o)).look ny hfit
      have bF : ∀ o : Obj, Below w.heap.size w (Y1.alloc o).drew := fun o => (HB.out.trans (bY.mono HB.out.size)).trans ((bZ o).mono (Nat.le_trans HB.out.size bY.size))
      clear hN1 bZ
      have z5 : ∀ o : Obj, (Y1.alloc o).cell? ⟨b, 5, none⟩ = some (.map (some bm)) := fun o => cell_thru (bl_one Y1 o) m5
      have z2 : ∀ o : Obj, (Y1.alloc o).cell? ⟨wr.heap.size, 2, none⟩ = some (.string ny) := fun o => cell_thru (bl_one Y1 o) g2
      have z1 : ∀ o : Obj, (Y1.alloc o).cell? ⟨wr.heap.size, 1, none⟩ = some (.int .i64 ky) := fun o => cell_thru (bl_one Y1 o) g1
      have HK : Hid (∀ r : Int, (match L.look ss ny with | none => 6 | some s => if decide (ky = 2) = decide (s.kind = 2) then (0 : Int) else 3) = r → L.ask ss rs = if r = 0 then L.ask ss (rs.drop (k + 1)) else r) := fun r hr => by
        rw [HA.out, HD.out]
        subst hr
        rfl
      have HLK : Hid (∃ ok : Bool, ∃ sn sk sp, (L.look ss ny).isSome = ok ∧ (L.look ss ny).getD noSym = ⟨sn, sk, sp⟩) := ⟨_, _, _, _, rfl, rfl⟩
      obtain ⟨ok, sn, sk, sp, hok, hg⟩ := HLK.out
      rw [hok, hg] at hlk
      simp only [hok, hg] at hlk2
      unfold symV at hlk hlk2
      simp only at hlk hlk2
      clear HA HD
      cases ok with
      | false =>
        have hno : L.look ss ny = none := by simpa using hok
        have HE : Hid (L.ask ss rs = 6) := by have := HK.out 6 (by rw [hno]); show _ = _; simpa using this
        clear hok hg hno
        go_wp2_with fail
        go_region
        go_wp2
        go_ret
        exact ⟨by rw [HE.out]; rfl, bF _⟩
      | true =>
        have HS : Hid (L.look ss ny = some ⟨sn, sk, sp⟩) := by
          show _ = _
          cases e : L.look ss ny with
          | none => rw [e] at hok; cases hok
          | some s => rw [e] at hg; simpa using hg
        clear hok hg
        rcases Classical.em (ky = 2) with h1 | h1 <;> rcases Classical.em (sk = 2) with h2 | h2
        · have HE : Hid (L.ask ss rs = L.ask ss (rs.drop (k + 1))) := by have := HK.out 0 (by rw [HS.out]; simp [h1, h2]); show _ = _; simpa using this
          have d1 : (ky == 2) = true := by simpa using h1
          have d2 : (sk == 2) = true := by simpa using h2
          clear HK HS HLK h1 h2
          go_wp2_with fail
          go_region
          go_wp2_with fail
          go_roundg (l - (k + 1))
          case measure => omega
          case rel => exact ⟨k + 1, by go_num, by omega, Nat.le_refl _, HE.out, bF _⟩
        · have HE : Hid (L.ask ss rs = 3) := by have := HK.out 3 (by rw [HS.out]; simp [h1, h2]); show _ = _; simpa using this
          have d1 : (ky == 2) = true := by simpa using h1
          have d2 : (sk == 2) = false := by simpa using h2
          clear HK HS HLK h1 h2
          go_wp2_with fail
          go_region
          go_wp2
          go_ret
          exact ⟨by rw [HE.out]; rfl, bF _⟩
        · have HE : Hid (L.ask ss rs = 3) := by have := HK.out 3 (by rw [HS.out]; simp [h1, h2]); show _ = _; simpa using this
          have d1 : (ky == 2) = false := by simpa using h1
          have d2 : (sk == 2) = true := by simpa using h2
          clear HK HS HLK h1 h2
          go_wp2_with fail
          go_region
          go_wp2
          go_ret
          exact ⟨by rw [HE.out]; rfl, bF _⟩
        · have HE : Hid (L.ask ss rs = L.ask ss (rs.drop (k + 1))) := by have := HK.out 0 (by rw [HS.out]; simp [h1, h2]); show _ = _; simpa using this
          have d1 : (ky == 2) = false := by simpa using h1
          have d2 : (sk == 2) = false := by simpa using h2
          clear HK HS HLK h1 h2
          go_wp2_with fail
          go_region
          go_wp2_with fail
          go_roundg (l - (k + 1))
          case measure => omega
          case rel => exact ⟨k + 1, by go_num, by omega, Nat.le_refl _, HE.out, bF _⟩
    · obtain rfl : k = l := by omega
      have hfull : rs.drop k = [] := by rw [← hcnt]; simp
      have HF : Hid (L.ask ss rs = 0) := by have := HA.out; rw [hfull] at this; exact this
      have hii : ¬ (k : Int) < k := by omega
      go_wp2
      go_ret
      exact ⟨by rw [HF.out]; rfl, HB.out⟩
end Go.Proofs.Ytaoklmphcgigeaa

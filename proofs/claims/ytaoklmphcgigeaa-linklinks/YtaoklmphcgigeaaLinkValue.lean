/- What a place is filled with. -/
import Derived.Test.YtaoklmphcgigeaaLinkElem
import Derived.Test.YtaoklmphcgigeaaObjSmall
namespace Go.Proofs.Ytaoklmphcgigeaa
open Go.RowKit
set_option linter.unusedVariables false
set_option linter.unusedSimpArgs false

set_option maxRecDepth 100000 in
set_option maxHeartbeats 4000000 in
theorem value_any {w : World} {b bm : Nat} {ss : List Sym} (hm : w.cell? ⟨b, 5, none⟩ = some (.map (some bm))) (hN : NM w bm ss) (z : L.Sz) (r : Rel) (hn : r.name.size ≤ maxLen) (ha : -2147483648 ≤ r.add ∧ r.add ≤ 2147483647) (hz : 0 ≤ r.pos ∧ (z.b : Int) + r.pos ≤ 4294967296)
    (hp : 0 ≤ ((L.look ss r.name).getD noSym).pos ∧ ((L.look ss r.name).getD noSym).pos ≤ 4294967296) :
    Calls Try.prog 42 #[.pointer (some ⟨b, 0, none⟩), .agg #[.int .i64 r.pos, .int .i64 r.kind, .string r.name, .int .i64 r.add], .int .i64 (z.b + r.pos)] w fun e w' =>
      e = .returned (.tuple #[.int .i64 (L.value ss z r), .bool (L.valueOk ss z r)]) ∧ Below w.heap.size w w' := by
  obtain ⟨py, ky, ny, ay⟩ := r
  simp only at *
  obtain ⟨Y1, hY1⟩ : ∃ Y1, w.alloc (.cells #[.int .i64 py, .int .i64 ky, .string ny, .int .i64 ay] 45) = Y1 := ⟨_, rfl⟩
  have bY : Below w.heap.size w Y1 := by subst hY1; exact bl_one _ _
  have g1 : Y1.cell? ⟨w.heap.size, 1, none⟩ = some (.int .i64 ky) := by subst hY1; exact cell_last rfl rfl
  have g2 : Y1.cell? ⟨w.heap.size, 2, none⟩ = some (.string ny) := by subst hY1; exact cell_last rfl rfl
  have g3 : Y1.cell? ⟨w.heap.size, 3, none⟩ = some (.int .i64 ay) := by subst hY1; exact cell_last rfl rfl
  have m5 := cell_thru bY hm
  have hlk := (hN.below bY.drew).look1 ny hn
  have HV : Hid (∀ p : Int, ((L.look ss ny).getD noSym).pos = p → L.value ss z ⟨py, ky, ny, ay⟩ = (if ky = 1 then p - (z.b + py + 4) else 1048576 + 8 * p + ay) ∧ L.valueOk ss z ⟨py, ky, ny, ay⟩ = (if ky = 1 then true else decide (0 ≤ 1048576 + 8 * p + ay) && decide (1048576 + 8 * p + ay ≤ 2147483647))) := fun p hp => by
    subst hp
    unfold L.valueOk L.value
    by_cases h : ky = 1
    · simp [h]
    · simp [h]
  unfold symV at hlk
  have HV' : Hid _ := HV.out _ rfl
  generalize (L.look ss ny).getD noSym = s at *
  obtain ⟨sn, sk, sp⟩ := s
  simp only at hlk hp HV'
  obtain ⟨at', hat⟩ : ∃ at' : Int, (z.b : Int) + py = at' := ⟨_, rfl⟩
  rw [hat] at hz HV'
  rw [hat]
  have hat0 : 0 ≤ at' := by omega
  have hfd : ∀ W : World, (Instr.field 36 (.agg #[.string sn, .int .i64 sk, .int .i64 sp]) 2).run Try.prog W = .ok (.int .i64 sp) W := fun W => by kernel_rfl
  clear HV hN hm
  by_cases hk : ky = 1
  · have HW := HV'.out
    rw [if_pos hk, if_pos hk] at HW
    have HX : Hid _ := HW
    have hd : (ky == 1) = true := by simpa using hk
    clear HW HV' hk
    go_enter Try.func42, Try.ntmps42
    go_wp2_with fail
    go_region
    go_wp2
    go_ret2
    exact ⟨by rw [HX.out.1, HX.out.2]; rfl, bY.drew⟩
  · have HW := HV'.out
    rw [if_neg hk, if_neg hk] at HW
    have HX : Hid _ := HW
    have hd : (ky == 1) = false := by simpa using hk
    clear HW HV' hk
    obtain ⟨ad, had⟩ : ∃ ad : Int, 1048576 + 8 * sp + ay = ad := ⟨_, rfl⟩
    rw [had] at HX
    go_enter Try.func42, Try.ntmps42
    go_wp2_with fail
    go_region
    go_wp2
    · go_ret2
      refine ⟨?_, bY.drew⟩
      rw [HX.out.1, HX.out.2, show decide (0 ≤ ad) = true from by simp; omega, Bool.true_and]
      rfl
    · go_ret2
      refine ⟨?_, bY.drew⟩
      rw [HX.out.1, HX.out.2, show decide (0 ≤ ad) = false from by simp; omega, Bool.false_and]
      rfl
end Go.Proofs.Ytaoklmphcgigeaa

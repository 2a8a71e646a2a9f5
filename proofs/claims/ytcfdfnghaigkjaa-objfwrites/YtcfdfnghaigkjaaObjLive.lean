/- What the law package's live and small come to. -/
import Derived.Test.YtcfdfnghaigkjaaObjLawMath
namespace Go.Proofs.Ytcfdfnghaigkjaa
open Go.RowKit Go.Maps Go.Lib
set_option linter.unusedVariables false

def oNil : ObjD := ⟨.empty, [], [], []⟩
def oLive : ObjD := ⟨⟨#[97, 98, 99, 100, 101]⟩, [-1], [⟨⟨#[102]⟩, 1, 4⟩], [⟨1, 1, ⟨#[103]⟩, 0⟩]⟩
theorem nil_may : oNil.may = true := by decide
theorem live_may : oLive.may = true := by decide
theorem nil_in : ObjIn oNil := may_in nil_may (by simp [oNil]) (by simp [oNil])
theorem live_in : ObjIn oLive := may_in live_may (by simp [oLive]; decide) (by simp [oLive]; decide)
theorem nil_wr : wrB oNil = ⟨#[67, 79, 84, 49, 0, 0, 0, 0]⟩ := by decide
theorem cot_rd : rdObj cot1 = none := by decide
theorem nilV (w : World) : ObjV w noObjV oNil :=
  ⟨⟨none, 0, 0, none, 0, 0, none, 0, 0, rfl, by decide, ⟨rfl, by simp [oNil], fun _ => ⟨rfl, rfl⟩, .inl rfl⟩, ⟨rfl, by simp [oNil], fun _ => ⟨rfl, rfl⟩, .inl rfl⟩, ⟨rfl, by simp [oNil], fun _ => ⟨rfl, rfl⟩, .inl rfl⟩⟩⟩

set_option maxRecDepth 100000 in
set_option maxHeartbeats 4000000 in
theorem live_any (w : World) : Calls Try.prog 9 #[] w fun e w' => e = .returned (.bool true) ∧ Below w.heap.size w w' := by
  go_enter Try.func9, Try.ntmps9
  go_wp2_with fail
  refine (write_any (nilV w)).mono ?_
  rintro e w1 ⟨rfl, hb1⟩
  rw [nil_may, if_pos rfl, if_pos rfl, show strOfNums (formB oNil) = _ from nil_wr]
  go_wp2_with fail
  refine (read_any cot1 (by decide) w1).mono ?_
  rintro e w2 ⟨⟨o, ho, -⟩ | ⟨-, rfl⟩, hb2⟩
  · rw [cot_rd] at ho; cases ho
  have hbw2 : Below w.heap.size w w2 := hb1.trans (hb2.mono hb1.size)
  unfold noObjV
  go_wp2_with fail
  obtain ⟨A1, hA1⟩ : ∃ x, w2.alloc (.cells #[.string { data := #[] }, .slice none 0 0, .slice none 0 0, .slice none 0 0] 26) = x := ⟨_, rfl⟩
  obtain ⟨A2, hA2⟩ : ∃ x, A1.alloc (.cells #[.int .i64 (-1)] 2) = x := ⟨_, rfl⟩
  obtain ⟨A3, hA3⟩ : ∃ x, A2.alloc (.cells #[.string { data := #[102] }, .int .i64 1, .int .i64 4] 41) = x := ⟨_, rfl⟩
  obtain ⟨A4, hA4⟩ : ∃ x, A3.alloc (.cells #[.int .i64 1, .int .i64 1, .string { data := #[103] }, .int .i64 0] 43) = x := ⟨_, rfl⟩
  obtain ⟨A5, hA5⟩ : ∃ x, A4.alloc (.cells #[.string { data := #[97, 98, 99, 100, 101] }, .slice (some ⟨w2.heap.size + 1, 0, none⟩) 1 1, .slice (some ⟨w2.heap.size + 1 + 1, 0, none⟩) 1 1, .slice (some ⟨w2.heap.size + 1 + 1 + 1, 0, none⟩) 1 1] 26) = x := ⟨_, rfl⟩
  rw [hA1, hA2, hA3, hA4, hA5]
  have s1 : A1.heap.size = w2.heap.size + 1 := by subst hA1; simp
  have s2 : A2.heap.size = w2.heap.size + 1 + 1 := by subst hA2; simp; omega
  have s3 : A3.heap.size = w2.heap.size + 1 + 1 + 1 := by subst hA3; simp; omega
  have s4 : A4.heap.size = w2.heap.size + 1 + 1 + 1 + 1 := by subst hA4; simp; omega
  have c1 : Below w2.heap.size w2 A1 := by subst hA1; exact bl_one _ _
  have c2 : Below A1.heap.size A1 A2 := by subst hA2; exact bl_one _ _
  have c3 : Below A2.heap.size A2 A3 := by subst hA3; exact bl_one _ _
  have c4 : Below A3.heap.size A3 A4 := by subst hA4; exact bl_one _ _
  have c5 : Below A4.heap.size A4 A5 := by subst hA5; exact bl_one _ _
  have HBA : Hid (Below w.heap.size w A5) := ((((hbw2.trans (c1.mono hbw2.size)).trans (c2.mono (by have := hbw2.size; omega))).trans (c3.mono (by have := hbw2.size; omega))).trans (c4.mono (by have := hbw2.size; omega))).trans (c5.mono (by have := hbw2.size; omega))
  have d1 : A5.cell? ⟨w2.heap.size + 1, 0, none⟩ = some (.int .i64 (-1)) := cell_thru c5 (cell_thru c4 (cell_thru c3 (by subst hA2; exact cell_last s1.symm rfl)))
  have d2 : ∀ j u, ([.string { data := #[102] }, .int .i64 1, .int .i64 4] : List Value)[j]? = some u → A5.cell? ⟨w2.heap.size + 1 + 1, j, none⟩ = some u := fun j u hu => cell_thru c5 (cell_thru c4 (by subst hA3; exact cell_last s2.symm (by simpa using hu)))
  have d3 : ∀ j u, ([.int .i64 1, .int .i64 1, .string { data := #[103] }, .int .i64 0] : List Value)[j]? = some u → A5.cell? ⟨w2.heap.size + 1 + 1 + 1, j, none⟩ = some u := fun j u hu => cell_thru c5 (by subst hA4; exact cell_last s3.symm (by simpa using hu))
  have HO : Hid (∀ j u, ([.string { data := #[97, 98, 99, 100, 101] }, .slice (some ⟨w2.heap.size + 1, 0, none⟩) 1 1, .slice (some ⟨w2.heap.size + 1 + 1, 0, none⟩) 1 1, .slice (some ⟨w2.heap.size + 1 + 1 + 1, 0, none⟩) 1 1] : List Value)[j]? = some u → A5.cell? ⟨w2.heap.size + 1 + 1 + 1 + 1, j, none⟩ = some u) := fun j u hu => by subst hA5; exact cell_last s4.symm (by simpa using hu)
  have one : ∀ {i : Nat}, i < 1 → i = 0 := fun h => by omega
  have HV : Hid (ObjV A5 (.agg #[.string { data := #[97, 98, 99, 100, 101] }, .slice (some ⟨w2.heap.size + 1, 0, none⟩) 1 1, .slice (some ⟨w2.heap.size + 1 + 1, 0, none⟩) 1 1, .slice (some ⟨w2.heap.size + 1 + 1 + 1, 0, none⟩) 1 1]) oLive) := by
    refine ⟨⟨_, _, _, _, _, _, _, _, _, rfl, by decide, ⟨rfl, by simp [oLive]; decide, fun e => (by cases e), .inr ⟨_, _, rfl, fun i hi => ?_⟩⟩, ⟨rfl, by simp [oLive]; decide, fun e => (by cases e), .inr ⟨_, _, rfl, fun i hi => ?_⟩⟩, ⟨rfl, by simp [oLive]; decide, fun e => (by cases e), .inr ⟨_, _, rfl, fun i hi => ?_⟩⟩⟩⟩
    · obtain rfl := one hi; exact d1
    · obtain rfl := one hi; exact ⟨d2 0 _ rfl, d2 1 _ rfl, d2 2 _ rfl⟩
    · obtain rfl := one hi; exact ⟨d3 0 _ rfl, d3 1 _ rfl, d3 2 _ rfl, d3 3 _ rfl⟩
  generalize w2.heap.size + 1 + 1 + 1 + 1 = zo at *
  clear c1 c2 c3 c4 c5 d1 d2 d3 s1 s2 s3 s4 hA1 hA2 hA3 hA4 hA5 one hbw2 hb1 hb2
  refine (write_any HV.out).mono ?_
  rintro e w3 ⟨rfl, hb3⟩
  rw [live_may, if_pos rfl, if_pos rfl]
  obtain ⟨t, ht⟩ : ∃ t, strOfNums (formB oLive) = t := ⟨_, rfl⟩
  rw [ht]
  have htz : t.size ≤ maxLen := by have := wr_size live_in; unfold wrB at this; rw [ht] at this; unfold maxLen; omega
  have HRD : Hid (rdObj t = some oLive) := by show _ = _; rw [← ht]; exact rd_wr live_in live_may
  clear ht
  have HV3 : Hid _ := HV.out.below hb3
  have HO3 : Hid (∀ j u, ([.string { data := #[97, 98, 99, 100, 101] }, .slice (some ⟨w2.heap.size + 1, 0, none⟩) 1 1, .slice (some ⟨w2.heap.size + 1 + 1, 0, none⟩) 1 1, .slice (some ⟨w2.heap.size + 1 + 1 + 1, 0, none⟩) 1 1] : List Value)[j]? = some u → w3.cell? ⟨zo, j, none⟩ = some u) := fun j u hu => cell_thru hb3 (HO.out j u hu)
  have HB3 : Hid (Below w.heap.size w w3) := HBA.out.trans (hb3.mono HBA.out.size)
  clear hb3 HV HO HBA
  go_wp2_with fail
  refine (read_any t htz w3).mono ?_
  rintro e w4 ⟨⟨p, hp, v, rfl, hF⟩ | ⟨hp, rfl⟩, hb4⟩
  rotate_left
  · rw [HRD.out] at hp; cases hp
  obtain rfl : oLive = p := by rw [HRD.out] at hp; exact Option.some.inj hp
  obtain ⟨v1, v2, v3, rfl, o1, o2, o3⟩ := hF.form
  obtain ⟨a1, c1, rfl⟩ := own_slice o1
  obtain ⟨a2, c2, rfl⟩ := own_slice o2
  obtain ⟨a3, c3, rfl⟩ := own_slice o3
  have HV4 : Hid _ := HV3.out.below hb4
  have HP4 : Hid _ := hF.toV
  have HB4 : Hid (Below w.heap.size w w4) := HB3.out.trans (hb4.mono HB3.out.size)
  have q0 := cell_thru hb4 (HO3.out 0 _ rfl)
  have q1 := cell_thru hb4 (HO3.out 1 _ rfl)
  have q2 := cell_thru hb4 (HO3.out 2 _ rfl)
  have q3 := cell_thru hb4 (HO3.out 3 _ rfl)
  have hzo := World.block_lt_of_cell? w4 ⟨zo, 0, none⟩ q0
  clear hb4 hF o1 o2 o3 hp HRD HV3 HO3 HB3 htz
  go_wp2_with fail
  refine (same_any (HV4.out.below (bl_one _ _)) (HP4.out.below (bl_one _ _)) (by decide) (by decide) (by decide) true (by simp)).mono ?_
  rintro e w5 ⟨rfl, hb5⟩
  have HB5 : Hid (Below w.heap.size w w5) := (HB4.out.trans ((bl_one w4 (.cells #[.string oLive.code, .slice a1 oLive.data.length c1, .slice a2 oLive.syms.length c2, .slice a3 oLive.rels.length c3] 26)).mono HB4.out.size)).trans (hb5.mono (by have := HB4.out.size; simp; omega))
  clear hb5
  go_wp2
  go_ret
  exact ⟨rfl, HB5.out⟩

end Go.Proofs.Ytcfdfnghaigkjaa

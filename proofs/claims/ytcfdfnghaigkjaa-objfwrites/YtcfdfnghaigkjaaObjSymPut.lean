/- What put.Sym and putReloc come to. -/
import Derived.Test.YtcfdfnghaigkjaaObjPut
namespace Go.Proofs.Ytcfdfnghaigkjaa
open Go.RowKit Go.Maps Go.Lib
set_option linter.unusedVariables false

theorem one_cell (w : World) (u : Value) {g : Nat} (hg : g = w.heap.size) : ∀ j x, ([u] : List Value)[j]? = some x → (w.alloc (.cells #[u] 5)).cell? ((⟨g, 0, none⟩ : Addr).add j) = some x := by
  subst hg
  intro j x hx
  rw [Addr.add_lit]
  simp
  exact hx
theorem gr_lies {w w2 w' : World} {v : Value} {g n c : Nat} (hb : Below w.heap.size w w2) (hg : w2.grownBy w' v.ownBlock) (hat : v.ownBlock = some g ∨ g = w2.heap.size) : Gr w w' v (.slice (some ⟨g, 0, none⟩) n c) := by
  refine (Gr.below v hb).trans ⟨hg, fun x hx => ?_⟩
  have : x = g := by simpa [Value.ownBlock] using hx.symm
  subst this
  rcases hat with h | h
  · exact .inl h
  · exact .inr (by omega)

set_option maxRecDepth 100000 in
set_option maxHeartbeats 2000000 in
theorem symput_any {w : World} {B : Nat} {v : Value} {xs : List Int} (ho : RowB w B v xs) (hB : B ≤ w.heap.size) (nm : ByteArray) (kd ps : Int) (hn : nm.size ≤ 1000) (hk0 : 0 ≤ kd) (hk1 : kd ≤ 255) (hp0 : 0 ≤ ps) (hp1 : ps ≤ 9223372036854775807) (hm : xs.length ≤ 100000000) :
    Calls Try.prog 39 #[v, .agg #[.string nm, .int .i64 kd, .int .i64 ps]] w fun e w' => ∃ v', e = .returned v' ∧ RowB w' B v' (xs ++ symB ⟨nm, kd, ps⟩) ∧ Gr w w' v v' := by
  obtain ⟨i0, hi, hz0, hz1, hz2⟩ := info_parts infoB
  obtain ⟨W1, hW1⟩ : ∃ W1, w.alloc (.cells #[.string nm, .int .i64 kd, .int .i64 ps] 41) = W1 := ⟨_, rfl⟩
  have b1 : Below w.heap.size w W1 := by subst hW1; exact bl_one _ _
  have v0 : W1.cell? ⟨w.heap.size, 0, none⟩ = some (.string nm) := by subst hW1; exact cell_last rfl rfl
  have v1 : W1.cell? ⟨w.heap.size, 1, none⟩ = some (.int .i64 kd) := by subst hW1; exact cell_last rfl rfl
  have v2 : W1.cell? ⟨w.heap.size, 2, none⟩ = some (.int .i64 ps) := by subst hW1; exact cell_last rfl rfl
  have HNE : Hid (v.ownBlock ≠ some w.heap.size) := fun e => by have := (ho.lt _ e).2; omega
  have HO : Hid (RowB W1 B v xs) := own_kept ho b1
  have G0 : Hid (Gr w W1 v v) := Gr.below v b1
  have hB1 : B ≤ W1.heap.size := Nat.le_trans hB b1.size
  have z1 : w.heap.size < W1.heap.size := by subst hW1; simp
  have hpl := W.put_length (nm.size : Int)
  have hnl := nums_len nm
  have hkd : kd % 256 = kd := by omega
  clear ho b1
  go_enter Try.func39, Try.ntmps39
  go_wp2_with fail
  refine (text_any HO.out hB1 nm (by omega) (by omega)).mono ?_
  rintro e w2 ⟨u, rfl, ho2, g2⟩
  have c1 := g2.cell v1 HNE.out
  have c2 := g2.cell v2 HNE.out
  obtain ⟨ys, hys⟩ : ∃ ys, ys = xs ++ txt nm := ⟨_, rfl⟩
  rw [← hys] at ho2
  have HO2 : Hid (RowB w2 B u ys) := ho2
  have hB2 : B ≤ w2.heap.size := Nat.le_trans hB1 g2.grown.size
  have hl2 : ys.length ≤ 100001010 := by rw [hys]; simp only [txt, List.length_append]; omega
  have z2 : w.heap.size < w2.heap.size := Nat.lt_of_lt_of_le z1 g2.grown.size
  have HNU : Hid (u.ownBlock ≠ some w.heap.size) := fun e => by
    rcases g2.lies _ e with h | h
    · exact HNE.out h
    · omega
  have G2 : Hid (Gr w w2 v u) := G0.out.trans g2
  have HYS : Hid _ := hys
  clear ho2 g2 hys
  go_wp2_with (first | (at_builtin; refine wpList_append_lies _ rfl _ _ 44 rfl B 5 i0 (.int .u8 0) 1 1 Try.underlying44 hi hz0 hz1 hz2 rfl (by decide) u ys.length _ rfl (HO2.out.alloc _) ⟨w2.heap.size, 0, none⟩ 1 1 [.int .u8 kd] rfl rfl (one_cell _ _ rfl) (by intro y hy; simp at hy; subst hy; rfl) (by decide) (by unfold maxLen; omega) (by omega) (by simp; omega) (w2.heap.size + 1) (by simp) ?_) | go_in)
  intro g cap w3 ho3 hg3 hat3 hlt3
  have G3 : Gr w2 w3 u (.slice (some ⟨g, 0, none⟩) (ys.length + 1) cap) := gr_lies (bl_one w2 _) hg3 (by simpa using hat3)
  have d2 := G3.cell c2 HNU.out
  have HO3 : Hid (RowB w3 B (.slice (some ⟨g, 0, none⟩) (ys.length + 1) cap) (ys ++ [kd])) := row_is ho3 (by simp)
  have hB3 : B ≤ w3.heap.size := Nat.le_trans hB2 G3.grown.size
  have hl3 : (ys ++ [kd]).length ≤ 100001020 := by rw [List.length_append]; simp only [List.length_cons, List.length_nil]; omega
  have GG3 : Hid (Gr w w3 v (.slice (some ⟨g, 0, none⟩) (ys.length + 1) cap)) := G2.out.trans G3
  clear ho3 hg3 hat3 hlt3 G3 c1 c2
  go_wp2_with fail
  refine (number_any' HO3.out hB3 ps hp0 hp1 (by omega)).mono ?_
  rintro e w4 ⟨u4, rfl, ho4, g4⟩
  have HO4 : Hid (RowB w4 B u4 (xs ++ symB ⟨nm, kd, ps⟩)) := by
    have e : xs ++ symB ⟨nm, kd, ps⟩ = ys ++ [kd] ++ W.put ps := by rw [HYS.out]; simp [symB]
    show RowB _ _ _ _
    rw [e]
    exact ho4
  have G4 : Hid (Gr w w4 v u4) := GG3.out.trans g4
  clear ho4 g4 d2
  go_wp2
  go_ret
  exact ⟨_, rfl, HO4.out, G4.out⟩

set_option maxRecDepth 100000 in
set_option maxHeartbeats 2000000 in
theorem relput_any {w : World} {B : Nat} {v : Value} {xs : List Int} (ho : RowB w B v xs) (hB : B ≤ w.heap.size) (ps kd : Int) (nm : ByteArray) (ad : Int) (hn : nm.size ≤ 1000) (hk0 : 0 ≤ kd) (hk1 : kd ≤ 255) (hp0 : 0 ≤ ps) (hp1 : ps ≤ 9223372036854775807) (had : (Lit.int .i64 ad).wf = true) (hm : xs.length ≤ 100000000) :
    Calls Try.prog 41 #[v, .agg #[.int .i64 ps, .int .i64 kd, .string nm, .int .i64 ad]] w fun e w' => ∃ v', e = .returned v' ∧ RowB w' B v' (xs ++ relB ⟨ps, kd, nm, ad⟩) ∧ Gr w w' v v' := by
  obtain ⟨i0, hi, hz0, hz1, hz2⟩ := info_parts infoB
  obtain ⟨W1, hW1⟩ : ∃ W1, w.alloc (.cells #[.int .i64 ps, .int .i64 kd, .string nm, .int .i64 ad] 43) = W1 := ⟨_, rfl⟩
  have b1 : Below w.heap.size w W1 := by subst hW1; exact bl_one _ _
  have v0 : W1.cell? ⟨w.heap.size, 0, none⟩ = some (.int .i64 ps) := by subst hW1; exact cell_last rfl rfl
  have v1 : W1.cell? ⟨w.heap.size, 1, none⟩ = some (.int .i64 kd) := by subst hW1; exact cell_last rfl rfl
  have v2 : W1.cell? ⟨w.heap.size, 2, none⟩ = some (.string nm) := by subst hW1; exact cell_last rfl rfl
  have v3 : W1.cell? ⟨w.heap.size, 3, none⟩ = some (.int .i64 ad) := by subst hW1; exact cell_last rfl rfl
  have HNE : Hid (v.ownBlock ≠ some w.heap.size) := fun e => by have := (ho.lt _ e).2; omega
  have HO : Hid (RowB W1 B v xs) := own_kept ho b1
  have G0 : Hid (Gr w W1 v v) := Gr.below v b1
  have hB1 : B ≤ W1.heap.size := Nat.le_trans hB b1.size
  have z1 : w.heap.size < W1.heap.size := by subst hW1; simp
  have hpl := W.put_length ps
  have hql := W.put_length (nm.size : Int)
  have hnl := nums_len nm
  have hkd : kd % 256 = kd := by omega
  have HAD : Hid _ := had
  clear ho b1 had
  go_enter Try.func41, Try.ntmps41
  go_wp2_with fail
  refine (number_any' HO.out hB1 ps hp0 hp1 (by omega)).mono ?_
  rintro e w2 ⟨u, rfl, ho2, g2⟩
  have c1 := g2.cell v1 HNE.out
  have c2 := g2.cell v2 HNE.out
  have c3 := g2.cell v3 HNE.out
  obtain ⟨ys, hys⟩ : ∃ ys, ys = xs ++ W.put ps := ⟨_, rfl⟩
  rw [← hys] at ho2
  have HO2 : Hid (RowB w2 B u ys) := ho2
  have hB2 : B ≤ w2.heap.size := Nat.le_trans hB1 g2.grown.size
  have hl2 : ys.length ≤ 100000010 := by rw [hys, List.length_append]; omega
  have z2 : w.heap.size < w2.heap.size := Nat.lt_of_lt_of_le z1 g2.grown.size
  have HNU : Hid (u.ownBlock ≠ some w.heap.size) := fun e => by
    rcases g2.lies _ e with h | h
    · exact HNE.out h
    · omega
  have G2 : Hid (Gr w w2 v u) := G0.out.trans g2
  have HYS : Hid _ := hys
  clear ho2 g2 hys
  go_wp2_with (first | (at_builtin; refine wpList_append_lies _ rfl _ _ 44 rfl B 5 i0 (.int .u8 0) 1 1 Try.underlying44 hi hz0 hz1 hz2 rfl (by decide) u ys.length _ rfl (HO2.out.alloc _) ⟨w2.heap.size, 0, none⟩ 1 1 [.int .u8 kd] rfl rfl (one_cell _ _ rfl) (by intro y hy; simp at hy; subst hy; rfl) (by decide) (by unfold maxLen; omega) (by omega) (by simp; omega) (w2.heap.size + 1) (by simp) ?_) | go_in)
  intro g cap w3 ho3 hg3 hat3 hlt3
  have G3 : Gr w2 w3 u (.slice (some ⟨g, 0, none⟩) (ys.length + 1) cap) := gr_lies (bl_one w2 _) hg3 (by simpa using hat3)
  have d2 := G3.cell c2 HNU.out
  have d3 := G3.cell c3 HNU.out
  have HO3 : Hid (RowB w3 B (.slice (some ⟨g, 0, none⟩) (ys.length + 1) cap) (ys ++ [kd])) := row_is ho3 (by simp)
  have hB3 : B ≤ w3.heap.size := Nat.le_trans hB2 G3.grown.size
  have hl3 : (ys ++ [kd]).length ≤ 100000020 := by rw [List.length_append]; simp only [List.length_cons, List.length_nil]; omega
  have GG3 : Hid (Gr w w3 v (.slice (some ⟨g, 0, none⟩) (ys.length + 1) cap)) := G2.out.trans G3
  have HNG : Hid ((Value.slice (some ⟨g, 0, none⟩) (ys.length + 1) cap).ownBlock ≠ some w.heap.size) := fun e => by
    rcases G3.lies _ e with h | h
    · exact HNU.out h
    · omega
  clear ho3 hg3 hat3 hlt3 G3 c1 c2 c3
  go_wp2_with fail
  refine (text_any HO3.out hB3 nm (by omega) (by omega)).mono ?_
  rintro e w4 ⟨u4, rfl, ho4, g4⟩
  have e3 := g4.cell d3 HNG.out
  have HO4 : Hid (RowB w4 B u4 (ys ++ [kd] ++ txt nm)) := ho4
  have hB4 : B ≤ w4.heap.size := Nat.le_trans hB3 g4.grown.size
  have hl4 : (ys ++ [kd] ++ txt nm).length ≤ 100002000 := by simp only [txt, List.length_append, List.length_cons, List.length_nil]; omega
  have G4 : Hid (Gr w w4 v u4) := GG3.out.trans g4
  clear ho4 g4 d2 d3
  go_wp2_with fail
  refine (long_any HO4.out hB4 ad HAD.out (by omega)).mono ?_
  rintro e w5 ⟨u5, rfl, ho5, g5⟩
  have HO5 : Hid (RowB w5 B u5 (xs ++ relB ⟨ps, kd, nm, ad⟩)) := by
    have e : xs ++ relB ⟨ps, kd, nm, ad⟩ = ys ++ [kd] ++ txt nm ++ long ad := by rw [HYS.out]; simp [relB]
    show RowB _ _ _ _
    rw [e]
    exact ho5
  have G5 : Hid (Gr w w5 v u5) := G4.out.trans g5
  clear ho5 g5 e3
  go_wp2
  go_ret
  exact ⟨_, rfl, HO5.out, G5.out⟩

end Go.Proofs.Ytcfdfnghaigkjaa

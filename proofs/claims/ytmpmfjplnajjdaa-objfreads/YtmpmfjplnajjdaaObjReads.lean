/- What the law ObjfReads comes to. (Written by gen_reads.py.) -/
import Derived.Test.YtmpmfjplnajjdaaObjRefRead
import Derived.Test.YtmpmfjplnajjdaaObjApart
namespace Go.Proofs.Ytmpmfjplnajjdaa
open Go.RowKit Go.Maps Go.Lib
set_option linter.unusedVariables false

theorem same_lens {o : ObjD} (h : ObjIn o) : o.data.length ≤ maxLen ∧ o.syms.length ≤ maxLen ∧ o.rels.length ≤ maxLen := by
  obtain ⟨-, ⟨h2, -⟩, ⟨h3, -⟩, ⟨h4, -⟩⟩ := h
  unfold maxLen
  omega
/-- While what was read is spoiled: all else is as it was. -/
structure SP (w wq : World) (B n : Nat) (a : Option Addr) (cap za zb : Nat) (va vb : List Value) (v : Value) (o : ObjD) : Prop where
  bl : Below w.heap.size w wq
  ca : Cells wq za va
  cb : Cells wq zb vb
  ob : ObjF B wq v o
  row : ∃ cs, wq.ownsRow w.heap.size 2 1 (.slice a n cap) n cs
theorem SP.set {w wq : World} {B n ga cap za zb : Nat} {va vb : List Value} {v : Value} {o : ObjD} (h : SP w wq B n (some ⟨ga, 0, none⟩) cap za zb va vb v o) (ha : ga < B) (hza : ga ≠ za) (hzb : ga ≠ zb) (k : Nat) (hk : k < n) : SP w (wq.setCell ⟨ga, k, none⟩ (.int .i64 (-7))) B n (some ⟨ga, 0, none⟩) cap za zb va vb v o := by
  obtain ⟨cs, hr⟩ := h.row
  have hga := (hr.lt ga rfl).1
  exact ⟨h.bl.setCell hga _, fun j u hu => (World.cell?_setCell_far _ _ _ _ hza).trans (h.ca j u hu), fun j u hu => (World.cell?_setCell_far _ _ _ _ hzb).trans (h.cb j u hu), h.ob.far _ _ ha, ⟨_, (hr.stored k _).1⟩⟩
theorem SP.at {w wq : World} {B n ga cap za zb : Nat} {va vb : List Value} {v : Value} {o : ObjD} (h : SP w wq B n (some ⟨ga, 0, none⟩) cap za zb va vb v o) (k : Nat) (hk : k < n) : (∃ u, wq.cell? ⟨ga, k, none⟩ = some u) ∧ wq.frozen? ⟨ga, k, none⟩ = false := by
  obtain ⟨cs, hr⟩ := h.row
  have hl := hr.1
  refine ⟨?_, hr.frozenAt k⟩
  rw [hr.cellAt k (by omega)]
  exact ⟨cs[k]'(by omega), by simp⟩

set_option maxRecDepth 100000 in
set_option maxHeartbeats 8000000 in
theorem reads_any {w : World} {s : ByteArray} (hs : s.size ≤ maxLen) :
    Calls Try.prog 4 #[.string s] w fun e w' => e = .returned (.bool true) ∧ Below w.heap.size w w' := by
  have hsz : s.size ≤ 9223372036854775807 := by unfold maxLen at hs; omega
  go_enter Try.func4, Try.ntmps4
  by_cases h5 : s.size ≤ 5000
  rotate_left
  · have hd : decide ((5000 : Int) < s.size) = true := decide_eq_true (by omega)
    go_wp2_with (go_at_call 9; refine (live_any _).mono ?_; rintro e y ⟨rfl, hb⟩)
    go_ret
    exact ⟨rfl, hb⟩
  have hd : decide ((5000 : Int) < s.size) = false := decide_eq_false (by omega)
  go_wp2_with fail
  cases hrd : rdObj s with
  | none =>
    have HRD : Hid _ := hrd
    clear hrd
    refine (read_any s hs w).mono ?_
    rintro e x1 ⟨⟨o, ho, -⟩ | ⟨-, rfl⟩, hx1⟩
    · rw [HRD.out] at ho; cases ho
    have HX1 : Hid (Below w.heap.size w (x1.alloc (.cells #[.string { data := #[] }, .slice none 0 0, .slice none 0 0, .slice none 0 0] 26))) := hx1.trans ((bl_one x1 _).mono hx1.size)
    clear hx1
    unfold noObjV
    go_wp2_with fail
    refine (rread_any s hs _).mono ?_
    rintro e x2 ⟨⟨o, ho, -⟩ | ⟨-, rfl⟩, hx2⟩
    · rw [HRD.out] at ho; cases ho
    have HX2 : Hid (Below w.heap.size w x2) := HX1.out.trans (hx2.mono HX1.out.size)
    have hz : x1.heap.size < x2.heap.size := by have := hx2.size; simp at this; omega
    have q0 := (hx2.cell (p := ⟨x1.heap.size, 0, none⟩) (by simp)).trans (cell_last (w := x1) (A := #[.string { data := #[] }, .slice none 0 0, .slice none 0 0, .slice none 0 0]) (t := 26) rfl rfl)
    have q1 := (hx2.cell (p := ⟨x1.heap.size, 1, none⟩) (by simp)).trans (cell_last (w := x1) (A := #[.string { data := #[] }, .slice none 0 0, .slice none 0 0, .slice none 0 0]) (t := 26) rfl rfl)
    have q2 := (hx2.cell (p := ⟨x1.heap.size, 2, none⟩) (by simp)).trans (cell_last (w := x1) (A := #[.string { data := #[] }, .slice none 0 0, .slice none 0 0, .slice none 0 0]) (t := 26) rfl rfl)
    have q3 := (hx2.cell (p := ⟨x1.heap.size, 3, none⟩) (by simp)).trans (cell_last (w := x1) (A := #[.string { data := #[] }, .slice none 0 0, .slice none 0 0, .slice none 0 0]) (t := 26) rfl rfl)
    clear hx2
    unfold noObjV
    generalize x1.heap.size = za at *
    go_wp2_with fail
    obtain ⟨X2, hX2⟩ : ∃ X, x2.alloc (.cells #[.string { data := #[] }, .slice none 0 0, .slice none 0 0, .slice none 0 0] 26) = X := ⟨_, rfl⟩
    have hb2 : Below x2.heap.size x2 X2 := by subst hX2; exact bl_one _ _
    have CA : Hid (Cells X2 za [.string { data := #[] }, .slice none 0 0, .slice none 0 0, .slice none 0 0]) := fun j u hu => by
      match j, hu with
      | 0, hu => cases hu; exact cell_thru hb2 q0
      | 1, hu => cases hu; exact cell_thru hb2 q1
      | 2, hu => cases hu; exact cell_thru hb2 q2
      | 3, hu => cases hu; exact cell_thru hb2 q3
      | j + 4, hu => simp at hu
    have CB : Hid (Cells X2 x2.heap.size [.string { data := #[] }, .slice none 0 0, .slice none 0 0, .slice none 0 0]) := fun j u hu => by subst hX2; exact cell_last rfl (by simpa using hu)
    have HXB : Hid (Below w.heap.size w X2) := HX2.out.trans (hb2.mono HX2.out.size)
    rw [hX2]
    clear q0 q1 q2 q3 hb2 hX2 HX1 HX2 hz
    generalize x2.heap.size = zb at *
    refine (same_any (nilV X2) (nilV X2) (by decide) (by decide) (by decide) true (by simp)).mono ?_
    rintro e x3 ⟨rfl, hx3⟩
    have HX3 : Hid (Below w.heap.size w x3) := HXB.out.trans (hx3.mono HXB.out.size)
    have t1 := cell_thru hx3 (CA.out 1 _ rfl)
    have CB3 : Hid (Cells x3 zb [.string { data := #[] }, .slice none 0 0, .slice none 0 0, .slice none 0 0]) := fun j u hu => cell_thru hx3 (CB.out j u hu)
    clear hx3 CA CB
    go_wp2_with fail
    refine wp_loop_rounds 1 ?_
    rw [rounds_succ]
    go_wp2_with fail
    clear t1
    refine (read_any s hs x3).mono ?_
    rintro e x4 ⟨⟨o, ho, -⟩ | ⟨-, rfl⟩, hx4⟩
    · rw [HRD.out] at ho; cases ho
    have HX4 : Hid (Below w.heap.size w x4) := HX3.out.trans (hx4.mono HX3.out.size)
    have r0 := cell_thru hx4 (CB3.out 0 _ rfl)
    have r1 := cell_thru hx4 (CB3.out 1 _ rfl)
    have r2 := cell_thru hx4 (CB3.out 2 _ rfl)
    have r3 := cell_thru hx4 (CB3.out 3 _ rfl)
    have hzb := World.block_lt_of_cell? x4 ⟨zb, 0, none⟩ r0
    clear hx4 CB3
    unfold noObjV
    go_wp2_with fail
    refine (same_any (nilV _) (nilV _) (by decide) (by decide) (by decide) true (by simp)).mono ?_
    rintro e x5 ⟨rfl, hx5⟩
    have HX : Hid (Below w.heap.size w x5) := (HX4.out.trans ((bl_one x4 (.cells #[.string { data := #[] }, .slice none 0 0, .slice none 0 0, .slice none 0 0] 26)).mono HX4.out.size)).trans (hx5.mono (by have := HX4.out.size; simp; omega))
    clear hx5 r0 r1 r2 r3 hzb
    go_wp2_with fail
    refine (live_any _).mono ?_
    rintro e y ⟨rfl, hb⟩
    go_wp2
    go_ret
    exact ⟨rfl, HX.out.trans (hb.mono HX.out.size)⟩
  | some o =>
    have HRD : Hid _ := hrd
    have HLN : Hid _ := same_lens (obj_sound hrd).2.1
    have hdl : o.data.length ≤ 4096 := (obj_sound hrd).2.1.2.1.1
    clear hrd
    refine (read_any s hs w).mono ?_
    rintro e x1 ⟨⟨p, hp, v, rfl, hF⟩ | ⟨hp, rfl⟩, hx1⟩
    rotate_left
    · rw [HRD.out] at hp; cases hp
    obtain rfl : o = p := by rw [HRD.out] at hp; exact Option.some.inj hp
    obtain ⟨v1, v2, v3, rfl, o1, o2, o3⟩ := hF.form
    obtain ⟨a11, c11, rfl⟩ := own_slice o1
    obtain ⟨a12, c12, rfl⟩ := own_slice o2
    obtain ⟨a13, c13, rfl⟩ := own_slice o3
    have HA1 : Hid _ := hF
    have HX1 : Hid _ := hx1
    have HO1 : Hid (x1.ownsRow w.heap.size 2 1 (.slice a11 o.data.length c11) o.data.length (o.data.flatMap intC)) := o1
    clear hx1 hF hp o1 o2 o3
    go_wp2_with fail
    obtain ⟨X1, hX1⟩ : ∃ X, x1.alloc (.cells #[.string o.code, .slice a11 o.data.length c11, .slice a12 o.syms.length c12, .slice a13 o.rels.length c13] 26) = X := ⟨_, rfl⟩
    have hb1 : Below x1.heap.size x1 X1 := by subst hX1; exact bl_one _ _
    have sX1 : X1.heap.size = x1.heap.size + 1 := by subst hX1; simp
    have CA1 : Hid (Cells X1 x1.heap.size [.string o.code, .slice a11 o.data.length c11, .slice a12 o.syms.length c12, .slice a13 o.rels.length c13]) := fun j u hu => by subst hX1; exact cell_last rfl (by simpa using hu)
    have HB1 : Hid (Below w.heap.size w X1) := HX1.out.trans (hb1.mono HX1.out.size)
    have HAX : Hid _ := HA1.out.below hb1
    have HZA : Hid (∀ g, (Value.slice a11 o.data.length c11).ownBlock = some g → g < x1.heap.size ∧ w.heap.size ≤ g) := fun g e => ⟨(HO1.out.lt g e).2, (HO1.out.lt g e).1⟩
    rw [hX1]
    clear hX1 hb1 HX1 HA1 HO1
    generalize x1.heap.size = za at *
    refine (rread_any s hs X1).mono ?_
    rintro e x2 ⟨⟨p, hp, v, rfl, hF⟩ | ⟨hp, rfl⟩, hx2⟩
    rotate_left
    · rw [HRD.out] at hp; cases hp
    obtain rfl : o = p := by rw [HRD.out] at hp; exact Option.some.inj hp
    obtain ⟨v1, v2, v3, rfl, o1, o2, o3⟩ := hF.form
    obtain ⟨a21, c21, rfl⟩ := own_slice o1
    obtain ⟨a22, c22, rfl⟩ := own_slice o2
    obtain ⟨a23, c23, rfl⟩ := own_slice o3
    have HB2 : Hid _ := hF
    have HA2 : Hid _ := HAX.out.below hx2
    have HX2 : Hid (Below w.heap.size w x2) := HB1.out.trans (hx2.mono HB1.out.size)
    have CA2 : Hid (Cells x2 za [.string o.code, .slice a11 o.data.length c11, .slice a12 o.syms.length c12, .slice a13 o.rels.length c13]) := fun j u hu => cell_thru hx2 (CA1.out j u hu)
    have q0 := CA2.out 0 _ rfl
    have q1 := CA2.out 1 _ rfl
    have q2 := CA2.out 2 _ rfl
    have q3 := CA2.out 3 _ rfl
    have hz2 : za < x2.heap.size := World.block_lt_of_cell? x2 ⟨za, 0, none⟩ q0
    have hzx : X1.heap.size ≤ x2.heap.size := hx2.size
    clear hx2 hF hp o1 o2 o3 HAX CA1
    go_wp2_with fail
    obtain ⟨X2, hX2⟩ : ∃ X, x2.alloc (.cells #[.string o.code, .slice a21 o.data.length c21, .slice a22 o.syms.length c22, .slice a23 o.rels.length c23] 26) = X := ⟨_, rfl⟩
    have hb2 : Below x2.heap.size x2 X2 := by subst hX2; exact bl_one _ _
    have CAX : Hid (Cells X2 za [.string o.code, .slice a11 o.data.length c11, .slice a12 o.syms.length c12, .slice a13 o.rels.length c13]) := fun j u hu => cell_thru hb2 (CA2.out j u hu)
    have CBX : Hid (Cells X2 x2.heap.size [.string o.code, .slice a21 o.data.length c21, .slice a22 o.syms.length c22, .slice a23 o.rels.length c23]) := fun j u hu => by subst hX2; exact cell_last rfl (by simpa using hu)
    have HAX : Hid _ := HA2.out.below hb2
    have HBX : Hid _ := HB2.out.below hb2
    have HXX : Hid (Below w.heap.size w X2) := HX2.out.trans (hb2.mono HX2.out.size)
    rw [hX2]
    clear q0 q1 q2 q3 hX2 hb2 HA2 HB2 HX2 CA2
    generalize x2.heap.size = zb at *
    refine (same_any HAX.out.toV HBX.out.toV HLN.out.1 HLN.out.2.1 HLN.out.2.2 true (by simp)).mono ?_
    rintro e x3 ⟨rfl, hx3⟩
    have HA3 : Hid _ := HAX.out.below hx3
    have HB3 : Hid _ := HBX.out.below hx3
    have HX3 : Hid (Below w.heap.size w x3) := HXX.out.trans (hx3.mono HXX.out.size)
    have CA3 : Hid (Cells x3 za [.string o.code, .slice a11 o.data.length c11, .slice a12 o.syms.length c12, .slice a13 o.rels.length c13]) := fun j u hu => cell_thru hx3 (CAX.out j u hu)
    have CB3 : Hid (Cells x3 zb [.string o.code, .slice a21 o.data.length c21, .slice a22 o.syms.length c22, .slice a23 o.rels.length c23]) := fun j u hu => cell_thru hx3 (CBX.out j u hu)
    clear hx3 CAX CBX HAX HBX HXX
    obtain ⟨v1, v2, v3, hv, o1, -, -⟩ := HA3.out.form
    simp at hv
    obtain ⟨rfl, -, -⟩ := hv
    go_wp2_with fail
    have HSP : Hid (SP w x3 X1.heap.size o.data.length a11 c11 za zb [.string o.code, .slice a11 o.data.length c11, .slice a12 o.syms.length c12, .slice a13 o.rels.length c13] [.string o.code, .slice a21 o.data.length c21, .slice a22 o.syms.length c22, .slice a23 o.rels.length c23] (.agg #[.string o.code, .slice a21 o.data.length c21, .slice a22 o.syms.length c22, .slice a23 o.rels.length c23]) o) := ⟨HX3.out, CA3.out, CB3.out, HB3.out, ⟨_, o1⟩⟩
    clear HA3 HB3 HX3 CA3 CB3 o1
    go_loopg [7] o.data.length (fun r iv wq => ∃ (k : Nat), iv = .int .i64 k ∧ k ≤ o.data.length ∧ o.data.length - k ≤ r ∧ Hid (SP w wq X1.heap.size o.data.length a11 c11 za zb [.string o.code, .slice a11 o.data.length c11, .slice a12 o.syms.length c12, .slice a13 o.rels.length c13] [.string o.code, .slice a21 o.data.length c21, .slice a22 o.syms.length c22, .slice a23 o.rels.length c23] (.agg #[.string o.code, .slice a21 o.data.length c21, .slice a22 o.syms.length c22, .slice a23 o.rels.length c23]) o))
    case atStart => exact ⟨0, rfl, Nat.zero_le _, by omega, HSP.out⟩
    case round =>
      obtain ⟨k, rfl, hk, hr, HP⟩ := hrel
      have t1 := HP.out.ca 1 _ rfl
      by_cases hlt : k < o.data.length
      · obtain ⟨g, hgv⟩ : ∃ g, a11 = some ⟨g, 0, none⟩ := by
          obtain ⟨cs, hr⟩ := HP.out.row
          rcases hr.2 with ⟨hv, hn⟩ | ⟨g, cap, cur, hv, -⟩
          · omega
          · simp at hv
            exact ⟨g, hv.1⟩
        subst hgv
        have hgz := (HZA.out g rfl).1
        obtain ⟨⟨u, hu⟩, hfz⟩ := HP.out.at k hlt
        have HN : Hid _ := HP.out.set (by omega) (by omega) (by omega) k hlt
        have hii : (k : Int) < o.data.length := by omega
        have hin : 0 ≤ (k : Int) := by omega
        go_wp2_with fail
        go_roundg (o.data.length - (k + 1))
        case measure => omega
        case rel => exact ⟨k + 1, by first | rfl | (congr 1; omega), by omega, Nat.le_refl _, HN.out⟩
      · obtain rfl : k = o.data.length := by omega
        go_wp2_with fail
        clear t1
        have HOB : Hid _ := HP.out.ob
        have HCB : Hid _ := HP.out.cb
        have HBL : Hid _ := HP.out.bl
        refine (read_any s hs wr).mono ?_
        rintro e x4 ⟨⟨p, hp, v, rfl, hF⟩ | ⟨hp, rfl⟩, hx4⟩
        rotate_left
        · rw [HRD.out] at hp; cases hp
        obtain rfl : o = p := by rw [HRD.out] at hp; exact Option.some.inj hp
        obtain ⟨w1, w2, w3, rfl, o1, o2, o3⟩ := hF.form
        obtain ⟨a31, c31, rfl⟩ := own_slice o1
        obtain ⟨a32, c32, rfl⟩ := own_slice o2
        obtain ⟨a33, c33, rfl⟩ := own_slice o3
        have HC4 : Hid _ := hF.toV
        have HB4 : Hid _ := (HOB.out.below hx4).toV
        have HX4 : Hid (Below w.heap.size w x4) := HBL.out.trans (hx4.mono HBL.out.size)
        have r0 := cell_thru hx4 (HCB.out 0 _ rfl)
        have r1 := cell_thru hx4 (HCB.out 1 _ rfl)
        have r2 := cell_thru hx4 (HCB.out 2 _ rfl)
        have r3 := cell_thru hx4 (HCB.out 3 _ rfl)
        have hzb4 := World.block_lt_of_cell? x4 ⟨zb, 0, none⟩ r0
        clear hx4 hF hp o1 o2 o3
        go_wp2_with fail
        refine (same_any (HC4.out.below (bl_one _ _)) (HB4.out.below (bl_one _ _)) HLN.out.1 HLN.out.2.1 HLN.out.2.2 true (by simp)).mono ?_
        rintro e x5 ⟨rfl, hx5⟩
        have HX : Hid (Below w.heap.size w x5) := (HX4.out.trans ((bl_one x4 (.cells #[.string o.code, .slice a31 o.data.length c31, .slice a32 o.syms.length c32, .slice a33 o.rels.length c33] 26)).mono HX4.out.size)).trans (hx5.mono (by have := HX4.out.size; simp; omega))
        clear hx5 r0 r1 r2 r3 hzb4
        go_wp2_with fail
        refine (live_any _).mono ?_
        rintro e y ⟨rfl, hb⟩
        go_wp2
        go_ret
        exact ⟨rfl, HX.out.trans (hb.mono HX.out.size)⟩

end Go.Proofs.Ytmpmfjplnajjdaa

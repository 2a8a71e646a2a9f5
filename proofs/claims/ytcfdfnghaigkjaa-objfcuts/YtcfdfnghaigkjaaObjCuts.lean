/- What the law ObjfCuts comes to. (Written by gen_cuts.py.) -/
import Derived.Test.YtcfdfnghaigkjaaObjApart
namespace Go.Proofs.Ytcfdfnghaigkjaa
open Go.RowKit Go.Maps Go.Lib
set_option linter.unusedVariables false

theorem wr_pos (o : ObjD) (h : ObjIn o) : 0 < (wrB o).size := by
  rw [← nums_len, nums_wr h]
  simp only [formB, List.length_append, List.length_cons, List.length_nil]
  omega
/-- The place of the cut. -/
theorem rem_at {z : Int} {n : Nat} (hn : 0 < n) (h0 : 0 ≤ z) : ∃ k : Nat, k < n ∧ z.tmod n = k := by
  rw [Int.tmod_eq_emod_of_nonneg h0]
  exact ⟨(z % n).toNat, by have := Int.emod_lt_of_pos z (show (0 : Int) < n by omega); have := Int.emod_nonneg z (show (n : Int) ≠ 0 by omega); omega, by have := Int.emod_nonneg z (show (n : Int) ≠ 0 by omega); omega⟩

set_option maxRecDepth 100000 in
set_option maxHeartbeats 4000000 in
theorem cuts_any {w : World} {v : Value} {o : ObjD} {z : Int} {more : ByteArray} (h : ObjV w v o) (hz : (Lit.int .i64 z).wf = true) (hm : more.size ≤ 140737488355328) :
    Calls Try.prog 6 #[v, .int .i64 z, .string more] w fun e w' => e = .returned (.bool true) ∧ Below w.heap.size w w' := by
  have hz' : -9223372036854775808 ≤ z ∧ z ≤ 9223372036854775807 := by simpa [Lit.wf, IntKind.min, IntKind.max, IntKind.signed, IntKind.bits] using hz
  have HV : Hid _ := h
  obtain ⟨a1, l1, c1, a2, l2, c2, a3, l3, c3, rfl, -, -, -, -⟩ := h.form
  obtain ⟨code, hcode⟩ : ∃ c, o.code = c := ⟨_, rfl⟩
  rw [hcode] at HV ⊢
  clear h hcode hz
  obtain ⟨W2, hW2⟩ : ∃ W2, w.alloc (.cells #[.string code, .slice a1 l1 c1, .slice a2 l2 c2, .slice a3 l3 c3] 26) = W2 := ⟨_, rfl⟩
  have s2 : W2.heap.size = w.heap.size + 1 := by subst hW2; simp
  have HW : Hid (Below w.heap.size w W2) := by subst hW2; exact bl_one _ _
  have CV : Hid (Cells W2 w.heap.size [.string code, .slice a1 l1 c1, .slice a2 l2 c2, .slice a3 l3 c3]) := fun j u hu => by subst hW2; exact cell_last rfl (by simpa using hu)
  have HT : Hid (∀ {x : World}, Below W2.heap.size W2 x → Below w.heap.size w x) := fun hx => HW.out.trans (hx.mono HW.out.size)
  have r0 : W2.cell? ⟨w.heap.size, 0, none⟩ = _ := CV.out 0 _ rfl
  have r1 : W2.cell? ⟨w.heap.size, 1, none⟩ = _ := CV.out 1 _ rfl
  have r2 : W2.cell? ⟨w.heap.size, 2, none⟩ = _ := CV.out 2 _ rfl
  have r3 : W2.cell? ⟨w.heap.size, 3, none⟩ = _ := CV.out 3 _ rfl
  go_enter Try.func6, Try.ntmps6
  go_wp2_with fail
  refine (small_any (HV.out.below HW.out)).mono ?_
  rintro e x1 ⟨rfl, hx1⟩
  clear r0 r1 r2 r3
  cases hs1 : decide (o.syms.length ≤ 200) with
  | false =>
    have HX : Hid _ := HT.out hx1
    clear hs1 hx1
    go_wp2_with (go_at_call 9; refine (live_any _).mono ?_; rintro e y ⟨rfl, hb⟩)
    go_ret
    exact ⟨rfl, HX.out.trans (hb.mono HX.out.size)⟩
  | true =>
  have HX1 : Hid _ := hx1
  have r0 := cell_thru hx1 (CV.out 0 _ rfl)
  have r1 := cell_thru hx1 (CV.out 1 _ rfl)
  have r2 := cell_thru hx1 (CV.out 2 _ rfl)
  have r3 := cell_thru hx1 (CV.out 3 _ rfl)
  clear hs1 hx1
  go_wp2_with fail
  refine (write_any (HV.out.below (HT.out HX1.out))).mono ?_
  rintro e x2 ⟨rfl, hx2⟩
  have HX2 : Hid (Below w.heap.size w x2) := HT.out (HX1.out.trans (hx2.mono HX1.out.size))
  clear hx2 r0 r1 r2 r3 HX1
  cases hm1 : o.may with
  | false =>
    clear hm1
    simp only [Bool.false_eq_true, if_false]
    go_wp2_with (go_at_call 9; refine (live_any _).mono ?_; rintro e y ⟨rfl, hb⟩)
    go_ret
    exact ⟨rfl, HX2.out.trans (hb.mono HX2.out.size)⟩
  | true =>
    have HM : Hid _ := hm1
    clear hm1
    simp only [if_true]
    obtain ⟨t, ht⟩ : ∃ t, strOfNums (formB o) = t := ⟨_, rfl⟩
    have hin := HV.out.isin HM.out
    have htz : t.size ≤ 100000000 := by have := wr_size hin; unfold wrB at this; rwa [ht] at this
    have htp : 0 < t.size := by have := wr_pos o hin; unfold wrB at this; rwa [ht] at this
    have HC : Hid (∀ {k : Nat}, k < t.size → rdObj (t.extract 0 k) = none ∧ (t.extract 0 k).size ≤ maxLen) := fun {k} hk => by
      have h1 := rd_cut hin (k := k) (show k < (wrB o).size by unfold wrB; rw [ht]; exact hk)
      unfold wrB at h1
      rw [ht] at h1
      have h2 : sub t 0 k = t.extract 0 k := by unfold sub; rw [Nat.zero_add]
      rw [h2] at h1
      exact ⟨h1, by rw [ByteArray.size_extract]; unfold maxLen; omega⟩
    have HMO : Hid (0 < more.size → rdObj (t ++ more) = none) := fun hk => by have := rd_more hin more hk; unfold wrB at this; rwa [ht] at this
    rw [ht]
    clear ht hin
    have hd0 : ((t.size : Int) == 0) = false := beq_eq_false_iff_ne.2 (by omega)
    by_cases hn : z < 0
    · have hdn : decide (z < 0) = true := decide_eq_true hn
      obtain ⟨k, hk, hrem⟩ : ∃ k : Nat, k < t.size ∧ -((z + 1).tmod t.size) = k := by
        rw [← Int.neg_tmod]
        exact rem_at htp (by omega)
      go_wp2_with fail
      refine (read_any _ (HC.out hk).2 x2).mono ?_
      rintro e x3 ⟨⟨p, hp, -⟩ | ⟨-, rfl⟩, hx3⟩
      · rw [(HC.out hk).1] at hp; cases hp
      have HX3 : Hid (Below w.heap.size w (x3.alloc (.cells #[.string { data := #[] }, .slice none 0 0, .slice none 0 0, .slice none 0 0] 26))) := (HX2.out.trans (hx3.mono HX2.out.size)).trans ((bl_one x3 _).mono (HX2.out.trans (hx3.mono HX2.out.size)).size)
      clear hx3
      unfold noObjV
      go_wp2_with fail
      refine (read_any (t ++ more) (by rw [ByteArray.size_append]; unfold maxLen; omega) _).mono ?_
      rintro e x4 ⟨⟨p, hp, v, rfl, hF⟩ | ⟨-, rfl⟩, hx4⟩
      · have hmo : more.size = 0 := by
          cases hz0 : more.size with
          | zero => rfl
          | succ n => rw [HMO.out (by omega)] at hp; cases hp
        obtain rfl : more = ByteArray.empty := bytes_nums (by have h1 := nums_len more; rw [hmo] at h1; rw [List.length_eq_zero_iff.1 h1]; rfl)
        obtain ⟨v1, v2, v3, rfl, o1, o2, o3⟩ := hF.form
        obtain ⟨e1, f1, rfl⟩ := own_slice o1
        obtain ⟨e2, f2, rfl⟩ := own_slice o2
        obtain ⟨e3, f3, rfl⟩ := own_slice o3
        have HX5 : Hid (Below w.heap.size w (x4.alloc (.cells #[.string p.code, .slice e1 p.data.length f1, .slice e2 p.syms.length f2, .slice e3 p.rels.length f3] 26))) := (HX3.out.trans (hx4.mono HX3.out.size)).trans ((bl_one x4 _).mono (HX3.out.trans (hx4.mono HX3.out.size)).size)
        clear hx4 hF o1 o2 o3 hp hmo
        go_wp2_with (go_at_call 9; refine (live_any _).mono ?_; rintro e y ⟨rfl, hb⟩)
        go_ret
        exact ⟨rfl, HX5.out.trans (hb.mono HX5.out.size)⟩
      have HX5 : Hid (Below w.heap.size w (x4.alloc (.cells #[.string { data := #[] }, .slice none 0 0, .slice none 0 0, .slice none 0 0] 26))) := (HX3.out.trans (hx4.mono HX3.out.size)).trans ((bl_one x4 _).mono (HX3.out.trans (hx4.mono HX3.out.size)).size)
      clear hx4
      unfold noObjV
      cases hdm : more.toList.isEmpty with
      | true =>
        go_wp2_with (go_at_call 9; refine (live_any _).mono ?_; rintro e y ⟨rfl, hb⟩)
        go_ret
        exact ⟨rfl, HX5.out.trans (hb.mono HX5.out.size)⟩
      | false =>
        go_wp2_with (go_at_call 9; refine (live_any _).mono ?_; rintro e y ⟨rfl, hb⟩)
        go_ret
        exact ⟨rfl, HX5.out.trans (hb.mono HX5.out.size)⟩
    · have hdn : decide (z < 0) = false := decide_eq_false hn
      obtain ⟨k, hk, hrem⟩ : ∃ k : Nat, k < t.size ∧ z % t.size = k := by
        rw [← Int.tmod_eq_emod_of_nonneg (by omega)]
        exact rem_at htp (by omega)
      go_wp2_with fail
      refine (read_any _ (HC.out hk).2 x2).mono ?_
      rintro e x3 ⟨⟨p, hp, -⟩ | ⟨-, rfl⟩, hx3⟩
      · rw [(HC.out hk).1] at hp; cases hp
      have HX3 : Hid (Below w.heap.size w (x3.alloc (.cells #[.string { data := #[] }, .slice none 0 0, .slice none 0 0, .slice none 0 0] 26))) := (HX2.out.trans (hx3.mono HX2.out.size)).trans ((bl_one x3 _).mono (HX2.out.trans (hx3.mono HX2.out.size)).size)
      clear hx3
      unfold noObjV
      go_wp2_with fail
      refine (read_any (t ++ more) (by rw [ByteArray.size_append]; unfold maxLen; omega) _).mono ?_
      rintro e x4 ⟨⟨p, hp, v, rfl, hF⟩ | ⟨-, rfl⟩, hx4⟩
      · have hmo : more.size = 0 := by
          cases hz0 : more.size with
          | zero => rfl
          | succ n => rw [HMO.out (by omega)] at hp; cases hp
        obtain rfl : more = ByteArray.empty := bytes_nums (by have h1 := nums_len more; rw [hmo] at h1; rw [List.length_eq_zero_iff.1 h1]; rfl)
        obtain ⟨v1, v2, v3, rfl, o1, o2, o3⟩ := hF.form
        obtain ⟨e1, f1, rfl⟩ := own_slice o1
        obtain ⟨e2, f2, rfl⟩ := own_slice o2
        obtain ⟨e3, f3, rfl⟩ := own_slice o3
        have HX5 : Hid (Below w.heap.size w (x4.alloc (.cells #[.string p.code, .slice e1 p.data.length f1, .slice e2 p.syms.length f2, .slice e3 p.rels.length f3] 26))) := (HX3.out.trans (hx4.mono HX3.out.size)).trans ((bl_one x4 _).mono (HX3.out.trans (hx4.mono HX3.out.size)).size)
        clear hx4 hF o1 o2 o3 hp hmo
        go_wp2_with (go_at_call 9; refine (live_any _).mono ?_; rintro e y ⟨rfl, hb⟩)
        go_ret
        exact ⟨rfl, HX5.out.trans (hb.mono HX5.out.size)⟩
      have HX5 : Hid (Below w.heap.size w (x4.alloc (.cells #[.string { data := #[] }, .slice none 0 0, .slice none 0 0, .slice none 0 0] 26))) := (HX3.out.trans (hx4.mono HX3.out.size)).trans ((bl_one x4 _).mono (HX3.out.trans (hx4.mono HX3.out.size)).size)
      clear hx4
      unfold noObjV
      cases hdm : more.toList.isEmpty with
      | true =>
        go_wp2_with (go_at_call 9; refine (live_any _).mono ?_; rintro e y ⟨rfl, hb⟩)
        go_ret
        exact ⟨rfl, HX5.out.trans (hb.mono HX5.out.size)⟩
      | false =>
        go_wp2_with (go_at_call 9; refine (live_any _).mono ?_; rintro e y ⟨rfl, hb⟩)
        go_ret
        exact ⟨rfl, HX5.out.trans (hb.mono HX5.out.size)⟩

end Go.Proofs.Ytcfdfnghaigkjaa

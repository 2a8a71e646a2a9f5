/- What the document's Front, the one that writes, comes to. (Written by gen_dfront.py.) -/
import Derived.Test.YtcfdfnghaigkjaaObjRefRow
import Derived.Deep.LoopGhost
namespace Go.Proofs.Ytcfdfnghaigkjaa
open Go.RowKit Go.Maps Go.Lib
set_option linter.unusedVariables false

def frontB (code : ByteArray) (data : List Int) (syms : List Sym) : List Int := [67, 79, 84, 49] ++ txt code ++ (W.put data.length ++ data.flatMap long) ++ (W.put syms.length ++ syms.flatMap symB)
theorem nums_app (a b : ByteArray) : nums (a ++ b) = nums a ++ nums b := by
  unfold nums W.tail
  simp
theorem one_conv {w : World} {b : Nat} {kd : Int} (h : w.cell? ⟨b, 0, none⟩ = some (.int .u8 kd)) : (convert 44 9 (.slice (some ⟨b, 0, none⟩) 1 1)).run Try.prog w = .ok (.string (strOfNums [kd])) w := by
  refine run_convert_bytes_arg (P := Try.prog) w 44 5 Try.underlying44 Try.underlying5 b 0 1 1 [kd] rfl (fun i hi => ?_) 9 Try.underlying9
  obtain rfl : i = 0 := by omega
  exact h
theorem rm_gr {w x : World} {v v' : Value} {B : Nat} {xs : List Int} (h : RM w B v xs) (g : Gr w x v v') (hB : B ≤ w.heap.size) : Below B w x := g.toBelow hB (fun k hk => (h.lt k hk).1)

set_option maxRecDepth 100000 in
set_option maxHeartbeats 16000000 in
theorem dfront_any {w : World} {code : ByteArray} {a1 a2 : Option Addr} {l1 c1 l2 c2 : Nat} {data : List Int} {syms : List Sym} (h1 : IntsV w a1 l1 c1 data) (h2 : SymsV w a2 l2 c2 syms) (hc : code.size ≤ 65536) (hl1 : l1 ≤ 4096) (hl2 : l2 ≤ 1000) (hsi : ∀ s ∈ syms, SymIn s) :
    Calls Try.prog 20 #[.string { data := #[67, 79, 84, 49] }, .string code, .slice a1 l1 c1, .slice a2 l2 c2] w fun e w' => e = .returned (.string (strOfNums (frontB code data syms))) ∧ Below w.heap.size w w' := by
  obtain ⟨fb, hfb⟩ : ∃ fb, strOfNums (frontB code data syms) = fb := ⟨_, rfl⟩
  rw [hfb]
  have HFB : Hid _ := hfb
  have hn1 := h1.count
  have hn2 := h2.count
  have HN : Hid (data.length = l1 ∧ syms.length = l2) := ⟨hn1, hn2⟩
  have H1 : Hid _ := h1
  have H2 : Hid _ := h2
  have HSI : Hid _ := hsi
  have p1 := W.put_length (code.size : Int)
  have p2 := W.put_length (l1 : Int)
  have p3 := W.put_length (l2 : Int)
  have b1 := txt_bd hc
  have b2 := W.put_bd (l1 : Int) (by omega) (by omega)
  have b3 := W.put_bd (l2 : Int) (by omega) (by omega)
  obtain ⟨t1, ht1⟩ : ∃ t, strOfNums (txt code) = t := ⟨_, rfl⟩
  have hz1 : t1.size ≤ 65600 := by rw [← ht1, size_of b1]; simp only [txt, List.length_append, nums_len]; omega
  have N1 : Hid (nums t1 = txt code) := by show _ = _; rw [← ht1]; exact nums_of b1
  obtain ⟨t2, ht2⟩ : ∃ t, strOfNums (W.put (l1 : Int)) = t := ⟨_, rfl⟩
  have hz2 : t2.size ≤ 10 := by rw [← ht2, size_of b2]; omega
  have N2 : Hid (nums t2 = W.put l1) := by show _ = _; rw [← ht2]; exact nums_of b2
  obtain ⟨t3, ht3⟩ : ∃ t, strOfNums (W.put (l2 : Int)) = t := ⟨_, rfl⟩
  have hz3 : t3.size ≤ 10 := by rw [← ht3, size_of b3]; omega
  have N3 : Hid (nums t3 = W.put l2) := by show _ = _; rw [← ht3]; exact nums_of b3
  have HT1 : Hid _ := ht1
  have HT2 : Hid _ := ht2
  have HT3 : Hid _ := ht3
  clear h1 h2 hsi hfb hn1 hn2 p1 p2 p3 b1 b2 b3 ht1 ht2 ht3
  go_enter Try.func20, Try.ntmps20
  go_wp2_with fail
  refine (dtext_any code (by omega) _).mono ?_
  rintro e x1 ⟨rfl, hx1⟩
  rw [HT1.out]
  have HX1 : Hid _ := hx1
  clear hx1
  go_wp2_with fail
  refine (dnumber_any l1 (by omega) (by omega) _).mono ?_
  rintro e x2 ⟨rfl, hx2⟩
  rw [HT2.out]
  have HX2 : Hid (Below w.heap.size w x2) := HX1.out.trans (hx2.mono HX1.out.size)
  clear hx2
  have hzs : ({ data := #[67, 79, 84, 49] } ++ t1 ++ t2 : ByteArray).size ≤ 65700 := by simp only [ByteArray.size_append]; show 4 + t1.size + t2.size ≤ _; omega
  obtain ⟨v0, x3, hcv, hrm, hb3⟩ := rm_conv x2 ({ data := #[67, 79, 84, 49] } ++ t1 ++ t2) (by omega)
  have HX3 : Hid (Below w.heap.size w x3) := HX2.out.trans (hb3.mono HX2.out.size)
  obtain ⟨ys0, hys0⟩ : ∃ ys, ys = nums ({ data := #[67, 79, 84, 49] } ++ t1 ++ t2) := ⟨_, rfl⟩
  have HY0 : Hid (ys0 = [67, 79, 84, 49] ++ txt code ++ W.put l1) := by show _ = _; rw [hys0, nums_app, nums_app, N1.out, N2.out]; rfl
  have hyl : ys0.length ≤ 65700 := by rw [hys0, nums_len]; exact hzs
  rw [← hys0] at hrm
  have hzx : w.heap.size ≤ x2.heap.size := HX2.out.size
  have HRM : Hid (RM x3 w.heap.size v0 ys0) := by
    obtain ⟨g, cap, e, q1, q2⟩ := hrm.ex
    exact ⟨⟨g, cap, e, Nat.le_trans hzx q1, q2⟩⟩
  clear hrm hb3 hys0 hzs
  go_wp2_with fail
  clear hcv
  go_loopg [9, 10] l1 (fun r bv iv wq => ∃ (k : Nat) (ys : List Int), iv = .int .i64 k ∧ k ≤ l1 ∧ l1 - k ≤ r ∧ ys.length ≤ 65700 + 8 * k ∧ Hid (ys = ys0 ++ (data.take k).flatMap long) ∧ Hid (RM wq w.heap.size bv ys) ∧ Hid (Below w.heap.size w wq))
  case atStart => exact ⟨0, ys0, rfl, Nat.zero_le _, by omega, by omega, (by simp : ys0 = ys0 ++ (data.take 0).flatMap long), HRM.out, HX3.out⟩
  case round =>
    obtain ⟨k, ys, rfl, hk, hr, hyl2, HY, HR, HB⟩ := hrel
    by_cases hlt : k < l1
    · rcases H1.out.cells with h0 | ⟨b, off, hA, hcl⟩
      · omega
      have k0 := hcl k hlt
      have q0 := (HB.out.cell (p := ⟨b, off + k, none⟩) (World.block_lt_of_cell? w ⟨b, off + k, none⟩ k0)).trans k0
      have hwf : (Lit.int .i64 (data.getD k 0)).wf = true := H1.out.fits _ (by have := HN.out.1; simp [List.getD, show k < data.length by omega])
      have HTK : Hid _ := flat_snoc long data 0 k (by have := HN.out.1; omega)
      obtain ⟨z, hz⟩ : ∃ z, data.getD k 0 = z := ⟨_, rfl⟩
      rw [hz] at q0 hwf HTK
      have hll := long_len hwf
      obtain ⟨tz, htz⟩ : ∃ t, strOfNums (long z) = t := ⟨_, rfl⟩
      have hzz : tz.size = 8 := by rw [← htz, size_of hll.2, hll.1]
      have NZ : Hid (nums tz = long z) := by show _ = _; rw [← htz]; exact nums_of hll.2
      have HTZ : Hid _ := htz
      have HWF : Hid _ := hwf
      subst hA
      have hii : (k : Int) < l1 := by omega
      have hin : 0 ≤ (k : Int) := by omega
      clear hcl k0 hz hll htz hwf
      go_wp2_with fail
      refine (dwide_any z HWF.out _).mono ?_
      rintro e y ⟨rfl, hy⟩
      rw [HTZ.out]
      have HRY : Hid _ := HR.out.below hy
      have HBY : Hid (Below w.heap.size w y) := HB.out.trans (hy.mono HB.out.size)
      clear hy
      go_wp2_with (first | (at_builtin; refine wpList_append_rm rfl _ _ rfl rfl HRY.out HBY.out.size tz rfl (by omega) ?_) | go_in)
      intro v' y' hrm' hgr
      have HRN : Hid (RM y' w.heap.size v' (ys ++ long z)) := by show RM _ _ _ _; rw [← NZ.out]; exact hrm'
      have HBN : Hid (Below w.heap.size w y') := HBY.out.trans (rm_gr HRY.out hgr HBY.out.size)
      have HYN : Hid (ys ++ long z = ys0 ++ (data.take (k + 1)).flatMap long) := by show _ = _; rw [HTK.out, HY.out, List.append_assoc]
      have hlz : (ys ++ long z).length ≤ 65700 + 8 * (k + 1) := by rw [← NZ.out, List.length_append, nums_len, hzz]; omega
      clear hrm' hgr
      go_wp2_with fail
      go_roundg (l1 - (k + 1))
      case measure => omega
      case rel => exact ⟨k + 1, _, by first | rfl | (congr 1; omega), by omega, Nat.le_refl _, hlz, HYN.out, HRN.out, HBN.out⟩
    · obtain rfl : l1 = k := by omega
      have HYE : Hid (ys = ys0 ++ data.flatMap long) := by show _ = _; rw [HY.out, List.take_of_length_le (by rw [HN.out.1]; exact Nat.le_refl _)]
      have hyl3 : ys.length ≤ 100000 := by omega
      clear HY
      go_wp2_with fail
      refine (dnumber_any l2 (by omega) (by omega) _).mono ?_
      rintro e y ⟨rfl, hy⟩
      rw [HT3.out]
      have HRY : Hid _ := HR.out.below hy
      have HBY : Hid (Below w.heap.size w y) := HB.out.trans (hy.mono HB.out.size)
      clear hy
      go_wp2_with (first | (at_builtin; refine wpList_append_rm rfl _ _ rfl rfl HRY.out HBY.out.size t3 rfl (by omega) ?_) | go_in)
      intro v' y' hrm' hgr
      obtain ⟨zs0, hzs0⟩ : ∃ zs, zs = ys ++ nums t3 := ⟨_, rfl⟩
      rw [← hzs0] at hrm'
      have HZ0 : Hid (zs0 = ys0 ++ data.flatMap long ++ W.put l2) := by show _ = _; rw [hzs0, N3.out, HYE.out]
      have hzl : zs0.length ≤ 100010 := by rw [hzs0, List.length_append, nums_len]; omega
      have HRZ : Hid _ := hrm'
      have HBZ : Hid (Below w.heap.size w y') := HBY.out.trans (rm_gr HRY.out hgr HBY.out.size)
      clear hrm' hgr hzs0 HRY HBY HR HB
      go_wp2_with fail
      go_loopg [9, 11] l2 (fun r bv iv wq => ∃ (k : Nat) (ys : List Int), iv = .int .i64 k ∧ k ≤ l2 ∧ l2 - k ≤ r ∧ ys.length ≤ 100010 + 1100 * k ∧ Hid (ys = zs0 ++ (syms.take k).flatMap symB) ∧ Hid (RM wq w.heap.size bv ys) ∧ Hid (Below w.heap.size w wq))
      case atStart => exact ⟨0, zs0, rfl, Nat.zero_le _, by omega, by omega, (by simp : zs0 = zs0 ++ (syms.take 0).flatMap symB), HRZ.out, HBZ.out⟩
      case round =>
        obtain ⟨k, ys, rfl, hk, hr, hyl4, HY, HR, HB⟩ := hrel
        by_cases hlt : k < l2
        · rcases H2.out.cells with h0 | ⟨b, off, hA, hcl⟩
          · omega
          obtain ⟨k0, k1, k2⟩ := hcl k hlt
          have hbl : b < w.heap.size := World.block_lt_of_cell? w ⟨b, off + k * 3, none⟩ k0
          have q0 := (HB.out.cell (p := ⟨b, off + k * 3, none⟩) hbl).trans k0
          have q1 := (HB.out.cell (p := ⟨b, off + k * 3 + 1, none⟩) hbl).trans k1
          have q2 := (HB.out.cell (p := ⟨b, off + k * 3 + 2, none⟩) hbl).trans k2
          have hin' := HSI.out (syms.getD k noSym) (by have := HN.out.2; simp [List.getD, show k < syms.length by omega])
          have HTK : Hid _ := flat_snoc symB syms noSym k (by have := HN.out.2; omega)
          obtain ⟨⟨nm, kd, ps⟩, hz⟩ : ∃ z, syms.getD k noSym = z := ⟨_, rfl⟩
          rw [hz] at q0 q1 q2 hin' HTK
          simp only at q0 q1 q2
          obtain ⟨i1, ⟨i2, i3⟩, i4, i5⟩ := hin'
          simp only at i1 i2 i3 i4 i5
          have u1 := txt_bd (s := nm) (by omega)
          have u2 := W.put_bd ps i4 (by omega)
          have u3 : ∀ n ∈ [kd], 0 ≤ n ∧ n ≤ 255 := by intro n hn; simp at hn; omega
          have w1 := W.put_length (nm.size : Int)
          have w2 := W.put_length ps
          obtain ⟨tn, htn⟩ : ∃ t, strOfNums (txt nm) = t := ⟨_, rfl⟩
          obtain ⟨tk, htk⟩ : ∃ t, strOfNums [kd] = t := ⟨_, rfl⟩
          obtain ⟨tp, htp⟩ : ∃ t, strOfNums (W.put ps) = t := ⟨_, rfl⟩
          have zn : tn.size ≤ 40 := by rw [← htn, size_of u1]; simp only [txt, List.length_append, nums_len]; omega
          have zk : tk.size = 1 := by rw [← htk, size_of u3]; rfl
          have zp : tp.size ≤ 10 := by rw [← htp, size_of u2]; omega
          have NS : Hid (nums (tn ++ tk ++ tp) = symB ⟨nm, kd, ps⟩) := by
            show _ = _
            rw [nums_app, nums_app, ← htn, ← htk, ← htp, nums_of u1, nums_of u2, nums_of u3]
            simp [symB]
          have HTN : Hid _ := htn
          have HTKD : Hid _ := htk
          have HTP : Hid _ := htp
          have hkd : IntKind.u8.wrap kd = kd := by rw [IntKind.wrap_u8']; omega
          have hkd' : kd % 256 = kd := by omega
          subst hA
          have hii : (k : Int) < l2 := by omega
          have hin : 0 ≤ (k : Int) := by omega
          have hzs : ys.length + (tn ++ tk ++ tp).size ≤ 140737488355328 := by simp only [ByteArray.size_append]; omega
          clear hcl k0 k1 k2 hz u1 u2 u3 w1 w2 htn htk htp i2 i3
          have hcat1 : ¬ (9223372036854775807 < tn.size + 1) := by omega
          have hcat2 : ¬ (9223372036854775807 < tn.size + 1 + tp.size) := by omega
          go_wp2_with fail
          have HDW : Hid (Below wr.heap.size wr wr.drew) := (Below.refl _ _).drew
          refine wp_region_held_drew (S := (fun w' : World => (w'.cell? ⟨b, off + k * 3, none⟩ = some (.string nm) ∧ w'.cell? ⟨b, off + k * 3 + 1, none⟩ = some (.int .i64 kd) ∧ w'.cell? ⟨b, off + k * 3 + 2, none⟩ = some (.int .i64 ps)))) (by kernel_rfl) ⟨q0, q1, q2⟩ (fun hHeld => ?_)
          refine wpAnyH_take (i := 0) (v := ?_) (get0 _ _) (by kernel_rfl) (by kernel_rfl) (by kernel_rfl) (fun _ _ _ h => h) (Or.inl ⟨by rfl, ?_⟩) (by assumption) ?_
          rotate_left
          · (intro w hSw; (try dsimp only at hSw); go_simp <;> with_reducible rfl)
          simp only [Act.put, List.setIfInBounds_toArray, List.set_cons_zero, List.set_cons_succ]
          refine wpAnyH_take (i := 1) (v := ?_) (get1 (get0 _ _)) (by kernel_rfl) (by kernel_rfl) (by kernel_rfl) (fun _ _ _ h => h) (Or.inl ⟨by rfl, ?_⟩) (by assumption) ?_
          rotate_left
          · (intro w hSw; (try dsimp only at hSw); go_simp <;> with_reducible rfl)
          simp only [Act.put, List.setIfInBounds_toArray, List.set_cons_zero, List.set_cons_succ]
          refine wpAnyH_take (i := 2) (v := ?_) (get1 (get1 (get0 _ _))) (by kernel_rfl) (by kernel_rfl) (by kernel_rfl) (fun _ _ _ h => h) (Or.inl ⟨by rfl, ?_⟩) (by assumption) ?_
          rotate_left
          · (intro w hSw; (try dsimp only at hSw); go_simp <;> with_reducible rfl)
          simp only [Act.put, List.setIfInBounds_toArray, List.set_cons_zero, List.set_cons_succ]
          refine wpAnyH_take (i := 3) (v := ?_) (get1 (get1 (get1 (get0 _ _)))) (by kernel_rfl) (by kernel_rfl) (by kernel_rfl) (fun _ _ _ h => h) (Or.inl ⟨by rfl, ?_⟩) (by assumption) ?_
          rotate_left
          · (intro w hSw; (try dsimp only at hSw); go_simp <;> with_reducible rfl)
          simp only [Act.put, List.setIfInBounds_toArray, List.set_cons_zero, List.set_cons_succ]
          refine wpAnyH_take (i := 4) (v := ?_) (get1 (get1 (get1 (get1 (get0 _ _))))) (by kernel_rfl) (by kernel_rfl) (by kernel_rfl) (fun _ _ _ h => h) (Or.inl ⟨by rfl, ?_⟩) (by assumption) ?_
          rotate_left
          · (intro w hSw; (try dsimp only at hSw); go_simp <;> with_reducible rfl)
          simp only [Act.put, List.setIfInBounds_toArray, List.set_cons_zero, List.set_cons_succ]
          refine wpAnyH_take (i := 5) (v := ?_) (get1 (get1 (get1 (get1 (get1 (get0 _ _)))))) (by kernel_rfl) (by kernel_rfl) (by kernel_rfl) (fun _ _ _ h => h) (Or.inl ⟨by rfl, ?_⟩) (by assumption) ?_
          rotate_left
          · (intro w hSw; (try dsimp only at hSw); go_simp <;> with_reducible rfl)
          simp only [Act.put, List.setIfInBounds_toArray, List.set_cons_zero, List.set_cons_succ]
          refine wpAnyH_take (i := 7) (v := ?_) (get1 (get1 (get1 (get1 (get1 (get1 (get1 (get0 _ _)))))))) (by kernel_rfl) (by kernel_rfl) (by kernel_rfl) (fun _ _ _ h => h) (Or.inl ⟨by rfl, ?_⟩) (by assumption) ?_
          rotate_left
          · (intro w hSw; (try dsimp only at hSw); go_simp <;> with_reducible rfl)
          simp only [Act.put, List.setIfInBounds_toArray, List.set_cons_zero, List.set_cons_succ]
          refine wpAnyH_take (i := 8) (v := ?_) (get1 (get1 (get1 (get1 (get1 (get1 (get1 (get1 (get0 _ _))))))))) (by kernel_rfl) (by kernel_rfl) (by kernel_rfl) (fun _ _ _ h => h) (Or.inl ⟨by rfl, ?_⟩) (by assumption) ?_
          rotate_left
          · (intro w hSw; (try dsimp only at hSw); go_simp <;> with_reducible rfl)
          simp only [Act.put, List.setIfInBounds_toArray, List.set_cons_zero, List.set_cons_succ]
          refine wpAnyH_take (i := 9) (v := ?_) (get1 (get1 (get1 (get1 (get1 (get1 (get1 (get1 (get1 (get0 _ _)))))))))) (by kernel_rfl) (by kernel_rfl) (by kernel_rfl) (fun _ _ _ h => h) (Or.inl ⟨by rfl, ?_⟩) (by assumption) ?_
          rotate_left
          · (intro w hSw; (try dsimp only at hSw); go_simp <;> with_reducible rfl)
          simp only [Act.put, List.setIfInBounds_toArray, List.set_cons_zero, List.set_cons_succ]
          refine wpAnyH_take (i := 10) (v := ?_) (get1 (get1 (get1 (get1 (get1 (get1 (get1 (get1 (get1 (get1 (get0 _ _))))))))))) (by kernel_rfl) (by kernel_rfl) (by kernel_rfl) (fun _ _ _ h => h) (Or.inl ⟨by rfl, ?_⟩) (by assumption) ?_
          rotate_left
          · (intro w hSw; (try dsimp only at hSw); go_simp <;> with_reducible rfl)
          simp only [Act.put, List.setIfInBounds_toArray, List.set_cons_zero, List.set_cons_succ]
          refine wpAnyH_take (i := 11) (v := ?_) (get1 (get1 (get1 (get1 (get1 (get1 (get1 (get1 (get1 (get1 (get1 (get0 _ _)))))))))))) (by kernel_rfl) (by kernel_rfl) (by kernel_rfl) (fun _ _ _ h => h) (Or.inl ⟨by rfl, ?_⟩) (by assumption) ?_
          rotate_left
          · (intro w hSw; (try dsimp only at hSw); go_simp <;> with_reducible rfl)
          simp only [Act.put, List.setIfInBounds_toArray, List.set_cons_zero, List.set_cons_succ]
          refine wpAnyH_take (i := 12) (v := ?_) (get1 (get1 (get1 (get1 (get1 (get1 (get1 (get1 (get1 (get1 (get1 (get1 (get0 _ _))))))))))))) (by kernel_rfl) (by kernel_rfl) (by kernel_rfl) (fun _ _ _ h => h) (Or.inl ⟨by rfl, ?_⟩) (by assumption) ?_
          rotate_left
          · (intro w hSw; (try dsimp only at hSw); go_simp <;> with_reducible rfl)
          simp only [Act.put, List.setIfInBounds_toArray, List.set_cons_zero, List.set_cons_succ]
          refine wpAnyH_take (i := 16) (v := ?_) (get1 (get1 (get1 (get1 (get1 (get1 (get1 (get1 (get1 (get1 (get1 (get1 (get1 (get1 (get1 (get1 (get0 _ _))))))))))))))))) (by kernel_rfl) (by kernel_rfl) (by kernel_rfl) (fun _ _ _ h => h) (Or.inl ⟨by rfl, ?_⟩) (by assumption) ?_
          rotate_left
          · (intro w hSw; (try dsimp only at hSw); go_simp <;> with_reducible rfl)
          simp only [Act.put, List.setIfInBounds_toArray, List.set_cons_zero, List.set_cons_succ]
          refine wpAnyH_take (i := 17) (v := ?_) (get1 (get1 (get1 (get1 (get1 (get1 (get1 (get1 (get1 (get1 (get1 (get1 (get1 (get1 (get1 (get1 (get1 (get0 _ _)))))))))))))))))) (by kernel_rfl) (by kernel_rfl) (by kernel_rfl) (fun _ _ _ h => h) (Or.inl ⟨by rfl, ?_⟩) (by assumption) ?_
          rotate_left
          · (intro w hSw; (try dsimp only at hSw); go_simp <;> with_reducible rfl)
          simp only [Act.put, List.setIfInBounds_toArray, List.set_cons_zero, List.set_cons_succ]
          refine wpAnyH_take (i := 18) (v := ?_) (get1 (get1 (get1 (get1 (get1 (get1 (get1 (get1 (get1 (get1 (get1 (get1 (get1 (get1 (get1 (get1 (get1 (get1 (get0 _ _))))))))))))))))))) (by kernel_rfl) (by kernel_rfl) (by kernel_rfl) (fun _ _ _ h => h) (Or.inl ⟨by rfl, ?_⟩) (by assumption) ?_
          rotate_left
          · (intro w hSw; (try dsimp only at hSw); go_simp <;> with_reducible rfl)
          simp only [Act.put, List.setIfInBounds_toArray, List.set_cons_zero, List.set_cons_succ]
          refine wpAnyH_take (i := 19) (v := ?_) (get1 (get1 (get1 (get1 (get1 (get1 (get1 (get1 (get1 (get1 (get1 (get1 (get1 (get1 (get1 (get1 (get1 (get1 (get1 (get0 _ _)))))))))))))))))))) (by kernel_rfl) (by kernel_rfl) (by kernel_rfl) (fun _ _ _ h => h) (Or.inl ⟨by rfl, ?_⟩) (by assumption) ?_
          rotate_left
          · (intro w hSw; (try dsimp only at hSw); go_simp <;> with_reducible rfl)
          simp only [Act.put, List.setIfInBounds_toArray, List.set_cons_zero, List.set_cons_succ]
          refine wpAnyH_take (i := 20) (v := ?_) (get1 (get1 (get1 (get1 (get1 (get1 (get1 (get1 (get1 (get1 (get1 (get1 (get1 (get1 (get1 (get1 (get1 (get1 (get1 (get1 (get0 _ _))))))))))))))))))))) (by kernel_rfl) (by kernel_rfl) (by kernel_rfl) (fun _ _ _ h => h) (Or.inl ⟨by rfl, ?_⟩) (by assumption) ?_
          rotate_left
          · (intro w hSw; (try dsimp only at hSw); go_simp <;> with_reducible rfl)
          simp only [Act.put, List.setIfInBounds_toArray, List.set_cons_zero, List.set_cons_succ]
          refine wpAnyH_ready (rs := [6, 13]) (by kernel_rfl) (by simp) ?_
          refine AllReadyH.cons (get1 (get1 (get1 (get1 (get1 (get1 (get0 _ _))))))) (fun K hK => ?_) ?_
          · go_simp
            refine (dtext_any nm (by omega) _).mono ?_
            rintro e ya ⟨rfl, hya⟩
            rw [HTN.out]
            have HDW : Hid (Below wr.heap.size wr ya) := HDW.out.trans (hya.mono HDW.out.size)
            try go_wp2_with fail
            refine hK.out _ _ ⟨cell_thru hya hHeld.1, cell_thru hya hHeld.2.1, cell_thru hya hHeld.2.2⟩ (fun hHeld => ?_)
            clear hK K hya
            try simp only [Act.put, List.setIfInBounds_toArray, List.set_cons_zero, List.set_cons_succ]
            refine wpAnyH_ready (rs := [13, 21]) (by kernel_rfl) (by simp) ?_
            refine AllReadyH.cons (get1 (get1 (get1 (get1 (get1 (get1 (get1 (get1 (get1 (get1 (get1 (get1 (get1 (get0 _ _)))))))))))))) (fun K hK => ?_) ?_
            · go_simp
              have hyb : Below ya.heap.size ya (ya.alloc (.cells #[.int .u8 kd] 5)) := bl_one _ _
              have HDW : Hid (Below wr.heap.size wr (ya.alloc (.cells #[.int .u8 kd] 5))) := HDW.out.trans (hyb.mono HDW.out.size)
              have hcb : (ya.alloc (.cells #[.int .u8 kd] 5)).cell? ⟨ya.heap.size, 0, none⟩ = some (.int .u8 kd) := cell_last rfl rfl
              refine hK.out _ _ ⟨cell_thru hyb hHeld.1, cell_thru hyb hHeld.2.1, cell_thru hyb hHeld.2.2⟩ (fun hHeld => ?_)
              clear hK K hyb
              try simp only [Act.put, List.setIfInBounds_toArray, List.set_cons_zero, List.set_cons_succ]
              obtain ⟨yb, hyb⟩ : ∃ Y, (ya.alloc (.cells #[.int .u8 kd] 5)) = Y := ⟨_, rfl⟩
              rw [hyb] at HDW hcb hHeld ⊢
              clear hyb
              refine wpAnyH_ready (rs := [14, 21]) (by kernel_rfl) (by simp) ?_
              refine AllReadyH.cons (get1 (get1 (get1 (get1 (get1 (get1 (get1 (get1 (get1 (get1 (get1 (get1 (get1 (get1 (get0 _ _))))))))))))))) (fun K hK => ?_) ?_
              · have hcv := one_conv hcb
                rw [HTKD.out] at hcv
                go_simp
                refine hK.out _ _ hHeld (fun hHeld => ?_)
                clear hK K hcv
                try simp only [Act.put, List.setIfInBounds_toArray, List.set_cons_zero, List.set_cons_succ]
                refine wpAnyH_take (i := 15) (v := ?_) (get1 (get1 (get1 (get1 (get1 (get1 (get1 (get1 (get1 (get1 (get1 (get1 (get1 (get1 (get1 (get0 _ _)))))))))))))))) (by kernel_rfl) (by kernel_rfl) (by kernel_rfl) (fun _ _ _ h => h) (Or.inl ⟨by rfl, ?_⟩) (by assumption) ?_
                rotate_left
                · (intro w hSw; (try dsimp only at hSw); go_simp <;> with_reducible rfl)
                simp only [Act.put, List.setIfInBounds_toArray, List.set_cons_zero, List.set_cons_succ]
                refine wpAnyH_ready (rs := [21]) (by kernel_rfl) (by simp) ?_
                refine AllReadyH.cons (get1 (get1 (get1 (get1 (get1 (get1 (get1 (get1 (get1 (get1 (get1 (get1 (get1 (get1 (get1 (get1 (get1 (get1 (get1 (get1 (get1 (get0 _ _)))))))))))))))))))))) (fun K hK => ?_) ?_
                · go_simp
                  refine (dnumber_any ps i4 (by omega) _).mono ?_
                  rintro e yd ⟨rfl, hyd⟩
                  rw [HTP.out]
                  have HDW : Hid (Below wr.heap.size wr yd) := HDW.out.trans (hyd.mono HDW.out.size)
                  try go_wp2_with fail
                  refine hK.out _ _ ⟨cell_thru hyd hHeld.1, cell_thru hyd hHeld.2.1, cell_thru hyd hHeld.2.2⟩ (fun hHeld => ?_)
                  have hcb := cell_thru hyd hcb
                  clear hK K hyd
                  try simp only [Act.put, List.setIfInBounds_toArray, List.set_cons_zero, List.set_cons_succ]
                  refine wpAnyH_take (i := 22) (v := ?_) (get1 (get1 (get1 (get1 (get1 (get1 (get1 (get1 (get1 (get1 (get1 (get1 (get1 (get1 (get1 (get1 (get1 (get1 (get1 (get1 (get1 (get1 (get0 _ _))))))))))))))))))))))) (by kernel_rfl) (by kernel_rfl) (by kernel_rfl) (fun _ _ _ h => h) (Or.inl ⟨by rfl, ?_⟩) (by assumption) ?_
                  rotate_left
                  · (intro w hSw; (try dsimp only at hSw); go_simp <;> with_reducible rfl)
                  simp only [Act.put, List.setIfInBounds_toArray, List.set_cons_zero, List.set_cons_succ]
                  refine wpAnyH_ready (rs := [23]) (by kernel_rfl) (by simp) ?_
                  refine AllReadyH.cons (get1 (get1 (get1 (get1 (get1 (get1 (get1 (get1 (get1 (get1 (get1 (get1 (get1 (get1 (get1 (get1 (get1 (get1 (get1 (get1 (get1 (get1 (get1 (get0 _ _)))))))))))))))))))))))) (fun K hK => ?_) AllReadyH.nil
                  have HRC : Hid _ := HR.out.below HDW.out
                  have HBC : Hid (Below w.heap.size w yd) := HB.out.trans (HDW.out.mono HB.out.size)
                  refine step_append_rm (by rfl) _ _ (by rfl) (by rfl) HRC.out HBC.out.size (tn ++ tk ++ tp) (by rfl) hzs ?_
                  intro v' y' hrm' hgr
                  have hbn : Below w.heap.size yd y' := rm_gr HRC.out hgr HBC.out.size
                  have HBN : Hid (Below w.heap.size w y') := HBC.out.trans hbn
                  have HRN : Hid (RM y' w.heap.size v' (ys ++ symB ⟨nm, kd, ps⟩)) := by show RM _ _ _ _; rw [← NS.out]; exact hrm'
                  refine hK.out _ _ ⟨(hbn.cell (p := ⟨b, off + k * 3, none⟩) hbl).trans hHeld.1, (hbn.cell (p := ⟨b, off + k * 3 + 1, none⟩) hbl).trans hHeld.2.1, (hbn.cell (p := ⟨b, off + k * 3 + 2, none⟩) hbl).trans hHeld.2.2⟩ (fun hHeld => ?_)
                  clear hK K hrm' hgr hbn
                  try simp only [Act.put, List.setIfInBounds_toArray, List.set_cons_zero, List.set_cons_succ]
                  refine wpAnyH_take (i := 24) (v := ?_) (get1 (get1 (get1 (get1 (get1 (get1 (get1 (get1 (get1 (get1 (get1 (get1 (get1 (get1 (get1 (get1 (get1 (get1 (get1 (get1 (get1 (get1 (get1 (get1 (get0 _ _))))))))))))))))))))))))) (by kernel_rfl) (by kernel_rfl) (by kernel_rfl) (fun _ _ _ h => h) (Or.inl ⟨by rfl, ?_⟩) (by assumption) ?_
                  rotate_left
                  · (intro w hSw; (try dsimp only at hSw); go_simp <;> with_reducible rfl)
                  simp only [Act.put, List.setIfInBounds_toArray, List.set_cons_zero, List.set_cons_succ]
                  refine wpAnyH_done (by kernel_rfl) ?_ _
                  clear hHeld
                  have HYN : Hid (ys ++ symB ⟨nm, kd, ps⟩ = zs0 ++ (syms.take (k + 1)).flatMap symB) := by show _ = _; rw [HTK.out, HY.out, List.append_assoc]
                  have hlz : (ys ++ symB ⟨nm, kd, ps⟩).length ≤ 100010 + 1100 * (k + 1) := by rw [List.length_append]; have := symB_len (s := ⟨nm, kd, ps⟩) (by show nm.size ≤ 1000; omega); omega
                  go_wp2_with fail
                  go_roundg (l2 - (k + 1))
                  case measure => omega
                  case rel => exact ⟨k + 1, _, by first | rfl | (congr 1; omega), by omega, Nat.le_refl _, hlz, HYN.out, HRN.out, HBN.out⟩
                exact AllReadyH.nil
              refine AllReadyH.cons (get1 (get1 (get1 (get1 (get1 (get1 (get1 (get1 (get1 (get1 (get1 (get1 (get1 (get1 (get1 (get1 (get1 (get1 (get1 (get1 (get1 (get0 _ _)))))))))))))))))))))) (fun K hK => ?_) ?_
              · go_simp
                refine (dnumber_any ps i4 (by omega) _).mono ?_
                rintro e yd ⟨rfl, hyd⟩
                rw [HTP.out]
                have HDW : Hid (Below wr.heap.size wr yd) := HDW.out.trans (hyd.mono HDW.out.size)
                try go_wp2_with fail
                refine hK.out _ _ ⟨cell_thru hyd hHeld.1, cell_thru hyd hHeld.2.1, cell_thru hyd hHeld.2.2⟩ (fun hHeld => ?_)
                have hcb := cell_thru hyd hcb
                clear hK K hyd
                try simp only [Act.put, List.setIfInBounds_toArray, List.set_cons_zero, List.set_cons_succ]
                refine wpAnyH_ready (rs := [14]) (by kernel_rfl) (by simp) ?_
                refine AllReadyH.cons (get1 (get1 (get1 (get1 (get1 (get1 (get1 (get1 (get1 (get1 (get1 (get1 (get1 (get1 (get0 _ _))))))))))))))) (fun K hK => ?_) ?_
                · have hcv := one_conv hcb
                  rw [HTKD.out] at hcv
                  go_simp
                  refine hK.out _ _ hHeld (fun hHeld => ?_)
                  clear hK K hcv
                  try simp only [Act.put, List.setIfInBounds_toArray, List.set_cons_zero, List.set_cons_succ]
                  refine wpAnyH_take (i := 15) (v := ?_) (get1 (get1 (get1 (get1 (get1 (get1 (get1 (get1 (get1 (get1 (get1 (get1 (get1 (get1 (get1 (get0 _ _)))))))))))))))) (by kernel_rfl) (by kernel_rfl) (by kernel_rfl) (fun _ _ _ h => h) (Or.inl ⟨by rfl, ?_⟩) (by assumption) ?_
                  rotate_left
                  · (intro w hSw; (try dsimp only at hSw); go_simp <;> with_reducible rfl)
                  simp only [Act.put, List.setIfInBounds_toArray, List.set_cons_zero, List.set_cons_succ]
                  refine wpAnyH_take (i := 22) (v := ?_) (get1 (get1 (get1 (get1 (get1 (get1 (get1 (get1 (get1 (get1 (get1 (get1 (get1 (get1 (get1 (get1 (get1 (get1 (get1 (get1 (get1 (get1 (get0 _ _))))))))))))))))))))))) (by kernel_rfl) (by kernel_rfl) (by kernel_rfl) (fun _ _ _ h => h) (Or.inl ⟨by rfl, ?_⟩) (by assumption) ?_
                  rotate_left
                  · (intro w hSw; (try dsimp only at hSw); go_simp <;> with_reducible rfl)
                  simp only [Act.put, List.setIfInBounds_toArray, List.set_cons_zero, List.set_cons_succ]
                  refine wpAnyH_ready (rs := [23]) (by kernel_rfl) (by simp) ?_
                  refine AllReadyH.cons (get1 (get1 (get1 (get1 (get1 (get1 (get1 (get1 (get1 (get1 (get1 (get1 (get1 (get1 (get1 (get1 (get1 (get1 (get1 (get1 (get1 (get1 (get1 (get0 _ _)))))))))))))))))))))))) (fun K hK => ?_) AllReadyH.nil
                  have HRC : Hid _ := HR.out.below HDW.out
                  have HBC : Hid (Below w.heap.size w yd) := HB.out.trans (HDW.out.mono HB.out.size)
                  refine step_append_rm (by rfl) _ _ (by rfl) (by rfl) HRC.out HBC.out.size (tn ++ tk ++ tp) (by rfl) hzs ?_
                  intro v' y' hrm' hgr
                  have hbn : Below w.heap.size yd y' := rm_gr HRC.out hgr HBC.out.size
                  have HBN : Hid (Below w.heap.size w y') := HBC.out.trans hbn
                  have HRN : Hid (RM y' w.heap.size v' (ys ++ symB ⟨nm, kd, ps⟩)) := by show RM _ _ _ _; rw [← NS.out]; exact hrm'
                  refine hK.out _ _ ⟨(hbn.cell (p := ⟨b, off + k * 3, none⟩) hbl).trans hHeld.1, (hbn.cell (p := ⟨b, off + k * 3 + 1, none⟩) hbl).trans hHeld.2.1, (hbn.cell (p := ⟨b, off + k * 3 + 2, none⟩) hbl).trans hHeld.2.2⟩ (fun hHeld => ?_)
                  clear hK K hrm' hgr hbn
                  try simp only [Act.put, List.setIfInBounds_toArray, List.set_cons_zero, List.set_cons_succ]
                  refine wpAnyH_take (i := 24) (v := ?_) (get1 (get1 (get1 (get1 (get1 (get1 (get1 (get1 (get1 (get1 (get1 (get1 (get1 (get1 (get1 (get1 (get1 (get1 (get1 (get1 (get1 (get1 (get1 (get1 (get0 _ _))))))))))))))))))))))))) (by kernel_rfl) (by kernel_rfl) (by kernel_rfl) (fun _ _ _ h => h) (Or.inl ⟨by rfl, ?_⟩) (by assumption) ?_
                  rotate_left
                  · (intro w hSw; (try dsimp only at hSw); go_simp <;> with_reducible rfl)
                  simp only [Act.put, List.setIfInBounds_toArray, List.set_cons_zero, List.set_cons_succ]
                  refine wpAnyH_done (by kernel_rfl) ?_ _
                  clear hHeld
                  have HYN : Hid (ys ++ symB ⟨nm, kd, ps⟩ = zs0 ++ (syms.take (k + 1)).flatMap symB) := by show _ = _; rw [HTK.out, HY.out, List.append_assoc]
                  have hlz : (ys ++ symB ⟨nm, kd, ps⟩).length ≤ 100010 + 1100 * (k + 1) := by rw [List.length_append]; have := symB_len (s := ⟨nm, kd, ps⟩) (by show nm.size ≤ 1000; omega); omega
                  go_wp2_with fail
                  go_roundg (l2 - (k + 1))
                  case measure => omega
                  case rel => exact ⟨k + 1, _, by first | rfl | (congr 1; omega), by omega, Nat.le_refl _, hlz, HYN.out, HRN.out, HBN.out⟩
                exact AllReadyH.nil
              exact AllReadyH.nil
            refine AllReadyH.cons (get1 (get1 (get1 (get1 (get1 (get1 (get1 (get1 (get1 (get1 (get1 (get1 (get1 (get1 (get1 (get1 (get1 (get1 (get1 (get1 (get1 (get0 _ _)))))))))))))))))))))) (fun K hK => ?_) ?_
            · go_simp
              refine (dnumber_any ps i4 (by omega) _).mono ?_
              rintro e yd ⟨rfl, hyd⟩
              rw [HTP.out]
              have HDW : Hid (Below wr.heap.size wr yd) := HDW.out.trans (hyd.mono HDW.out.size)
              try go_wp2_with fail
              refine hK.out _ _ ⟨cell_thru hyd hHeld.1, cell_thru hyd hHeld.2.1, cell_thru hyd hHeld.2.2⟩ (fun hHeld => ?_)
              clear hK K hyd
              try simp only [Act.put, List.setIfInBounds_toArray, List.set_cons_zero, List.set_cons_succ]
              refine wpAnyH_ready (rs := [13]) (by kernel_rfl) (by simp) ?_
              refine AllReadyH.cons (get1 (get1 (get1 (get1 (get1 (get1 (get1 (get1 (get1 (get1 (get1 (get1 (get1 (get0 _ _)))))))))))))) (fun K hK => ?_) ?_
              · go_simp
                have hyb : Below yd.heap.size yd (yd.alloc (.cells #[.int .u8 kd] 5)) := bl_one _ _
                have HDW : Hid (Below wr.heap.size wr (yd.alloc (.cells #[.int .u8 kd] 5))) := HDW.out.trans (hyb.mono HDW.out.size)
                have hcb : (yd.alloc (.cells #[.int .u8 kd] 5)).cell? ⟨yd.heap.size, 0, none⟩ = some (.int .u8 kd) := cell_last rfl rfl
                refine hK.out _ _ ⟨cell_thru hyb hHeld.1, cell_thru hyb hHeld.2.1, cell_thru hyb hHeld.2.2⟩ (fun hHeld => ?_)
                clear hK K hyb
                try simp only [Act.put, List.setIfInBounds_toArray, List.set_cons_zero, List.set_cons_succ]
                obtain ⟨yb, hyb⟩ : ∃ Y, (yd.alloc (.cells #[.int .u8 kd] 5)) = Y := ⟨_, rfl⟩
                rw [hyb] at HDW hcb hHeld ⊢
                clear hyb
                refine wpAnyH_ready (rs := [14]) (by kernel_rfl) (by simp) ?_
                refine AllReadyH.cons (get1 (get1 (get1 (get1 (get1 (get1 (get1 (get1 (get1 (get1 (get1 (get1 (get1 (get1 (get0 _ _))))))))))))))) (fun K hK => ?_) ?_
                · have hcv := one_conv hcb
                  rw [HTKD.out] at hcv
                  go_simp
                  refine hK.out _ _ hHeld (fun hHeld => ?_)
                  clear hK K hcv
                  try simp only [Act.put, List.setIfInBounds_toArray, List.set_cons_zero, List.set_cons_succ]
                  refine wpAnyH_take (i := 15) (v := ?_) (get1 (get1 (get1 (get1 (get1 (get1 (get1 (get1 (get1 (get1 (get1 (get1 (get1 (get1 (get1 (get0 _ _)))))))))))))))) (by kernel_rfl) (by kernel_rfl) (by kernel_rfl) (fun _ _ _ h => h) (Or.inl ⟨by rfl, ?_⟩) (by assumption) ?_
                  rotate_left
                  · (intro w hSw; (try dsimp only at hSw); go_simp <;> with_reducible rfl)
                  simp only [Act.put, List.setIfInBounds_toArray, List.set_cons_zero, List.set_cons_succ]
                  refine wpAnyH_take (i := 22) (v := ?_) (get1 (get1 (get1 (get1 (get1 (get1 (get1 (get1 (get1 (get1 (get1 (get1 (get1 (get1 (get1 (get1 (get1 (get1 (get1 (get1 (get1 (get1 (get0 _ _))))))))))))))))))))))) (by kernel_rfl) (by kernel_rfl) (by kernel_rfl) (fun _ _ _ h => h) (Or.inl ⟨by rfl, ?_⟩) (by assumption) ?_
                  rotate_left
                  · (intro w hSw; (try dsimp only at hSw); go_simp <;> with_reducible rfl)
                  simp only [Act.put, List.setIfInBounds_toArray, List.set_cons_zero, List.set_cons_succ]
                  refine wpAnyH_ready (rs := [23]) (by kernel_rfl) (by simp) ?_
                  refine AllReadyH.cons (get1 (get1 (get1 (get1 (get1 (get1 (get1 (get1 (get1 (get1 (get1 (get1 (get1 (get1 (get1 (get1 (get1 (get1 (get1 (get1 (get1 (get1 (get1 (get0 _ _)))))))))))))))))))))))) (fun K hK => ?_) AllReadyH.nil
                  have HRC : Hid _ := HR.out.below HDW.out
                  have HBC : Hid (Below w.heap.size w yb) := HB.out.trans (HDW.out.mono HB.out.size)
                  refine step_append_rm (by rfl) _ _ (by rfl) (by rfl) HRC.out HBC.out.size (tn ++ tk ++ tp) (by rfl) hzs ?_
                  intro v' y' hrm' hgr
                  have hbn : Below w.heap.size yb y' := rm_gr HRC.out hgr HBC.out.size
                  have HBN : Hid (Below w.heap.size w y') := HBC.out.trans hbn
                  have HRN : Hid (RM y' w.heap.size v' (ys ++ symB ⟨nm, kd, ps⟩)) := by show RM _ _ _ _; rw [← NS.out]; exact hrm'
                  refine hK.out _ _ ⟨(hbn.cell (p := ⟨b, off + k * 3, none⟩) hbl).trans hHeld.1, (hbn.cell (p := ⟨b, off + k * 3 + 1, none⟩) hbl).trans hHeld.2.1, (hbn.cell (p := ⟨b, off + k * 3 + 2, none⟩) hbl).trans hHeld.2.2⟩ (fun hHeld => ?_)
                  clear hK K hrm' hgr hbn
                  try simp only [Act.put, List.setIfInBounds_toArray, List.set_cons_zero, List.set_cons_succ]
                  refine wpAnyH_take (i := 24) (v := ?_) (get1 (get1 (get1 (get1 (get1 (get1 (get1 (get1 (get1 (get1 (get1 (get1 (get1 (get1 (get1 (get1 (get1 (get1 (get1 (get1 (get1 (get1 (get1 (get1 (get0 _ _))))))))))))))))))))))))) (by kernel_rfl) (by kernel_rfl) (by kernel_rfl) (fun _ _ _ h => h) (Or.inl ⟨by rfl, ?_⟩) (by assumption) ?_
                  rotate_left
                  · (intro w hSw; (try dsimp only at hSw); go_simp <;> with_reducible rfl)
                  simp only [Act.put, List.setIfInBounds_toArray, List.set_cons_zero, List.set_cons_succ]
                  refine wpAnyH_done (by kernel_rfl) ?_ _
                  clear hHeld
                  have HYN : Hid (ys ++ symB ⟨nm, kd, ps⟩ = zs0 ++ (syms.take (k + 1)).flatMap symB) := by show _ = _; rw [HTK.out, HY.out, List.append_assoc]
                  have hlz : (ys ++ symB ⟨nm, kd, ps⟩).length ≤ 100010 + 1100 * (k + 1) := by rw [List.length_append]; have := symB_len (s := ⟨nm, kd, ps⟩) (by show nm.size ≤ 1000; omega); omega
                  go_wp2_with fail
                  go_roundg (l2 - (k + 1))
                  case measure => omega
                  case rel => exact ⟨k + 1, _, by first | rfl | (congr 1; omega), by omega, Nat.le_refl _, hlz, HYN.out, HRN.out, HBN.out⟩
                exact AllReadyH.nil
              exact AllReadyH.nil
            exact AllReadyH.nil
          refine AllReadyH.cons (get1 (get1 (get1 (get1 (get1 (get1 (get1 (get1 (get1 (get1 (get1 (get1 (get1 (get0 _ _)))))))))))))) (fun K hK => ?_) ?_
          · go_simp
            have hyb : Below wr.drew.heap.size wr.drew ((wr.alloc (.cells #[.int .u8 kd] 5)).drew) := bl_one wr.drew _
            have HDW : Hid (Below wr.heap.size wr ((wr.alloc (.cells #[.int .u8 kd] 5)).drew)) := HDW.out.trans (hyb.mono HDW.out.size)
            have hcb : ((wr.alloc (.cells #[.int .u8 kd] 5)).drew).cell? ⟨wr.heap.size, 0, none⟩ = some (.int .u8 kd) := by rw [World.cell?_drew]; exact cell_last rfl rfl
            refine hK.out _ _ ⟨cell_thru hyb hHeld.1, cell_thru hyb hHeld.2.1, cell_thru hyb hHeld.2.2⟩ (fun hHeld => ?_)
            clear hK K hyb
            try simp only [Act.put, List.setIfInBounds_toArray, List.set_cons_zero, List.set_cons_succ]
            obtain ⟨yb, hyb⟩ : ∃ Y, ((wr.alloc (.cells #[.int .u8 kd] 5)).drew) = Y := ⟨_, rfl⟩
            rw [hyb] at HDW hcb hHeld ⊢
            clear hyb
            refine wpAnyH_ready (rs := [6, 14]) (by kernel_rfl) (by simp) ?_
            refine AllReadyH.cons (get1 (get1 (get1 (get1 (get1 (get1 (get0 _ _))))))) (fun K hK => ?_) ?_
            · go_simp
              refine (dtext_any nm (by omega) _).mono ?_
              rintro e ya ⟨rfl, hya⟩
              rw [HTN.out]
              have HDW : Hid (Below wr.heap.size wr ya) := HDW.out.trans (hya.mono HDW.out.size)
              try go_wp2_with fail
              refine hK.out _ _ ⟨cell_thru hya hHeld.1, cell_thru hya hHeld.2.1, cell_thru hya hHeld.2.2⟩ (fun hHeld => ?_)
              have hcb := cell_thru hya hcb
              clear hK K hya
              try simp only [Act.put, List.setIfInBounds_toArray, List.set_cons_zero, List.set_cons_succ]
              refine wpAnyH_ready (rs := [14, 21]) (by kernel_rfl) (by simp) ?_
              refine AllReadyH.cons (get1 (get1 (get1 (get1 (get1 (get1 (get1 (get1 (get1 (get1 (get1 (get1 (get1 (get1 (get0 _ _))))))))))))))) (fun K hK => ?_) ?_
              · have hcv := one_conv hcb
                rw [HTKD.out] at hcv
                go_simp
                refine hK.out _ _ hHeld (fun hHeld => ?_)
                clear hK K hcv
                try simp only [Act.put, List.setIfInBounds_toArray, List.set_cons_zero, List.set_cons_succ]
                refine wpAnyH_take (i := 15) (v := ?_) (get1 (get1 (get1 (get1 (get1 (get1 (get1 (get1 (get1 (get1 (get1 (get1 (get1 (get1 (get1 (get0 _ _)))))))))))))))) (by kernel_rfl) (by kernel_rfl) (by kernel_rfl) (fun _ _ _ h => h) (Or.inl ⟨by rfl, ?_⟩) (by assumption) ?_
                rotate_left
                · (intro w hSw; (try dsimp only at hSw); go_simp <;> with_reducible rfl)
                simp only [Act.put, List.setIfInBounds_toArray, List.set_cons_zero, List.set_cons_succ]
                refine wpAnyH_ready (rs := [21]) (by kernel_rfl) (by simp) ?_
                refine AllReadyH.cons (get1 (get1 (get1 (get1 (get1 (get1 (get1 (get1 (get1 (get1 (get1 (get1 (get1 (get1 (get1 (get1 (get1 (get1 (get1 (get1 (get1 (get0 _ _)))))))))))))))))))))) (fun K hK => ?_) ?_
                · go_simp
                  refine (dnumber_any ps i4 (by omega) _).mono ?_
                  rintro e yd ⟨rfl, hyd⟩
                  rw [HTP.out]
                  have HDW : Hid (Below wr.heap.size wr yd) := HDW.out.trans (hyd.mono HDW.out.size)
                  try go_wp2_with fail
                  refine hK.out _ _ ⟨cell_thru hyd hHeld.1, cell_thru hyd hHeld.2.1, cell_thru hyd hHeld.2.2⟩ (fun hHeld => ?_)
                  have hcb := cell_thru hyd hcb
                  clear hK K hyd
                  try simp only [Act.put, List.setIfInBounds_toArray, List.set_cons_zero, List.set_cons_succ]
                  refine wpAnyH_take (i := 22) (v := ?_) (get1 (get1 (get1 (get1 (get1 (get1 (get1 (get1 (get1 (get1 (get1 (get1 (get1 (get1 (get1 (get1 (get1 (get1 (get1 (get1 (get1 (get1 (get0 _ _))))))))))))))))))))))) (by kernel_rfl) (by kernel_rfl) (by kernel_rfl) (fun _ _ _ h => h) (Or.inl ⟨by rfl, ?_⟩) (by assumption) ?_
                  rotate_left
                  · (intro w hSw; (try dsimp only at hSw); go_simp <;> with_reducible rfl)
                  simp only [Act.put, List.setIfInBounds_toArray, List.set_cons_zero, List.set_cons_succ]
                  refine wpAnyH_ready (rs := [23]) (by kernel_rfl) (by simp) ?_
                  refine AllReadyH.cons (get1 (get1 (get1 (get1 (get1 (get1 (get1 (get1 (get1 (get1 (get1 (get1 (get1 (get1 (get1 (get1 (get1 (get1 (get1 (get1 (get1 (get1 (get1 (get0 _ _)))))))))))))))))))))))) (fun K hK => ?_) AllReadyH.nil
                  have HRC : Hid _ := HR.out.below HDW.out
                  have HBC : Hid (Below w.heap.size w yd) := HB.out.trans (HDW.out.mono HB.out.size)
                  refine step_append_rm (by rfl) _ _ (by rfl) (by rfl) HRC.out HBC.out.size (tn ++ tk ++ tp) (by rfl) hzs ?_
                  intro v' y' hrm' hgr
                  have hbn : Below w.heap.size yd y' := rm_gr HRC.out hgr HBC.out.size
                  have HBN : Hid (Below w.heap.size w y') := HBC.out.trans hbn
                  have HRN : Hid (RM y' w.heap.size v' (ys ++ symB ⟨nm, kd, ps⟩)) := by show RM _ _ _ _; rw [← NS.out]; exact hrm'
                  refine hK.out _ _ ⟨(hbn.cell (p := ⟨b, off + k * 3, none⟩) hbl).trans hHeld.1, (hbn.cell (p := ⟨b, off + k * 3 + 1, none⟩) hbl).trans hHeld.2.1, (hbn.cell (p := ⟨b, off + k * 3 + 2, none⟩) hbl).trans hHeld.2.2⟩ (fun hHeld => ?_)
                  clear hK K hrm' hgr hbn
                  try simp only [Act.put, List.setIfInBounds_toArray, List.set_cons_zero, List.set_cons_succ]
                  refine wpAnyH_take (i := 24) (v := ?_) (get1 (get1 (get1 (get1 (get1 (get1 (get1 (get1 (get1 (get1 (get1 (get1 (get1 (get1 (get1 (get1 (get1 (get1 (get1 (get1 (get1 (get1 (get1 (get1 (get0 _ _))))))))))))))))))))))))) (by kernel_rfl) (by kernel_rfl) (by kernel_rfl) (fun _ _ _ h => h) (Or.inl ⟨by rfl, ?_⟩) (by assumption) ?_
                  rotate_left
                  · (intro w hSw; (try dsimp only at hSw); go_simp <;> with_reducible rfl)
                  simp only [Act.put, List.setIfInBounds_toArray, List.set_cons_zero, List.set_cons_succ]
                  refine wpAnyH_done (by kernel_rfl) ?_ _
                  clear hHeld
                  have HYN : Hid (ys ++ symB ⟨nm, kd, ps⟩ = zs0 ++ (syms.take (k + 1)).flatMap symB) := by show _ = _; rw [HTK.out, HY.out, List.append_assoc]
                  have hlz : (ys ++ symB ⟨nm, kd, ps⟩).length ≤ 100010 + 1100 * (k + 1) := by rw [List.length_append]; have := symB_len (s := ⟨nm, kd, ps⟩) (by show nm.size ≤ 1000; omega); omega
                  go_wp2_with fail
                  go_roundg (l2 - (k + 1))
                  case measure => omega
                  case rel => exact ⟨k + 1, _, by first | rfl | (congr 1; omega), by omega, Nat.le_refl _, hlz, HYN.out, HRN.out, HBN.out⟩
                exact AllReadyH.nil
              refine AllReadyH.cons (get1 (get1 (get1 (get1 (get1 (get1 (get1 (get1 (get1 (get1 (get1 (get1 (get1 (get1 (get1 (get1 (get1 (get1 (get1 (get1 (get1 (get0 _ _)))))))))))))))))))))) (fun K hK => ?_) ?_
              · go_simp
                refine (dnumber_any ps i4 (by omega) _).mono ?_
                rintro e yd ⟨rfl, hyd⟩
                rw [HTP.out]
                have HDW : Hid (Below wr.heap.size wr yd) := HDW.out.trans (hyd.mono HDW.out.size)
                try go_wp2_with fail
                refine hK.out _ _ ⟨cell_thru hyd hHeld.1, cell_thru hyd hHeld.2.1, cell_thru hyd hHeld.2.2⟩ (fun hHeld => ?_)
                have hcb := cell_thru hyd hcb
                clear hK K hyd
                try simp only [Act.put, List.setIfInBounds_toArray, List.set_cons_zero, List.set_cons_succ]
                refine wpAnyH_ready (rs := [14]) (by kernel_rfl) (by simp) ?_
                refine AllReadyH.cons (get1 (get1 (get1 (get1 (get1 (get1 (get1 (get1 (get1 (get1 (get1 (get1 (get1 (get1 (get0 _ _))))))))))))))) (fun K hK => ?_) ?_
                · have hcv := one_conv hcb
                  rw [HTKD.out] at hcv
                  go_simp
                  refine hK.out _ _ hHeld (fun hHeld => ?_)
                  clear hK K hcv
                  try simp only [Act.put, List.setIfInBounds_toArray, List.set_cons_zero, List.set_cons_succ]
                  refine wpAnyH_take (i := 15) (v := ?_) (get1 (get1 (get1 (get1 (get1 (get1 (get1 (get1 (get1 (get1 (get1 (get1 (get1 (get1 (get1 (get0 _ _)))))))))))))))) (by kernel_rfl) (by kernel_rfl) (by kernel_rfl) (fun _ _ _ h => h) (Or.inl ⟨by rfl, ?_⟩) (by assumption) ?_
                  rotate_left
                  · (intro w hSw; (try dsimp only at hSw); go_simp <;> with_reducible rfl)
                  simp only [Act.put, List.setIfInBounds_toArray, List.set_cons_zero, List.set_cons_succ]
                  refine wpAnyH_take (i := 22) (v := ?_) (get1 (get1 (get1 (get1 (get1 (get1 (get1 (get1 (get1 (get1 (get1 (get1 (get1 (get1 (get1 (get1 (get1 (get1 (get1 (get1 (get1 (get1 (get0 _ _))))))))))))))))))))))) (by kernel_rfl) (by kernel_rfl) (by kernel_rfl) (fun _ _ _ h => h) (Or.inl ⟨by rfl, ?_⟩) (by assumption) ?_
                  rotate_left
                  · (intro w hSw; (try dsimp only at hSw); go_simp <;> with_reducible rfl)
                  simp only [Act.put, List.setIfInBounds_toArray, List.set_cons_zero, List.set_cons_succ]
                  refine wpAnyH_ready (rs := [23]) (by kernel_rfl) (by simp) ?_
                  refine AllReadyH.cons (get1 (get1 (get1 (get1 (get1 (get1 (get1 (get1 (get1 (get1 (get1 (get1 (get1 (get1 (get1 (get1 (get1 (get1 (get1 (get1 (get1 (get1 (get1 (get0 _ _)))))))))))))))))))))))) (fun K hK => ?_) AllReadyH.nil
                  have HRC : Hid _ := HR.out.below HDW.out
                  have HBC : Hid (Below w.heap.size w yd) := HB.out.trans (HDW.out.mono HB.out.size)
                  refine step_append_rm (by rfl) _ _ (by rfl) (by rfl) HRC.out HBC.out.size (tn ++ tk ++ tp) (by rfl) hzs ?_
                  intro v' y' hrm' hgr
                  have hbn : Below w.heap.size yd y' := rm_gr HRC.out hgr HBC.out.size
                  have HBN : Hid (Below w.heap.size w y') := HBC.out.trans hbn
                  have HRN : Hid (RM y' w.heap.size v' (ys ++ symB ⟨nm, kd, ps⟩)) := by show RM _ _ _ _; rw [← NS.out]; exact hrm'
                  refine hK.out _ _ ⟨(hbn.cell (p := ⟨b, off + k * 3, none⟩) hbl).trans hHeld.1, (hbn.cell (p := ⟨b, off + k * 3 + 1, none⟩) hbl).trans hHeld.2.1, (hbn.cell (p := ⟨b, off + k * 3 + 2, none⟩) hbl).trans hHeld.2.2⟩ (fun hHeld => ?_)
                  clear hK K hrm' hgr hbn
                  try simp only [Act.put, List.setIfInBounds_toArray, List.set_cons_zero, List.set_cons_succ]
                  refine wpAnyH_take (i := 24) (v := ?_) (get1 (get1 (get1 (get1 (get1 (get1 (get1 (get1 (get1 (get1 (get1 (get1 (get1 (get1 (get1 (get1 (get1 (get1 (get1 (get1 (get1 (get1 (get1 (get1 (get0 _ _))))))))))))))))))))))))) (by kernel_rfl) (by kernel_rfl) (by kernel_rfl) (fun _ _ _ h => h) (Or.inl ⟨by rfl, ?_⟩) (by assumption) ?_
                  rotate_left
                  · (intro w hSw; (try dsimp only at hSw); go_simp <;> with_reducible rfl)
                  simp only [Act.put, List.setIfInBounds_toArray, List.set_cons_zero, List.set_cons_succ]
                  refine wpAnyH_done (by kernel_rfl) ?_ _
                  clear hHeld
                  have HYN : Hid (ys ++ symB ⟨nm, kd, ps⟩ = zs0 ++ (syms.take (k + 1)).flatMap symB) := by show _ = _; rw [HTK.out, HY.out, List.append_assoc]
                  have hlz : (ys ++ symB ⟨nm, kd, ps⟩).length ≤ 100010 + 1100 * (k + 1) := by rw [List.length_append]; have := symB_len (s := ⟨nm, kd, ps⟩) (by show nm.size ≤ 1000; omega); omega
                  go_wp2_with fail
                  go_roundg (l2 - (k + 1))
                  case measure => omega
                  case rel => exact ⟨k + 1, _, by first | rfl | (congr 1; omega), by omega, Nat.le_refl _, hlz, HYN.out, HRN.out, HBN.out⟩
                exact AllReadyH.nil
              exact AllReadyH.nil
            refine AllReadyH.cons (get1 (get1 (get1 (get1 (get1 (get1 (get1 (get1 (get1 (get1 (get1 (get1 (get1 (get1 (get0 _ _))))))))))))))) (fun K hK => ?_) ?_
            · have hcv := one_conv hcb
              rw [HTKD.out] at hcv
              go_simp
              refine hK.out _ _ hHeld (fun hHeld => ?_)
              clear hK K hcv
              try simp only [Act.put, List.setIfInBounds_toArray, List.set_cons_zero, List.set_cons_succ]
              refine wpAnyH_ready (rs := [6]) (by kernel_rfl) (by simp) ?_
              refine AllReadyH.cons (get1 (get1 (get1 (get1 (get1 (get1 (get0 _ _))))))) (fun K hK => ?_) ?_
              · go_simp
                refine (dtext_any nm (by omega) _).mono ?_
                rintro e ya ⟨rfl, hya⟩
                rw [HTN.out]
                have HDW : Hid (Below wr.heap.size wr ya) := HDW.out.trans (hya.mono HDW.out.size)
                try go_wp2_with fail
                refine hK.out _ _ ⟨cell_thru hya hHeld.1, cell_thru hya hHeld.2.1, cell_thru hya hHeld.2.2⟩ (fun hHeld => ?_)
                have hcb := cell_thru hya hcb
                clear hK K hya
                try simp only [Act.put, List.setIfInBounds_toArray, List.set_cons_zero, List.set_cons_succ]
                refine wpAnyH_take (i := 15) (v := ?_) (get1 (get1 (get1 (get1 (get1 (get1 (get1 (get1 (get1 (get1 (get1 (get1 (get1 (get1 (get1 (get0 _ _)))))))))))))))) (by kernel_rfl) (by kernel_rfl) (by kernel_rfl) (fun _ _ _ h => h) (Or.inl ⟨by rfl, ?_⟩) (by assumption) ?_
                rotate_left
                · (intro w hSw; (try dsimp only at hSw); go_simp <;> with_reducible rfl)
                simp only [Act.put, List.setIfInBounds_toArray, List.set_cons_zero, List.set_cons_succ]
                refine wpAnyH_ready (rs := [21]) (by kernel_rfl) (by simp) ?_
                refine AllReadyH.cons (get1 (get1 (get1 (get1 (get1 (get1 (get1 (get1 (get1 (get1 (get1 (get1 (get1 (get1 (get1 (get1 (get1 (get1 (get1 (get1 (get1 (get0 _ _)))))))))))))))))))))) (fun K hK => ?_) ?_
                · go_simp
                  refine (dnumber_any ps i4 (by omega) _).mono ?_
                  rintro e yd ⟨rfl, hyd⟩
                  rw [HTP.out]
                  have HDW : Hid (Below wr.heap.size wr yd) := HDW.out.trans (hyd.mono HDW.out.size)
                  try go_wp2_with fail
                  refine hK.out _ _ ⟨cell_thru hyd hHeld.1, cell_thru hyd hHeld.2.1, cell_thru hyd hHeld.2.2⟩ (fun hHeld => ?_)
                  have hcb := cell_thru hyd hcb
                  clear hK K hyd
                  try simp only [Act.put, List.setIfInBounds_toArray, List.set_cons_zero, List.set_cons_succ]
                  refine wpAnyH_take (i := 22) (v := ?_) (get1 (get1 (get1 (get1 (get1 (get1 (get1 (get1 (get1 (get1 (get1 (get1 (get1 (get1 (get1 (get1 (get1 (get1 (get1 (get1 (get1 (get1 (get0 _ _))))))))))))))))))))))) (by kernel_rfl) (by kernel_rfl) (by kernel_rfl) (fun _ _ _ h => h) (Or.inl ⟨by rfl, ?_⟩) (by assumption) ?_
                  rotate_left
                  · (intro w hSw; (try dsimp only at hSw); go_simp <;> with_reducible rfl)
                  simp only [Act.put, List.setIfInBounds_toArray, List.set_cons_zero, List.set_cons_succ]
                  refine wpAnyH_ready (rs := [23]) (by kernel_rfl) (by simp) ?_
                  refine AllReadyH.cons (get1 (get1 (get1 (get1 (get1 (get1 (get1 (get1 (get1 (get1 (get1 (get1 (get1 (get1 (get1 (get1 (get1 (get1 (get1 (get1 (get1 (get1 (get1 (get0 _ _)))))))))))))))))))))))) (fun K hK => ?_) AllReadyH.nil
                  have HRC : Hid _ := HR.out.below HDW.out
                  have HBC : Hid (Below w.heap.size w yd) := HB.out.trans (HDW.out.mono HB.out.size)
                  refine step_append_rm (by rfl) _ _ (by rfl) (by rfl) HRC.out HBC.out.size (tn ++ tk ++ tp) (by rfl) hzs ?_
                  intro v' y' hrm' hgr
                  have hbn : Below w.heap.size yd y' := rm_gr HRC.out hgr HBC.out.size
                  have HBN : Hid (Below w.heap.size w y') := HBC.out.trans hbn
                  have HRN : Hid (RM y' w.heap.size v' (ys ++ symB ⟨nm, kd, ps⟩)) := by show RM _ _ _ _; rw [← NS.out]; exact hrm'
                  refine hK.out _ _ ⟨(hbn.cell (p := ⟨b, off + k * 3, none⟩) hbl).trans hHeld.1, (hbn.cell (p := ⟨b, off + k * 3 + 1, none⟩) hbl).trans hHeld.2.1, (hbn.cell (p := ⟨b, off + k * 3 + 2, none⟩) hbl).trans hHeld.2.2⟩ (fun hHeld => ?_)
                  clear hK K hrm' hgr hbn
                  try simp only [Act.put, List.setIfInBounds_toArray, List.set_cons_zero, List.set_cons_succ]
                  refine wpAnyH_take (i := 24) (v := ?_) (get1 (get1 (get1 (get1 (get1 (get1 (get1 (get1 (get1 (get1 (get1 (get1 (get1 (get1 (get1 (get1 (get1 (get1 (get1 (get1 (get1 (get1 (get1 (get1 (get0 _ _))))))))))))))))))))))))) (by kernel_rfl) (by kernel_rfl) (by kernel_rfl) (fun _ _ _ h => h) (Or.inl ⟨by rfl, ?_⟩) (by assumption) ?_
                  rotate_left
                  · (intro w hSw; (try dsimp only at hSw); go_simp <;> with_reducible rfl)
                  simp only [Act.put, List.setIfInBounds_toArray, List.set_cons_zero, List.set_cons_succ]
                  refine wpAnyH_done (by kernel_rfl) ?_ _
                  clear hHeld
                  have HYN : Hid (ys ++ symB ⟨nm, kd, ps⟩ = zs0 ++ (syms.take (k + 1)).flatMap symB) := by show _ = _; rw [HTK.out, HY.out, List.append_assoc]
                  have hlz : (ys ++ symB ⟨nm, kd, ps⟩).length ≤ 100010 + 1100 * (k + 1) := by rw [List.length_append]; have := symB_len (s := ⟨nm, kd, ps⟩) (by show nm.size ≤ 1000; omega); omega
                  go_wp2_with fail
                  go_roundg (l2 - (k + 1))
                  case measure => omega
                  case rel => exact ⟨k + 1, _, by first | rfl | (congr 1; omega), by omega, Nat.le_refl _, hlz, HYN.out, HRN.out, HBN.out⟩
                exact AllReadyH.nil
              exact AllReadyH.nil
            exact AllReadyH.nil
          exact AllReadyH.nil
        · obtain rfl : l2 = k := by omega
          have HYF : Hid (strOfNums ys = fb) := by
            show _ = _
            rw [← HFB.out, HY.out, List.take_of_length_le (by rw [HN.out.2]; exact Nat.le_refl _), HZ0.out, HY0.out, ← HN.out.1, ← HN.out.2]
            simp only [frontB, List.append_assoc]
          have hcv := rm_back HR.out
          rw [HYF.out] at hcv
          go_wp2_with fail
          go_ret
          exact ⟨rfl, HB.out⟩

end Go.Proofs.Ytcfdfnghaigkjaa

/- What the document's Put and All come to. -/
import Derived.Test.YtaajgmnhbcadpaaWordGroups
import Derived.Lib.AppendStr
namespace Go.Proofs.Ytaajgmnhbcadpaa
open Go.RowKit

theorem strCells_nums (xs : List Int) (h : ∀ n ∈ xs, 0 ≤ n ∧ n ≤ 255) : Lib.strCells (strOfNums xs) = xs.map (Value.int .u8) := by
  unfold Lib.strCells
  rw [strOfNums_data, List.map_map]
  apply List.map_congr_left
  intro n hn
  have := h n hn
  simp only [Function.comp]
  congr 1
  rw [UInt8.toNat_ofNat']
  omega

set_option maxHeartbeats 400000 in
theorem rput_any (u : Int) (h0 : 0 ≤ u) (h1 : u ≤ 18446744073709551615) (w : World) :
    Calls Try.prog 19 #[.int .u64 u] w fun e w' => e = .returned (.string (strOfNums (W.put u))) ∧ Below w.heap.size w w' := by
  obtain ⟨i0, hi, hz0, hz1, hz2⟩ := info_parts infoB
  have HT : Hid (u < 2 * 128 ^ 9) := W.fuel_top u h1
  have H1 : Hid (u ≤ 18446744073709551615) := h1
  clear h1
  go_enter Try.func19, Try.ntmps19
  go_wp2
  go_loopw [0, 3] (fun s t wr => ∃ (f : Nat) (x : Int) (ys : List Int), s = .int .u64 x ∧ 0 ≤ x ∧ Hid (x ≤ 18446744073709551615) ∧ Hid (x < 2 * 128 ^ f ∧ W.put u = ys ++ W.grps f x) ∧ ys.length + f ≤ 9 ∧ wr.ownsRow w.heap.size 5 1 t ys.length (ys.map (Value.int .u8)) ∧ Below w.heap.size w wr) (fun s _ _ => (intOf s).toNat)
  case atStart => exact ⟨9, u, [], rfl, h0, H1, ⟨HT.out, rfl⟩, by simp, World.ownsRow_nil _ _ _ _, Below.refl _ _⟩
  case round =>
    obtain ⟨f, x, ys, rfl, hx0, HM, HX, hl, ho, hb⟩ := hrel
    by_cases hlt : 128 ≤ x
    · have hq : IntKind.u64.wrap (x.tdiv 128) = x / 128 := by have := HM.out; rw [Int.tdiv_eq_ediv_of_nonneg hx0, IntKind.wrap_u64]; omega
      have hlt' : 127 < x := by omega
      go_wp2_with (first | (at_builtin; refine wpList_append_own _ rfl _ _ 47 rfl w.heap.size 5 i0 (.int .u8 0) 1 1 Try.underlying47 hi hz0 hz1 hz2 rfl (by decide) _ _ _ rfl (ho.alloc _) ⟨wr.heap.size, 0, none⟩ 1 1 [.int .u8 (x % 128 + 128)] rfl rfl (cell_one_new _ _ _) (by intro u hu; simp at hu; subst hu; rfl) (by unfold maxLen; omega) (by omega) (by have := hb.size; simp; omega) ?_) | go_in)
      intro v1 w1 ho1 hg1 _
      have hbx : Below w.heap.size w w1 := below_own (hb.alloc (by have := hb.size; omega) _) (ho.alloc _) hg1 (by have := hb.size; simp; omega)
      have hy : ys.map (Value.int .u8) ++ [Value.int .u8 (x % 128 + 128)] = (ys ++ [x % 128 + 128]).map (Value.int .u8) := by simp
      have ho2 : w1.ownsRow w.heap.size 5 1 v1 (ys ++ [x % 128 + 128]).length ((ys ++ [x % 128 + 128]).map (Value.int .u8)) := by rw [← hy]; simpa using ho1
      clear hg1 hy ho ho1
      go_wp2
      go_roundw
      case rel =>
        obtain ⟨g, rfl, hg⟩ := W.fuel_step f x hlt HX.out.1
        refine ⟨g, x / 128, ys ++ [x % 128 + 128], rfl, by omega, by have := HM.out; show x / 128 ≤ _; omega, ⟨hg, ?_⟩, by simp; omega, ho2, hbx⟩
        rw [HX.out.2, W.grps_step g x hlt]; simp
      case measure => simp [intOf]; omega
    · have hlt' : ¬ 127 < x := by omega
      go_wp2_with (first | (at_builtin; refine wpList_append_own _ rfl _ _ 47 rfl w.heap.size 5 i0 (.int .u8 0) 1 1 Try.underlying47 hi hz0 hz1 hz2 rfl (by decide) _ _ _ rfl (ho.alloc _) ⟨wr.heap.size, 0, none⟩ 1 1 [.int .u8 x] rfl rfl (cell_one_new _ _ _) (by intro u hu; simp at hu; subst hu; rfl) (by unfold maxLen; omega) (by omega) (by have := hb.size; simp; omega) ?_) | go_in)
      intro v1 w1 ho1 hg1 _
      have hbx : Below w.heap.size w w1 := below_own (hb.alloc (by have := hb.size; omega) _) (ho.alloc _) hg1 (by have := hb.size; simp; omega)
      have hy : ys.map (Value.int .u8) ++ [Value.int .u8 x] = (W.put u).map (Value.int .u8) := by
        rw [HX.out.2, W.grps_last f x (by omega)]; simp
      have hn : ys.length + 1 = (W.put u).length := by rw [HX.out.2, W.grps_last f x (by omega)]; simp
      have ho2 : w1.ownsRow w.heap.size 5 1 v1 (W.put u).length ((W.put u).map (Value.int .u8)) := by rw [← hy, ← hn]; simpa using ho1
      have hcv := conv_own ho2
      clear hg1 hy ho hn ho1 ho2
      go_wp2
      go_ret
      exact ⟨rfl, hbx⟩

set_option maxHeartbeats 400000 in
theorem rall_row (b off len cap : Nat) (zs : List Int) (hz : zs.length = len) (hr : ∀ n ∈ zs, 0 ≤ n ∧ n ≤ 18446744073709551615) (w : World) (hc : ∀ i, i < len → w.cell? ⟨b, off + i, none⟩ = some (.int .u64 (zs.getD i 0))) (hlen : len * 8 ≤ 140737488351232) :
    Calls Try.prog 21 #[.slice (some ⟨b, off, none⟩) len cap] w fun e w' => e = .returned (.string (strOfNums (W.putAll zs))) ∧ Below w.heap.size w w' := by
  obtain ⟨i0, hi, hz0, hz1, hz2⟩ := info_parts infoB
  go_enter Try.func21, Try.ntmps21
  go_wp2
  go_loopw [3, 4] (fun v i wr => ∃ k : Nat, k ≤ len ∧ i = .int .i64 k ∧ wr.ownsRow w.heap.size 5 1 v (W.putAll (zs.take k)).length ((W.putAll (zs.take k)).map (Value.int .u8)) ∧ Below w.heap.size w wr) (fun _ i _ => len - (intOf i).toNat)
  case atStart => exact ⟨0, by omega, rfl, World.ownsRow_nil _ _ _ _, Below.refl _ _⟩
  case round =>
    obtain ⟨k, hk, rfl, ho, hb⟩ := hrel
    by_cases hlt : k < len
    · have hck := hc k hlt
      have hbl : b < w.heap.size := World.block_lt_of_cell? w ⟨b, off + k, none⟩ hck
      have hck' : wr.cell? ⟨b, off + k, none⟩ = some (.int .u64 (zs.getD k 0)) := (hb.cell (p := ⟨b, off + k, none⟩) hbl).trans hck
      have hget : zs.getD k 0 = zs[k]'(by omega) := by simp [List.getD, show k < zs.length by omega]
      have hrg := hr (zs.getD k 0) (by rw [hget]; exact List.getElem_mem _)
      have hpl := W.putAll_length (zs.take k)
      have htl : (zs.take k).length = k := by simp; omega
      have htk : zs.take (k + 1) = zs.take k ++ [zs.getD k 0] := by rw [List.take_succ_eq_append_getElem (by omega), hget]
      generalize zs.getD k 0 = x at *
      have HR : Hid (0 ≤ x ∧ x ≤ 18446744073709551615) := hrg
      have HK : Hid (zs.take (k + 1) = zs.take k ++ [x]) := htk
      have hpx := W.put_length x
      have hsx : (strOfNums (W.put x)).size = (W.put x).length := strOfNums_size _
      have HC : Hid (Lib.strCells (strOfNums (W.put x)) = (W.put x).map (Value.int .u8)) := strCells_nums _ (W.put_bd x hrg.1 hrg.2)
      clear hrg htk hget hc hck
      generalize hsv : strOfNums (W.put x) = sv at *
      have HSV : Hid (strOfNums (W.put x) = sv) := hsv
      clear hsv
      have hbs := hb.size
      go_wp2_with fail
      refine (rput_any x HR.out.1 HR.out.2 wr).mono ?_
      rintro e w1 ⟨rfl, hb1⟩
      rw [HSV.out]
      have ho1 := own_kept ho hb1
      have hbb := hb.trans (hb1.mono hb.size)
      have hb1s := hbb.size
      clear ho
      go_wp2_with (first | (at_builtin; refine wpList_str_wide _ rfl _ _ 47 9 rfl w.heap.size 5 i0 Try.underlying47 Try.underlying9 hi hz0 hz1 hz2 _ _ _ rfl ho1 _ rfl (by omega) (by omega) (by omega) ?_) | go_in)
      intro v2 w2 ho2 hg2
      have hbx : Below w.heap.size w w2 := below_own hbb ho1 hg2 hb1s
      have ho3 : w2.ownsRow w.heap.size 5 1 v2 (W.putAll (zs.take (k + 1))).length ((W.putAll (zs.take (k + 1))).map (Value.int .u8)) := by
        rw [HK.out, W.putAll_snoc, List.map_append, ← HC.out, List.length_append]; exact ho2
      clear ho1 ho2 hg2
      go_wp2
      go_roundw
      case rel => exact ⟨k + 1, by omega, by go_num, ho3, hbx⟩
      case measure => simp [intOf]; omega
    · obtain rfl : k = len := by omega
      have hcv := conv_own ho
      rw [List.take_of_length_le (by omega)] at hcv
      clear ho
      go_wp2
      go_ret
      exact ⟨rfl, hb⟩

end Go.Proofs.Ytaajgmnhbcadpaa

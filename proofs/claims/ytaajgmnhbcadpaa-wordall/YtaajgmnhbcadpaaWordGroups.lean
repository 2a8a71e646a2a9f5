/- What word.appendGroups and All come to. -/
import Derived.Test.YtaajgmnhbcadpaaWordOwn
import Derived.Test.YtaajgmnhbcadpaaWordPutMath
import Derived.Test.YtaajgmnhbcadpaaWordWide
namespace Go.Proofs.Ytaajgmnhbcadpaa
open Go.RowKit

set_option maxHeartbeats 400000 in
theorem groups_any (B m : Nat) (v : Value) (xs : List Int) (u : Int) (h0 : 0 ≤ u) (h1 : u ≤ 18446744073709551615) (w : World)
    (hown : w.ownsRow B 5 1 v m (xs.map (Value.int .u8))) (hB : B ≤ w.heap.size) (hm : m + 10 ≤ 175921860444160) :
    Calls Try.prog 29 #[v, .int .u64 u] w fun e w' => ∃ v', e = .returned v' ∧ w'.ownsRow B 5 1 v' (m + (W.put u).length) ((xs ++ W.put u).map (Value.int .u8)) ∧ Below B w w' := by
  obtain ⟨i0, hi, hz0, hz1, hz2⟩ := info_parts infoB
  have HT : Hid (u < 2 * 128 ^ 9) := W.fuel_top u h1
  clear h1
  go_enter Try.func29, Try.ntmps29
  go_wp2
  go_loopw [0, 1] (fun t s wr => ∃ (f : Nat) (x : Int) (ys : List Int), s = .int .u64 x ∧ 0 ≤ x ∧ Hid (x < 2 * 128 ^ f ∧ W.put u = ys ++ W.grps f x) ∧ ys.length + f ≤ 9 ∧ wr.ownsRow B 5 1 t (m + ys.length) ((xs ++ ys).map (Value.int .u8)) ∧ Below B w wr) (fun _ s _ => (intOf s).toNat)
  case atStart => exact ⟨9, u, [], rfl, h0, ⟨HT.out, rfl⟩, by simp, by simpa using hown, Below.refl _ _⟩
  case round =>
    obtain ⟨f, x, ys, rfl, hx0, HX, hl, ho, hb⟩ := hrel
    have hand := W.and127_u x
    by_cases hlt : 128 ≤ x
    · go_wp2_with (first | (at_builtin; refine wpList_append_own_wide _ rfl _ _ 47 rfl B 5 i0 (.int .u8 0) 1 1 Try.underlying47 hi hz0 hz1 hz2 rfl (by decide) _ _ _ rfl (ho.alloc _) ⟨wr.heap.size, 0, none⟩ 1 1 [.int .u8 (x % 128 + 128)] rfl rfl (cell_one_new _ _ _) (by intro u hu; simp at hu; subst hu; rfl) (by unfold maxLen; omega) (by omega) (by have := hb.size; simp; omega) ?_) | go_in)
      intro v1 w1 ho1 hg1 _
      have hbx : Below B w w1 := below_own (hb.alloc (by have := hb.size; omega) _) (ho.alloc _) hg1 (by have := hb.size; simp; omega)
      have hy : (xs ++ ys).map (Value.int .u8) ++ [Value.int .u8 (x % 128 + 128)] = (xs ++ (ys ++ [x % 128 + 128])).map (Value.int .u8) := by simp
      have ho2 : w1.ownsRow B 5 1 v1 (m + (ys ++ [x % 128 + 128]).length) ((xs ++ (ys ++ [x % 128 + 128])).map (Value.int .u8)) := by rw [← hy]; simpa [Nat.add_assoc] using ho1
      clear hg1 hy ho hand ho1
      go_wp2
      go_roundw
      case rel =>
        obtain ⟨g, rfl, hg⟩ := W.fuel_step f x hlt HX.out.1
        refine ⟨g, x / 128, ys ++ [x % 128 + 128], rfl, by omega, ⟨hg, ?_⟩, by simp; omega, ho2, hbx⟩
        rw [HX.out.2, W.grps_step g x hlt]; simp
      case measure => simp [intOf]; omega
    · go_wp2_with (first | (at_builtin; refine wpList_append_own_wide _ rfl _ _ 47 rfl B 5 i0 (.int .u8 0) 1 1 Try.underlying47 hi hz0 hz1 hz2 rfl (by decide) _ _ _ rfl (ho.alloc _) ⟨wr.heap.size, 0, none⟩ 1 1 [.int .u8 (x)] rfl rfl (cell_one_new _ _ _) (by intro u hu; simp at hu; subst hu; rfl) (by unfold maxLen; omega) (by omega) (by have := hb.size; simp; omega) ?_) | go_in)
      intro v1 w1 ho1 hg1 _
      have hbx : Below B w w1 := below_own (hb.alloc (by have := hb.size; omega) _) (ho.alloc _) hg1 (by have := hb.size; simp; omega)
      have hy : (xs ++ ys).map (Value.int .u8) ++ [Value.int .u8 x] = (xs ++ W.put u).map (Value.int .u8) := by
        rw [HX.out.2, W.grps_last f x (by omega)]; simp
      have hn : m + ys.length + 1 = m + (W.put u).length := by rw [HX.out.2, W.grps_last f x (by omega)]; simp; omega
      have ho2 : w1.ownsRow B 5 1 v1 (m + (W.put u).length) ((xs ++ W.put u).map (Value.int .u8)) := by rw [← hy, ← hn]; simpa using ho1
      clear hg1 hy ho hand hn ho1
      go_wp2
      go_ret
      exact ⟨_, rfl, ho2, hbx⟩

set_option maxHeartbeats 400000 in
/-- All of a row that lies somewhere. -/
theorem all_row (b off len cap : Nat) (zs : List Int) (hz : zs.length = len) (hr : ∀ n ∈ zs, 0 ≤ n ∧ n ≤ 18446744073709551615) (w : World) (hc : ∀ i, i < len → w.cell? ⟨b, off + i, none⟩ = some (.int .u64 (zs.getD i 0))) (hlen : len * 8 ≤ 140737488351232) :
    Calls Try.prog 20 #[.slice (some ⟨b, off, none⟩) len cap] w fun e w' => e = .returned (.string (strOfNums (W.putAll zs))) ∧ Below w.heap.size w w' := by
  go_enter Try.func20, Try.ntmps20
  go_wp2
  go_loopw [3, 8] (fun v i wr => ∃ k : Nat, k ≤ len ∧ i = .int .i64 k ∧ wr.ownsRow w.heap.size 5 1 v (W.putAll (zs.take k)).length ((W.putAll (zs.take k)).map (Value.int .u8)) ∧ Below w.heap.size w wr) (fun _ i _ => len - (intOf i).toNat)
  case atStart => exact ⟨0, by omega, rfl, World.ownsRow_nil _ _ _ _, Below.refl _ _⟩
  case round =>
    obtain ⟨k, hk, rfl, ho, hb⟩ := hrel
    by_cases hlt : k < len
    · have hck := hc k hlt
      have hbl : b < w.heap.size := World.block_lt_of_cell? w ⟨b, off + k, none⟩ hck
      have hck' : wr.cell? ⟨b, off + k, none⟩ = some (.int .u64 (zs.getD k 0)) := (hb.cell (p := ⟨b, off + k, none⟩) hbl).trans hck
      have hget : zs.getD k 0 = zs[k]'(by omega) := by simp [List.getD, show k < zs.length by omega]
      have hrg := hr (zs.getD k 0) (by rw [hget]; exact List.getElem_mem _)
      have hpl := W.putAll_length (zs.take k)
      have htl : (zs.take k).length = k := by simp; omega
      have htk : zs.take (k + 1) = zs.take k ++ [zs.getD k 0] := by rw [List.take_succ_eq_append_getElem (by omega), hget]
      generalize zs.getD k 0 = x at *
      have HR : Hid (0 ≤ x ∧ x ≤ 18446744073709551615) := hrg
      have HK : Hid (zs.take (k + 1) = zs.take k ++ [x]) := htk
      clear hrg htk hget hc hck
      go_wp2_with fail
      refine (groups_any w.heap.size _ _ (W.putAll (zs.take k)) x HR.out.1 HR.out.2 wr ho hb.size (by omega)).mono ?_
      rintro e w1 ⟨v1, rfl, ho1, hb1⟩
      have ho2 : w1.ownsRow w.heap.size 5 1 v1 (W.putAll (zs.take (k + 1))).length ((W.putAll (zs.take (k + 1))).map (Value.int .u8)) := by
        rw [HK.out, W.putAll_snoc]; simpa using ho1
      clear ho1 ho
      go_wp2
      go_roundw
      case rel => exact ⟨k + 1, by omega, by go_num, ho2, hb.trans hb1⟩
      case measure => simp [intOf]; omega
    · obtain rfl : k = len := by omega
      have hcv := conv_own ho
      rw [List.take_of_length_le (by omega)] at hcv
      clear ho
      go_wp2
      go_ret
      exact ⟨rfl, hb⟩

end Go.Proofs.Ytaajgmnhbcadpaa

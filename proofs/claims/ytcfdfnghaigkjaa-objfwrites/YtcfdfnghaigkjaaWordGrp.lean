/- (Of WordGroups: without All.) What word.appendGroups and All come to. -/
import Derived.Test.YtcfdfnghaigkjaaWordOwn
import Derived.Test.YtcfdfnghaigkjaaWordPutMath
namespace Go.Proofs.Ytcfdfnghaigkjaa
open Go.RowKit

set_option maxHeartbeats 400000 in
theorem groups_any (B m : Nat) (v : Value) (xs : List Int) (u : Int) (h0 : 0 ≤ u) (h1 : u ≤ 18446744073709551615) (w : World)
    (hown : w.ownsRow B 5 1 v m (xs.map (Value.int .u8))) (hB : B ≤ w.heap.size) (hm : m + 10 ≤ 140737488355328) :
    Calls Try.prog 68 #[v, .int .u64 u] w fun e w' => ∃ v', e = .returned v' ∧ w'.ownsRow B 5 1 v' (m + (W.put u).length) ((xs ++ W.put u).map (Value.int .u8)) ∧ Below B w w' := by
  obtain ⟨i0, hi, hz0, hz1, hz2⟩ := info_parts infoB
  have HT : Hid (u < 2 * 128 ^ 9) := W.fuel_top u h1
  clear h1
  go_enter Try.func68, Try.ntmps68
  go_wp2
  go_loopw [0, 1] (fun t s wr => ∃ (f : Nat) (x : Int) (ys : List Int), s = .int .u64 x ∧ 0 ≤ x ∧ Hid (x < 2 * 128 ^ f ∧ W.put u = ys ++ W.grps f x) ∧ ys.length + f ≤ 9 ∧ wr.ownsRow B 5 1 t (m + ys.length) ((xs ++ ys).map (Value.int .u8)) ∧ Below B w wr) (fun _ s _ => (intOf s).toNat)
  case atStart => exact ⟨9, u, [], rfl, h0, ⟨HT.out, rfl⟩, by simp, by simpa using hown, Below.refl _ _⟩
  case round =>
    obtain ⟨f, x, ys, rfl, hx0, HX, hl, ho, hb⟩ := hrel
    have hand := W.and127_u x
    by_cases hlt : 128 ≤ x
    · go_wp2_with (first | (at_builtin; refine wpList_append_own _ rfl _ _ 44 rfl B 5 i0 (.int .u8 0) 1 1 Try.underlying44 hi hz0 hz1 hz2 rfl (by decide) _ _ _ rfl (ho.alloc _) ⟨wr.heap.size, 0, none⟩ 1 1 [.int .u8 (x % 128 + 128)] rfl rfl (cell_one_new _ _ _) (by intro u hu; simp at hu; subst hu; rfl) (by unfold maxLen; omega) (by omega) (by have := hb.size; simp; omega) ?_) | go_in)
      intro v1 w1 ho1 hg1 _
      have hbx : Below B w w1 := below_own (hb.alloc (by have := hb.size; omega) _) (ho.alloc _) hg1 (by have := hb.size; simp; omega)
      have hy : (xs ++ ys).map (Value.int .u8) ++ [Value.int .u8 (x % 128 + 128)] = (xs ++ (ys ++ [x % 128 + 128])).map (Value.int .u8) := by simp
      have ho2 : w1.ownsRow B 5 1 v1 (m + (ys ++ [x % 128 + 128]).length) ((xs ++ (ys ++ [x % 128 + 128])).map (Value.int .u8)) := by rw [← hy]; simpa [Nat.add_assoc] using ho1
      clear hg1 hy ho hand ho1
      go_wp2
      go_roundw
      case rel =>
        obtain ⟨g, rfl, hg⟩ := W.fuel_step f x hlt HX.out.1
        refine ⟨g, x / 128, ys ++ [x % 128 + 128], rfl, by omega, ⟨hg, ?_⟩, by simp; omega, ho2, hbx⟩
        rw [HX.out.2, W.grps_step g x hlt]; simp
      case measure => simp [intOf]; omega
    · go_wp2_with (first | (at_builtin; refine wpList_append_own _ rfl _ _ 44 rfl B 5 i0 (.int .u8 0) 1 1 Try.underlying44 hi hz0 hz1 hz2 rfl (by decide) _ _ _ rfl (ho.alloc _) ⟨wr.heap.size, 0, none⟩ 1 1 [.int .u8 (x)] rfl rfl (cell_one_new _ _ _) (by intro u hu; simp at hu; subst hu; rfl) (by unfold maxLen; omega) (by omega) (by have := hb.size; simp; omega) ?_) | go_in)
      intro v1 w1 ho1 hg1 _
      have hbx : Below B w w1 := below_own (hb.alloc (by have := hb.size; omega) _) (ho.alloc _) hg1 (by have := hb.size; simp; omega)
      have hy : (xs ++ ys).map (Value.int .u8) ++ [Value.int .u8 x] = (xs ++ W.put u).map (Value.int .u8) := by
        rw [HX.out.2, W.grps_last f x (by omega)]; simp
      have hn : m + ys.length + 1 = m + (W.put u).length := by rw [HX.out.2, W.grps_last f x (by omega)]; simp; omega
      have ho2 : w1.ownsRow B 5 1 v1 (m + (W.put u).length) ((xs ++ W.put u).map (Value.int .u8)) := by rw [← hy, ← hn]; simpa using ho1
      clear hg1 hy ho hand hn ho1
      go_wp2
      go_ret
      exact ⟨_, rfl, ho2, hbx⟩

end Go.Proofs.Ytcfdfnghaigkjaa

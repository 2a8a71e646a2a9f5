/- What the document's number, text and wide come to. -/
import Derived.Test.YtcfdfnghaigkjaaObjLive
import Derived.Test.YtcfdfnghaigkjaaWordGrp
import Derived.Test.YtcfdfnghaigkjaaWordRefBytes
import Derived.Lib.AppendStr
namespace Go.Proofs.Ytcfdfnghaigkjaa
open Go.RowKit

set_option maxHeartbeats 400000 in
theorem refput_any (u : Int) (h0 : 0 ≤ u) (h1 : u ≤ 18446744073709551615) (w : World) :
    Calls Try.prog 44 #[.int .u64 u] w fun e w' => e = .returned (.string (strOfNums (W.put u))) ∧ Below w.heap.size w w' := by
  obtain ⟨i0, hi, hz0, hz1, hz2⟩ := info_parts infoB
  have HT : Hid (u < 2 * 128 ^ 9) := W.fuel_top u h1
  have H1 : Hid (u ≤ 18446744073709551615) := h1
  clear h1
  go_enter Try.func44, Try.ntmps44
  go_wp2
  go_loopw [0, 3] (fun s t wr => ∃ (f : Nat) (x : Int) (ys : List Int), s = .int .u64 x ∧ 0 ≤ x ∧ Hid (x ≤ 18446744073709551615) ∧ Hid (x < 2 * 128 ^ f ∧ W.put u = ys ++ W.grps f x) ∧ ys.length + f ≤ 9 ∧ wr.ownsRow w.heap.size 5 1 t ys.length (ys.map (Value.int .u8)) ∧ Below w.heap.size w wr) (fun s _ _ => (intOf s).toNat)
  case atStart => exact ⟨9, u, [], rfl, h0, H1, ⟨HT.out, rfl⟩, by simp, World.ownsRow_nil _ _ _ _, Below.refl _ _⟩
  case round =>
    obtain ⟨f, x, ys, rfl, hx0, HM, HX, hl, ho, hb⟩ := hrel
    by_cases hlt : 128 ≤ x
    · have hq : IntKind.u64.wrap (x.tdiv 128) = x / 128 := by have := HM.out; rw [Int.tdiv_eq_ediv_of_nonneg hx0, IntKind.wrap_u64]; omega
      have hlt' : 127 < x := by omega
      go_wp2_with (first | (at_builtin; refine wpList_append_own _ rfl _ _ 44 rfl w.heap.size 5 i0 (.int .u8 0) 1 1 Try.underlying44 hi hz0 hz1 hz2 rfl (by decide) _ _ _ rfl (ho.alloc _) ⟨wr.heap.size, 0, none⟩ 1 1 [.int .u8 (x % 128 + 128)] rfl rfl (cell_one_new _ _ _) (by intro u hu; simp at hu; subst hu; rfl) (by unfold maxLen; omega) (by omega) (by have := hb.size; simp; omega) ?_) | go_in)
      intro v1 w1 ho1 hg1 _
      have hbx : Below w.heap.size w w1 := below_own (hb.alloc (by have := hb.size; omega) _) (ho.alloc _) hg1 (by have := hb.size; simp; omega)
      have hy : ys.map (Value.int .u8) ++ [Value.int .u8 (x % 128 + 128)] = (ys ++ [x % 128 + 128]).map (Value.int .u8) := by simp
      have ho2 : w1.ownsRow w.heap.size 5 1 v1 (ys ++ [x % 128 + 128]).length ((ys ++ [x % 128 + 128]).map (Value.int .u8)) := by rw [← hy]; simpa using ho1
      clear hg1 hy ho ho1
      go_wp2
      go_roundw
      case rel =>
        obtain ⟨g, rfl, hg⟩ := W.fuel_step f x hlt HX.out.1
        refine ⟨g, x / 128, ys ++ [x % 128 + 128], rfl, by omega, by have := HM.out; show x / 128 ≤ _; omega, ⟨hg, ?_⟩, by simp; omega, ho2, hbx⟩
        rw [HX.out.2, W.grps_step g x hlt]; simp
      case measure => simp [intOf]; omega
    · have hlt' : ¬ 127 < x := by omega
      go_wp2_with (first | (at_builtin; refine wpList_append_own _ rfl _ _ 44 rfl w.heap.size 5 i0 (.int .u8 0) 1 1 Try.underlying44 hi hz0 hz1 hz2 rfl (by decide) _ _ _ rfl (ho.alloc _) ⟨wr.heap.size, 0, none⟩ 1 1 [.int .u8 x] rfl rfl (cell_one_new _ _ _) (by intro u hu; simp at hu; subst hu; rfl) (by unfold maxLen; omega) (by omega) (by have := hb.size; simp; omega) ?_) | go_in)
      intro v1 w1 ho1 hg1 _
      have hbx : Below w.heap.size w w1 := below_own (hb.alloc (by have := hb.size; omega) _) (ho.alloc _) hg1 (by have := hb.size; simp; omega)
      have hy : ys.map (Value.int .u8) ++ [Value.int .u8 x] = (W.put u).map (Value.int .u8) := by
        rw [HX.out.2, W.grps_last f x (by omega)]; simp
      have hn : ys.length + 1 = (W.put u).length := by rw [HX.out.2, W.grps_last f x (by omega)]; simp
      have ho2 : w1.ownsRow w.heap.size 5 1 v1 (W.put u).length ((W.put u).map (Value.int .u8)) := by rw [← hy, ← hn]; simpa using ho1
      have hcv := conv_own ho2
      clear hg1 hy ho hn ho1 ho2
      go_wp2
      go_ret
      exact ⟨rfl, hbx⟩

set_option maxRecDepth 100000 in
theorem dnumber_any (n : Int) (h0 : 0 ≤ n) (h1 : n ≤ 9223372036854775807) (w : World) :
    Calls Try.prog 21 #[.int .i64 n] w fun e w' => e = .returned (.string (strOfNums (W.put n))) ∧ Below w.heap.size w w' := by
  have hw : IntKind.u64.wrap n = n := by rw [IntKind.wrap_u64]; omega
  go_enter Try.func21, Try.ntmps21
  go_wp2_with fail
  refine (refput_any n h0 (by omega) _).mono ?_
  rintro e w1 ⟨rfl, hb⟩
  go_wp2
  go_ret
  exact ⟨rfl, hb⟩
set_option maxRecDepth 100000 in
theorem dtext_any (s : ByteArray) (hs : s.size ≤ 1000000000) (w : World) :
    Calls Try.prog 22 #[.string s] w fun e w' => e = .returned (.string (strOfNums (txt s))) ∧ Below w.heap.size w w' := by
  have hpl := W.put_length (s.size : Int)
  have hpb := W.put_bd (s.size : Int) (by omega) (by omega)
  have hps : (strOfNums (W.put (s.size : Int))).size = (W.put (s.size : Int)).length := size_of hpb
  have HT : Hid (strOfNums (W.put (s.size : Int)) ++ s = strOfNums (txt s)) := by
    refine bytes_nums ?_
    rw [nums_of (fun n hn => by
      rcases List.mem_append.1 hn with h1 | h1
      · exact hpb n h1
      · exact nums_bd s n h1), txt]
    have : nums (strOfNums (W.put (s.size : Int)) ++ s) = nums (strOfNums (W.put (s.size : Int))) ++ nums s := by
      unfold nums W.tail
      simp
    rw [this, nums_of hpb]
  obtain ⟨t, ht⟩ : ∃ t, strOfNums (W.put (s.size : Int)) = t := ⟨_, rfl⟩
  have htz : t.size ≤ 10 := by rw [← ht, hps]; omega
  rw [ht] at HT
  have HTT : Hid _ := ht
  clear hpb hps hpl ht
  go_enter Try.func22, Try.ntmps22
  go_wp2_with fail
  refine (dnumber_any s.size (by omega) (by omega) _).mono ?_
  rintro e w1 ⟨rfl, hb⟩
  rw [HTT.out]
  go_wp2
  go_ret
  exact ⟨by rw [← HT.out]; rfl, hb⟩
set_option maxRecDepth 100000 in
theorem dwide_any (n : Int) (hn : (Lit.int .i64 n).wf = true) (w : World) :
    Calls Try.prog 23 #[.int .i64 n] w fun e w' => e = .returned (.string (strOfNums (long n))) ∧ Below w.heap.size w w' := by
  go_enter Try.func23, Try.ntmps23
  go_wp2_with fail
  refine (rbytes_any n 8 hn _).mono ?_
  rintro e w1 ⟨rfl, hb⟩
  go_wp2
  go_ret
  exact ⟨rfl, hb⟩

end Go.Proofs.Ytcfdfnghaigkjaa

/- What the reader's kind comes to. -/
import Derived.Test.YtcfdfnghaigkjaaObjRead
namespace Go.Proofs.Ytcfdfnghaigkjaa
open Go.RowKit Go.Maps Go.Lib
set_option linter.unusedVariables false

def rdKind (s : ByteArray) (i : Nat) : Option (Int × Nat) := match rdTake s i 1 with | some (t, j) => some ((nums t).getD 0 0, j) | none => none

set_option maxRecDepth 100000 in
set_option maxHeartbeats 1000000 in
theorem rkind_any {w : World} {br : Nat} {s : ByteArray} {i : Nat} (h : RdV w br s i) :
    Calls Try.prog 63 #[.pointer (some ⟨br, 0, none⟩)] w fun e w' => Reads w br s (rdKind s i) (Value.int .i64) e w' := by
  have HR : Hid _ := h
  clear h
  go_enter Try.func63, Try.ntmps63
  go_wp2_with fail
  refine (rtake_any HR.out 1 (by decide)).mono ?_
  rintro e w1 ⟨⟨t, j, hf, rfl, hr⟩ | ⟨hf, c, rfl⟩, hg⟩
  · have ht : t.size = 1 := by
      unfold rdTake at hf
      split at hf
      · next hle =>
        simp at hf
        obtain ⟨rfl, rfl⟩ := hf
        exact sub_size hle
      · cases hf
    have HF : Hid (rdKind s i = some ((nums t).getD 0 0, j)) := by show _ = _; unfold rdKind; rw [hf]
    have HNT : Hid ((nums t).getD 0 0 = (t[0].toNat : Int)) := by
      show _ = _
      unfold nums
      rw [W.tail_cons t 0 (by omega)]
      rfl
    have HR1 : Hid _ := hr
    have HG : Hid _ := hg
    have h0 : 0 < t.size := by omega
    clear hf hr hg
    go_wp2
    go_ret
    refine ⟨.inl ⟨_, _, HF.out, ?_, HR1.out⟩, HG.out⟩
    rw [HNT.out]
    have hw : wrap64 (t[0].toNat : Int) = (t[0].toNat : Int) := by have := t[0].toNat_lt; unfold wrap64; omega
    show Ending.returned (Value.int .i64 (wrap64 (t[0].toNat : Int))) = _
    rw [hw]
  · have HF : Hid (rdKind s i = none) := by show _ = _; unfold rdKind; rw [hf]
    clear hf
    go_wp2
    exact ⟨rfl, .inr ⟨HF.out, c, rfl⟩, hg⟩

end Go.Proofs.Ytcfdfnghaigkjaa

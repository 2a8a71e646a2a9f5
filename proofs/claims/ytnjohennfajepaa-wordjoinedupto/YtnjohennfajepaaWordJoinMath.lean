/- Numbers one behind the other, read one by one: no program in sight. -/
import Derived.Test.YtnjohennfajepaaWordBackMath
namespace Go.Proofs.Ytnjohennfajepaa.W
open Go.RowKit

theorem putAll_bd (l : List Int) (h : ∀ n ∈ l, 0 ≤ n ∧ n ≤ 18446744073709551615) : ∀ n ∈ putAll l, 0 ≤ n ∧ n ≤ 255 := by
  induction l with
  | nil => simp [putAll]
  | cons u r ih =>
    intro n hn
    simp only [putAll, List.mem_append] at hn
    rcases hn with hn | hn
    · have := h u (List.mem_cons_self)
      exact put_bd u this.1 this.2 n hn
    · exact ih (fun m hm => h m (List.mem_cons_of_mem _ hm)) n hn

theorem strOfNums_append (a b : List Int) : strOfNums a ++ strOfNums b = strOfNums (a ++ b) := by
  apply ByteArray.ext
  simp [strOfNums]

theorem take_split (zs : List Int) (k : Nat) (h : k < zs.length) : zs = zs.take k ++ (zs.getD k 0 :: zs.drop (k + 1)) := by
  have e : zs.getD k 0 = zs[k] := by simp [List.getD, h]
  rw [e, ← List.drop_eq_getElem_cons h, List.take_append_drop]

/-- At the place behind k numbers the next one is read, and the place behind it is the next place. -/
theorem take_all (zs : List Int) (k : Nat) (h : k < zs.length) (hf : ∀ n ∈ zs, 0 ≤ n ∧ n ≤ 18446744073709551615) :
    take (strOfNums (putAll zs)) ((putAll (zs.take k)).length : Int) = (zs.getD k 0, ((putAll (zs.take (k + 1))).length : Int), 0) ∧ (putAll (zs.take k)).length < (putAll (zs.take (k + 1))).length := by
  have e : zs.getD k 0 = zs[k] := by simp [List.getD, h]
  have hu := hf (zs.getD k 0) (by rw [e]; exact List.getElem_mem _)
  have hs := take_split zs k h
  have hp : putAll zs = putAll (zs.take k) ++ (put (zs.getD k 0) ++ putAll (zs.drop (k + 1))) := by
    conv => lhs; rw [hs]
    rw [putAll_append]; rfl
  have hk : zs.take (k + 1) = zs.take k ++ [zs.getD k 0] := by rw [List.take_succ_eq_append_getElem h, e]
  have hbd := putAll_bd zs hf
  rw [hp] at hbd
  have hl := (put_length (zs.getD k 0)).1
  rw [hp, take_put _ _ _ hu.1 hu.2 hbd, hk, putAll_snoc, List.length_append]
  exact ⟨rfl, by omega⟩

end Go.Proofs.Ytnjohennfajepaa.W

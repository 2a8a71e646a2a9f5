/- slices.Sorted(maps.Keys(m)), m a set of numbers: a new list that rises and holds just its keys. -/
import Derived.Test.YtfkpbmopneleiaaMemLay
import Derived.Test.YtfkpbmopneleiaaMemMeet
namespace Go.Proofs.Ytfkpbmopneleiaa
open Go.RowKit Go.Maps Go.Sort Go.Shelf

theorem sortsA (m : Nat) : AnyZI.SortsIn Try.prog Try.sortedA_ren Fence.wide m :=
  ⟨fun blk off cap ss W hH hblk hsz => callsIn_wide.2 (AnyM.slices_Sort_int Try.sortA blk off cap ss W hH hblk hsz),
   fun p cap W => callsIn_wide.2 (AnyM.slices_Sort_int_none Try.sortA p cap W)⟩

theorem keys_c (mb : Option Nat) (W : World) : Calls Try.prog 43 #[.map mb] W fun e w' => e = .returned (.func (.func 46) #[] #[.pointer (some ⟨W.heap.size, 0, none⟩)]) ∧ w' = W.alloc (.cells #[.map mb] 59) :=
  (callsIn_wide (n := 5)).1 (AnyZI.keys_in Try.keysA Fence.wide 5 trivial rfl mb W)

theorem encZ_map (l : List Int) : l.map encZ = l.map (Value.int .i64) := rfl

theorem sorted_c (bk b nn : Nat) (D : DataW Unit) (w : World) (hm : w.cell? ⟨bk, 0, none⟩ = some (.map (some b))) (hown : w.ownsMap Try.prog 2 unitElem b nn D) (hmax : nn * 8 ≤ 140737488355328) :
    Calls Try.prog 42 #[.func (.func 46) #[] #[.pointer (some ⟨bk, 0, none⟩)]] w fun e w' =>
      ∃ (a : Option Addr) (c : Nat) (L : List Int), e = .returned (.slice a L.length c) ∧ M.Ris L (fun x => Maps.has D (.int .i64 x) = true) ∧ View w' a L.length c L ∧ w'.ownsRow w.heap.size 2 1 (.slice a L.length c) L.length (L.map (Value.int .i64)) ∧ Below w.heap.size w w' := by
  refine (callsIn_wide (n := 5)).1 ?_
  have hsz := hown.size_le
  have hseq : SeqGives Fence.wide 2 Try.prog 46 #[.pointer (some ⟨bk, 0, none⟩)] encZ (fun ss => ss.Perm (intKeys D)) (Maps.size D) w :=
    AnyZI.keys_gives (ρ := Try.keysA_ren) { Try.keysA with } Fence.wide _ trivial rfl (by omega) bk b nn D _ (World.block_lt_of_cell? w ⟨bk, 0, none⟩ hm) hm hown
  have cS := AnyZI.sorted_in Try.sortedA Fence.wide 5 trivial trivial trivial trivial rfl (by omega) (sortsA _) (enters_of Try.func45 (by kernel_rfl) rfl) 46 #[.pointer (some ⟨bk, 0, none⟩)] trivial (enters_of Try.func46 (by kernel_rfl) rfl) _ _ (by unfold maxLen; omega) (by omega) _ hseq
  change CallsIn _ _ Try.prog 42 _ _ _ at cS
  refine cS.mono ?_
  rintro e w' ⟨v, ss, rfl, hS, hrow, hnil, hb⟩
  have hris := M.ris_sorted hown lawK Try.underlying2 hS
  have hwf : ∀ n ∈ ss.mergeSort (fun x y => decide (x ≤ y)), (Lit.int .i64 n).wf = true := by
    intro n hn
    have h1 : n ∈ intKeys D := ((List.mergeSort_perm ss (fun x y => decide (x ≤ y))).trans hS).mem_iff.1 hn
    exact intKeys_wf hown Try.underlying2 n h1
  have hro : w'.ownsRow w.heap.size 2 1 v (ss.mergeSort (fun x y => decide (x ≤ y))).length ((ss.mergeSort (fun x y => decide (x ≤ y))).map (Value.int .i64)) := by
    rw [List.length_mergeSort]; exact hrow
  obtain ⟨a, c, rfl, hv⟩ := view_own hwf hro
  exact ⟨a, c, _, rfl, hris, hv, hro, hb⟩

end Go.Proofs.Ytfkpbmopneleiaa

/- All instructions of bytes that were put together: no walk. -/
import Derived.Test.YtcllbbdkihmpgaaDoorInsAll
import Derived.Deep.AppendLies
namespace Go.Proofs.YtcllbbdkihmpgaaDoor
open Go.RowKit

theorem byts_append (s t : ByteArray) : byts (s ++ t) = byts s ++ byts t := by simp [W.tail]
theorem byts_rest (s : ByteArray) : byts (I.rest s) = (byts s).drop (I.psize (I.hd s)).toNat := by
  unfold I.rest
  rw [byts_extract, List.take_of_length_le]
  rw [List.length_drop, byts_len]
  exact Nat.le_refl _
/-- An instruction's form, and whatever stands behind it. -/
theorem I.allI_enc {op a b n : Int} (h : I.encE op a b n = 0) (s t : ByteArray) (hs : byts s = I.encV op a b n ++ byts t) : I.allI s = (I.allI t).map (⟨op, a, b, n⟩ :: ·) := by
  obtain ⟨d1, d2, d3, d4, d5⟩ := I.dec_enc h s _ hs
  rw [I.allI_yes (I.dOk_pos d1) d1]
  have e1 : I.dQ s = ⟨op, a, b, n⟩ := by unfold I.dQ; rw [d2, d3, d4, d5]
  have e2 : I.rest s = t := by
    apply byts_inj
    rw [byts_rest, hs, d2]
    have hl := I.enc_len h
    rw [List.drop_append_of_le_length (by omega), List.drop_eq_nil_of_le (by omega), List.nil_append]
  rw [e1, e2]
theorem arr_thru {W w3 : World} (hb : Below W.heap.size W w3) {b : Nat} {cs : Array Value} (h : ∀ o, W.cell? ⟨b, o, none⟩ = cs[o]?) (h0 : 0 < cs.size := by simp) : ∀ o, w3.cell? ⟨b, o, none⟩ = cs[o]? := fun o => by
  have h1 : W.cell? ⟨b, 0, none⟩ = some cs[0] := (h 0).trans (Array.getElem?_eq_getElem h0)
  exact (hb.cell (p := ⟨b, o, none⟩) (World.block_lt_of_cell? W ⟨b, 0, none⟩ h1)).trans (h o)
theorem I.allI_nil : I.allI (strOfNums []) = some [] := I.allI_zero rfl
theorem enc_size {op a b n : Int} : (strOfNums (I.encV op a b n)).size ≤ 10 := by
  rw [strOfNums_size]
  unfold I.encV
  split
  · split
    · have := I.regB_len (I.regs op) a b
      have := I.numW_len (I.num op) n
      simp; omega
    · simp
  · simp
end Go.Proofs.YtcllbbdkihmpgaaDoor

/- All instructions of bytes that were put together: no walk. -/
import Derived.Test.YtcllbbdkihmpgaaDoorInsAll
import Derived.Deep.AppendLies
namespace Go.Proofs.YtcllbbdkihmpgaaDoor
open Go.RowKit

theorem byts_append (s t : ByteArray) : byts (s ++ t) = byts s ++ byts t := by simp [W.tail]
theorem byts_rest (s : ByteArray) : byts (I.rest s) = (byts s).drop (I.psize (I.hd s)).toNat := by
  unfold I.rest
  rw [byts_extract, List.take_of_length_le]
  rw [List.length_drop, byts_len]
  exact Nat.le_refl _
/-- An instruction's form, and whatever stands behind it. -/
theorem I.allI_enc {op a b n : Int} (h : I.encE op a b n = 0) (s t : ByteArray) (hs : byts s = I.encV op a b n ++ byts t) : I.allI s = (I.allI t).map (⟨op, a, b, n⟩ :: ·) := by
  obtain ⟨d1, d2, d3, d4, d5⟩ := I.dec_enc h s _ hs
  rw [I.allI_yes (I.dOk_pos d1) d1]
  have e1 : I.dQ s = ⟨op, a, b, n⟩ := by unfold I.dQ; rw [d2, d3, d4, d5]
  have e2 : I.rest s = t := by
    apply byts_inj
    rw [byts_rest, hs, d2]
    have hl := I.enc_len h
    rw [List.drop_append_of_le_length (by omega), List.drop_eq_nil_of_le (by omega), List.nil_append]
  rw [e1, e2]
theorem arr_thru {W w3 : World} (hb : Below W.heap.size W w3) {b : Nat} {cs : Array Value} (h : ∀ o, W.cell? ⟨b, o, none⟩ = cs[o]?) (h0 : 0 < cs.size := by simp) : ∀ o, w3.cell? ⟨b, o, none⟩ = cs[o]? := fun o => by
  have h1 : W.cell? ⟨b, 0, none⟩ = some cs[0] := (h 0).trans (Array.getElem?_eq_getElem h0)
  exact (hb.cell (p := ⟨b, o, none⟩) (World.block_lt_of_cell? W ⟨b, 0, none⟩ h1)).trans (h o)
theorem I.allI_nil : I.allI (strOfNums []) = some [] := I.allI_zero rfl
/-- What was read is written as it stood, one instruction behind the other. -/
def I.Q.E (q : I.Q) : Int := I.encE q.op q.a q.b q.n
def I.Q.V (q : I.Q) : List Int := I.encV q.op q.a q.b q.n
theorem I.allF_some : ∀ (f : Nat) (s : ByteArray) (l : List I.Q), I.allF f s = some l → (∀ q ∈ l, q.E = 0) ∧ byts s = l.flatMap I.Q.V
  | 0, s, l, h => by
    simp only [I.allF] at h
    split at h
    · rename_i h0
      obtain rfl := Option.some.inj h
      refine ⟨by simp, ?_⟩
      have := byts_len s
      simp only [List.flatMap_nil]
      exact List.eq_nil_of_length_eq_zero (this.trans h0)
    · cases h
  | f + 1, s, l, h => by
    simp only [I.allF] at h
    split at h
    · rename_i h0
      obtain rfl := Option.some.inj h
      refine ⟨by simp, ?_⟩
      have := byts_len s
      simp only [List.flatMap_nil]
      exact List.eq_nil_of_length_eq_zero (this.trans h0)
    · split at h
      · rename_i hd
        obtain ⟨r, hr, rfl⟩ := Option.map_eq_some_iff.1 h
        obtain ⟨h1, h2⟩ := I.allF_some f (I.rest s) r hr
        obtain ⟨e1, e2, -, -⟩ := I.enc_dec hd
        refine ⟨?_, ?_⟩
        · intro q hq
          rcases List.mem_cons.1 hq with rfl | hq
          · exact e1
          · exact h1 q hq
        · rw [List.flatMap_cons, ← h2, byts_rest]
          show _ = I.encV (I.hd s) (I.dA s) (I.dB s) (I.dN s) ++ _
          rw [e2, List.take_append_drop]
      · cases h
theorem I.allI_some {s : ByteArray} {l : List I.Q} (h : I.allI s = some l) : (∀ q ∈ l, q.E = 0) ∧ byts s = l.flatMap I.Q.V := I.allF_some _ s l h
theorem I.enc_ne {q : I.Q} (h : q.E = 0) : 1 ≤ q.V.length := by
  have := I.enc_len h
  have h2 : 1 ≤ I.psize q.op := by unfold I.psize; have := I.num_range q.op; split <;> omega
  unfold I.Q.V
  omega
theorem I.flat_len (l : List I.Q) (h : ∀ q ∈ l, q.E = 0) : l.length ≤ (l.flatMap I.Q.V).length := by
  induction l with
  | nil => simp
  | cons q r ih =>
    have := I.enc_ne (h q List.mem_cons_self)
    have := ih (fun x hx => h x (List.mem_cons_of_mem _ hx))
    simp only [List.flatMap_cons, List.length_append, List.length_cons]
    omega
theorem I.rows_at (l : List I.Q) (k : Nat) (hk : k < l.length) (j : Nat) (hj : j < 4) : (I.rows l)[k * 4 + j]? = (l[k]).cs[j]? := by
  induction l generalizing k with
  | nil => simp at hk
  | cons q r ih =>
    simp only [I.rows, List.flatMap_cons]
    cases k with
    | zero => rw [List.getElem?_append_left (by simp [I.Q.cs]; omega)]; simp
    | succ k =>
      rw [List.getElem?_append_right (by simp [I.Q.cs]; omega)]
      have e : (k + 1) * 4 + j - q.cs.length = k * 4 + j := by simp [I.Q.cs]; omega
      rw [e]
      simpa [I.rows] using ih k (by simpa using hk)
theorem I.rows_cut (l : List I.Q) (k : Nat) (hk : k < l.length) : l.flatMap I.Q.V = (l.take k).flatMap I.Q.V ++ (l[k]).V ++ (l.drop (k + 1)).flatMap I.Q.V := by
  conv => lhs; rw [← List.take_append_drop k l]
  rw [List.flatMap_append, List.drop_eq_getElem_cons hk, List.flatMap_cons, List.append_assoc]
theorem I.take_snoc (l : List I.Q) (k : Nat) (hk : k < l.length) : (l.take (k + 1)).flatMap I.Q.V = (l.take k).flatMap I.Q.V ++ (l[k]).V := by
  rw [List.take_succ_eq_append_getElem hk, List.flatMap_append]
  simp
theorem I.cut_zero (s : ByteArray) : I.cut s 0 = s := by
  unfold I.cut
  apply byts_inj
  rw [byts_extract]
  simp
  rw [List.take_of_length_le (by rw [byts_len]; exact Nat.le_refl _)]
/-- Decode turns Encode back. -/
theorem I.dec_back {op a b n : Int} (h : I.encE op a b n = 0) : I.decR (strOfNums (I.encV op a b n)) 0 = decV (insW op a b n) ((strOfNums (I.encV op a b n)).size : Int) 0 := by
  have hb := byts_str _ (I.enc_bd (op := op) (a := a) (b := b) (n := n))
  obtain ⟨d1, d2, d3, d4, d5⟩ := I.dec_enc h (strOfNums (I.encV op a b n)) [] (by rw [hb]; simp)
  unfold I.decR
  rw [if_neg (by omega), I.cut_zero, if_pos d1, d2, d3, d4, d5, ← I.enc_len h, strOfNums_size]
  simp
theorem enc_size {op a b n : Int} : (strOfNums (I.encV op a b n)).size ≤ 10 := by
  rw [strOfNums_size]
  unfold I.encV
  split
  · split
    · have := I.regB_len (I.regs op) a b
      have := I.numW_len (I.num op) n
      simp; omega
    · simp
  · simp
end Go.Proofs.YtcllbbdkihmpgaaDoor

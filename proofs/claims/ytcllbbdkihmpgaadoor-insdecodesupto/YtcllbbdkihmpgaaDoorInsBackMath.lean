/- What is written is read as it was, and what is read is written as it stood: no walk. -/
import Derived.Test.YtcllbbdkihmpgaaDoorInsDecode
import Derived.Test.YtcllbbdkihmpgaaDoorInsEncAll
import Derived.Test.YtcllbbdkihmpgaaDoorWordBackMath
namespace Go.Proofs.YtcllbbdkihmpgaaDoor
open Go.RowKit

/-- The bytes, as numbers. -/
abbrev byts (s : ByteArray) : List Int := W.tail s 0
theorem byts_len (s : ByteArray) : (byts s).length = s.size := by rw [W.tail_length]; rfl
theorem byts_extract (s : ByteArray) (i j : Nat) : byts (s.extract i j) = ((byts s).drop i).take (j - i) := by
  simp [W.tail, List.map_drop, List.map_take]
theorem byts_str (l : List Int) (h : ∀ n ∈ l, 0 ≤ n ∧ n ≤ 255) : byts (strOfNums l) = l := W.tail_nums l h 0
theorem byts_bd (s : ByteArray) : ∀ n ∈ byts s, 0 ≤ n ∧ n ≤ 255 := by
  intro n hn
  have := W.tail_bd s 0 n hn
  omega
/-- Bytes that are the same numbers are the same. -/
theorem byts_inj {s t : ByteArray} (h : byts s = byts t) : s = t := by
  apply ByteArray.ext
  apply Array.ext'
  simp only [W.tail, List.drop_zero] at h
  have hi : Function.Injective (fun b : UInt8 => ((b.toNat : Nat) : Int)) := by
    intro a b hab
    have hab' : ((a.toNat : Nat) : Int) = (b.toNat : Nat) := hab
    have : a.toNat = b.toNat := by omega
    exact UInt8.toNat.inj this
  exact List.map_inj_right (fun a b hab => hi hab) |>.1 h

namespace W
theorem sx_num {m n : Int} (hm : m = 1 ∨ m = 4 ∨ m = 8) (h : sx m n = n) : sx m (num (bytesOf n m.toNat)) = n := by
  rw [num_bytesOf]
  rcases hm with rfl | rfl | rfl
  · simp [sx] at *; omega
  · simp [sx, wrap32] at *; omega
  · simp [sx, wrap64] at *; omega
theorem sx_sx {m u : Int} (hm : m = 1 ∨ m = 4 ∨ m = 8) : sx m (sx m u) = sx m u := by
  rcases hm with rfl | rfl | rfl
  · simp [sx]
  · simp [sx, wrap32]
  · simp [sx, wrap64]
theorem num_lt (l : List Int) (h : ∀ n ∈ l, 0 ≤ n ∧ n ≤ 255) : 0 ≤ num l ∧ num l < 256 ^ l.length := num_bd l (fun n hn => by have := h n hn; omega)
theorem bytesOf_num : ∀ (l : List Int), (∀ n ∈ l, 0 ≤ n ∧ n ≤ 255) → bytesOf (num l) l.length = l
  | [], _ => by simp [bytesOf]
  | c :: r, h => by
    have hc := h c List.mem_cons_self
    rw [List.length_cons, bytesOf_cons, num]
    rw [show (num r * 256 + c) % 256 = c by omega, show (num r * 256 + c) / 256 = num r by omega, bytesOf_num r (fun n hn => h n (List.mem_cons_of_mem _ hn))]
theorem bytesOf_mod : ∀ (s : Nat) (n k : Int), bytesOf (n + 256 ^ s * k) s = bytesOf n s
  | 0, n, k => by simp [bytesOf]
  | s + 1, n, k => by
    rw [bytesOf_cons, bytesOf_cons]
    have e : (256 : Int) ^ (s + 1) * k = 256 * (256 ^ s * k) := by rw [Int.pow_succ]; rw [Int.mul_comm (256 ^ s) 256, Int.mul_assoc]
    rw [e, show (n + 256 * (256 ^ s * k)) % 256 = n % 256 by omega, show (n + 256 * (256 ^ s * k)) / 256 = n / 256 + 256 ^ s * k by omega, bytesOf_mod s]
theorem bytesOf_sx {m u : Int} (hm : m = 1 ∨ m = 4 ∨ m = 8) : bytesOf (sx m u) m.toNat = bytesOf u m.toNat := by
  have key : ∃ k, sx m u = u + 256 ^ m.toNat * k := by
    rcases hm with rfl | rfl | rfl
    · exact ⟨-((u + 128) / 256), by simp [sx]; omega⟩
    · exact ⟨-((u + 2147483648) / 4294967296), by simp [sx, wrap32]; omega⟩
    · exact ⟨-((u + 9223372036854775808) / 18446744073709551616), by simp [sx, wrap64]; omega⟩
  obtain ⟨k, hk⟩ := key
  rw [hk, bytesOf_mod]
theorem isSz_of {m : Int} (hm : m = 1 ∨ m = 4 ∨ m = 8) : isSz m = true := by rcases hm with rfl | rfl | rfl <;> decide
theorem numV_at {s : ByteArray} {m : Int} (hm : m = 1 ∨ m = 4 ∨ m = 8) (h : (s.size : Int) = m) : numV s = sx m (num (tail s 0)) ∧ numE s = 0 := by
  unfold numV numE
  rw [h, if_pos (isSz_of hm), if_pos (isSz_of hm)]
  exact ⟨rfl, rfl⟩
end W

namespace I
theorem num_cases {op : Int} (h : ¬ num op = 0) : num op = 1 ∨ num op = 4 ∨ num op = 8 := by
  have := num_range op; omega
theorem kAt_eq (op : Int) : kAt op = if regs op = 0 then 1 else 2 := by
  unfold kAt psize
  split <;> omega
theorem psize_nat (op : Int) : (psize op).toNat = kAt op + (num op).toNat := by
  rw [kAt_eq]; unfold psize
  have := num_range op
  split <;> omega
/-- The bytes of a form that bears all. -/
theorem enc_len {op a b n : Int} (h : I.encE op a b n = 0) : ((I.encV op a b n).length : Int) = psize op := by
  unfold I.encE at h
  split at h
  · rename_i hf
    split at h
    · rename_i hn
      unfold I.encV
      rw [if_pos hf, if_pos hn]
      have hr := regs_range op
      have lr : ((regB (regs op) a b).length : Int) = if regs op = 0 then 0 else 1 := by
        unfold regB
        rcases hr with e | e | e <;> simp [e]
      have ln : ((numW (num op) n).length : Int) = num op := by
        unfold numW
        split
        · rename_i e; simp [e]
        · rename_i e
          have hm := num_cases e
          unfold numOk at hn
          rw [if_neg e] at hn
          have hE : W.bytesE n (num op) = 0 := by simpa using (Bool.and_eq_true_iff.1 hn).1
          unfold W.bytesE at hE
          rw [if_pos (W.isSz_of hm)] at hE
          split at hE
          · rename_i hs
            unfold W.bytesV
            rw [if_pos (W.isSz_of hm), if_pos hs, W.bytesOf_length]
            omega
          · omega
      simp only [List.length_append, List.length_cons, List.length_nil]
      unfold psize
      split at lr <;> rename_i e
      · rw [if_pos e]; omega
      · rw [if_neg e]; omega
    · omega
  · omega
theorem enc_bd {op a b n : Int} : ∀ x ∈ I.encV op a b n, 0 ≤ x ∧ x ≤ 255 := by
  intro x hx
  unfold I.encV at hx
  split at hx
  · rename_i hf
    split at hx
    · have hf' := Bool.and_eq_true_iff.1 hf
      have ho := of_decide_eq_true hf'.1
      have hr := I.bears_regs hf'.2
      simp only [List.mem_append, List.mem_singleton] at hx
      rcases hx with (rfl | hx) | hx
      · omega
      · unfold regB at hx
        split at hx
        · simp at hx
        · split at hx <;> (simp at hx; omega)
      · unfold numW at hx
        split at hx
        · simp at hx
        · unfold W.bytesV at hx
          split at hx
          · split at hx
            · exact W.bytesOf_bd _ _ x hx
            · simp at hx
          · simp at hx
    · simp at hx
  · simp at hx
theorem enc_parts {op a b n : Int} (h : I.encE op a b n = 0) :
    (1 ≤ op ∧ op ≤ 33) ∧ I.bears (regs op) (num op) a b n = true ∧ numOk (num op) (nat op) n = true ∧ I.encV op a b n = [op] ++ regB (regs op) a b ++ numW (num op) n := by
  unfold I.encE at h
  split at h
  · rename_i hf
    split at h
    · rename_i hn
      have hf' := Bool.and_eq_true_iff.1 hf
      refine ⟨of_decide_eq_true hf'.1, hf'.2, hn, ?_⟩
      unfold I.encV
      rw [if_pos hf, if_pos hn]
    · omega
  · omega
theorem bears_zero {r m a b n : Int} (h : I.bears r m a b n = true) : (r < 1 → a = 0) ∧ (r < 2 → b = 0) ∧ (m = 0 → n = 0) := by
  unfold I.bears I.bad at h
  have h1 := (Bool.and_eq_true_iff.1 h).1
  simp at h1
  refine ⟨fun hr => ?_, fun hr => ?_, fun hm => ?_⟩
  · have := h1.1.1; omega
  · have := h1.1.2; omega
  · rcases h1.2 with e | e
    · exact e
    · exact absurd hm e

/-- What is written is read as it was, whatever stands behind it. -/
theorem dec_enc {op a b n : Int} (h : I.encE op a b n = 0) (s : ByteArray) (r : List Int) (hs : byts s = I.encV op a b n ++ r) :
    I.dOk s = true ∧ hd s = op ∧ I.dA s = a ∧ I.dB s = b ∧ I.dN s = n := by
  have hlen := enc_len h
  obtain ⟨ho, hbe, hno, hv⟩ := enc_parts h
  have hz := bears_zero hbe
  have hrg := I.bears_regs hbe
  rw [hv] at hs
  have hop : hd s = op := by unfold hd; show (byts s).headD 0 = op; rw [hs]; rfl
  have hsz : ((byts s).length : Int) = psize op + r.length := by rw [hs, ← hv, List.length_append]; omega
  rw [byts_len] at hsz
  have hrr := regs_range op
  have hk := kAt_eq op
  -- the registers' byte
  have hA : I.dA s = a := by
    unfold I.dA
    rw [hop]
    unfold rA
    rcases hrr with e | e | e
    · rw [if_pos e]; exact (hz.1 (by omega)).symm
    · rw [if_neg (by omega), if_pos e]
      unfold hd
      show (byts (s.extract 1 (kAt op))).headD 0 = a
      rw [byts_extract, hk, if_neg (by omega), hs]
      simp [regB, e]
    · rw [if_neg (by omega), if_neg (by omega)]
      unfold hd
      show (byts (s.extract 1 (kAt op))).headD 0 / 16 = a
      rw [byts_extract, hk, if_neg (by omega), hs]
      simp [regB, e]
      omega
  have hB : I.dB s = b := by
    unfold I.dB
    rw [hop]
    unfold rB
    rcases hrr with e | e | e
    · rw [if_neg (by omega)]; exact (hz.2.1 (by omega)).symm
    · rw [if_neg (by omega)]; exact (hz.2.1 (by omega)).symm
    · rw [if_pos e]
      unfold hd
      show (byts (s.extract 1 (kAt op))).headD 0 % 16 = b
      rw [byts_extract, hk, if_neg (by omega), hs]
      simp [regB, e]
      omega
  -- the number's bytes
  have hN : I.dN s = n ∧ rdOk (num op) (nat op) (I.dS s) = true := by
    unfold I.dN
    rw [hop]
    unfold rdN rdOk
    by_cases e : num op = 0
    · rw [if_pos e, if_pos e]; exact ⟨(hz.2.2 e).symm, rfl⟩
    · have hm := num_cases e
      unfold numOk at hno
      rw [if_neg e] at hno
      obtain ⟨hno1, hno2⟩ := Bool.and_eq_true_iff.1 hno
      have hE : W.bytesE n (num op) = 0 := by simpa using hno1
      have hsx : W.sx (num op) n = n := by
        unfold W.bytesE at hE
        rw [if_pos (W.isSz_of hm)] at hE
        split at hE
        · assumption
        · omega
      have hw : numW (num op) n = W.bytesOf n (num op).toNat := by
        unfold numW W.bytesV
        rw [if_neg e, if_pos (W.isSz_of hm), if_pos hsx]
      have hd1 : byts (I.dS s) = W.bytesOf n (num op).toNat := by
        unfold I.dS
        rw [hop, byts_extract, psize_nat, hs, hw, hk]
        have l1 : (regB (regs op) a b).length = if regs op = 0 then 0 else 1 := by
          unfold regB
          rcases hrr with e | e | e <;> simp [e]
        have l2 := W.bytesOf_length n (num op).toNat
        rw [show (if regs op = 0 then 1 else 2) = ([op] ++ regB (regs op) a b).length by simp [l1]; split <;> rfl, List.append_assoc, List.drop_left, Nat.add_sub_cancel_left]
        generalize W.bytesOf n (num op).toNat = l at *
        rw [← l2, List.take_left]
      have hs1 : ((I.dS s).size : Int) = num op := by
        rw [← byts_len, hd1, W.bytesOf_length]; omega
      have hv1 := W.numV_at hm hs1
      have hn1 : W.numV (I.dS s) = n := by
        rw [hv1.1]
        show W.sx (num op) (W.num (byts (I.dS s))) = n
        rw [hd1]
        exact W.sx_num hm hsx
      rw [if_neg e, if_neg e, hn1, hv1.2]
      exact ⟨rfl, by simpa using hno2⟩
  refine ⟨?_, hop, hA, hB, hN.1⟩
  unfold I.dOk
  rw [hA, hB, hop, hN.2, isr_yes hrg.1, isr_yes hrg.2, decide_eq_true]
  · rfl
  · refine ⟨?_, ho.1, ho.2, ?_⟩
    · have : 1 ≤ psize op := by unfold psize; have := num_range op; split <;> omega
      omega
    · omega

/-- What is read is written as it stood. -/
theorem enc_dec {s : ByteArray} (h : I.dOk s = true) :
    I.encE (hd s) (I.dA s) (I.dB s) (I.dN s) = 0 ∧ I.encV (hd s) (I.dA s) (I.dB s) (I.dN s) = (byts s).take (psize (hd s)).toNat ∧ 1 ≤ psize (hd s) ∧ psize (hd s) ≤ (s.size : Int) := by
  unfold I.dOk at h
  obtain ⟨h1, h2⟩ := Bool.and_eq_true_iff.1 h
  obtain ⟨h2, h3⟩ := Bool.and_eq_true_iff.1 h2
  obtain ⟨ha, hb⟩ := Bool.and_eq_true_iff.1 h2
  obtain ⟨g0, g1, g2, g3⟩ := of_decide_eq_true h1
  have hrr := regs_range (hd s)
  have hk := kAt_eq (hd s)
  have hp1 : 1 ≤ psize (hd s) := by unfold psize; have := num_range (hd s); split <;> omega
  have hpn := psize_nat (hd s)
  have hln := byts_len s
  -- the bytes, one by one
  have hL : byts s = hd s :: (byts s).drop 1 := by
    cases e : byts s with
    | nil => rw [e] at hln; simp at hln; omega
    | cons x r =>
      have : hd s = x := by unfold hd; show (byts s).headD 0 = x; rw [e]; rfl
      rw [this]; rfl
  have hreg : regB (regs (hd s)) (I.dA s) (I.dB s) = ((byts s).drop 1).take (kAt (hd s) - 1) := by
    unfold I.dA I.dB regB rA rB
    rcases hrr with e | e | e
    · rw [if_pos e, hk, if_pos e]; simp
    all_goals
      have hx : hd (s.extract 1 (kAt (hd s))) = (((byts s).drop 1).take 1).headD 0 := by
        show (byts (s.extract 1 (kAt (hd s)))).headD 0 = _
        rw [byts_extract, hk, if_neg (by omega)]
      have hlen2 : 2 ≤ (byts s).length := by
        unfold psize at g3
        have := num_range (hd s)
        rw [if_neg (by omega)] at g3
        omega
      obtain ⟨x, hx1⟩ : ∃ x, ((byts s).drop 1).take 1 = [x] := by
        cases e2 : (byts s).drop 1 with
        | nil => have := congrArg List.length e2; simp at this; omega
        | cons x r => exact ⟨x, by simp⟩
      rw [hx, hx1]
      have hk2 : kAt (hd s) - 1 = 1 := by rw [hk, if_neg (by omega)]
      rw [hk2, hx1]
      simp [e]
      try omega
  have hz : (regs (hd s) < 1 → I.dA s = 0) ∧ (regs (hd s) < 2 → I.dB s = 0) ∧ (num (hd s) = 0 → I.dN s = 0) := by
    refine ⟨fun e => ?_, fun e => ?_, fun e => ?_⟩
    · unfold I.dA rA; rw [if_pos (by omega)]
    · unfold I.dB rB; rw [if_neg (by omega)]
    · unfold I.dN rdN; rw [if_pos e]
  have hbe : I.bears (regs (hd s)) (num (hd s)) (I.dA s) (I.dB s) (I.dN s) = true := by
    unfold I.bears I.bad
    rw [ha, hb]
    simp
    refine ⟨⟨?_, ?_⟩, ?_⟩
    · by_cases c : regs (hd s) < 1
      · exact .inl (hz.1 c)
      · exact .inr (by omega)
    · by_cases c : regs (hd s) < 2
      · exact .inl (hz.2.1 c)
      · exact .inr (by omega)
    · by_cases c : num (hd s) = 0
      · exact .inl (hz.2.2 c)
      · exact .inr c
  have hnum : numOk (num (hd s)) (nat (hd s)) (I.dN s) = true ∧ numW (num (hd s)) (I.dN s) = ((byts s).drop (kAt (hd s))).take (num (hd s)).toNat := by
    unfold numOk numW
    by_cases e : num (hd s) = 0
    · rw [if_pos e, if_pos e, e]; simp
    · have hm := num_cases e
      have hd1 : byts (I.dS s) = ((byts s).drop (kAt (hd s))).take (num (hd s)).toNat := by
        unfold I.dS
        rw [byts_extract, hpn, Nat.add_sub_cancel_left]
      have hl : (byts (I.dS s)).length = (num (hd s)).toNat := by
        rw [hd1, List.length_take, List.length_drop, hln]
        omega
      have hs1 : ((I.dS s).size : Int) = num (hd s) := by rw [← byts_len, hl]; omega
      have hv1 := W.numV_at hm hs1
      have hN : I.dN s = W.sx (num (hd s)) (W.num (byts (I.dS s))) := by unfold I.dN rdN; rw [if_neg e]; exact hv1.1
      have hsx : W.sx (num (hd s)) (I.dN s) = I.dN s := by rw [hN, W.sx_sx hm]
      unfold rdOk at h3
      rw [if_neg e] at h3
      have h4 := (Bool.and_eq_true_iff.1 h3).2
      have hN' : W.numV (I.dS s) = I.dN s := by unfold I.dN rdN; rw [if_neg e]
      rw [hN'] at h4
      rw [if_neg e, if_neg e]
      refine ⟨?_, ?_⟩
      · unfold W.bytesE
        rw [if_pos (W.isSz_of hm), if_pos hsx, h4]; rfl
      · unfold W.bytesV
        rw [if_pos (W.isSz_of hm), if_pos hsx, hN, W.bytesOf_sx hm, ← hd1, ← hl]
        exact W.bytesOf_num _ (byts_bd _)
  have hf : I.fits (hd s) (I.dA s) (I.dB s) (I.dN s) = true := by unfold I.fits; rw [hbe, decide_eq_true ⟨g1, g2⟩]; rfl
  refine ⟨?_, ?_, hp1, g3⟩
  · unfold I.encE; rw [if_pos hf, if_pos hnum.1]
  · unfold I.encV
    rw [if_pos hf, if_pos hnum.1, hreg, hnum.2, hpn]
    conv => rhs; rw [hL]
    have hk1 : kAt (hd s) = (kAt (hd s) - 1) + 1 := by rw [hk]; split <;> rfl
    rw [show kAt (hd s) + (num (hd s)).toNat = ((kAt (hd s) - 1) + (num (hd s)).toNat) + 1 by omega, List.take_succ_cons, List.take_add, List.drop_drop, show 1 + (kAt (hd s) - 1) = kAt (hd s) by omega]
    simp

end I
end Go.Proofs.YtcllbbdkihmpgaaDoor

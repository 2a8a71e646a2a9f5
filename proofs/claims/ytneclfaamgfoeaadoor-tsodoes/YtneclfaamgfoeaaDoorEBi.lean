/- What is written is read as it was: no program in sight. -/
import Derived.Test.YtneclfaamgfoeaaDoorEAa
import Derived.Test.YtneclfaamgfoeaaDoorEAb
import Derived.Test.YtneclfaamgfoeaaDoorEAr
import Derived.Laws.StructEq
import Derived.Deep.LoopGhost
import Derived.Deep.AppendLies
import Derived.Test.YtneclfaamgfoeaaDoorEBg
import Derived.Test.YtneclfaamgfoeaaDoorEBh
import Derived.Test.YtneclfaamgfoeaaDoorEAh
import Derived.WalkKit
import Derived.WalkSpells
import Derived.WalkLawsBesides
namespace Go.Proofs.YtneclfaamgfoeaaDoor.W
set_option maxRecDepth 100000
open Go.RowKit

theorem byteAt_succ (n : Int) (i : Nat) : byteAt n (i + 1) = byteAt (n / 256) i := by
  unfold byteAt
  have : (0 : Int) ≤ 256 := by decide
  rw [Int.pow_succ, Int.mul_comm, ← Int.ediv_ediv_of_nonneg this]

theorem bytesOf_cons (n : Int) (s : Nat) : bytesOf n (s + 1) = n % 256 :: bytesOf (n / 256) s := by
  simp only [bytesOf, List.range_succ_eq_map, List.map_cons, List.map_map]
  congr 1
  · simp [byteAt]
  · apply List.map_congr_left
    intro i _
    exact byteAt_succ n i

end Go.Proofs.YtneclfaamgfoeaaDoor.W

/- What is written is read as it was, and what is read is written as it stood: no walk. -/
namespace Go.Proofs.YtneclfaamgfoeaaDoor
set_option maxRecDepth 100000
open Go.RowKit

/-- The bytes, as numbers. -/
abbrev byts (s : ByteArray) : List Int := W.tail s 0
theorem byts_len (s : ByteArray) : (byts s).length = s.size := by rw [W.tail_length]; rfl
theorem byts_extract (s : ByteArray) (i j : Nat) : byts (s.extract i j) = ((byts s).drop i).take (j - i) := by
  simp [W.tail, List.map_drop, List.map_take]
theorem byts_bd (s : ByteArray) : ∀ n ∈ byts s, 0 ≤ n ∧ n ≤ 255 := by
  intro n hn
  have := W.tail_bd s 0 n hn
  omega
/-- Bytes that are the same numbers are the same. -/
theorem byts_inj {s t : ByteArray} (h : byts s = byts t) : s = t := by
  apply ByteArray.ext
  apply Array.ext'
  simp only [W.tail, List.drop_zero] at h
  have hi : Function.Injective (fun b : UInt8 => ((b.toNat : Nat) : Int)) := by
    intro a b hab
    have hab' : ((a.toNat : Nat) : Int) = (b.toNat : Nat) := hab
    have : a.toNat = b.toNat := by omega
    exact UInt8.toNat.inj this
  exact List.map_inj_right (fun a b hab => hi hab) |>.1 h

namespace W
theorem sx_sx {m u : Int} (hm : m = 1 ∨ m = 4 ∨ m = 8) : sx m (sx m u) = sx m u := by
  rcases hm with rfl | rfl | rfl
  · simp [sx]
  · simp [sx, wrap32]
  · simp [sx, wrap64]
theorem ibytesOf_num : ∀ (l : List Int), (∀ n ∈ l, 0 ≤ n ∧ n ≤ 255) → bytesOf (num l) l.length = l
  | [], _ => by simp [bytesOf]
  | c :: r, h => by
    have hc := h c List.mem_cons_self
    rw [List.length_cons, bytesOf_cons, num]
    rw [show (num r * 256 + c) % 256 = c by omega, show (num r * 256 + c) / 256 = num r by omega, ibytesOf_num r (fun n hn => h n (List.mem_cons_of_mem _ hn))]
theorem bytesOf_mod : ∀ (s : Nat) (n k : Int), bytesOf (n + 256 ^ s * k) s = bytesOf n s
  | 0, n, k => by simp [bytesOf]
  | s + 1, n, k => by
    rw [bytesOf_cons, bytesOf_cons]
    have e : (256 : Int) ^ (s + 1) * k = 256 * (256 ^ s * k) := by rw [Int.pow_succ]; rw [Int.mul_comm (256 ^ s) 256, Int.mul_assoc]
    rw [e, show (n + 256 * (256 ^ s * k)) % 256 = n % 256 by omega, show (n + 256 * (256 ^ s * k)) / 256 = n / 256 + 256 ^ s * k by omega, bytesOf_mod s]
theorem bytesOf_sx {m u : Int} (hm : m = 1 ∨ m = 4 ∨ m = 8) : bytesOf (sx m u) m.toNat = bytesOf u m.toNat := by
  have key : ∃ k, sx m u = u + 256 ^ m.toNat * k := by
    rcases hm with rfl | rfl | rfl
    · exact ⟨-((u + 128) / 256), by simp [sx]; omega⟩
    · exact ⟨-((u + 2147483648) / 4294967296), by simp [sx, wrap32]; omega⟩
    · exact ⟨-((u + 9223372036854775808) / 18446744073709551616), by simp [sx, wrap64]; omega⟩
  obtain ⟨k, hk⟩ := key
  rw [hk, bytesOf_mod]
theorem isSz_of {m : Int} (hm : m = 1 ∨ m = 4 ∨ m = 8) : isSz m = true := by rcases hm with rfl | rfl | rfl <;> decide
theorem numV_at {s : ByteArray} {m : Int} (hm : m = 1 ∨ m = 4 ∨ m = 8) (h : (s.size : Int) = m) : numV s = sx m (num (tail s 0)) ∧ numE s = 0 := by
  unfold numV numE
  rw [h, if_pos (isSz_of hm), if_pos (isSz_of hm)]
  exact ⟨rfl, rfl⟩
end W

namespace I
theorem num_cases {op : Int} (h : ¬ num op = 0) : num op = 1 ∨ num op = 4 ∨ num op = 8 := by
  have := num_range op; omega
theorem kAt_eq (op : Int) : kAt op = if regs op = 0 then 1 else 2 := by
  unfold kAt psize
  split <;> omega
theorem psize_nat (op : Int) : (psize op).toNat = kAt op + (num op).toNat := by
  rw [kAt_eq]; unfold psize
  have := num_range op
  split <;> omega
theorem enc_parts {op a b n : Int} (h : I.encE op a b n = 0) :
    (1 ≤ op ∧ op ≤ 33) ∧ I.bears (regs op) (num op) a b n = true ∧ numOk (num op) (nat op) n = true ∧ I.encV op a b n = [op] ++ regB (regs op) a b ++ numW (num op) n := by
  unfold I.encE at h
  split at h
  · rename_i hf
    split at h
    · rename_i hn
      have hf' := Bool.and_eq_true_iff.1 hf
      refine ⟨of_decide_eq_true hf'.1, hf'.2, hn, ?_⟩
      unfold I.encV
      rw [if_pos hf, if_pos hn]
    · omega
  · omega

/-- What is read is written as it stood. -/
theorem enc_dec {s : ByteArray} (h : I.dOk s = true) :
    I.encE (hd s) (I.dA s) (I.dB s) (I.dN s) = 0 ∧ I.encV (hd s) (I.dA s) (I.dB s) (I.dN s) = (byts s).take (psize (hd s)).toNat ∧ 1 ≤ psize (hd s) ∧ psize (hd s) ≤ (s.size : Int) := by
  unfold I.dOk at h
  obtain ⟨h1, h2⟩ := Bool.and_eq_true_iff.1 h
  obtain ⟨h2, h3⟩ := Bool.and_eq_true_iff.1 h2
  obtain ⟨ha, hb⟩ := Bool.and_eq_true_iff.1 h2
  obtain ⟨g0, g1, g2, g3⟩ := of_decide_eq_true h1
  have hrr := regs_range (hd s)
  have hk := kAt_eq (hd s)
  have hp1 : 1 ≤ psize (hd s) := by unfold psize; have := num_range (hd s); split <;> omega
  have hpn := psize_nat (hd s)
  have hln := byts_len s
  -- the bytes, one by one
  have hL : byts s = hd s :: (byts s).drop 1 := by
    cases e : byts s with
    | nil => rw [e] at hln; simp at hln; omega
    | cons x r =>
      have : hd s = x := by unfold hd; show (byts s).headD 0 = x; rw [e]; rfl
      rw [this]; rfl
  have hreg : regB (regs (hd s)) (I.dA s) (I.dB s) = ((byts s).drop 1).take (kAt (hd s) - 1) := by
    unfold I.dA I.dB regB rA rB
    rcases hrr with e | e | e
    · rw [if_pos e, hk, if_pos e]; simp
    all_goals
      have hx : hd (s.extract 1 (kAt (hd s))) = (((byts s).drop 1).take 1).headD 0 := by
        show (byts (s.extract 1 (kAt (hd s)))).headD 0 = _
        rw [byts_extract, hk, if_neg (by omega)]
      have hlen2 : 2 ≤ (byts s).length := by
        unfold psize at g3
        have := num_range (hd s)
        rw [if_neg (by omega)] at g3
        omega
      obtain ⟨x, hx1⟩ : ∃ x, ((byts s).drop 1).take 1 = [x] := by
        cases e2 : (byts s).drop 1 with
        | nil => have := congrArg List.length e2; simp at this; omega
        | cons x r => exact ⟨x, by simp⟩
      rw [hx, hx1]
      have hk2 : kAt (hd s) - 1 = 1 := by rw [hk, if_neg (by omega)]
      rw [hk2, hx1]
      simp [e]
      try omega
  have hz : (regs (hd s) < 1 → I.dA s = 0) ∧ (regs (hd s) < 2 → I.dB s = 0) ∧ (num (hd s) = 0 → I.dN s = 0) := by
    refine ⟨fun e => ?_, fun e => ?_, fun e => ?_⟩
    · unfold I.dA rA; rw [if_pos (by omega)]
    · unfold I.dB rB; rw [if_neg (by omega)]
    · unfold I.dN rdN; rw [if_pos e]
  have hbe : I.bears (regs (hd s)) (num (hd s)) (I.dA s) (I.dB s) (I.dN s) = true := by
    unfold I.bears I.bad
    rw [ha, hb]
    simp
    refine ⟨⟨?_, ?_⟩, ?_⟩
    · by_cases c : regs (hd s) < 1
      · exact .inl (hz.1 c)
      · exact .inr (by omega)
    · by_cases c : regs (hd s) < 2
      · exact .inl (hz.2.1 c)
      · exact .inr (by omega)
    · by_cases c : num (hd s) = 0
      · exact .inl (hz.2.2 c)
      · exact .inr c
  have hnum : numOk (num (hd s)) (nat (hd s)) (I.dN s) = true ∧ numW (num (hd s)) (I.dN s) = ((byts s).drop (kAt (hd s))).take (num (hd s)).toNat := by
    unfold numOk numW
    by_cases e : num (hd s) = 0
    · rw [if_pos e, if_pos e, e]; simp
    · have hm := num_cases e
      have hd1 : byts (I.dS s) = ((byts s).drop (kAt (hd s))).take (num (hd s)).toNat := by
        unfold I.dS
        rw [byts_extract, hpn, Nat.add_sub_cancel_left]
      have hl : (byts (I.dS s)).length = (num (hd s)).toNat := by
        rw [hd1, List.length_take, List.length_drop, hln]
        omega
      have hs1 : ((I.dS s).size : Int) = num (hd s) := by rw [← byts_len, hl]; omega
      have hv1 := W.numV_at hm hs1
      have hN : I.dN s = W.sx (num (hd s)) (W.num (byts (I.dS s))) := by unfold I.dN rdN; rw [if_neg e]; exact hv1.1
      have hsx : W.sx (num (hd s)) (I.dN s) = I.dN s := by rw [hN, W.sx_sx hm]
      unfold rdOk at h3
      rw [if_neg e] at h3
      have h4 := (Bool.and_eq_true_iff.1 h3).2
      have hN' : W.numV (I.dS s) = I.dN s := by unfold I.dN rdN; rw [if_neg e]
      rw [hN'] at h4
      rw [if_neg e, if_neg e]
      refine ⟨?_, ?_⟩
      · unfold W.bytesE
        rw [if_pos (W.isSz_of hm), if_pos hsx, h4]; rfl
      · unfold W.bytesV
        rw [if_pos (W.isSz_of hm), if_pos hsx, hN, W.bytesOf_sx hm, ← hd1, ← hl]
        exact W.ibytesOf_num _ (byts_bd _)
  have hf : I.fits (hd s) (I.dA s) (I.dB s) (I.dN s) = true := by unfold I.fits; rw [hbe, decide_eq_true ⟨g1, g2⟩]; rfl
  refine ⟨?_, ?_, hp1, g3⟩
  · unfold I.encE; rw [if_pos hf, if_pos hnum.1]
  · unfold I.encV
    rw [if_pos hf, if_pos hnum.1, hreg, hnum.2, hpn]
    conv => rhs; rw [hL]
    have hk1 : kAt (hd s) = (kAt (hd s) - 1) + 1 := by rw [hk]; split <;> rfl
    rw [show kAt (hd s) + (num (hd s)).toNat = ((kAt (hd s) - 1) + (num (hd s)).toNat) + 1 by omega, List.take_succ_cons, List.take_add, List.drop_drop, show 1 + (kAt (hd s) - 1) = kAt (hd s) by omega]
    simp

end I
end Go.Proofs.YtneclfaamgfoeaaDoor

/- Two instructions, held against each other. -/
namespace Go.Proofs.YtneclfaamgfoeaaDoor
set_option maxRecDepth 100000
open Go.RowKit

/-- Are two instructions the same? -/
def I.same (op a b n op' a' b' n' : Int) : Bool := decide (op = op' ∧ a = a' ∧ b = b' ∧ n = n')

end Go.Proofs.YtneclfaamgfoeaaDoor

/- ins.All. -/
namespace Go.Proofs.YtneclfaamgfoeaaDoor
set_option maxRecDepth 100000
open Go.RowKit
set_option linter.unusedVariables false
attribute [local go_sem ↓] Go.wp_at_zero Go.wp_at_succ

/-- An instruction. -/
structure I.Q where
  op : Int
  a : Int
  b : Int
  n : Int
abbrev I.Q.v (q : I.Q) : Value := .agg #[.int .i64 q.op, .int .i64 q.a, .int .i64 q.b, .int .i64 q.n]
def I.Q.cs (q : I.Q) : List Value := [.int .i64 q.op, .int .i64 q.a, .int .i64 q.b, .int .i64 q.n]
def I.rows (l : List I.Q) : List Value := l.flatMap I.Q.cs

def I.rest (s : ByteArray) : ByteArray := s.extract (I.psize (I.hd s)).toNat s.size
theorem I.rest_size (s : ByteArray) (h : I.dOk s = true) : (I.rest s).size + (I.psize (I.hd s)).toNat = s.size ∧ 1 ≤ (I.psize (I.hd s)).toNat := by
  have := (I.enc_dec h).2.2
  unfold I.rest
  simp
  omega
theorem I.dOk_pos {s : ByteArray} (h : I.dOk s = true) : 0 < s.size := by
  have := (I.enc_dec h).2.2; omega

end Go.Proofs.YtneclfaamgfoeaaDoor

/- All instructions of bytes that were put together: no walk. -/
namespace Go.Proofs.YtneclfaamgfoeaaDoor
set_option maxRecDepth 100000
open Go.RowKit

/-- What was read is written as it stood, one instruction behind the other. -/
def I.Q.E (q : I.Q) : Int := I.encE q.op q.a q.b q.n
def I.Q.V (q : I.Q) : List Int := I.encV q.op q.a q.b q.n
end Go.Proofs.YtneclfaamgfoeaaDoor

/- The document's Decode and All, whatever the bytes. -/
namespace Go.Proofs.YtneclfaamgfoeaaDoor
set_option maxRecDepth 100000
open Go.RowKit
set_option linter.unusedVariables false
attribute [local go_sem ↓] Go.wp_at_zero Go.wp_at_succ

set_option maxRecDepth 100000 in
set_option maxHeartbeats 8000000 in
theorem rdec_arg (s : ByteArray) (a : Int) (h : a < 0 ∨ (s.size : Int) < a) (w : World) :
    Calls Tryd.prog 49 #[.string s, .int .i64 a] w fun e w' => e = .returned (decV (insW 0 0 0 0) 0 1) ∧ Below w.heap.size w w' := by
  rcases (show a < 0 ∨ (0 ≤ a ∧ (s.size : Int) < a) by omega) with h | ⟨h, h'⟩
  all_goals
    go_enter Tryd.func49, Tryd.ntmps49
    go_wp2
    exact bodyPost_ret (v := decV (insW 0 0 0 0) 0 1) (by simp [results, Tryd.results49, go_sem]) rfl ⟨rfl, bl1 _ _⟩

set_option maxRecDepth 100000 in
set_option maxHeartbeats 8000000 in
theorem rdec_end (s : ByteArray) (k : Nat) (h : k = s.size) (w : World) :
    Calls Tryd.prog 49 #[.string s, .int .i64 k] w fun e w' => e = .returned (decV (insW 0 0 0 0) 0 9) ∧ Below w.heap.size w w' := by
  have h1 : (k : Int) = (s.size : Int) := by omega
  clear h
  go_enter Tryd.func49, Tryd.ntmps49
  go_wp2
  exact bodyPost_ret (v := decV (insW 0 0 0 0) 0 9) (by simp [results, Tryd.results49, go_sem]) rfl ⟨rfl, bl1 _ _⟩

set_option maxRecDepth 100000 in
set_option maxHeartbeats 8000000 in
theorem rdec_short (s : ByteArray) (k : Nat) (hk : k < s.size) (hm : s.size ≤ 9223372036854775000) (op z : Int) (ho : (s[k].toNat : Int) = op) (hz : I.size op = z) (h : z = 0 ∨ (¬ z = 0 ∧ 0 ≤ z ∧ z ≤ 10 ∧ (s.size : Int) < k + z)) (w : World) :
    Calls Tryd.prog 49 #[.string s, .int .i64 k] w fun e w' => e = .returned (decV (insW 0 0 0 0) 0 9) ∧ Below w.heap.size w w' := by
  have HZ : Hid (I.size op = z) := hz
  have ho2 : (s[k].toNat : Int) ≤ 255 := by have := s[k].toNat_lt; omega
  have h0 : (0 : Int) ≤ (k : Int) := by omega
  have h1 : (k : Int) ≤ (s.size : Int) := by omega
  have h2 : ¬ (k : Int) = (s.size : Int) := by omega
  clear hz
  rcases h with h | ⟨h, h3, h4, h5⟩
  · subst h
    go_enter Tryd.func49, Tryd.ntmps49
    go_wp2_with (go_at_call 62; refine (rsize_any _ _).mono ?_; rintro e w' ⟨rfl, rfl⟩; rw [HZ.out])
    refine bodyPost_ret (v := decV (insW 0 0 0 0) 0 9) (by simp [results, Tryd.results49, go_sem]) rfl ⟨rfl, ?_⟩
    exact bl2 _ _ _
  · go_enter Tryd.func49, Tryd.ntmps49
    go_wp2_with (go_at_call 62; refine (rsize_any _ _).mono ?_; rintro e w' ⟨rfl, rfl⟩; rw [HZ.out])
    refine bodyPost_ret (v := decV (insW 0 0 0 0) 0 9) (by simp [results, Tryd.results49, go_sem]) rfl ⟨rfl, ?_⟩
    exact bl2 _ _ _

/-- What the two ways of telling come to: the instruction is one, just if it has a form. -/
theorem I.dOk_enc {c : ByteArray} (h0 : 0 < c.size) (h1 : 1 ≤ I.hd c ∧ I.hd c ≤ 33) (h2 : I.psize (I.hd c) ≤ (c.size : Int)) : I.dOk c = true ↔ I.encE (I.hd c) (I.dA c) (I.dB c) (I.dN c) = 0 := by
  constructor
  · intro h; exact (I.enc_dec h).1
  · intro h
    obtain ⟨ho, hb, hn, hv⟩ := I.enc_parts h
    have hr := I.bears_regs hb
    unfold I.dOk
    rw [decide_eq_true ⟨h0, h1.1, h1.2, h2⟩, I.isr_yes hr.1, I.isr_yes hr.2]
    unfold I.numOk at hn
    unfold I.rdOk
    by_cases e : I.num (I.hd c) = 0
    · rw [if_pos e]; rfl
    · rw [if_neg e] at hn
      rw [if_neg e]
      have hN : W.numV (I.dS c) = I.dN c := by unfold I.dN I.rdN; rw [if_neg e]
      have hs : ((I.dS c).size : Int) = I.num (I.hd c) := by
        have hm := I.num_cases e
        have hp := I.psize_nat (I.hd c)
        rw [← byts_len]
        unfold I.dS
        rw [byts_extract, List.length_take, List.length_drop, byts_len, hp]
        omega
      rw [hN, (W.numV_at (I.num_cases e) hs).2]
      have := (Bool.and_eq_true_iff.1 hn).2
      simpa using this

theorem cut_hd (s : ByteArray) (k : Nat) (hk : k < s.size) : I.hd (I.cut s k) = (s[k].toNat : Int) := by
  unfold I.hd I.cut
  show (byts (s.extract (k : Int).toNat s.size)).headD 0 = _
  rw [byts_extract]
  have : (k : Int).toNat = k := by omega
  rw [this]
  have h1 : (byts s).drop k = (s[k].toNat : Int) :: (byts s).drop (k + 1) := by
    have := W.tail_cons s k hk
    simpa [W.tail, List.map_drop] using this
  rw [h1]
  obtain ⟨n, hn⟩ : ∃ n, s.size - k = n + 1 := ⟨s.size - k - 1, by omega⟩
  rw [hn]
  rfl
theorem cut_size (s : ByteArray) (k : Nat) (hk : k ≤ s.size) : (I.cut s k).size = s.size - k := by
  unfold I.cut
  simp
theorem cut_cut (s : ByteArray) (k i j : Nat) (hj : k + j ≤ s.size) : (I.cut s k).extract i j = s.extract (k + i) (k + j) := by
  apply byts_inj
  rw [byts_extract, byts_extract]
  unfold I.cut
  rw [byts_extract]
  have : (k : Int).toNat = k := by omega
  rw [this, List.drop_take, List.take_take, List.drop_drop]
  congr 1
  omega
theorem ext_hd (s : ByteArray) (k j : Nat) (hk : k < s.size) (hj : k < j) : I.hd (s.extract k j) = (s[k].toNat : Int) := by
  unfold I.hd
  show (byts (s.extract k j)).headD 0 = _
  rw [byts_extract]
  have h1 : (byts s).drop k = (s[k].toNat : Int) :: (byts s).drop (k + 1) := by
    have := W.tail_cons s k hk
    simpa [W.tail, List.map_drop] using this
  rw [h1]
  obtain ⟨n, hn⟩ : ∃ n, j - k = n + 1 := ⟨j - k - 1, by omega⟩
  rw [hn]
  rfl

theorem rdec_fin {s : ByteArray} {k : Nat} {op a b n z : Int} (hk : k < s.size) (hm : s.size ≤ 9223372036854775000) (h1 : 1 ≤ op ∧ op ≤ 33) (hz : I.psize op = z) (hs : (k : Int) + z ≤ (s.size : Int))
    (ho : I.hd (I.cut s k) = op) (ha : I.dA (I.cut s k) = a) (hb : I.dB (I.cut s k) = b) (hn : I.dN (I.cut s k) = n) :
    (if I.encE op a b n = 0 then decV (insW op a b n) ((k : Int) + z) 0 else decV (insW 0 0 0 0) 0 9) = I.decR s k := by
  have hcs := cut_size s k (by omega)
  have hd := I.dOk_enc (c := I.cut s k) (by omega) (by rw [ho]; exact h1) (by rw [ho, hz]; omega)
  unfold I.decR
  rw [ho, ha, hb, hn] at hd
  rw [if_neg (show ¬ ((k : Int) < 0 ∨ (s.size : Int) < (k : Int)) by omega), ho, ha, hb, hn, hz]
  by_cases h : I.encE op a b n = 0
  · rw [if_pos h, if_pos (hd.2 h)]
  · rw [if_neg h, if_neg (fun x => h (hd.1 x))]

theorem rdecj_1 (s : ByteArray) (k : Nat) (hk : k + 10 ≤ s.size) (hm : s.size ≤ 9223372036854775000) (op : Int) (h1 : 1 ≤ op ∧ op ≤ 33) (ho : (s[k].toNat : Int) = op) (hf : I.form op = 1) (w : World) :
    Calls Tryd.prog 49 #[.string s, .int .i64 k] w fun e w' => e = .returned (I.decR s k) ∧ Below w.heap.size w w' := by
  have hr : I.regs op = 1 := by unfold I.regs; rw [hf]; rfl
  have hn : I.num op = 8 := by unfold I.num; rw [hf]; rfl
  have hp : I.psize op = 10 := by unfold I.psize; rw [hr, hn]; rfl
  have hka : I.kAt op = 2 := by unfold I.kAt; rw [hp, hn]; rfl
  have hd : I.hd (I.cut s k) = op := (cut_hd s k (by omega)).trans ho
  refine (rdec_1 s k hk hm op ho hf w).mono ?_
  rintro e w' ⟨rfl, hb⟩
  refine ⟨?_, hb⟩
  congr 1
  refine rdec_fin (by omega) hm h1 hp (by omega) hd ?_ ?_ ?_
  · unfold I.dA I.rA
    rw [hd, hr]
    rw [if_neg (by decide), if_pos rfl, hka, cut_cut s k 1 2 (by omega), ext_hd s (k + 1) (k + 2) (by omega) (by omega)]
  · unfold I.dB I.rB
    rw [hd, hr]
    rfl
  · unfold I.dN I.rdN
    rw [hd, hn]
    rw [if_neg (by decide)]
    unfold I.dS
    rw [hd, hka, hp, show ((10 : Int)).toNat = 10 from rfl, cut_cut s k 2 10 (by omega)]

theorem rdecj_2 (s : ByteArray) (k : Nat) (hk : k + 2 ≤ s.size) (hm : s.size ≤ 9223372036854775000) (op : Int) (h1 : 1 ≤ op ∧ op ≤ 33) (ho : (s[k].toNat : Int) = op) (hf : I.form op = 2) (w : World) :
    Calls Tryd.prog 49 #[.string s, .int .i64 k] w fun e w' => e = .returned (I.decR s k) ∧ Below w.heap.size w w' := by
  have hr : I.regs op = 2 := by unfold I.regs; rw [hf]; rfl
  have hn : I.num op = 0 := by unfold I.num; rw [hf]; rfl
  have hp : I.psize op = 2 := by unfold I.psize; rw [hr, hn]; rfl
  have hka : I.kAt op = 2 := by unfold I.kAt; rw [hp, hn]; rfl
  have hd : I.hd (I.cut s k) = op := (cut_hd s k (by omega)).trans ho
  refine (rdec_2 s k hk hm op ho hf w).mono ?_
  rintro e w' ⟨rfl, hb⟩
  refine ⟨?_, hb⟩
  congr 1
  refine rdec_fin (by omega) hm h1 hp (by omega) hd ?_ ?_ ?_
  · unfold I.dA I.rA
    rw [hd, hr]
    rw [if_neg (by decide), if_neg (by decide), hka, cut_cut s k 1 2 (by omega), ext_hd s (k + 1) (k + 2) (by omega) (by omega)]
  · unfold I.dB I.rB
    rw [hd, hr]
    rw [if_pos rfl, hka, cut_cut s k 1 2 (by omega), ext_hd s (k + 1) (k + 2) (by omega) (by omega)]
  · unfold I.dN I.rdN
    rw [hd, hn]
    rfl

theorem rdecj_3 (s : ByteArray) (k : Nat) (hk : k + 6 ≤ s.size) (hm : s.size ≤ 9223372036854775000) (op : Int) (h1 : 1 ≤ op ∧ op ≤ 33) (ho : (s[k].toNat : Int) = op) (hf : I.form op = 3) (w : World) :
    Calls Tryd.prog 49 #[.string s, .int .i64 k] w fun e w' => e = .returned (I.decR s k) ∧ Below w.heap.size w w' := by
  have hr : I.regs op = 2 := by unfold I.regs; rw [hf]; rfl
  have hn : I.num op = 4 := by unfold I.num; rw [hf]; rfl
  have hp : I.psize op = 6 := by unfold I.psize; rw [hr, hn]; rfl
  have hka : I.kAt op = 2 := by unfold I.kAt; rw [hp, hn]; rfl
  have hd : I.hd (I.cut s k) = op := (cut_hd s k (by omega)).trans ho
  refine (rdec_3 s k hk hm op ho hf w).mono ?_
  rintro e w' ⟨rfl, hb⟩
  refine ⟨?_, hb⟩
  congr 1
  refine rdec_fin (by omega) hm h1 hp (by omega) hd ?_ ?_ ?_
  · unfold I.dA I.rA
    rw [hd, hr]
    rw [if_neg (by decide), if_neg (by decide), hka, cut_cut s k 1 2 (by omega), ext_hd s (k + 1) (k + 2) (by omega) (by omega)]
  · unfold I.dB I.rB
    rw [hd, hr]
    rw [if_pos rfl, hka, cut_cut s k 1 2 (by omega), ext_hd s (k + 1) (k + 2) (by omega) (by omega)]
  · unfold I.dN I.rdN
    rw [hd, hn]
    rw [if_neg (by decide)]
    unfold I.dS
    rw [hd, hka, hp, show ((6 : Int)).toNat = 6 from rfl, cut_cut s k 2 6 (by omega)]

theorem rdecj_4 (s : ByteArray) (k : Nat) (hk : k + 6 ≤ s.size) (hm : s.size ≤ 9223372036854775000) (op : Int) (h1 : 1 ≤ op ∧ op ≤ 33) (ho : (s[k].toNat : Int) = op) (hf : I.form op = 4) (w : World) :
    Calls Tryd.prog 49 #[.string s, .int .i64 k] w fun e w' => e = .returned (I.decR s k) ∧ Below w.heap.size w w' := by
  have hr : I.regs op = 1 := by unfold I.regs; rw [hf]; rfl
  have hn : I.num op = 4 := by unfold I.num; rw [hf]; rfl
  have hp : I.psize op = 6 := by unfold I.psize; rw [hr, hn]; rfl
  have hka : I.kAt op = 2 := by unfold I.kAt; rw [hp, hn]; rfl
  have hd : I.hd (I.cut s k) = op := (cut_hd s k (by omega)).trans ho
  refine (rdec_4 s k hk hm op ho hf w).mono ?_
  rintro e w' ⟨rfl, hb⟩
  refine ⟨?_, hb⟩
  congr 1
  refine rdec_fin (by omega) hm h1 hp (by omega) hd ?_ ?_ ?_
  · unfold I.dA I.rA
    rw [hd, hr]
    rw [if_neg (by decide), if_pos rfl, hka, cut_cut s k 1 2 (by omega), ext_hd s (k + 1) (k + 2) (by omega) (by omega)]
  · unfold I.dB I.rB
    rw [hd, hr]
    rfl
  · unfold I.dN I.rdN
    rw [hd, hn]
    rw [if_neg (by decide)]
    unfold I.dS
    rw [hd, hka, hp, show ((6 : Int)).toNat = 6 from rfl, cut_cut s k 2 6 (by omega)]

theorem rdecj_5 (s : ByteArray) (k : Nat) (hk : k + 5 ≤ s.size) (hm : s.size ≤ 9223372036854775000) (op : Int) (h1 : 1 ≤ op ∧ op ≤ 33) (ho : (s[k].toNat : Int) = op) (hf : I.form op = 5) (w : World) :
    Calls Tryd.prog 49 #[.string s, .int .i64 k] w fun e w' => e = .returned (I.decR s k) ∧ Below w.heap.size w w' := by
  have hr : I.regs op = 0 := by unfold I.regs; rw [hf]; rfl
  have hn : I.num op = 4 := by unfold I.num; rw [hf]; rfl
  have hp : I.psize op = 5 := by unfold I.psize; rw [hr, hn]; rfl
  have hka : I.kAt op = 1 := by unfold I.kAt; rw [hp, hn]; rfl
  have hd : I.hd (I.cut s k) = op := (cut_hd s k (by omega)).trans ho
  refine (rdec_5 s k hk hm op ho hf w).mono ?_
  rintro e w' ⟨rfl, hb⟩
  refine ⟨?_, hb⟩
  congr 1
  refine rdec_fin (by omega) hm h1 hp (by omega) hd ?_ ?_ ?_
  · unfold I.dA I.rA
    rw [hd, hr]
    rfl
  · unfold I.dB I.rB
    rw [hd, hr]
    rfl
  · unfold I.dN I.rdN
    rw [hd, hn]
    rw [if_neg (by decide)]
    unfold I.dS
    rw [hd, hka, hp, show ((5 : Int)).toNat = 5 from rfl, cut_cut s k 1 5 (by omega)]

theorem rdecj_6 (s : ByteArray) (k : Nat) (hk : k + 1 ≤ s.size) (hm : s.size ≤ 9223372036854775000) (op : Int) (h1 : 1 ≤ op ∧ op ≤ 33) (ho : (s[k].toNat : Int) = op) (hf : I.form op = 6) (w : World) :
    Calls Tryd.prog 49 #[.string s, .int .i64 k] w fun e w' => e = .returned (I.decR s k) ∧ Below w.heap.size w w' := by
  have hr : I.regs op = 0 := by unfold I.regs; rw [hf]; rfl
  have hn : I.num op = 0 := by unfold I.num; rw [hf]; rfl
  have hp : I.psize op = 1 := by unfold I.psize; rw [hr, hn]; rfl
  have hka : I.kAt op = 1 := by unfold I.kAt; rw [hp, hn]; rfl
  have hd : I.hd (I.cut s k) = op := (cut_hd s k (by omega)).trans ho
  refine (rdec_6 s k hk hm op ho hf w).mono ?_
  rintro e w' ⟨rfl, hb⟩
  refine ⟨?_, hb⟩
  congr 1
  refine rdec_fin (by omega) hm h1 hp (by omega) hd ?_ ?_ ?_
  · unfold I.dA I.rA
    rw [hd, hr]
    rfl
  · unfold I.dB I.rB
    rw [hd, hr]
    rfl
  · unfold I.dN I.rdN
    rw [hd, hn]
    rfl

theorem rdecj_7 (s : ByteArray) (k : Nat) (hk : k + 2 ≤ s.size) (hm : s.size ≤ 9223372036854775000) (op : Int) (h1 : 1 ≤ op ∧ op ≤ 33) (ho : (s[k].toNat : Int) = op) (hf : I.form op = 7) (w : World) :
    Calls Tryd.prog 49 #[.string s, .int .i64 k] w fun e w' => e = .returned (I.decR s k) ∧ Below w.heap.size w w' := by
  have hr : I.regs op = 0 := by unfold I.regs; rw [hf]; rfl
  have hn : I.num op = 1 := by unfold I.num; rw [hf]; rfl
  have hp : I.psize op = 2 := by unfold I.psize; rw [hr, hn]; rfl
  have hka : I.kAt op = 1 := by unfold I.kAt; rw [hp, hn]; rfl
  have hd : I.hd (I.cut s k) = op := (cut_hd s k (by omega)).trans ho
  refine (rdec_7 s k hk hm op ho hf w).mono ?_
  rintro e w' ⟨rfl, hb⟩
  refine ⟨?_, hb⟩
  congr 1
  refine rdec_fin (by omega) hm h1 hp (by omega) hd ?_ ?_ ?_
  · unfold I.dA I.rA
    rw [hd, hr]
    rfl
  · unfold I.dB I.rB
    rw [hd, hr]
    rfl
  · unfold I.dN I.rdN
    rw [hd, hn]
    rw [if_neg (by decide)]
    unfold I.dS
    rw [hd, hka, hp, show ((2 : Int)).toNat = 2 from rfl, cut_cut s k 1 2 (by omega)]

theorem rdecj_8 (s : ByteArray) (k : Nat) (hk : k + 3 ≤ s.size) (hm : s.size ≤ 9223372036854775000) (op : Int) (h1 : 1 ≤ op ∧ op ≤ 33) (ho : (s[k].toNat : Int) = op) (hf : I.form op = 8) (w : World) :
    Calls Tryd.prog 49 #[.string s, .int .i64 k] w fun e w' => e = .returned (I.decR s k) ∧ Below w.heap.size w w' := by
  have hr : I.regs op = 1 := by unfold I.regs; rw [hf]; rfl
  have hn : I.num op = 1 := by unfold I.num; rw [hf]; rfl
  have hp : I.psize op = 3 := by unfold I.psize; rw [hr, hn]; rfl
  have hka : I.kAt op = 2 := by unfold I.kAt; rw [hp, hn]; rfl
  have hd : I.hd (I.cut s k) = op := (cut_hd s k (by omega)).trans ho
  refine (rdec_8 s k hk hm op ho hf w).mono ?_
  rintro e w' ⟨rfl, hb⟩
  refine ⟨?_, hb⟩
  congr 1
  refine rdec_fin (by omega) hm h1 hp (by omega) hd ?_ ?_ ?_
  · unfold I.dA I.rA
    rw [hd, hr]
    rw [if_neg (by decide), if_pos rfl, hka, cut_cut s k 1 2 (by omega), ext_hd s (k + 1) (k + 2) (by omega) (by omega)]
  · unfold I.dB I.rB
    rw [hd, hr]
    rfl
  · unfold I.dN I.rdN
    rw [hd, hn]
    rw [if_neg (by decide)]
    unfold I.dS
    rw [hd, hka, hp, show ((3 : Int)).toNat = 3 from rfl, cut_cut s k 2 3 (by omega)]

theorem rdecj_9 (s : ByteArray) (k : Nat) (hk : k + 2 ≤ s.size) (hm : s.size ≤ 9223372036854775000) (op : Int) (h1 : 1 ≤ op ∧ op ≤ 33) (ho : (s[k].toNat : Int) = op) (hf : I.form op = 9) (w : World) :
    Calls Tryd.prog 49 #[.string s, .int .i64 k] w fun e w' => e = .returned (I.decR s k) ∧ Below w.heap.size w w' := by
  have hr : I.regs op = 1 := by unfold I.regs; rw [hf]; rfl
  have hn : I.num op = 0 := by unfold I.num; rw [hf]; rfl
  have hp : I.psize op = 2 := by unfold I.psize; rw [hr, hn]; rfl
  have hka : I.kAt op = 2 := by unfold I.kAt; rw [hp, hn]; rfl
  have hd : I.hd (I.cut s k) = op := (cut_hd s k (by omega)).trans ho
  refine (rdec_9 s k hk hm op ho hf w).mono ?_
  rintro e w' ⟨rfl, hb⟩
  refine ⟨?_, hb⟩
  congr 1
  refine rdec_fin (by omega) hm h1 hp (by omega) hd ?_ ?_ ?_
  · unfold I.dA I.rA
    rw [hd, hr]
    rw [if_neg (by decide), if_pos rfl, hka, cut_cut s k 1 2 (by omega), ext_hd s (k + 1) (k + 2) (by omega) (by omega)]
  · unfold I.dB I.rB
    rw [hd, hr]
    rfl
  · unfold I.dN I.rdN
    rw [hd, hn]
    rfl

theorem rdecj_10 (s : ByteArray) (k : Nat) (hk : k + 2 ≤ s.size) (hm : s.size ≤ 9223372036854775000) (op : Int) (h1 : 1 ≤ op ∧ op ≤ 33) (ho : (s[k].toNat : Int) = op) (hf : I.form op = 10) (w : World) :
    Calls Tryd.prog 49 #[.string s, .int .i64 k] w fun e w' => e = .returned (I.decR s k) ∧ Below w.heap.size w w' := by
  have hr : I.regs op = 0 := by unfold I.regs; rw [hf]; rfl
  have hn : I.num op = 1 := by unfold I.num; rw [hf]; rfl
  have hp : I.psize op = 2 := by unfold I.psize; rw [hr, hn]; rfl
  have hka : I.kAt op = 1 := by unfold I.kAt; rw [hp, hn]; rfl
  have hd : I.hd (I.cut s k) = op := (cut_hd s k (by omega)).trans ho
  refine (rdec_10 s k hk hm op ho hf w).mono ?_
  rintro e w' ⟨rfl, hb⟩
  refine ⟨?_, hb⟩
  congr 1
  refine rdec_fin (by omega) hm h1 hp (by omega) hd ?_ ?_ ?_
  · unfold I.dA I.rA
    rw [hd, hr]
    rfl
  · unfold I.dB I.rB
    rw [hd, hr]
    rfl
  · unfold I.dN I.rdN
    rw [hd, hn]
    rw [if_neg (by decide)]
    unfold I.dS
    rw [hd, hka, hp, show ((2 : Int)).toNat = 2 from rfl, cut_cut s k 1 2 (by omega)]

theorem rdecode_any (s : ByteArray) (a : Int) (hm : s.size ≤ 9223372036854775000) (w : World) :
    Calls Tryd.prog 49 #[.string s, .int .i64 a] w fun e w' => e = .returned (I.decR s a) ∧ Below w.heap.size w w' := by
  by_cases h : a < 0 ∨ (s.size : Int) < a
  · unfold I.decR
    rw [if_pos h]
    exact rdec_arg s a h w
  · obtain ⟨k, rfl⟩ : ∃ k : Nat, a = k := ⟨a.toNat, by omega⟩
    by_cases he : k = s.size
    · have hc := cut_size s k (by omega)
      have hd : I.dOk (I.cut s k) = false := by
        unfold I.dOk
        rw [decide_eq_false (by rintro ⟨h1, -⟩; omega)]
        rfl
      unfold I.decR
      rw [if_neg h, if_neg (by rw [hd]; decide)]
      exact rdec_end s k he w
    · have hk : k < s.size := by omega
      have ho : I.hd (I.cut s k) = (s[k].toNat : Int) := cut_hd s k hk
      have hc := cut_size s k (by omega)
      generalize hop : (s[k].toNat : Int) = op at *
      have hno : (1 ≤ op ∧ op ≤ 33 → (s.size : Int) < (k : Int) + I.psize op) → Calls Tryd.prog 49 #[.string s, .int .i64 k] w fun e w' => e = .returned (I.decR s k) ∧ Below w.heap.size w w' := by
        intro hsh
        have hd : I.dOk (I.cut s k) = false := by
          unfold I.dOk
          rw [ho, decide_eq_false (by rintro ⟨h1, h2, h3, h4⟩; have := hsh ⟨h2, h3⟩; omega)]
          rfl
        unfold I.decR
        rw [if_neg h, if_neg (by rw [hd]; decide)]
        refine rdec_short s k hk hm op (I.size op) hop rfl ?_ w
        by_cases h2 : 1 ≤ op ∧ op ≤ 33
        · have := I.size_pos h2.1 h2.2
          have h3 := hsh h2
          rw [I.psize_size op h2] at h3
          exact .inr ⟨by omega, by omega, by omega, h3⟩
        · exact .inl (I.size_none (by omega))
      by_cases h2 : 1 ≤ op ∧ op ≤ 33
      · by_cases h3 : (s.size : Int) < (k : Int) + I.psize op
        · exact hno (fun _ => h3)
        · have h4 := I.form_some h2.1 h2.2
          have h5 := I.form_range op
          have hps := I.psize_size op h2
          have hsz : I.size op = if I.form op = 0 then 0 else if I.hasA (I.form op) = true then 1 + (I.numB (I.form op) + 1) else 1 + I.numB (I.form op) := rfl
          rcases (show I.form op = 1 ∨ I.form op = 2 ∨ I.form op = 3 ∨ I.form op = 4 ∨ I.form op = 5 ∨ I.form op = 6 ∨ I.form op = 7 ∨ I.form op = 8 ∨ I.form op = 9 ∨ I.form op = 10 by omega) with e | e | e | e | e | e | e | e | e | e
          · have hz : I.size op = 10 := by rw [hsz, e]; rfl
            exact rdecj_1 s k (by omega) hm op h2 hop e w
          · have hz : I.size op = 2 := by rw [hsz, e]; rfl
            exact rdecj_2 s k (by omega) hm op h2 hop e w
          · have hz : I.size op = 6 := by rw [hsz, e]; rfl
            exact rdecj_3 s k (by omega) hm op h2 hop e w
          · have hz : I.size op = 6 := by rw [hsz, e]; rfl
            exact rdecj_4 s k (by omega) hm op h2 hop e w
          · have hz : I.size op = 5 := by rw [hsz, e]; rfl
            exact rdecj_5 s k (by omega) hm op h2 hop e w
          · have hz : I.size op = 1 := by rw [hsz, e]; rfl
            exact rdecj_6 s k (by omega) hm op h2 hop e w
          · have hz : I.size op = 2 := by rw [hsz, e]; rfl
            exact rdecj_7 s k (by omega) hm op h2 hop e w
          · have hz : I.size op = 3 := by rw [hsz, e]; rfl
            exact rdecj_8 s k (by omega) hm op h2 hop e w
          · have hz : I.size op = 2 := by rw [hsz, e]; rfl
            exact rdecj_9 s k (by omega) hm op h2 hop e w
          · have hz : I.size op = 2 := by rw [hsz, e]; rfl
            exact rdecj_10 s k (by omega) hm op h2 hop e w
      · exact hno (fun x => absurd x h2)

end Go.Proofs.YtneclfaamgfoeaaDoor

/- What the document's Bin comes to, instruction by instruction. -/
namespace Go.Proofs.YtneclfaamgfoeaaDoor
open Go.RowKit

set_option maxHeartbeats 400000 in
theorem ref_add (a b : Int)  (w : World) :
    Calls Tryd.prog 67 #[.int .i64 3, .int .i64 a, .int .i64 b] w fun e w' => e = .returned (.tuple #[.int .i64 (wrap64 (a + b)), .int .i64 0]) ∧ w' = w := by
  go_enter Tryd.func67, Tryd.ntmps67
  go_wp2
  go_ret2
  exact ⟨ret2 (by first | rfl | simp) rfl, rfl⟩

set_option maxHeartbeats 400000 in
theorem ref_sub (a b : Int)  (w : World) :
    Calls Tryd.prog 67 #[.int .i64 4, .int .i64 a, .int .i64 b] w fun e w' => e = .returned (.tuple #[.int .i64 (wrap64 (a - b)), .int .i64 0]) ∧ w' = w := by
  go_enter Tryd.func67, Tryd.ntmps67
  go_wp2
  go_ret2
  exact ⟨ret2 (by first | rfl | simp) rfl, rfl⟩

set_option maxHeartbeats 400000 in
theorem ref_mul (a b : Int)  (w : World) :
    Calls Tryd.prog 67 #[.int .i64 5, .int .i64 a, .int .i64 b] w fun e w' => e = .returned (.tuple #[.int .i64 (wrap64 (a * b)), .int .i64 0]) ∧ w' = w := by
  go_enter Tryd.func67, Tryd.ntmps67
  go_wp2
  go_ret2
  exact ⟨ret2 (by first | rfl | simp) rfl, rfl⟩

set_option maxHeartbeats 400000 in
theorem ref_quo0 (a : Int)  (w : World) :
    Calls Tryd.prog 67 #[.int .i64 6, .int .i64 a, .int .i64 0] w fun e w' => e = .returned (.tuple #[.int .i64 (0), .int .i64 10]) ∧ w' = w := by
  go_enter Tryd.func67, Tryd.ntmps67
  go_wp2
  go_ret2
  exact ⟨rfl, rfl⟩

set_option maxHeartbeats 400000 in
theorem ref_rem0 (a : Int)  (w : World) :
    Calls Tryd.prog 67 #[.int .i64 7, .int .i64 a, .int .i64 0] w fun e w' => e = .returned (.tuple #[.int .i64 (0), .int .i64 10]) ∧ w' = w := by
  go_enter Tryd.func67, Tryd.ntmps67
  go_wp2
  go_ret2
  exact ⟨rfl, rfl⟩

set_option maxHeartbeats 400000 in
theorem ref_and (a b : Int)  (w : World) :
    Calls Tryd.prog 67 #[.int .i64 8, .int .i64 a, .int .i64 b] w fun e w' => e = .returned (.tuple #[.int .i64 (bits .and .i64 a b), .int .i64 0]) ∧ w' = w := by
  go_enter Tryd.func67, Tryd.ntmps67
  go_wp2
  go_ret2
  exact ⟨ret2 (by first | rfl | simp) rfl, rfl⟩

set_option maxHeartbeats 400000 in
theorem ref_or (a b : Int)  (w : World) :
    Calls Tryd.prog 67 #[.int .i64 9, .int .i64 a, .int .i64 b] w fun e w' => e = .returned (.tuple #[.int .i64 (bits .or .i64 a b), .int .i64 0]) ∧ w' = w := by
  go_enter Tryd.func67, Tryd.ntmps67
  go_wp2
  go_ret2
  exact ⟨ret2 (by first | rfl | simp) rfl, rfl⟩

set_option maxHeartbeats 400000 in
theorem ref_xor (a b : Int)  (w : World) :
    Calls Tryd.prog 67 #[.int .i64 10, .int .i64 a, .int .i64 b] w fun e w' => e = .returned (.tuple #[.int .i64 (bits .xor .i64 a b), .int .i64 0]) ∧ w' = w := by
  go_enter Tryd.func67, Tryd.ntmps67
  go_wp2
  go_ret2
  exact ⟨ret2 (by first | rfl | simp) rfl, rfl⟩

set_option maxHeartbeats 400000 in
theorem ref_shl (a b : Int)  (w : World) :
    Calls Tryd.prog 67 #[.int .i64 11, .int .i64 a, .int .i64 b] w fun e w' => e = .returned (.tuple #[.int .i64 (wrap64 (a * 2 ^ (b % 64).toNat)), .int .i64 0]) ∧ w' = w := by
  have hc3 : bits .and .u64 0 63 = 0 := W.and63_u 0
  have hc := W.and63_uw b
  have hc2 := W.and63_i b
  have hb0 : 0 ≤ b % 64 := by omega
  have hb2 : b % 64 ≤ 63 := by omega
  go_enter Tryd.func67, Tryd.ntmps67
  go_wp2
  go_ret2
  exact ⟨ret2 (by first | rfl | simp) rfl, rfl⟩

set_option maxHeartbeats 400000 in
theorem ref_sar (a b : Int)  (w : World) :
    Calls Tryd.prog 67 #[.int .i64 12, .int .i64 a, .int .i64 b] w fun e w' => e = .returned (.tuple #[.int .i64 (a / 2 ^ (b % 64).toNat), .int .i64 0]) ∧ w' = w := by
  have hc3 : bits .and .u64 0 63 = 0 := W.and63_u 0
  have hc := W.and63_uw b
  have hc2 := W.and63_i b
  have hb0 : 0 ≤ b % 64 := by omega
  have hb2 : b % 64 ≤ 63 := by omega
  go_enter Tryd.func67, Tryd.ntmps67
  go_wp2
  go_ret2
  exact ⟨ret2 (by first | rfl | simp) rfl, rfl⟩

set_option maxHeartbeats 400000 in
theorem ref_eql (a b : Int)  (w : World) :
    Calls Tryd.prog 67 #[.int .i64 13, .int .i64 a, .int .i64 b] w fun e w' => e = .returned (.tuple #[.int .i64 (W.tr (a == b)), .int .i64 0]) ∧ w' = w := by
  by_cases hb : b = 0
  all_goals
    cases h : (a == b)
  all_goals
    have hb1 := hb
    first | subst hb1 | (have hb3 : (b == 0) = false := by simpa using hb)
    go_enter Tryd.func67, Tryd.ntmps67
    go_wp2
    go_ret2
    exact ⟨ret2 (by simp [W.tr]) rfl, rfl⟩

set_option maxHeartbeats 400000 in
theorem ref_neq (a b : Int)  (w : World) :
    Calls Tryd.prog 67 #[.int .i64 14, .int .i64 a, .int .i64 b] w fun e w' => e = .returned (.tuple #[.int .i64 (W.tr (a != b)), .int .i64 0]) ∧ w' = w := by
  by_cases hb : b = 0
  all_goals
    cases h : (a != b)
  all_goals
    have hb1 := hb
    first | subst hb1 | (have hb3 : (b == 0) = false := by simpa using hb)
    go_enter Tryd.func67, Tryd.ntmps67
    go_wp2
    go_ret2
    exact ⟨ret2 (by simp [W.tr]) rfl, rfl⟩

set_option maxHeartbeats 400000 in
theorem ref_lss (a b : Int)  (w : World) :
    Calls Tryd.prog 67 #[.int .i64 15, .int .i64 a, .int .i64 b] w fun e w' => e = .returned (.tuple #[.int .i64 (W.tr (decide (a < b))), .int .i64 0]) ∧ w' = w := by
  by_cases hb : b = 0
  all_goals
    by_cases h : a < b
  all_goals
    have hb1 := hb
    first | subst hb1 | (have hb3 : (b == 0) = false := by simpa using hb)
    go_enter Tryd.func67, Tryd.ntmps67
    go_wp2
    go_ret2
    exact ⟨ret2 (by simp [W.tr, h]) rfl, rfl⟩

set_option maxHeartbeats 400000 in
theorem ref_leq (a b : Int)  (w : World) :
    Calls Tryd.prog 67 #[.int .i64 16, .int .i64 a, .int .i64 b] w fun e w' => e = .returned (.tuple #[.int .i64 (W.tr (decide (a ≤ b))), .int .i64 0]) ∧ w' = w := by
  by_cases hb : b = 0
  all_goals
    by_cases h : a ≤ b
  all_goals
    have hb1 := hb
    first | subst hb1 | (have hb3 : (b == 0) = false := by simpa using hb)
    go_enter Tryd.func67, Tryd.ntmps67
    go_wp2
    go_ret2
    exact ⟨ret2 (by simp [W.tr, h]) rfl, rfl⟩

set_option maxHeartbeats 400000 in
theorem ref_lo (op a b : Int) (h : op < 3) (w : World) :
    Calls Tryd.prog 67 #[.int .i64 op, .int .i64 a, .int .i64 b] w fun e w' => e = .returned (.tuple #[.int .i64 (0), .int .i64 1]) ∧ w' = w := by
  go_enter Tryd.func67, Tryd.ntmps67
  go_wp2
  go_ret2
  exact ⟨rfl, rfl⟩

set_option maxHeartbeats 400000 in
theorem ref_hi (op a b : Int) (h : 16 < op) (w : World) :
    Calls Tryd.prog 67 #[.int .i64 op, .int .i64 a, .int .i64 b] w fun e w' => e = .returned (.tuple #[.int .i64 (0), .int .i64 1]) ∧ w' = w := by
  go_enter Tryd.func67, Tryd.ntmps67
  go_wp2
  go_ret2
  exact ⟨rfl, rfl⟩

set_option maxHeartbeats 400000 in
theorem ref_quo (a b : Int) (hb : ¬ b = 0) (w : World) :
    Calls Tryd.prog 67 #[.int .i64 6, .int .i64 a, .int .i64 b] w fun e w' => e = .returned (.tuple #[.int .i64 (wrap64 (a.tdiv b)), .int .i64 0]) ∧ w' = w := by
  by_cases hm : b = -1
  · subst hm
    go_enter Tryd.func67, Tryd.ntmps67
    go_wp2
    go_ret2
    exact ⟨ret2 (W.neg_quo a) rfl, rfl⟩
  · have hb1 : (b == 0) = false := by simpa using hb
    have hb2 : (b != -1) = true := by simpa using hm
    go_enter Tryd.func67, Tryd.ntmps67
    go_wp2
    go_ret2
    exact ⟨rfl, rfl⟩

set_option maxHeartbeats 400000 in
theorem ref_rem (a b : Int) (hb : ¬ b = 0) (ha : (Lit.int .i64 a).wf = true) (w : World) :
    Calls Tryd.prog 67 #[.int .i64 7, .int .i64 a, .int .i64 b] w fun e w' => e = .returned (.tuple #[.int .i64 (a.tmod b), .int .i64 0]) ∧ w' = w := by
  have hr := W.rem_of_quo a b ha
  have HR : Hid (wrap64 (a - wrap64 (wrap64 (a.tdiv b) * b)) = a.tmod b) := hr
  clear hr ha
  by_cases hm : b = -1
  · subst hm
    go_enter Tryd.func67, Tryd.ntmps67
    go_wp2
    go_ret2
    exact ⟨ret2 (by rw [← HR.out, ← W.neg_quo, Int.mul_neg, Int.mul_one]) rfl, rfl⟩
  · have hb1 : (b == 0) = false := by simpa using hb
    have hb2 : (b != -1) = true := by simpa using hm
    go_enter Tryd.func67, Tryd.ntmps67
    go_wp2
    go_ret2
    exact ⟨ret2 HR.out rfl, rfl⟩

/-- Whatever the instruction: the document's number, the document's error, nothing touched. -/
theorem ref_any (op a b : Int) (ha : (Lit.int .i64 a).wf = true) (w : World) :
    Calls Tryd.prog 67 #[.int .i64 op, .int .i64 a, .int .i64 b] w fun e w' => e = .returned (.tuple #[.int .i64 (W.bin op a b), .int .i64 (W.binE op b)]) ∧ w' = w := by
  have cases16 : op < 3 ∨ 16 < op ∨ op = 3 ∨ op = 4 ∨ op = 5 ∨ op = 6 ∨ op = 7 ∨ op = 8 ∨ op = 9 ∨ op = 10 ∨ op = 11 ∨ op = 12 ∨ op = 13 ∨ op = 14 ∨ op = 15 ∨ op = 16 := by omega
  rcases cases16 with h | h | rfl | rfl | rfl | rfl | rfl | rfl | rfl | rfl | rfl | rfl | rfl | rfl | rfl | rfl
  · refine (ref_lo op a b h w).mono ?_
    rintro e w' ⟨rfl, rfl⟩
    exact ⟨ret2 (by unfold W.bin; repeat (rw [if_neg (by omega)])) (by unfold W.binE; rw [if_pos (by omega)]), rfl⟩
  · refine (ref_hi op a b h w).mono ?_
    rintro e w' ⟨rfl, rfl⟩
    exact ⟨ret2 (by unfold W.bin; repeat (rw [if_neg (by omega)])) (by unfold W.binE; rw [if_pos (by omega)]), rfl⟩
  · refine (ref_add a b w).mono ?_
    rintro e w' ⟨rfl, rfl⟩
    exact ⟨ret2 (by simp [W.bin]) (by simp [W.binE]), rfl⟩
  · refine (ref_sub a b w).mono ?_
    rintro e w' ⟨rfl, rfl⟩
    exact ⟨ret2 (by simp [W.bin]) (by simp [W.binE]), rfl⟩
  · refine (ref_mul a b w).mono ?_
    rintro e w' ⟨rfl, rfl⟩
    exact ⟨ret2 (by simp [W.bin]) (by simp [W.binE]), rfl⟩
  · by_cases hb : b = 0
    · subst hb
      refine (ref_quo0 a w).mono ?_
      rintro e w' ⟨rfl, rfl⟩
      exact ⟨ret2 (by simp [W.bin]) (by simp [W.binE]), rfl⟩
    · refine (ref_quo a b hb w).mono ?_
      rintro e w' ⟨rfl, rfl⟩
      exact ⟨ret2 (by simp [W.bin, hb]) (by simp [W.binE, hb]), rfl⟩
  · by_cases hb : b = 0
    · subst hb
      refine (ref_rem0 a w).mono ?_
      rintro e w' ⟨rfl, rfl⟩
      exact ⟨ret2 (by simp [W.bin]) (by simp [W.binE]), rfl⟩
    · refine (ref_rem a b hb ha w).mono ?_
      rintro e w' ⟨rfl, rfl⟩
      exact ⟨ret2 (by simp [W.bin, hb]) (by simp [W.binE, hb]), rfl⟩
  · refine (ref_and a b w).mono ?_
    rintro e w' ⟨rfl, rfl⟩
    exact ⟨ret2 (by simp [W.bin]) (by simp [W.binE]), rfl⟩
  · refine (ref_or a b w).mono ?_
    rintro e w' ⟨rfl, rfl⟩
    exact ⟨ret2 (by simp [W.bin]) (by simp [W.binE]), rfl⟩
  · refine (ref_xor a b w).mono ?_
    rintro e w' ⟨rfl, rfl⟩
    exact ⟨ret2 (by simp [W.bin]) (by simp [W.binE]), rfl⟩
  · refine (ref_shl a b w).mono ?_
    rintro e w' ⟨rfl, rfl⟩
    exact ⟨ret2 (by simp [W.bin]) (by simp [W.binE]), rfl⟩
  · refine (ref_sar a b w).mono ?_
    rintro e w' ⟨rfl, rfl⟩
    exact ⟨ret2 (by simp [W.bin]) (by simp [W.binE]), rfl⟩
  · refine (ref_eql a b w).mono ?_
    rintro e w' ⟨rfl, rfl⟩
    exact ⟨ret2 (by simp [W.bin]) (by simp [W.binE]), rfl⟩
  · refine (ref_neq a b w).mono ?_
    rintro e w' ⟨rfl, rfl⟩
    exact ⟨ret2 (by simp [W.bin]) (by simp [W.binE]), rfl⟩
  · refine (ref_lss a b w).mono ?_
    rintro e w' ⟨rfl, rfl⟩
    exact ⟨ret2 (by simp [W.bin]) (by simp [W.binE]), rfl⟩
  · refine (ref_leq a b w).mono ?_
    rintro e w' ⟨rfl, rfl⟩
    exact ⟨ret2 (by simp [W.bin]) (by simp [W.binE]), rfl⟩

end Go.Proofs.YtneclfaamgfoeaaDoor

/- The document's Decode and All, whatever the bytes. -/
import Derived.Test.YtcllbbdkihmpgaaDoorInsRefDecA
import Derived.Test.YtcllbbdkihmpgaaDoorInsRefDecB
import Derived.Test.YtcllbbdkihmpgaaDoorInsAllMath
namespace Go.Proofs.YtcllbbdkihmpgaaDoor
open Go.RowKit
set_option linter.unusedVariables false
attribute [local go_sem ↓] Go.wp_at_zero Go.wp_at_succ

set_option maxRecDepth 100000 in
set_option maxHeartbeats 8000000 in
theorem rdec_arg (s : ByteArray) (a : Int) (h : a < 0 ∨ (s.size : Int) < a) (w : World) :
    Calls Tryd.prog 15 #[.string s, .int .i64 a] w fun e w' => e = .returned (decV (insW 0 0 0 0) 0 1) ∧ Below w.heap.size w w' := by
  rcases (show a < 0 ∨ (0 ≤ a ∧ (s.size : Int) < a) by omega) with h | ⟨h, h'⟩
  all_goals
    go_enter Tryd.func15, Tryd.ntmps15
    go_wp2
    exact bodyPost_ret (v := decV (insW 0 0 0 0) 0 1) (by simp [results, Tryd.results15, go_sem]) rfl ⟨rfl, bl1 _ _⟩

set_option maxRecDepth 100000 in
set_option maxHeartbeats 8000000 in
theorem rdec_end (s : ByteArray) (k : Nat) (h : k = s.size) (w : World) :
    Calls Tryd.prog 15 #[.string s, .int .i64 k] w fun e w' => e = .returned (decV (insW 0 0 0 0) 0 9) ∧ Below w.heap.size w w' := by
  have h1 : (k : Int) = (s.size : Int) := by omega
  clear h
  go_enter Tryd.func15, Tryd.ntmps15
  go_wp2
  exact bodyPost_ret (v := decV (insW 0 0 0 0) 0 9) (by simp [results, Tryd.results15, go_sem]) rfl ⟨rfl, bl1 _ _⟩

set_option maxRecDepth 100000 in
set_option maxHeartbeats 8000000 in
theorem rdec_short (s : ByteArray) (k : Nat) (hk : k < s.size) (hm : s.size ≤ 9223372036854775000) (op z : Int) (ho : (s[k].toNat : Int) = op) (hz : I.size op = z) (h : z = 0 ∨ (¬ z = 0 ∧ 0 ≤ z ∧ z ≤ 10 ∧ (s.size : Int) < k + z)) (w : World) :
    Calls Tryd.prog 15 #[.string s, .int .i64 k] w fun e w' => e = .returned (decV (insW 0 0 0 0) 0 9) ∧ Below w.heap.size w w' := by
  have HZ : Hid (I.size op = z) := hz
  have ho2 : (s[k].toNat : Int) ≤ 255 := by have := s[k].toNat_lt; omega
  have h0 : (0 : Int) ≤ (k : Int) := by omega
  have h1 : (k : Int) ≤ (s.size : Int) := by omega
  have h2 : ¬ (k : Int) = (s.size : Int) := by omega
  clear hz
  rcases h with h | ⟨h, h3, h4, h5⟩
  · subst h
    go_enter Tryd.func15, Tryd.ntmps15
    go_wp2_with (go_at_call 12; refine (rsize_any _ _).mono ?_; rintro e w' ⟨rfl, rfl⟩; rw [HZ.out])
    refine bodyPost_ret (v := decV (insW 0 0 0 0) 0 9) (by simp [results, Tryd.results15, go_sem]) rfl ⟨rfl, ?_⟩
    exact bl2 _ _ _
  · go_enter Tryd.func15, Tryd.ntmps15
    go_wp2_with (go_at_call 12; refine (rsize_any _ _).mono ?_; rintro e w' ⟨rfl, rfl⟩; rw [HZ.out])
    refine bodyPost_ret (v := decV (insW 0 0 0 0) 0 9) (by simp [results, Tryd.results15, go_sem]) rfl ⟨rfl, ?_⟩
    exact bl2 _ _ _

/-- What the two ways of telling come to: the instruction is one, just if it has a form. -/
theorem I.dOk_enc {c : ByteArray} (h0 : 0 < c.size) (h1 : 1 ≤ I.hd c ∧ I.hd c ≤ 33) (h2 : I.psize (I.hd c) ≤ (c.size : Int)) : I.dOk c = true ↔ I.encE (I.hd c) (I.dA c) (I.dB c) (I.dN c) = 0 := by
  constructor
  · intro h; exact (I.enc_dec h).1
  · intro h
    obtain ⟨ho, hb, hn, hv⟩ := I.enc_parts h
    have hr := I.bears_regs hb
    unfold I.dOk
    rw [decide_eq_true ⟨h0, h1.1, h1.2, h2⟩, I.isr_yes hr.1, I.isr_yes hr.2]
    unfold I.numOk at hn
    unfold I.rdOk
    by_cases e : I.num (I.hd c) = 0
    · rw [if_pos e]; rfl
    · rw [if_neg e] at hn
      rw [if_neg e]
      have hN : W.numV (I.dS c) = I.dN c := by unfold I.dN I.rdN; rw [if_neg e]
      have hs : ((I.dS c).size : Int) = I.num (I.hd c) := by
        have hm := I.num_cases e
        have hp := I.psize_nat (I.hd c)
        rw [← byts_len]
        unfold I.dS
        rw [byts_extract, List.length_take, List.length_drop, byts_len, hp]
        omega
      rw [hN, (W.numV_at (I.num_cases e) hs).2]
      have := (Bool.and_eq_true_iff.1 hn).2
      simpa using this

theorem cut_hd (s : ByteArray) (k : Nat) (hk : k < s.size) : I.hd (I.cut s k) = (s[k].toNat : Int) := by
  unfold I.hd I.cut
  show (byts (s.extract (k : Int).toNat s.size)).headD 0 = _
  rw [byts_extract]
  have : (k : Int).toNat = k := by omega
  rw [this]
  have h1 : (byts s).drop k = (s[k].toNat : Int) :: (byts s).drop (k + 1) := by
    have := W.tail_cons s k hk
    simpa [W.tail, List.map_drop] using this
  rw [h1]
  obtain ⟨n, hn⟩ : ∃ n, s.size - k = n + 1 := ⟨s.size - k - 1, by omega⟩
  rw [hn]
  rfl
theorem cut_size (s : ByteArray) (k : Nat) (hk : k ≤ s.size) : (I.cut s k).size = s.size - k := by
  unfold I.cut
  simp
theorem cut_cut (s : ByteArray) (k i j : Nat) (hj : k + j ≤ s.size) : (I.cut s k).extract i j = s.extract (k + i) (k + j) := by
  apply byts_inj
  rw [byts_extract, byts_extract]
  unfold I.cut
  rw [byts_extract]
  have : (k : Int).toNat = k := by omega
  rw [this, List.drop_take, List.take_take, List.drop_drop]
  congr 1
  omega
theorem ext_hd (s : ByteArray) (k j : Nat) (hk : k < s.size) (hj : k < j) : I.hd (s.extract k j) = (s[k].toNat : Int) := by
  unfold I.hd
  show (byts (s.extract k j)).headD 0 = _
  rw [byts_extract]
  have h1 : (byts s).drop k = (s[k].toNat : Int) :: (byts s).drop (k + 1) := by
    have := W.tail_cons s k hk
    simpa [W.tail, List.map_drop] using this
  rw [h1]
  obtain ⟨n, hn⟩ : ∃ n, j - k = n + 1 := ⟨j - k - 1, by omega⟩
  rw [hn]
  rfl

theorem rdec_fin {s : ByteArray} {k : Nat} {op a b n z : Int} (hk : k < s.size) (hm : s.size ≤ 9223372036854775000) (h1 : 1 ≤ op ∧ op ≤ 33) (hz : I.psize op = z) (hs : (k : Int) + z ≤ (s.size : Int))
    (ho : I.hd (I.cut s k) = op) (ha : I.dA (I.cut s k) = a) (hb : I.dB (I.cut s k) = b) (hn : I.dN (I.cut s k) = n) :
    (if I.encE op a b n = 0 then decV (insW op a b n) ((k : Int) + z) 0 else decV (insW 0 0 0 0) 0 9) = I.decR s k := by
  have hcs := cut_size s k (by omega)
  have hd := I.dOk_enc (c := I.cut s k) (by omega) (by rw [ho]; exact h1) (by rw [ho, hz]; omega)
  unfold I.decR
  rw [ho, ha, hb, hn] at hd
  rw [if_neg (show ¬ ((k : Int) < 0 ∨ (s.size : Int) < (k : Int)) by omega), ho, ha, hb, hn, hz]
  by_cases h : I.encE op a b n = 0
  · rw [if_pos h, if_pos (hd.2 h)]
  · rw [if_neg h, if_neg (fun x => h (hd.1 x))]

theorem rdecj_1 (s : ByteArray) (k : Nat) (hk : k + 10 ≤ s.size) (hm : s.size ≤ 9223372036854775000) (op : Int) (h1 : 1 ≤ op ∧ op ≤ 33) (ho : (s[k].toNat : Int) = op) (hf : I.form op = 1) (w : World) :
    Calls Tryd.prog 15 #[.string s, .int .i64 k] w fun e w' => e = .returned (I.decR s k) ∧ Below w.heap.size w w' := by
  have hr : I.regs op = 1 := by unfold I.regs; rw [hf]; rfl
  have hn : I.num op = 8 := by unfold I.num; rw [hf]; rfl
  have hp : I.psize op = 10 := by unfold I.psize; rw [hr, hn]; rfl
  have hka : I.kAt op = 2 := by unfold I.kAt; rw [hp, hn]; rfl
  have hd : I.hd (I.cut s k) = op := (cut_hd s k (by omega)).trans ho
  refine (rdec_1 s k hk hm op ho hf w).mono ?_
  rintro e w' ⟨rfl, hb⟩
  refine ⟨?_, hb⟩
  congr 1
  refine rdec_fin (by omega) hm h1 hp (by omega) hd ?_ ?_ ?_
  · unfold I.dA I.rA
    rw [hd, hr]
    rw [if_neg (by decide), if_pos rfl, hka, cut_cut s k 1 2 (by omega), ext_hd s (k + 1) (k + 2) (by omega) (by omega)]
  · unfold I.dB I.rB
    rw [hd, hr]
    rfl
  · unfold I.dN I.rdN
    rw [hd, hn]
    rw [if_neg (by decide)]
    unfold I.dS
    rw [hd, hka, hp, show ((10 : Int)).toNat = 10 from rfl, cut_cut s k 2 10 (by omega)]

theorem rdecj_2 (s : ByteArray) (k : Nat) (hk : k + 2 ≤ s.size) (hm : s.size ≤ 9223372036854775000) (op : Int) (h1 : 1 ≤ op ∧ op ≤ 33) (ho : (s[k].toNat : Int) = op) (hf : I.form op = 2) (w : World) :
    Calls Tryd.prog 15 #[.string s, .int .i64 k] w fun e w' => e = .returned (I.decR s k) ∧ Below w.heap.size w w' := by
  have hr : I.regs op = 2 := by unfold I.regs; rw [hf]; rfl
  have hn : I.num op = 0 := by unfold I.num; rw [hf]; rfl
  have hp : I.psize op = 2 := by unfold I.psize; rw [hr, hn]; rfl
  have hka : I.kAt op = 2 := by unfold I.kAt; rw [hp, hn]; rfl
  have hd : I.hd (I.cut s k) = op := (cut_hd s k (by omega)).trans ho
  refine (rdec_2 s k hk hm op ho hf w).mono ?_
  rintro e w' ⟨rfl, hb⟩
  refine ⟨?_, hb⟩
  congr 1
  refine rdec_fin (by omega) hm h1 hp (by omega) hd ?_ ?_ ?_
  · unfold I.dA I.rA
    rw [hd, hr]
    rw [if_neg (by decide), if_neg (by decide), hka, cut_cut s k 1 2 (by omega), ext_hd s (k + 1) (k + 2) (by omega) (by omega)]
  · unfold I.dB I.rB
    rw [hd, hr]
    rw [if_pos rfl, hka, cut_cut s k 1 2 (by omega), ext_hd s (k + 1) (k + 2) (by omega) (by omega)]
  · unfold I.dN I.rdN
    rw [hd, hn]
    rfl

theorem rdecj_3 (s : ByteArray) (k : Nat) (hk : k + 6 ≤ s.size) (hm : s.size ≤ 9223372036854775000) (op : Int) (h1 : 1 ≤ op ∧ op ≤ 33) (ho : (s[k].toNat : Int) = op) (hf : I.form op = 3) (w : World) :
    Calls Tryd.prog 15 #[.string s, .int .i64 k] w fun e w' => e = .returned (I.decR s k) ∧ Below w.heap.size w w' := by
  have hr : I.regs op = 2 := by unfold I.regs; rw [hf]; rfl
  have hn : I.num op = 4 := by unfold I.num; rw [hf]; rfl
  have hp : I.psize op = 6 := by unfold I.psize; rw [hr, hn]; rfl
  have hka : I.kAt op = 2 := by unfold I.kAt; rw [hp, hn]; rfl
  have hd : I.hd (I.cut s k) = op := (cut_hd s k (by omega)).trans ho
  refine (rdec_3 s k hk hm op ho hf w).mono ?_
  rintro e w' ⟨rfl, hb⟩
  refine ⟨?_, hb⟩
  congr 1
  refine rdec_fin (by omega) hm h1 hp (by omega) hd ?_ ?_ ?_
  · unfold I.dA I.rA
    rw [hd, hr]
    rw [if_neg (by decide), if_neg (by decide), hka, cut_cut s k 1 2 (by omega), ext_hd s (k + 1) (k + 2) (by omega) (by omega)]
  · unfold I.dB I.rB
    rw [hd, hr]
    rw [if_pos rfl, hka, cut_cut s k 1 2 (by omega), ext_hd s (k + 1) (k + 2) (by omega) (by omega)]
  · unfold I.dN I.rdN
    rw [hd, hn]
    rw [if_neg (by decide)]
    unfold I.dS
    rw [hd, hka, hp, show ((6 : Int)).toNat = 6 from rfl, cut_cut s k 2 6 (by omega)]

theorem rdecj_4 (s : ByteArray) (k : Nat) (hk : k + 6 ≤ s.size) (hm : s.size ≤ 9223372036854775000) (op : Int) (h1 : 1 ≤ op ∧ op ≤ 33) (ho : (s[k].toNat : Int) = op) (hf : I.form op = 4) (w : World) :
    Calls Tryd.prog 15 #[.string s, .int .i64 k] w fun e w' => e = .returned (I.decR s k) ∧ Below w.heap.size w w' := by
  have hr : I.regs op = 1 := by unfold I.regs; rw [hf]; rfl
  have hn : I.num op = 4 := by unfold I.num; rw [hf]; rfl
  have hp : I.psize op = 6 := by unfold I.psize; rw [hr, hn]; rfl
  have hka : I.kAt op = 2 := by unfold I.kAt; rw [hp, hn]; rfl
  have hd : I.hd (I.cut s k) = op := (cut_hd s k (by omega)).trans ho
  refine (rdec_4 s k hk hm op ho hf w).mono ?_
  rintro e w' ⟨rfl, hb⟩
  refine ⟨?_, hb⟩
  congr 1
  refine rdec_fin (by omega) hm h1 hp (by omega) hd ?_ ?_ ?_
  · unfold I.dA I.rA
    rw [hd, hr]
    rw [if_neg (by decide), if_pos rfl, hka, cut_cut s k 1 2 (by omega), ext_hd s (k + 1) (k + 2) (by omega) (by omega)]
  · unfold I.dB I.rB
    rw [hd, hr]
    rfl
  · unfold I.dN I.rdN
    rw [hd, hn]
    rw [if_neg (by decide)]
    unfold I.dS
    rw [hd, hka, hp, show ((6 : Int)).toNat = 6 from rfl, cut_cut s k 2 6 (by omega)]

theorem rdecj_5 (s : ByteArray) (k : Nat) (hk : k + 5 ≤ s.size) (hm : s.size ≤ 9223372036854775000) (op : Int) (h1 : 1 ≤ op ∧ op ≤ 33) (ho : (s[k].toNat : Int) = op) (hf : I.form op = 5) (w : World) :
    Calls Tryd.prog 15 #[.string s, .int .i64 k] w fun e w' => e = .returned (I.decR s k) ∧ Below w.heap.size w w' := by
  have hr : I.regs op = 0 := by unfold I.regs; rw [hf]; rfl
  have hn : I.num op = 4 := by unfold I.num; rw [hf]; rfl
  have hp : I.psize op = 5 := by unfold I.psize; rw [hr, hn]; rfl
  have hka : I.kAt op = 1 := by unfold I.kAt; rw [hp, hn]; rfl
  have hd : I.hd (I.cut s k) = op := (cut_hd s k (by omega)).trans ho
  refine (rdec_5 s k hk hm op ho hf w).mono ?_
  rintro e w' ⟨rfl, hb⟩
  refine ⟨?_, hb⟩
  congr 1
  refine rdec_fin (by omega) hm h1 hp (by omega) hd ?_ ?_ ?_
  · unfold I.dA I.rA
    rw [hd, hr]
    rfl
  · unfold I.dB I.rB
    rw [hd, hr]
    rfl
  · unfold I.dN I.rdN
    rw [hd, hn]
    rw [if_neg (by decide)]
    unfold I.dS
    rw [hd, hka, hp, show ((5 : Int)).toNat = 5 from rfl, cut_cut s k 1 5 (by omega)]

theorem rdecj_6 (s : ByteArray) (k : Nat) (hk : k + 1 ≤ s.size) (hm : s.size ≤ 9223372036854775000) (op : Int) (h1 : 1 ≤ op ∧ op ≤ 33) (ho : (s[k].toNat : Int) = op) (hf : I.form op = 6) (w : World) :
    Calls Tryd.prog 15 #[.string s, .int .i64 k] w fun e w' => e = .returned (I.decR s k) ∧ Below w.heap.size w w' := by
  have hr : I.regs op = 0 := by unfold I.regs; rw [hf]; rfl
  have hn : I.num op = 0 := by unfold I.num; rw [hf]; rfl
  have hp : I.psize op = 1 := by unfold I.psize; rw [hr, hn]; rfl
  have hka : I.kAt op = 1 := by unfold I.kAt; rw [hp, hn]; rfl
  have hd : I.hd (I.cut s k) = op := (cut_hd s k (by omega)).trans ho
  refine (rdec_6 s k hk hm op ho hf w).mono ?_
  rintro e w' ⟨rfl, hb⟩
  refine ⟨?_, hb⟩
  congr 1
  refine rdec_fin (by omega) hm h1 hp (by omega) hd ?_ ?_ ?_
  · unfold I.dA I.rA
    rw [hd, hr]
    rfl
  · unfold I.dB I.rB
    rw [hd, hr]
    rfl
  · unfold I.dN I.rdN
    rw [hd, hn]
    rfl

theorem rdecj_7 (s : ByteArray) (k : Nat) (hk : k + 2 ≤ s.size) (hm : s.size ≤ 9223372036854775000) (op : Int) (h1 : 1 ≤ op ∧ op ≤ 33) (ho : (s[k].toNat : Int) = op) (hf : I.form op = 7) (w : World) :
    Calls Tryd.prog 15 #[.string s, .int .i64 k] w fun e w' => e = .returned (I.decR s k) ∧ Below w.heap.size w w' := by
  have hr : I.regs op = 0 := by unfold I.regs; rw [hf]; rfl
  have hn : I.num op = 1 := by unfold I.num; rw [hf]; rfl
  have hp : I.psize op = 2 := by unfold I.psize; rw [hr, hn]; rfl
  have hka : I.kAt op = 1 := by unfold I.kAt; rw [hp, hn]; rfl
  have hd : I.hd (I.cut s k) = op := (cut_hd s k (by omega)).trans ho
  refine (rdec_7 s k hk hm op ho hf w).mono ?_
  rintro e w' ⟨rfl, hb⟩
  refine ⟨?_, hb⟩
  congr 1
  refine rdec_fin (by omega) hm h1 hp (by omega) hd ?_ ?_ ?_
  · unfold I.dA I.rA
    rw [hd, hr]
    rfl
  · unfold I.dB I.rB
    rw [hd, hr]
    rfl
  · unfold I.dN I.rdN
    rw [hd, hn]
    rw [if_neg (by decide)]
    unfold I.dS
    rw [hd, hka, hp, show ((2 : Int)).toNat = 2 from rfl, cut_cut s k 1 2 (by omega)]

theorem rdecj_8 (s : ByteArray) (k : Nat) (hk : k + 3 ≤ s.size) (hm : s.size ≤ 9223372036854775000) (op : Int) (h1 : 1 ≤ op ∧ op ≤ 33) (ho : (s[k].toNat : Int) = op) (hf : I.form op = 8) (w : World) :
    Calls Tryd.prog 15 #[.string s, .int .i64 k] w fun e w' => e = .returned (I.decR s k) ∧ Below w.heap.size w w' := by
  have hr : I.regs op = 1 := by unfold I.regs; rw [hf]; rfl
  have hn : I.num op = 1 := by unfold I.num; rw [hf]; rfl
  have hp : I.psize op = 3 := by unfold I.psize; rw [hr, hn]; rfl
  have hka : I.kAt op = 2 := by unfold I.kAt; rw [hp, hn]; rfl
  have hd : I.hd (I.cut s k) = op := (cut_hd s k (by omega)).trans ho
  refine (rdec_8 s k hk hm op ho hf w).mono ?_
  rintro e w' ⟨rfl, hb⟩
  refine ⟨?_, hb⟩
  congr 1
  refine rdec_fin (by omega) hm h1 hp (by omega) hd ?_ ?_ ?_
  · unfold I.dA I.rA
    rw [hd, hr]
    rw [if_neg (by decide), if_pos rfl, hka, cut_cut s k 1 2 (by omega), ext_hd s (k + 1) (k + 2) (by omega) (by omega)]
  · unfold I.dB I.rB
    rw [hd, hr]
    rfl
  · unfold I.dN I.rdN
    rw [hd, hn]
    rw [if_neg (by decide)]
    unfold I.dS
    rw [hd, hka, hp, show ((3 : Int)).toNat = 3 from rfl, cut_cut s k 2 3 (by omega)]

theorem rdecj_9 (s : ByteArray) (k : Nat) (hk : k + 2 ≤ s.size) (hm : s.size ≤ 9223372036854775000) (op : Int) (h1 : 1 ≤ op ∧ op ≤ 33) (ho : (s[k].toNat : Int) = op) (hf : I.form op = 9) (w : World) :
    Calls Tryd.prog 15 #[.string s, .int .i64 k] w fun e w' => e = .returned (I.decR s k) ∧ Below w.heap.size w w' := by
  have hr : I.regs op = 1 := by unfold I.regs; rw [hf]; rfl
  have hn : I.num op = 0 := by unfold I.num; rw [hf]; rfl
  have hp : I.psize op = 2 := by unfold I.psize; rw [hr, hn]; rfl
  have hka : I.kAt op = 2 := by unfold I.kAt; rw [hp, hn]; rfl
  have hd : I.hd (I.cut s k) = op := (cut_hd s k (by omega)).trans ho
  refine (rdec_9 s k hk hm op ho hf w).mono ?_
  rintro e w' ⟨rfl, hb⟩
  refine ⟨?_, hb⟩
  congr 1
  refine rdec_fin (by omega) hm h1 hp (by omega) hd ?_ ?_ ?_
  · unfold I.dA I.rA
    rw [hd, hr]
    rw [if_neg (by decide), if_pos rfl, hka, cut_cut s k 1 2 (by omega), ext_hd s (k + 1) (k + 2) (by omega) (by omega)]
  · unfold I.dB I.rB
    rw [hd, hr]
    rfl
  · unfold I.dN I.rdN
    rw [hd, hn]
    rfl

theorem rdecj_10 (s : ByteArray) (k : Nat) (hk : k + 2 ≤ s.size) (hm : s.size ≤ 9223372036854775000) (op : Int) (h1 : 1 ≤ op ∧ op ≤ 33) (ho : (s[k].toNat : Int) = op) (hf : I.form op = 10) (w : World) :
    Calls Tryd.prog 15 #[.string s, .int .i64 k] w fun e w' => e = .returned (I.decR s k) ∧ Below w.heap.size w w' := by
  have hr : I.regs op = 0 := by unfold I.regs; rw [hf]; rfl
  have hn : I.num op = 1 := by unfold I.num; rw [hf]; rfl
  have hp : I.psize op = 2 := by unfold I.psize; rw [hr, hn]; rfl
  have hka : I.kAt op = 1 := by unfold I.kAt; rw [hp, hn]; rfl
  have hd : I.hd (I.cut s k) = op := (cut_hd s k (by omega)).trans ho
  refine (rdec_10 s k hk hm op ho hf w).mono ?_
  rintro e w' ⟨rfl, hb⟩
  refine ⟨?_, hb⟩
  congr 1
  refine rdec_fin (by omega) hm h1 hp (by omega) hd ?_ ?_ ?_
  · unfold I.dA I.rA
    rw [hd, hr]
    rfl
  · unfold I.dB I.rB
    rw [hd, hr]
    rfl
  · unfold I.dN I.rdN
    rw [hd, hn]
    rw [if_neg (by decide)]
    unfold I.dS
    rw [hd, hka, hp, show ((2 : Int)).toNat = 2 from rfl, cut_cut s k 1 2 (by omega)]

theorem rdecode_any (s : ByteArray) (a : Int) (hm : s.size ≤ 9223372036854775000) (w : World) :
    Calls Tryd.prog 15 #[.string s, .int .i64 a] w fun e w' => e = .returned (I.decR s a) ∧ Below w.heap.size w w' := by
  by_cases h : a < 0 ∨ (s.size : Int) < a
  · unfold I.decR
    rw [if_pos h]
    exact rdec_arg s a h w
  · obtain ⟨k, rfl⟩ : ∃ k : Nat, a = k := ⟨a.toNat, by omega⟩
    by_cases he : k = s.size
    · have hc := cut_size s k (by omega)
      have hd : I.dOk (I.cut s k) = false := by
        unfold I.dOk
        rw [decide_eq_false (by rintro ⟨h1, -⟩; omega)]
        rfl
      unfold I.decR
      rw [if_neg h, if_neg (by rw [hd]; decide)]
      exact rdec_end s k he w
    · have hk : k < s.size := by omega
      have ho : I.hd (I.cut s k) = (s[k].toNat : Int) := cut_hd s k hk
      have hc := cut_size s k (by omega)
      generalize hop : (s[k].toNat : Int) = op at *
      have hno : (1 ≤ op ∧ op ≤ 33 → (s.size : Int) < (k : Int) + I.psize op) → Calls Tryd.prog 15 #[.string s, .int .i64 k] w fun e w' => e = .returned (I.decR s k) ∧ Below w.heap.size w w' := by
        intro hsh
        have hd : I.dOk (I.cut s k) = false := by
          unfold I.dOk
          rw [ho, decide_eq_false (by rintro ⟨h1, h2, h3, h4⟩; have := hsh ⟨h2, h3⟩; omega)]
          rfl
        unfold I.decR
        rw [if_neg h, if_neg (by rw [hd]; decide)]
        refine rdec_short s k hk hm op (I.size op) hop rfl ?_ w
        by_cases h2 : 1 ≤ op ∧ op ≤ 33
        · have := I.size_pos h2.1 h2.2
          have h3 := hsh h2
          rw [I.psize_size op h2] at h3
          exact .inr ⟨by omega, by omega, by omega, h3⟩
        · exact .inl (I.size_none (by omega))
      by_cases h2 : 1 ≤ op ∧ op ≤ 33
      · by_cases h3 : (s.size : Int) < (k : Int) + I.psize op
        · exact hno (fun _ => h3)
        · have h4 := I.form_some h2.1 h2.2
          have h5 := I.form_range op
          have hps := I.psize_size op h2
          have hsz : I.size op = if I.form op = 0 then 0 else if I.hasA (I.form op) = true then 1 + (I.numB (I.form op) + 1) else 1 + I.numB (I.form op) := rfl
          rcases (show I.form op = 1 ∨ I.form op = 2 ∨ I.form op = 3 ∨ I.form op = 4 ∨ I.form op = 5 ∨ I.form op = 6 ∨ I.form op = 7 ∨ I.form op = 8 ∨ I.form op = 9 ∨ I.form op = 10 by omega) with e | e | e | e | e | e | e | e | e | e
          · have hz : I.size op = 10 := by rw [hsz, e]; rfl
            exact rdecj_1 s k (by omega) hm op h2 hop e w
          · have hz : I.size op = 2 := by rw [hsz, e]; rfl
            exact rdecj_2 s k (by omega) hm op h2 hop e w
          · have hz : I.size op = 6 := by rw [hsz, e]; rfl
            exact rdecj_3 s k (by omega) hm op h2 hop e w
          · have hz : I.size op = 6 := by rw [hsz, e]; rfl
            exact rdecj_4 s k (by omega) hm op h2 hop e w
          · have hz : I.size op = 5 := by rw [hsz, e]; rfl
            exact rdecj_5 s k (by omega) hm op h2 hop e w
          · have hz : I.size op = 1 := by rw [hsz, e]; rfl
            exact rdecj_6 s k (by omega) hm op h2 hop e w
          · have hz : I.size op = 2 := by rw [hsz, e]; rfl
            exact rdecj_7 s k (by omega) hm op h2 hop e w
          · have hz : I.size op = 3 := by rw [hsz, e]; rfl
            exact rdecj_8 s k (by omega) hm op h2 hop e w
          · have hz : I.size op = 2 := by rw [hsz, e]; rfl
            exact rdecj_9 s k (by omega) hm op h2 hop e w
          · have hz : I.size op = 2 := by rw [hsz, e]; rfl
            exact rdecj_10 s k (by omega) hm op h2 hop e w
      · exact hno (fun x => absurd x h2)

end Go.Proofs.YtcllbbdkihmpgaaDoor

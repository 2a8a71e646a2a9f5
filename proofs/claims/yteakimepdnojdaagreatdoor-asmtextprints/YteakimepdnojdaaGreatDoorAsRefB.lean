/- The document's words, numbers' texts and registers. -/
import Derived.Test.YteakimepdnojdaaGreatDoorAsRefA
namespace Go.Proofs.YteakimepdnojdaaGreatDoor
open Go.RowKit Go.Lib
set_option linter.unusedVariables false
set_option linter.unusedSimpArgs false

theorem ret_s {a b : ByteArray} (h : a.data.toList = b.data.toList) : Ending.returned (.string a) = .returned (.string b) := by rw [bytes_ext' h]
/-- The document's word for an instruction. -/
def X.mnem (op : Int) : X.By := if 0 ≤ op ∧ op < 34 then (X.row op.toNat).1 else []
set_option maxRecDepth 100000 in
set_option maxHeartbeats 4000000 in
theorem rmnemonic_any (op : Int) (w : World) :
    Calls Tryz.prog 36 #[.int .i64 op] w fun e w' => e = .returned (.string (X.str (X.mnem op))) ∧ ∃ o, w' = w.alloc o := by
  by_cases h0 : 0 ≤ op ∧ op < 34
  · obtain ⟨k, rfl⟩ : ∃ k : Nat, op = k := ⟨op.toNat, by omega⟩
    have hk : k < 34 := by omega
    clear h0
    have hk2 : ¬ (34 : Int) ≤ k := by omega
    have hk3 : (k : Int) < 34 := by omega
    have hk0 : ¬ (k : Int) < 0 := by omega
    have hk1 : (0 : Int) ≤ k := by omega
    go_enter Tryz.func36, Tryz.ntmps36
    go_wp2_with fail
    go_ret
    refine ⟨?_, _, rfl⟩
    rcases (show k = 0 ∨ k = 1 ∨ k = 2 ∨ k = 3 ∨ k = 4 ∨ k = 5 ∨ k = 6 ∨ k = 7 ∨ k = 8 ∨ k = 9 ∨ k = 10 ∨ k = 11 ∨ k = 12 ∨ k = 13 ∨ k = 14 ∨ k = 15 ∨ k = 16 ∨ k = 17 ∨ k = 18 ∨ k = 19 ∨ k = 20 ∨ k = 21 ∨ k = 22 ∨ k = 23 ∨ k = 24 ∨ k = 25 ∨ k = 26 ∨ k = 27 ∨ k = 28 ∨ k = 29 ∨ k = 30 ∨ k = 31 ∨ k = 32 ∨ k = 33 by omega) with rfl | rfl | rfl | rfl | rfl | rfl | rfl | rfl | rfl | rfl | rfl | rfl | rfl | rfl | rfl | rfl | rfl | rfl | rfl | rfl | rfl | rfl | rfl | rfl | rfl | rfl | rfl | rfl | rfl | rfl | rfl | rfl | rfl | rfl <;> rfl
  · have HR : Hid (X.mnem op = []) := by show _ = _; unfold X.mnem; rw [if_neg h0]
    by_cases h1 : op < 0
    · clear h0
      go_enter Tryz.func36, Tryz.ntmps36
      go_wp2_with fail
      go_ret
      exact ⟨by rw [HR.out]; rfl, _, rfl⟩
    · have h2 : 34 ≤ op := by omega
      clear h0
      go_enter Tryz.func36, Tryz.ntmps36
      go_wp2_with fail
      go_ret
      exact ⟨by rw [HR.out]; rfl, _, rfl⟩

def X.decD (u : Nat) : X.By := if u = 0 then [] else decDigits u
theorem decD_step {u : Nat} (h : 0 < u) : X.decD u = X.decD (u / 10) ++ [UInt8.ofNat (48 + u % 10)] := by
  unfold X.decD
  rw [if_neg (by omega), decDigits]
  by_cases h1 : u < 10
  · rw [dif_pos h1, if_pos (by omega), Nat.mod_eq_of_lt h1]
    rfl
  · rw [dif_neg h1, if_neg (by omega)]
theorem strNums_eq (l : X.By) : strOfNums (l.map fun c => (c.toNat : Int)) = X.str l := by
  refine bytes_ext' ?_
  rw [str_list]
  unfold strOfNums
  simp
  conv => rhs; rw [← List.map_id l]
  refine List.map_congr_left fun c hc => ?_
  simp
def byV (c : UInt8) : Value := .int .u8 c.toNat
theorem conv_row {w : World} {g n cap : Nat} {l : X.By} (hn : l.length = n) (h : ∀ j u, (l.map byV)[j]? = some u → w.cell? ⟨g, j, none⟩ = some u) : (convert 47 9 (.slice (some ⟨g, 0, none⟩) n cap)).run Tryz.prog w = .ok (.string (X.str l)) w := by
  have h1 := run_convert_bytes_arg (P := Tryz.prog) w 47 5 Tryz.underlying47 Tryz.underlying5 g 0 n cap (l.map fun c => (c.toNat : Int)) (by simpa using hn) (fun i hi => by
    rw [Nat.zero_add]
    have hi' : i < l.length := by omega
    have e1 : (l.map fun c => (c.toNat : Int)).getD i 0 = (l[i].toNat : Int) := by simp [List.getD, hi']
    rw [e1]
    exact h i _ (by simp [byV, hi'])) 9 Tryz.underlying9
  rw [h1, strNums_eq]
theorem conv1 (W : World) (x : Nat) (hx : x < 256) : (convert 47 9 (.slice (some ⟨W.heap.size, 0, none⟩) 1 1)).run Tryz.prog (W.alloc (.cells #[.int .u8 x] 5)) = .ok (.string (X.str [UInt8.ofNat x])) (W.alloc (.cells #[.int .u8 x] 5)) :=
  conv_row rfl (fun j u hu => by
    refine row_cell ?_
    have e : byV (UInt8.ofNat x) = .int .u8 x := by unfold byV; rw [UInt8.toNat_ofNat']; congr 1; omega
    rw [List.map_cons, List.map_nil, e] at hu
    simpa using hu)
set_option maxRecDepth 100000 in
set_option maxHeartbeats 4000000 in
theorem rtext_any (n : Int) (h0 : -9223372036854775808 ≤ n) (h1 : n ≤ 9223372036854775807) (w : World) :
    Calls Tryz.prog 35 #[.int .i64 n] w fun e w' => e = .returned (.string (X.str (itoa n))) ∧ Below w.heap.size w w' := by
  by_cases hz : n = 0
  · subst hz
    go_enter Tryz.func35, Tryz.ntmps35
    go_wp2_with fail
    go_ret
    exact ⟨by rw [show itoa 0 = [48] from by rw [show (0 : Int) = ((0 : Nat) : Int) from rfl, itoa_nonneg, decDigits_one (by decide)]; rfl]; rfl, Below.refl _ _⟩
  have hz' : (n == 0) = false := by simp [hz]
  by_cases hn : n < 0
  · obtain ⟨U, rfl⟩ : ∃ U : Nat, n = -(U : Int) := ⟨n.natAbs, by omega⟩
    have hU : 0 < U := by omega
    have hw : IntKind.u64.wrap (-IntKind.u64.wrap (-(U : Int))) = (U : Int) := by rw [IntKind.wrap_u64, IntKind.wrap_u64]; omega
    clear hz
    go_enter Tryz.func35, Tryz.ntmps35
    go_wp2_with fail
    go_loopg [3, 4] U (fun r uv sv wq => ∃ (u : Nat) (ss : ByteArray), uv = .int .u64 u ∧ sv = .string ss ∧ u ≤ r ∧ u ≤ U ∧ Hid (X.decD u ++ ss.data.toList = decDigits U) ∧ Hid (Below w.heap.size w wq))
    case atStart => exact ⟨U, _, rfl, rfl, Nat.le_refl _, Nat.le_refl _, (by show _ = _; unfold X.decD; rw [if_neg (by omega)]; simp), Below.refl _ _⟩
    case round =>
      obtain ⟨u, ss, rfl, rfl, hr, hu, HD, HB⟩ := hrel
      by_cases hp : 0 < u
      · have hp' : (0 : Int) < u := by omega
        have hss : ss.size ≤ 20 := by
          have := congrArg List.length HD.out
          rw [List.length_append, len_list, decDigits_length] at this
          have := nDigits_le20 U (by omega)
          omega
        have HST : Hid _ := decD_step hp
        have hcv := conv1 wr (48 + u % 10) (by omega)
        rw [show ((48 + u % 10 : Nat) : Int) = 48 + (u : Int) % 10 by omega] at hcv
        have hsz : (X.str [UInt8.ofNat (48 + u % 10)]).size = 1 := rfl
        generalize hdg : X.str [UInt8.ofNat (48 + u % 10)] = dd at hcv hsz
        have HDG : Hid _ := hdg
        have z1 : ¬ 9223372036854775807 < 1 + ss.size := by omega
        clear hdg
        go_wp2_with fail
        go_roundg (u / 10)
        case measure => omega
        case rel =>
          refine ⟨u / 10, dd ++ ss, ?_, rfl, Nat.le_refl _, by omega, ?_, HB.out.trans ((bl1 _ _).mono HB.out.size)⟩
          · congr 1
          · show _ = _
            rw [← HD.out, HST.out, ← HDG.out]
            simp [X.str]
      · obtain rfl : u = 0 := by omega
        have hd0 : ss.data.toList = decDigits U := by have := HD.out; unfold X.decD at this; rw [if_pos rfl] at this; simpa using this
        have hss : ss.size ≤ 20 := by
          have := congrArg List.length hd0
          rw [len_list, decDigits_length] at this
          have := nDigits_le20 U (by omega)
          omega
        have HD0 : Hid _ := hd0
        have z1 : ¬ 9223372036854775807 < 1 + ss.size := by omega
        clear hd0 HD
        go_wp2_with fail
        go_ret
        exact ⟨ret_s (by rw [str_list, itoa_neg _ (by omega), ← HD0.out]; simp), HB.out⟩
  · obtain ⟨U, rfl⟩ : ∃ U : Nat, n = U := ⟨n.toNat, by omega⟩
    have hU : 0 < U := by omega
    clear hz
    go_enter Tryz.func35, Tryz.ntmps35
    go_wp2_with fail
    go_loopg [3, 4] U (fun r uv sv wq => ∃ (u : Nat) (ss : ByteArray), uv = .int .u64 u ∧ sv = .string ss ∧ u ≤ r ∧ u ≤ U ∧ Hid (X.decD u ++ ss.data.toList = decDigits U) ∧ Hid (Below w.heap.size w wq))
    case atStart => exact ⟨U, _, rfl, rfl, Nat.le_refl _, Nat.le_refl _, (by show _ = _; unfold X.decD; rw [if_neg (by omega)]; simp), Below.refl _ _⟩
    case round =>
      obtain ⟨u, ss, rfl, rfl, hr, hu, HD, HB⟩ := hrel
      by_cases hp : 0 < u
      · have hp' : (0 : Int) < u := by omega
        have hss : ss.size ≤ 20 := by
          have := congrArg List.length HD.out
          rw [List.length_append, len_list, decDigits_length] at this
          have := nDigits_le20 U (by omega)
          omega
        have HST : Hid _ := decD_step hp
        have hcv := conv1 wr (48 + u % 10) (by omega)
        rw [show ((48 + u % 10 : Nat) : Int) = 48 + (u : Int) % 10 by omega] at hcv
        have hsz : (X.str [UInt8.ofNat (48 + u % 10)]).size = 1 := rfl
        generalize hdg : X.str [UInt8.ofNat (48 + u % 10)] = dd at hcv hsz
        have HDG : Hid _ := hdg
        have z1 : ¬ 9223372036854775807 < 1 + ss.size := by omega
        clear hdg
        go_wp2_with fail
        go_roundg (u / 10)
        case measure => omega
        case rel =>
          refine ⟨u / 10, dd ++ ss, ?_, rfl, Nat.le_refl _, by omega, ?_, HB.out.trans ((bl1 _ _).mono HB.out.size)⟩
          · congr 1
          · show _ = _
            rw [← HD.out, HST.out, ← HDG.out]
            simp [X.str]
      · obtain rfl : u = 0 := by omega
        have hd0 : ss.data.toList = decDigits U := by have := HD.out; unfold X.decD at this; rw [if_pos rfl] at this; simpa using this
        have hss : ss.size ≤ 20 := by
          have := congrArg List.length hd0
          rw [len_list, decDigits_length] at this
          have := nDigits_le20 U (by omega)
          omega
        have HD0 : Hid _ := hd0
        have z1 : ¬ 9223372036854775807 < 1 + ss.size := by omega
        clear hd0 HD
        go_wp2_with fail
        go_ret
        exact ⟨ret_s (by rw [str_list, itoa_nonneg, ← HD0.out]), HB.out⟩

set_option maxRecDepth 100000 in
set_option maxHeartbeats 4000000 in
theorem rreg_any (n : Int) (h0 : -9223372036854775808 ≤ n) (h1 : n ≤ 9223372036854775807) (w : World) :
    Calls Tryz.prog 38 #[.int .i64 n] w fun e w' => e = .returned (.string (X.str (114 :: itoa n))) ∧ Below w.heap.size w w' := by
  have ht := rtext_any n h0 h1 w
  have hl := itoa_length_le n h0 h1
  have hz : (X.str (itoa n)).size ≤ 21 := by rw [str_size]; exact hl
  obtain ⟨t, hT⟩ : ∃ t, X.str (itoa n) = t := ⟨_, rfl⟩
  have HT : Hid _ := hT
  rw [hT] at ht hz
  clear hl hT
  have z1 : ¬ 9223372036854775807 < 1 + t.size := by omega
  go_enter Tryz.func38, Tryz.ntmps38
  go_wp2_with fail
  refine ht.mono ?_
  rintro e y ⟨rfl, hb⟩
  have HB : Hid _ := hb
  clear hb
  go_wp2_with fail
  go_ret
  exact ⟨ret_s (by rw [str_list, ← HT.out]; simp [X.str]), HB.out⟩

end Go.Proofs.YteakimepdnojdaaGreatDoor

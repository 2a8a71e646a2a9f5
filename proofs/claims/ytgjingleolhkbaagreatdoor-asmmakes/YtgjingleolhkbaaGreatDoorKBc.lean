/- The document's small functions. -/
import Derived.Test.YtgjingleolhkbaaGreatDoorKAb
import Derived.Test.YtgjingleolhkbaaGreatDoorKAe
import Derived.Laws.BytesArg
namespace Go.Proofs.YtgjingleolhkbaaGreatDoor
open Go.RowKit Go.Lib
set_option linter.unusedVariables false
set_option linter.unusedSimpArgs false

set_option maxHeartbeats 4000000 in
theorem rdigit_any (n : Nat) (w : World) :
    Calls Tryz.prog 42 #[.int .u8 n] w fun e w' => e = .returned (.bool (X.dg n)) ∧ w' = w := by
  go_enter Tryz.func42, Tryz.ntmps42
  go_wp2
  all_goals
    go_ret
    exact ⟨ret_b (by rw [Bool.eq_iff_iff]; simp [X.dg]; try omega), rfl⟩
set_option maxHeartbeats 4000000 in
theorem rletter_any (n : Nat) (w : World) :
    Calls Tryz.prog 41 #[.int .u8 n] w fun e w' => e = .returned (.bool (X.lt n)) ∧ w' = w := by
  go_enter Tryz.func41, Tryz.ntmps41
  go_wp2
  all_goals
    go_ret
    exact ⟨ret_b (by rw [Bool.eq_iff_iff]; simp [X.lt]; try omega), rfl⟩
set_option maxHeartbeats 4000000 in
theorem rname_any (s : ByteArray) (hs : s.size ≤ maxLen) (w : World) :
    Calls Tryz.prog 20 #[.string s] w fun e w' => e = .returned (.bool (X.name s.data.toList)) ∧ w' = w := by
  unfold maxLen at hs
  by_cases h0 : s.size < 1
  · have HR : Hid _ := name_false (.inl h0)
    have h0' : (s.size : Int) < 1 := by omega
    go_enter Tryz.func20, Tryz.ntmps20
    go_wp2
    go_ret
    exact ⟨ret_b HR.out.symm, rfl⟩
  by_cases h1 : 28 < s.size
  · have HR : Hid _ := name_false (.inr h1)
    go_enter Tryz.func20, Tryz.ntmps20
    go_wp2
    go_ret
    exact ⟨ret_b HR.out.symm, rfl⟩
  have h0' : 0 < s.size := by omega
  cases hf : X.lt s[0].toNat
  · have HR : Hid _ := name_first h0' hf
    go_enter Tryz.func20, Tryz.ntmps20
    go_wp2_with (go_at_call 41; refine (rletter_any s[0].toNat _).mono ?_; rw [hf]; rintro e w' ⟨rfl, rfl⟩)
    go_ret
    exact ⟨ret_b HR.out.symm, rfl⟩
  have HF : Hid _ := hf
  go_enter Tryz.func20, Tryz.ntmps20
  go_wp2_with (go_at_call 41; refine (rletter_any s[0].toNat _).mono ?_; rw [hf]; rintro e w' ⟨rfl, rfl⟩)
  clear hf
  go_loop [3] (fun i => ∃ (k : Nat), i = .int .i64 k ∧ k ≤ s.size ∧ Hid (∀ j (hj : j < s.size), 1 ≤ j → j < k → X.inn s[j].toNat = true)) (fun i => s.size - (intOf i).toNat)
  case atStart => exact ⟨0, rfl, Nat.zero_le _, (fun j hj h1 h2 => by omega : ∀ j (hj : j < s.size), 1 ≤ j → j < 0 → X.inn s[j].toNat = true)⟩
  case round =>
    obtain ⟨k, rfl, hk, HA⟩ := hrel
    by_cases hlt : k < s.size
    · have HNO : Hid (X.inn s[k].toNat = false → X.name s.data.toList = false) := fun h => by
        by_cases e : k = 0
        · subst e
          have h2 := HF.out
          exact name_first h0' (by cases h3 : X.lt s[0].toNat with | false => rfl | true => simp [X.inn, h3] at h)
        · exact name_byte (by omega) hlt h
      have HYE : Hid (X.inn s[k].toNat = true → ∀ j (hj : j < s.size), 1 ≤ j → j < k + 1 → X.inn s[j].toNat = true) := fun h j hj h1 h2 => by
        by_cases e : j = k
        · subst e; exact h
        · exact HA.out j hj h1 (by omega)
      cases h2 : X.lt s[k].toNat
      · cases h3 : X.dg s[k].toNat
        · by_cases h4 : s[k].toNat = 46
          · have h4' : ((s[k].toNat : Int) != 46) = false := by simp; omega
            have HI : Hid (X.inn s[k].toNat = true) := by show _ = _; simp [X.inn, h4]
            clear h4
            go_wp2_with (first | (go_at_call 41; refine (rletter_any s[k].toNat _).mono ?_; rw [h2]; rintro e w' ⟨rfl, rfl⟩) | (go_at_call 42; refine (rdigit_any s[k].toNat _).mono ?_; rw [h3]; rintro e w' ⟨rfl, rfl⟩))
            go_round
            case rel => exact ⟨k + 1, by go_num, by omega, HYE.out HI.out⟩
            case measure => simp [intOf]; omega
          · have h4' : ((s[k].toNat : Int) != 46) = true := by simp; omega
            have HI : Hid (X.inn s[k].toNat = false) := by show _ = _; simp [X.inn, h2, h3, h4]
            clear h4
            go_wp2_with (first | (go_at_call 41; refine (rletter_any s[k].toNat _).mono ?_; rw [h2]; rintro e w' ⟨rfl, rfl⟩) | (go_at_call 42; refine (rdigit_any s[k].toNat _).mono ?_; rw [h3]; rintro e w' ⟨rfl, rfl⟩))
            go_ret
            exact ⟨ret_b (HNO.out HI.out).symm, rfl⟩
        · have HI : Hid (X.inn s[k].toNat = true) := by show _ = _; simp [X.inn, h3]
          go_wp2_with (first | (go_at_call 41; refine (rletter_any s[k].toNat _).mono ?_; rw [h2]; rintro e w' ⟨rfl, rfl⟩) | (go_at_call 42; refine (rdigit_any s[k].toNat _).mono ?_; rw [h3]; rintro e w' ⟨rfl, rfl⟩))
          go_round
          case rel => exact ⟨k + 1, by go_num, by omega, HYE.out HI.out⟩
          case measure => simp [intOf]; omega
      · have HI : Hid (X.inn s[k].toNat = true) := by show _ = _; simp [X.inn, h2]
        go_wp2_with (first | (go_at_call 41; refine (rletter_any s[k].toNat _).mono ?_; rw [h2]; rintro e w' ⟨rfl, rfl⟩) | (go_at_call 42; refine (rdigit_any s[k].toNat _).mono ?_; rintro e w' ⟨rfl, rfl⟩))
        go_round
        case rel => exact ⟨k + 1, by go_num, by omega, HYE.out HI.out⟩
        case measure => simp [intOf]; omega
    · go_wp2
      go_ret
      obtain rfl : k = s.size := by omega
      exact ⟨ret_b (name_yes (by omega) (by omega) HF.out (fun j hj h => HA.out j hj h hj)).symm, rfl⟩

set_option maxHeartbeats 4000000 in
theorem rfits_any (op n : Int) (w : World) :
    Calls Tryz.prog 99 #[.int .i64 op, .int .i64 n] w fun e w' => e = .returned (.bool (X.numOk op n)) ∧ w' = w := by
  by_cases h1 : op = 1
  · subst h1
    go_enter Tryz.func99, Tryz.ntmps99
    go_wp2
    all_goals
      go_ret
      exact ⟨ret_b (by simp [X.numOk]), rfl⟩
  · by_cases h2 : op = 33
    · subst h2
      go_enter Tryz.func99, Tryz.ntmps99
      go_wp2
      all_goals
        go_ret
        exact ⟨ret_b (by rw [Bool.eq_iff_iff]; simp [X.numOk]; try omega), rfl⟩
    · have h1' : (op == 1) = false := by simp [h1]
      have h2' : (op == 33) = false := by simp [h2]
      have HR : Hid (X.numOk op n = (decide (-2147483648 ≤ n) && decide (n ≤ 2147483647))) := by show _ = _; simp [X.numOk, h1, h2]
      go_enter Tryz.func99, Tryz.ntmps99
      go_wp2
      all_goals
        go_ret
        exact ⟨ret_b (by rw [HR.out, Bool.eq_iff_iff]; simp; try omega), rfl⟩

theorem has_at {s : ByteArray} {c : Nat} (hc : c < 256) {k : Nat} (hk : k < s.size) (h : s[k].toNat = c) : X.has s.data.toList (UInt8.ofNat c) = true := by
  unfold X.has
  rw [List.contains_iff_mem]
  have h2 := get_list s k hk
  have : s[k] = UInt8.ofNat c := UInt8.toNat_inj.1 (by rw [h, UInt8.toNat_ofNat']; omega)
  rw [← this]
  exact List.mem_of_getElem? h2
theorem has_not {s : ByteArray} {c : Nat} (hc : c < 256) (h : ∀ j (hj : j < s.size), s[j].toNat ≠ c) : X.has s.data.toList (UInt8.ofNat c) = false := by
  unfold X.has
  rw [Bool.eq_false_iff]
  intro h2
  rw [List.contains_iff_mem] at h2
  obtain ⟨j, hj, e⟩ := List.getElem_of_mem h2
  rw [len_list] at hj
  exact h j hj (by
    have e2 : s[j] = UInt8.ofNat c := e
    rw [e2, UInt8.toNat_ofNat']
    omega)
set_option maxHeartbeats 4000000 in
theorem rhas_any (s : ByteArray) (c : Nat) (hc : c < 256) (hs : s.size ≤ maxLen) (w : World) :
    Calls Tryz.prog 100 #[.string s, .int .u8 c] w fun e w' => e = .returned (.bool (X.has s.data.toList (UInt8.ofNat c))) ∧ w' = w := by
  unfold maxLen at hs
  go_enter Tryz.func100, Tryz.ntmps100
  go_wp2_with fail
  go_loop [5] (fun i => ∃ (k : Nat), i = .int .i64 k ∧ k ≤ s.size ∧ Hid (∀ j (hj : j < s.size), j < k → s[j].toNat ≠ c)) (fun i => s.size - (intOf i).toNat)
  case atStart => exact ⟨0, rfl, Nat.zero_le _, (fun j hj h => by omega : ∀ j (hj : j < s.size), j < 0 → s[j].toNat ≠ c)⟩
  case round =>
    obtain ⟨k, rfl, hk, HA⟩ := hrel
    by_cases hlt : k < s.size
    · by_cases he : s[k].toNat = c
      · have he' : ((s[k].toNat : Int) == c) = true := by simp [he]
        have HY : Hid _ := has_at hc hlt he
        clear he
        go_wp2_with fail
        go_ret
        exact ⟨ret_b HY.out.symm, rfl⟩
      · have he' : ((s[k].toNat : Int) == c) = false := by simp; omega
        have HY : Hid (∀ j (hj : j < s.size), j < k + 1 → s[j].toNat ≠ c) := fun j hj h1 => by
          by_cases e : j = k
          · subst e; exact he
          · exact HA.out j hj (by omega)
        clear he
        go_wp2_with fail
        go_round
        case rel => exact ⟨k + 1, by go_num, by omega, HY.out⟩
        case measure => simp [intOf]; omega
    · have hlt' : ¬ (k : Int) < s.size := by omega
      go_wp2_with fail
      go_ret
      exact ⟨ret_b (has_not hc (fun j hj => HA.out j hj (by omega))).symm, rfl⟩

/-- The document's letters for an instruction's operands. -/
def X.opsR (op : Int) : X.By := if 0 ≤ op ∧ op < 34 then (X.row op.toNat).2.map fun c => if c = 64 then 83 else c else []
set_option maxRecDepth 100000 in
set_option maxHeartbeats 4000000 in
theorem roperands_any (op : Int) (w : World) :
    Calls Tryz.prog 79 #[.int .i64 op] w fun e w' => e = .returned (.string (X.str (X.opsR op))) ∧ w' = w := by
  by_cases h0 : 0 ≤ op ∧ op < 34
  · obtain ⟨k, rfl⟩ : ∃ k : Nat, op = k := ⟨op.toNat, by omega⟩
    have hk : k < 34 := by omega
    clear h0
    rcases (show k = 0 ∨ k = 1 ∨ k = 2 ∨ k = 3 ∨ k = 4 ∨ k = 5 ∨ k = 6 ∨ k = 7 ∨ k = 8 ∨ k = 9 ∨ k = 10 ∨ k = 11 ∨ k = 12 ∨ k = 13 ∨ k = 14 ∨ k = 15 ∨ k = 16 ∨ k = 17 ∨ k = 18 ∨ k = 19 ∨ k = 20 ∨ k = 21 ∨ k = 22 ∨ k = 23 ∨ k = 24 ∨ k = 25 ∨ k = 26 ∨ k = 27 ∨ k = 28 ∨ k = 29 ∨ k = 30 ∨ k = 31 ∨ k = 32 ∨ k = 33 by omega) with rfl | rfl | rfl | rfl | rfl | rfl | rfl | rfl | rfl | rfl | rfl | rfl | rfl | rfl | rfl | rfl | rfl | rfl | rfl | rfl | rfl | rfl | rfl | rfl | rfl | rfl | rfl | rfl | rfl | rfl | rfl | rfl | rfl | rfl
    all_goals
      go_enter Tryz.func79, Tryz.ntmps79
      go_wp2_with fail
      go_ret
      exact ⟨rfl, rfl⟩
  · have HR : Hid (X.opsR op = []) := by show _ = _; unfold X.opsR; rw [if_neg h0]
    have e1 : (op == 1) = false := by simp; omega
    have e17 : (op == 17) = false := by simp; omega
    have e18 : (op == 18) = false := by simp; omega
    have e28 : (op == 28) = false := by simp; omega
    have e29 : (op == 29) = false := by simp; omega
    have e19 : (op == 19) = false := by simp; omega
    have e20 : (op == 20) = false := by simp; omega
    have e23 : (op == 23) = false := by simp; omega
    have e21 : (op == 21) = false := by simp; omega
    have e22 : (op == 22) = false := by simp; omega
    have e31 : (op == 31) = false := by simp; omega
    have e33 : (op == 33) = false := by simp; omega
    have h3' : 2 ≤ op → ¬ op ≤ 16 := by omega
    clear h0
    by_cases h2 : 2 ≤ op
    · have h3 := h3' h2
      clear h3'
      go_enter Tryz.func79, Tryz.ntmps79
      go_wp2_with fail
      go_ret
      exact ⟨by rw [HR.out]; rfl, rfl⟩
    · clear h3'
      go_enter Tryz.func79, Tryz.ntmps79
      go_wp2_with fail
      go_ret
      exact ⟨by rw [HR.out]; rfl, rfl⟩

end Go.Proofs.YtgjingleolhkbaaGreatDoor

/- The document's words, numbers' texts and registers. -/
namespace Go.Proofs.YtgjingleolhkbaaGreatDoor
open Go.RowKit Go.Lib
set_option linter.unusedVariables false
set_option linter.unusedSimpArgs false

/-- The document's word for an instruction. -/
def X.mnem (op : Int) : X.By := if 0 ≤ op ∧ op < 34 then (X.row op.toNat).1 else []
set_option maxRecDepth 100000 in
set_option maxHeartbeats 4000000 in
theorem rmnemonic_any (op : Int) (w : World) :
    Calls Tryz.prog 80 #[.int .i64 op] w fun e w' => e = .returned (.string (X.str (X.mnem op))) ∧ ∃ o, w' = w.alloc o := by
  by_cases h0 : 0 ≤ op ∧ op < 34
  · obtain ⟨k, rfl⟩ : ∃ k : Nat, op = k := ⟨op.toNat, by omega⟩
    have hk : k < 34 := by omega
    clear h0
    have hk2 : ¬ (34 : Int) ≤ k := by omega
    have hk3 : (k : Int) < 34 := by omega
    have hk0 : ¬ (k : Int) < 0 := by omega
    have hk1 : (0 : Int) ≤ k := by omega
    go_enter Tryz.func80, Tryz.ntmps80
    go_wp2_with fail
    go_ret
    refine ⟨?_, _, rfl⟩
    rcases (show k = 0 ∨ k = 1 ∨ k = 2 ∨ k = 3 ∨ k = 4 ∨ k = 5 ∨ k = 6 ∨ k = 7 ∨ k = 8 ∨ k = 9 ∨ k = 10 ∨ k = 11 ∨ k = 12 ∨ k = 13 ∨ k = 14 ∨ k = 15 ∨ k = 16 ∨ k = 17 ∨ k = 18 ∨ k = 19 ∨ k = 20 ∨ k = 21 ∨ k = 22 ∨ k = 23 ∨ k = 24 ∨ k = 25 ∨ k = 26 ∨ k = 27 ∨ k = 28 ∨ k = 29 ∨ k = 30 ∨ k = 31 ∨ k = 32 ∨ k = 33 by omega) with rfl | rfl | rfl | rfl | rfl | rfl | rfl | rfl | rfl | rfl | rfl | rfl | rfl | rfl | rfl | rfl | rfl | rfl | rfl | rfl | rfl | rfl | rfl | rfl | rfl | rfl | rfl | rfl | rfl | rfl | rfl | rfl | rfl | rfl <;> rfl
  · have HR : Hid (X.mnem op = []) := by show _ = _; unfold X.mnem; rw [if_neg h0]
    by_cases h1 : op < 0
    · clear h0
      go_enter Tryz.func80, Tryz.ntmps80
      go_wp2_with fail
      go_ret
      exact ⟨by rw [HR.out]; rfl, _, rfl⟩
    · have h2 : 34 ≤ op := by omega
      clear h0
      go_enter Tryz.func80, Tryz.ntmps80
      go_wp2_with fail
      go_ret
      exact ⟨by rw [HR.out]; rfl, _, rfl⟩

theorem strNums_eqW (l : X.By) : strOfNums (l.map fun c => (c.toNat : Int)) = X.str l := by
  refine bytes_ext' ?_
  rw [str_list]
  unfold strOfNums
  simp
  conv => rhs; rw [← List.map_id l]
  refine List.map_congr_left fun c hc => ?_
  simp
def byW (c : UInt8) : Value := .int .u8 c.toNat
theorem conv_rowW {w : World} {g n cap : Nat} {l : X.By} (hn : l.length = n) (h : ∀ j u, (l.map byW)[j]? = some u → w.cell? ⟨g, j, none⟩ = some u) : (convert 65 9 (.slice (some ⟨g, 0, none⟩) n cap)).run Tryz.prog w = .ok (.string (X.str l)) w := by
  have h1 := run_convert_bytes_arg (P := Tryz.prog) w 65 5 Tryz.underlying65 Tryz.underlying5 g 0 n cap (l.map fun c => (c.toNat : Int)) (by simpa using hn) (fun i hi => by
    rw [Nat.zero_add]
    have hi' : i < l.length := by omega
    have e1 : (l.map fun c => (c.toNat : Int)).getD i 0 = (l[i].toNat : Int) := by simp [List.getD, hi']
    rw [e1]
    exact h i _ (by simp [byW, hi'])) 9 Tryz.underlying9
  rw [h1, strNums_eqW]
theorem conv1 (W : World) (x : Nat) (hx : x < 256) : (convert 65 9 (.slice (some ⟨W.heap.size, 0, none⟩) 1 1)).run Tryz.prog (W.alloc (.cells #[.int .u8 x] 5)) = .ok (.string (X.str [UInt8.ofNat x])) (W.alloc (.cells #[.int .u8 x] 5)) :=
  conv_rowW rfl (fun j u hu => by
    refine row_cell ?_
    have e : byW (UInt8.ofNat x) = .int .u8 x := by unfold byW; rw [UInt8.toNat_ofNat']; congr 1; omega
    rw [List.map_cons, List.map_nil, e] at hu
    simpa using hu)
end Go.Proofs.YtgjingleolhkbaaGreatDoor

/- Whether an item, or items, may be, by the document. -/
namespace Go.Proofs.YtgjingleolhkbaaGreatDoor
open Go.RowKit Go.Lib
set_option linter.unusedVariables false
set_option linter.unusedSimpArgs false

theorem rhas_int (s : ByteArray) (c : Int) (h0 : 0 ≤ c) (h1 : c < 256) (hs : s.size ≤ maxLen) (w : World) :
    Calls Tryz.prog 100 #[.string s, .int .u8 c] w fun e w' => e = .returned (.bool (X.has s.data.toList (UInt8.ofNat c.toNat))) ∧ w' = w := by
  obtain ⟨k, rfl⟩ : ∃ k : Nat, c = k := ⟨c.toNat, by omega⟩
  refine (rhas_any s k (by omega) hs w).mono ?_
  rintro e w' ⟨rfl, rfl⟩
  exact ⟨by simp, rfl⟩
theorem opsR_has : ∀ op : Fin 34, X.has (X.opsR (op.val : Int)) 83 = X.has (X.row op.val).2 64 ∧ X.has (X.opsR (op.val : Int)) 65 = X.has (X.row op.val).2 65 ∧ X.has (X.opsR (op.val : Int)) 66 = X.has (X.row op.val).2 66 ∧ X.has (X.opsR (op.val : Int)) 78 = X.has (X.row op.val).2 78 := by decide
theorem opsR_len (op : Int) : (X.opsR op).length ≤ 3 := by
  unfold X.opsR
  split
  · rename_i h
    rw [List.length_map]
    exact shape_len h
  · simp
theorem mnem_none {op : Int} (h : X.mnem op = []) : X.rowOf op = none := by
  unfold X.rowOf X.mnem at *
  split at h
  · rw [if_neg (by simp [h])]
  · rename_i h2
    rw [if_neg (fun e => h2 ⟨e.1, e.2.1⟩)]
theorem mnem_some {op : Int} (h : X.mnem op ≠ []) : 0 ≤ op ∧ op < 34 ∧ X.rowOf op = some (X.row op.toNat) := by
  unfold X.rowOf X.mnem at *
  split at h
  · rename_i h2
    exact ⟨h2.1, h2.2, if_pos ⟨h2.1, h2.2, h⟩⟩
  · exact absurd rfl h
/-- The document's questions, in its order. -/
def insD (nm : X.By) (op a b n : Int) (ws : List Int) (sA sB sN sS : Bool) : Bool := decide (ws = []) && (X.isReg a && (X.isReg b && (X.numOk op n && ((decide (a = 0) || sA) && ((decide (b = 0) || sB) && ((decide (n = 0) || sN) && (if sS = true then X.name nm else decide (nm = []))))))))
theorem name_nil : X.name [] = false := rfl
theorem insD_eq {t : X.It} {r : X.By × X.By} (h : X.rowOf t.op = some r) : (X.insOk t && decide (t.words = [])) = insD t.name t.op t.a t.b t.n t.words (X.has r.2 65) (X.has r.2 66) (X.has r.2 78) (X.has r.2 64) := by
  rw [insOk_eq h]
  unfold insQ insD
  cases X.has r.2 64
  · by_cases e : t.name = []
    · simp [e, Bool.and_comm, Bool.and_assoc, Bool.and_left_comm]
    · simp [e, Bool.and_comm, Bool.and_assoc, Bool.and_left_comm]
  · by_cases e : t.name = []
    · simp [e, name_nil]
    · simp [e, Bool.and_comm, Bool.and_assoc, Bool.and_left_comm]

theorem bl3 (w : World) (x y z : Obj) : Below w.heap.size w (((w.alloc x).alloc y).alloc z) := (bl2 w x y).alloc (by simp; omega) _
set_option maxRecDepth 100000 in
set_option maxHeartbeats 40000000 in
theorem rins_any (k : Int) (nm : ByteArray) (op a b n : Int) (aw : Option Addr) (lw cw : Nat) (ws : List Int) (hlen : ws.length = lw) (hs : nm.size ≤ maxLen) (w : World) :
    Calls Tryz.prog 77 #[.agg #[.int .i64 k, .string nm, .int .i64 op, .int .i64 a, .int .i64 b, .int .i64 n, .slice aw lw cw]] w fun e w' => e = .returned (.bool (X.insOk ⟨k, nm.data.toList, op, a, b, n, ws⟩ && decide (ws = []))) ∧ Below w.heap.size w w' := by
  have hop := fun w => roperands_any op w
  have hmn := fun w => rmnemonic_any op w
  have hO : (X.str (X.opsR op)).size ≤ maxLen := by rw [str_size]; have := opsR_len op; unfold maxLen; omega
  by_cases hm : X.mnem op = []
  · have HR : Hid ((X.insOk ⟨k, nm.data.toList, op, a, b, n, ws⟩ && decide (ws = [])) = false) := by show _ = _; rw [insOk_none (mnem_none hm)]; rfl
    have hE := isEmpty_nil hm
    generalize X.str (X.mnem op) = M at *
    generalize X.str (X.opsR op) = O at *
    clear hm
    go_enter Tryz.func77, Tryz.ntmps77
    go_wp2_with (first | (go_at_call 79; refine (hop _).mono ?_; rintro e y ⟨rfl, rfl⟩) | (go_at_call 80; refine (hmn _).mono ?_; rintro e y ⟨rfl, o, rfl⟩) | (go_at_call 99; refine (rfits_any op n _).mono ?_; rintro e y ⟨rfl, rfl⟩) | (go_at_call 100; refine (rhas_int O _ (by decide) (by decide) hO _).mono ?_; rintro e y ⟨rfl, rfl⟩) | (go_at_call 20; refine (rname_any nm hs _).mono ?_; rintro e y ⟨rfl, rfl⟩))
    go_ret
    exact ⟨ret_b HR.out.symm, bl3 _ _ _ _⟩
  obtain ⟨o0, o1, hrow⟩ := mnem_some hm
  have hE := isEmpty_str hm
  obtain ⟨f1, f2, f3, f4⟩ := opsR_has ⟨op.toNat, by omega⟩
  simp only [show ((op.toNat : Nat) : Int) = op from by omega] at f1 f2 f3 f4
  have hins := insD_eq (t := ⟨k, nm.data.toList, op, a, b, n, ws⟩) hrow
  simp only at hins
  obtain ⟨sA, h65⟩ : ∃ z, X.has (X.opsR op) 65 = z := ⟨_, rfl⟩
  obtain ⟨sB, h66⟩ : ∃ z, X.has (X.opsR op) 66 = z := ⟨_, rfl⟩
  obtain ⟨sN, h78⟩ : ∃ z, X.has (X.opsR op) 78 = z := ⟨_, rfl⟩
  obtain ⟨sS, h83⟩ : ∃ z, X.has (X.opsR op) 83 = z := ⟨_, rfl⟩
  rw [← f1, ← f2, ← f3, ← f4, h65, h66, h78, h83] at hins
  have HR : Hid _ := hins
  have g65 : X.has (X.str (X.opsR op)).data.toList (UInt8.ofNat (Int.toNat 65)) = sA := h65
  have g66 : X.has (X.str (X.opsR op)).data.toList (UInt8.ofNat (Int.toNat 66)) = sB := h66
  have g78 : X.has (X.str (X.opsR op)).data.toList (UInt8.ofNat (Int.toNat 78)) = sN := h78
  have g83 : X.has (X.str (X.opsR op)).data.toList (UInt8.ofNat (Int.toNat 83)) = sS := h83
  clear h65 h66 h78 h83 f1 f2 f3 f4 hins hrow hm o0 o1
  have h65 := g65
  have h66 := g66
  have h78 := g78
  have h83 := g83
  clear g65 g66 g78 g83
  generalize X.str (X.mnem op) = M at *
  generalize X.str (X.opsR op) = O at *
  by_cases hl0 : lw = 0
  rotate_left
  · have hl1 : (0 : Int) < lw := by omega
    have HL : Hid (¬ ws = []) := fun e => hl0 (by rw [← hlen, e]; rfl)
    clear hl0 hlen
    go_enter Tryz.func77, Tryz.ntmps77
    go_wp2_with (first | (go_at_call 79; refine (hop _).mono ?_; rintro e y ⟨rfl, rfl⟩) | (go_at_call 80; refine (hmn _).mono ?_; rintro e y ⟨rfl, o, rfl⟩) | (go_at_call 99; refine (rfits_any op n _).mono ?_; rw [hft]; rintro e y ⟨rfl, rfl⟩) | (go_at_call 100; refine (rhas_int O _ (by decide) (by decide) hO _).mono ?_; (first | rw [h65] | rw [h66] | rw [h78] | rw [h83]); rintro e y ⟨rfl, rfl⟩) | (go_at_call 20; refine (rname_any nm hs _).mono ?_; rw [hnm]; rintro e y ⟨rfl, rfl⟩))
    go_ret
    exact ⟨ret_b (by rw [HR.out]; simp [insD, HL.out]), by first | exact bl3 _ _ _ _ | exact bl2 _ _ _⟩
  have hl1 : ¬ (0 : Int) < lw := by omega
  have HL : Hid (ws = []) := List.eq_nil_of_length_eq_zero (by omega)
  clear hl0 hlen
  by_cases a0 : a < 0
  · have Ra : Hid (X.isReg a = false) := by show _ = _; simp [X.isReg]; omega
    go_enter Tryz.func77, Tryz.ntmps77
    go_wp2_with (first | (go_at_call 79; refine (hop _).mono ?_; rintro e y ⟨rfl, rfl⟩) | (go_at_call 80; refine (hmn _).mono ?_; rintro e y ⟨rfl, o, rfl⟩) | (go_at_call 99; refine (rfits_any op n _).mono ?_; rw [hft]; rintro e y ⟨rfl, rfl⟩) | (go_at_call 100; refine (rhas_int O _ (by decide) (by decide) hO _).mono ?_; (first | rw [h65] | rw [h66] | rw [h78] | rw [h83]); rintro e y ⟨rfl, rfl⟩) | (go_at_call 20; refine (rname_any nm hs _).mono ?_; rw [hnm]; rintro e y ⟨rfl, rfl⟩))
    go_ret
    exact ⟨ret_b (by rw [HR.out]; simp [insD, decide_eq_true HL.out, Ra.out]), by first | exact bl3 _ _ _ _ | exact bl2 _ _ _⟩
  by_cases a7 : 7 < a
  · have Ra : Hid (X.isReg a = false) := by show _ = _; simp [X.isReg]; omega
    go_enter Tryz.func77, Tryz.ntmps77
    go_wp2_with (first | (go_at_call 79; refine (hop _).mono ?_; rintro e y ⟨rfl, rfl⟩) | (go_at_call 80; refine (hmn _).mono ?_; rintro e y ⟨rfl, o, rfl⟩) | (go_at_call 99; refine (rfits_any op n _).mono ?_; rw [hft]; rintro e y ⟨rfl, rfl⟩) | (go_at_call 100; refine (rhas_int O _ (by decide) (by decide) hO _).mono ?_; (first | rw [h65] | rw [h66] | rw [h78] | rw [h83]); rintro e y ⟨rfl, rfl⟩) | (go_at_call 20; refine (rname_any nm hs _).mono ?_; rw [hnm]; rintro e y ⟨rfl, rfl⟩))
    go_ret
    exact ⟨ret_b (by rw [HR.out]; simp [insD, decide_eq_true HL.out, Ra.out]), by first | exact bl3 _ _ _ _ | exact bl2 _ _ _⟩
  have Ra : Hid (X.isReg a = true) := by show _ = _; simp [X.isReg]; omega
  by_cases b0 : b < 0
  · have Rb : Hid (X.isReg b = false) := by show _ = _; simp [X.isReg]; omega
    go_enter Tryz.func77, Tryz.ntmps77
    go_wp2_with (first | (go_at_call 79; refine (hop _).mono ?_; rintro e y ⟨rfl, rfl⟩) | (go_at_call 80; refine (hmn _).mono ?_; rintro e y ⟨rfl, o, rfl⟩) | (go_at_call 99; refine (rfits_any op n _).mono ?_; rw [hft]; rintro e y ⟨rfl, rfl⟩) | (go_at_call 100; refine (rhas_int O _ (by decide) (by decide) hO _).mono ?_; (first | rw [h65] | rw [h66] | rw [h78] | rw [h83]); rintro e y ⟨rfl, rfl⟩) | (go_at_call 20; refine (rname_any nm hs _).mono ?_; rw [hnm]; rintro e y ⟨rfl, rfl⟩))
    go_ret
    exact ⟨ret_b (by rw [HR.out]; simp [insD, decide_eq_true HL.out, Ra.out, Rb.out]), by first | exact bl3 _ _ _ _ | exact bl2 _ _ _⟩
  by_cases b7 : 7 < b
  · have Rb : Hid (X.isReg b = false) := by show _ = _; simp [X.isReg]; omega
    go_enter Tryz.func77, Tryz.ntmps77
    go_wp2_with (first | (go_at_call 79; refine (hop _).mono ?_; rintro e y ⟨rfl, rfl⟩) | (go_at_call 80; refine (hmn _).mono ?_; rintro e y ⟨rfl, o, rfl⟩) | (go_at_call 99; refine (rfits_any op n _).mono ?_; rw [hft]; rintro e y ⟨rfl, rfl⟩) | (go_at_call 100; refine (rhas_int O _ (by decide) (by decide) hO _).mono ?_; (first | rw [h65] | rw [h66] | rw [h78] | rw [h83]); rintro e y ⟨rfl, rfl⟩) | (go_at_call 20; refine (rname_any nm hs _).mono ?_; rw [hnm]; rintro e y ⟨rfl, rfl⟩))
    go_ret
    exact ⟨ret_b (by rw [HR.out]; simp [insD, decide_eq_true HL.out, Ra.out, Rb.out]), by first | exact bl3 _ _ _ _ | exact bl2 _ _ _⟩
  have Rb : Hid (X.isReg b = true) := by show _ = _; simp [X.isReg]; omega
  cases hft : X.numOk op n
  · skip
    go_enter Tryz.func77, Tryz.ntmps77
    go_wp2_with (first | (go_at_call 79; refine (hop _).mono ?_; rintro e y ⟨rfl, rfl⟩) | (go_at_call 80; refine (hmn _).mono ?_; rintro e y ⟨rfl, o, rfl⟩) | (go_at_call 99; refine (rfits_any op n _).mono ?_; rw [hft]; rintro e y ⟨rfl, rfl⟩) | (go_at_call 100; refine (rhas_int O _ (by decide) (by decide) hO _).mono ?_; (first | rw [h65] | rw [h66] | rw [h78] | rw [h83]); rintro e y ⟨rfl, rfl⟩) | (go_at_call 20; refine (rname_any nm hs _).mono ?_; rw [hnm]; rintro e y ⟨rfl, rfl⟩))
    go_ret
    exact ⟨ret_b (by rw [HR.out]; simp [insD, decide_eq_true HL.out, Ra.out, Rb.out, hft]), by first | exact bl3 _ _ _ _ | exact bl2 _ _ _⟩
  go_enter Tryz.func77, Tryz.ntmps77
  go_wp2_with (first | (go_at_call 79; refine (hop _).mono ?_; rintro e y ⟨rfl, rfl⟩) | (go_at_call 80; refine (hmn _).mono ?_; rintro e y ⟨rfl, o, rfl⟩) | (go_at_call 99; refine (rfits_any op n _).mono ?_; rw [hft]; rintro e y ⟨rfl, rfl⟩))
  clear hop hmn
  refine (rhas_int O 65 (by decide) (by decide) hO _).mono ?_
  rw [h65]
  rintro e y ⟨rfl, rfl⟩
  cases sA
  · by_cases za : a = 0
    · have Za : Hid _ := za
      replace za : (a != 0) = false := eq_i za
      go_wp2_with fail
      refine (rhas_int O 66 (by decide) (by decide) hO _).mono ?_
      rw [h66]
      rintro e y ⟨rfl, rfl⟩
      cases sB
      · by_cases zb : b = 0
        · have Zb : Hid _ := zb
          replace zb : (b != 0) = false := eq_i zb
          go_wp2_with fail
          refine (rhas_int O 78 (by decide) (by decide) hO _).mono ?_
          rw [h78]
          rintro e y ⟨rfl, rfl⟩
          cases sN
          · by_cases zn : n = 0
            · have Zn : Hid _ := zn
              replace zn : (n != 0) = false := eq_i zn
              go_wp2_with fail
              refine (rhas_int O 83 (by decide) (by decide) hO _).mono ?_
              rw [h83]
              rintro e y ⟨rfl, rfl⟩
              cases sS
              · go_wp2_with fail
                go_ret
                exact ⟨ret_b (by rw [HR.out]; simp only [insD, Bool.true_or, Bool.or_true, Bool.false_or, Bool.or_self, Bool.and_true, Bool.true_and, Bool.false_and, Bool.and_false, Bool.and_self, if_true, if_false, Bool.false_eq_true, decide_eq_true HL.out, Ra.out, Rb.out, hft, decide_eq_true Za.out, decide_eq_true Zb.out, decide_eq_true Zn.out, neq_empty]), bl3 _ _ _ _⟩
              · go_wp2_with fail
                refine (rname_any nm hs _).mono ?_
                rintro e y ⟨rfl, rfl⟩
                go_wp2_with fail
                go_ret
                exact ⟨ret_b (by rw [HR.out]; simp only [insD, Bool.true_or, Bool.or_true, Bool.false_or, Bool.or_self, Bool.and_true, Bool.true_and, Bool.false_and, Bool.and_false, Bool.and_self, if_true, if_false, Bool.false_eq_true, decide_eq_true HL.out, Ra.out, Rb.out, hft, decide_eq_true Za.out, decide_eq_true Zb.out, decide_eq_true Zn.out]), bl3 _ _ _ _⟩
            · have Zn : Hid _ := zn
              replace zn : (n != 0) = true := ne_i zn
              go_wp2_with fail
              go_ret
              exact ⟨ret_b (by rw [HR.out]; simp only [insD, Bool.true_or, Bool.or_true, Bool.false_or, Bool.or_self, Bool.and_true, Bool.true_and, Bool.false_and, Bool.and_false, Bool.and_self, if_true, if_false, Bool.false_eq_true, decide_eq_true HL.out, Ra.out, Rb.out, hft, decide_eq_true Za.out, decide_eq_true Zb.out, decide_eq_false Zn.out]), bl3 _ _ _ _⟩
          · go_wp2_with fail
            refine (rhas_int O 83 (by decide) (by decide) hO _).mono ?_
            rw [h83]
            rintro e y ⟨rfl, rfl⟩
            cases sS
            · go_wp2_with fail
              go_ret
              exact ⟨ret_b (by rw [HR.out]; simp only [insD, Bool.true_or, Bool.or_true, Bool.false_or, Bool.or_self, Bool.and_true, Bool.true_and, Bool.false_and, Bool.and_false, Bool.and_self, if_true, if_false, Bool.false_eq_true, decide_eq_true HL.out, Ra.out, Rb.out, hft, decide_eq_true Za.out, decide_eq_true Zb.out, neq_empty]), bl3 _ _ _ _⟩
            · go_wp2_with fail
              refine (rname_any nm hs _).mono ?_
              rintro e y ⟨rfl, rfl⟩
              go_wp2_with fail
              go_ret
              exact ⟨ret_b (by rw [HR.out]; simp only [insD, Bool.true_or, Bool.or_true, Bool.false_or, Bool.or_self, Bool.and_true, Bool.true_and, Bool.false_and, Bool.and_false, Bool.and_self, if_true, if_false, Bool.false_eq_true, decide_eq_true HL.out, Ra.out, Rb.out, hft, decide_eq_true Za.out, decide_eq_true Zb.out]), bl3 _ _ _ _⟩
        · have Zb : Hid _ := zb
          replace zb : (b != 0) = true := ne_i zb
          go_wp2_with fail
          go_ret
          exact ⟨ret_b (by rw [HR.out]; simp only [insD, Bool.true_or, Bool.or_true, Bool.false_or, Bool.or_self, Bool.and_true, Bool.true_and, Bool.false_and, Bool.and_false, Bool.and_self, if_true, if_false, Bool.false_eq_true, decide_eq_true HL.out, Ra.out, Rb.out, hft, decide_eq_true Za.out, decide_eq_false Zb.out]), bl3 _ _ _ _⟩
      · go_wp2_with fail
        refine (rhas_int O 78 (by decide) (by decide) hO _).mono ?_
        rw [h78]
        rintro e y ⟨rfl, rfl⟩
        cases sN
        · by_cases zn : n = 0
          · have Zn : Hid _ := zn
            replace zn : (n != 0) = false := eq_i zn
            go_wp2_with fail
            refine (rhas_int O 83 (by decide) (by decide) hO _).mono ?_
            rw [h83]
            rintro e y ⟨rfl, rfl⟩
            cases sS
            · go_wp2_with fail
              go_ret
              exact ⟨ret_b (by rw [HR.out]; simp only [insD, Bool.true_or, Bool.or_true, Bool.false_or, Bool.or_self, Bool.and_true, Bool.true_and, Bool.false_and, Bool.and_false, Bool.and_self, if_true, if_false, Bool.false_eq_true, decide_eq_true HL.out, Ra.out, Rb.out, hft, decide_eq_true Za.out, decide_eq_true Zn.out, neq_empty]), bl3 _ _ _ _⟩
            · go_wp2_with fail
              refine (rname_any nm hs _).mono ?_
              rintro e y ⟨rfl, rfl⟩
              go_wp2_with fail
              go_ret
              exact ⟨ret_b (by rw [HR.out]; simp only [insD, Bool.true_or, Bool.or_true, Bool.false_or, Bool.or_self, Bool.and_true, Bool.true_and, Bool.false_and, Bool.and_false, Bool.and_self, if_true, if_false, Bool.false_eq_true, decide_eq_true HL.out, Ra.out, Rb.out, hft, decide_eq_true Za.out, decide_eq_true Zn.out]), bl3 _ _ _ _⟩
          · have Zn : Hid _ := zn
            replace zn : (n != 0) = true := ne_i zn
            go_wp2_with fail
            go_ret
            exact ⟨ret_b (by rw [HR.out]; simp only [insD, Bool.true_or, Bool.or_true, Bool.false_or, Bool.or_self, Bool.and_true, Bool.true_and, Bool.false_and, Bool.and_false, Bool.and_self, if_true, if_false, Bool.false_eq_true, decide_eq_true HL.out, Ra.out, Rb.out, hft, decide_eq_true Za.out, decide_eq_false Zn.out]), bl3 _ _ _ _⟩
        · go_wp2_with fail
          refine (rhas_int O 83 (by decide) (by decide) hO _).mono ?_
          rw [h83]
          rintro e y ⟨rfl, rfl⟩
          cases sS
          · go_wp2_with fail
            go_ret
            exact ⟨ret_b (by rw [HR.out]; simp only [insD, Bool.true_or, Bool.or_true, Bool.false_or, Bool.or_self, Bool.and_true, Bool.true_and, Bool.false_and, Bool.and_false, Bool.and_self, if_true, if_false, Bool.false_eq_true, decide_eq_true HL.out, Ra.out, Rb.out, hft, decide_eq_true Za.out, neq_empty]), bl3 _ _ _ _⟩
          · go_wp2_with fail
            refine (rname_any nm hs _).mono ?_
            rintro e y ⟨rfl, rfl⟩
            go_wp2_with fail
            go_ret
            exact ⟨ret_b (by rw [HR.out]; simp only [insD, Bool.true_or, Bool.or_true, Bool.false_or, Bool.or_self, Bool.and_true, Bool.true_and, Bool.false_and, Bool.and_false, Bool.and_self, if_true, if_false, Bool.false_eq_true, decide_eq_true HL.out, Ra.out, Rb.out, hft, decide_eq_true Za.out]), bl3 _ _ _ _⟩
    · have Za : Hid _ := za
      replace za : (a != 0) = true := ne_i za
      go_wp2_with fail
      go_ret
      exact ⟨ret_b (by rw [HR.out]; simp only [insD, Bool.true_or, Bool.or_true, Bool.false_or, Bool.or_self, Bool.and_true, Bool.true_and, Bool.false_and, Bool.and_false, Bool.and_self, if_true, if_false, Bool.false_eq_true, decide_eq_true HL.out, Ra.out, Rb.out, hft, decide_eq_false Za.out]), bl3 _ _ _ _⟩
  · go_wp2_with fail
    refine (rhas_int O 66 (by decide) (by decide) hO _).mono ?_
    rw [h66]
    rintro e y ⟨rfl, rfl⟩
    cases sB
    · by_cases zb : b = 0
      · have Zb : Hid _ := zb
        replace zb : (b != 0) = false := eq_i zb
        go_wp2_with fail
        refine (rhas_int O 78 (by decide) (by decide) hO _).mono ?_
        rw [h78]
        rintro e y ⟨rfl, rfl⟩
        cases sN
        · by_cases zn : n = 0
          · have Zn : Hid _ := zn
            replace zn : (n != 0) = false := eq_i zn
            go_wp2_with fail
            refine (rhas_int O 83 (by decide) (by decide) hO _).mono ?_
            rw [h83]
            rintro e y ⟨rfl, rfl⟩
            cases sS
            · go_wp2_with fail
              go_ret
              exact ⟨ret_b (by rw [HR.out]; simp only [insD, Bool.true_or, Bool.or_true, Bool.false_or, Bool.or_self, Bool.and_true, Bool.true_and, Bool.false_and, Bool.and_false, Bool.and_self, if_true, if_false, Bool.false_eq_true, decide_eq_true HL.out, Ra.out, Rb.out, hft, decide_eq_true Zb.out, decide_eq_true Zn.out, neq_empty]), bl3 _ _ _ _⟩
            · go_wp2_with fail
              refine (rname_any nm hs _).mono ?_
              rintro e y ⟨rfl, rfl⟩
              go_wp2_with fail
              go_ret
              exact ⟨ret_b (by rw [HR.out]; simp only [insD, Bool.true_or, Bool.or_true, Bool.false_or, Bool.or_self, Bool.and_true, Bool.true_and, Bool.false_and, Bool.and_false, Bool.and_self, if_true, if_false, Bool.false_eq_true, decide_eq_true HL.out, Ra.out, Rb.out, hft, decide_eq_true Zb.out, decide_eq_true Zn.out]), bl3 _ _ _ _⟩
          · have Zn : Hid _ := zn
            replace zn : (n != 0) = true := ne_i zn
            go_wp2_with fail
            go_ret
            exact ⟨ret_b (by rw [HR.out]; simp only [insD, Bool.true_or, Bool.or_true, Bool.false_or, Bool.or_self, Bool.and_true, Bool.true_and, Bool.false_and, Bool.and_false, Bool.and_self, if_true, if_false, Bool.false_eq_true, decide_eq_true HL.out, Ra.out, Rb.out, hft, decide_eq_true Zb.out, decide_eq_false Zn.out]), bl3 _ _ _ _⟩
        · go_wp2_with fail
          refine (rhas_int O 83 (by decide) (by decide) hO _).mono ?_
          rw [h83]
          rintro e y ⟨rfl, rfl⟩
          cases sS
          · go_wp2_with fail
            go_ret
            exact ⟨ret_b (by rw [HR.out]; simp only [insD, Bool.true_or, Bool.or_true, Bool.false_or, Bool.or_self, Bool.and_true, Bool.true_and, Bool.false_and, Bool.and_false, Bool.and_self, if_true, if_false, Bool.false_eq_true, decide_eq_true HL.out, Ra.out, Rb.out, hft, decide_eq_true Zb.out, neq_empty]), bl3 _ _ _ _⟩
          · go_wp2_with fail
            refine (rname_any nm hs _).mono ?_
            rintro e y ⟨rfl, rfl⟩
            go_wp2_with fail
            go_ret
            exact ⟨ret_b (by rw [HR.out]; simp only [insD, Bool.true_or, Bool.or_true, Bool.false_or, Bool.or_self, Bool.and_true, Bool.true_and, Bool.false_and, Bool.and_false, Bool.and_self, if_true, if_false, Bool.false_eq_true, decide_eq_true HL.out, Ra.out, Rb.out, hft, decide_eq_true Zb.out]), bl3 _ _ _ _⟩
      · have Zb : Hid _ := zb
        replace zb : (b != 0) = true := ne_i zb
        go_wp2_with fail
        go_ret
        exact ⟨ret_b (by rw [HR.out]; simp only [insD, Bool.true_or, Bool.or_true, Bool.false_or, Bool.or_self, Bool.and_true, Bool.true_and, Bool.false_and, Bool.and_false, Bool.and_self, if_true, if_false, Bool.false_eq_true, decide_eq_true HL.out, Ra.out, Rb.out, hft, decide_eq_false Zb.out]), bl3 _ _ _ _⟩
    · go_wp2_with fail
      refine (rhas_int O 78 (by decide) (by decide) hO _).mono ?_
      rw [h78]
      rintro e y ⟨rfl, rfl⟩
      cases sN
      · by_cases zn : n = 0
        · have Zn : Hid _ := zn
          replace zn : (n != 0) = false := eq_i zn
          go_wp2_with fail
          refine (rhas_int O 83 (by decide) (by decide) hO _).mono ?_
          rw [h83]
          rintro e y ⟨rfl, rfl⟩
          cases sS
          · go_wp2_with fail
            go_ret
            exact ⟨ret_b (by rw [HR.out]; simp only [insD, Bool.true_or, Bool.or_true, Bool.false_or, Bool.or_self, Bool.and_true, Bool.true_and, Bool.false_and, Bool.and_false, Bool.and_self, if_true, if_false, Bool.false_eq_true, decide_eq_true HL.out, Ra.out, Rb.out, hft, decide_eq_true Zn.out, neq_empty]), bl3 _ _ _ _⟩
          · go_wp2_with fail
            refine (rname_any nm hs _).mono ?_
            rintro e y ⟨rfl, rfl⟩
            go_wp2_with fail
            go_ret
            exact ⟨ret_b (by rw [HR.out]; simp only [insD, Bool.true_or, Bool.or_true, Bool.false_or, Bool.or_self, Bool.and_true, Bool.true_and, Bool.false_and, Bool.and_false, Bool.and_self, if_true, if_false, Bool.false_eq_true, decide_eq_true HL.out, Ra.out, Rb.out, hft, decide_eq_true Zn.out]), bl3 _ _ _ _⟩
        · have Zn : Hid _ := zn
          replace zn : (n != 0) = true := ne_i zn
          go_wp2_with fail
          go_ret
          exact ⟨ret_b (by rw [HR.out]; simp only [insD, Bool.true_or, Bool.or_true, Bool.false_or, Bool.or_self, Bool.and_true, Bool.true_and, Bool.false_and, Bool.and_false, Bool.and_self, if_true, if_false, Bool.false_eq_true, decide_eq_true HL.out, Ra.out, Rb.out, hft, decide_eq_false Zn.out]), bl3 _ _ _ _⟩
      · go_wp2_with fail
        refine (rhas_int O 83 (by decide) (by decide) hO _).mono ?_
        rw [h83]
        rintro e y ⟨rfl, rfl⟩
        cases sS
        · go_wp2_with fail
          go_ret
          exact ⟨ret_b (by rw [HR.out]; simp only [insD, Bool.true_or, Bool.or_true, Bool.false_or, Bool.or_self, Bool.and_true, Bool.true_and, Bool.false_and, Bool.and_false, Bool.and_self, if_true, if_false, Bool.false_eq_true, decide_eq_true HL.out, Ra.out, Rb.out, hft, neq_empty]), bl3 _ _ _ _⟩
        · go_wp2_with fail
          refine (rname_any nm hs _).mono ?_
          rintro e y ⟨rfl, rfl⟩
          go_wp2_with fail
          go_ret
          exact ⟨ret_b (by rw [HR.out]; simp only [insD, Bool.true_or, Bool.or_true, Bool.false_or, Bool.or_self, Bool.and_true, Bool.true_and, Bool.false_and, Bool.and_false, Bool.and_self, if_true, if_false, Bool.false_eq_true, decide_eq_true HL.out, Ra.out, Rb.out, hft]), bl3 _ _ _ _⟩

end Go.Proofs.YtgjingleolhkbaaGreatDoor

/- Whether an item, or items, may be, by the document. -/
namespace Go.Proofs.YtgjingleolhkbaaGreatDoor
open Go.RowKit Go.Lib
set_option linter.unusedVariables false
set_option linter.unusedSimpArgs false

set_option maxRecDepth 100000 in
set_option maxHeartbeats 40000000 in
theorem rmay_any (k : Int) (nm : ByteArray) (op a b n : Int) (aw : Option Addr) (lw cw : Nat) (ws : List Int) (hlen : ws.length = lw) (hs : nm.size ≤ maxLen) (w : World) :
    Calls Tryz.prog 56 #[.agg #[.int .i64 k, .string nm, .int .i64 op, .int .i64 a, .int .i64 b, .int .i64 n, .slice aw lw cw]] w fun e w' => e = .returned (.bool (X.itOk ⟨k, nm.data.toList, op, a, b, n, ws⟩)) ∧ Below w.heap.size w w' := by
  have hEq := eqIns op a b n
  have hins := fun w => rins_any k nm op a b n aw lw cw ws hlen hs w
  obtain ⟨zI, hzI⟩ : ∃ zI, X.zeroIns ⟨k, nm.data.toList, op, a, b, n, ws⟩ = zI := ⟨_, rfl⟩
  have hEq' : ∀ w, (Op.equalIn 10000 42 (.agg #[.int .i64 op, .int .i64 a, .int .i64 b, .int .i64 n]) (.agg #[.int .i64 0, .int .i64 0, .int .i64 0, .int .i64 0])).run Tryz.prog w = .ok zI w := by rw [← hzI]; exact hEq
  clear hEq
  by_cases hk2 : k = 2
  · subst hk2
    have HR : Hid (X.itOk ⟨2, nm.data.toList, op, a, b, n, ws⟩ = (X.insOk ⟨2, nm.data.toList, op, a, b, n, ws⟩ && decide (ws = []))) := by show _ = _; simp [X.itOk]
    clear hEq' hzI hlen
    go_enter Tryz.func56, Tryz.ntmps56
    go_wp2_with fail
    refine (hins _).mono ?_
    rintro e y ⟨rfl, hb⟩
    have HB : Hid _ := hb
    clear hb hins
    go_wp2_with fail
    go_ret
    exact ⟨ret_b HR.out.symm, (bl1 _ _).trans (HB.out.mono (bl1 _ _).size)⟩
  have k2 : (k == 2) = false := by simp [hk2]
  clear hins
  by_cases hk3 : k = 3
  · subst hk3
    have HR : Hid (X.itOk ⟨3, nm.data.toList, op, a, b, n, ws⟩ = (X.name nm.data.toList && (zI && (decide (1 ≤ lw) && decide (lw ≤ 4096))))) := by show _ = _; rw [← hzI, ← hlen]; simp [X.itOk, Bool.and_comm, Bool.and_assoc, Bool.and_left_comm]
    clear hzI
    cases hnm : X.name nm.data.toList
    · skip
      go_enter Tryz.func56, Tryz.ntmps56
      go_wp2_with (first | (go_at_call 20; refine (rname_any nm hs _).mono ?_; rw [hnm]; rintro e y ⟨rfl, rfl⟩))
      go_ret
      exact ⟨ret_b (by rw [HR.out]; simp only [Bool.true_or, Bool.or_true, Bool.false_or, Bool.or_self, Bool.and_true, Bool.true_and, Bool.false_and, Bool.and_false, Bool.and_self, if_true, if_false, hnm] <;> (simp; omega)), bl1 _ _⟩
    cases zI
    · skip
      go_enter Tryz.func56, Tryz.ntmps56
      go_wp2_with (first | (go_at_call 20; refine (rname_any nm hs _).mono ?_; rw [hnm]; rintro e y ⟨rfl, rfl⟩))
      go_ret
      exact ⟨ret_b (by rw [HR.out]; simp only [Bool.true_or, Bool.or_true, Bool.false_or, Bool.or_self, Bool.and_true, Bool.true_and, Bool.false_and, Bool.and_false, Bool.and_self, if_true, if_false, hnm] <;> (simp; omega)), bl1 _ _⟩
    by_cases l1 : 1 ≤ lw
    rotate_left
    · have D : Hid (decide (1 ≤ lw) = false) := decide_eq_false l1
      have l2 : ¬ (1 : Int) ≤ lw := by omega
      go_enter Tryz.func56, Tryz.ntmps56
      go_wp2_with (first | (go_at_call 20; refine (rname_any nm hs _).mono ?_; rw [hnm]; rintro e y ⟨rfl, rfl⟩))
      go_ret
      exact ⟨ret_b (by rw [HR.out]; simp only [Bool.true_or, Bool.or_true, Bool.false_or, Bool.or_self, Bool.and_true, Bool.true_and, Bool.false_and, Bool.and_false, Bool.and_self, if_true, if_false, hnm, D.out] <;> (simp; omega)), bl1 _ _⟩
    have D : Hid (decide (1 ≤ lw) = true) := decide_eq_true l1
    have l1' : (1 : Int) ≤ lw := by omega
    by_cases l3 : lw ≤ 4096
    rotate_left
    · have D2 : Hid (decide (lw ≤ 4096) = false) := decide_eq_false l3
      have l2 : ¬ (lw : Int) ≤ 4096 := by omega
      go_enter Tryz.func56, Tryz.ntmps56
      go_wp2_with (first | (go_at_call 20; refine (rname_any nm hs _).mono ?_; rw [hnm]; rintro e y ⟨rfl, rfl⟩))
      go_ret
      exact ⟨ret_b (by rw [HR.out]; simp only [Bool.true_or, Bool.or_true, Bool.false_or, Bool.or_self, Bool.and_true, Bool.true_and, Bool.false_and, Bool.and_false, Bool.and_self, if_true, if_false, hnm, D.out, D2.out] <;> (simp; omega)), bl1 _ _⟩
    have D2 : Hid (decide (lw ≤ 4096) = true) := decide_eq_true l3
    have l3' : (lw : Int) ≤ 4096 := by omega
    go_enter Tryz.func56, Tryz.ntmps56
    go_wp2_with (first | (go_at_call 20; refine (rname_any nm hs _).mono ?_; rw [hnm]; rintro e y ⟨rfl, rfl⟩))
    go_ret
    exact ⟨ret_b (by rw [HR.out]; simp only [Bool.true_or, Bool.or_true, Bool.false_or, Bool.or_self, Bool.and_true, Bool.true_and, Bool.false_and, Bool.and_false, Bool.and_self, if_true, if_false, hnm, D.out, D2.out] <;> (simp; omega)), bl1 _ _⟩
  have k3 : (k == 3) = false := by simp [hk3]
  by_cases hk1 : k = 1
  · subst hk1
    have HR : Hid (X.itOk ⟨1, nm.data.toList, op, a, b, n, ws⟩ = (X.name nm.data.toList && (zI && decide (ws = [])))) := by show _ = _; rw [← hzI]; simp [X.itOk, Bool.and_comm, Bool.and_assoc, Bool.and_left_comm]
    clear hzI
    cases hnm : X.name nm.data.toList
    · skip
      go_enter Tryz.func56, Tryz.ntmps56
      go_wp2_with (first | (go_at_call 20; refine (rname_any nm hs _).mono ?_; rw [hnm]; rintro e y ⟨rfl, rfl⟩))
      go_ret
      exact ⟨ret_b (by rw [HR.out]; simp only [Bool.true_or, Bool.or_true, Bool.false_or, Bool.or_self, Bool.and_true, Bool.true_and, Bool.false_and, Bool.and_false, Bool.and_self, if_true, if_false, hnm] <;> (simp; omega)), bl1 _ _⟩
    cases zI
    · skip
      go_enter Tryz.func56, Tryz.ntmps56
      go_wp2_with (first | (go_at_call 20; refine (rname_any nm hs _).mono ?_; rw [hnm]; rintro e y ⟨rfl, rfl⟩))
      go_ret
      exact ⟨ret_b (by rw [HR.out]; simp only [Bool.true_or, Bool.or_true, Bool.false_or, Bool.or_self, Bool.and_true, Bool.true_and, Bool.false_and, Bool.and_false, Bool.and_self, if_true, if_false, hnm] <;> (simp; omega)), bl1 _ _⟩
    by_cases hl0 : lw = 0
    · have hl0' : Hid (decide (ws = []) = true) := decide_eq_true (List.eq_nil_of_length_eq_zero (by omega))
      have hl1 : ((lw : Int) == 0) = true := by simp [hl0]
      clear hl0 hlen
      go_enter Tryz.func56, Tryz.ntmps56
      go_wp2_with (first | (go_at_call 20; refine (rname_any nm hs _).mono ?_; rw [hnm]; rintro e y ⟨rfl, rfl⟩))
      go_ret
      exact ⟨ret_b (by rw [HR.out]; simp only [Bool.true_or, Bool.or_true, Bool.false_or, Bool.or_self, Bool.and_true, Bool.true_and, Bool.false_and, Bool.and_false, Bool.and_self, if_true, if_false, hnm, hl0'.out] <;> (simp; omega)), bl1 _ _⟩
    · have hl0' : Hid (decide (ws = []) = false) := decide_eq_false (fun e => hl0 (by rw [← hlen, e]; rfl))
      have hl1 : ((lw : Int) == 0) = false := by simp [hl0]
      clear hl0 hlen
      go_enter Tryz.func56, Tryz.ntmps56
      go_wp2_with (first | (go_at_call 20; refine (rname_any nm hs _).mono ?_; rw [hnm]; rintro e y ⟨rfl, rfl⟩))
      go_ret
      exact ⟨ret_b (by rw [HR.out]; simp only [Bool.true_or, Bool.or_true, Bool.false_or, Bool.or_self, Bool.and_true, Bool.true_and, Bool.false_and, Bool.and_false, Bool.and_self, if_true, if_false, hnm, hl0'.out] <;> (simp; omega)), bl1 _ _⟩
  have k1 : (k == 1) = false := by simp [hk1]
  by_cases hk4 : k = 4
  · subst hk4
    have HR : Hid (X.itOk ⟨4, nm.data.toList, op, a, b, n, ws⟩ = (X.name nm.data.toList && (zI && decide (ws = [])))) := by show _ = _; rw [← hzI]; simp [X.itOk, Bool.and_comm, Bool.and_assoc, Bool.and_left_comm]
    clear hzI
    cases hnm : X.name nm.data.toList
    · skip
      go_enter Tryz.func56, Tryz.ntmps56
      go_wp2_with (first | (go_at_call 20; refine (rname_any nm hs _).mono ?_; rw [hnm]; rintro e y ⟨rfl, rfl⟩))
      go_ret
      exact ⟨ret_b (by rw [HR.out]; simp only [Bool.true_or, Bool.or_true, Bool.false_or, Bool.or_self, Bool.and_true, Bool.true_and, Bool.false_and, Bool.and_false, Bool.and_self, if_true, if_false, hnm] <;> (simp; omega)), bl1 _ _⟩
    cases zI
    · skip
      go_enter Tryz.func56, Tryz.ntmps56
      go_wp2_with (first | (go_at_call 20; refine (rname_any nm hs _).mono ?_; rw [hnm]; rintro e y ⟨rfl, rfl⟩))
      go_ret
      exact ⟨ret_b (by rw [HR.out]; simp only [Bool.true_or, Bool.or_true, Bool.false_or, Bool.or_self, Bool.and_true, Bool.true_and, Bool.false_and, Bool.and_false, Bool.and_self, if_true, if_false, hnm] <;> (simp; omega)), bl1 _ _⟩
    by_cases hl0 : lw = 0
    · have hl0' : Hid (decide (ws = []) = true) := decide_eq_true (List.eq_nil_of_length_eq_zero (by omega))
      have hl1 : ((lw : Int) == 0) = true := by simp [hl0]
      clear hl0 hlen
      go_enter Tryz.func56, Tryz.ntmps56
      go_wp2_with (first | (go_at_call 20; refine (rname_any nm hs _).mono ?_; rw [hnm]; rintro e y ⟨rfl, rfl⟩))
      go_ret
      exact ⟨ret_b (by rw [HR.out]; simp only [Bool.true_or, Bool.or_true, Bool.false_or, Bool.or_self, Bool.and_true, Bool.true_and, Bool.false_and, Bool.and_false, Bool.and_self, if_true, if_false, hnm, hl0'.out] <;> (simp; omega)), bl1 _ _⟩
    · have hl0' : Hid (decide (ws = []) = false) := decide_eq_false (fun e => hl0 (by rw [← hlen, e]; rfl))
      have hl1 : ((lw : Int) == 0) = false := by simp [hl0]
      clear hl0 hlen
      go_enter Tryz.func56, Tryz.ntmps56
      go_wp2_with (first | (go_at_call 20; refine (rname_any nm hs _).mono ?_; rw [hnm]; rintro e y ⟨rfl, rfl⟩))
      go_ret
      exact ⟨ret_b (by rw [HR.out]; simp only [Bool.true_or, Bool.or_true, Bool.false_or, Bool.or_self, Bool.and_true, Bool.true_and, Bool.false_and, Bool.and_false, Bool.and_self, if_true, if_false, hnm, hl0'.out] <;> (simp; omega)), bl1 _ _⟩
  have k4 : (k == 4) = false := by simp [hk4]
  by_cases hk5 : k = 5
  · subst hk5
    have HR : Hid (X.itOk ⟨5, nm.data.toList, op, a, b, n, ws⟩ = (X.name nm.data.toList && (zI && decide (ws = [])))) := by show _ = _; rw [← hzI]; simp [X.itOk, Bool.and_comm, Bool.and_assoc, Bool.and_left_comm]
    clear hzI
    cases hnm : X.name nm.data.toList
    · skip
      go_enter Tryz.func56, Tryz.ntmps56
      go_wp2_with (first | (go_at_call 20; refine (rname_any nm hs _).mono ?_; rw [hnm]; rintro e y ⟨rfl, rfl⟩))
      go_ret
      exact ⟨ret_b (by rw [HR.out]; simp only [Bool.true_or, Bool.or_true, Bool.false_or, Bool.or_self, Bool.and_true, Bool.true_and, Bool.false_and, Bool.and_false, Bool.and_self, if_true, if_false, hnm] <;> (simp; omega)), bl1 _ _⟩
    cases zI
    · skip
      go_enter Tryz.func56, Tryz.ntmps56
      go_wp2_with (first | (go_at_call 20; refine (rname_any nm hs _).mono ?_; rw [hnm]; rintro e y ⟨rfl, rfl⟩))
      go_ret
      exact ⟨ret_b (by rw [HR.out]; simp only [Bool.true_or, Bool.or_true, Bool.false_or, Bool.or_self, Bool.and_true, Bool.true_and, Bool.false_and, Bool.and_false, Bool.and_self, if_true, if_false, hnm] <;> (simp; omega)), bl1 _ _⟩
    by_cases hl0 : lw = 0
    · have hl0' : Hid (decide (ws = []) = true) := decide_eq_true (List.eq_nil_of_length_eq_zero (by omega))
      have hl1 : ((lw : Int) == 0) = true := by simp [hl0]
      clear hl0 hlen
      go_enter Tryz.func56, Tryz.ntmps56
      go_wp2_with (first | (go_at_call 20; refine (rname_any nm hs _).mono ?_; rw [hnm]; rintro e y ⟨rfl, rfl⟩))
      go_ret
      exact ⟨ret_b (by rw [HR.out]; simp only [Bool.true_or, Bool.or_true, Bool.false_or, Bool.or_self, Bool.and_true, Bool.true_and, Bool.false_and, Bool.and_false, Bool.and_self, if_true, if_false, hnm, hl0'.out] <;> (simp; omega)), bl1 _ _⟩
    · have hl0' : Hid (decide (ws = []) = false) := decide_eq_false (fun e => hl0 (by rw [← hlen, e]; rfl))
      have hl1 : ((lw : Int) == 0) = false := by simp [hl0]
      clear hl0 hlen
      go_enter Tryz.func56, Tryz.ntmps56
      go_wp2_with (first | (go_at_call 20; refine (rname_any nm hs _).mono ?_; rw [hnm]; rintro e y ⟨rfl, rfl⟩))
      go_ret
      exact ⟨ret_b (by rw [HR.out]; simp only [Bool.true_or, Bool.or_true, Bool.false_or, Bool.or_self, Bool.and_true, Bool.true_and, Bool.false_and, Bool.and_false, Bool.and_self, if_true, if_false, hnm, hl0'.out] <;> (simp; omega)), bl1 _ _⟩
  have k5 : (k == 5) = false := by simp [hk5]
  have HR : Hid (X.itOk ⟨k, nm.data.toList, op, a, b, n, ws⟩ = false) := by show _ = _; simp [X.itOk, hk1, hk2, hk3, hk4, hk5]
  clear hk1 hk2 hk3 hk4 hk5 hzI hlen
  go_enter Tryz.func56, Tryz.ntmps56
  go_wp2_with fail
  go_ret
  exact ⟨ret_b HR.out.symm, bl1 _ _⟩

set_option maxRecDepth 100000 in
set_option maxHeartbeats 8000000 in
theorem rMay_any {w : World} {al : Option Addr} {l c : Nat} {ts : List X.It} (h : ItsV w al l c ts) :
    Calls Tryz.prog 28 #[.slice al l c] w fun e w' => e = .returned (.bool (X.itsOk ts)) ∧ Below w.heap.size w w' := by
  have H : Hid _ := h
  have hm : l ≤ 9223372036854775807 := by have := h.room; unfold maxLen at this; omega
  have HCT : Hid (ts.length = l) := h.count
  clear h
  go_enter Tryz.func28, Tryz.ntmps28
  go_wp2_with fail
  go_loopg [3] l (fun r iv wq => ∃ (k : Nat), iv = .int .i64 k ∧ k ≤ l ∧ l - k ≤ r ∧ Hid (∀ t ∈ ts.take k, X.itOk t = true) ∧ Hid (Below w.heap.size w wq))
  case atStart => exact ⟨0, rfl, Nat.zero_le _, by omega, (fun t ht => by simp at ht : ∀ t ∈ ts.take 0, X.itOk t = true), Below.refl _ _⟩
  case round =>
    obtain ⟨k, rfl, hk, hr, HAL, HB⟩ := hrel
    by_cases hlt : k < l
    · obtain ⟨b, off, t, aw, lw, cw, rfl, hg, hmem, c0, c1, c2, c3, c4, c5, c6, hi⟩ := (H.out.below HB.out).at hlt
      have hfit := H.out.fit t hmem
      have hcall := fun w => rmay_any t.kind (X.str t.name) t.op t.a t.b t.n aw lw cw t.words hi.count (by rw [str_size]; exact hfit.1) w
      simp only [str_list] at hcall
      have HG : Hid _ := hg
      have HM : Hid _ := hmem
      have hii : (k : Int) < l := by omega
      have hin : 0 ≤ (k : Int) := by omega
      clear hfit hi hg hmem
      obtain ⟨kd, nm, op, a, bb, n, ws⟩ := t
      simp only at c0 c1 c2 c3 c4 c5 hcall
      cases hok : X.itOk ⟨kd, nm, op, a, bb, n, ws⟩
      · rw [hok] at hcall
        have HR : Hid (X.itsOk ts = false) := by show _ = _; rw [Bool.eq_false_iff]; intro e; have := (X.itsOk_iff.1 e).2 _ HM.out; rw [hok] at this; cases this
        go_wp2_with fail
        refine (hcall _).mono ?_
        rintro e y ⟨rfl, hb⟩
        have HB2 : Hid _ := hb
        clear hb hcall c0 c1 c2 c3 c4 c5 c6
        go_wp2_with fail
        go_ret
        exact ⟨ret_b HR.out.symm, HB.out.trans (HB2.out.mono HB.out.size)⟩
      · rw [hok] at hcall
        have HN : Hid (∀ t ∈ ts.take (k + 1), X.itOk t = true) := mem_take HAL.out (by rw [HCT.out]; exact hlt) (by rw [HG.out]; exact hok)
        go_wp2_with fail
        refine (hcall _).mono ?_
        rintro e y ⟨rfl, hb⟩
        have HB2 : Hid _ := hb
        clear hb hcall c0 c1 c2 c3 c4 c5 c6
        go_wp2_with fail
        go_roundg (l - (k + 1))
        case measure => omega
        case rel => exact ⟨k + 1, by go_num, by omega, Nat.le_refl _, HN.out, HB.out.trans (HB2.out.mono HB.out.size)⟩
    · obtain rfl : k = l := by omega
      have hii : ¬ (k : Int) < k := by omega
      by_cases h2 : k ≤ 20000
      · have HR : Hid (X.itsOk ts = true) := X.itsOk_iff.2 ⟨by rw [HCT.out]; omega, fun t ht => HAL.out t (by rw [← HCT.out, List.take_length]; exact ht)⟩
        have h2' : (k : Int) ≤ 20000 := by omega
        go_wp2_with fail
        go_ret
        exact ⟨ret_b HR.out.symm, HB.out⟩
      · have HR : Hid (X.itsOk ts = false) := by show _ = _; rw [Bool.eq_false_iff]; intro e; have := (X.itsOk_iff.1 e).1; rw [HCT.out] at this; omega
        have h2' : ¬ (k : Int) ≤ 20000 := by omega
        go_wp2_with fail
        go_ret
        exact ⟨ret_b HR.out.symm, HB.out⟩

end Go.Proofs.YtgjingleolhkbaaGreatDoor

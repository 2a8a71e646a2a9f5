/- The document's small functions. -/
import Derived.Test.YtgjingleolhkbaaGreatDoorTAb
import Derived.Test.YtgjingleolhkbaaGreatDoorTAe
import Derived.Laws.BytesArg
namespace Go.Proofs.YtgjingleolhkbaaGreatDoor
open Go.RowKit Go.Lib
set_option linter.unusedVariables false
set_option linter.unusedSimpArgs false

set_option maxHeartbeats 4000000 in
theorem rdigit_any (n : Nat) (w : World) :
  Calls Tryz.prog 42 #[.int .u8 n] w fun e w' => e = .returned (.bool (X.dg n)) ∧ w' = w := by
 go_enter Tryz.func42, Tryz.ntmps42
 go_wp2
 all_goals
  go_ret
  exact ⟨ret_b (by rw [Bool.eq_iff_iff]; simp [X.dg]; try omega), rfl⟩
set_option maxHeartbeats 4000000 in
theorem rletter_any (n : Nat) (w : World) :
  Calls Tryz.prog 41 #[.int .u8 n] w fun e w' => e = .returned (.bool (X.lt n)) ∧ w' = w := by
 go_enter Tryz.func41, Tryz.ntmps41
 go_wp2
 all_goals
  go_ret
  exact ⟨ret_b (by rw [Bool.eq_iff_iff]; simp [X.lt]; try omega), rfl⟩
set_option maxHeartbeats 4000000 in
theorem rname_any (s : ByteArray) (hs : s.size ≤ maxLen) (w : World) :
  Calls Tryz.prog 20 #[.string s] w fun e w' => e = .returned (.bool (X.name s.data.toList)) ∧ w' = w := by
 unfold maxLen at hs
 by_cases h0 : s.size < 1
 ·have HR : Hid _ := name_false (.inl h0)
  have h0' : (s.size : Int) < 1 := by omega
  go_enter Tryz.func20, Tryz.ntmps20
  go_wp2
  go_ret
  exact ⟨ret_b HR.out.symm, rfl⟩
 by_cases h1 : 28 < s.size
 ·have HR : Hid _ := name_false (.inr h1)
  go_enter Tryz.func20, Tryz.ntmps20
  go_wp2
  go_ret
  exact ⟨ret_b HR.out.symm, rfl⟩
 have h0' : 0 < s.size := by omega
 cases hf : X.lt s[0].toNat
 ·have HR : Hid _ := name_first h0' hf
  go_enter Tryz.func20, Tryz.ntmps20
  go_wp2_with (go_at_call 41; refine (rletter_any s[0].toNat _).mono ?_; rw [hf]; rintro e w' ⟨rfl, rfl⟩)
  go_ret
  exact ⟨ret_b HR.out.symm, rfl⟩
 have HF : Hid _ := hf
 go_enter Tryz.func20, Tryz.ntmps20
 go_wp2_with (go_at_call 41; refine (rletter_any s[0].toNat _).mono ?_; rw [hf]; rintro e w' ⟨rfl, rfl⟩)
 clear hf
 go_loop [3] (fun i => ∃ (k : Nat), i = .int .i64 k ∧ k ≤ s.size ∧ Hid (∀ j (hj : j < s.size), 1 ≤ j → j < k → X.inn s[j].toNat = true)) (fun i => s.size - (intOf i).toNat)
 case atStart => exact ⟨0, rfl, Nat.zero_le _, (fun j hj h1 h2 => by omega : ∀ j (hj : j < s.size), 1 ≤ j → j < 0 → X.inn s[j].toNat = true)⟩
 case round =>
  obtain ⟨k, rfl, hk, HA⟩ := hrel
  by_cases hlt : k < s.size
  ·have HNO : Hid (X.inn s[k].toNat = false → X.name s.data.toList = false) := fun h => by
    by_cases e : k = 0
    ·subst e
     have h2 := HF.out
     exact name_first h0' (by cases h3 : X.lt s[0].toNat with | false => rfl | true => simp [X.inn, h3] at h)
    ·exact name_byte (by omega) hlt h
   have HYE : Hid (X.inn s[k].toNat = true → ∀ j (hj : j < s.size), 1 ≤ j → j < k + 1 → X.inn s[j].toNat = true) := fun h j hj h1 h2 => by
    by_cases e : j = k
    ·subst e; exact h
    ·exact HA.out j hj h1 (by omega)
   cases h2 : X.lt s[k].toNat
   ·cases h3 : X.dg s[k].toNat
    ·by_cases h4 : s[k].toNat = 46
     ·have h4' : ((s[k].toNat : Int) != 46) = false := by simp; omega
      have HI : Hid (X.inn s[k].toNat = true) := by show _ = _; simp [X.inn, h4]
      clear h4
      go_wp2_with (first | (go_at_call 41; refine (rletter_any s[k].toNat _).mono ?_; rw [h2]; rintro e w' ⟨rfl, rfl⟩) | (go_at_call 42; refine (rdigit_any s[k].toNat _).mono ?_; rw [h3]; rintro e w' ⟨rfl, rfl⟩))
      go_round
      case rel => exact ⟨k + 1, by go_num, by omega, HYE.out HI.out⟩
      case measure => simp [intOf]; omega
     ·have h4' : ((s[k].toNat : Int) != 46) = true := by simp; omega
      have HI : Hid (X.inn s[k].toNat = false) := by show _ = _; simp [X.inn, h2, h3, h4]
      clear h4
      go_wp2_with (first | (go_at_call 41; refine (rletter_any s[k].toNat _).mono ?_; rw [h2]; rintro e w' ⟨rfl, rfl⟩) | (go_at_call 42; refine (rdigit_any s[k].toNat _).mono ?_; rw [h3]; rintro e w' ⟨rfl, rfl⟩))
      go_ret
      exact ⟨ret_b (HNO.out HI.out).symm, rfl⟩
    ·have HI : Hid (X.inn s[k].toNat = true) := by show _ = _; simp [X.inn, h3]
     go_wp2_with (first | (go_at_call 41; refine (rletter_any s[k].toNat _).mono ?_; rw [h2]; rintro e w' ⟨rfl, rfl⟩) | (go_at_call 42; refine (rdigit_any s[k].toNat _).mono ?_; rw [h3]; rintro e w' ⟨rfl, rfl⟩))
     go_round
     case rel => exact ⟨k + 1, by go_num, by omega, HYE.out HI.out⟩
     case measure => simp [intOf]; omega
   ·have HI : Hid (X.inn s[k].toNat = true) := by show _ = _; simp [X.inn, h2]
    go_wp2_with (first | (go_at_call 41; refine (rletter_any s[k].toNat _).mono ?_; rw [h2]; rintro e w' ⟨rfl, rfl⟩) | (go_at_call 42; refine (rdigit_any s[k].toNat _).mono ?_; rintro e w' ⟨rfl, rfl⟩))
    go_round
    case rel => exact ⟨k + 1, by go_num, by omega, HYE.out HI.out⟩
    case measure => simp [intOf]; omega
  ·go_wp2
   go_ret
   obtain rfl : k = s.size := by omega
   exact ⟨ret_b (name_yes (by omega) (by omega) HF.out (fun j hj h => HA.out j hj h hj)).symm, rfl⟩

set_option maxHeartbeats 4000000 in
theorem rfits_any (op n : Int) (w : World) :
  Calls Tryz.prog 99 #[.int .i64 op, .int .i64 n] w fun e w' => e = .returned (.bool (X.numOk op n)) ∧ w' = w := by
 by_cases h1 : op = 1
 ·subst h1
  go_enter Tryz.func99, Tryz.ntmps99
  go_wp2
  all_goals
   go_ret
   exact ⟨ret_b (by simp [X.numOk]), rfl⟩
 ·by_cases h2 : op = 33
  ·subst h2
   go_enter Tryz.func99, Tryz.ntmps99
   go_wp2
   all_goals
    go_ret
    exact ⟨ret_b (by rw [Bool.eq_iff_iff]; simp [X.numOk]; try omega), rfl⟩
  ·have h1' : (op == 1) = false := by simp [h1]
   have h2' : (op == 33) = false := by simp [h2]
   have HR : Hid (X.numOk op n = (decide (-2147483648 ≤ n) && decide (n ≤ 2147483647))) := by show _ = _; simp [X.numOk, h1, h2]
   go_enter Tryz.func99, Tryz.ntmps99
   go_wp2
   all_goals
    go_ret
    exact ⟨ret_b (by rw [HR.out, Bool.eq_iff_iff]; simp; try omega), rfl⟩

theorem has_at {s : ByteArray} {c : Nat} (hc : c < 256) {k : Nat} (hk : k < s.size) (h : s[k].toNat = c) : X.has s.data.toList (UInt8.ofNat c) = true := by
 unfold X.has
 rw [List.contains_iff_mem]
 have h2 := get_list s k hk
 have : s[k] = UInt8.ofNat c := UInt8.toNat_inj.1 (by rw [h, UInt8.toNat_ofNat']; omega)
 rw [← this]
 exact List.mem_of_getElem? h2
theorem has_not {s : ByteArray} {c : Nat} (hc : c < 256) (h : ∀ j (hj : j < s.size), s[j].toNat ≠ c) : X.has s.data.toList (UInt8.ofNat c) = false := by
 unfold X.has
 rw [Bool.eq_false_iff]
 intro h2
 rw [List.contains_iff_mem] at h2
 obtain ⟨j, hj, e⟩ := List.getElem_of_mem h2
 rw [len_list] at hj
 exact h j hj (by
  have e2 : s[j] = UInt8.ofNat c := e
  rw [e2, UInt8.toNat_ofNat']
  omega)
set_option maxHeartbeats 4000000 in
theorem rhas_any (s : ByteArray) (c : Nat) (hc : c < 256) (hs : s.size ≤ maxLen) (w : World) :
  Calls Tryz.prog 100 #[.string s, .int .u8 c] w fun e w' => e = .returned (.bool (X.has s.data.toList (UInt8.ofNat c))) ∧ w' = w := by
 unfold maxLen at hs
 go_enter Tryz.func100, Tryz.ntmps100
 go_wp2_with fail
 go_loop [5] (fun i => ∃ (k : Nat), i = .int .i64 k ∧ k ≤ s.size ∧ Hid (∀ j (hj : j < s.size), j < k → s[j].toNat ≠ c)) (fun i => s.size - (intOf i).toNat)
 case atStart => exact ⟨0, rfl, Nat.zero_le _, (fun j hj h => by omega : ∀ j (hj : j < s.size), j < 0 → s[j].toNat ≠ c)⟩
 case round =>
  obtain ⟨k, rfl, hk, HA⟩ := hrel
  by_cases hlt : k < s.size
  ·by_cases he : s[k].toNat = c
   ·have he' : ((s[k].toNat : Int) == c) = true := by simp [he]
    have HY : Hid _ := has_at hc hlt he
    clear he
    go_wp2_with fail
    go_ret
    exact ⟨ret_b HY.out.symm, rfl⟩
   ·have he' : ((s[k].toNat : Int) == c) = false := by simp; omega
    have HY : Hid (∀ j (hj : j < s.size), j < k + 1 → s[j].toNat ≠ c) := fun j hj h1 => by
     by_cases e : j = k
     ·subst e; exact he
     ·exact HA.out j hj (by omega)
    clear he
    go_wp2_with fail
    go_round
    case rel => exact ⟨k + 1, by go_num, by omega, HY.out⟩
    case measure => simp [intOf]; omega
  ·have hlt' : ¬ (k : Int) < s.size := by omega
   go_wp2_with fail
   go_ret
   exact ⟨ret_b (has_not hc (fun j hj => HA.out j hj (by omega))).symm, rfl⟩

def X.opsR (op : Int) : X.By := if 0 ≤ op ∧ op < 34 then (X.row op.toNat).2.map fun c => if c = 64 then 83 else c else []
set_option maxRecDepth 100000 in
set_option maxHeartbeats 4000000 in
theorem roperands_any (op : Int) (w : World) :
  Calls Tryz.prog 79 #[.int .i64 op] w fun e w' => e = .returned (.string (X.str (X.opsR op))) ∧ w' = w := by
 by_cases h0 : 0 ≤ op ∧ op < 34
 ·obtain ⟨k, rfl⟩ : ∃ k : Nat, op = k := ⟨op.toNat, by omega⟩
  have hk : k < 34 := by omega
  clear h0
  rcases (show k = 0 ∨ k = 1 ∨ k = 2 ∨ k = 3 ∨ k = 4 ∨ k = 5 ∨ k = 6 ∨ k = 7 ∨ k = 8 ∨ k = 9 ∨ k = 10 ∨ k = 11 ∨ k = 12 ∨ k = 13 ∨ k = 14 ∨ k = 15 ∨ k = 16 ∨ k = 17 ∨ k = 18 ∨ k = 19 ∨ k = 20 ∨ k = 21 ∨ k = 22 ∨ k = 23 ∨ k = 24 ∨ k = 25 ∨ k = 26 ∨ k = 27 ∨ k = 28 ∨ k = 29 ∨ k = 30 ∨ k = 31 ∨ k = 32 ∨ k = 33 by omega) with rfl | rfl | rfl | rfl | rfl | rfl | rfl | rfl | rfl | rfl | rfl | rfl | rfl | rfl | rfl | rfl | rfl | rfl | rfl | rfl | rfl | rfl | rfl | rfl | rfl | rfl | rfl | rfl | rfl | rfl | rfl | rfl | rfl | rfl
  all_goals
   go_enter Tryz.func79, Tryz.ntmps79
   go_wp2_with fail
   go_ret
   exact ⟨rfl, rfl⟩
 ·have HR : Hid (X.opsR op = []) := by show _ = _; unfold X.opsR; rw [if_neg h0]
  have e1 : (op == 1) = false := by simp; omega
  have e17 : (op == 17) = false := by simp; omega
  have e18 : (op == 18) = false := by simp; omega
  have e28 : (op == 28) = false := by simp; omega
  have e29 : (op == 29) = false := by simp; omega
  have e19 : (op == 19) = false := by simp; omega
  have e20 : (op == 20) = false := by simp; omega
  have e23 : (op == 23) = false := by simp; omega
  have e21 : (op == 21) = false := by simp; omega
  have e22 : (op == 22) = false := by simp; omega
  have e31 : (op == 31) = false := by simp; omega
  have e33 : (op == 33) = false := by simp; omega
  have h3' : 2 ≤ op → ¬ op ≤ 16 := by omega
  clear h0
  by_cases h2 : 2 ≤ op
  ·have h3 := h3' h2
   clear h3'
   go_enter Tryz.func79, Tryz.ntmps79
   go_wp2_with fail
   go_ret
   exact ⟨by rw [HR.out]; rfl, rfl⟩
  ·clear h3'
   go_enter Tryz.func79, Tryz.ntmps79
   go_wp2_with fail
   go_ret
   exact ⟨by rw [HR.out]; rfl, rfl⟩

end Go.Proofs.YtgjingleolhkbaaGreatDoor

/- The document's words, numbers' texts and registers. -/
namespace Go.Proofs.YtgjingleolhkbaaGreatDoor
open Go.RowKit Go.Lib
set_option linter.unusedVariables false
set_option linter.unusedSimpArgs false

def X.mnem (op : Int) : X.By := if 0 ≤ op ∧ op < 34 then (X.row op.toNat).1 else []
set_option maxRecDepth 100000 in
set_option maxHeartbeats 4000000 in
theorem rmnemonic_any (op : Int) (w : World) :
  Calls Tryz.prog 80 #[.int .i64 op] w fun e w' => e = .returned (.string (X.str (X.mnem op))) ∧ ∃ o, w' = w.alloc o := by
 by_cases h0 : 0 ≤ op ∧ op < 34
 ·obtain ⟨k, rfl⟩ : ∃ k : Nat, op = k := ⟨op.toNat, by omega⟩
  have hk : k < 34 := by omega
  clear h0
  have hk2 : ¬ (34 : Int) ≤ k := by omega
  have hk3 : (k : Int) < 34 := by omega
  have hk0 : ¬ (k : Int) < 0 := by omega
  have hk1 : (0 : Int) ≤ k := by omega
  go_enter Tryz.func80, Tryz.ntmps80
  go_wp2_with fail
  go_ret
  refine ⟨?_, _, rfl⟩
  rcases (show k = 0 ∨ k = 1 ∨ k = 2 ∨ k = 3 ∨ k = 4 ∨ k = 5 ∨ k = 6 ∨ k = 7 ∨ k = 8 ∨ k = 9 ∨ k = 10 ∨ k = 11 ∨ k = 12 ∨ k = 13 ∨ k = 14 ∨ k = 15 ∨ k = 16 ∨ k = 17 ∨ k = 18 ∨ k = 19 ∨ k = 20 ∨ k = 21 ∨ k = 22 ∨ k = 23 ∨ k = 24 ∨ k = 25 ∨ k = 26 ∨ k = 27 ∨ k = 28 ∨ k = 29 ∨ k = 30 ∨ k = 31 ∨ k = 32 ∨ k = 33 by omega) with rfl | rfl | rfl | rfl | rfl | rfl | rfl | rfl | rfl | rfl | rfl | rfl | rfl | rfl | rfl | rfl | rfl | rfl | rfl | rfl | rfl | rfl | rfl | rfl | rfl | rfl | rfl | rfl | rfl | rfl | rfl | rfl | rfl | rfl <;> rfl
 ·have HR : Hid (X.mnem op = []) := by show _ = _; unfold X.mnem; rw [if_neg h0]
  by_cases h1 : op < 0
  ·clear h0
   go_enter Tryz.func80, Tryz.ntmps80
   go_wp2_with fail
   go_ret
   exact ⟨by rw [HR.out]; rfl, _, rfl⟩
  ·have h2 : 34 ≤ op := by omega
   clear h0
   go_enter Tryz.func80, Tryz.ntmps80
   go_wp2_with fail
   go_ret
   exact ⟨by rw [HR.out]; rfl, _, rfl⟩

theorem strNums_eqW (l : X.By) : strOfNums (l.map fun c => (c.toNat : Int)) = X.str l := by
 refine bytes_ext' ?_
 rw [str_list]
 unfold strOfNums
 simp
 conv => rhs; rw [← List.map_id l]
 refine List.map_congr_left fun c hc => ?_
 simp
def byW (c : UInt8) : Value := .int .u8 c.toNat
theorem conv_rowW {w : World} {g n cap : Nat} {l : X.By} (hn : l.length = n) (h : ∀ j u, (l.map byW)[j]? = some u → w.cell? ⟨g, j, none⟩ = some u) : (convert 65 9 (.slice (some ⟨g, 0, none⟩) n cap)).run Tryz.prog w = .ok (.string (X.str l)) w := by
 have h1 := run_convert_bytes_arg (P := Tryz.prog) w 65 5 Tryz.underlying65 Tryz.underlying5 g 0 n cap (l.map fun c => (c.toNat : Int)) (by simpa using hn) (fun i hi => by
  rw [Nat.zero_add]
  have hi' : i < l.length := by omega
  have e1 : (l.map fun c => (c.toNat : Int)).getD i 0 = (l[i].toNat : Int) := by simp [List.getD, hi']
  rw [e1]
  exact h i _ (by simp [byW, hi'])) 9 Tryz.underlying9
 rw [h1, strNums_eqW]
theorem conv1 (W : World) (x : Nat) (hx : x < 256) : (convert 65 9 (.slice (some ⟨W.heap.size, 0, none⟩) 1 1)).run Tryz.prog (W.alloc (.cells #[.int .u8 x] 5)) = .ok (.string (X.str [UInt8.ofNat x])) (W.alloc (.cells #[.int .u8 x] 5)) :=
 conv_rowW rfl (fun j u hu => by
  refine row_cell ?_
  have e : byW (UInt8.ofNat x) = .int .u8 x := by unfold byW; rw [UInt8.toNat_ofNat']; congr 1; omega
  rw [List.map_cons, List.map_nil, e] at hu
  simpa using hu)
end Go.Proofs.YtgjingleolhkbaaGreatDoor

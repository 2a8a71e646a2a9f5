/- The document's words, numbers' texts and registers. -/
import Derived.Test.YtbkjiipelmfbjaaGreatDoorAsRefA
namespace Go.Proofs.YtbkjiipelmfbjaaGreatDoor
open Go.RowKit Go.Lib
set_option linter.unusedVariables false
set_option linter.unusedSimpArgs false

theorem ret_s {a b : ByteArray} (h : a.data.toList = b.data.toList) : Ending.returned (.string a) = .returned (.string b) := by rw [bytes_ext' h]
/-- The document's word for an instruction. -/
def X.mnem (op : Int) : X.By := if 0 ≤ op ∧ op < 34 then (X.row op.toNat).1 else []
set_option maxRecDepth 100000 in
set_option maxHeartbeats 4000000 in
theorem rmnemonic_any (op : Int) (w : World) :
    Calls Tryz.prog 40 #[.int .i64 op] w fun e w' => e = .returned (.string (X.str (X.mnem op))) ∧ ∃ o, w' = w.alloc o := by
  by_cases h0 : 0 ≤ op ∧ op < 34
  · obtain ⟨k, rfl⟩ : ∃ k : Nat, op = k := ⟨op.toNat, by omega⟩
    have hk : k < 34 := by omega
    clear h0
    have hk2 : ¬ (34 : Int) ≤ k := by omega
    have hk3 : (k : Int) < 34 := by omega
    have hk0 : ¬ (k : Int) < 0 := by omega
    have hk1 : (0 : Int) ≤ k := by omega
    go_enter Tryz.func40, Tryz.ntmps40
    go_wp2_with fail
    go_ret
    refine ⟨?_, _, rfl⟩
    rcases (show k = 0 ∨ k = 1 ∨ k = 2 ∨ k = 3 ∨ k = 4 ∨ k = 5 ∨ k = 6 ∨ k = 7 ∨ k = 8 ∨ k = 9 ∨ k = 10 ∨ k = 11 ∨ k = 12 ∨ k = 13 ∨ k = 14 ∨ k = 15 ∨ k = 16 ∨ k = 17 ∨ k = 18 ∨ k = 19 ∨ k = 20 ∨ k = 21 ∨ k = 22 ∨ k = 23 ∨ k = 24 ∨ k = 25 ∨ k = 26 ∨ k = 27 ∨ k = 28 ∨ k = 29 ∨ k = 30 ∨ k = 31 ∨ k = 32 ∨ k = 33 by omega) with rfl | rfl | rfl | rfl | rfl | rfl | rfl | rfl | rfl | rfl | rfl | rfl | rfl | rfl | rfl | rfl | rfl | rfl | rfl | rfl | rfl | rfl | rfl | rfl | rfl | rfl | rfl | rfl | rfl | rfl | rfl | rfl | rfl | rfl <;> rfl
  · have HR : Hid (X.mnem op = []) := by show _ = _; unfold X.mnem; rw [if_neg h0]
    by_cases h1 : op < 0
    · clear h0
      go_enter Tryz.func40, Tryz.ntmps40
      go_wp2_with fail
      go_ret
      exact ⟨by rw [HR.out]; rfl, _, rfl⟩
    · have h2 : 34 ≤ op := by omega
      clear h0
      go_enter Tryz.func40, Tryz.ntmps40
      go_wp2_with fail
      go_ret
      exact ⟨by rw [HR.out]; rfl, _, rfl⟩

def X.decD (u : Nat) : X.By := if u = 0 then [] else decDigits u
theorem decD_step {u : Nat} (h : 0 < u) : X.decD u = X.decD (u / 10) ++ [UInt8.ofNat (48 + u % 10)] := by
  unfold X.decD
  rw [if_neg (by omega), decDigits]
  by_cases h1 : u < 10
  · rw [dif_pos h1, if_pos (by omega), Nat.mod_eq_of_lt h1]
    rfl
  · rw [dif_neg h1, if_neg (by omega)]
theorem strNums_eq (l : X.By) : strOfNums (l.map fun c => (c.toNat : Int)) = X.str l := by
  refine bytes_ext' ?_
  rw [str_list]
  unfold strOfNums
  simp
  conv => rhs; rw [← List.map_id l]
  refine List.map_congr_left fun c hc => ?_
  simp
def byV (c : UInt8) : Value := .int .u8 c.toNat
theorem conv_row {w : World} {g n cap : Nat} {l : X.By} (hn : l.length = n) (h : ∀ j u, (l.map byV)[j]? = some u → w.cell? ⟨g, j, none⟩ = some u) : (convert 45 9 (.slice (some ⟨g, 0, none⟩) n cap)).run Tryz.prog w = .ok (.string (X.str l)) w := by
  have h1 := run_convert_bytes_arg (P := Tryz.prog) w 45 5 Tryz.underlying45 Tryz.underlying5 g 0 n cap (l.map fun c => (c.toNat : Int)) (by simpa using hn) (fun i hi => by
    rw [Nat.zero_add]
    have hi' : i < l.length := by omega
    have e1 : (l.map fun c => (c.toNat : Int)).getD i 0 = (l[i].toNat : Int) := by simp [List.getD, hi']
    rw [e1]
    exact h i _ (by simp [byV, hi'])) 9 Tryz.underlying9
  rw [h1, strNums_eq]
theorem conv1 (W : World) (x : Nat) (hx : x < 256) : (convert 45 9 (.slice (some ⟨W.heap.size, 0, none⟩) 1 1)).run Tryz.prog (W.alloc (.cells #[.int .u8 x] 5)) = .ok (.string (X.str [UInt8.ofNat x])) (W.alloc (.cells #[.int .u8 x] 5)) :=
  conv_row rfl (fun j u hu => by
    refine row_cell ?_
    have e : byV (UInt8.ofNat x) = .int .u8 x := by unfold byV; rw [UInt8.toNat_ofNat']; congr 1; omega
    rw [List.map_cons, List.map_nil, e] at hu
    simpa using hu)
end Go.Proofs.YtbkjiipelmfbjaaGreatDoor

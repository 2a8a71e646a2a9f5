/- A region's addresses, one behind the other: no walk. -/
import Derived.Test.YtoebndapeagmgaaMemStays
import Derived.Test.YtoebndapeagmgaaMemFar
namespace Go.Proofs.Ytoebndapeagmgaa
open Go.RowKit Go.Maps
set_option linter.unusedVariables false

/-- The first n addresses of a region. -/
def adrs (b : Int) (n : Nat) : List Int := (List.range n).map fun (j : Nat) => b + 8 * (j : Int)
theorem adrs_succ (b : Int) (n : Nat) : adrs b (n + 1) = adrs b n ++ [b + 8 * (n : Int)] := by
  unfold adrs
  rw [List.range_succ, List.map_append]
  rfl
theorem adrs_len (b : Int) (n : Nat) : (adrs b n).length = n := by simp [adrs]
theorem adrs_ris (b : Int) (n : Nat) : M.Ris (adrs b n) (· ∈ adrs b n) := by
  refine ⟨?_, fun x => Iff.rfl⟩
  unfold adrs
  rw [List.pairwise_map]
  exact List.pairwise_lt_range.imp (fun h => by omega)
theorem ris_adrs {L : List Int} {b : Int} {n : Nat} (h : M.Ris L (· ∈ adrs b n)) : L.length = n := by
  rw [M.ris_unique h (adrs_ris b n) (fun x => Iff.rfl), adrs_len]

theorem may_olap {rs : List Reg} (h : may rs = true) {i k : Nat} (hi : i < rs.length) (hk : k < i) : olap (rs.getD i noReg) (rs.getD k noReg) = false := by
  unfold may at h
  simp only [Bool.and_eq_true, decide_eq_true_eq, List.all_eq_true, List.mem_range] at h
  have := h.2 i hi
  unfold okAt at this
  simp only [Bool.and_eq_true, List.all_eq_true, List.mem_range] at this
  simpa using this.2 k hk
theorem loc_of {rs : List Reg} (h : may rs = true) {i j : Nat} (hi : i < rs.length) (hj : j < (rs.getD i noReg).words.length) : Loc rs ((rs.getD i noReg).base + 8 * (j : Int)) i j := by
  have hr := (may_allok h).2 i hi
  have hb := regOk_bd _ hr
  have ht : (rs.getD i noReg).base.tmod 8 = 0 := by
    unfold regOk at hr
    simp only [Bool.and_eq_true, decide_eq_true_eq] at hr
    exact hr.1.1.1
  refine ⟨?_, hi, ?_, fun k hk => ?_, by omega, hj⟩
  · rw [Int.tmod_eq_emod_of_nonneg (by omega)] at *
    omega
  · unfold inReg
    simp only [Bool.and_eq_true, decide_eq_true_eq]
    omega
  · have ho := may_olap h hi hk
    unfold olap at ho
    unfold inReg
    simp only [Bool.and_eq_false_iff, decide_eq_false_iff_not] at *
    omega
theorem adr_wf {b : Int} {k : Nat} (h0 : 0 ≤ b) (h1 : b ≤ 1099511627776) (hk : k ≤ 65536) : (Lit.int .i64 (b + 8 * (k : Int))).wf = true := by
  simp [Lit.wf, IntKind.min, IntKind.max, IntKind.signed, IntKind.bits]
  omega

/-- A block of words, through what leaves it alone. -/
theorem far_heap {w w' : World} {k b : Nat} {o : Obj} (hf : Far w w' k) (h : w.heap[b]? = some o) (hne : b ≠ k) : w'.heap[b]? = some o :=
  (hf b (Array.getElem?_eq_some_iff.1 h).1 hne).trans h
theorem heap_lt {w : World} {b : Nat} {o : Obj} (h : w.heap[b]? = some o) : b < w.heap.size := (Array.getElem?_eq_some_iff.1 h).1

end Go.Proofs.Ytoebndapeagmgaa

/- Places as keys of a map. -/
import Derived.Test.YtafdjmccgijmnaaHiFindM
import Derived.DeepKeys4
namespace Go.Proofs.Ytafdjmccgijmnaa
open Go.RowKit A Go.Maps
set_option linter.unusedVariables false
set_option linter.unusedSimpArgs false
theorem rowPl : (91 : TypeId) < Try.prog.types.size := of_decide_eq_true (by kernel_rfl)
theorem laidP : laidOutB Try.prog = true := by kernel_rfl
theorem widePl : (match Try.prog.underlying 91 with | some (.array _ _) | some (.struct _) => true | _ => false) = true := by rw [Try.underlying91]
theorem kt3Pl : Try.prog.keyTypeAt 3 91 = true := by kernel_rfl
set_option maxRecDepth 100000 in
theorem lawPl : Keyed Try.prog 91 := Keyed.of_law (deep_law_laid laidP (m := 3) (by omega) rowPl kt3Pl widePl)
theorem ktPl : Try.prog.keyType 91 = true := by kernel_rfl
theorem cellsPl : Try.prog.cellsOf 91 = 11 := by kernel_rfl
theorem cellsSet : Try.prog.cellsOf 77 = 1 := by kernel_rfl
theorem cellsInt : Try.prog.cellsOf 3 = 1 := by kernel_rfl
theorem cells64 : Try.prog.cellsOf 2 = 1 := by kernel_rfl
theorem cellsArr : Try.prog.cellsOf 89 = 8 := by kernel_rfl
theorem typesPl : 2 ≤ Try.prog.types.size := of_decide_eq_true (by kernel_rfl)
theorem litsI (D : Nat) {t : TypeId} {q : IntKind} (ht : Try.prog.underlying t = some (.int q)) {n : Int} (hn : (Lit.int q n).wf = true) : Try.prog.keyLits (D + 1) t [.int q n] = some [.int q n] := by
  simp [Program.keyLits, ht, hn]
theorem litsA (D : Nat) (zs : List Int) (hz : ∀ j, (Lit.int .i64 (zs.getD j 0)).wf = true) : (Try.prog.keyLits (D + 2) 89 [.int .i64 (zs.getD 0 0), .int .i64 (zs.getD 1 0), .int .i64 (zs.getD 2 0), .int .i64 (zs.getD 3 0), .int .i64 (zs.getD 4 0), .int .i64 (zs.getD 5 0), .int .i64 (zs.getD 6 0), .int .i64 (zs.getD 7 0)]).isSome = true := by
  have hI := fun j => litsI D Try.underlying2 (hz j)
  unfold Program.keyLits
  rw [Try.underlying89]
  simp only [cellsArr, cells64, List.range, List.range.loop, List.mapM_cons, List.mapM_nil, Nat.zero_mul, Nat.one_mul, Nat.reduceMul, Nat.mul_one, List.drop_zero, List.drop_succ_cons, List.take_succ_cons, List.take_zero, hI, List.length_cons, List.length_nil]
  rw [if_pos trivial]
  rfl
theorem litsP (D : Nat) {d : Nat} {ow ct : Int} {zs : List Int} (hd : (Lit.int .u64 d).wf = true) (ho : (Lit.int .i64 ow).wf = true) (hc : (Lit.int .i64 ct).wf = true) (hz : ∀ j, (Lit.int .i64 (zs.getD j 0)).wf = true) : (Try.prog.keyLits (D + 3) 91 (H.pcs d ow ct zs)).isSome = true := by
  obtain ⟨l, hl⟩ := Option.isSome_iff_exists.1 (litsA D zs hz)
  have h1 := litsI (D + 1) Try.underlying77 hd
  have h2 := litsI (D + 1) Try.underlying3 ho
  have h3 := litsI (D + 1) Try.underlying3 hc
  unfold Program.keyLits
  rw [Try.underlying91]
  simp only [H.pcs, cellsPl, cellsArr, cellsSet, cellsInt, List.mapM_cons, List.mapM_nil, List.drop_zero, List.drop_succ_cons, List.take_succ_cons, List.take_zero, hl, h1, h2, h3, List.length_cons, List.length_nil]
  rw [if_pos ⟨trivial, by simp⟩]
  rfl
theorem formedPl (cs : List Value) (h : cs.length = 11) : (Value.agg cs.toArray).formed Try.prog 91 = true := by simp [Value.formed, Try.underlying91, cellsPl, h]
theorem keyPl {d : Nat} {ow ct : Int} {zs : List Int} (hd : (Lit.int .u64 d).wf = true) (ho : (Lit.int .i64 ow).wf = true) (hc : (Lit.int .i64 ct).wf = true) (hz : ∀ j, (Lit.int .i64 (zs.getD j 0)).wf = true) : ∃ kl, keyOf Try.prog 91 (.agg (H.pcs d ow ct zs).toArray) = some kl := by
  have h := litsP (Try.prog.types.size - 2) hd ho hc hz
  rw [show Try.prog.types.size - 2 + 3 = Try.prog.types.size + 1 by have := typesPl; omega] at h
  obtain ⟨l, hl⟩ := Option.isSome_iff_exists.1 h
  refine ⟨.string (keyBytes l), ?_⟩
  unfold keyOf
  rw [Try.underlying91]
  simp only [ktPl, formedPl _ (show (H.pcs d ow ct zs).length = 11 from rfl), Bool.and_self, if_true]
  show Option.map _ (Try.prog.keyLits (Try.prog.types.size + 1) 91 (H.pcs d ow ct zs)) = _
  rw [hl]
  rfl
theorem wf_get {zs : List Int} (h : ∀ z ∈ zs, (Lit.int .i64 z).wf = true) (j : Nat) : (Lit.int .i64 (zs.getD j 0)).wf = true := by
  by_cases e : j < zs.length
  · exact h _ (by simp [List.getD, e])
  · have : zs.getD j 0 = 0 := by simp [List.getD, e]
    rw [this]; decide
theorem wf_nat {n : Nat} (h : n ≤ 8) : (Lit.int .i64 n).wf = true := by
  rcases (show n = 0 ∨ n = 1 ∨ n = 2 ∨ n = 3 ∨ n = 4 ∨ n = 5 ∨ n = 6 ∨ n = 7 ∨ n = 8 by omega) with rfl | rfl | rfl | rfl | rfl | rfl | rfl | rfl | rfl <;> decide
theorem key_pof {d : Nat} {s : List At} (hd : d < 2 ^ 60) (hs : ∀ x ∈ s, AtFit x) (hm : mayAll s = true) : ∃ kl, keyOf Try.prog 91 (.agg (H.pof d s).toArray) = some kl := by
  have hdw : (Lit.int .u64 d).wf = true := by simp [Lit.wf, IntKind.min, IntKind.max, IntKind.signed, IntKind.bits]; omega
  match s, hs, hm with
  | [], _, _ => exact keyPl hdw (by decide) (by decide) (fun j => wf_get (by simp) j)
  | x :: r, hs, hm =>
    have hf := hs x (by simp)
    have hi := H.may_len hm (k := 0) (by simp)
    exact keyPl hdw hf.2.2.1 (wf_nat hi) (fun j => wf_get hf.2.2.2 j)
end Go.Proofs.Ytafdjmccgijmnaa

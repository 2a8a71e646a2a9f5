/- The document's machine: what its step comes to. No walk. -/
import Derived.Test.YtneclfaamgfoeaaDoorEBe
namespace Go.Proofs.YtneclfaamgfoeaaDoor
open Go.RowKit
set_option linter.unusedVariables false

namespace T
theorem th_setC {M : Mach} {k : Nat} (hk : k < M.ts.length) (d : S.C) : (setC M k d).th k = ⟨d, (M.th k).ws⟩ := th_put hk _ _
theorem setC_setC {M : Mach} {k : Nat} (hk : k < M.ts.length) (d e : S.C) : setC (setC M k d) k e = setC M k e := by
  show Mach.put (setC M k d) k (setC M k d).mem ⟨e, ((setC M k d).th k).ws⟩ = _
  rw [th_setC hk]
  exact put_put _ _ _ _ _ _
theorem ansE_setC {M : Mach} {k : Nat} (hk : k < M.ts.length) (d : S.C) (q : S.Q) : ansE (setC M k d) k q = ansE M k q := by
  unfold ansE ld
  rw [th_setC hk]
  rfl
theorem ansN_setC {M : Mach} {k : Nat} (hk : k < M.ts.length) (d : S.C) (q : S.Q) : ansN (setC M k d) k q = ansN M k q := by
  unfold ansN ld drain
  rw [th_setC hk]
  rfl
theorem ansMem_setC {M : Mach} {k : Nat} (hk : k < M.ts.length) (d : S.C) (q : S.Q) : ansMem (setC M k d) k q = ansMem M k q := by
  unfold ansMem fullMem leave
  rw [th_setC hk]
  cases (M.th k).ws <;> rfl
theorem ansW_setC {M : Mach} {k : Nat} (hk : k < M.ts.length) (d : S.C) (q : S.Q) : ansW (setC M k d) k q = ansW M k q := by
  unfold ansW
  rw [th_setC hk]
  rfl
theorem setC_ansM {M : Mach} {k : Nat} (hk : k < M.ts.length) (c : S.C) (q : S.Q) : setC (ansM M k q) k c = ⟨M.code, ansMem M k q, M.ts.set k ⟨c, ansW M k q⟩, ansEs M k q⟩ := by
  have h1 := ansM_eq hk q
  have h3 : (ansM M k q).th k = ⟨(M.th k).c, ansW M k q⟩ := by
    rw [h1]; unfold Mach.th; simp [List.getD, hk]
  unfold setC
  rw [h3, h1, put_eq]
  simp only [List.set_set]
theorem setC_ans {M : Mach} {k : Nat} (hk : k < M.ts.length) (d c : S.C) (q : S.Q) : setC (ansM (setC M k d) k q) k c = setC (ansM M k q) k c := by
  have hk1 : k < (setC M k d).ts.length := by rw [len_setC]; exact hk
  rw [setC_ansM hk1, setC_ansM hk, ansMem_setC hk, ansW_setC hk]
  show (⟨M.code, ansMem M k q, (M.ts.set k _).set k _, ansEs (setC M k d) k q⟩ : Mach) = _
  rw [List.set_set]
  rfl
theorem len_ans {M : Mach} {k : Nat} (hk : k < M.ts.length) (c : S.C) (q : S.Q) : (setC (ansM M k q) k c).ts.length = M.ts.length := by
  rw [setC_ansM hk]
  exact List.length_set
theorem es_ans {M : Mach} {k : Nat} (hk : k < M.ts.length) (c : S.C) (q : S.Q) : (setC (ansM M k q) k c).es.length ≤ M.es.length + 1 := by
  rw [setC_ansM hk]
  show (ansEs M k q).length ≤ _
  unfold ansEs
  split
  · simp
  · omega
end T

end Go.Proofs.YtneclfaamgfoeaaDoor

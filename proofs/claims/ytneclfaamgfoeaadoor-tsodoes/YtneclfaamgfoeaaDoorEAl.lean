/- The thread behind an instruction, but for what memory has still to answer: StepTurnedD. -/
import Derived.Test.YtneclfaamgfoeaaDoorEAg
import Derived.Test.YtneclfaamgfoeaaDoorEAh
import Derived.Deep.RegionHeld3
import Derived.Deep.DrawnRows
namespace Go.Proofs.YtneclfaamgfoeaaDoor
open Go.RowKit
set_option linter.unusedVariables false
attribute [local go_sem ↓] Go.wp_at_zero Go.wp_at_succ

set_option maxHeartbeats 4000000 in
theorem turned_comp (c : S.C) (op : Int) (h : 3 ≤ op ∧ op ≤ 16) (a b : Nat) (ha : a < 8) (hb : b < 8) (n next : Int) (w : World) :
    Calls Tryd.prog 76 #[c.v, S.insV op a b n, .int .i64 next, .func (.func 75) #[.agg c.regs] #[]] w fun e w' => e = .returned (S.turned c op a b n next).v ∧ Below w.heap.size w w' := by
  rw [S.turned_comp h]
  obtain ⟨h3, h16⟩ := h
  obtain ⟨d, hd⟩ : ∃ d, S.computed c op a b next = d := ⟨_, rfl⟩
  have HD : Hid (S.computed c op a b next = d) := hd
  rw [hd]
  clear hd
  go_enter Tryd.func76, Tryd.ntmps76
  go_wp2_with (go_at_call 94; refine (computed_any c _ _ _ ?_ ?_ _ _ _).mono ?_; assumption; assumption; rintro e w1 ⟨rfl, hb1⟩; rw [HD.out]; obtain ⟨hc, hf⟩ := bcell hb1)
  refine bodyPost_ret (v := d.v) (by simp [results, Tryd.results76, go_sem, hc]) rfl ⟨rfl, ?_⟩
  repeat (refine Below.setCell ?_ (by simp; omega) _)
  exact (bl3 _ _ _ _).trans (hb1.mono (by simp; omega))

end Go.Proofs.YtneclfaamgfoeaaDoor

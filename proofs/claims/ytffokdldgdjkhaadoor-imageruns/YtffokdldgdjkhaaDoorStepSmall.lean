/- step's small functions, and Finish. -/
import Derived.Test.YtffokdldgdjkhaaDoorProg
import Derived.Test.YtffokdldgdjkhaaDoorStepMath
import Derived.WalkKit
import Derived.WalkSpells
import Derived.WalkLawsBesides
import Derived.Below
namespace Go.Proofs.YtffokdldgdjkhaaDoor
open Go.RowKit

theorem ret_bool {a b : Bool} (h : a = b) : Ending.returned (.bool a) = .returned (.bool b) := by rw [h]




theorem bcell {W w1 : World} (hb : Below W.heap.size W w1) : (∀ b o, b < W.heap.size → w1.cell? ⟨b, o, none⟩ = W.cell? ⟨b, o, none⟩) ∧ (∀ b o, b < W.heap.size → w1.frozen? ⟨b, o, none⟩ = W.frozen? ⟨b, o, none⟩) :=
  ⟨fun b o h => hb.cell (p := ⟨b, o, none⟩) h, fun b o h => hb.frozen (p := ⟨b, o, none⟩) h⟩

theorem bl1 (w : World) (x : Obj) : Below w.heap.size w (w.alloc x) := (Below.refl _ _).alloc (Nat.le_refl _) _
theorem bl2 (w : World) (x y : Obj) : Below w.heap.size w ((w.alloc x).alloc y) := (bl1 w x).alloc (by simp) _
theorem bl3 (w : World) (x y z : Obj) : Below w.heap.size w (((w.alloc x).alloc y).alloc z) := (bl2 w x y).alloc (by simp; omega) _
theorem bl4 (w : World) (x y z u : Obj) : Below w.heap.size w ((((w.alloc x).alloc y).alloc z).alloc u) := (bl3 w x y z).alloc (by simp; omega) _
theorem bl5 (w : World) (x y z u v : Obj) : Below w.heap.size w (((((w.alloc x).alloc y).alloc z).alloc u).alloc v) := (bl4 w x y z u).alloc (by simp; omega) _




set_option maxHeartbeats 1000000 in
theorem rtrapped_any (c : S.C) (n : Int) (w : World) :
    Calls Tryd.prog 56 #[c.v, .int .i64 n] w fun e w' => e = .returned { c with st := 2, tr := n }.v ∧ w' = (w.alloc (.cells #[.int .i64 c.r0, .int .i64 c.r1, .int .i64 c.r2, .int .i64 c.r3, .int .i64 c.r4, .int .i64 c.r5, .int .i64 c.r6, .int .i64 c.r7, .int .i64 c.pc, .int .i64 2, .int .i64 n] 43)).alloc (.cells #[.int .i64 c.r0, .int .i64 c.r1, .int .i64 c.r2, .int .i64 c.r3, .int .i64 c.r4, .int .i64 c.r5, .int .i64 c.r6, .int .i64 c.r7, .int .i64 c.pc, .int .i64 2, .int .i64 n] 43) := by
  go_enter Tryd.func56, Tryd.ntmps56
  go_wp2
  exact bodyPost_ret (v := { c with st := 2, tr := n }.v) (by simp [results, Tryd.results56, go_sem]) rfl ⟨rfl, rfl⟩
end Go.Proofs.YtffokdldgdjkhaaDoor

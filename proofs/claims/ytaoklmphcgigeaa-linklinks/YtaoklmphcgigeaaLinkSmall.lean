/- The linker's small functions. -/
import Derived.Test.YtaoklmphcgigeaaLinkMath
import Derived.OwnWalk
import Derived.Deep.LoopGhost
import Derived.Deep.QuietTactic
import Derived.BigQuiet
namespace Go.Proofs.Ytaoklmphcgigeaa
open Go.RowKit
set_option linter.unusedVariables false
set_option linter.unusedSimpArgs false

theorem ret_bL {a b : Bool} (h : a = b) : Ending.returned (.bool a) = .returned (.bool b) := by rw [h]

set_option maxHeartbeats 4000000 in
theorem fit_any (z : L.Sz) (w : World) :
    Calls Try.prog 22 #[.agg #[.int .i64 z.b, .int .i64 z.d, .int .i64 z.s, .int .i64 z.t]] w fun e w' => e = .returned (.bool (L.fit z)) ∧ Below w.heap.size w w' := by
  go_enter Try.func22, Try.ntmps22
  go_wp2
  all_goals
    go_ret
    refine ⟨ret_bL ?_, (Below.refl _ _).alloc (Nat.le_refl _) _⟩
    unfold L.fit
    rw [Bool.eq_iff_iff]
    simp
    omega

set_option maxHeartbeats 4000000 in
theorem moved_any (z : L.Sz) (s : Sym) (code : ByteArray) {a1 a2 a3 : Option Addr} {l1 c1 l2 c2 l3 c3 : Nat} (h1 : 0 ≤ s.pos) (h2 : s.pos + z.b < 9223372036854775807) (h3 : s.pos + z.d < 9223372036854775807) (w : World) :
    Calls Try.prog 36 #[.agg #[.int .i64 z.b, .int .i64 z.d, .int .i64 z.s, .int .i64 z.t, .string code, .slice a1 l1 c1, .slice a2 l2 c2, .slice a3 l3 c3], .agg #[.string s.name, .int .i64 s.kind, .int .i64 s.pos]] w fun e w' =>
      e = .returned (.agg #[.string (L.moved z s).name, .int .i64 (L.moved z s).kind, .int .i64 (L.moved z s).pos]) ∧ Below w.heap.size w w' := by
  have bl3 : ∀ x y u : Obj, Below w.heap.size w (((w.alloc x).alloc y).alloc u) := fun x y u => (((Below.refl _ _).alloc (Nat.le_refl _) _).alloc (by simp) _).alloc (by simp; omega) _
  by_cases hk : s.kind = 2
  · have hd : (s.kind == 2) = true := by simpa using hk
    go_enter Try.func36, Try.ntmps36
    go_wp2
    exact bodyPost_ret (v := .agg #[.string s.name, .int .i64 s.kind, .int .i64 (s.pos + z.d)]) (by simp [results, Try.results36, go_sem, hk]) rfl ⟨by simp [L.moved, hk], bl3 _ _ _⟩
  · have hd : (s.kind == 2) = false := by simpa using hk
    go_enter Try.func36, Try.ntmps36
    go_wp2
    exact bodyPost_ret (v := .agg #[.string s.name, .int .i64 s.kind, .int .i64 (s.pos + z.b)]) (by simp [results, Try.results36, go_sem]) rfl ⟨by simp [L.moved, hk], bl3 _ _ _⟩
end Go.Proofs.Ytaoklmphcgigeaa

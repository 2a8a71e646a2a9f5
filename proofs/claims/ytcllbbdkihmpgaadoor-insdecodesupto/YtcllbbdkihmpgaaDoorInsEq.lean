/- Two instructions, held against each other. -/
import Derived.Test.YtcllbbdkihmpgaaDoorInsForm
import Derived.Laws.StructEq
namespace Go.Proofs.YtcllbbdkihmpgaaDoor
open Go.RowKit

/-- Are two instructions the same? -/
def I.same (op a b n op' a' b' n' : Int) : Bool := decide (op = op' ∧ a = a' ∧ b = b' ∧ n = n')
theorem I.same_self (op a b n : Int) : I.same op a b n op a b n = true := by simp [I.same]

theorem eqIns (op a b n op' a' b' n' : Int) (w : World) : (Op.equalIn 10000 23 (.agg #[.int .i64 op, .int .i64 a, .int .i64 b, .int .i64 n]) (.agg #[.int .i64 op', .int .i64 a', .int .i64 b', .int .i64 n'])).run Tryd.prog w = .ok (I.same op a b n op' a' b' n') w := by
  unfold I.same
  by_cases h1 : op = op'
  · subst h1
    by_cases h2 : a = a'
    · subst h2
      by_cases h3 : b = b'
      · subst h3
        by_cases h4 : n = n'
        · subst h4
          go_simp
        · go_simp
      · go_simp
    · go_simp
  · go_simp

end Go.Proofs.YtcllbbdkihmpgaaDoor

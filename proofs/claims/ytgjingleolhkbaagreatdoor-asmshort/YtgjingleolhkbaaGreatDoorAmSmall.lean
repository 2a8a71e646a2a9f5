/- What kinds of items are. -/
import Derived.Test.YtgjingleolhkbaaGreatDoorAmMath
import Derived.Test.YtgjingleolhkbaaGreatDoorAsChk
import Derived.Test.YtgjingleolhkbaaGreatDoorAsBox
import Derived.Maps.Own
import Derived.Maps.OwnOps
import Derived.Maps.OwnSet
namespace Go.Proofs.YtgjingleolhkbaaGreatDoor
open Go.RowKit Go.Maps
set_option linter.unusedVariables false
set_option linter.unusedSimpArgs false

theorem shortOf_any (op : Int) (w : World) : Calls Tryz.prog 70 #[.int .i64 op] w fun e w' => e = .returned (.int .i64 (Z.shortOf op)) ∧ w' = w := by
  rcases (show op = 20 ∨ op = 21 ∨ op = 22 ∨ (¬ op = 20 ∧ ¬ op = 21 ∧ ¬ op = 22) by omega) with rfl | rfl | rfl | ⟨h1, h2, h3⟩
  · go_enter Tryz.func70, Tryz.ntmps70
    go_wp2
    go_ret
    exact ⟨rfl, rfl⟩
  · go_enter Tryz.func70, Tryz.ntmps70
    go_wp2
    go_ret
    exact ⟨rfl, rfl⟩
  · go_enter Tryz.func70, Tryz.ntmps70
    go_wp2
    go_ret
    exact ⟨rfl, rfl⟩
  · have HR : Hid (Z.shortOf op = 0) := by show _ = _; unfold Z.shortOf; rw [if_neg h1, if_neg h2, if_neg h3]
    go_enter Tryz.func70, Tryz.ntmps70
    go_wp2
    go_ret
    exact ⟨by rw [HR.out]; rfl, rfl⟩

/-- An item, as it is handed over. -/
abbrev itV (t : X.It) (v : Value) : Value := .agg #[.int .i64 t.kind, .string (X.str t.name), .int .i64 t.op, .int .i64 t.a, .int .i64 t.b, .int .i64 t.n, v]

theorem isPlace_any (t : X.It) (aw : Option Addr) (lw cw : Nat) (w : World) : Calls Tryz.prog 46 #[itV t (.slice aw lw cw)] w fun e w' => e = .returned (.bool (Z.place t)) ∧ Below w.heap.size w w' := by
  obtain ⟨kd, nm, op, a, b, n, ws⟩ := t
  rcases (show kd = 1 ∨ kd = 3 ∨ (¬ kd = 1 ∧ ¬ kd = 3) by omega) with rfl | rfl | ⟨h1, h2⟩
  all_goals
    go_enter Tryz.func46, Tryz.ntmps46
    go_wp2
    go_ret
    refine ⟨?_, bl1 _ _⟩
    simp [Z.place, *]

theorem isShown_any (t : X.It) (aw : Option Addr) (lw cw : Nat) (w : World) : Calls Tryz.prog 47 #[itV t (.slice aw lw cw)] w fun e w' => e = .returned (.bool (Z.shown t)) ∧ Below w.heap.size w w' := by
  obtain ⟨kd, nm, op, a, b, n, ws⟩ := t
  rcases (show kd = 4 ∨ kd = 5 ∨ (¬ kd = 4 ∧ ¬ kd = 5) by omega) with rfl | rfl | ⟨h1, h2⟩
  all_goals
    go_enter Tryz.func47, Tryz.ntmps47
    go_wp2
    go_ret
    refine ⟨?_, bl1 _ _⟩
    simp [Z.shown, *]

theorem isJump_any (t : X.It) (aw : Option Addr) (lw cw : Nat) (w : World) : Calls Tryz.prog 48 #[itV t (.slice aw lw cw)] w fun e w' => e = .returned (.bool (Z.jump t)) ∧ Below w.heap.size w w' := by
  obtain ⟨kd, nm, op, a, b, n, ws⟩ := t
  have hs := shortOf_any op
  have HJ : Hid (Z.jump ⟨kd, nm, op, a, b, n, ws⟩ = decide (Z.shortOf op ≠ 0)) := rfl
  generalize Z.shortOf op = so at *
  go_enter Tryz.func48, Tryz.ntmps48
  go_wp2_with fail
  refine (hs _).mono ?_
  rintro e w' ⟨rfl, hw⟩
  rw [hw]
  go_wp2
  go_ret
  refine ⟨?_, bl1 _ _⟩
  rw [HJ.out]
  by_cases h : so = 0
  · simp [h]
  · simp [h]

/-! ### Names that were seen -/
theorem lawS : Keyed Tryz.prog 9 := string_keyed Tryz.underlying9
theorem zeroU (w : World) : (zeroValue 106).run Tryz.prog w = .ok (.agg #[]) w := by kernel_rfl
theorem zeroI (w : World) : (zeroValue 3).run Tryz.prog w = .ok (.int .i64 0) w := by kernel_rfl
def kset (l : List X.By) : DataW Unit := setOf (.agg []) (l.map Lit.string)
theorem kset_snoc (l : List X.By) (x : X.By) : kset (l ++ [x]) = (kset l).put (.string x) (.agg []) := by unfold kset; rw [List.map_append]; exact setOf_snoc _ _ _
theorem isKeyStr (x : X.By) : WideAt.IsKeyLit (.string x) := by simp [WideAt.IsKeyLit]
theorem has_kset (l : List X.By) (x : X.By) : Maps.has (kset l) (.string x) = decide (x ∈ l) := by
  unfold kset
  rw [has_setOf _ _ _ (fun y hy => by obtain ⟨z, -, rfl⟩ := List.mem_map.1 hy; exact isKeyStr z), List.any_map]
  induction l with
  | nil => simp
  | cons y l ih =>
    rw [List.any_cons, ih]
    by_cases h : x = y
    · subst h; simp [Lit.sameKey]
    · have h' : ¬ y = x := fun e => h e.symm
      simp [Lit.sameKey, h, h']
theorem keyStr (x : X.By) (h : x.length ≤ maxLen) : keyOf Tryz.prog 9 (.string (X.str x)) = some (.string x) := by
  have := Go.WideMaps.keyOf_string_mk Tryz.underlying9 (s := X.str x) (by rw [str_size]; exact h)
  rw [str_list] at this
  exact this

end Go.Proofs.YtgjingleolhkbaaGreatDoor

/-
  No cell of these rows narrows 'for every input' (looked for: loops, veiled, ifaces, maps, wideKeys, modest, calm, conditions, laid).
  DERIVED. THE GIVEN ROWS OF THIS SEAT. 6 by the template 'for every input the law returns true; each argument reads behind the call as it read before'; 0 by the template 'total and deterministic' (their statements: YtnfkklpionbnoaaTotals.lean).
  GIVEN WITH THE SEED: the statements are not yours to turn. If you find one false, say at which input.
  Laid BY PROGRAM, IN A SANDBOX (cutbox-rows.mjs): the forced cells as the released guide's own fill.sh prints them over the translation ed0e1ea6e334dfb8… (all of the seat's roots in one cut). By AI agents, Wed Nov 11 2026. No macro, syntax, notation, axiom, sorry.
-/
import Derived.Test.YtnfkklpionbnoaaChecked
import GoSem.Claim
import GoSem.ClaimJoined
import GoSem.ClaimMapViews
import Derived.JoinedTies
import Derived.KernelRfl
namespace Go.Proofs.Ytnfkklpionbnoaa
/- THE CELL 'sum', in the pinned program and in every row, IS THE sha256 OF THE DUMP (.gsa) THAT YtnfkklpionbnoaaProg.lean LOADS. Nothing in Lean hashes anything: it is a label: what it is worth is what the hold of that sum in a sandbox is worth. -/
noncomputable def Try.pinned : Pinned := { name := "ytnfkklpionbnoaa", sum := "ed0e1ea6e334dfb8142960abb6f48e1b638481ceecf53dc8239a1e1a03e7adb5", checked := Try.checked }
namespace Rows
def none {H : Type} : Left H := { results := [], args := [] }

/-- 'cotterlaw04.StepStarts': WHATEVER THE INPUT: true; the input reads as it did. -/
def stepStartsSpec : ChangeSpec := { name := "stepStarts", fn := fun _ => fun
  | [d1, d2, d3] => { results := [.lit (.bool true)], args := [d1, d2, d3] }
  | _ => none }
def stepStartsRow : OpenClaim := { program := "ytnfkklpionbnoaa", sum := "ed0e1ea6e334dfb8142960abb6f48e1b638481ceecf53dc8239a1e1a03e7adb5", func := "cotter/cotterlaw04.StepStarts", spec := "stepStarts", unfollowed := true, recurses := true, apart := false }
def StepStartsSaid : Prop := stepStartsRow.holds Try.pinned (OpenSpec.ofChange stepStartsSpec)

/-- ITS FALSE NEIGHBOUR: 'it returns false'. Refute it at one input. -/
def stepStartsWrong : ChangeSpec := { name := "stepStarts", fn := fun _ => fun
  | [d1, d2, d3] => { results := [.lit (.bool false)], args := [d1, d2, d3] }
  | _ => none }
def StepStartsWrongFalsely : Prop := stepStartsRow.holds Try.pinned (OpenSpec.ofChange stepStartsWrong)

/-- 'cotterlaw04.StepFinishes': WHATEVER THE INPUT: true; the input reads as it did. -/
def stepFinishesSpec : ChangeSpec := { name := "stepFinishes", fn := fun _ => fun
  | [d1, d2, d3] => { results := [.lit (.bool true)], args := [d1, d2, d3] }
  | _ => none }
def stepFinishesRow : OpenClaim := { program := "ytnfkklpionbnoaa", sum := "ed0e1ea6e334dfb8142960abb6f48e1b638481ceecf53dc8239a1e1a03e7adb5", func := "cotter/cotterlaw04.StepFinishes", spec := "stepFinishes", unfollowed := true, recurses := true, apart := false }
def StepFinishesSaid : Prop := stepFinishesRow.holds Try.pinned (OpenSpec.ofChange stepFinishesSpec)

/-- ITS FALSE NEIGHBOUR: 'it returns false'. Refute it at one input. -/
def stepFinishesWrong : ChangeSpec := { name := "stepFinishes", fn := fun _ => fun
  | [d1, d2, d3] => { results := [.lit (.bool false)], args := [d1, d2, d3] }
  | _ => none }
def StepFinishesWrongFalsely : Prop := stepFinishesRow.holds Try.pinned (OpenSpec.ofChange stepFinishesWrong)

/-- 'cotterlaw04.StepTurns': WHATEVER THE INPUT: true; the input reads as it did. -/
def stepTurnsSpec : ChangeSpec := { name := "stepTurns", fn := fun _ => fun
  | [d1, d2, d3] => { results := [.lit (.bool true)], args := [d1, d2, d3] }
  | _ => none }
def stepTurnsRow : OpenClaim := { program := "ytnfkklpionbnoaa", sum := "ed0e1ea6e334dfb8142960abb6f48e1b638481ceecf53dc8239a1e1a03e7adb5", func := "cotter/cotterlaw04.StepTurns", spec := "stepTurns", unfollowed := true, recurses := true, apart := false }
def StepTurnsSaid : Prop := stepTurnsRow.holds Try.pinned (OpenSpec.ofChange stepTurnsSpec)

/-- ITS FALSE NEIGHBOUR: 'it returns false'. Refute it at one input. -/
def stepTurnsWrong : ChangeSpec := { name := "stepTurns", fn := fun _ => fun
  | [d1, d2, d3] => { results := [.lit (.bool false)], args := [d1, d2, d3] }
  | _ => none }
def StepTurnsWrongFalsely : Prop := stepTurnsRow.holds Try.pinned (OpenSpec.ofChange stepTurnsWrong)

/-- 'cotterlaw04.StepShifted': WHATEVER THE INPUT: true; the input reads as it did. -/
def stepShiftedSpec : ChangeSpec := { name := "stepShifted", fn := fun _ => fun
  | [d] => { results := [.lit (.bool true)], args := [d] }
  | _ => none }
def stepShiftedRow : OpenClaim := { program := "ytnfkklpionbnoaa", sum := "ed0e1ea6e334dfb8142960abb6f48e1b638481ceecf53dc8239a1e1a03e7adb5", func := "cotter/cotterlaw04.StepShifted", spec := "stepShifted", unfollowed := true, recurses := true, apart := false }
def StepShiftedSaid : Prop := stepShiftedRow.holds Try.pinned (OpenSpec.ofChange stepShiftedSpec)

/-- ITS FALSE NEIGHBOUR: 'it returns false'. Refute it at one input. -/
def stepShiftedWrong : ChangeSpec := { name := "stepShifted", fn := fun _ => fun
  | [d] => { results := [.lit (.bool false)], args := [d] }
  | _ => none }
def StepShiftedWrongFalsely : Prop := stepShiftedRow.holds Try.pinned (OpenSpec.ofChange stepShiftedWrong)

/-- 'cotterlaw04.StepNear': WHATEVER THE INPUT: true; the input reads as it did. -/
def stepNearSpec : ChangeSpec := { name := "stepNear", fn := fun _ => fun
  | [d] => { results := [.lit (.bool true)], args := [d] }
  | _ => none }
def stepNearRow : OpenClaim := { program := "ytnfkklpionbnoaa", sum := "ed0e1ea6e334dfb8142960abb6f48e1b638481ceecf53dc8239a1e1a03e7adb5", func := "cotter/cotterlaw04.StepNear", spec := "stepNear", unfollowed := true, recurses := true, apart := false }
def StepNearSaid : Prop := stepNearRow.holds Try.pinned (OpenSpec.ofChange stepNearSpec)

/-- ITS FALSE NEIGHBOUR: 'it returns false'. Refute it at one input. -/
def stepNearWrong : ChangeSpec := { name := "stepNear", fn := fun _ => fun
  | [d] => { results := [.lit (.bool false)], args := [d] }
  | _ => none }
def StepNearWrongFalsely : Prop := stepNearRow.holds Try.pinned (OpenSpec.ofChange stepNearWrong)

/-- 'cotterlaw04.StepPlain': WHATEVER THE INPUT: true; the input reads as it did. -/
def stepPlainSpec : ChangeSpec := { name := "stepPlain", fn := fun _ => fun
  | [d1, d2, d3] => { results := [.lit (.bool true)], args := [d1, d2, d3] }
  | _ => none }
def stepPlainRow : OpenClaim := { program := "ytnfkklpionbnoaa", sum := "ed0e1ea6e334dfb8142960abb6f48e1b638481ceecf53dc8239a1e1a03e7adb5", func := "cotter/cotterlaw04.StepPlain", spec := "stepPlain", unfollowed := true, recurses := true, apart := false }
def StepPlainSaid : Prop := stepPlainRow.holds Try.pinned (OpenSpec.ofChange stepPlainSpec)

/-- ITS FALSE NEIGHBOUR: 'it returns false'. Refute it at one input. -/
def stepPlainWrong : ChangeSpec := { name := "stepPlain", fn := fun _ => fun
  | [d1, d2, d3] => { results := [.lit (.bool false)], args := [d1, d2, d3] }
  | _ => none }
def StepPlainWrongFalsely : Prop := stepPlainRow.holds Try.pinned (OpenSpec.ofChange stepPlainWrong)

/- THE SECOND FORM. 'bulk': how many values and letters a reading holds, each counted each time it is reached (what is shared counts as often as it is met; a slice's spare places count too). A statement '..UptoSaid' is the law's where the arguments, and the package variables that the reading takes, are together of bulk at most 1048576: NARROWER than '..Said'. Prove '..Said' where nothing that the law and all that it calls make is longer than what came in: it says more and counts as full. Else prove '..UptoSaid'. A law counts once. -/
mutual
def uptoBulk {H : Type} : DataW H → Nat
  | .lit (.string bytes) => bytes.length + 1
  | .lit _ => 1
  | .nil => 1
  | .ptr d => uptoBulk d + 1
  | .slice elems spare => uptoBulkAll elems + uptoBulkAll spare + 1
  | .agg parts => uptoBulkAll parts + 1
  | .iface _ d => uptoBulk d + 1
  | .map entries => uptoBulkEntries entries + 1
  | .held _ => 1
def uptoBulkAll {H : Type} : List (DataW H) → Nat
  | [] => 0
  | d :: r => uptoBulk d + uptoBulkAll r
def uptoBulkEntries {H : Type} : List (Lit × DataW H) → Nat
  | [] => 0
  | x :: r => uptoBulkEntry x + uptoBulkEntries r
def uptoBulkEntry {H : Type} : Lit × DataW H → Nat
  | (.string bytes, d) => bytes.length + uptoBulk d + 1
  | (_, d) => uptoBulk d + 1
 end
def uptoSmall : (H : Type) → List (DataW H) → Bool := fun _ ds => decide (uptoBulkAll ds ≤ 1048576)
def OpenSpec.upto (s : _root_.Go.ChangeSpec) : _root_.Go.OpenSpec := { _root_.Go.OpenSpec.ofChange s with cond := some uptoSmall }

/-- 'cotterlaw04.StepStarts', WHERE WHAT IT READS IS OF BULK AT MOST 1048576: true; the input reads as it did. -/
def stepStartsUptoRow : OpenClaim := { program := "ytnfkklpionbnoaa", sum := "ed0e1ea6e334dfb8142960abb6f48e1b638481ceecf53dc8239a1e1a03e7adb5", func := "cotter/cotterlaw04.StepStarts", spec := "stepStarts", unfollowed := true, recurses := true, apart := false, narrowed := true }
def StepStartsUptoSaid : Prop := stepStartsUptoRow.holds Try.pinned (OpenSpec.upto stepStartsSpec)

/-- 'cotterlaw04.StepFinishes', WHERE WHAT IT READS IS OF BULK AT MOST 1048576: true; the input reads as it did. -/
def stepFinishesUptoRow : OpenClaim := { program := "ytnfkklpionbnoaa", sum := "ed0e1ea6e334dfb8142960abb6f48e1b638481ceecf53dc8239a1e1a03e7adb5", func := "cotter/cotterlaw04.StepFinishes", spec := "stepFinishes", unfollowed := true, recurses := true, apart := false, narrowed := true }
def StepFinishesUptoSaid : Prop := stepFinishesUptoRow.holds Try.pinned (OpenSpec.upto stepFinishesSpec)

/-- 'cotterlaw04.StepTurns', WHERE WHAT IT READS IS OF BULK AT MOST 1048576: true; the input reads as it did. -/
def stepTurnsUptoRow : OpenClaim := { program := "ytnfkklpionbnoaa", sum := "ed0e1ea6e334dfb8142960abb6f48e1b638481ceecf53dc8239a1e1a03e7adb5", func := "cotter/cotterlaw04.StepTurns", spec := "stepTurns", unfollowed := true, recurses := true, apart := false, narrowed := true }
def StepTurnsUptoSaid : Prop := stepTurnsUptoRow.holds Try.pinned (OpenSpec.upto stepTurnsSpec)

/-- 'cotterlaw04.StepShifted', WHERE WHAT IT READS IS OF BULK AT MOST 1048576: true; the input reads as it did. -/
def stepShiftedUptoRow : OpenClaim := { program := "ytnfkklpionbnoaa", sum := "ed0e1ea6e334dfb8142960abb6f48e1b638481ceecf53dc8239a1e1a03e7adb5", func := "cotter/cotterlaw04.StepShifted", spec := "stepShifted", unfollowed := true, recurses := true, apart := false, narrowed := true }
def StepShiftedUptoSaid : Prop := stepShiftedUptoRow.holds Try.pinned (OpenSpec.upto stepShiftedSpec)

/-- 'cotterlaw04.StepNear', WHERE WHAT IT READS IS OF BULK AT MOST 1048576: true; the input reads as it did. -/
def stepNearUptoRow : OpenClaim := { program := "ytnfkklpionbnoaa", sum := "ed0e1ea6e334dfb8142960abb6f48e1b638481ceecf53dc8239a1e1a03e7adb5", func := "cotter/cotterlaw04.StepNear", spec := "stepNear", unfollowed := true, recurses := true, apart := false, narrowed := true }
def StepNearUptoSaid : Prop := stepNearUptoRow.holds Try.pinned (OpenSpec.upto stepNearSpec)

/-- 'cotterlaw04.StepPlain', WHERE WHAT IT READS IS OF BULK AT MOST 1048576: true; the input reads as it did. -/
def stepPlainUptoRow : OpenClaim := { program := "ytnfkklpionbnoaa", sum := "ed0e1ea6e334dfb8142960abb6f48e1b638481ceecf53dc8239a1e1a03e7adb5", func := "cotter/cotterlaw04.StepPlain", spec := "stepPlain", unfollowed := true, recurses := true, apart := false, narrowed := true }
def StepPlainUptoSaid : Prop := stepPlainUptoRow.holds Try.pinned (OpenSpec.upto stepPlainSpec)

end Rows
end Go.Proofs.Ytnfkklpionbnoaa

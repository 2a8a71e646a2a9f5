/-
  No cell of these rows narrows 'for every input' (looked for: loops, veiled, ifaces, maps, wideKeys, modest, calm, conditions, laid).
  DERIVED. THE GIVEN ROWS OF THIS SEAT. 5 by the template 'for every input the law returns true; each argument reads behind the call as it read before'; 0 by the template 'total and deterministic' (their statements: YtafdjmccgijmnaaTotals.lean).
  GIVEN WITH THE SEED: the statements are not yours to turn. If you find one false, say at which input.
  Laid BY PROGRAM, IN A SANDBOX (cutbox-rows.mjs): the forced cells as the released guide's own fill.sh prints them over the translation 7bbdc2f6b8156130… (all of the seat's roots in one cut). By AI agents, Wed Nov 11 2026. No macro, syntax, notation, axiom, sorry.
-/
import Derived.Test.YtafdjmccgijmnaaChecked
import GoSem.Claim
import GoSem.ClaimJoined
import GoSem.ClaimMapViews
import Derived.JoinedTies
import Derived.KernelRfl
namespace Go.Proofs.Ytafdjmccgijmnaa
/- THE CELL 'sum', in the pinned program and in every row, IS THE sha256 OF THE DUMP (.gsa) THAT YtafdjmccgijmnaaProg.lean LOADS. Nothing in Lean hashes anything: it is a label: what it is worth is what the hold of that sum in a sandbox is worth. -/
noncomputable def Try.pinned : Pinned := { name := "ytafdjmccgijmnaa", sum := "7bbdc2f6b815613048281950a35991d97269bfd1b1e025b96cae4a19d1326a14", checked := Try.checked }
namespace Rows
def none {H : Type} : Left H := { results := [], args := [] }

/-- 'cotterlaw13.HistOrders': WHATEVER THE INPUT: true; the input reads as it did. -/
def histOrdersSpec : ChangeSpec := { name := "histOrders", fn := fun _ => fun
  | [d1, d2] => { results := [.lit (.bool true)], args := [d1, d2] }
  | _ => none }
def histOrdersRow : OpenClaim := { program := "ytafdjmccgijmnaa", sum := "7bbdc2f6b815613048281950a35991d97269bfd1b1e025b96cae4a19d1326a14", func := "cotter/cotterlaw13.HistOrders", spec := "histOrders", unfollowed := true, recurses := true, plainKeys := false, apart := false }
def HistOrdersSaid : Prop := histOrdersRow.holds Try.pinned (OpenSpec.ofChange histOrdersSpec)

/-- ITS FALSE NEIGHBOUR: 'it returns false'. Refute it at one input. -/
def histOrdersWrong : ChangeSpec := { name := "histOrders", fn := fun _ => fun
  | [d1, d2] => { results := [.lit (.bool false)], args := [d1, d2] }
  | _ => none }
def HistOrdersWrongFalsely : Prop := histOrdersRow.holds Try.pinned (OpenSpec.ofChange histOrdersWrong)

/-- 'cotterlaw13.HistAfter': WHATEVER THE INPUT: true; the input reads as it did. -/
def histAfterSpec : ChangeSpec := { name := "histAfter", fn := fun _ => fun
  | [d1, d2, d3] => { results := [.lit (.bool true)], args := [d1, d2, d3] }
  | _ => none }
def histAfterRow : OpenClaim := { program := "ytafdjmccgijmnaa", sum := "7bbdc2f6b815613048281950a35991d97269bfd1b1e025b96cae4a19d1326a14", func := "cotter/cotterlaw13.HistAfter", spec := "histAfter", unfollowed := true, recurses := true, plainKeys := false, apart := false }
def HistAfterSaid : Prop := histAfterRow.holds Try.pinned (OpenSpec.ofChange histAfterSpec)

/-- ITS FALSE NEIGHBOUR: 'it returns false'. Refute it at one input. -/
def histAfterWrong : ChangeSpec := { name := "histAfter", fn := fun _ => fun
  | [d1, d2, d3] => { results := [.lit (.bool false)], args := [d1, d2, d3] }
  | _ => none }
def HistAfterWrongFalsely : Prop := histAfterRow.holds Try.pinned (OpenSpec.ofChange histAfterWrong)

/-- 'cotterlaw13.HistAlone': WHATEVER THE INPUT: true; the input reads as it did. -/
def histAloneSpec : ChangeSpec := { name := "histAlone", fn := fun _ => fun
  | [d1, d2, d3] => { results := [.lit (.bool true)], args := [d1, d2, d3] }
  | _ => none }
def histAloneRow : OpenClaim := { program := "ytafdjmccgijmnaa", sum := "7bbdc2f6b815613048281950a35991d97269bfd1b1e025b96cae4a19d1326a14", func := "cotter/cotterlaw13.HistAlone", spec := "histAlone", unfollowed := true, recurses := true, plainKeys := false, apart := false }
def HistAloneSaid : Prop := histAloneRow.holds Try.pinned (OpenSpec.ofChange histAloneSpec)

/-- ITS FALSE NEIGHBOUR: 'it returns false'. Refute it at one input. -/
def histAloneWrong : ChangeSpec := { name := "histAlone", fn := fun _ => fun
  | [d1, d2, d3] => { results := [.lit (.bool false)], args := [d1, d2, d3] }
  | _ => none }
def HistAloneWrongFalsely : Prop := histAloneRow.holds Try.pinned (OpenSpec.ofChange histAloneWrong)

/-- 'cotterlaw13.HistCut': WHATEVER THE INPUT: true; the input reads as it did. -/
def histCutSpec : ChangeSpec := { name := "histCut", fn := fun _ => fun
  | [d1, d2, d3] => { results := [.lit (.bool true)], args := [d1, d2, d3] }
  | _ => none }
def histCutRow : OpenClaim := { program := "ytafdjmccgijmnaa", sum := "7bbdc2f6b815613048281950a35991d97269bfd1b1e025b96cae4a19d1326a14", func := "cotter/cotterlaw13.HistCut", spec := "histCut", unfollowed := true, recurses := true, plainKeys := false, apart := false }
def HistCutSaid : Prop := histCutRow.holds Try.pinned (OpenSpec.ofChange histCutSpec)

/-- ITS FALSE NEIGHBOUR: 'it returns false'. Refute it at one input. -/
def histCutWrong : ChangeSpec := { name := "histCut", fn := fun _ => fun
  | [d1, d2, d3] => { results := [.lit (.bool false)], args := [d1, d2, d3] }
  | _ => none }
def HistCutWrongFalsely : Prop := histCutRow.holds Try.pinned (OpenSpec.ofChange histCutWrong)

/-- 'cotterlaw13.HistPending': WHATEVER THE INPUT: true; the input reads as it did. -/
def histPendingSpec : ChangeSpec := { name := "histPending", fn := fun _ => fun
  | [d1, d2, d3] => { results := [.lit (.bool true)], args := [d1, d2, d3] }
  | _ => none }
def histPendingRow : OpenClaim := { program := "ytafdjmccgijmnaa", sum := "7bbdc2f6b815613048281950a35991d97269bfd1b1e025b96cae4a19d1326a14", func := "cotter/cotterlaw13.HistPending", spec := "histPending", unfollowed := true, recurses := true, plainKeys := false, apart := false }
def HistPendingSaid : Prop := histPendingRow.holds Try.pinned (OpenSpec.ofChange histPendingSpec)

/-- ITS FALSE NEIGHBOUR: 'it returns false'. Refute it at one input. -/
def histPendingWrong : ChangeSpec := { name := "histPending", fn := fun _ => fun
  | [d1, d2, d3] => { results := [.lit (.bool false)], args := [d1, d2, d3] }
  | _ => none }
def HistPendingWrongFalsely : Prop := histPendingRow.holds Try.pinned (OpenSpec.ofChange histPendingWrong)

/- THE SECOND FORM. 'bulk': how many values and letters a reading holds, each counted each time it is reached (what is shared counts as often as it is met; a slice's spare places count too). A statement '..UptoSaid' is the law's where the arguments, and the package variables that the reading takes, are together of bulk at most 1048576: NARROWER than '..Said'. Prove '..Said' where nothing that the law and all that it calls make is longer than what came in: it says more and counts as full. Else prove '..UptoSaid'. A law counts once. -/
mutual
def uptoBulk {H : Type} : DataW H → Nat
  | .lit (.string bytes) => bytes.length + 1
  | .lit _ => 1
  | .nil => 1
  | .ptr d => uptoBulk d + 1
  | .slice elems spare => uptoBulkAll elems + uptoBulkAll spare + 1
  | .agg parts => uptoBulkAll parts + 1
  | .iface _ d => uptoBulk d + 1
  | .map entries => uptoBulkEntries entries + 1
  | .held _ => 1
def uptoBulkAll {H : Type} : List (DataW H) → Nat
  | [] => 0
  | d :: r => uptoBulk d + uptoBulkAll r
def uptoBulkEntries {H : Type} : List (Lit × DataW H) → Nat
  | [] => 0
  | x :: r => uptoBulkEntry x + uptoBulkEntries r
def uptoBulkEntry {H : Type} : Lit × DataW H → Nat
  | (.string bytes, d) => bytes.length + uptoBulk d + 1
  | (_, d) => uptoBulk d + 1
 end
def uptoSmall : (H : Type) → List (DataW H) → Bool := fun _ ds => decide (uptoBulkAll ds ≤ 1048576)
def OpenSpec.upto (s : _root_.Go.ChangeSpec) : _root_.Go.OpenSpec := { _root_.Go.OpenSpec.ofChange s with cond := some uptoSmall }

/-- 'cotterlaw13.HistOrders', WHERE WHAT IT READS IS OF BULK AT MOST 1048576: true; the input reads as it did. -/
def histOrdersUptoRow : OpenClaim := { program := "ytafdjmccgijmnaa", sum := "7bbdc2f6b815613048281950a35991d97269bfd1b1e025b96cae4a19d1326a14", func := "cotter/cotterlaw13.HistOrders", spec := "histOrders", unfollowed := true, recurses := true, plainKeys := false, apart := false, narrowed := true }
def HistOrdersUptoSaid : Prop := histOrdersUptoRow.holds Try.pinned (OpenSpec.upto histOrdersSpec)

/-- 'cotterlaw13.HistAfter', WHERE WHAT IT READS IS OF BULK AT MOST 1048576: true; the input reads as it did. -/
def histAfterUptoRow : OpenClaim := { program := "ytafdjmccgijmnaa", sum := "7bbdc2f6b815613048281950a35991d97269bfd1b1e025b96cae4a19d1326a14", func := "cotter/cotterlaw13.HistAfter", spec := "histAfter", unfollowed := true, recurses := true, plainKeys := false, apart := false, narrowed := true }
def HistAfterUptoSaid : Prop := histAfterUptoRow.holds Try.pinned (OpenSpec.upto histAfterSpec)

/-- 'cotterlaw13.HistAlone', WHERE WHAT IT READS IS OF BULK AT MOST 1048576: true; the input reads as it did. -/
def histAloneUptoRow : OpenClaim := { program := "ytafdjmccgijmnaa", sum := "7bbdc2f6b815613048281950a35991d97269bfd1b1e025b96cae4a19d1326a14", func := "cotter/cotterlaw13.HistAlone", spec := "histAlone", unfollowed := true, recurses := true, plainKeys := false, apart := false, narrowed := true }
def HistAloneUptoSaid : Prop := histAloneUptoRow.holds Try.pinned (OpenSpec.upto histAloneSpec)

/-- 'cotterlaw13.HistCut', WHERE WHAT IT READS IS OF BULK AT MOST 1048576: true; the input reads as it did. -/
def histCutUptoRow : OpenClaim := { program := "ytafdjmccgijmnaa", sum := "7bbdc2f6b815613048281950a35991d97269bfd1b1e025b96cae4a19d1326a14", func := "cotter/cotterlaw13.HistCut", spec := "histCut", unfollowed := true, recurses := true, plainKeys := false, apart := false, narrowed := true }
def HistCutUptoSaid : Prop := histCutUptoRow.holds Try.pinned (OpenSpec.upto histCutSpec)

/-- 'cotterlaw13.HistPending', WHERE WHAT IT READS IS OF BULK AT MOST 1048576: true; the input reads as it did. -/
def histPendingUptoRow : OpenClaim := { program := "ytafdjmccgijmnaa", sum := "7bbdc2f6b815613048281950a35991d97269bfd1b1e025b96cae4a19d1326a14", func := "cotter/cotterlaw13.HistPending", spec := "histPending", unfollowed := true, recurses := true, plainKeys := false, apart := false, narrowed := true }
def HistPendingUptoSaid : Prop := histPendingUptoRow.holds Try.pinned (OpenSpec.upto histPendingSpec)

end Rows
end Go.Proofs.Ytafdjmccgijmnaa

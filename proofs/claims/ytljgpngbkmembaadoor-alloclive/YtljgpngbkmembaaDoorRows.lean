/-
  NARROWER THAN 'FOR EVERY INPUT', by the rows' own cells (each row's printed sentence says how): AllocLive: laid · AllocRight: laid · AllocChecks: laid · AllocTurned: laid · AllocAgain: laid.
  DERIVED. THE GIVEN ROWS OF THIS SEAT. 5 by the template 'for every input the law returns true; each argument reads behind the call as it read before'; 0 by the template 'total and deterministic' (their statements: YtljgpngbkmembaaDoorTotals.lean).
  GIVEN WITH THE SEED: the statements are not yours to turn. If you find one false, say at which input.
  Laid BY PROGRAM, IN A SANDBOX (cutbox-rows.mjs): the forced cells as the released guide's own fill.sh prints them over the translation 989f76aa21c41559… (all of the seat's roots in one cut). By AI agents, Wed Nov 11 2026. No macro, syntax, notation, axiom, sorry.
-/
import Derived.Test.YtljgpngbkmembaaDoorChecked
import GoSem.Claim
import GoSem.ClaimJoined
import GoSem.ClaimMapViews
import Derived.JoinedTies
import Derived.KernelRfl
namespace Go.Proofs.YtljgpngbkmembaaDoor
/- THE CELL 'sum', in the pinned program and in every row, IS THE sha256 OF THE DUMP (.gsa) THAT YtljgpngbkmembaaDoorProg.lean LOADS. Nothing in Lean hashes anything: it is a label: what it is worth is what the hold of that sum in a sandbox is worth. -/
noncomputable def Tryd.pinned : Pinned := { name := "ytljgpngbkmembaadoor", sum := "989f76aa21c41559eab8561c8f50f6dd5d377ba576001f43eb45872deb443a81", checked := Tryd.checked }
namespace Rows
def none {H : Type} : Left H := { results := [], args := [] }

/- WHAT THE LISTED PACKAGE-LEVEL VARIABLES READ AS WHEN THE CALL BEGINS. Each datum BY PROGRAM (the guide's laid-datum.mjs) off the statement by which the dump's own 'gosem.cut.vars' lays the variable. In a bare row this is a premise. The card (YtljgpngbkmembaaDoorCards.lean) ties it to the program's text. -/
def laid_math_bits_deBruijn64tab {H : Type} : DataW H := .agg [.lit (.int .u8 0), .lit (.int .u8 1), .lit (.int .u8 56), .lit (.int .u8 2), .lit (.int .u8 57), .lit (.int .u8 49), .lit (.int .u8 28), .lit (.int .u8 3), .lit (.int .u8 61), .lit (.int .u8 58), .lit (.int .u8 42), .lit (.int .u8 50), .lit (.int .u8 38), .lit (.int .u8 29), .lit (.int .u8 17), .lit (.int .u8 4), .lit (.int .u8 62), .lit (.int .u8 47), .lit (.int .u8 59), .lit (.int .u8 36), .lit (.int .u8 45), .lit (.int .u8 43), .lit (.int .u8 51), .lit (.int .u8 22), .lit (.int .u8 53), .lit (.int .u8 39), .lit (.int .u8 33), .lit (.int .u8 30), .lit (.int .u8 24), .lit (.int .u8 18), .lit (.int .u8 12), .lit (.int .u8 5), .lit (.int .u8 63), .lit (.int .u8 55), .lit (.int .u8 48), .lit (.int .u8 27), .lit (.int .u8 60), .lit (.int .u8 41), .lit (.int .u8 37), .lit (.int .u8 16), .lit (.int .u8 46), .lit (.int .u8 35), .lit (.int .u8 44), .lit (.int .u8 21), .lit (.int .u8 52), .lit (.int .u8 32), .lit (.int .u8 23), .lit (.int .u8 11), .lit (.int .u8 54), .lit (.int .u8 26), .lit (.int .u8 40), .lit (.int .u8 15), .lit (.int .u8 34), .lit (.int .u8 20), .lit (.int .u8 31), .lit (.int .u8 10), .lit (.int .u8 25), .lit (.int .u8 14), .lit (.int .u8 19), .lit (.int .u8 9), .lit (.int .u8 13), .lit (.int .u8 8), .lit (.int .u8 7), .lit (.int .u8 6)]
def laid_cotter_flow_shapes {H : Type} : DataW H := .agg [.agg [.lit (.int .i64 0), .lit (.int .i64 0), .lit (.int .i64 0), .lit (.bool false), .lit (.bool false), .lit (.bool false), .lit (.bool false), .lit (.bool false), .lit (.bool false)], .agg [.lit (.int .i64 1), .lit (.int .i64 0), .lit (.int .i64 0), .lit (.bool false), .lit (.bool false), .lit (.bool true), .lit (.bool false), .lit (.bool false), .lit (.bool false)], .agg [.lit (.int .i64 1), .lit (.int .i64 1), .lit (.int .i64 0), .lit (.bool false), .lit (.bool false), .lit (.bool false), .lit (.bool false), .lit (.bool false), .lit (.bool false)], .agg [.lit (.int .i64 1), .lit (.int .i64 1), .lit (.int .i64 1), .lit (.bool true), .lit (.bool false), .lit (.bool false), .lit (.bool false), .lit (.bool false), .lit (.bool false)], .agg [.lit (.int .i64 1), .lit (.int .i64 2), .lit (.int .i64 0), .lit (.bool false), .lit (.bool true), .lit (.bool false), .lit (.bool false), .lit (.bool false), .lit (.bool false)], .agg [.lit (.int .i64 0), .lit (.int .i64 2), .lit (.int .i64 1), .lit (.bool false), .lit (.bool true), .lit (.bool false), .lit (.bool false), .lit (.bool false), .lit (.bool false)], .agg [.lit (.int .i64 2), .lit (.int .i64 0), .lit (.int .i64 0), .lit (.bool false), .lit (.bool true), .lit (.bool false), .lit (.bool true), .lit (.bool false), .lit (.bool false)], .agg [.lit (.int .i64 2), .lit (.int .i64 0), .lit (.int .i64 0), .lit (.bool false), .lit (.bool true), .lit (.bool false), .lit (.bool false), .lit (.bool false), .lit (.bool false)], .agg [.lit (.int .i64 2), .lit (.int .i64 0), .lit (.int .i64 1), .lit (.bool false), .lit (.bool true), .lit (.bool false), .lit (.bool false), .lit (.bool false), .lit (.bool false)], .agg [.lit (.int .i64 0), .lit (.int .i64 0), .lit (.int .i64 0), .lit (.bool false), .lit (.bool true), .lit (.bool false), .lit (.bool false), .lit (.bool false), .lit (.bool false)], .agg [.lit (.int .i64 0), .lit (.int .i64 0), .lit (.int .i64 0), .lit (.bool false), .lit (.bool true), .lit (.bool false), .lit (.bool false), .lit (.bool false), .lit (.bool false)], .agg [.lit (.int .i64 0), .lit (.int .i64 0), .lit (.int .i64 0), .lit (.bool false), .lit (.bool false), .lit (.bool false), .lit (.bool false), .lit (.bool true), .lit (.bool true)], .agg [.lit (.int .i64 0), .lit (.int .i64 1), .lit (.int .i64 0), .lit (.bool false), .lit (.bool false), .lit (.bool false), .lit (.bool false), .lit (.bool true), .lit (.bool false)], .agg [.lit (.int .i64 0), .lit (.int .i64 1), .lit (.int .i64 0), .lit (.bool false), .lit (.bool false), .lit (.bool false), .lit (.bool false), .lit (.bool false), .lit (.bool false)], .agg [.lit (.int .i64 0), .lit (.int .i64 1), .lit (.int .i64 0), .lit (.bool false), .lit (.bool false), .lit (.bool false), .lit (.bool false), .lit (.bool false), .lit (.bool true)], .agg [.lit (.int .i64 0), .lit (.int .i64 0), .lit (.int .i64 0), .lit (.bool false), .lit (.bool false), .lit (.bool false), .lit (.bool false), .lit (.bool false), .lit (.bool true)], .agg [.lit (.int .i64 0), .lit (.int .i64 0), .lit (.int .i64 0), .lit (.bool false), .lit (.bool false), .lit (.bool true), .lit (.bool false), .lit (.bool false), .lit (.bool true)]]

/-- 'cotterlaw21.AllocLive': WHATEVER THE INPUT: true; the input reads as it did. -/
def allocLiveSpec : ChangeSpec := { name := "allocLive", fn := fun _ => fun
  | [d] => { results := [.lit (.bool true)], args := [d] }
  | _ => none }
def allocLiveRow : OpenClaim := { program := "ytljgpngbkmembaadoor", sum := "989f76aa21c41559eab8561c8f50f6dd5d377ba576001f43eb45872deb443a81", func := "cotter/cotterlaw21.AllocLive", spec := "allocLive", unfollowed := true, recurses := true, named := ["cotter/flow.shapes", "math/bits.deBruijn64tab"], apart := false, laid := [("math/bits.deBruijn64tab", laid_math_bits_deBruijn64tab), ("cotter/flow.shapes", laid_cotter_flow_shapes)] }
def AllocLiveSaid : Prop := allocLiveRow.holds Tryd.pinned (OpenSpec.ofChange allocLiveSpec)

/-- ITS FALSE NEIGHBOUR: 'it returns false'. Refute it at one input. -/
def allocLiveWrong : ChangeSpec := { name := "allocLive", fn := fun _ => fun
  | [d] => { results := [.lit (.bool false)], args := [d] }
  | _ => none }
def AllocLiveWrongFalsely : Prop := allocLiveRow.holds Tryd.pinned (OpenSpec.ofChange allocLiveWrong)

/-- 'cotterlaw21.AllocRight': WHATEVER THE INPUT: true; the input reads as it did. -/
def allocRightSpec : ChangeSpec := { name := "allocRight", fn := fun _ => fun
  | [d] => { results := [.lit (.bool true)], args := [d] }
  | _ => none }
def allocRightRow : OpenClaim := { program := "ytljgpngbkmembaadoor", sum := "989f76aa21c41559eab8561c8f50f6dd5d377ba576001f43eb45872deb443a81", func := "cotter/cotterlaw21.AllocRight", spec := "allocRight", unfollowed := true, recurses := true, named := ["cotter/flow.shapes", "math/bits.deBruijn64tab"], apart := false, laid := [("math/bits.deBruijn64tab", laid_math_bits_deBruijn64tab), ("cotter/flow.shapes", laid_cotter_flow_shapes)] }
def AllocRightSaid : Prop := allocRightRow.holds Tryd.pinned (OpenSpec.ofChange allocRightSpec)

/-- ITS FALSE NEIGHBOUR: 'it returns false'. Refute it at one input. -/
def allocRightWrong : ChangeSpec := { name := "allocRight", fn := fun _ => fun
  | [d] => { results := [.lit (.bool false)], args := [d] }
  | _ => none }
def AllocRightWrongFalsely : Prop := allocRightRow.holds Tryd.pinned (OpenSpec.ofChange allocRightWrong)

/-- 'cotterlaw21.AllocChecks': WHATEVER THE INPUT: true; the input reads as it did. -/
def allocChecksSpec : ChangeSpec := { name := "allocChecks", fn := fun _ => fun
  | [d1, d2] => { results := [.lit (.bool true)], args := [d1, d2] }
  | _ => none }
def allocChecksRow : OpenClaim := { program := "ytljgpngbkmembaadoor", sum := "989f76aa21c41559eab8561c8f50f6dd5d377ba576001f43eb45872deb443a81", func := "cotter/cotterlaw21.AllocChecks", spec := "allocChecks", unfollowed := true, recurses := true, named := ["cotter/flow.shapes", "math/bits.deBruijn64tab"], apart := false, laid := [("math/bits.deBruijn64tab", laid_math_bits_deBruijn64tab), ("cotter/flow.shapes", laid_cotter_flow_shapes)] }
def AllocChecksSaid : Prop := allocChecksRow.holds Tryd.pinned (OpenSpec.ofChange allocChecksSpec)

/-- ITS FALSE NEIGHBOUR: 'it returns false'. Refute it at one input. -/
def allocChecksWrong : ChangeSpec := { name := "allocChecks", fn := fun _ => fun
  | [d1, d2] => { results := [.lit (.bool false)], args := [d1, d2] }
  | _ => none }
def AllocChecksWrongFalsely : Prop := allocChecksRow.holds Tryd.pinned (OpenSpec.ofChange allocChecksWrong)

/-- 'cotterlaw21.AllocTurned': WHATEVER THE INPUT: true; the input reads as it did. -/
def allocTurnedSpec : ChangeSpec := { name := "allocTurned", fn := fun _ => fun
  | [d1, d2] => { results := [.lit (.bool true)], args := [d1, d2] }
  | _ => none }
def allocTurnedRow : OpenClaim := { program := "ytljgpngbkmembaadoor", sum := "989f76aa21c41559eab8561c8f50f6dd5d377ba576001f43eb45872deb443a81", func := "cotter/cotterlaw21.AllocTurned", spec := "allocTurned", unfollowed := true, recurses := true, named := ["cotter/flow.shapes", "math/bits.deBruijn64tab"], apart := false, laid := [("math/bits.deBruijn64tab", laid_math_bits_deBruijn64tab), ("cotter/flow.shapes", laid_cotter_flow_shapes)] }
def AllocTurnedSaid : Prop := allocTurnedRow.holds Tryd.pinned (OpenSpec.ofChange allocTurnedSpec)

/-- ITS FALSE NEIGHBOUR: 'it returns false'. Refute it at one input. -/
def allocTurnedWrong : ChangeSpec := { name := "allocTurned", fn := fun _ => fun
  | [d1, d2] => { results := [.lit (.bool false)], args := [d1, d2] }
  | _ => none }
def AllocTurnedWrongFalsely : Prop := allocTurnedRow.holds Tryd.pinned (OpenSpec.ofChange allocTurnedWrong)

/-- 'cotterlaw21.AllocAgain': WHATEVER THE INPUT: true; the input reads as it did. -/
def allocAgainSpec : ChangeSpec := { name := "allocAgain", fn := fun _ => fun
  | [d] => { results := [.lit (.bool true)], args := [d] }
  | _ => none }
def allocAgainRow : OpenClaim := { program := "ytljgpngbkmembaadoor", sum := "989f76aa21c41559eab8561c8f50f6dd5d377ba576001f43eb45872deb443a81", func := "cotter/cotterlaw21.AllocAgain", spec := "allocAgain", unfollowed := true, recurses := true, named := ["cotter/flow.shapes", "math/bits.deBruijn64tab"], apart := false, laid := [("math/bits.deBruijn64tab", laid_math_bits_deBruijn64tab), ("cotter/flow.shapes", laid_cotter_flow_shapes)] }
def AllocAgainSaid : Prop := allocAgainRow.holds Tryd.pinned (OpenSpec.ofChange allocAgainSpec)

/-- ITS FALSE NEIGHBOUR: 'it returns false'. Refute it at one input. -/
def allocAgainWrong : ChangeSpec := { name := "allocAgain", fn := fun _ => fun
  | [d] => { results := [.lit (.bool false)], args := [d] }
  | _ => none }
def AllocAgainWrongFalsely : Prop := allocAgainRow.holds Tryd.pinned (OpenSpec.ofChange allocAgainWrong)

/- THE SECOND FORM. 'bulk': how many values and letters a reading holds, each counted each time it is reached (what is shared counts as often as it is met; a slice's spare places count too). A statement '..UptoSaid' is the law's where the arguments, and the package variables that the reading takes, are together of bulk at most 1048576: NARROWER than '..Said'. Prove '..Said' where nothing that the law and all that it calls make is longer than what came in: it says more and counts as full. Else prove '..UptoSaid'. A law counts once. -/
mutual
def uptoBulk {H : Type} : DataW H → Nat
  | .lit (.string bytes) => bytes.length + 1
  | .lit _ => 1
  | .nil => 1
  | .ptr d => uptoBulk d + 1
  | .slice elems spare => uptoBulkAll elems + uptoBulkAll spare + 1
  | .agg parts => uptoBulkAll parts + 1
  | .iface _ d => uptoBulk d + 1
  | .map entries => uptoBulkEntries entries + 1
  | .held _ => 1
def uptoBulkAll {H : Type} : List (DataW H) → Nat
  | [] => 0
  | d :: r => uptoBulk d + uptoBulkAll r
def uptoBulkEntries {H : Type} : List (Lit × DataW H) → Nat
  | [] => 0
  | x :: r => uptoBulkEntry x + uptoBulkEntries r
def uptoBulkEntry {H : Type} : Lit × DataW H → Nat
  | (.string bytes, d) => bytes.length + uptoBulk d + 1
  | (_, d) => uptoBulk d + 1
 end
def uptoSmall : (H : Type) → List (DataW H) → Bool := fun _ ds => decide (uptoBulkAll ds ≤ 1048576)
def OpenSpec.upto (s : _root_.Go.ChangeSpec) : _root_.Go.OpenSpec := { _root_.Go.OpenSpec.ofChange s with cond := some uptoSmall }

/-- 'cotterlaw21.AllocLive', WHERE WHAT IT READS IS OF BULK AT MOST 1048576: true; the input reads as it did. -/
def allocLiveUptoRow : OpenClaim := { program := "ytljgpngbkmembaadoor", sum := "989f76aa21c41559eab8561c8f50f6dd5d377ba576001f43eb45872deb443a81", func := "cotter/cotterlaw21.AllocLive", spec := "allocLive", unfollowed := true, recurses := true, named := ["cotter/flow.shapes", "math/bits.deBruijn64tab"], apart := false, laid := [("math/bits.deBruijn64tab", laid_math_bits_deBruijn64tab), ("cotter/flow.shapes", laid_cotter_flow_shapes)], narrowed := true }
def AllocLiveUptoSaid : Prop := allocLiveUptoRow.holds Tryd.pinned (OpenSpec.upto allocLiveSpec)

/-- 'cotterlaw21.AllocRight', WHERE WHAT IT READS IS OF BULK AT MOST 1048576: true; the input reads as it did. -/
def allocRightUptoRow : OpenClaim := { program := "ytljgpngbkmembaadoor", sum := "989f76aa21c41559eab8561c8f50f6dd5d377ba576001f43eb45872deb443a81", func := "cotter/cotterlaw21.AllocRight", spec := "allocRight", unfollowed := true, recurses := true, named := ["cotter/flow.shapes", "math/bits.deBruijn64tab"], apart := false, laid := [("math/bits.deBruijn64tab", laid_math_bits_deBruijn64tab), ("cotter/flow.shapes", laid_cotter_flow_shapes)], narrowed := true }
def AllocRightUptoSaid : Prop := allocRightUptoRow.holds Tryd.pinned (OpenSpec.upto allocRightSpec)

/-- 'cotterlaw21.AllocChecks', WHERE WHAT IT READS IS OF BULK AT MOST 1048576: true; the input reads as it did. -/
def allocChecksUptoRow : OpenClaim := { program := "ytljgpngbkmembaadoor", sum := "989f76aa21c41559eab8561c8f50f6dd5d377ba576001f43eb45872deb443a81", func := "cotter/cotterlaw21.AllocChecks", spec := "allocChecks", unfollowed := true, recurses := true, named := ["cotter/flow.shapes", "math/bits.deBruijn64tab"], apart := false, laid := [("math/bits.deBruijn64tab", laid_math_bits_deBruijn64tab), ("cotter/flow.shapes", laid_cotter_flow_shapes)], narrowed := true }
def AllocChecksUptoSaid : Prop := allocChecksUptoRow.holds Tryd.pinned (OpenSpec.upto allocChecksSpec)

/-- 'cotterlaw21.AllocTurned', WHERE WHAT IT READS IS OF BULK AT MOST 1048576: true; the input reads as it did. -/
def allocTurnedUptoRow : OpenClaim := { program := "ytljgpngbkmembaadoor", sum := "989f76aa21c41559eab8561c8f50f6dd5d377ba576001f43eb45872deb443a81", func := "cotter/cotterlaw21.AllocTurned", spec := "allocTurned", unfollowed := true, recurses := true, named := ["cotter/flow.shapes", "math/bits.deBruijn64tab"], apart := false, laid := [("math/bits.deBruijn64tab", laid_math_bits_deBruijn64tab), ("cotter/flow.shapes", laid_cotter_flow_shapes)], narrowed := true }
def AllocTurnedUptoSaid : Prop := allocTurnedUptoRow.holds Tryd.pinned (OpenSpec.upto allocTurnedSpec)

/-- 'cotterlaw21.AllocAgain', WHERE WHAT IT READS IS OF BULK AT MOST 1048576: true; the input reads as it did. -/
def allocAgainUptoRow : OpenClaim := { program := "ytljgpngbkmembaadoor", sum := "989f76aa21c41559eab8561c8f50f6dd5d377ba576001f43eb45872deb443a81", func := "cotter/cotterlaw21.AllocAgain", spec := "allocAgain", unfollowed := true, recurses := true, named := ["cotter/flow.shapes", "math/bits.deBruijn64tab"], apart := false, laid := [("math/bits.deBruijn64tab", laid_math_bits_deBruijn64tab), ("cotter/flow.shapes", laid_cotter_flow_shapes)], narrowed := true }
def AllocAgainUptoSaid : Prop := allocAgainUptoRow.holds Tryd.pinned (OpenSpec.upto allocAgainSpec)

end Rows
end Go.Proofs.YtljgpngbkmembaaDoor

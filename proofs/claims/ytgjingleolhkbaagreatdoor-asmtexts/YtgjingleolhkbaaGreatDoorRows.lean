/-
  NARROWER THAN 'FOR EVERY INPUT', by the rows' own cells (each row's printed sentence says how): AsmMakes: laid · AsmTexts: laid · AsmMay: laid · AsmUnnamed: laid · AsmNames: laid · AsmShort: laid.
  DERIVED. THE GIVEN ROWS OF THIS SEAT. 6 by the template 'for every input the law returns true; each argument reads behind the call as it read before'; 0 by the template 'total and deterministic' (their statements: YtgjingleolhkbaaGreatDoorTotals.lean).
  GIVEN WITH THE SEED: the statements are not yours to turn. If you find one false, say at which input.
  Laid BY PROGRAM, IN A SANDBOX (cutbox-rows.mjs): the forced cells as the released guide's own fill.sh prints them over the translation 691e03f5892e4df5… (all of the seat's roots in one cut). By AI agents, Wed Nov 11 2026. No macro, syntax, notation, axiom, sorry.
-/
import Derived.Test.YtgjingleolhkbaaGreatDoorChecked
import GoSem.Claim
import GoSem.ClaimJoined
import GoSem.ClaimMapViews
import Derived.JoinedTies
import Derived.KernelRfl
namespace Go.Proofs.YtgjingleolhkbaaGreatDoor
/- THE CELL 'sum', in the pinned program and in every row, IS THE sha256 OF THE DUMP (.gsa) THAT YtgjingleolhkbaaGreatDoorProg.lean LOADS. Nothing in Lean hashes anything: it is a label: what it is worth is what the hold of that sum in a sandbox is worth. -/
noncomputable def Tryz.pinned : Pinned := { name := "ytgjingleolhkbaagreatdoor", sum := "691e03f5892e4df5d382de49ceead255f21d92ba032c979c609b9217d01c3157", checked := Tryz.checked }
namespace Rows
def none {H : Type} : Left H := { results := [], args := [] }

/- WHAT THE LISTED PACKAGE-LEVEL VARIABLES READ AS WHEN THE CALL BEGINS. Each datum BY PROGRAM (the guide's laid-datum.mjs) off the statement by which the dump's own 'gosem.cut.vars' lays the variable. In a bare row this is a premise. The card (YtgjingleolhkbaaGreatDoorCards.lean) ties it to the program's text. -/
def laid_cotter_ins_forms {H : Type} : DataW H := .agg [.agg [.lit (.int .i64 0), .lit (.int .i64 0), .lit (.bool false)], .agg [.lit (.int .i64 0), .lit (.int .i64 0), .lit (.bool false)], .agg [.lit (.int .i64 1), .lit (.int .i64 0), .lit (.bool false)], .agg [.lit (.int .i64 2), .lit (.int .i64 0), .lit (.bool false)], .agg [.lit (.int .i64 0), .lit (.int .i64 1), .lit (.bool false)], .agg [.lit (.int .i64 0), .lit (.int .i64 4), .lit (.bool false)], .agg [.lit (.int .i64 1), .lit (.int .i64 1), .lit (.bool false)], .agg [.lit (.int .i64 1), .lit (.int .i64 4), .lit (.bool false)], .agg [.lit (.int .i64 1), .lit (.int .i64 8), .lit (.bool false)], .agg [.lit (.int .i64 2), .lit (.int .i64 4), .lit (.bool false)], .agg [.lit (.int .i64 0), .lit (.int .i64 1), .lit (.bool true)]]
def laid_cotter_ins_formNumbers {H : Type} : DataW H := .agg [.lit (.int .i64 0), .lit (.int .i64 8), .lit (.int .i64 3), .lit (.int .i64 3), .lit (.int .i64 3), .lit (.int .i64 3), .lit (.int .i64 3), .lit (.int .i64 3), .lit (.int .i64 3), .lit (.int .i64 3), .lit (.int .i64 3), .lit (.int .i64 3), .lit (.int .i64 3), .lit (.int .i64 3), .lit (.int .i64 3), .lit (.int .i64 3), .lit (.int .i64 3), .lit (.int .i64 9), .lit (.int .i64 9), .lit (.int .i64 7), .lit (.int .i64 5), .lit (.int .i64 7), .lit (.int .i64 7), .lit (.int .i64 5), .lit (.int .i64 1), .lit (.int .i64 4), .lit (.int .i64 6), .lit (.int .i64 6), .lit (.int .i64 9), .lit (.int .i64 9), .lit (.int .i64 1), .lit (.int .i64 2), .lit (.int .i64 1), .lit (.int .i64 10)]
def laid_math_bits_deBruijn32tab {H : Type} : DataW H := .agg [.lit (.int .u8 0), .lit (.int .u8 1), .lit (.int .u8 28), .lit (.int .u8 2), .lit (.int .u8 29), .lit (.int .u8 14), .lit (.int .u8 24), .lit (.int .u8 3), .lit (.int .u8 30), .lit (.int .u8 22), .lit (.int .u8 20), .lit (.int .u8 15), .lit (.int .u8 25), .lit (.int .u8 17), .lit (.int .u8 4), .lit (.int .u8 8), .lit (.int .u8 31), .lit (.int .u8 27), .lit (.int .u8 13), .lit (.int .u8 23), .lit (.int .u8 21), .lit (.int .u8 19), .lit (.int .u8 16), .lit (.int .u8 7), .lit (.int .u8 26), .lit (.int .u8 12), .lit (.int .u8 18), .lit (.int .u8 6), .lit (.int .u8 11), .lit (.int .u8 5), .lit (.int .u8 10), .lit (.int .u8 9)]
def laid_math_bits_deBruijn64tab {H : Type} : DataW H := .agg [.lit (.int .u8 0), .lit (.int .u8 1), .lit (.int .u8 56), .lit (.int .u8 2), .lit (.int .u8 57), .lit (.int .u8 49), .lit (.int .u8 28), .lit (.int .u8 3), .lit (.int .u8 61), .lit (.int .u8 58), .lit (.int .u8 42), .lit (.int .u8 50), .lit (.int .u8 38), .lit (.int .u8 29), .lit (.int .u8 17), .lit (.int .u8 4), .lit (.int .u8 62), .lit (.int .u8 47), .lit (.int .u8 59), .lit (.int .u8 36), .lit (.int .u8 45), .lit (.int .u8 43), .lit (.int .u8 51), .lit (.int .u8 22), .lit (.int .u8 53), .lit (.int .u8 39), .lit (.int .u8 33), .lit (.int .u8 30), .lit (.int .u8 24), .lit (.int .u8 18), .lit (.int .u8 12), .lit (.int .u8 5), .lit (.int .u8 63), .lit (.int .u8 55), .lit (.int .u8 48), .lit (.int .u8 27), .lit (.int .u8 60), .lit (.int .u8 41), .lit (.int .u8 37), .lit (.int .u8 16), .lit (.int .u8 46), .lit (.int .u8 35), .lit (.int .u8 44), .lit (.int .u8 21), .lit (.int .u8 52), .lit (.int .u8 32), .lit (.int .u8 23), .lit (.int .u8 11), .lit (.int .u8 54), .lit (.int .u8 26), .lit (.int .u8 40), .lit (.int .u8 15), .lit (.int .u8 34), .lit (.int .u8 20), .lit (.int .u8 31), .lit (.int .u8 10), .lit (.int .u8 25), .lit (.int .u8 14), .lit (.int .u8 19), .lit (.int .u8 9), .lit (.int .u8 13), .lit (.int .u8 8), .lit (.int .u8 7), .lit (.int .u8 6)]
def laid_internal_strconv_uint64pow10 {H : Type} : DataW H := .agg [.lit (.int .u64 1), .lit (.int .u64 10), .lit (.int .u64 100), .lit (.int .u64 1000), .lit (.int .u64 10000), .lit (.int .u64 100000), .lit (.int .u64 1000000), .lit (.int .u64 10000000), .lit (.int .u64 100000000), .lit (.int .u64 1000000000), .lit (.int .u64 10000000000), .lit (.int .u64 100000000000), .lit (.int .u64 1000000000000), .lit (.int .u64 10000000000000), .lit (.int .u64 100000000000000), .lit (.int .u64 1000000000000000), .lit (.int .u64 10000000000000000), .lit (.int .u64 100000000000000000), .lit (.int .u64 1000000000000000000), .lit (.int .u64 10000000000000000000)]
def laid_strconv_ErrRange {H : Type} : DataW H := .iface "*errors.errorString" (.ptr (.agg [.lit (.string [118, 97, 108, 117, 101, 32, 111, 117, 116, 32, 111, 102, 32, 114, 97, 110, 103, 101])]))
def laid_strconv_ErrSyntax {H : Type} : DataW H := .iface "*errors.errorString" (.ptr (.agg [.lit (.string [105, 110, 118, 97, 108, 105, 100, 32, 115, 121, 110, 116, 97, 120])]))
def laid_cotter_asmtext_rows {H : Type} : DataW H := .agg [.agg [.lit (.string []), .lit (.string [])], .agg [.lit (.string [109, 111, 118, 105]), .lit (.string [65, 78])], .agg [.lit (.string [109, 111, 118]), .lit (.string [65, 66])], .agg [.lit (.string [97, 100, 100]), .lit (.string [65, 66])], .agg [.lit (.string [115, 117, 98]), .lit (.string [65, 66])], .agg [.lit (.string [109, 117, 108]), .lit (.string [65, 66])], .agg [.lit (.string [100, 105, 118]), .lit (.string [65, 66])], .agg [.lit (.string [114, 101, 109]), .lit (.string [65, 66])], .agg [.lit (.string [97, 110, 100]), .lit (.string [65, 66])], .agg [.lit (.string [111, 114]), .lit (.string [65, 66])], .agg [.lit (.string [120, 111, 114]), .lit (.string [65, 66])], .agg [.lit (.string [115, 104, 108]), .lit (.string [65, 66])], .agg [.lit (.string [115, 97, 114]), .lit (.string [65, 66])], .agg [.lit (.string [101, 113]), .lit (.string [65, 66])], .agg [.lit (.string [110, 101]), .lit (.string [65, 66])], .agg [.lit (.string [108, 116]), .lit (.string [65, 66])], .agg [.lit (.string [108, 101]), .lit (.string [65, 66])], .agg [.lit (.string [108, 100]), .lit (.string [65, 66, 78])], .agg [.lit (.string [115, 116]), .lit (.string [65, 78, 66])], .agg [.lit (.string [97, 100, 114]), .lit (.string [65, 64, 78])], .agg [.lit (.string [106, 109, 112]), .lit (.string [64])], .agg [.lit (.string [106, 122]), .lit (.string [65, 64])], .agg [.lit (.string [106, 110, 122]), .lit (.string [65, 64])], .agg [.lit (.string [99, 97, 108, 108]), .lit (.string [64])], .agg [.lit (.string [114, 101, 116]), .lit (.string [])], .agg [.lit (.string []), .lit (.string [])], .agg [.lit (.string []), .lit (.string [])], .agg [.lit (.string []), .lit (.string [])], .agg [.lit (.string [120, 99, 104, 103]), .lit (.string [65, 78, 66])], .agg [.lit (.string [120, 97, 100, 100]), .lit (.string [65, 78, 66])], .agg [.lit (.string [102, 101, 110, 99, 101]), .lit (.string [])], .agg [.lit (.string [111, 117, 116]), .lit (.string [65])], .agg [.lit (.string [104, 97, 108, 116]), .lit (.string [])], .agg [.lit (.string [116, 114, 97, 112]), .lit (.string [78])]]

/-- 'cotterlaw10.AsmMakes': WHATEVER THE INPUT: true; the input reads as it did. -/
def asmMakesSpec : ChangeSpec := { name := "asmMakes", fn := fun _ => fun
  | [d] => { results := [.lit (.bool true)], args := [d] }
  | _ => none }
def asmMakesRow : OpenClaim := { program := "ytgjingleolhkbaagreatdoor", sum := "691e03f5892e4df5d382de49ceead255f21d92ba032c979c609b9217d01c3157", func := "cotter/cotterlaw10.AsmMakes", spec := "asmMakes", inPlace := ["internal/bytealg.IndexByteString", "internal/bytealg.IndexString"], unfollowed := true, recurses := true, named := ["internal/bytealg.MaxLen", "strconv.ErrSyntax", "strconv.ErrRange", "internal/strconv.uint64pow10", "math/bits.deBruijn32tab", "math/bits.deBruijn64tab", "cotter/asmtext.rows", "cotter/ins.formNumbers", "cotter/ins.forms"], apart := false, laid := [("cotter/ins.forms", laid_cotter_ins_forms), ("cotter/ins.formNumbers", laid_cotter_ins_formNumbers), ("math/bits.deBruijn32tab", laid_math_bits_deBruijn32tab), ("math/bits.deBruijn64tab", laid_math_bits_deBruijn64tab), ("internal/strconv.uint64pow10", laid_internal_strconv_uint64pow10), ("strconv.ErrRange", laid_strconv_ErrRange), ("strconv.ErrSyntax", laid_strconv_ErrSyntax), ("cotter/asmtext.rows", laid_cotter_asmtext_rows)] }
def AsmMakesSaid : Prop := asmMakesRow.holds Tryz.pinned (OpenSpec.ofChange asmMakesSpec)

/-- ITS FALSE NEIGHBOUR: 'it returns false'. Refute it at one input. -/
def asmMakesWrong : ChangeSpec := { name := "asmMakes", fn := fun _ => fun
  | [d] => { results := [.lit (.bool false)], args := [d] }
  | _ => none }
def AsmMakesWrongFalsely : Prop := asmMakesRow.holds Tryz.pinned (OpenSpec.ofChange asmMakesWrong)

/-- 'cotterlaw10.AsmTexts': WHATEVER THE INPUT: true; the input reads as it did. -/
def asmTextsSpec : ChangeSpec := { name := "asmTexts", fn := fun _ => fun
  | [d] => { results := [.lit (.bool true)], args := [d] }
  | _ => none }
def asmTextsRow : OpenClaim := { program := "ytgjingleolhkbaagreatdoor", sum := "691e03f5892e4df5d382de49ceead255f21d92ba032c979c609b9217d01c3157", func := "cotter/cotterlaw10.AsmTexts", spec := "asmTexts", inPlace := ["internal/bytealg.IndexByteString", "internal/bytealg.IndexString"], unfollowed := true, recurses := true, named := ["internal/bytealg.MaxLen", "strconv.ErrSyntax", "strconv.ErrRange", "internal/strconv.uint64pow10", "math/bits.deBruijn32tab", "math/bits.deBruijn64tab", "cotter/asmtext.rows", "cotter/ins.formNumbers", "cotter/ins.forms"], apart := false, laid := [("cotter/ins.forms", laid_cotter_ins_forms), ("cotter/ins.formNumbers", laid_cotter_ins_formNumbers), ("math/bits.deBruijn32tab", laid_math_bits_deBruijn32tab), ("math/bits.deBruijn64tab", laid_math_bits_deBruijn64tab), ("internal/strconv.uint64pow10", laid_internal_strconv_uint64pow10), ("strconv.ErrRange", laid_strconv_ErrRange), ("strconv.ErrSyntax", laid_strconv_ErrSyntax), ("cotter/asmtext.rows", laid_cotter_asmtext_rows)] }
def AsmTextsSaid : Prop := asmTextsRow.holds Tryz.pinned (OpenSpec.ofChange asmTextsSpec)

/-- ITS FALSE NEIGHBOUR: 'it returns false'. Refute it at one input. -/
def asmTextsWrong : ChangeSpec := { name := "asmTexts", fn := fun _ => fun
  | [d] => { results := [.lit (.bool false)], args := [d] }
  | _ => none }
def AsmTextsWrongFalsely : Prop := asmTextsRow.holds Tryz.pinned (OpenSpec.ofChange asmTextsWrong)

/-- 'cotterlaw10.AsmMay': WHATEVER THE INPUT: true; the input reads as it did. -/
def asmMaySpec : ChangeSpec := { name := "asmMay", fn := fun _ => fun
  | [d] => { results := [.lit (.bool true)], args := [d] }
  | _ => none }
def asmMayRow : OpenClaim := { program := "ytgjingleolhkbaagreatdoor", sum := "691e03f5892e4df5d382de49ceead255f21d92ba032c979c609b9217d01c3157", func := "cotter/cotterlaw10.AsmMay", spec := "asmMay", inPlace := ["internal/bytealg.IndexByteString", "internal/bytealg.IndexString"], unfollowed := true, recurses := true, named := ["internal/bytealg.MaxLen", "strconv.ErrSyntax", "strconv.ErrRange", "internal/strconv.uint64pow10", "math/bits.deBruijn32tab", "math/bits.deBruijn64tab", "cotter/asmtext.rows", "cotter/ins.formNumbers", "cotter/ins.forms"], apart := false, laid := [("cotter/ins.forms", laid_cotter_ins_forms), ("cotter/ins.formNumbers", laid_cotter_ins_formNumbers), ("math/bits.deBruijn32tab", laid_math_bits_deBruijn32tab), ("math/bits.deBruijn64tab", laid_math_bits_deBruijn64tab), ("internal/strconv.uint64pow10", laid_internal_strconv_uint64pow10), ("strconv.ErrRange", laid_strconv_ErrRange), ("strconv.ErrSyntax", laid_strconv_ErrSyntax), ("cotter/asmtext.rows", laid_cotter_asmtext_rows)] }
def AsmMaySaid : Prop := asmMayRow.holds Tryz.pinned (OpenSpec.ofChange asmMaySpec)

/-- ITS FALSE NEIGHBOUR: 'it returns false'. Refute it at one input. -/
def asmMayWrong : ChangeSpec := { name := "asmMay", fn := fun _ => fun
  | [d] => { results := [.lit (.bool false)], args := [d] }
  | _ => none }
def AsmMayWrongFalsely : Prop := asmMayRow.holds Tryz.pinned (OpenSpec.ofChange asmMayWrong)

/-- 'cotterlaw10.AsmUnnamed': WHATEVER THE INPUT: true; the input reads as it did. -/
def asmUnnamedSpec : ChangeSpec := { name := "asmUnnamed", fn := fun _ => fun
  | [d1, d2, d3] => { results := [.lit (.bool true)], args := [d1, d2, d3] }
  | _ => none }
def asmUnnamedRow : OpenClaim := { program := "ytgjingleolhkbaagreatdoor", sum := "691e03f5892e4df5d382de49ceead255f21d92ba032c979c609b9217d01c3157", func := "cotter/cotterlaw10.AsmUnnamed", spec := "asmUnnamed", inPlace := ["internal/bytealg.IndexByteString", "internal/bytealg.IndexString"], unfollowed := true, recurses := true, named := ["internal/bytealg.MaxLen", "strconv.ErrSyntax", "strconv.ErrRange", "internal/strconv.uint64pow10", "math/bits.deBruijn32tab", "math/bits.deBruijn64tab", "cotter/asmtext.rows", "cotter/ins.formNumbers", "cotter/ins.forms"], apart := false, laid := [("cotter/ins.forms", laid_cotter_ins_forms), ("cotter/ins.formNumbers", laid_cotter_ins_formNumbers), ("math/bits.deBruijn32tab", laid_math_bits_deBruijn32tab), ("math/bits.deBruijn64tab", laid_math_bits_deBruijn64tab), ("internal/strconv.uint64pow10", laid_internal_strconv_uint64pow10), ("strconv.ErrRange", laid_strconv_ErrRange), ("strconv.ErrSyntax", laid_strconv_ErrSyntax), ("cotter/asmtext.rows", laid_cotter_asmtext_rows)] }
def AsmUnnamedSaid : Prop := asmUnnamedRow.holds Tryz.pinned (OpenSpec.ofChange asmUnnamedSpec)

/-- ITS FALSE NEIGHBOUR: 'it returns false'. Refute it at one input. -/
def asmUnnamedWrong : ChangeSpec := { name := "asmUnnamed", fn := fun _ => fun
  | [d1, d2, d3] => { results := [.lit (.bool false)], args := [d1, d2, d3] }
  | _ => none }
def AsmUnnamedWrongFalsely : Prop := asmUnnamedRow.holds Tryz.pinned (OpenSpec.ofChange asmUnnamedWrong)

/-- 'cotterlaw10.AsmNames': WHATEVER THE INPUT: true; the input reads as it did. -/
def asmNamesSpec : ChangeSpec := { name := "asmNames", fn := fun _ => fun
  | [d1, d2, d3] => { results := [.lit (.bool true)], args := [d1, d2, d3] }
  | _ => none }
def asmNamesRow : OpenClaim := { program := "ytgjingleolhkbaagreatdoor", sum := "691e03f5892e4df5d382de49ceead255f21d92ba032c979c609b9217d01c3157", func := "cotter/cotterlaw10.AsmNames", spec := "asmNames", inPlace := ["internal/bytealg.IndexByteString", "internal/bytealg.IndexString"], unfollowed := true, recurses := true, named := ["internal/bytealg.MaxLen", "strconv.ErrSyntax", "strconv.ErrRange", "internal/strconv.uint64pow10", "math/bits.deBruijn32tab", "math/bits.deBruijn64tab", "cotter/asmtext.rows", "cotter/ins.formNumbers", "cotter/ins.forms"], apart := false, laid := [("cotter/ins.forms", laid_cotter_ins_forms), ("cotter/ins.formNumbers", laid_cotter_ins_formNumbers), ("math/bits.deBruijn32tab", laid_math_bits_deBruijn32tab), ("math/bits.deBruijn64tab", laid_math_bits_deBruijn64tab), ("internal/strconv.uint64pow10", laid_internal_strconv_uint64pow10), ("strconv.ErrRange", laid_strconv_ErrRange), ("strconv.ErrSyntax", laid_strconv_ErrSyntax), ("cotter/asmtext.rows", laid_cotter_asmtext_rows)] }
def AsmNamesSaid : Prop := asmNamesRow.holds Tryz.pinned (OpenSpec.ofChange asmNamesSpec)

/-- ITS FALSE NEIGHBOUR: 'it returns false'. Refute it at one input. -/
def asmNamesWrong : ChangeSpec := { name := "asmNames", fn := fun _ => fun
  | [d1, d2, d3] => { results := [.lit (.bool false)], args := [d1, d2, d3] }
  | _ => none }
def AsmNamesWrongFalsely : Prop := asmNamesRow.holds Tryz.pinned (OpenSpec.ofChange asmNamesWrong)

/-- 'cotterlaw10.AsmShort': WHATEVER THE INPUT: true; the input reads as it did. -/
def asmShortSpec : ChangeSpec := { name := "asmShort", fn := fun _ => fun
  | [d] => { results := [.lit (.bool true)], args := [d] }
  | _ => none }
def asmShortRow : OpenClaim := { program := "ytgjingleolhkbaagreatdoor", sum := "691e03f5892e4df5d382de49ceead255f21d92ba032c979c609b9217d01c3157", func := "cotter/cotterlaw10.AsmShort", spec := "asmShort", inPlace := ["internal/bytealg.IndexByteString", "internal/bytealg.IndexString"], unfollowed := true, recurses := true, named := ["internal/bytealg.MaxLen", "strconv.ErrSyntax", "strconv.ErrRange", "internal/strconv.uint64pow10", "math/bits.deBruijn32tab", "math/bits.deBruijn64tab", "cotter/asmtext.rows", "cotter/ins.formNumbers", "cotter/ins.forms"], apart := false, laid := [("cotter/ins.forms", laid_cotter_ins_forms), ("cotter/ins.formNumbers", laid_cotter_ins_formNumbers), ("math/bits.deBruijn32tab", laid_math_bits_deBruijn32tab), ("math/bits.deBruijn64tab", laid_math_bits_deBruijn64tab), ("internal/strconv.uint64pow10", laid_internal_strconv_uint64pow10), ("strconv.ErrRange", laid_strconv_ErrRange), ("strconv.ErrSyntax", laid_strconv_ErrSyntax), ("cotter/asmtext.rows", laid_cotter_asmtext_rows)] }
def AsmShortSaid : Prop := asmShortRow.holds Tryz.pinned (OpenSpec.ofChange asmShortSpec)

/-- ITS FALSE NEIGHBOUR: 'it returns false'. Refute it at one input. -/
def asmShortWrong : ChangeSpec := { name := "asmShort", fn := fun _ => fun
  | [d] => { results := [.lit (.bool false)], args := [d] }
  | _ => none }
def AsmShortWrongFalsely : Prop := asmShortRow.holds Tryz.pinned (OpenSpec.ofChange asmShortWrong)

/- THE SECOND FORM. 'bulk': how many values and letters a reading holds, each counted each time it is reached (what is shared counts as often as it is met; a slice's spare places count too). A statement '..UptoSaid' is the law's where the arguments, and the package variables that the reading takes, are together of bulk at most 1048576: NARROWER than '..Said'. Prove '..Said' where nothing that the law and all that it calls make is longer than what came in: it says more and counts as full. Else prove '..UptoSaid'. A law counts once. -/
mutual
def uptoBulk {H : Type} : DataW H → Nat
  | .lit (.string bytes) => bytes.length + 1
  | .lit _ => 1
  | .nil => 1
  | .ptr d => uptoBulk d + 1
  | .slice elems spare => uptoBulkAll elems + uptoBulkAll spare + 1
  | .agg parts => uptoBulkAll parts + 1
  | .iface _ d => uptoBulk d + 1
  | .map entries => uptoBulkEntries entries + 1
  | .held _ => 1
def uptoBulkAll {H : Type} : List (DataW H) → Nat
  | [] => 0
  | d :: r => uptoBulk d + uptoBulkAll r
def uptoBulkEntries {H : Type} : List (Lit × DataW H) → Nat
  | [] => 0
  | x :: r => uptoBulkEntry x + uptoBulkEntries r
def uptoBulkEntry {H : Type} : Lit × DataW H → Nat
  | (.string bytes, d) => bytes.length + uptoBulk d + 1
  | (_, d) => uptoBulk d + 1
 end
def uptoSmall : (H : Type) → List (DataW H) → Bool := fun _ ds => decide (uptoBulkAll ds ≤ 1048576)
def OpenSpec.upto (s : _root_.Go.ChangeSpec) : _root_.Go.OpenSpec := { _root_.Go.OpenSpec.ofChange s with cond := some uptoSmall }

/-- 'cotterlaw10.AsmMakes', WHERE WHAT IT READS IS OF BULK AT MOST 1048576: true; the input reads as it did. -/
def asmMakesUptoRow : OpenClaim := { program := "ytgjingleolhkbaagreatdoor", sum := "691e03f5892e4df5d382de49ceead255f21d92ba032c979c609b9217d01c3157", func := "cotter/cotterlaw10.AsmMakes", spec := "asmMakes", inPlace := ["internal/bytealg.IndexByteString", "internal/bytealg.IndexString"], unfollowed := true, recurses := true, named := ["internal/bytealg.MaxLen", "strconv.ErrSyntax", "strconv.ErrRange", "internal/strconv.uint64pow10", "math/bits.deBruijn32tab", "math/bits.deBruijn64tab", "cotter/asmtext.rows", "cotter/ins.formNumbers", "cotter/ins.forms"], apart := false, laid := [("cotter/ins.forms", laid_cotter_ins_forms), ("cotter/ins.formNumbers", laid_cotter_ins_formNumbers), ("math/bits.deBruijn32tab", laid_math_bits_deBruijn32tab), ("math/bits.deBruijn64tab", laid_math_bits_deBruijn64tab), ("internal/strconv.uint64pow10", laid_internal_strconv_uint64pow10), ("strconv.ErrRange", laid_strconv_ErrRange), ("strconv.ErrSyntax", laid_strconv_ErrSyntax), ("cotter/asmtext.rows", laid_cotter_asmtext_rows)], narrowed := true }
def AsmMakesUptoSaid : Prop := asmMakesUptoRow.holds Tryz.pinned (OpenSpec.upto asmMakesSpec)

/-- 'cotterlaw10.AsmTexts', WHERE WHAT IT READS IS OF BULK AT MOST 1048576: true; the input reads as it did. -/
def asmTextsUptoRow : OpenClaim := { program := "ytgjingleolhkbaagreatdoor", sum := "691e03f5892e4df5d382de49ceead255f21d92ba032c979c609b9217d01c3157", func := "cotter/cotterlaw10.AsmTexts", spec := "asmTexts", inPlace := ["internal/bytealg.IndexByteString", "internal/bytealg.IndexString"], unfollowed := true, recurses := true, named := ["internal/bytealg.MaxLen", "strconv.ErrSyntax", "strconv.ErrRange", "internal/strconv.uint64pow10", "math/bits.deBruijn32tab", "math/bits.deBruijn64tab", "cotter/asmtext.rows", "cotter/ins.formNumbers", "cotter/ins.forms"], apart := false, laid := [("cotter/ins.forms", laid_cotter_ins_forms), ("cotter/ins.formNumbers", laid_cotter_ins_formNumbers), ("math/bits.deBruijn32tab", laid_math_bits_deBruijn32tab), ("math/bits.deBruijn64tab", laid_math_bits_deBruijn64tab), ("internal/strconv.uint64pow10", laid_internal_strconv_uint64pow10), ("strconv.ErrRange", laid_strconv_ErrRange), ("strconv.ErrSyntax", laid_strconv_ErrSyntax), ("cotter/asmtext.rows", laid_cotter_asmtext_rows)], narrowed := true }
def AsmTextsUptoSaid : Prop := asmTextsUptoRow.holds Tryz.pinned (OpenSpec.upto asmTextsSpec)

/-- 'cotterlaw10.AsmMay', WHERE WHAT IT READS IS OF BULK AT MOST 1048576: true; the input reads as it did. -/
def asmMayUptoRow : OpenClaim := { program := "ytgjingleolhkbaagreatdoor", sum := "691e03f5892e4df5d382de49ceead255f21d92ba032c979c609b9217d01c3157", func := "cotter/cotterlaw10.AsmMay", spec := "asmMay", inPlace := ["internal/bytealg.IndexByteString", "internal/bytealg.IndexString"], unfollowed := true, recurses := true, named := ["internal/bytealg.MaxLen", "strconv.ErrSyntax", "strconv.ErrRange", "internal/strconv.uint64pow10", "math/bits.deBruijn32tab", "math/bits.deBruijn64tab", "cotter/asmtext.rows", "cotter/ins.formNumbers", "cotter/ins.forms"], apart := false, laid := [("cotter/ins.forms", laid_cotter_ins_forms), ("cotter/ins.formNumbers", laid_cotter_ins_formNumbers), ("math/bits.deBruijn32tab", laid_math_bits_deBruijn32tab), ("math/bits.deBruijn64tab", laid_math_bits_deBruijn64tab), ("internal/strconv.uint64pow10", laid_internal_strconv_uint64pow10), ("strconv.ErrRange", laid_strconv_ErrRange), ("strconv.ErrSyntax", laid_strconv_ErrSyntax), ("cotter/asmtext.rows", laid_cotter_asmtext_rows)], narrowed := true }
def AsmMayUptoSaid : Prop := asmMayUptoRow.holds Tryz.pinned (OpenSpec.upto asmMaySpec)

/-- 'cotterlaw10.AsmUnnamed', WHERE WHAT IT READS IS OF BULK AT MOST 1048576: true; the input reads as it did. -/
def asmUnnamedUptoRow : OpenClaim := { program := "ytgjingleolhkbaagreatdoor", sum := "691e03f5892e4df5d382de49ceead255f21d92ba032c979c609b9217d01c3157", func := "cotter/cotterlaw10.AsmUnnamed", spec := "asmUnnamed", inPlace := ["internal/bytealg.IndexByteString", "internal/bytealg.IndexString"], unfollowed := true, recurses := true, named := ["internal/bytealg.MaxLen", "strconv.ErrSyntax", "strconv.ErrRange", "internal/strconv.uint64pow10", "math/bits.deBruijn32tab", "math/bits.deBruijn64tab", "cotter/asmtext.rows", "cotter/ins.formNumbers", "cotter/ins.forms"], apart := false, laid := [("cotter/ins.forms", laid_cotter_ins_forms), ("cotter/ins.formNumbers", laid_cotter_ins_formNumbers), ("math/bits.deBruijn32tab", laid_math_bits_deBruijn32tab), ("math/bits.deBruijn64tab", laid_math_bits_deBruijn64tab), ("internal/strconv.uint64pow10", laid_internal_strconv_uint64pow10), ("strconv.ErrRange", laid_strconv_ErrRange), ("strconv.ErrSyntax", laid_strconv_ErrSyntax), ("cotter/asmtext.rows", laid_cotter_asmtext_rows)], narrowed := true }
def AsmUnnamedUptoSaid : Prop := asmUnnamedUptoRow.holds Tryz.pinned (OpenSpec.upto asmUnnamedSpec)

/-- 'cotterlaw10.AsmNames', WHERE WHAT IT READS IS OF BULK AT MOST 1048576: true; the input reads as it did. -/
def asmNamesUptoRow : OpenClaim := { program := "ytgjingleolhkbaagreatdoor", sum := "691e03f5892e4df5d382de49ceead255f21d92ba032c979c609b9217d01c3157", func := "cotter/cotterlaw10.AsmNames", spec := "asmNames", inPlace := ["internal/bytealg.IndexByteString", "internal/bytealg.IndexString"], unfollowed := true, recurses := true, named := ["internal/bytealg.MaxLen", "strconv.ErrSyntax", "strconv.ErrRange", "internal/strconv.uint64pow10", "math/bits.deBruijn32tab", "math/bits.deBruijn64tab", "cotter/asmtext.rows", "cotter/ins.formNumbers", "cotter/ins.forms"], apart := false, laid := [("cotter/ins.forms", laid_cotter_ins_forms), ("cotter/ins.formNumbers", laid_cotter_ins_formNumbers), ("math/bits.deBruijn32tab", laid_math_bits_deBruijn32tab), ("math/bits.deBruijn64tab", laid_math_bits_deBruijn64tab), ("internal/strconv.uint64pow10", laid_internal_strconv_uint64pow10), ("strconv.ErrRange", laid_strconv_ErrRange), ("strconv.ErrSyntax", laid_strconv_ErrSyntax), ("cotter/asmtext.rows", laid_cotter_asmtext_rows)], narrowed := true }
def AsmNamesUptoSaid : Prop := asmNamesUptoRow.holds Tryz.pinned (OpenSpec.upto asmNamesSpec)

/-- 'cotterlaw10.AsmShort', WHERE WHAT IT READS IS OF BULK AT MOST 1048576: true; the input reads as it did. -/
def asmShortUptoRow : OpenClaim := { program := "ytgjingleolhkbaagreatdoor", sum := "691e03f5892e4df5d382de49ceead255f21d92ba032c979c609b9217d01c3157", func := "cotter/cotterlaw10.AsmShort", spec := "asmShort", inPlace := ["internal/bytealg.IndexByteString", "internal/bytealg.IndexString"], unfollowed := true, recurses := true, named := ["internal/bytealg.MaxLen", "strconv.ErrSyntax", "strconv.ErrRange", "internal/strconv.uint64pow10", "math/bits.deBruijn32tab", "math/bits.deBruijn64tab", "cotter/asmtext.rows", "cotter/ins.formNumbers", "cotter/ins.forms"], apart := false, laid := [("cotter/ins.forms", laid_cotter_ins_forms), ("cotter/ins.formNumbers", laid_cotter_ins_formNumbers), ("math/bits.deBruijn32tab", laid_math_bits_deBruijn32tab), ("math/bits.deBruijn64tab", laid_math_bits_deBruijn64tab), ("internal/strconv.uint64pow10", laid_internal_strconv_uint64pow10), ("strconv.ErrRange", laid_strconv_ErrRange), ("strconv.ErrSyntax", laid_strconv_ErrSyntax), ("cotter/asmtext.rows", laid_cotter_asmtext_rows)], narrowed := true }
def AsmShortUptoSaid : Prop := asmShortUptoRow.holds Tryz.pinned (OpenSpec.upto asmShortSpec)

end Rows
end Go.Proofs.YtgjingleolhkbaaGreatDoor

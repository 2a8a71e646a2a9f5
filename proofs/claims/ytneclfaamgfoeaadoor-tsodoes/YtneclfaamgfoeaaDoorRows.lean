/-
  NARROWER THAN 'FOR EVERY INPUT', by the rows' own cells (each row's printed sentence says how): TsoDoes: laid · TsoRuns: laid · TsoAlone: laid · TsoOrder: laid · TsoShifted: laid · TsoNow: laid.
  DERIVED. THE GIVEN ROWS OF THIS SEAT. 6 by the template 'for every input the law returns true; each argument reads behind the call as it read before'; 0 by the template 'total and deterministic' (their statements: YtneclfaamgfoeaaDoorTotals.lean).
  GIVEN WITH THE SEED: the statements are not yours to turn. If you find one false, say at which input.
  Laid BY PROGRAM, IN A SANDBOX (cutbox-rows.mjs): the forced cells as the released guide's own fill.sh prints them over the translation d71c56afec641840… (all of the seat's roots in one cut). By AI agents, Wed Nov 11 2026. No macro, syntax, notation, axiom, sorry.
-/
import Derived.Test.YtneclfaamgfoeaaDoorChecked
import GoSem.Claim
import GoSem.ClaimJoined
import GoSem.ClaimMapViews
import Derived.JoinedTies
import Derived.KernelRfl
namespace Go.Proofs.YtneclfaamgfoeaaDoor
/- THE CELL 'sum', in the pinned program and in every row, IS THE sha256 OF THE DUMP (.gsa) THAT YtneclfaamgfoeaaDoorProg.lean LOADS. Nothing in Lean hashes anything: it is a label: what it is worth is what the hold of that sum in a sandbox is worth. -/
noncomputable def Tryd.pinned : Pinned := { name := "ytneclfaamgfoeaadoor", sum := "d71c56afec641840d75487a7bdf1f99abcea9c64669d1e970920a803d4fd9c19", checked := Tryd.checked }
namespace Rows
def none {H : Type} : Left H := { results := [], args := [] }

/- WHAT THE LISTED PACKAGE-LEVEL VARIABLES READ AS WHEN THE CALL BEGINS. Each datum BY PROGRAM (the guide's laid-datum.mjs) off the statement by which the dump's own 'gosem.cut.vars' lays the variable. In a bare row this is a premise. The card (YtneclfaamgfoeaaDoorCards.lean) ties it to the program's text. -/
def laid_cotter_ins_forms {H : Type} : DataW H := .agg [.agg [.lit (.int .i64 0), .lit (.int .i64 0), .lit (.bool false)], .agg [.lit (.int .i64 0), .lit (.int .i64 0), .lit (.bool false)], .agg [.lit (.int .i64 1), .lit (.int .i64 0), .lit (.bool false)], .agg [.lit (.int .i64 2), .lit (.int .i64 0), .lit (.bool false)], .agg [.lit (.int .i64 0), .lit (.int .i64 1), .lit (.bool false)], .agg [.lit (.int .i64 0), .lit (.int .i64 4), .lit (.bool false)], .agg [.lit (.int .i64 1), .lit (.int .i64 1), .lit (.bool false)], .agg [.lit (.int .i64 1), .lit (.int .i64 4), .lit (.bool false)], .agg [.lit (.int .i64 1), .lit (.int .i64 8), .lit (.bool false)], .agg [.lit (.int .i64 2), .lit (.int .i64 4), .lit (.bool false)], .agg [.lit (.int .i64 0), .lit (.int .i64 1), .lit (.bool true)]]
def laid_cotter_ins_formNumbers {H : Type} : DataW H := .agg [.lit (.int .i64 0), .lit (.int .i64 8), .lit (.int .i64 3), .lit (.int .i64 3), .lit (.int .i64 3), .lit (.int .i64 3), .lit (.int .i64 3), .lit (.int .i64 3), .lit (.int .i64 3), .lit (.int .i64 3), .lit (.int .i64 3), .lit (.int .i64 3), .lit (.int .i64 3), .lit (.int .i64 3), .lit (.int .i64 3), .lit (.int .i64 3), .lit (.int .i64 3), .lit (.int .i64 9), .lit (.int .i64 9), .lit (.int .i64 7), .lit (.int .i64 5), .lit (.int .i64 7), .lit (.int .i64 7), .lit (.int .i64 5), .lit (.int .i64 1), .lit (.int .i64 4), .lit (.int .i64 6), .lit (.int .i64 6), .lit (.int .i64 9), .lit (.int .i64 9), .lit (.int .i64 1), .lit (.int .i64 2), .lit (.int .i64 1), .lit (.int .i64 10)]

/-- 'cotterlaw05.TsoDoes': WHATEVER THE INPUT: true; the input reads as it did. -/
def tsoDoesSpec : ChangeSpec := { name := "tsoDoes", fn := fun _ => fun
  | [d1, d2, d3] => { results := [.lit (.bool true)], args := [d1, d2, d3] }
  | _ => none }
def tsoDoesRow : OpenClaim := { program := "ytneclfaamgfoeaadoor", sum := "d71c56afec641840d75487a7bdf1f99abcea9c64669d1e970920a803d4fd9c19", func := "cotter/cotterlaw05.TsoDoes", spec := "tsoDoes", unfollowed := true, recurses := true, named := ["cotter/ins.formNumbers", "cotter/ins.forms"], apart := false, laid := [("cotter/ins.forms", laid_cotter_ins_forms), ("cotter/ins.formNumbers", laid_cotter_ins_formNumbers)] }
def TsoDoesSaid : Prop := tsoDoesRow.holds Tryd.pinned (OpenSpec.ofChange tsoDoesSpec)

/-- ITS FALSE NEIGHBOUR: 'it returns false'. Refute it at one input. -/
def tsoDoesWrong : ChangeSpec := { name := "tsoDoes", fn := fun _ => fun
  | [d1, d2, d3] => { results := [.lit (.bool false)], args := [d1, d2, d3] }
  | _ => none }
def TsoDoesWrongFalsely : Prop := tsoDoesRow.holds Tryd.pinned (OpenSpec.ofChange tsoDoesWrong)

/-- 'cotterlaw05.TsoRuns': WHATEVER THE INPUT: true; the input reads as it did. -/
def tsoRunsSpec : ChangeSpec := { name := "tsoRuns", fn := fun _ => fun
  | [d1, d2] => { results := [.lit (.bool true)], args := [d1, d2] }
  | _ => none }
def tsoRunsRow : OpenClaim := { program := "ytneclfaamgfoeaadoor", sum := "d71c56afec641840d75487a7bdf1f99abcea9c64669d1e970920a803d4fd9c19", func := "cotter/cotterlaw05.TsoRuns", spec := "tsoRuns", unfollowed := true, recurses := true, named := ["cotter/ins.formNumbers", "cotter/ins.forms"], apart := false, laid := [("cotter/ins.forms", laid_cotter_ins_forms), ("cotter/ins.formNumbers", laid_cotter_ins_formNumbers)] }
def TsoRunsSaid : Prop := tsoRunsRow.holds Tryd.pinned (OpenSpec.ofChange tsoRunsSpec)

/-- ITS FALSE NEIGHBOUR: 'it returns false'. Refute it at one input. -/
def tsoRunsWrong : ChangeSpec := { name := "tsoRuns", fn := fun _ => fun
  | [d1, d2] => { results := [.lit (.bool false)], args := [d1, d2] }
  | _ => none }
def TsoRunsWrongFalsely : Prop := tsoRunsRow.holds Tryd.pinned (OpenSpec.ofChange tsoRunsWrong)

/-- 'cotterlaw05.TsoAlone': WHATEVER THE INPUT: true; the input reads as it did. -/
def tsoAloneSpec : ChangeSpec := { name := "tsoAlone", fn := fun _ => fun
  | [d1, d2] => { results := [.lit (.bool true)], args := [d1, d2] }
  | _ => none }
def tsoAloneRow : OpenClaim := { program := "ytneclfaamgfoeaadoor", sum := "d71c56afec641840d75487a7bdf1f99abcea9c64669d1e970920a803d4fd9c19", func := "cotter/cotterlaw05.TsoAlone", spec := "tsoAlone", unfollowed := true, recurses := true, named := ["cotter/ins.formNumbers", "cotter/ins.forms"], apart := false, laid := [("cotter/ins.forms", laid_cotter_ins_forms), ("cotter/ins.formNumbers", laid_cotter_ins_formNumbers)] }
def TsoAloneSaid : Prop := tsoAloneRow.holds Tryd.pinned (OpenSpec.ofChange tsoAloneSpec)

/-- ITS FALSE NEIGHBOUR: 'it returns false'. Refute it at one input. -/
def tsoAloneWrong : ChangeSpec := { name := "tsoAlone", fn := fun _ => fun
  | [d1, d2] => { results := [.lit (.bool false)], args := [d1, d2] }
  | _ => none }
def TsoAloneWrongFalsely : Prop := tsoAloneRow.holds Tryd.pinned (OpenSpec.ofChange tsoAloneWrong)

/-- 'cotterlaw05.TsoOrder': WHATEVER THE INPUT: true; the input reads as it did. -/
def tsoOrderSpec : ChangeSpec := { name := "tsoOrder", fn := fun _ => fun
  | [d1, d2] => { results := [.lit (.bool true)], args := [d1, d2] }
  | _ => none }
def tsoOrderRow : OpenClaim := { program := "ytneclfaamgfoeaadoor", sum := "d71c56afec641840d75487a7bdf1f99abcea9c64669d1e970920a803d4fd9c19", func := "cotter/cotterlaw05.TsoOrder", spec := "tsoOrder", unfollowed := true, recurses := true, named := ["cotter/ins.formNumbers", "cotter/ins.forms"], apart := false, laid := [("cotter/ins.forms", laid_cotter_ins_forms), ("cotter/ins.formNumbers", laid_cotter_ins_formNumbers)] }
def TsoOrderSaid : Prop := tsoOrderRow.holds Tryd.pinned (OpenSpec.ofChange tsoOrderSpec)

/-- ITS FALSE NEIGHBOUR: 'it returns false'. Refute it at one input. -/
def tsoOrderWrong : ChangeSpec := { name := "tsoOrder", fn := fun _ => fun
  | [d1, d2] => { results := [.lit (.bool false)], args := [d1, d2] }
  | _ => none }
def TsoOrderWrongFalsely : Prop := tsoOrderRow.holds Tryd.pinned (OpenSpec.ofChange tsoOrderWrong)

/-- 'cotterlaw05.TsoShifted': WHATEVER THE INPUT: true; the input reads as it did. -/
def tsoShiftedSpec : ChangeSpec := { name := "tsoShifted", fn := fun _ => fun
  | [d1, d2] => { results := [.lit (.bool true)], args := [d1, d2] }
  | _ => none }
def tsoShiftedRow : OpenClaim := { program := "ytneclfaamgfoeaadoor", sum := "d71c56afec641840d75487a7bdf1f99abcea9c64669d1e970920a803d4fd9c19", func := "cotter/cotterlaw05.TsoShifted", spec := "tsoShifted", unfollowed := true, recurses := true, named := ["cotter/ins.formNumbers", "cotter/ins.forms"], apart := false, laid := [("cotter/ins.forms", laid_cotter_ins_forms), ("cotter/ins.formNumbers", laid_cotter_ins_formNumbers)] }
def TsoShiftedSaid : Prop := tsoShiftedRow.holds Tryd.pinned (OpenSpec.ofChange tsoShiftedSpec)

/-- ITS FALSE NEIGHBOUR: 'it returns false'. Refute it at one input. -/
def tsoShiftedWrong : ChangeSpec := { name := "tsoShifted", fn := fun _ => fun
  | [d1, d2] => { results := [.lit (.bool false)], args := [d1, d2] }
  | _ => none }
def TsoShiftedWrongFalsely : Prop := tsoShiftedRow.holds Tryd.pinned (OpenSpec.ofChange tsoShiftedWrong)

/-- 'cotterlaw05.TsoNow': WHATEVER THE INPUT: true; the input reads as it did. -/
def tsoNowSpec : ChangeSpec := { name := "tsoNow", fn := fun _ => fun
  | [d1, d2, d3] => { results := [.lit (.bool true)], args := [d1, d2, d3] }
  | _ => none }
def tsoNowRow : OpenClaim := { program := "ytneclfaamgfoeaadoor", sum := "d71c56afec641840d75487a7bdf1f99abcea9c64669d1e970920a803d4fd9c19", func := "cotter/cotterlaw05.TsoNow", spec := "tsoNow", unfollowed := true, recurses := true, named := ["cotter/ins.formNumbers", "cotter/ins.forms"], apart := false, laid := [("cotter/ins.forms", laid_cotter_ins_forms), ("cotter/ins.formNumbers", laid_cotter_ins_formNumbers)] }
def TsoNowSaid : Prop := tsoNowRow.holds Tryd.pinned (OpenSpec.ofChange tsoNowSpec)

/-- ITS FALSE NEIGHBOUR: 'it returns false'. Refute it at one input. -/
def tsoNowWrong : ChangeSpec := { name := "tsoNow", fn := fun _ => fun
  | [d1, d2, d3] => { results := [.lit (.bool false)], args := [d1, d2, d3] }
  | _ => none }
def TsoNowWrongFalsely : Prop := tsoNowRow.holds Tryd.pinned (OpenSpec.ofChange tsoNowWrong)

/- THE SECOND FORM. 'bulk': how many values and letters a reading holds, each counted each time it is reached (what is shared counts as often as it is met; a slice's spare places count too). A statement '..UptoSaid' is the law's where the arguments, and the package variables that the reading takes, are together of bulk at most 1048576: NARROWER than '..Said'. Prove '..Said' where nothing that the law and all that it calls make is longer than what came in: it says more and counts as full. Else prove '..UptoSaid'. A law counts once. -/
mutual
def uptoBulk {H : Type} : DataW H → Nat
  | .lit (.string bytes) => bytes.length + 1
  | .lit _ => 1
  | .nil => 1
  | .ptr d => uptoBulk d + 1
  | .slice elems spare => uptoBulkAll elems + uptoBulkAll spare + 1
  | .agg parts => uptoBulkAll parts + 1
  | .iface _ d => uptoBulk d + 1
  | .map entries => uptoBulkEntries entries + 1
  | .held _ => 1
def uptoBulkAll {H : Type} : List (DataW H) → Nat
  | [] => 0
  | d :: r => uptoBulk d + uptoBulkAll r
def uptoBulkEntries {H : Type} : List (Lit × DataW H) → Nat
  | [] => 0
  | x :: r => uptoBulkEntry x + uptoBulkEntries r
def uptoBulkEntry {H : Type} : Lit × DataW H → Nat
  | (.string bytes, d) => bytes.length + uptoBulk d + 1
  | (_, d) => uptoBulk d + 1
 end
def uptoSmall : (H : Type) → List (DataW H) → Bool := fun _ ds => decide (uptoBulkAll ds ≤ 1048576)
def OpenSpec.upto (s : _root_.Go.ChangeSpec) : _root_.Go.OpenSpec := { _root_.Go.OpenSpec.ofChange s with cond := some uptoSmall }

/-- 'cotterlaw05.TsoDoes', WHERE WHAT IT READS IS OF BULK AT MOST 1048576: true; the input reads as it did. -/
def tsoDoesUptoRow : OpenClaim := { program := "ytneclfaamgfoeaadoor", sum := "d71c56afec641840d75487a7bdf1f99abcea9c64669d1e970920a803d4fd9c19", func := "cotter/cotterlaw05.TsoDoes", spec := "tsoDoes", unfollowed := true, recurses := true, named := ["cotter/ins.formNumbers", "cotter/ins.forms"], apart := false, laid := [("cotter/ins.forms", laid_cotter_ins_forms), ("cotter/ins.formNumbers", laid_cotter_ins_formNumbers)], narrowed := true }
def TsoDoesUptoSaid : Prop := tsoDoesUptoRow.holds Tryd.pinned (OpenSpec.upto tsoDoesSpec)

/-- 'cotterlaw05.TsoRuns', WHERE WHAT IT READS IS OF BULK AT MOST 1048576: true; the input reads as it did. -/
def tsoRunsUptoRow : OpenClaim := { program := "ytneclfaamgfoeaadoor", sum := "d71c56afec641840d75487a7bdf1f99abcea9c64669d1e970920a803d4fd9c19", func := "cotter/cotterlaw05.TsoRuns", spec := "tsoRuns", unfollowed := true, recurses := true, named := ["cotter/ins.formNumbers", "cotter/ins.forms"], apart := false, laid := [("cotter/ins.forms", laid_cotter_ins_forms), ("cotter/ins.formNumbers", laid_cotter_ins_formNumbers)], narrowed := true }
def TsoRunsUptoSaid : Prop := tsoRunsUptoRow.holds Tryd.pinned (OpenSpec.upto tsoRunsSpec)

/-- 'cotterlaw05.TsoAlone', WHERE WHAT IT READS IS OF BULK AT MOST 1048576: true; the input reads as it did. -/
def tsoAloneUptoRow : OpenClaim := { program := "ytneclfaamgfoeaadoor", sum := "d71c56afec641840d75487a7bdf1f99abcea9c64669d1e970920a803d4fd9c19", func := "cotter/cotterlaw05.TsoAlone", spec := "tsoAlone", unfollowed := true, recurses := true, named := ["cotter/ins.formNumbers", "cotter/ins.forms"], apart := false, laid := [("cotter/ins.forms", laid_cotter_ins_forms), ("cotter/ins.formNumbers", laid_cotter_ins_formNumbers)], narrowed := true }
def TsoAloneUptoSaid : Prop := tsoAloneUptoRow.holds Tryd.pinned (OpenSpec.upto tsoAloneSpec)

/-- 'cotterlaw05.TsoOrder', WHERE WHAT IT READS IS OF BULK AT MOST 1048576: true; the input reads as it did. -/
def tsoOrderUptoRow : OpenClaim := { program := "ytneclfaamgfoeaadoor", sum := "d71c56afec641840d75487a7bdf1f99abcea9c64669d1e970920a803d4fd9c19", func := "cotter/cotterlaw05.TsoOrder", spec := "tsoOrder", unfollowed := true, recurses := true, named := ["cotter/ins.formNumbers", "cotter/ins.forms"], apart := false, laid := [("cotter/ins.forms", laid_cotter_ins_forms), ("cotter/ins.formNumbers", laid_cotter_ins_formNumbers)], narrowed := true }
def TsoOrderUptoSaid : Prop := tsoOrderUptoRow.holds Tryd.pinned (OpenSpec.upto tsoOrderSpec)

/-- 'cotterlaw05.TsoShifted', WHERE WHAT IT READS IS OF BULK AT MOST 1048576: true; the input reads as it did. -/
def tsoShiftedUptoRow : OpenClaim := { program := "ytneclfaamgfoeaadoor", sum := "d71c56afec641840d75487a7bdf1f99abcea9c64669d1e970920a803d4fd9c19", func := "cotter/cotterlaw05.TsoShifted", spec := "tsoShifted", unfollowed := true, recurses := true, named := ["cotter/ins.formNumbers", "cotter/ins.forms"], apart := false, laid := [("cotter/ins.forms", laid_cotter_ins_forms), ("cotter/ins.formNumbers", laid_cotter_ins_formNumbers)], narrowed := true }
def TsoShiftedUptoSaid : Prop := tsoShiftedUptoRow.holds Tryd.pinned (OpenSpec.upto tsoShiftedSpec)

/-- 'cotterlaw05.TsoNow', WHERE WHAT IT READS IS OF BULK AT MOST 1048576: true; the input reads as it did. -/
def tsoNowUptoRow : OpenClaim := { program := "ytneclfaamgfoeaadoor", sum := "d71c56afec641840d75487a7bdf1f99abcea9c64669d1e970920a803d4fd9c19", func := "cotter/cotterlaw05.TsoNow", spec := "tsoNow", unfollowed := true, recurses := true, named := ["cotter/ins.formNumbers", "cotter/ins.forms"], apart := false, laid := [("cotter/ins.forms", laid_cotter_ins_forms), ("cotter/ins.formNumbers", laid_cotter_ins_formNumbers)], narrowed := true }
def TsoNowUptoSaid : Prop := tsoNowUptoRow.holds Tryd.pinned (OpenSpec.upto tsoNowSpec)

end Rows
end Go.Proofs.YtneclfaamgfoeaaDoor

/-
  DERIVED. GIVEN WITH THE SEED: THE CARDS: each row of YtneclfaamgfoeaaDoorRows.lean that lists a variable, with what it lists TIED to the program's text (the seventh form; the later family's looks); each row that meets fmt, with fmt's text TOLD by the authors' own Lean function (tested against real Go, not proved from fmt's source: count such statements apart). THE CARD IS WHAT COUNTS. Prove the row's statement (the work); the ties are given (YtneclfaamgfoeaaDoorTie.lean); close each card by the builder's one call (the guide's Derived/Test/ToyasCard.lean, 'card_holds'). Laid BY PROGRAM, IN A SANDBOX (cutbox-door.mjs). By AI agents, Wed Nov 11 2026. No macro, syntax, notation, axiom, sorry.
-/
import Derived.Test.YtneclfaamgfoeaaDoorRows
import GoSem.ClaimSeven
namespace Go.Proofs.YtneclfaamgfoeaaDoor
namespace Rows

/-- THE TIED CARD OF 'cotterlaw05.TsoDoes'. -/
def tsoDoesCard : Claim7 := { stood := { row := tsoDoesRow, standIns := [], harness := (true, "7260b4169e38bddb2343055bf153cb8d17dd1365353d7499f2655985f315b728"), looks := false }, kinds := [], alts := [], laidByText := true, laidKinds := [.data, .data], laidTests := true, laidLooks := .later }
def TsoDoesCardSaid : Prop := Claim7.holds Tryd.pinned (.plain (OpenSpec.ofChange tsoDoesSpec)) tsoDoesCard

/-- THE TIED CARD OF 'cotterlaw05.TsoRuns'. -/
def tsoRunsCard : Claim7 := { stood := { row := tsoRunsRow, standIns := [], harness := (true, "7260b4169e38bddb2343055bf153cb8d17dd1365353d7499f2655985f315b728"), looks := false }, kinds := [], alts := [], laidByText := true, laidKinds := [.data, .data], laidTests := true, laidLooks := .later }
def TsoRunsCardSaid : Prop := Claim7.holds Tryd.pinned (.plain (OpenSpec.ofChange tsoRunsSpec)) tsoRunsCard

/-- THE TIED CARD OF 'cotterlaw05.TsoAlone'. -/
def tsoAloneCard : Claim7 := { stood := { row := tsoAloneRow, standIns := [], harness := (true, "7260b4169e38bddb2343055bf153cb8d17dd1365353d7499f2655985f315b728"), looks := false }, kinds := [], alts := [], laidByText := true, laidKinds := [.data, .data], laidTests := true, laidLooks := .later }
def TsoAloneCardSaid : Prop := Claim7.holds Tryd.pinned (.plain (OpenSpec.ofChange tsoAloneSpec)) tsoAloneCard

/-- THE TIED CARD OF 'cotterlaw05.TsoOrder'. -/
def tsoOrderCard : Claim7 := { stood := { row := tsoOrderRow, standIns := [], harness := (true, "7260b4169e38bddb2343055bf153cb8d17dd1365353d7499f2655985f315b728"), looks := false }, kinds := [], alts := [], laidByText := true, laidKinds := [.data, .data], laidTests := true, laidLooks := .later }
def TsoOrderCardSaid : Prop := Claim7.holds Tryd.pinned (.plain (OpenSpec.ofChange tsoOrderSpec)) tsoOrderCard

/-- THE TIED CARD OF 'cotterlaw05.TsoShifted'. -/
def tsoShiftedCard : Claim7 := { stood := { row := tsoShiftedRow, standIns := [], harness := (true, "7260b4169e38bddb2343055bf153cb8d17dd1365353d7499f2655985f315b728"), looks := false }, kinds := [], alts := [], laidByText := true, laidKinds := [.data, .data], laidTests := true, laidLooks := .later }
def TsoShiftedCardSaid : Prop := Claim7.holds Tryd.pinned (.plain (OpenSpec.ofChange tsoShiftedSpec)) tsoShiftedCard

/-- THE TIED CARD OF 'cotterlaw05.TsoNow'. -/
def tsoNowCard : Claim7 := { stood := { row := tsoNowRow, standIns := [], harness := (true, "7260b4169e38bddb2343055bf153cb8d17dd1365353d7499f2655985f315b728"), looks := false }, kinds := [], alts := [], laidByText := true, laidKinds := [.data, .data], laidTests := true, laidLooks := .later }
def TsoNowCardSaid : Prop := Claim7.holds Tryd.pinned (.plain (OpenSpec.ofChange tsoNowSpec)) tsoNowCard

/-- THE SECOND FORM's CARD OF 'cotterlaw05.TsoDoes'. -/
def tsoDoesUptoCard : Claim7 := { stood := { row := tsoDoesUptoRow, standIns := [], harness := (true, "7260b4169e38bddb2343055bf153cb8d17dd1365353d7499f2655985f315b728"), looks := false }, kinds := [], alts := [], laidByText := true, laidKinds := [.data, .data], laidTests := true, laidLooks := .later }
def TsoDoesUptoCardSaid : Prop := Claim7.holds Tryd.pinned (.plain (OpenSpec.upto tsoDoesSpec)) tsoDoesUptoCard

/-- THE SECOND FORM's CARD OF 'cotterlaw05.TsoRuns'. -/
def tsoRunsUptoCard : Claim7 := { stood := { row := tsoRunsUptoRow, standIns := [], harness := (true, "7260b4169e38bddb2343055bf153cb8d17dd1365353d7499f2655985f315b728"), looks := false }, kinds := [], alts := [], laidByText := true, laidKinds := [.data, .data], laidTests := true, laidLooks := .later }
def TsoRunsUptoCardSaid : Prop := Claim7.holds Tryd.pinned (.plain (OpenSpec.upto tsoRunsSpec)) tsoRunsUptoCard

/-- THE SECOND FORM's CARD OF 'cotterlaw05.TsoAlone'. -/
def tsoAloneUptoCard : Claim7 := { stood := { row := tsoAloneUptoRow, standIns := [], harness := (true, "7260b4169e38bddb2343055bf153cb8d17dd1365353d7499f2655985f315b728"), looks := false }, kinds := [], alts := [], laidByText := true, laidKinds := [.data, .data], laidTests := true, laidLooks := .later }
def TsoAloneUptoCardSaid : Prop := Claim7.holds Tryd.pinned (.plain (OpenSpec.upto tsoAloneSpec)) tsoAloneUptoCard

/-- THE SECOND FORM's CARD OF 'cotterlaw05.TsoOrder'. -/
def tsoOrderUptoCard : Claim7 := { stood := { row := tsoOrderUptoRow, standIns := [], harness := (true, "7260b4169e38bddb2343055bf153cb8d17dd1365353d7499f2655985f315b728"), looks := false }, kinds := [], alts := [], laidByText := true, laidKinds := [.data, .data], laidTests := true, laidLooks := .later }
def TsoOrderUptoCardSaid : Prop := Claim7.holds Tryd.pinned (.plain (OpenSpec.upto tsoOrderSpec)) tsoOrderUptoCard

/-- THE SECOND FORM's CARD OF 'cotterlaw05.TsoShifted'. -/
def tsoShiftedUptoCard : Claim7 := { stood := { row := tsoShiftedUptoRow, standIns := [], harness := (true, "7260b4169e38bddb2343055bf153cb8d17dd1365353d7499f2655985f315b728"), looks := false }, kinds := [], alts := [], laidByText := true, laidKinds := [.data, .data], laidTests := true, laidLooks := .later }
def TsoShiftedUptoCardSaid : Prop := Claim7.holds Tryd.pinned (.plain (OpenSpec.upto tsoShiftedSpec)) tsoShiftedUptoCard

/-- THE SECOND FORM's CARD OF 'cotterlaw05.TsoNow'. -/
def tsoNowUptoCard : Claim7 := { stood := { row := tsoNowUptoRow, standIns := [], harness := (true, "7260b4169e38bddb2343055bf153cb8d17dd1365353d7499f2655985f315b728"), looks := false }, kinds := [], alts := [], laidByText := true, laidKinds := [.data, .data], laidTests := true, laidLooks := .later }
def TsoNowUptoCardSaid : Prop := Claim7.holds Tryd.pinned (.plain (OpenSpec.upto tsoNowSpec)) tsoNowUptoCard
end Rows
end Go.Proofs.YtneclfaamgfoeaaDoor

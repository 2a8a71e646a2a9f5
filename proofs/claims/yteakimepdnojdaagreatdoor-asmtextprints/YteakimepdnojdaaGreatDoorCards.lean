/-
  DERIVED. GIVEN WITH THE SEED: THE CARDS: each row of YteakimepdnojdaaGreatDoorRows.lean that lists a variable, with what it lists TIED to the program's text (the seventh form; the later family's looks); each row that meets fmt, with fmt's text TOLD by the authors' own Lean function (tested against real Go, not proved from fmt's source: count such statements apart). THE CARD IS WHAT COUNTS. Prove the row's statement (the work); the ties are given (YteakimepdnojdaaGreatDoorTie.lean); close each card by the builder's one call (the guide's Derived/Test/ToyasCard.lean, 'card_holds'). Laid BY PROGRAM, IN A SANDBOX (cutbox-door.mjs). By AI agents, Wed Nov 11 2026. No macro, syntax, notation, axiom, sorry.
-/
import Derived.Test.YteakimepdnojdaaGreatDoorRows
import GoSem.ClaimSeven
namespace Go.Proofs.YteakimepdnojdaaGreatDoor
namespace Rows

/-- THE TIED CARD OF 'cotterlaw09.AsmtextReads'. -/
def asmtextReadsCard : Claim7 := { stood := { row := asmtextReadsRow, standIns := [], harness := (true, "9ed4fa19f19c91584347b6aa5d61acbb70f0958ce971e4db89e64a02757b1b71"), looks := true }, kinds := [], alts := [], laidByText := true, laidKinds := [.data, .data, .data, .sentinel, .sentinel, .data], laidTests := true, laidLooks := .later }
def AsmtextReadsCardSaid : Prop := Claim7.holds Tryz.pinned (.plain (OpenSpec.ofChange asmtextReadsSpec)) asmtextReadsCard

/-- THE TIED CARD OF 'cotterlaw09.AsmtextPrints'. -/
def asmtextPrintsCard : Claim7 := { stood := { row := asmtextPrintsRow, standIns := [], harness := (true, "9ed4fa19f19c91584347b6aa5d61acbb70f0958ce971e4db89e64a02757b1b71"), looks := true }, kinds := [], alts := [], laidByText := true, laidKinds := [.data, .data, .data, .sentinel, .sentinel, .data], laidTests := true, laidLooks := .later }
def AsmtextPrintsCardSaid : Prop := Claim7.holds Tryz.pinned (.plain (OpenSpec.ofChange asmtextPrintsSpec)) asmtextPrintsCard

/-- THE SECOND FORM's CARD OF 'cotterlaw09.AsmtextReads'. -/
def asmtextReadsUptoCard : Claim7 := { stood := { row := asmtextReadsUptoRow, standIns := [], harness := (true, "9ed4fa19f19c91584347b6aa5d61acbb70f0958ce971e4db89e64a02757b1b71"), looks := true }, kinds := [], alts := [], laidByText := true, laidKinds := [.data, .data, .data, .sentinel, .sentinel, .data], laidTests := true, laidLooks := .later }
def AsmtextReadsUptoCardSaid : Prop := Claim7.holds Tryz.pinned (.plain (OpenSpec.upto asmtextReadsSpec)) asmtextReadsUptoCard

/-- THE SECOND FORM's CARD OF 'cotterlaw09.AsmtextPrints'. -/
def asmtextPrintsUptoCard : Claim7 := { stood := { row := asmtextPrintsUptoRow, standIns := [], harness := (true, "9ed4fa19f19c91584347b6aa5d61acbb70f0958ce971e4db89e64a02757b1b71"), looks := true }, kinds := [], alts := [], laidByText := true, laidKinds := [.data, .data, .data, .sentinel, .sentinel, .data], laidTests := true, laidLooks := .later }
def AsmtextPrintsUptoCardSaid : Prop := Claim7.holds Tryz.pinned (.plain (OpenSpec.upto asmtextPrintsSpec)) asmtextPrintsUptoCard
end Rows
end Go.Proofs.YteakimepdnojdaaGreatDoor

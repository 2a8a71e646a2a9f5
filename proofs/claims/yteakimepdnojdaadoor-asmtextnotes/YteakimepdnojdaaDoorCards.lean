/-
  DERIVED. GIVEN WITH THE SEED: THE CARDS: each row of YteakimepdnojdaaDoorRows.lean that lists a variable, with what it lists TIED to the program's text (the seventh form; the later family's looks); each row that meets fmt, with fmt's text TOLD by the authors' own Lean function (tested against real Go, not proved from fmt's source: count such statements apart). THE CARD IS WHAT COUNTS. Prove the row's statement (the work); the ties are given (YteakimepdnojdaaDoorTie.lean); close each card by the builder's one call (the guide's Derived/Test/ToyasCard.lean, 'card_holds'). Laid BY PROGRAM, IN A SANDBOX (cutbox-door.mjs). By AI agents, Wed Nov 11 2026. No macro, syntax, notation, axiom, sorry.
-/
import Derived.Test.YteakimepdnojdaaDoorRows
import GoSem.ClaimSeven
namespace Go.Proofs.YteakimepdnojdaaDoor
namespace Rows

/-- THE TIED CARD OF 'cotterlaw09.AsmtextBack'. -/
def asmtextBackCard : Claim7 := { stood := { row := asmtextBackRow, standIns := [], harness := (true, "b117d6cc38addb101f623136879fc0afe3f3762c7d75716e8201077278a911f9"), looks := true }, kinds := [], alts := [], laidByText := true, laidKinds := [.data, .data, .data, .sentinel, .sentinel, .data], laidTests := true, laidLooks := .later }
def AsmtextBackCardSaid : Prop := Claim7.holds Tryd.pinned (.plain (OpenSpec.ofChange asmtextBackSpec)) asmtextBackCard

/-- THE TIED CARD OF 'cotterlaw09.AsmtextJoined'. -/
def asmtextJoinedCard : Claim7 := { stood := { row := asmtextJoinedRow, standIns := [], harness := (true, "b117d6cc38addb101f623136879fc0afe3f3762c7d75716e8201077278a911f9"), looks := true }, kinds := [], alts := [], laidByText := true, laidKinds := [.data, .data, .data, .sentinel, .sentinel, .data], laidTests := true, laidLooks := .later }
def AsmtextJoinedCardSaid : Prop := Claim7.holds Tryd.pinned (.plain (OpenSpec.ofChange asmtextJoinedSpec)) asmtextJoinedCard

/-- THE TIED CARD OF 'cotterlaw09.AsmtextNotes'. -/
def asmtextNotesCard : Claim7 := { stood := { row := asmtextNotesRow, standIns := [], harness := (true, "b117d6cc38addb101f623136879fc0afe3f3762c7d75716e8201077278a911f9"), looks := true }, kinds := [], alts := [], laidByText := true, laidKinds := [.data, .data, .data, .sentinel, .sentinel, .data], laidTests := true, laidLooks := .later }
def AsmtextNotesCardSaid : Prop := Claim7.holds Tryd.pinned (.plain (OpenSpec.ofChange asmtextNotesSpec)) asmtextNotesCard

/-- THE TIED CARD OF 'cotterlaw09.AsmtextApart'. -/
def asmtextApartCard : Claim7 := { stood := { row := asmtextApartRow, standIns := [], harness := (true, "b117d6cc38addb101f623136879fc0afe3f3762c7d75716e8201077278a911f9"), looks := true }, kinds := [], alts := [], laidByText := true, laidKinds := [.data, .data, .data, .sentinel, .sentinel, .data], laidTests := true, laidLooks := .later }
def AsmtextApartCardSaid : Prop := Claim7.holds Tryd.pinned (.plain (OpenSpec.ofChange asmtextApartSpec)) asmtextApartCard

/-- THE SECOND FORM's CARD OF 'cotterlaw09.AsmtextBack'. -/
def asmtextBackUptoCard : Claim7 := { stood := { row := asmtextBackUptoRow, standIns := [], harness := (true, "b117d6cc38addb101f623136879fc0afe3f3762c7d75716e8201077278a911f9"), looks := true }, kinds := [], alts := [], laidByText := true, laidKinds := [.data, .data, .data, .sentinel, .sentinel, .data], laidTests := true, laidLooks := .later }
def AsmtextBackUptoCardSaid : Prop := Claim7.holds Tryd.pinned (.plain (OpenSpec.upto asmtextBackSpec)) asmtextBackUptoCard

/-- THE SECOND FORM's CARD OF 'cotterlaw09.AsmtextJoined'. -/
def asmtextJoinedUptoCard : Claim7 := { stood := { row := asmtextJoinedUptoRow, standIns := [], harness := (true, "b117d6cc38addb101f623136879fc0afe3f3762c7d75716e8201077278a911f9"), looks := true }, kinds := [], alts := [], laidByText := true, laidKinds := [.data, .data, .data, .sentinel, .sentinel, .data], laidTests := true, laidLooks := .later }
def AsmtextJoinedUptoCardSaid : Prop := Claim7.holds Tryd.pinned (.plain (OpenSpec.upto asmtextJoinedSpec)) asmtextJoinedUptoCard

/-- THE SECOND FORM's CARD OF 'cotterlaw09.AsmtextNotes'. -/
def asmtextNotesUptoCard : Claim7 := { stood := { row := asmtextNotesUptoRow, standIns := [], harness := (true, "b117d6cc38addb101f623136879fc0afe3f3762c7d75716e8201077278a911f9"), looks := true }, kinds := [], alts := [], laidByText := true, laidKinds := [.data, .data, .data, .sentinel, .sentinel, .data], laidTests := true, laidLooks := .later }
def AsmtextNotesUptoCardSaid : Prop := Claim7.holds Tryd.pinned (.plain (OpenSpec.upto asmtextNotesSpec)) asmtextNotesUptoCard

/-- THE SECOND FORM's CARD OF 'cotterlaw09.AsmtextApart'. -/
def asmtextApartUptoCard : Claim7 := { stood := { row := asmtextApartUptoRow, standIns := [], harness := (true, "b117d6cc38addb101f623136879fc0afe3f3762c7d75716e8201077278a911f9"), looks := true }, kinds := [], alts := [], laidByText := true, laidKinds := [.data, .data, .data, .sentinel, .sentinel, .data], laidTests := true, laidLooks := .later }
def AsmtextApartUptoCardSaid : Prop := Claim7.holds Tryd.pinned (.plain (OpenSpec.upto asmtextApartSpec)) asmtextApartUptoCard
end Rows
end Go.Proofs.YteakimepdnojdaaDoor

/-
  DERIVED. GIVEN WITH THE SEED: THE CARDS: each row of YtbkjiipelmfbjaaGreatDoorRows.lean that lists a variable, with what it lists TIED to the program's text (the seventh form; the later family's looks); each row that meets fmt, with fmt's text TOLD by the authors' own Lean function (tested against real Go, not proved from fmt's source: count such statements apart). THE CARD IS WHAT COUNTS. Prove the row's statement (the work); the ties are given (YtbkjiipelmfbjaaGreatDoorTie.lean); close each card by the builder's one call (the guide's Derived/Test/ToyasCard.lean, 'card_holds'). Laid BY PROGRAM, IN A SANDBOX (cutbox-door.mjs). By AI agents, Wed Nov 11 2026. No macro, syntax, notation, axiom, sorry.
-/
import Derived.Test.YtbkjiipelmfbjaaGreatDoorRows
import GoSem.ClaimSeven
namespace Go.Proofs.YtbkjiipelmfbjaaGreatDoor
namespace Rows

/-- THE TIED CARD OF 'cotterlaw09.AsmtextReads'. -/
def asmtextReadsCard : Claim7 := { stood := { row := asmtextReadsRow, standIns := [], harness := (true, "8f8a77ebd23cc3858f6d008f3f930ac44bdaa42abbc387606ff731e1a0e5562e"), looks := true }, kinds := [], alts := [], laidByText := true, laidKinds := [.data, .data, .data, .sentinel, .sentinel, .data], laidTests := true, laidLooks := .later }
def AsmtextReadsCardSaid : Prop := Claim7.holds Tryz.pinned (.plain (OpenSpec.ofChange asmtextReadsSpec)) asmtextReadsCard

/-- THE SECOND FORM's CARD OF 'cotterlaw09.AsmtextReads'. -/
def asmtextReadsUptoCard : Claim7 := { stood := { row := asmtextReadsUptoRow, standIns := [], harness := (true, "8f8a77ebd23cc3858f6d008f3f930ac44bdaa42abbc387606ff731e1a0e5562e"), looks := true }, kinds := [], alts := [], laidByText := true, laidKinds := [.data, .data, .data, .sentinel, .sentinel, .data], laidTests := true, laidLooks := .later }
def AsmtextReadsUptoCardSaid : Prop := Claim7.holds Tryz.pinned (.plain (OpenSpec.upto asmtextReadsSpec)) asmtextReadsUptoCard
end Rows
end Go.Proofs.YtbkjiipelmfbjaaGreatDoor

/-
  DERIVED. GIVEN WITH THE SEED: THE CARDS: each row of YtdcdmlboilojmabDoorRows.lean that lists a variable, with what it lists TIED to the program's text (the seventh form; the later family's looks); each row that meets fmt, with fmt's text TOLD by the authors' own Lean function (tested against real Go, not proved from fmt's source: count such statements apart). THE CARD IS WHAT COUNTS. Prove the row's statement (the work); the ties are given (YtdcdmlboilojmabDoorTie.lean); close each card by the builder's one call (the guide's Derived/Test/ToyasCard.lean, 'card_holds'). Laid BY PROGRAM, IN A SANDBOX (cutbox-door.mjs). By AI agents, Wed Nov 11 2026. No macro, syntax, notation, axiom, sorry.
-/
import Derived.Test.YtdcdmlboilojmabDoorRows
import GoSem.ClaimSeven
namespace Go.Proofs.YtdcdmlboilojmabDoor
namespace Rows

/-- THE TIED CARD OF 'cotterlaw05.TsoGrows'. -/
def tsoGrowsCard : Claim7 := { stood := { row := tsoGrowsRow, standIns := [], harness := (true, "b34e197c37347d83d020cd59521b4e2513652e2062038d47d2a992b291b962e8"), looks := false }, kinds := [], alts := [], laidByText := true, laidKinds := [.data, .data], laidTests := true, laidLooks := .later }
def TsoGrowsCardSaid : Prop := Claim7.holds Tryd.pinned (.plain (OpenSpec.ofChange tsoGrowsSpec)) tsoGrowsCard

/-- THE SECOND FORM's CARD OF 'cotterlaw05.TsoGrows'. -/
def tsoGrowsUptoCard : Claim7 := { stood := { row := tsoGrowsUptoRow, standIns := [], harness := (true, "b34e197c37347d83d020cd59521b4e2513652e2062038d47d2a992b291b962e8"), looks := false }, kinds := [], alts := [], laidByText := true, laidKinds := [.data, .data], laidTests := true, laidLooks := .later }
def TsoGrowsUptoCardSaid : Prop := Claim7.holds Tryd.pinned (.plain (OpenSpec.upto tsoGrowsSpec)) tsoGrowsUptoCard
end Rows
end Go.Proofs.YtdcdmlboilojmabDoor

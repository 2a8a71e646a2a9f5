/-
  DERIVED. GIVEN WITH THE SEED: THE CARDS: each row of YtffokdldgdjkhaaDoorRows.lean that lists a variable, with what it lists TIED to the program's text (the seventh form; the later family's looks); each row that meets fmt, with fmt's text TOLD by the authors' own Lean function (tested against real Go, not proved from fmt's source: count such statements apart). THE CARD IS WHAT COUNTS. Prove the row's statement (the work); the ties are given (YtffokdldgdjkhaaDoorTie.lean); close each card by the builder's one call (the guide's Derived/Test/ToyasCard.lean, 'card_holds'). Laid BY PROGRAM, IN A SANDBOX (cutbox-door.mjs). By AI agents, Wed Nov 11 2026. No macro, syntax, notation, axiom, sorry.
-/
import Derived.Test.YtffokdldgdjkhaaDoorRows
import GoSem.ClaimSeven
namespace Go.Proofs.YtffokdldgdjkhaaDoor
namespace Rows

/-- THE TIED CARD OF 'cotterlaw08.ImageRuns'. -/
def imageRunsCard : Claim7 := { stood := { row := imageRunsRow, standIns := [], harness := (true, "a5a0a6e8b13b61e4e08a290ef5268407ec409b9a29515c53040e78bfa4113ed0"), looks := false }, kinds := [], alts := [], laidByText := true, laidKinds := [.data, .data], laidTests := true, laidLooks := .later }
def ImageRunsCardSaid : Prop := Claim7.holds Tryd.pinned (.plain (OpenSpec.ofChange imageRunsSpec)) imageRunsCard

/-- THE SECOND FORM's CARD OF 'cotterlaw08.ImageRuns'. -/
def imageRunsUptoCard : Claim7 := { stood := { row := imageRunsUptoRow, standIns := [], harness := (true, "a5a0a6e8b13b61e4e08a290ef5268407ec409b9a29515c53040e78bfa4113ed0"), looks := false }, kinds := [], alts := [], laidByText := true, laidKinds := [.data, .data], laidTests := true, laidLooks := .later }
def ImageRunsUptoCardSaid : Prop := Claim7.holds Tryd.pinned (.plain (OpenSpec.upto imageRunsSpec)) imageRunsUptoCard
end Rows
end Go.Proofs.YtffokdldgdjkhaaDoor

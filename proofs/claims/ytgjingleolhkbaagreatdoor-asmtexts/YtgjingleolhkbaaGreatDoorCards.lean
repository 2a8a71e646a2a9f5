/-
  DERIVED. GIVEN WITH THE SEED: THE CARDS: each row of YtgjingleolhkbaaGreatDoorRows.lean that lists a variable, with what it lists TIED to the program's text (the seventh form; the later family's looks); each row that meets fmt, with fmt's text TOLD by the authors' own Lean function (tested against real Go, not proved from fmt's source: count such statements apart). THE CARD IS WHAT COUNTS. Prove the row's statement (the work); the ties are given (YtgjingleolhkbaaGreatDoorTie.lean); close each card by the builder's one call (the guide's Derived/Test/ToyasCard.lean, 'card_holds'). Laid BY PROGRAM, IN A SANDBOX (cutbox-door.mjs). By AI agents, Wed Nov 11 2026. No macro, syntax, notation, axiom, sorry.
-/
import Derived.Test.YtgjingleolhkbaaGreatDoorRows
import GoSem.ClaimSeven
namespace Go.Proofs.YtgjingleolhkbaaGreatDoor
namespace Rows

/-- THE TIED CARD OF 'cotterlaw10.AsmMakes'. -/
def asmMakesCard : Claim7 := { stood := { row := asmMakesRow, standIns := [], harness := (true, "cbb9b589975e7b5cee19f1913b50af6408309b38e14151e3ec4be72d572fb8e5"), looks := true }, kinds := [], alts := [], laidByText := true, laidKinds := [.data, .data, .data, .data, .data, .sentinel, .sentinel, .data], laidTests := true, laidLooks := .later }
def AsmMakesCardSaid : Prop := Claim7.holds Tryz.pinned (.plain (OpenSpec.ofChange asmMakesSpec)) asmMakesCard

/-- THE TIED CARD OF 'cotterlaw10.AsmTexts'. -/
def asmTextsCard : Claim7 := { stood := { row := asmTextsRow, standIns := [], harness := (true, "cbb9b589975e7b5cee19f1913b50af6408309b38e14151e3ec4be72d572fb8e5"), looks := true }, kinds := [], alts := [], laidByText := true, laidKinds := [.data, .data, .data, .data, .data, .sentinel, .sentinel, .data], laidTests := true, laidLooks := .later }
def AsmTextsCardSaid : Prop := Claim7.holds Tryz.pinned (.plain (OpenSpec.ofChange asmTextsSpec)) asmTextsCard

/-- THE TIED CARD OF 'cotterlaw10.AsmMay'. -/
def asmMayCard : Claim7 := { stood := { row := asmMayRow, standIns := [], harness := (true, "cbb9b589975e7b5cee19f1913b50af6408309b38e14151e3ec4be72d572fb8e5"), looks := true }, kinds := [], alts := [], laidByText := true, laidKinds := [.data, .data, .data, .data, .data, .sentinel, .sentinel, .data], laidTests := true, laidLooks := .later }
def AsmMayCardSaid : Prop := Claim7.holds Tryz.pinned (.plain (OpenSpec.ofChange asmMaySpec)) asmMayCard

/-- THE TIED CARD OF 'cotterlaw10.AsmUnnamed'. -/
def asmUnnamedCard : Claim7 := { stood := { row := asmUnnamedRow, standIns := [], harness := (true, "cbb9b589975e7b5cee19f1913b50af6408309b38e14151e3ec4be72d572fb8e5"), looks := true }, kinds := [], alts := [], laidByText := true, laidKinds := [.data, .data, .data, .data, .data, .sentinel, .sentinel, .data], laidTests := true, laidLooks := .later }
def AsmUnnamedCardSaid : Prop := Claim7.holds Tryz.pinned (.plain (OpenSpec.ofChange asmUnnamedSpec)) asmUnnamedCard

/-- THE TIED CARD OF 'cotterlaw10.AsmNames'. -/
def asmNamesCard : Claim7 := { stood := { row := asmNamesRow, standIns := [], harness := (true, "cbb9b589975e7b5cee19f1913b50af6408309b38e14151e3ec4be72d572fb8e5"), looks := true }, kinds := [], alts := [], laidByText := true, laidKinds := [.data, .data, .data, .data, .data, .sentinel, .sentinel, .data], laidTests := true, laidLooks := .later }
def AsmNamesCardSaid : Prop := Claim7.holds Tryz.pinned (.plain (OpenSpec.ofChange asmNamesSpec)) asmNamesCard

/-- THE TIED CARD OF 'cotterlaw10.AsmShort'. -/
def asmShortCard : Claim7 := { stood := { row := asmShortRow, standIns := [], harness := (true, "cbb9b589975e7b5cee19f1913b50af6408309b38e14151e3ec4be72d572fb8e5"), looks := true }, kinds := [], alts := [], laidByText := true, laidKinds := [.data, .data, .data, .data, .data, .sentinel, .sentinel, .data], laidTests := true, laidLooks := .later }
def AsmShortCardSaid : Prop := Claim7.holds Tryz.pinned (.plain (OpenSpec.ofChange asmShortSpec)) asmShortCard

/-- THE SECOND FORM's CARD OF 'cotterlaw10.AsmMakes'. -/
def asmMakesUptoCard : Claim7 := { stood := { row := asmMakesUptoRow, standIns := [], harness := (true, "cbb9b589975e7b5cee19f1913b50af6408309b38e14151e3ec4be72d572fb8e5"), looks := true }, kinds := [], alts := [], laidByText := true, laidKinds := [.data, .data, .data, .data, .data, .sentinel, .sentinel, .data], laidTests := true, laidLooks := .later }
def AsmMakesUptoCardSaid : Prop := Claim7.holds Tryz.pinned (.plain (OpenSpec.upto asmMakesSpec)) asmMakesUptoCard

/-- THE SECOND FORM's CARD OF 'cotterlaw10.AsmTexts'. -/
def asmTextsUptoCard : Claim7 := { stood := { row := asmTextsUptoRow, standIns := [], harness := (true, "cbb9b589975e7b5cee19f1913b50af6408309b38e14151e3ec4be72d572fb8e5"), looks := true }, kinds := [], alts := [], laidByText := true, laidKinds := [.data, .data, .data, .data, .data, .sentinel, .sentinel, .data], laidTests := true, laidLooks := .later }
def AsmTextsUptoCardSaid : Prop := Claim7.holds Tryz.pinned (.plain (OpenSpec.upto asmTextsSpec)) asmTextsUptoCard

/-- THE SECOND FORM's CARD OF 'cotterlaw10.AsmMay'. -/
def asmMayUptoCard : Claim7 := { stood := { row := asmMayUptoRow, standIns := [], harness := (true, "cbb9b589975e7b5cee19f1913b50af6408309b38e14151e3ec4be72d572fb8e5"), looks := true }, kinds := [], alts := [], laidByText := true, laidKinds := [.data, .data, .data, .data, .data, .sentinel, .sentinel, .data], laidTests := true, laidLooks := .later }
def AsmMayUptoCardSaid : Prop := Claim7.holds Tryz.pinned (.plain (OpenSpec.upto asmMaySpec)) asmMayUptoCard

/-- THE SECOND FORM's CARD OF 'cotterlaw10.AsmUnnamed'. -/
def asmUnnamedUptoCard : Claim7 := { stood := { row := asmUnnamedUptoRow, standIns := [], harness := (true, "cbb9b589975e7b5cee19f1913b50af6408309b38e14151e3ec4be72d572fb8e5"), looks := true }, kinds := [], alts := [], laidByText := true, laidKinds := [.data, .data, .data, .data, .data, .sentinel, .sentinel, .data], laidTests := true, laidLooks := .later }
def AsmUnnamedUptoCardSaid : Prop := Claim7.holds Tryz.pinned (.plain (OpenSpec.upto asmUnnamedSpec)) asmUnnamedUptoCard

/-- THE SECOND FORM's CARD OF 'cotterlaw10.AsmNames'. -/
def asmNamesUptoCard : Claim7 := { stood := { row := asmNamesUptoRow, standIns := [], harness := (true, "cbb9b589975e7b5cee19f1913b50af6408309b38e14151e3ec4be72d572fb8e5"), looks := true }, kinds := [], alts := [], laidByText := true, laidKinds := [.data, .data, .data, .data, .data, .sentinel, .sentinel, .data], laidTests := true, laidLooks := .later }
def AsmNamesUptoCardSaid : Prop := Claim7.holds Tryz.pinned (.plain (OpenSpec.upto asmNamesSpec)) asmNamesUptoCard

/-- THE SECOND FORM's CARD OF 'cotterlaw10.AsmShort'. -/
def asmShortUptoCard : Claim7 := { stood := { row := asmShortUptoRow, standIns := [], harness := (true, "cbb9b589975e7b5cee19f1913b50af6408309b38e14151e3ec4be72d572fb8e5"), looks := true }, kinds := [], alts := [], laidByText := true, laidKinds := [.data, .data, .data, .data, .data, .sentinel, .sentinel, .data], laidTests := true, laidLooks := .later }
def AsmShortUptoCardSaid : Prop := Claim7.holds Tryz.pinned (.plain (OpenSpec.upto asmShortSpec)) asmShortUptoCard
end Rows
end Go.Proofs.YtgjingleolhkbaaGreatDoor

/-
  DERIVED. GIVEN WITH THE SEED: THE CARDS: each row of YtljgpngbkmembaaDoorRows.lean that lists a variable, with what it lists TIED to the program's text (the seventh form; the later family's looks); each row that meets fmt, with fmt's text TOLD by the authors' own Lean function (tested against real Go, not proved from fmt's source: count such statements apart). THE CARD IS WHAT COUNTS. Prove the row's statement (the work); the ties are given (YtljgpngbkmembaaDoorTie.lean); close each card by the builder's one call (the guide's Derived/Test/ToyasCard.lean, 'card_holds'). Laid BY PROGRAM, IN A SANDBOX (cutbox-door.mjs). By AI agents, Wed Nov 11 2026. No macro, syntax, notation, axiom, sorry.
-/
import Derived.Test.YtljgpngbkmembaaDoorRows
import GoSem.ClaimSeven
namespace Go.Proofs.YtljgpngbkmembaaDoor
namespace Rows

/-- THE TIED CARD OF 'cotterlaw21.AllocLive'. -/
def allocLiveCard : Claim7 := { stood := { row := allocLiveRow, standIns := [], harness := (true, "35601aeec69b5aa6487e8412f974a5a6feb41407ae9355b3bbe8426e75ac66e0"), looks := false }, kinds := [], alts := [], laidByText := true, laidKinds := [.data, .data], laidTests := true, laidLooks := .later }
def AllocLiveCardSaid : Prop := Claim7.holds Tryd.pinned (.plain (OpenSpec.ofChange allocLiveSpec)) allocLiveCard

/-- THE TIED CARD OF 'cotterlaw21.AllocRight'. -/
def allocRightCard : Claim7 := { stood := { row := allocRightRow, standIns := [], harness := (true, "35601aeec69b5aa6487e8412f974a5a6feb41407ae9355b3bbe8426e75ac66e0"), looks := false }, kinds := [], alts := [], laidByText := true, laidKinds := [.data, .data], laidTests := true, laidLooks := .later }
def AllocRightCardSaid : Prop := Claim7.holds Tryd.pinned (.plain (OpenSpec.ofChange allocRightSpec)) allocRightCard

/-- THE TIED CARD OF 'cotterlaw21.AllocChecks'. -/
def allocChecksCard : Claim7 := { stood := { row := allocChecksRow, standIns := [], harness := (true, "35601aeec69b5aa6487e8412f974a5a6feb41407ae9355b3bbe8426e75ac66e0"), looks := false }, kinds := [], alts := [], laidByText := true, laidKinds := [.data, .data], laidTests := true, laidLooks := .later }
def AllocChecksCardSaid : Prop := Claim7.holds Tryd.pinned (.plain (OpenSpec.ofChange allocChecksSpec)) allocChecksCard

/-- THE TIED CARD OF 'cotterlaw21.AllocTurned'. -/
def allocTurnedCard : Claim7 := { stood := { row := allocTurnedRow, standIns := [], harness := (true, "35601aeec69b5aa6487e8412f974a5a6feb41407ae9355b3bbe8426e75ac66e0"), looks := false }, kinds := [], alts := [], laidByText := true, laidKinds := [.data, .data], laidTests := true, laidLooks := .later }
def AllocTurnedCardSaid : Prop := Claim7.holds Tryd.pinned (.plain (OpenSpec.ofChange allocTurnedSpec)) allocTurnedCard

/-- THE TIED CARD OF 'cotterlaw21.AllocAgain'. -/
def allocAgainCard : Claim7 := { stood := { row := allocAgainRow, standIns := [], harness := (true, "35601aeec69b5aa6487e8412f974a5a6feb41407ae9355b3bbe8426e75ac66e0"), looks := false }, kinds := [], alts := [], laidByText := true, laidKinds := [.data, .data], laidTests := true, laidLooks := .later }
def AllocAgainCardSaid : Prop := Claim7.holds Tryd.pinned (.plain (OpenSpec.ofChange allocAgainSpec)) allocAgainCard

/-- THE SECOND FORM's CARD OF 'cotterlaw21.AllocLive'. -/
def allocLiveUptoCard : Claim7 := { stood := { row := allocLiveUptoRow, standIns := [], harness := (true, "35601aeec69b5aa6487e8412f974a5a6feb41407ae9355b3bbe8426e75ac66e0"), looks := false }, kinds := [], alts := [], laidByText := true, laidKinds := [.data, .data], laidTests := true, laidLooks := .later }
def AllocLiveUptoCardSaid : Prop := Claim7.holds Tryd.pinned (.plain (OpenSpec.upto allocLiveSpec)) allocLiveUptoCard

/-- THE SECOND FORM's CARD OF 'cotterlaw21.AllocRight'. -/
def allocRightUptoCard : Claim7 := { stood := { row := allocRightUptoRow, standIns := [], harness := (true, "35601aeec69b5aa6487e8412f974a5a6feb41407ae9355b3bbe8426e75ac66e0"), looks := false }, kinds := [], alts := [], laidByText := true, laidKinds := [.data, .data], laidTests := true, laidLooks := .later }
def AllocRightUptoCardSaid : Prop := Claim7.holds Tryd.pinned (.plain (OpenSpec.upto allocRightSpec)) allocRightUptoCard

/-- THE SECOND FORM's CARD OF 'cotterlaw21.AllocChecks'. -/
def allocChecksUptoCard : Claim7 := { stood := { row := allocChecksUptoRow, standIns := [], harness := (true, "35601aeec69b5aa6487e8412f974a5a6feb41407ae9355b3bbe8426e75ac66e0"), looks := false }, kinds := [], alts := [], laidByText := true, laidKinds := [.data, .data], laidTests := true, laidLooks := .later }
def AllocChecksUptoCardSaid : Prop := Claim7.holds Tryd.pinned (.plain (OpenSpec.upto allocChecksSpec)) allocChecksUptoCard

/-- THE SECOND FORM's CARD OF 'cotterlaw21.AllocTurned'. -/
def allocTurnedUptoCard : Claim7 := { stood := { row := allocTurnedUptoRow, standIns := [], harness := (true, "35601aeec69b5aa6487e8412f974a5a6feb41407ae9355b3bbe8426e75ac66e0"), looks := false }, kinds := [], alts := [], laidByText := true, laidKinds := [.data, .data], laidTests := true, laidLooks := .later }
def AllocTurnedUptoCardSaid : Prop := Claim7.holds Tryd.pinned (.plain (OpenSpec.upto allocTurnedSpec)) allocTurnedUptoCard

/-- THE SECOND FORM's CARD OF 'cotterlaw21.AllocAgain'. -/
def allocAgainUptoCard : Claim7 := { stood := { row := allocAgainUptoRow, standIns := [], harness := (true, "35601aeec69b5aa6487e8412f974a5a6feb41407ae9355b3bbe8426e75ac66e0"), looks := false }, kinds := [], alts := [], laidByText := true, laidKinds := [.data, .data], laidTests := true, laidLooks := .later }
def AllocAgainUptoCardSaid : Prop := Claim7.holds Tryd.pinned (.plain (OpenSpec.upto allocAgainSpec)) allocAgainUptoCard
end Rows
end Go.Proofs.YtljgpngbkmembaaDoor

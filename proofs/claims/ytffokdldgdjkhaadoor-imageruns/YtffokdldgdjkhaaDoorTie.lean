/-
  DERIVED. GIVEN WITH THE SEED: THE PROGRAM's TIES (one call each: nine closed facts by the kernel) AND EACH ROW's TIE, after the 31st guide's Derived/Test/Toyas{Tie, Card}.lean. No idea stands in it: it is a product of the set-up. Laid BY PROGRAM, IN A SANDBOX (cutbox-door.mjs). By AI agents, Wed Nov 11 2026. No macro, syntax, notation, axiom, sorry.
-/
import Derived.Test.YtffokdldgdjkhaaDoorRows
import Derived.LaidByTextLater
import Derived.SevenTiedAt
import Derived.LaidSub
import Derived.LaidOnce
namespace Go.Proofs.YtffokdldgdjkhaaDoor
open Go
set_option maxRecDepth 100000
theorem seatTie1 : Tryd.prog.laidByTextLater [("cotter/ins.forms", Rows.laid_cotter_ins_forms), ("cotter/ins.formNumbers", Rows.laid_cotter_ins_formNumbers)] [.data, .data] true :=
  Program.laidByTextLater_by_one 30 8 35 (by kernel_rfl) (by kernel_rfl) (by kernel_rfl) (by kernel_rfl) (by kernel_rfl) (by kernel_rfl) (fun _ _ => by kernel_rfl)
theorem noOwnUnsafe : Tryd.pinned.checked.prog.headLifts.contains "ownunsafe" = false := by kernel_rfl
theorem tie : Tryd.prog.laidByTextLater [("cotter/ins.forms", Rows.laid_cotter_ins_forms), ("cotter/ins.formNumbers", Rows.laid_cotter_ins_formNumbers)] [.data, .data] true :=
  Program.laidByTextLater.sub seatTie1 ["cotter/ins.forms", "cotter/ins.formNumbers"] (by kernel_rfl) (by kernel_rfl)
theorem imageRuns_row_tie : Rows.imageRunsRow.laidByTextAt .later Tryd.pinned [.data, .data] true :=
  OpenClaim.laidByTextAt_later rfl rfl tie noOwnUnsafe
theorem imageRunsUpto_row_tie : Rows.imageRunsUptoRow.laidByTextAt .later Tryd.pinned [.data, .data] true :=
  OpenClaim.laidByTextAt_later rfl rfl tie noOwnUnsafe
end Go.Proofs.YtffokdldgdjkhaaDoor

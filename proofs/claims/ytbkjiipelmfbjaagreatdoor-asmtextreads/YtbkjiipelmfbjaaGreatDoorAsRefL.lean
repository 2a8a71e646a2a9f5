/- The document's item. -/
import Derived.Test.YtbkjiipelmfbjaaGreatDoorAsRefK1
import Derived.Test.YtbkjiipelmfbjaaGreatDoorAsRefK2
import Derived.Test.YtbkjiipelmfbjaaGreatDoorAsRefK3
import Derived.Test.YtbkjiipelmfbjaaGreatDoorAsRefK4
import Derived.Test.YtbkjiipelmfbjaaGreatDoorAsRefK5
import Derived.Test.YtbkjiipelmfbjaaGreatDoorAsRefK6
import Derived.Test.YtbkjiipelmfbjaaGreatDoorAsRefK7
namespace Go.Proofs.YtbkjiipelmfbjaaGreatDoor
open Go.RowKit Go.Maps Go.Lib
set_option linter.unusedVariables false

theorem ritem_any {w : World} {a : Option Addr} {n c : Nat} {f : X.By} {r : List X.By} (h : StrV w a n c (f :: r)) (hf : f ≠ []) (hn : n ≤ 200000) :
    Calls Tryz.prog 12 #[.slice a n c] w (TakeOut w (X.read (f :: r))) := by
  by_cases hr : r = []
  · by_cases e58 : f.getLast? = some 58
    · exact ritem_label h hf hn hr e58
    · exact ritem_e1 h hf hn hr e58
  · by_cases h1 : r.length = 1
    · by_cases eG : f = X.wGlobal
      · exact ritem_glob h hf hn h1 eG
      · by_cases eT : f = X.wThread
        · exact ritem_thread h hf hn h1 eG eT
        · exact ritem_e2 h hf hn h1 eG eT
    · have h2 : 2 ≤ r.length := by
        have := List.length_pos_iff.2 hr
        omega
      by_cases eW : f = X.wWords
      · exact ritem_words h hf hn h2 eW
      · exact ritem_e3 h hf hn h2 eW

end Go.Proofs.YtbkjiipelmfbjaaGreatDoor

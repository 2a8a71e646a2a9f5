/- What word.Bin comes to, instruction by instruction. -/
import Derived.Test.YtffokdldgdjkhaaDoorProg
import Derived.Test.YtffokdldgdjkhaaDoorWordMath
import Derived.Test.YtffokdldgdjkhaaDoorWordRet
import Derived.WalkKit
import Derived.WalkSpells
import Derived.WalkLawsBesides
namespace Go.Proofs.YtffokdldgdjkhaaDoor
open Go.RowKit




















end Go.Proofs.YtffokdldgdjkhaaDoor

/- The reference's Same; few. -/
import Derived.Test.YtafhogfbjklboaaDoorDelHelp
import Derived.Test.YtafhogfbjklboaaDoorDelOrd
namespace Go.Proofs.YtafhogfbjklboaaDoor
open Go.RowKit Go.Sort
set_option linter.unusedSimpArgs false
set_option linter.unusedVariables false

def fewD (base : Int) (l : List El) : Bool := (l.all fun e => decide (e.2.2.length ≤ 200)) && (decide (base ≤ 400) && decide (l.length ≤ 70))
end Go.Proofs.YtafhogfbjklboaaDoor

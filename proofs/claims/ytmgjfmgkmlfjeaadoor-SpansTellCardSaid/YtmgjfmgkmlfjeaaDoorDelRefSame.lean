/- The reference's Same; few. -/
import Derived.Test.YtmgjfmgkmlfjeaaDoorDelHelp
import Derived.Test.YtmgjfmgkmlfjeaaDoorDelOrd
namespace Go.Proofs.YtmgjfmgkmlfjeaaDoor
open Go.RowKit Go.Sort
set_option linter.unusedSimpArgs false
set_option linter.unusedVariables false

def fewD (base : Int) (l : List El) : Bool := (l.all fun e => decide (e.2.2.length ≤ 200)) && (decide (base ≤ 400) && decide (l.length ≤ 70))
end Go.Proofs.YtmgjfmgkmlfjeaaDoor

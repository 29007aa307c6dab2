/- The reference's Ordered. -/
import Derived.Test.YtalolaajcmndeaaDoorDelHelp
namespace Go.Proofs.YtalolaajcmndeaaDoor
open Go.RowKit Go.Sort Go.Lib
set_option linter.unusedSimpArgs false
set_option linter.unusedVariables false

end Go.Proofs.YtalolaajcmndeaaDoor

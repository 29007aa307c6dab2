/- From what came in to rows in memory: for rows that list no variable. -/
import Derived.Test.YtgdolopggocleaaSubMem
import Derived.ProofKit
import Derived.OpenShut
import Derived.Deep.Slices
import Derived.Deep.DeepHandedRow
import Derived.Deep.DeepWitnessRowRef
import Derived.LaidLaws
namespace Go.Proofs.Ytgdolopggocleaa
open Go.ChangeShapes Go.WideShapes Go.ChangeAt Go.RowKit

theorem own : ownKnob Try.prog.godebug = none := by kernel_rfl
end Go.Proofs.Ytgdolopggocleaa

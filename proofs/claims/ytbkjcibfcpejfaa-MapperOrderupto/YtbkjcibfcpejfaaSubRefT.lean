/- The reference's Told. -/
import Derived.Test.YtbkjcibfcpejfaaSubRefS
namespace Go.Proofs.Ytbkjcibfcpejfaa
open Go.RowKit Go.Sort
set_option linter.unusedSimpArgs false
set_option linter.unusedVariables false

end Go.Proofs.Ytbkjcibfcpejfaa

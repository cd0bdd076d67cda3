/- A round of ValidString. -/
import Derived.Test.YtmmllhdphlnpjaaDoorGlW0
namespace Go.Proofs.YtmmllhdphlnpjaaDoor
open Go.RowKit Florin
set_option linter.unusedVariables false
set_option linter.unusedSimpArgs false
end Go.Proofs.YtmmllhdphlnpjaaDoor

/- Nothing of ValidString here. -/
import Derived.Test.YtmmllhdphlnpjaaDoorGlWa
namespace Go.Proofs.YtmmllhdphlnpjaaDoor
end Go.Proofs.YtmmllhdphlnpjaaDoor

import Derived.Test.YtmogjicompmkkaaGreatDoorRows
import Derived.WalkKit
import Derived.ProofKit
import Derived.OpenShut
import Derived.BigQuiet
import Derived.Test.YtmogjicompmkkaaGreatDoorQGa
namespace Go.Proofs.YtmogjicompmkkaaGreatDoor.computes
open Go.ChangeShapes Go.WideShapes Go.ChangeAt Go.RowKit Go.Proofs.YtmogjicompmkkaaGreatDoor.nums
set_option linter.unusedVariables false
end Go.Proofs.YtmogjicompmkkaaGreatDoor.computes

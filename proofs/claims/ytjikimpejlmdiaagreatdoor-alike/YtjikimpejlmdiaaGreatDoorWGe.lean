import Derived.Test.YtjikimpejlmdiaaGreatDoorWGc
import Derived.WalkSmall
import Derived.Deep.RegionWith
set_option linter.unusedVariables false
set_option linter.unusedSimpArgs false
namespace Go.Proofs.YtjikimpejlmdiaaGreatDoor
namespace decodes
open ChangeShapes WideShapes ChangeAt RowKit dnums
end decodes
end Go.Proofs.YtjikimpejlmdiaaGreatDoor

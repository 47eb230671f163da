import Derived.Test.YtmogjicompmkkaaGreatDoorQGc
import Derived.WalkSmall
import Derived.Deep.RegionWith
namespace Go.Proofs.YtmogjicompmkkaaGreatDoor.decodes
open Go.ChangeShapes Go.WideShapes Go.ChangeAt Go.RowKit Go.Proofs.YtmogjicompmkkaaGreatDoor.dnums
set_option linter.unusedVariables false
set_option linter.unusedSimpArgs false
end Go.Proofs.YtmogjicompmkkaaGreatDoor.decodes

namespace Go.Proofs.YtmogjicompmkkaaGreatDoor.decodes
open Go.ChangeShapes Go.WideShapes Go.ChangeAt Go.RowKit Go.Proofs.YtmogjicompmkkaaGreatDoor.dnums
set_option linter.unusedVariables false
set_option linter.unusedSimpArgs false
end Go.Proofs.YtmogjicompmkkaaGreatDoor.decodes

namespace Go.Proofs.YtmogjicompmkkaaGreatDoor.decodes
open Go.ChangeShapes Go.WideShapes Go.ChangeAt Go.RowKit Go.Proofs.YtmogjicompmkkaaGreatDoor.dnums
set_option linter.unusedVariables false
set_option linter.unusedSimpArgs false
end Go.Proofs.YtmogjicompmkkaaGreatDoor.decodes

namespace Go.Proofs.YtmogjicompmkkaaGreatDoor.decodes
open Go.ChangeShapes Go.WideShapes Go.ChangeAt Go.RowKit Go.Proofs.YtmogjicompmkkaaGreatDoor.dnums
set_option linter.unusedVariables false
set_option linter.unusedSimpArgs false
end Go.Proofs.YtmogjicompmkkaaGreatDoor.decodes

namespace Go.Proofs.YtmogjicompmkkaaGreatDoor.decodes
open Go.ChangeShapes Go.WideShapes Go.ChangeAt Go.RowKit Go.Proofs.YtmogjicompmkkaaGreatDoor.dnums
set_option linter.unusedVariables false
set_option linter.unusedSimpArgs false
end Go.Proofs.YtmogjicompmkkaaGreatDoor.decodes

import Derived.Test.YtmogjicompmkkaaGreatDoorQRefX
namespace Go.Proofs.YtmogjicompmkkaaGreatDoor.ref
open Go.ChangeShapes Go.WideShapes Go.ChangeAt Go.RowKit Go.Proofs.YtmogjicompmkkaaGreatDoor.nums Go.Proofs.YtmogjicompmkkaaGreatDoor.dnums Go.Proofs.YtmogjicompmkkaaGreatDoor.mach
set_option linter.unusedVariables false
set_option linter.unusedSimpArgs false
end Go.Proofs.YtmogjicompmkkaaGreatDoor.ref

import Derived.Test.YtjikimpejlmdiaaGreatDoorWRefX
set_option linter.unusedVariables false
set_option linter.unusedSimpArgs false
namespace Go.Proofs.YtjikimpejlmdiaaGreatDoor
namespace ref
open ChangeShapes WideShapes ChangeAt RowKit nums dnums mach
end ref
end Go.Proofs.YtjikimpejlmdiaaGreatDoor

import Derived.Test.YtjikimpejlmdiaaGreatDoorVRefBD
set_option linter.unusedVariables false
set_option linter.unusedSimpArgs false
namespace Go.Proofs.YtjikimpejlmdiaaGreatDoor
namespace ref
open ChangeShapes WideShapes ChangeAt RowKit nums dnums mach
attribute [local go_sem ↓] Go.wp_at_zero Go.wp_at_succ
end ref
end Go.Proofs.YtjikimpejlmdiaaGreatDoor

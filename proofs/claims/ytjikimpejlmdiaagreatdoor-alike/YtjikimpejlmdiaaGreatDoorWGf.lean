import Derived.Test.YtjikimpejlmdiaaGreatDoorWGb
set_option linter.unusedVariables false
set_option linter.unusedSimpArgs false
set_option maxHeartbeats 4000000
namespace Go.Proofs.YtjikimpejlmdiaaGreatDoor
namespace ref
open ChangeShapes WideShapes ChangeAt RowKit nums dnums mach
end ref
namespace ref
open ChangeShapes WideShapes ChangeAt RowKit nums dnums mach
theorem sext_1 (v : Int) (h : 0 <= v /\ v < 256 ^ 1) : sext v 1 = sx8 v % 4294967296 := by
  simp at h
  unfold sext sx8
  by_cases k : 128 <= v
  · simp [k]
  · simp [k]; omega
theorem sext_2 (v : Int) (h : 0 <= v /\ v < 256 ^ 2) : sext v 2 = sx16 v % 4294967296 := by
  simp at h
  unfold sext sx16
  by_cases k : 32768 <= v
  · simp [k]
  · simp [k]; omega
end ref
end Go.Proofs.YtjikimpejlmdiaaGreatDoor

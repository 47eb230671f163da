import Derived.Test.YtmogjicompmkkaaGreatDoorQGb
namespace Go.Proofs.YtmogjicompmkkaaGreatDoor.ref
open Go.ChangeShapes Go.WideShapes Go.ChangeAt Go.RowKit Go.Proofs.YtmogjicompmkkaaGreatDoor.nums Go.Proofs.YtmogjicompmkkaaGreatDoor.dnums Go.Proofs.YtmogjicompmkkaaGreatDoor.mach
set_option linter.unusedVariables false
set_option linter.unusedSimpArgs false
end Go.Proofs.YtmogjicompmkkaaGreatDoor.ref

namespace Go.Proofs.YtmogjicompmkkaaGreatDoor.ref
open Go.ChangeShapes Go.WideShapes Go.ChangeAt Go.RowKit Go.Proofs.YtmogjicompmkkaaGreatDoor.nums Go.Proofs.YtmogjicompmkkaaGreatDoor.dnums Go.Proofs.YtmogjicompmkkaaGreatDoor.mach
set_option linter.unusedVariables false
set_option linter.unusedSimpArgs false
end Go.Proofs.YtmogjicompmkkaaGreatDoor.ref

namespace Go.Proofs.YtmogjicompmkkaaGreatDoor.ref
open Go.ChangeShapes Go.WideShapes Go.ChangeAt Go.RowKit Go.Proofs.YtmogjicompmkkaaGreatDoor.nums Go.Proofs.YtmogjicompmkkaaGreatDoor.dnums Go.Proofs.YtmogjicompmkkaaGreatDoor.mach
set_option linter.unusedVariables false
set_option linter.unusedSimpArgs false
theorem sext_1 (v : Int) (h : 0 ≤ v ∧ v < 256 ^ 1) : sext v 1 = sx8 v % 4294967296 := by
  simp at h
  unfold sext sx8
  by_cases k : 128 ≤ v
  · simp [k]
  · simp [k]; omega
theorem sext_2 (v : Int) (h : 0 ≤ v ∧ v < 256 ^ 2) : sext v 2 = sx16 v % 4294967296 := by
  simp at h
  unfold sext sx16
  by_cases k : 32768 ≤ v
  · simp [k]
  · simp [k]; omega
end Go.Proofs.YtmogjicompmkkaaGreatDoor.ref

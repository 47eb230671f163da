import Derived.Test.YtmogjicompmkkaaGreatDoorQGh
import Derived.Deep.RegionLaw
namespace Go.Proofs.YtmogjicompmkkaaGreatDoor.ref
open Go.ChangeShapes Go.WideShapes Go.ChangeAt Go.RowKit Go.Proofs.YtmogjicompmkkaaGreatDoor.nums Go.Proofs.YtmogjicompmkkaaGreatDoor.dnums Go.Proofs.YtmogjicompmkkaaGreatDoor.mach
set_option linter.unusedVariables false
set_option linter.unusedSimpArgs false
attribute [local go_sem ↓] Go.wp_at_zero Go.wp_at_succ
/-- So many bytes of the memory, from a place on. -/
def memD (mem : Nat → Int) (k j : Nat) : ByteArray := ⟨((List.range j).map fun i => UInt8.ofNat (mem (k + i)).toNat).toArray⟩
theorem grown_undrew {w w' : World} {r : Option Nat} (h : w.drew.grownBy w' r) : w.grownBy w' r := ⟨h.os, h.tape, h.output, h.size, h.block⟩
end Go.Proofs.YtmogjicompmkkaaGreatDoor.ref

namespace Go.Proofs.YtmogjicompmkkaaGreatDoor.ref
open Go.ChangeShapes Go.WideShapes Go.ChangeAt Go.RowKit Go.Proofs.YtmogjicompmkkaaGreatDoor.nums Go.Proofs.YtmogjicompmkkaaGreatDoor.dnums Go.Proofs.YtmogjicompmkkaaGreatDoor.mach
set_option linter.unusedVariables false
set_option linter.unusedSimpArgs false
end Go.Proofs.YtmogjicompmkkaaGreatDoor.ref

namespace Go.Proofs.YtmogjicompmkkaaGreatDoor.ref
open Go.ChangeShapes Go.WideShapes Go.ChangeAt Go.RowKit Go.Proofs.YtmogjicompmkkaaGreatDoor.nums Go.Proofs.YtmogjicompmkkaaGreatDoor.dnums Go.Proofs.YtmogjicompmkkaaGreatDoor.mach
set_option linter.unusedVariables false
set_option linter.unusedSimpArgs false
end Go.Proofs.YtmogjicompmkkaaGreatDoor.ref

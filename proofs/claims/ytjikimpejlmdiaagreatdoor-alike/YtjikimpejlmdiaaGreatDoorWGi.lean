import Derived.Test.YtjikimpejlmdiaaGreatDoorWGh
import Derived.Deep.RegionLaw
import Derived.Deep.Cut
import Derived.Deep.CutRange
set_option maxHeartbeats 4000000
set_option linter.unusedVariables false
set_option linter.unusedSimpArgs false
namespace Go.Proofs.YtjikimpejlmdiaaGreatDoor
namespace ref
open ChangeShapes WideShapes ChangeAt RowKit nums dnums mach
attribute [local go_sem ↓] Go.wp_at_zero Go.wp_at_succ
/-- So many bytes of the memory, from a place on. -/
def memD (mem : Nat -> Int) (k j : Nat) : ByteArray := ⟨((List.range j).map fun i => UInt8.ofNat (mem (k + i)).toNat).toArray⟩
theorem grown_undrew {w w' : World} {r : Option Nat} (h : w.drew.grownBy w' r) : w.grownBy w' r := ⟨h.os, h.tape, h.output, h.size, h.block⟩
end ref
namespace ref
open ChangeShapes WideShapes ChangeAt RowKit nums dnums mach
theorem ext_all (s : ByteArray) : s.extract 0 s.size = s := by simp
end ref
namespace ref
open ChangeShapes WideShapes ChangeAt RowKit nums dnums mach
end ref
end Go.Proofs.YtjikimpejlmdiaaGreatDoor

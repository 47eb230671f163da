import Derived.Test.YtjikimpejlmdiaaGreatDoorWGj
import Derived.Deep.OwnRows
import Derived.BigRegion
set_option linter.unusedVariables false
set_option linter.unusedSimpArgs false
set_option maxHeartbeats 4000000
namespace Go.Proofs.YtjikimpejlmdiaaGreatDoor
namespace ref
open ChangeShapes WideShapes ChangeAt RowKit nums dnums mach
attribute [local go_sem ↓] Go.wp_at_zero Go.wp_at_succ
/-- The machine at first. -/
def start (pg : Int) (im : ByteArray) (ba en : Int) (ans : List ByteArray) (fu sl ar : Int) (bl : Bool) : M :=
  { out := 0, pc := en, regs := fun _ => 0, brk := ba + im.size, evs := [], steps := 0, built := 0, mem := put (fun _ => 0) ba.toNat im, size := (pg * 64).toNat, low := ba + im.size, ans := ans, fuel := fu, ended := false,
     nslots := if bl then sl.toNat else 0, slots := fun _ => (0, 0), arena := ar, used := 0, cur := (0, 0), done := 0, blocks := [] }
/-- What is wrong with a setup. -/
def wrong (pg : Int) (im : ByteArray) (ba fu sl ar : Int) (bl : Bool) : Int :=
  if pg < 1 \/ 8 < pg then 1 else if pg * 64 < im.size \/ pg * 64 - im.size < ba then 2 else if fu < 0 \/ 2000 < fu then 3 else if bl = true /\ (sl < 1 \/ 64 < sl \/ ar < 8 \/ 256 < ar) then 4 else 0
end ref
namespace ref
open ChangeShapes WideShapes ChangeAt RowKit nums dnums mach
attribute [local go_sem ↓] Go.wp_at_zero Go.wp_at_succ
theorem info_u8 : (Tryz.prog.info? 5).map (fun i => (i.zero, i.size, i.bytes)) = some (some (.int .u8 0), 1, 1) := by kernel_rfl
theorem made_at (z : Value) (n i : Nat) (hi : i < n) : (madeCells #[z] n)[i]? = some z := by
  have h1 := toList_madeCells_one z n
  have h2 : (madeCells #[z] n)[i]? = (madeCells #[z] n).toList[i]? := by simp
  rw [h2, h1]; simp [hi]
end ref
end Go.Proofs.YtjikimpejlmdiaaGreatDoor

import Derived.Test.YtjikimpejlmdiaaGreatDoorVGg
import Derived.Test.YtjikimpejlmdiaaGreatDoorVGn
import Derived.BigQuiet
import Derived.Test.YtjikimpejlmdiaaGreatDoorVGq
set_option maxHeartbeats 4000000
set_option linter.unusedVariables false
set_option linter.unusedSimpArgs false
namespace Go.Proofs.YtjikimpejlmdiaaGreatDoor
namespace prog
open ChangeShapes WideShapes ChangeAt RowKit nums dnums mach
attribute [local go_sem ↓] Go.wp_at_zero Go.wp_at_succ
/-- How many rounds are left at the most. -/
def pm (b : Nat) (f : Int) (w : World) : Nat := match w.cell? ⟨b, 39, none⟩ with | some (.int _ s) => (f - s).toNat | _ => 0
theorem pm_at {B b mb : Nat} {m : M} {nx : Int} {vX : Nat -> Value} {w : World} (h : PAt B b mb m nx vX w) (f : Int) : pm b f w = (f - m.steps).toNat := by
  have h1 : w.cell? ⟨b, 39, none⟩ = some (.int .i64 m.steps) := h.cells 39 dC dC
  unfold pm; rw [h1]
end prog
namespace prog
open ChangeShapes WideShapes ChangeAt RowKit nums dnums mach
theorem touchNew {S T : List Nat} {u v w : World} (h : ref.Touch S u v) (k : ref.Touch T v w) (hT : ∀ i, i ∈ T -> u.heap.size <= i) : ref.Touch S u w :=
  ⟨k.os.trans h.os, k.tape.trans h.tape, k.output.trans h.output, Nat.le_trans h.size k.size, fun i hi hn => (k.block i (Nat.lt_of_lt_of_le hi h.size) (fun hm => absurd (hT i hm) (Nat.not_le.mpr hi))).trans (h.block i hi hn)⟩
end prog
end Go.Proofs.YtjikimpejlmdiaaGreatDoor

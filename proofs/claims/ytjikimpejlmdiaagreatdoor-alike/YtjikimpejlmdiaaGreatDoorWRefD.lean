import Derived.Test.YtjikimpejlmdiaaGreatDoorWGf
import Derived.Test.YtjikimpejlmdiaaGreatDoorWHh
set_option maxHeartbeats 4000000
set_option linter.unusedVariables false
set_option linter.unusedSimpArgs false
namespace Go.Proofs.YtjikimpejlmdiaaGreatDoor
namespace ref
open ChangeShapes WideShapes ChangeAt RowKit nums dnums mach
theorem RefAt.reg {B b mb : Nat} {m : M} {vE vA vS vB : Value} {w : World} (h : RefAt B b mb m vE vA vS vB w) (r : Nat) (hr : r < 32) : w.cell? ⟨b, 2 + r, none⟩ = some (.int .u32 (m.regs r)) := by
  have := h.cells (2 + r) oM oM
  rwa [show lay m vE vA vS vB (2 + r) = .int .u32 (m.regs r) from by simp [lay, show ¬ (2 + r = 0) by omega, show ¬ (2 + r = 1) by omega, show 2 + r < 34 by omega]] at this
theorem setReg_st (m : M) (r v : Int) : (setReg m r v).steps = m.steps := by unfold setReg; by_cases e : r = 0 <;> simp [e]
theorem setReg_pc (m : M) (r v : Int) : (setReg m r v).pc = m.pc := by unfold setReg; by_cases e : r = 0 <;> simp [e]
end ref
end Go.Proofs.YtjikimpejlmdiaaGreatDoor

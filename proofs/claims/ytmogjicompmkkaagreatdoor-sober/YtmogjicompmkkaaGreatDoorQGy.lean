import Derived.Test.YtmogjicompmkkaaGreatDoorQGf
import Derived.Test.YtmogjicompmkkaaGreatDoorQCompA
namespace Go.Proofs.YtmogjicompmkkaaGreatDoor.ref
open Go.ChangeShapes Go.WideShapes Go.ChangeAt Go.RowKit Go.Proofs.YtmogjicompmkkaaGreatDoor.nums Go.Proofs.YtmogjicompmkkaaGreatDoor.dnums Go.Proofs.YtmogjicompmkkaaGreatDoor.mach
set_option linter.unusedVariables false
set_option linter.unusedSimpArgs false
theorem RefAt.reg {B b mb : Nat} {m : M} {vE vA vS vB : Value} {w : World} (h : RefAt B b mb m vE vA vS vB w) (r : Nat) (hr : r < 32) : w.cell? ⟨b, 2 + r, none⟩ = some (.int .u32 (m.regs r)) := by
  have := h.cells (2 + r) (by omega) (by omega)
  rwa [show lay m vE vA vS vB (2 + r) = .int .u32 (m.regs r) from by simp [lay, show ¬ (2 + r = 0) by omega, show ¬ (2 + r = 1) by omega, show 2 + r < 34 by omega]] at this
theorem setReg_st (m : M) (r v : Int) : (setReg m r v).steps = m.steps := by unfold setReg; by_cases e : r = 0 <;> simp [e]
theorem setReg_pc (m : M) (r v : Int) : (setReg m r v).pc = m.pc := by unfold setReg; by_cases e : r = 0 <;> simp [e]
end Go.Proofs.YtmogjicompmkkaaGreatDoor.ref

namespace Go.Proofs.YtmogjicompmkkaaGreatDoor.ref
open Go.ChangeShapes Go.WideShapes Go.ChangeAt Go.RowKit Go.Proofs.YtmogjicompmkkaaGreatDoor.nums Go.Proofs.YtmogjicompmkkaaGreatDoor.dnums Go.Proofs.YtmogjicompmkkaaGreatDoor.mach
set_option linter.unusedVariables false
set_option linter.unusedSimpArgs false
end Go.Proofs.YtmogjicompmkkaaGreatDoor.ref

namespace Go.Proofs.YtmogjicompmkkaaGreatDoor.ref
open Go.ChangeShapes Go.WideShapes Go.ChangeAt Go.RowKit Go.Proofs.YtmogjicompmkkaaGreatDoor.nums Go.Proofs.YtmogjicompmkkaaGreatDoor.dnums Go.Proofs.YtmogjicompmkkaaGreatDoor.mach
set_option linter.unusedVariables false
set_option linter.unusedSimpArgs false
end Go.Proofs.YtmogjicompmkkaaGreatDoor.ref

namespace Go.Proofs.YtmogjicompmkkaaGreatDoor.ref
open Go.ChangeShapes Go.WideShapes Go.ChangeAt Go.RowKit Go.Proofs.YtmogjicompmkkaaGreatDoor.nums Go.Proofs.YtmogjicompmkkaaGreatDoor.dnums Go.Proofs.YtmogjicompmkkaaGreatDoor.mach
set_option linter.unusedVariables false
set_option linter.unusedSimpArgs false
theorem nat_andNot1 (a : Nat) (h : a < 4294967296) : a &&& 4294967294 = a / 2 * 2 := by
  have e1 : (4294967294 : Nat) = (2 ^ 31 - 1) <<< 1 := by decide
  have e2 : a / 2 * 2 = (a >>> 1) <<< 1 := by rw [Nat.shiftRight_eq_div_pow, Nat.shiftLeft_eq]
  rw [e1, e2]
  apply Nat.eq_of_testBit_eq
  intro i
  rw [Nat.testBit_and, Nat.testBit_shiftLeft, Nat.testBit_shiftLeft, Nat.testBit_shiftRight, Nat.testBit_two_pow_sub_one]
  by_cases hi : i < 1
  · simp [show ¬ i ≥ 1 by omega]
  · by_cases hj : i < 32
    · simp [show i ≥ 1 by omega, show i - 1 < 31 by omega, show 1 + (i - 1) = i by omega]
    · have : a.testBit i = false := Nat.testBit_lt_two_pow (Nat.lt_of_lt_of_le h (by rw [show (4294967296 : Nat) = 2 ^ 32 by decide]; exact Nat.pow_le_pow_right (by omega) (by omega)))
      simp [this, show 1 + (i - 1) = i by omega]
def jt (a im : Int) : Int := (a + im) % 4294967296 / 2 * 2
theorem jt_eq (a im : Int) : bits BinOp.andNot IntKind.u32 ((a + im) % 4294967296) 1 = jt a im := by
  rw [u32_andNot _ 1 (by omega) (by omega) (by omega) (by omega)]
  rw [show (4294967295 - (1 : Int).toNat) = 4294967294 by decide, nat_andNot1 _ (by omega)]
  unfold jt; omega
theorem jt_bd (a im : Int) : 0 ≤ jt a im ∧ jt a im ≤ 4294967295 := by unfold jt; omega
end Go.Proofs.YtmogjicompmkkaaGreatDoor.ref

import Derived.Test.YtjikimpejlmdiaaGreatDoorWRefE
set_option maxHeartbeats 4000000
set_option linter.unusedVariables false
set_option linter.unusedSimpArgs false
namespace Go.Proofs.YtjikimpejlmdiaaGreatDoor
namespace ref
open ChangeShapes WideShapes ChangeAt RowKit nums dnums mach
theorem nat_andNot1 (a : Nat) (h : a < 4294967296) : a &&& 4294967294 = a / 2 * 2 := by
  have e1 : (4294967294 : Nat) = (2 ^ 31 - 1) <<< 1 := by decide
  have e2 : a / 2 * 2 = (a >>> 1) <<< 1 := by rw [Nat.shiftRight_eq_div_pow, Nat.shiftLeft_eq]
  rw [e1, e2]
  apply Nat.eq_of_testBit_eq
  intro i
  rw [Nat.testBit_and, Nat.testBit_shiftLeft, Nat.testBit_shiftLeft, Nat.testBit_shiftRight, Nat.testBit_two_pow_sub_one]
  by_cases hi : i < 1
  · simp [show ¬ i ≥ 1 by omega]
  · by_cases hj : i < 32
    · simp [show i ≥ 1 by omega, show i - 1 < 31 by omega, show 1 + (i - 1) = i by omega]
    · have : a.testBit i = false := Nat.testBit_lt_two_pow (Nat.lt_of_lt_of_le h (by rw [show (4294967296 : Nat) = 2 ^ 32 by decide]; exact Nat.pow_le_pow_right oM oM))
      simp [this, show 1 + (i - 1) = i by omega]
def jt (a im : Int) : Int := (a + im) % 4294967296 / 2 * 2
theorem jt_eq (a im : Int) : bits BinOp.andNot IntKind.u32 ((a + im) % 4294967296) 1 = jt a im := by
  rw [u32_andNot _ 1 oM oM oM oM]
  rw [show (4294967295 - (1 : Int).toNat) = 4294967294 by decide, nat_andNot1 _ oM]
  unfold jt; omega
theorem jt_bd (a im : Int) : 0 <= jt a im /\ jt a im <= 4294967295 := by unfold jt; omega
end ref
end Go.Proofs.YtjikimpejlmdiaaGreatDoor

/-
  Plain numbers: what the operations from ADDI to REMU come to, on integers. Nothing of the program is imported here.
-/
import Derived.WalkKit
import Derived.Laws.BitsAllLaws
import Derived.Laws.Bits64
namespace Go.Proofs.Ytjikimpejlmdiaa.nums
open Go.RowKit Go.IntWalk

theorem s31_eq (b : Int) (h2 : 0 ≤ b) (h3 : b ≤ 4294967295) : bits BinOp.and IntKind.u32 b 31 = b % 32 := by
  rw [u32_and b 31 h2 (by omega) (by omega) (by omega)]
  have : b.toNat &&& (31 : Int).toNat = b.toNat % 32 := by
    have := Nat.and_two_pow_sub_one_eq_mod b.toNat 5
    simpa using this
  rw [this]; omega
theorem s31_lo (b : Int) (h2 : 0 ≤ b) (h3 : b ≤ 4294967295) : 0 ≤ bits BinOp.and IntKind.u32 b 31 := by rw [s31_eq b h2 h3]; omega
theorem s31_hi (b : Int) (h2 : 0 ≤ b) (h3 : b ≤ 4294967295) : bits BinOp.and IntKind.u32 b 31 ≤ 31 := by rw [s31_eq b h2 h3]; omega

def sdiv (a b : Int) : Int := if b = 0 then 4294967295 else (wrap32 a).tdiv (wrap32 b) % 4294967296
def srem (a b : Int) : Int := if b = 0 then a else (wrap32 a).tmod (wrap32 b) % 4294967296
def udiv (a b : Int) : Int := if b = 0 then 4294967295 else a / b
def urem (a b : Int) : Int := if b = 0 then a else a % b

/-- What the operation numbered op makes of a and b. -/
def comp (op a b : Int) : Int :=
  if op = 27 ∨ op = 18 then (a + b) % 4294967296 else
  if op = 28 then (a - b) % 4294967296 else
  if op = 29 ∨ op = 24 then a * 2 ^ (bits BinOp.and IntKind.u32 b 31).toNat % 4294967296 else
  if op = 30 ∨ op = 19 then (if wrap32 a < wrap32 b then 1 else 0) else
  if op = 31 ∨ op = 20 then (if a < b then 1 else 0) else
  if op = 32 ∨ op = 21 then bits BinOp.xor IntKind.u32 a b else
  if op = 33 ∨ op = 25 then a / 2 ^ (bits BinOp.and IntKind.u32 b 31).toNat else
  if op = 34 ∨ op = 26 then wrap32 a / 2 ^ (bits BinOp.and IntKind.u32 b 31).toNat % 4294967296 else
  if op = 35 ∨ op = 22 then bits BinOp.or IntKind.u32 a b else
  if op = 36 ∨ op = 23 then bits BinOp.and IntKind.u32 a b else
  if op = 37 then a * b % 4294967296 else
  if op = 38 then wrap32 a * wrap32 b / 4294967296 % 4294967296 else
  if op = 39 then wrap32 a * b / 4294967296 % 4294967296 else
  if op = 40 then a * b / 4294967296 % 4294967296 else
  if op = 41 then sdiv a b else
  if op = 42 then udiv a b else
  if op = 43 then srem a b else
  if op = 44 then urem a b else 0

theorem comp_other (op a b : Int) (h : op < 18 ∨ 44 < op) : comp op a b = 0 := by
  unfold comp
  repeat rw [if_neg (by omega)]

theorem c41 (a b : Int) : comp 41 a b = sdiv a b := by simp [comp]
theorem c43 (a b : Int) : comp 43 a b = srem a b := by simp [comp]
theorem c41z (a : Int) : comp 41 a 0 = 4294967295 := by simp [comp, sdiv]
theorem c42z (a : Int) : comp 42 a 0 = 4294967295 := by simp [comp, udiv]
theorem c43z (a : Int) : comp 43 a 0 = a := by simp [comp, srem]
theorem c44z (a : Int) : comp 44 a 0 = a := by simp [comp, urem]
theorem w64w32 (a : Int) : wrap64 (wrap32 a) = wrap32 a := by unfold wrap64 wrap32; omega
theorem w64mod (x : Int) : wrap64 x % 4294967296 = x % 4294967296 := by unfold wrap64; omega
theorem w32mod (x : Int) : wrap32 x % 4294967296 = x % 4294967296 := by unfold wrap32; omega
theorem w64hi (x : Int) : wrap64 x / 4294967296 % 4294967296 = x / 4294967296 % 4294967296 := by unfold wrap64; omega
theorem u64w64hi (x : Int) : IntKind.u64.wrap (wrap64 x) / 4294967296 % 4294967296 = x / 4294967296 % 4294967296 := by
  rw [IntKind.wrap_u64]; unfold wrap64; omega
theorem u64hi (x : Int) : IntKind.u64.wrap x / 4294967296 % 4294967296 = x / 4294967296 % 4294967296 := by
  rw [IntKind.wrap_u64]; omega

theorem w32_ne (b : Int) (h2 : 0 ≤ b) (h3 : b ≤ 4294967295) (h : ¬ b = 0) : ¬ wrap32 b = 0 := by unfold wrap32; omega
theorem w3264_ne (b : Int) (h2 : 0 ≤ b) (h3 : b ≤ 4294967295) (h : ¬ b = 0) : ¬ wrap64 (wrap32 b) = 0 := by rw [w64w32]; exact w32_ne b h2 h3 h
theorem sdiv_least : sdiv 2147483648 4294967295 = 2147483648 := by decide +kernel
theorem srem_least : srem 2147483648 4294967295 = 0 := by decide +kernel

theorem udiv_fit (a b : Int) (h0 : 0 ≤ a) (h1 : a ≤ 4294967295) (h2 : 0 ≤ b) : a.tdiv b % 4294967296 = a / b := by
  rw [Int.tdiv_eq_ediv_of_nonneg h0]
  have hq : 0 ≤ a / b := Int.ediv_nonneg h0 h2
  have hr : a / b ≤ a := Int.ediv_le_self b h0
  omega
theorem ret_two {k : IntKind} {a b c d : Int} (h : a = b) (g : c = d) : Ending.returned (.tuple #[.int k a, .int k c]) = .returned (.tuple #[.int k b, .int k d]) := by rw [h, g]
theorem ret_int {k : IntKind} {a b : Int} (h : a = b) : Ending.returned (.int k a) = .returned (.int k b) := by rw [h]
theorem ops_all (op : Int) : (op < 18 ∨ 44 < op) ∨ op = 18 ∨ op = 19 ∨ op = 20 ∨ op = 21 ∨ op = 22 ∨ op = 23 ∨ op = 24 ∨ op = 25 ∨ op = 26 ∨ op = 27 ∨ op = 28 ∨ op = 29 ∨ op = 30 ∨ op = 31 ∨ op = 32 ∨ op = 33 ∨ op = 34 ∨ op = 35 ∨ op = 36 ∨ op = 37 ∨ op = 38 ∨ op = 39 ∨ op = 40 ∨ op = 41 ∨ op = 42 ∨ op = 43 ∨ op = 44 := by omega
end Go.Proofs.Ytjikimpejlmdiaa.nums

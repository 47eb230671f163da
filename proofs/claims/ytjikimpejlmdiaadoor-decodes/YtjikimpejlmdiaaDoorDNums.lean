/-
  Plain numbers: the fields and immediates of a word. Nothing of the program is imported here.
-/
import Derived.WalkKit
import Derived.Laws.BitsAllLaws
namespace Go.Proofs.YtjikimpejlmdiaaDoor.dnums
open Go.RowKit Go.IntWalk

theorem and_mask (a : Int) (k : Nat) (m : Int) (h0 : 0 ≤ a) (h1 : a < 4294967296) (hm : m = 2 ^ k - 1) (hk : k ≤ 31) : bits BinOp.and IntKind.u32 a m = a % 2 ^ k := by
  have hp : (2 : Int) ^ k ≤ 2 ^ 31 := by exact_mod_cast Nat.pow_le_pow_right (by omega) hk
  have hp1 : (0 : Int) < 2 ^ k := by exact_mod_cast Nat.two_pow_pos k
  rw [u32_and a m h0 h1 (by omega) (by omega)]
  have e : m.toNat = 2 ^ k - 1 := by
    have : ((2 ^ k : Nat) : Int) = (2 : Int) ^ k := by push_cast; rfl
    omega
  rw [e, Nat.and_two_pow_sub_one_eq_mod]
  have : ((a.toNat % 2 ^ k : Nat) : Int) = (a.toNat : Int) % ((2 ^ k : Nat) : Int) := by push_cast; rfl
  rw [this]
  have e2 : (a.toNat : Int) = a := by omega
  rw [e2]; push_cast; rfl

theorem or_add (a b : Int) (k : Nat) (h0 : 0 ≤ a) (h1 : a < 4294967296) (g0 : 0 ≤ b) (g1 : b < 2 ^ k) (hk : k ≤ 31) (hd : a % 2 ^ k = 0) : bits BinOp.or IntKind.u32 a b = a + b := by
  have hp : (2 : Int) ^ k ≤ 2 ^ 31 := by exact_mod_cast Nat.pow_le_pow_right (by omega) hk
  rw [u32_or a b h0 h1 g0 (by omega)]
  have e : a.toNat = 2 ^ k * (a.toNat / 2 ^ k) := by
    have h : a.toNat % 2 ^ k = 0 := by
      have : ((a.toNat % 2 ^ k : Nat) : Int) = a % 2 ^ k := by push_cast; rw [show ((a.toNat : Nat) : Int) = a by omega]
      omega
    have := Nat.div_add_mod a.toNat (2 ^ k)
    omega
  have hb : b.toNat < 2 ^ k := by
    have : ((2 ^ k : Nat) : Int) = (2 : Int) ^ k := by push_cast; rfl
    omega
  rw [e, ← Nat.two_pow_add_eq_or_of_lt hb, ← e]
  push_cast; omega

theorem or_comm32 (a b : Int) (h0 : 0 ≤ a) (h1 : a < 4294967296) (g0 : 0 ≤ b) (g1 : b < 4294967296) : bits BinOp.or IntKind.u32 a b = bits BinOp.or IntKind.u32 b a := by
  rw [u32_or a b h0 h1 g0 g1, u32_or b a g0 g1 h0 h1, Nat.or_comm]

theorem nat_andNot12 (a : Nat) (h : a < 4294967296) : a &&& 4294963200 = a / 4096 * 4096 := by
  have e1 : (4294963200 : Nat) = (2 ^ 20 - 1) <<< 12 := by decide
  have e2 : a / 4096 * 4096 = (a >>> 12) <<< 12 := by rw [Nat.shiftRight_eq_div_pow, Nat.shiftLeft_eq]
  rw [e1, e2]
  apply Nat.eq_of_testBit_eq
  intro i
  rw [Nat.testBit_and, Nat.testBit_shiftLeft, Nat.testBit_shiftLeft, Nat.testBit_shiftRight, Nat.testBit_two_pow_sub_one]
  by_cases hi : i < 12
  · simp [show ¬ i ≥ 12 by omega]
  · by_cases hj : i < 32
    · simp [show i ≥ 12 by omega, show i - 12 < 20 by omega, show 12 + (i - 12) = i by omega]
    · have : a.testBit i = false := Nat.testBit_lt_two_pow (Nat.lt_of_lt_of_le h (by rw [show (4294967296 : Nat) = 2 ^ 32 by decide]; exact Nat.pow_le_pow_right (by omega) (by omega)))
      simp [this, show 12 + (i - 12) = i by omega]

theorem andNot12 (a : Int) (h0 : 0 ≤ a) (h1 : a < 4294967296) : bits BinOp.andNot IntKind.u32 a 4095 = a / 4096 * 4096 := by
  rw [u32_andNot a 4095 h0 h1 (by omega) (by omega)]
  rw [show (4294967295 - (4095 : Int).toNat) = 4294963200 by decide, nat_andNot12 a.toNat (by omega)]
  omega

/-! The fields. -/
def opc (x : Int) : Int := x % 128
def rdf (x : Int) : Int := x / 128 % 32
def f3 (x : Int) : Int := x / 4096 % 8
def r1 (x : Int) : Int := x / 32768 % 32
def r2 (x : Int) : Int := x / 1048576 % 32
def f7 (x : Int) : Int := x / 33554432
def immI (x : Int) : Int := wrap32 x / 1048576
def immS (x : Int) : Int := wrap32 x / 33554432 * 32 + x / 128 % 32
def immB (x : Int) : Int := wrap32 x / 2147483648 * 4096 + x / 128 % 2 * 2048 + x / 33554432 % 64 * 32 + x / 256 % 16 * 2
def immU (x : Int) : Int := wrap32 x / 4096 * 4096
def immJ (x : Int) : Int := wrap32 x / 2147483648 * 1048576 + x / 4096 % 256 * 4096 + x / 1048576 % 2 * 2048 + x / 2097152 % 1024 * 2

theorem f3_bd (x : Int) : 0 ≤ f3 x ∧ f3 x ≤ 7 := by unfold f3; omega
theorem f3_all (x : Int) : f3 x = 0 ∨ f3 x = 1 ∨ f3 x = 2 ∨ f3 x = 3 ∨ f3 x = 4 ∨ f3 x = 5 ∨ f3 x = 6 ∨ f3 x = 7 := by unfold f3; omega

/-! The operation, -1 for none. -/
def T63 : List Int := [4, 5, -1, -1, 6, 7, 8, 9]
def T03 : List Int := [10, 11, 12, -1, 13, 14, -1, -1]
def T23 : List Int := [15, 16, 17, -1, -1, -1, -1, -1]
def T13 : List Int := [18, -1, 19, 20, 21, -1, 22, 23]
def T330 : List Int := [27, 29, 30, 31, 32, 33, 35, 36]
def T331 : List Int := [37, 38, 39, 40, 41, 42, 43, 44]
def T3320 : List Int := [28, -1, -1, -1, -1, 34, -1, -1]
def T0F : List Int := [45, 45, -1, -1, -1, -1, -1, -1]
def T67 : List Int := [3, -1, -1, -1, -1, -1, -1, -1]
def at8 (t : List Int) (x : Int) : Int := t.getD (f3 x).toNat (-1)
def sh (x : Int) : Int := if f3 x = 1 then (if f7 x = 0 then 24 else -1) else (if f7 x = 0 then 25 else if f7 x = 32 then 26 else -1)
def opn (x : Int) : Int :=
  if opc x = 55 then 0 else if opc x = 23 then 1 else if opc x = 111 then 2 else if opc x = 103 then at8 T67 x else
  if opc x = 99 then at8 T63 x else if opc x = 3 then at8 T03 x else if opc x = 35 then at8 T23 x else
  if opc x = 19 then (if f3 x = 1 ∨ f3 x = 5 then sh x else at8 T13 x) else
  if opc x = 51 then (if f7 x = 0 then at8 T330 x else if f7 x = 1 then at8 T331 x else if f7 x = 32 then at8 T3320 x else -1) else
  if opc x = 15 then at8 T0F x else if opc x = 115 then (if x = 115 then 46 else if x = 1048691 then 47 else -1) else -1
def hasRd (x : Int) : Bool := opc x == 55 || opc x == 23 || opc x == 111 || opc x == 103 || opc x == 3 || opc x == 19 || opc x == 51
def hasR1 (x : Int) : Bool := opc x == 103 || opc x == 99 || opc x == 3 || opc x == 35 || opc x == 19 || opc x == 51
def hasR2 (x : Int) : Bool := opc x == 99 || opc x == 35 || opc x == 51
def imm (x : Int) : Int :=
  if opc x = 55 ∨ opc x = 23 then immU x else if opc x = 111 then immJ x else if opc x = 103 ∨ opc x = 3 then immI x else
  if opc x = 99 then immB x else if opc x = 35 then immS x else if opc x = 19 then (if f3 x = 1 ∨ f3 x = 5 then r2 x else immI x) else 0
/-- Is the word an instruction, and what are the instruction's five parts (all 0 where it is none)? -/
def dOk (x : Int) : Bool := !(opn x == -1)
def dOp (x : Int) : Int := if opn x = -1 then 0 else opn x
def dRd (x : Int) : Int := if opn x = -1 then 0 else if hasRd x then rdf x else 0
def dR1 (x : Int) : Int := if opn x = -1 then 0 else if hasR1 x then r1 x else 0
def dR2 (x : Int) : Int := if opn x = -1 then 0 else if hasR2 x then r2 x else 0
def dImm (x : Int) : Int := if opn x = -1 then 0 else imm x

/-- The value that a call hands back: the instruction and whether there is one. -/
def dec (x : Int) : Value := .tuple #[.agg #[.int .i64 (dOp x), .int .i64 (dRd x), .int .i64 (dR1 x), .int .i64 (dR2 x), .int .i32 (dImm x)], .bool (dOk x)]
def ins (o d a b i : Int) : Value := .tuple #[.agg #[.int .i64 o, .int .i64 d, .int .i64 a, .int .i64 b, .int .i32 i], .bool true]
def no : Value := .tuple #[.agg #[.int .i64 0, .int .i64 0, .int .i64 0, .int .i64 0, .int .i32 0], .bool false]
theorem dec_no (x : Int) (h : opn x = -1) : dec x = no := by
  simp [dec, no, dOp, dRd, dR1, dR2, dImm, dOk, h]
theorem dec_ins (x o d a b i : Int) (h : opn x = o) (hn : ¬ o = -1) (hd : (if hasRd x then rdf x else 0) = d) (ha : (if hasR1 x then r1 x else 0) = a)
    (hb : (if hasR2 x then r2 x else 0) = b) (hi : imm x = i) : dec x = ins o d a b i := by
  subst h hd ha hb hi
  simp [dec, ins, dOp, dRd, dR1, dR2, dImm, dOk, hn]
/-- The instruction before it is asked whether it is one: the operation -1 where it is none. -/
def qRd (x : Int) : Int := if hasRd x then rdf x else 0
def qR1 (x : Int) : Int := if hasR1 x then r1 x else 0
def qR2 (x : Int) : Int := if hasR2 x then r2 x else 0
def raw (x : Int) : Value := .agg #[.int .i64 (opn x), .int .i64 (qRd x), .int .i64 (qR1 x), .int .i64 (qR2 x), .int .i32 (imm x)]
theorem raw_is (x o d a b i : Int) (h : opn x = o) (hd : qRd x = d) (ha : qR1 x = a) (hb : qR2 x = b) (hi : imm x = i) :
    raw x = .agg #[.int .i64 o, .int .i64 d, .int .i64 a, .int .i64 b, .int .i32 i] := by
  subst h hd ha hb hi; rfl
theorem dec_raw (x : Int) (h : ¬ opn x = -1) : dec x = ins (opn x) (qRd x) (qR1 x) (qR2 x) (imm x) :=
  dec_ins x _ _ _ _ _ rfl h rfl rfl rfl rfl
end Go.Proofs.YtjikimpejlmdiaaDoor.dnums

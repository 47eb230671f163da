import Derived.Test.YtjikimpejlmdiaaDoorRows
import Derived.WalkKit
import Derived.ProofKit
import Derived.OpenShut
import Derived.BigQuiet
import Derived.Laws.BitsAllLaws
import Derived.Test.YtjikimpejlmdiaaDoorDNums
import Derived.Test.YtjikimpejlmdiaaDoorDecA
namespace Go.Proofs.YtjikimpejlmdiaaDoor.decodes
open Go.ChangeShapes Go.WideShapes Go.ChangeAt Go.RowKit Go.Proofs.YtjikimpejlmdiaaDoor.dnums
set_option linter.unusedVariables false
set_option linter.unusedSimpArgs false
theorem m_and (x : Int) (h0 : 0 ≤ x) (h1 : x ≤ 4294967295) (d k : Nat) (m : Int) (hd : 0 < d) (hm : m = 2 ^ k - 1) (hk : k ≤ 31) : bits BinOp.and IntKind.u32 (x / d) m = x / d % 2 ^ k :=
  and_mask _ k m (Int.ediv_nonneg h0 (by omega)) (by have := Int.ediv_le_self (a := x) (d : Int) h0; omega) hm hk
theorem pU (x : Int) (h0 : 0 ≤ x) (h1 : x ≤ 4294967295) : wrap32 (wrap32 x / 4096 % 4294967296 * 4096 % 4294967296) = immU x := by unfold immU wrap32; omega
theorem pI (x : Int) (h0 : 0 ≤ x) (h1 : x ≤ 4294967295) : wrap32 (wrap32 x / 1048576 % 4294967296) = immI x := by unfold immI wrap32; omega
theorem or4j (a q r s : Int) (ha0 : 0 ≤ a) (ha : a < 4294967296) (hm : a % 1048576 = 0) (hq0 : 0 ≤ q) (hq : q ≤ 255) (hr0 : 0 ≤ r) (hr : r ≤ 1) (hs0 : 0 ≤ s) (hs : s ≤ 1023) :
    bits BinOp.or IntKind.u32 (bits BinOp.or IntKind.u32 (bits BinOp.or IntKind.u32 a (q * 4096 % 4294967296)) (r * 2048 % 4294967296)) (s * 2 % 4294967296) = a + q * 4096 + r * 2048 + s * 2 := by
  rw [show q * 4096 % 4294967296 = q * 4096 by omega, show r * 2048 % 4294967296 = r * 2048 by omega, show s * 2 % 4294967296 = s * 2 by omega]
  rw [or_add a (q * 4096) 20 (by omega) (by omega) (by omega) (by omega) (by decide) (by omega), or_add (a + q * 4096) (r * 2048) 12 (by omega) (by omega) (by omega) (by omega) (by decide) (by omega), or_add _ _ 11 (by omega) (by omega) (by omega) (by omega) (by decide) (by omega)]
theorem or4b (a q r s : Int) (ha0 : 0 ≤ a) (ha : a < 4294967296) (hm : a % 4096 = 0) (hq0 : 0 ≤ q) (hq : q ≤ 1) (hr0 : 0 ≤ r) (hr : r ≤ 63) (hs0 : 0 ≤ s) (hs : s ≤ 15) :
    bits BinOp.or IntKind.u32 (bits BinOp.or IntKind.u32 (bits BinOp.or IntKind.u32 a (q * 2048 % 4294967296)) (r * 32 % 4294967296)) (s * 2 % 4294967296) = a + q * 2048 + r * 32 + s * 2 := by
  rw [show q * 2048 % 4294967296 = q * 2048 by omega, show r * 32 % 4294967296 = r * 32 by omega, show s * 2 % 4294967296 = s * 2 by omega]
  rw [or_add a (q * 2048) 12 (by omega) (by omega) (by omega) (by omega) (by decide) (by omega), or_add (a + q * 2048) (r * 32) 11 (by omega) (by omega) (by omega) (by omega) (by decide) (by omega), or_add _ _ 5 (by omega) (by omega) (by omega) (by omega) (by decide) (by omega)]
theorem pJ (x : Int) (h0 : 0 ≤ x) (h1 : x ≤ 4294967295) : wrap32 (bits BinOp.or IntKind.u32 (bits BinOp.or IntKind.u32 (bits BinOp.or IntKind.u32 (wrap32 x / 2147483648 % 4294967296 * 1048576 % 4294967296) (bits BinOp.and IntKind.u32 (x / 4096) 255 * 4096 % 4294967296)) (bits BinOp.and IntKind.u32 (x / 1048576) 1 * 2048 % 4294967296)) (bits BinOp.and IntKind.u32 (x / 2097152) 1023 * 2 % 4294967296)) = immJ x := by
  rw [and_mask (x / 4096) 8 255 (by omega) (by omega) (by decide) (by decide), and_mask (x / 1048576) 1 1 (by omega) (by omega) (by decide) (by decide), and_mask (x / 2097152) 10 1023 (by omega) (by omega) (by decide) (by decide)]
  rw [or4j _ _ _ _ (by omega) (by omega) (by omega) (by omega) (by omega) (by omega) (by omega) (by omega) (by omega)]
  unfold immJ wrap32
  omega
theorem pB (x : Int) (h0 : 0 ≤ x) (h1 : x ≤ 4294967295) : wrap32 (bits BinOp.or IntKind.u32 (bits BinOp.or IntKind.u32 (bits BinOp.or IntKind.u32 (wrap32 x / 2147483648 % 4294967296 * 4096 % 4294967296) (bits BinOp.and IntKind.u32 (x / 128) 1 * 2048 % 4294967296)) (bits BinOp.and IntKind.u32 (x / 33554432) 63 * 32 % 4294967296)) (bits BinOp.and IntKind.u32 (x / 256) 15 * 2 % 4294967296)) = immB x := by
  rw [and_mask (x / 128) 1 1 (by omega) (by omega) (by decide) (by decide), and_mask (x / 33554432) 6 63 (by omega) (by omega) (by decide) (by decide), and_mask (x / 256) 4 15 (by omega) (by omega) (by decide) (by decide)]
  rw [or4b _ _ _ _ (by omega) (by omega) (by omega) (by omega) (by omega) (by omega) (by omega) (by omega) (by omega)]
  unfold immB wrap32
  omega
theorem pS (x : Int) (h0 : 0 ≤ x) (h1 : x ≤ 4294967295) : wrap32 (bits BinOp.or IntKind.u32 (wrap32 x / 33554432 % 4294967296 * 32 % 4294967296) (bits BinOp.and IntKind.u32 (x / 128) 31)) = immS x := by
  rw [and_mask (x / 128) 5 31 (by omega) (by omega) (by decide) (by decide)]
  rw [or_add _ _ 5 (by omega) (by omega) (by omega) (by omega) (by decide) (by omega)]
  unfold immS wrap32
  omega
theorem pF (x : Int) (h0 : 0 ≤ x) (h1 : x ≤ 4294967295) : bits BinOp.and IntKind.u32 x 127 = opc x := by rw [and_mask x 7 127 h0 (by omega) (by decide) (by decide)]; rfl
theorem p3 (x : Int) (h0 : 0 ≤ x) (h1 : x ≤ 4294967295) : bits BinOp.and IntKind.u32 (x / 4096) 7 = f3 x := by rw [and_mask (x / 4096) 3 7 (by omega) (by omega) (by decide) (by decide)]; rfl
theorem p7 (x : Int) (h0 : 0 ≤ x) (h1 : x ≤ 4294967295) : bits BinOp.and IntKind.u32 (x / 33554432) 127 = f7 x := by rw [and_mask (x / 33554432) 7 127 (by omega) (by omega) (by decide) (by decide)]; unfold f7; omega
theorem pd (x : Int) (h0 : 0 ≤ x) (h1 : x ≤ 4294967295) : bits BinOp.and IntKind.u32 (x / 128) 31 = rdf x := by rw [and_mask (x / 128) 5 31 (by omega) (by omega) (by decide) (by decide)]; rfl
theorem p1 (x : Int) (h0 : 0 ≤ x) (h1 : x ≤ 4294967295) : bits BinOp.and IntKind.u32 (x / 32768) 31 = r1 x := by rw [and_mask (x / 32768) 5 31 (by omega) (by omega) (by decide) (by decide)]; rfl
theorem p2 (x : Int) (h0 : 0 ≤ x) (h1 : x ≤ 4294967295) : bits BinOp.and IntKind.u32 (x / 1048576) 31 = r2 x := by rw [and_mask (x / 1048576) 5 31 (by omega) (by omega) (by decide) (by decide)]; rfl
theorem l_opcode (x : Int) (h0 : 0 ≤ x) (h1 : x ≤ 4294967295) (w : World) :
    Calls Tryd.prog 11 #[.int .u32 x] w fun e w' => e = .returned (.int .u32 (opc x)) ∧ w' = w := by
  have e := pF x h0 h1
  go_enter Tryd.func11, Tryd.ntmps11
  go_wp2
  go_ret
  exact ⟨rfl, rfl⟩
theorem l_funct3 (x : Int) (h0 : 0 ≤ x) (h1 : x ≤ 4294967295) (w : World) :
    Calls Tryd.prog 18 #[.int .u32 x] w fun e w' => e = .returned (.int .u32 (f3 x)) ∧ w' = w := by
  have e := p3 x h0 h1
  go_enter Tryd.func18, Tryd.ntmps18
  go_wp2
  go_ret
  exact ⟨rfl, rfl⟩
theorem l_funct7 (x : Int) (h0 : 0 ≤ x) (h1 : x ≤ 4294967295) (w : World) :
    Calls Tryd.prog 29 #[.int .u32 x] w fun e w' => e = .returned (.int .u32 (f7 x)) ∧ w' = w := by
  have e := p7 x h0 h1
  go_enter Tryd.func29, Tryd.ntmps29
  go_wp2
  go_ret
  exact ⟨rfl, rfl⟩
theorem l_rd (x : Int) (h0 : 0 ≤ x) (h1 : x ≤ 4294967295) (w : World) :
    Calls Tryd.prog 12 #[.int .u32 x] w fun e w' => e = .returned (.int .i64 (rdf x)) ∧ w' = w := by
  have e := pd x h0 h1
  have b1 := (rdf_bd x).1
  have b2 := (rdf_bd x).2
  go_enter Tryd.func12, Tryd.ntmps12
  go_wp2
  go_ret
  exact ⟨rfl, rfl⟩
theorem l_rs1 (x : Int) (h0 : 0 ≤ x) (h1 : x ≤ 4294967295) (w : World) :
    Calls Tryd.prog 16 #[.int .u32 x] w fun e w' => e = .returned (.int .i64 (r1 x)) ∧ w' = w := by
  have e := p1 x h0 h1
  have b1 := (r1_bd x).1
  have b2 := (r1_bd x).2
  go_enter Tryd.func16, Tryd.ntmps16
  go_wp2
  go_ret
  exact ⟨rfl, rfl⟩
theorem l_rs2 (x : Int) (h0 : 0 ≤ x) (h1 : x ≤ 4294967295) (w : World) :
    Calls Tryd.prog 19 #[.int .u32 x] w fun e w' => e = .returned (.int .i64 (r2 x)) ∧ w' = w := by
  have e := p2 x h0 h1
  have b1 := (r2_bd x).1
  have b2 := (r2_bd x).2
  go_enter Tryd.func19, Tryd.ntmps19
  go_wp2
  go_ret
  exact ⟨rfl, rfl⟩
theorem l_immediateU (x : Int) (h0 : 0 ≤ x) (h1 : x ≤ 4294967295) (w : World) :
    Calls Tryd.prog 13 #[.int .u32 x] w fun e w' => e = .returned (.int .i32 (immU x)) ∧ w' = w := by
  have HQ : Hid (_ = immU x) := pU x h0 h1
  go_enter Tryd.func13, Tryd.ntmps13
  go_wp2
  go_ret
  exact ⟨ret_int HQ.out, rfl⟩
theorem l_immediateI (x : Int) (h0 : 0 ≤ x) (h1 : x ≤ 4294967295) (w : World) :
    Calls Tryd.prog 17 #[.int .u32 x] w fun e w' => e = .returned (.int .i32 (immI x)) ∧ w' = w := by
  have HQ : Hid (_ = immI x) := pI x h0 h1
  go_enter Tryd.func17, Tryd.ntmps17
  go_wp2
  go_ret
  exact ⟨ret_int HQ.out, rfl⟩
theorem l_immediateJ (x : Int) (h0 : 0 ≤ x) (h1 : x ≤ 4294967295) (w : World) :
    Calls Tryd.prog 14 #[.int .u32 x] w fun e w' => e = .returned (.int .i32 (immJ x)) ∧ w' = w := by
  have HQ : Hid (_ = immJ x) := pJ x h0 h1
  go_enter Tryd.func14, Tryd.ntmps14
  go_wp2
  go_ret
  exact ⟨ret_int HQ.out, rfl⟩
theorem l_immediateB (x : Int) (h0 : 0 ≤ x) (h1 : x ≤ 4294967295) (w : World) :
    Calls Tryd.prog 20 #[.int .u32 x] w fun e w' => e = .returned (.int .i32 (immB x)) ∧ w' = w := by
  have HQ : Hid (_ = immB x) := pB x h0 h1
  go_enter Tryd.func20, Tryd.ntmps20
  go_wp2
  go_ret
  exact ⟨ret_int HQ.out, rfl⟩
theorem l_immediateS (x : Int) (h0 : 0 ≤ x) (h1 : x ≤ 4294967295) (w : World) :
    Calls Tryd.prog 21 #[.int .u32 x] w fun e w' => e = .returned (.int .i32 (immS x)) ∧ w' = w := by
  have HQ : Hid (_ = immS x) := pS x h0 h1
  go_enter Tryd.func21, Tryd.ntmps21
  go_wp2
  go_ret
  exact ⟨ret_int HQ.out, rfl⟩
end Go.Proofs.YtjikimpejlmdiaaDoor.decodes

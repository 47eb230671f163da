import Derived.Test.YtjikimpejlmdiaaDoorRows
import Derived.WalkKit
import Derived.ProofKit
import Derived.OpenShut
import Derived.BigQuiet
import Derived.Laws.BitsAllLaws
import Derived.Test.YtjikimpejlmdiaaDoorDNums
namespace Go.Proofs.YtjikimpejlmdiaaDoor.decodes
open Go.ChangeShapes Go.WideShapes Go.ChangeAt Go.RowKit Go.Proofs.YtjikimpejlmdiaaDoor.dnums
set_option linter.unusedVariables false
set_option linter.unusedSimpArgs false

def fb (x fr to : Int) : Int := x / 2 ^ to.toNat % 2 ^ (fr - to + 1).toNat
theorem ret_int {k : IntKind} {a b : Int} (h : a = b) : Ending.returned (.int k a) = .returned (.int k b) := by rw [h]
theorem fb_11_7 (x : Int) (h0 : 0 ≤ x) (h1 : x ≤ 4294967295) : bits BinOp.and IntKind.u32 (x / 128) 31 = fb x 11 7 := by
  rw [and_mask _ 5 31 (by omega) (by omega) (by decide) (by decide)]
  simp [fb]
theorem rb_11_7 (x : Int) (h0 : 0 ≤ x) (h1 : x ≤ 4294967295) (w : World) :
    Calls Tryd.prog 7 #[.int .u32 x, .int .i64 11, .int .i64 7] w fun e w' => e = .returned (.int .u32 (fb x 11 7)) ∧ ∃ n, w' = w.drewN n := by
  have HF : Hid (_ = fb x 11 7) := fb_11_7 x h0 h1
  go_enter Tryd.func7, Tryd.ntmps7
  go_wp2
  go_quiet (fail)
  go_wp2
  go_ret
  exact ⟨ret_int HF.out, nq, rfl⟩
theorem fb_14_12 (x : Int) (h0 : 0 ≤ x) (h1 : x ≤ 4294967295) : bits BinOp.and IntKind.u32 (x / 4096) 7 = fb x 14 12 := by
  rw [and_mask _ 3 7 (by omega) (by omega) (by decide) (by decide)]
  simp [fb]
theorem rb_14_12 (x : Int) (h0 : 0 ≤ x) (h1 : x ≤ 4294967295) (w : World) :
    Calls Tryd.prog 7 #[.int .u32 x, .int .i64 14, .int .i64 12] w fun e w' => e = .returned (.int .u32 (fb x 14 12)) ∧ ∃ n, w' = w.drewN n := by
  have HF : Hid (_ = fb x 14 12) := fb_14_12 x h0 h1
  go_enter Tryd.func7, Tryd.ntmps7
  go_wp2
  go_quiet (fail)
  go_wp2
  go_ret
  exact ⟨ret_int HF.out, nq, rfl⟩
theorem fb_19_15 (x : Int) (h0 : 0 ≤ x) (h1 : x ≤ 4294967295) : bits BinOp.and IntKind.u32 (x / 32768) 31 = fb x 19 15 := by
  rw [and_mask _ 5 31 (by omega) (by omega) (by decide) (by decide)]
  simp [fb]
theorem rb_19_15 (x : Int) (h0 : 0 ≤ x) (h1 : x ≤ 4294967295) (w : World) :
    Calls Tryd.prog 7 #[.int .u32 x, .int .i64 19, .int .i64 15] w fun e w' => e = .returned (.int .u32 (fb x 19 15)) ∧ ∃ n, w' = w.drewN n := by
  have HF : Hid (_ = fb x 19 15) := fb_19_15 x h0 h1
  go_enter Tryd.func7, Tryd.ntmps7
  go_wp2
  go_quiet (fail)
  go_wp2
  go_ret
  exact ⟨ret_int HF.out, nq, rfl⟩
theorem fb_24_20 (x : Int) (h0 : 0 ≤ x) (h1 : x ≤ 4294967295) : bits BinOp.and IntKind.u32 (x / 1048576) 31 = fb x 24 20 := by
  rw [and_mask _ 5 31 (by omega) (by omega) (by decide) (by decide)]
  simp [fb]
theorem rb_24_20 (x : Int) (h0 : 0 ≤ x) (h1 : x ≤ 4294967295) (w : World) :
    Calls Tryd.prog 7 #[.int .u32 x, .int .i64 24, .int .i64 20] w fun e w' => e = .returned (.int .u32 (fb x 24 20)) ∧ ∃ n, w' = w.drewN n := by
  have HF : Hid (_ = fb x 24 20) := fb_24_20 x h0 h1
  go_enter Tryd.func7, Tryd.ntmps7
  go_wp2
  go_quiet (fail)
  go_wp2
  go_ret
  exact ⟨ret_int HF.out, nq, rfl⟩
theorem fb_31_25 (x : Int) (h0 : 0 ≤ x) (h1 : x ≤ 4294967295) : bits BinOp.and IntKind.u32 (x / 33554432) 127 = fb x 31 25 := by
  rw [and_mask _ 7 127 (by omega) (by omega) (by decide) (by decide)]
  simp [fb]
theorem rb_31_25 (x : Int) (h0 : 0 ≤ x) (h1 : x ≤ 4294967295) (w : World) :
    Calls Tryd.prog 7 #[.int .u32 x, .int .i64 31, .int .i64 25] w fun e w' => e = .returned (.int .u32 (fb x 31 25)) ∧ ∃ n, w' = w.drewN n := by
  have HF : Hid (_ = fb x 31 25) := fb_31_25 x h0 h1
  go_enter Tryd.func7, Tryd.ntmps7
  go_wp2
  go_quiet (fail)
  go_wp2
  go_ret
  exact ⟨ret_int HF.out, nq, rfl⟩
theorem fb_31_20 (x : Int) (h0 : 0 ≤ x) (h1 : x ≤ 4294967295) : bits BinOp.and IntKind.u32 (x / 1048576) 4095 = fb x 31 20 := by
  rw [and_mask _ 12 4095 (by omega) (by omega) (by decide) (by decide)]
  simp [fb]
theorem rb_31_20 (x : Int) (h0 : 0 ≤ x) (h1 : x ≤ 4294967295) (w : World) :
    Calls Tryd.prog 7 #[.int .u32 x, .int .i64 31, .int .i64 20] w fun e w' => e = .returned (.int .u32 (fb x 31 20)) ∧ ∃ n, w' = w.drewN n := by
  have HF : Hid (_ = fb x 31 20) := fb_31_20 x h0 h1
  go_enter Tryd.func7, Tryd.ntmps7
  go_wp2
  go_quiet (fail)
  go_wp2
  go_ret
  exact ⟨ret_int HF.out, nq, rfl⟩
theorem fb_6_0 (x : Int) (h0 : 0 ≤ x) (h1 : x ≤ 4294967295) : bits BinOp.and IntKind.u32 x 127 = fb x 6 0 := by
  rw [and_mask _ 7 127 (by omega) (by omega) (by decide) (by decide)]
  simp [fb]
theorem rb_6_0 (x : Int) (h0 : 0 ≤ x) (h1 : x ≤ 4294967295) (w : World) :
    Calls Tryd.prog 7 #[.int .u32 x, .int .i64 6, .int .i64 0] w fun e w' => e = .returned (.int .u32 (fb x 6 0)) ∧ ∃ n, w' = w.drewN n := by
  have HF : Hid (_ = fb x 6 0) := fb_6_0 x h0 h1
  go_enter Tryd.func7, Tryd.ntmps7
  go_wp2
  go_quiet (fail)
  go_wp2
  go_ret
  exact ⟨ret_int HF.out, nq, rfl⟩
theorem fb_31_31 (x : Int) (h0 : 0 ≤ x) (h1 : x ≤ 4294967295) : bits BinOp.and IntKind.u32 (x / 2147483648) 1 = fb x 31 31 := by
  rw [and_mask _ 1 1 (by omega) (by omega) (by decide) (by decide)]
  simp [fb]
theorem rb_31_31 (x : Int) (h0 : 0 ≤ x) (h1 : x ≤ 4294967295) (w : World) :
    Calls Tryd.prog 7 #[.int .u32 x, .int .i64 31, .int .i64 31] w fun e w' => e = .returned (.int .u32 (fb x 31 31)) ∧ ∃ n, w' = w.drewN n := by
  have HF : Hid (_ = fb x 31 31) := fb_31_31 x h0 h1
  go_enter Tryd.func7, Tryd.ntmps7
  go_wp2
  go_quiet (fail)
  go_wp2
  go_ret
  exact ⟨ret_int HF.out, nq, rfl⟩
theorem fb_19_12 (x : Int) (h0 : 0 ≤ x) (h1 : x ≤ 4294967295) : bits BinOp.and IntKind.u32 (x / 4096) 255 = fb x 19 12 := by
  rw [and_mask _ 8 255 (by omega) (by omega) (by decide) (by decide)]
  simp [fb]
theorem rb_19_12 (x : Int) (h0 : 0 ≤ x) (h1 : x ≤ 4294967295) (w : World) :
    Calls Tryd.prog 7 #[.int .u32 x, .int .i64 19, .int .i64 12] w fun e w' => e = .returned (.int .u32 (fb x 19 12)) ∧ ∃ n, w' = w.drewN n := by
  have HF : Hid (_ = fb x 19 12) := fb_19_12 x h0 h1
  go_enter Tryd.func7, Tryd.ntmps7
  go_wp2
  go_quiet (fail)
  go_wp2
  go_ret
  exact ⟨ret_int HF.out, nq, rfl⟩
theorem fb_20_20 (x : Int) (h0 : 0 ≤ x) (h1 : x ≤ 4294967295) : bits BinOp.and IntKind.u32 (x / 1048576) 1 = fb x 20 20 := by
  rw [and_mask _ 1 1 (by omega) (by omega) (by decide) (by decide)]
  simp [fb]
theorem rb_20_20 (x : Int) (h0 : 0 ≤ x) (h1 : x ≤ 4294967295) (w : World) :
    Calls Tryd.prog 7 #[.int .u32 x, .int .i64 20, .int .i64 20] w fun e w' => e = .returned (.int .u32 (fb x 20 20)) ∧ ∃ n, w' = w.drewN n := by
  have HF : Hid (_ = fb x 20 20) := fb_20_20 x h0 h1
  go_enter Tryd.func7, Tryd.ntmps7
  go_wp2
  go_quiet (fail)
  go_wp2
  go_ret
  exact ⟨ret_int HF.out, nq, rfl⟩
theorem fb_30_21 (x : Int) (h0 : 0 ≤ x) (h1 : x ≤ 4294967295) : bits BinOp.and IntKind.u32 (x / 2097152) 1023 = fb x 30 21 := by
  rw [and_mask _ 10 1023 (by omega) (by omega) (by decide) (by decide)]
  simp [fb]
theorem rb_30_21 (x : Int) (h0 : 0 ≤ x) (h1 : x ≤ 4294967295) (w : World) :
    Calls Tryd.prog 7 #[.int .u32 x, .int .i64 30, .int .i64 21] w fun e w' => e = .returned (.int .u32 (fb x 30 21)) ∧ ∃ n, w' = w.drewN n := by
  have HF : Hid (_ = fb x 30 21) := fb_30_21 x h0 h1
  go_enter Tryd.func7, Tryd.ntmps7
  go_wp2
  go_quiet (fail)
  go_wp2
  go_ret
  exact ⟨ret_int HF.out, nq, rfl⟩
theorem fb_7_7 (x : Int) (h0 : 0 ≤ x) (h1 : x ≤ 4294967295) : bits BinOp.and IntKind.u32 (x / 128) 1 = fb x 7 7 := by
  rw [and_mask _ 1 1 (by omega) (by omega) (by decide) (by decide)]
  simp [fb]
theorem rb_7_7 (x : Int) (h0 : 0 ≤ x) (h1 : x ≤ 4294967295) (w : World) :
    Calls Tryd.prog 7 #[.int .u32 x, .int .i64 7, .int .i64 7] w fun e w' => e = .returned (.int .u32 (fb x 7 7)) ∧ ∃ n, w' = w.drewN n := by
  have HF : Hid (_ = fb x 7 7) := fb_7_7 x h0 h1
  go_enter Tryd.func7, Tryd.ntmps7
  go_wp2
  go_quiet (fail)
  go_wp2
  go_ret
  exact ⟨ret_int HF.out, nq, rfl⟩
theorem fb_30_25 (x : Int) (h0 : 0 ≤ x) (h1 : x ≤ 4294967295) : bits BinOp.and IntKind.u32 (x / 33554432) 63 = fb x 30 25 := by
  rw [and_mask _ 6 63 (by omega) (by omega) (by decide) (by decide)]
  simp [fb]
theorem rb_30_25 (x : Int) (h0 : 0 ≤ x) (h1 : x ≤ 4294967295) (w : World) :
    Calls Tryd.prog 7 #[.int .u32 x, .int .i64 30, .int .i64 25] w fun e w' => e = .returned (.int .u32 (fb x 30 25)) ∧ ∃ n, w' = w.drewN n := by
  have HF : Hid (_ = fb x 30 25) := fb_30_25 x h0 h1
  go_enter Tryd.func7, Tryd.ntmps7
  go_wp2
  go_quiet (fail)
  go_wp2
  go_ret
  exact ⟨ret_int HF.out, nq, rfl⟩
theorem fb_11_8 (x : Int) (h0 : 0 ≤ x) (h1 : x ≤ 4294967295) : bits BinOp.and IntKind.u32 (x / 256) 15 = fb x 11 8 := by
  rw [and_mask _ 4 15 (by omega) (by omega) (by decide) (by decide)]
  simp [fb]
theorem rb_11_8 (x : Int) (h0 : 0 ≤ x) (h1 : x ≤ 4294967295) (w : World) :
    Calls Tryd.prog 7 #[.int .u32 x, .int .i64 11, .int .i64 8] w fun e w' => e = .returned (.int .u32 (fb x 11 8)) ∧ ∃ n, w' = w.drewN n := by
  have HF : Hid (_ = fb x 11 8) := fb_11_8 x h0 h1
  go_enter Tryd.func7, Tryd.ntmps7
  go_wp2
  go_quiet (fail)
  go_wp2
  go_ret
  exact ⟨ret_int HF.out, nq, rfl⟩
def pairOk (fr to : Int) : Bool := (fr == 11 && to == 7) || (fr == 14 && to == 12) || (fr == 19 && to == 15) || (fr == 24 && to == 20) || (fr == 31 && to == 25) || (fr == 31 && to == 20) || (fr == 6 && to == 0) || (fr == 31 && to == 31) || (fr == 19 && to == 12) || (fr == 20 && to == 20) || (fr == 30 && to == 21) || (fr == 7 && to == 7) || (fr == 30 && to == 25) || (fr == 11 && to == 8)
theorem rb_any (x fr to : Int) (h0 : 0 ≤ x) (h1 : x ≤ 4294967295) (h : pairOk fr to = true) (w : World) :
    Calls Tryd.prog 7 #[.int .u32 x, .int .i64 fr, .int .i64 to] w fun e w' => e = .returned (.int .u32 (fb x fr to)) ∧ ∃ n, w' = w.drewN n := by
  have h' : (fr = 11 ∧ to = 7) ∨ (fr = 14 ∧ to = 12) ∨ (fr = 19 ∧ to = 15) ∨ (fr = 24 ∧ to = 20) ∨ (fr = 31 ∧ to = 25) ∨ (fr = 31 ∧ to = 20) ∨ (fr = 6 ∧ to = 0) ∨ (fr = 31 ∧ to = 31) ∨ (fr = 19 ∧ to = 12) ∨ (fr = 20 ∧ to = 20) ∨ (fr = 30 ∧ to = 21) ∨ (fr = 7 ∧ to = 7) ∨ (fr = 30 ∧ to = 25) ∨ (fr = 11 ∧ to = 8) := by
    simpa [pairOk, Bool.or_eq_true, Bool.and_eq_true, beq_iff_eq, or_assoc] using h
  rcases h' with ⟨rfl, rfl⟩ | ⟨rfl, rfl⟩ | ⟨rfl, rfl⟩ | ⟨rfl, rfl⟩ | ⟨rfl, rfl⟩ | ⟨rfl, rfl⟩ | ⟨rfl, rfl⟩ | ⟨rfl, rfl⟩ | ⟨rfl, rfl⟩ | ⟨rfl, rfl⟩ | ⟨rfl, rfl⟩ | ⟨rfl, rfl⟩ | ⟨rfl, rfl⟩ | ⟨rfl, rfl⟩
  · exact rb_11_7 x h0 h1 w
  · exact rb_14_12 x h0 h1 w
  · exact rb_19_15 x h0 h1 w
  · exact rb_24_20 x h0 h1 w
  · exact rb_31_25 x h0 h1 w
  · exact rb_31_20 x h0 h1 w
  · exact rb_6_0 x h0 h1 w
  · exact rb_31_31 x h0 h1 w
  · exact rb_19_12 x h0 h1 w
  · exact rb_20_20 x h0 h1 w
  · exact rb_30_21 x h0 h1 w
  · exact rb_7_7 x h0 h1 w
  · exact rb_30_25 x h0 h1 w
  · exact rb_11_8 x h0 h1 w
def sgn (v n : Int) : Int := if 2 ^ (n - 1).toNat ≤ v then v - 2 ^ n.toNat else v
theorem sg_12 (v : Int) (h0 : 0 ≤ v) (h1 : v < 4096) (w : World) :
    Calls Tryd.prog 8 #[.int .u32 v, .int .i64 12] w fun e w' => e = .returned (.int .i32 (sgn v 12)) ∧ w' = w := by
  have hb : bits BinOp.and IntKind.u32 (v / 2048) 1 = v / 2048 % 2 := and_mask _ 1 1 (by omega) (by omega) (by decide) (by decide)
  by_cases hv : 2048 ≤ v
  · have HS : Hid (sgn v 12 = v - 4096) := if_pos hv
    have HO : Hid (bits BinOp.or IntKind.u32 4294963200 v = 4294963200 + v) := or_add 4294963200 v 12 (by decide) (by decide) h0 h1 (by decide) (by decide)
    have hq : v / 2048 % 2 = 1 := by omega
    have hr : bits BinOp.and IntKind.u32 (v / 2048) 1 = 1 := hb.trans hq
    clear hb hq
    go_enter Tryd.func8, Tryd.ntmps8
    go_wp2
    go_ret
    exact ⟨ret_int (by rw [HS.out, or_comm32 v _ h0 (by omega) (by decide) (by decide), HO.out]; unfold wrap32; omega), rfl⟩
  · have HS : Hid (sgn v 12 = v) := if_neg hv
    have hq : v / 2048 % 2 = 0 := by omega
    have hr : bits BinOp.and IntKind.u32 (v / 2048) 1 = 0 := hb.trans hq
    clear hb hq
    go_enter Tryd.func8, Tryd.ntmps8
    go_wp2
    go_ret
    exact ⟨ret_int (by rw [HS.out]), rfl⟩
theorem sg_13 (v : Int) (h0 : 0 ≤ v) (h1 : v < 8192) (w : World) :
    Calls Tryd.prog 8 #[.int .u32 v, .int .i64 13] w fun e w' => e = .returned (.int .i32 (sgn v 13)) ∧ w' = w := by
  have hb : bits BinOp.and IntKind.u32 (v / 4096) 1 = v / 4096 % 2 := and_mask _ 1 1 (by omega) (by omega) (by decide) (by decide)
  by_cases hv : 4096 ≤ v
  · have HS : Hid (sgn v 13 = v - 8192) := if_pos hv
    have HO : Hid (bits BinOp.or IntKind.u32 4294959104 v = 4294959104 + v) := or_add 4294959104 v 13 (by decide) (by decide) h0 h1 (by decide) (by decide)
    have hq : v / 4096 % 2 = 1 := by omega
    have hr : bits BinOp.and IntKind.u32 (v / 4096) 1 = 1 := hb.trans hq
    clear hb hq
    go_enter Tryd.func8, Tryd.ntmps8
    go_wp2
    go_ret
    exact ⟨ret_int (by rw [HS.out, or_comm32 v _ h0 (by omega) (by decide) (by decide), HO.out]; unfold wrap32; omega), rfl⟩
  · have HS : Hid (sgn v 13 = v) := if_neg hv
    have hq : v / 4096 % 2 = 0 := by omega
    have hr : bits BinOp.and IntKind.u32 (v / 4096) 1 = 0 := hb.trans hq
    clear hb hq
    go_enter Tryd.func8, Tryd.ntmps8
    go_wp2
    go_ret
    exact ⟨ret_int (by rw [HS.out]), rfl⟩
theorem sg_21 (v : Int) (h0 : 0 ≤ v) (h1 : v < 2097152) (w : World) :
    Calls Tryd.prog 8 #[.int .u32 v, .int .i64 21] w fun e w' => e = .returned (.int .i32 (sgn v 21)) ∧ w' = w := by
  have hb : bits BinOp.and IntKind.u32 (v / 1048576) 1 = v / 1048576 % 2 := and_mask _ 1 1 (by omega) (by omega) (by decide) (by decide)
  by_cases hv : 1048576 ≤ v
  · have HS : Hid (sgn v 21 = v - 2097152) := if_pos hv
    have HO : Hid (bits BinOp.or IntKind.u32 4292870144 v = 4292870144 + v) := or_add 4292870144 v 21 (by decide) (by decide) h0 h1 (by decide) (by decide)
    have hq : v / 1048576 % 2 = 1 := by omega
    have hr : bits BinOp.and IntKind.u32 (v / 1048576) 1 = 1 := hb.trans hq
    clear hb hq
    go_enter Tryd.func8, Tryd.ntmps8
    go_wp2
    go_ret
    exact ⟨ret_int (by rw [HS.out, or_comm32 v _ h0 (by omega) (by decide) (by decide), HO.out]; unfold wrap32; omega), rfl⟩
  · have HS : Hid (sgn v 21 = v) := if_neg hv
    have hq : v / 1048576 % 2 = 0 := by omega
    have hr : bits BinOp.and IntKind.u32 (v / 1048576) 1 = 0 := hb.trans hq
    clear hb hq
    go_enter Tryd.func8, Tryd.ntmps8
    go_wp2
    go_ret
    exact ⟨ret_int (by rw [HS.out]), rfl⟩
theorem sg_any (v n : Int) (hn : n = 12 ∨ n = 13 ∨ n = 21) (h0 : 0 ≤ v) (h1 : v < 2 ^ n.toNat) (w : World) :
    Calls Tryd.prog 8 #[.int .u32 v, .int .i64 n] w fun e w' => e = .returned (.int .i32 (sgn v n)) ∧ w' = w := by
  rcases hn with rfl | rfl | rfl
  · exact sg_12 v h0 (by simpa using h1) w
  · exact sg_13 v h0 (by simpa using h1) w
  · exact sg_21 v h0 (by simpa using h1) w
theorem one_hit (b len cap : Nat) (k v o d a c i : Int) (hk0 : 0 ≤ k) (hlt : k < len) (hk7 : k ≤ 7) (hv : ¬ v = 99) (w : World) (hb : b < w.heap.size)
    (hc : w.cell? ⟨b, k.toNat, none⟩ = some (.int .i64 v)) :
    Calls Tryd.prog 9 #[.slice (some ⟨b, 0, none⟩) len cap, .int .u32 k, .agg #[.int .i64 o, .int .i64 d, .int .i64 a, .int .i64 c, .int .i32 i]] w fun e w' => e = .returned (ins v d a c i) ∧ w' = (w.alloc (.cells #[.int .i64 v, .int .i64 d, .int .i64 a, .int .i64 c, .int .i32 i] 25)).alloc (.cells #[.int .i64 v, .int .i64 d, .int .i64 a, .int .i64 c, .int .i32 i] 25) := by
  have hv2 : (v == 99) = false := by simpa using hv
  have hl2 : decide ((len : Int) ≤ k) = false := by simpa using hlt
  go_enter Tryd.func9, Tryd.ntmps9
  go_wp2
  exact bodyPost_ret (v := ins v d a c i) (by simp [results, Tryd.results9, go_sem, ins]) rfl ⟨rfl, rfl⟩
theorem one_99 (b len cap : Nat) (k o d a c i : Int) (hk0 : 0 ≤ k) (hlt : k < len) (hk7 : k ≤ 7) (w : World) (hb : b < w.heap.size)
    (hc : w.cell? ⟨b, k.toNat, none⟩ = some (.int .i64 99)) :
    Calls Tryd.prog 9 #[.slice (some ⟨b, 0, none⟩) len cap, .int .u32 k, .agg #[.int .i64 o, .int .i64 d, .int .i64 a, .int .i64 c, .int .i32 i]] w fun e w' => e = .returned no ∧ w' = (w.alloc (.cells #[.int .i64 o, .int .i64 d, .int .i64 a, .int .i64 c, .int .i32 i] 25)).alloc (.cells #[.int .i64 0, .int .i64 0, .int .i64 0, .int .i64 0, .int .i32 0] 25) := by
  have hl2 : decide ((len : Int) ≤ k) = false := by simpa using hlt
  go_enter Tryd.func9, Tryd.ntmps9
  go_wp2
  exact bodyPost_ret (v := no) (by simp [results, Tryd.results9, go_sem, no]) rfl ⟨rfl, rfl⟩
theorem one_far (b len cap : Nat) (k o d a c i : Int) (hk0 : 0 ≤ k) (hlt : (len : Int) ≤ k) (hk7 : k ≤ 7) (w : World) (hb : b < w.heap.size) :
    Calls Tryd.prog 9 #[.slice (some ⟨b, 0, none⟩) len cap, .int .u32 k, .agg #[.int .i64 o, .int .i64 d, .int .i64 a, .int .i64 c, .int .i32 i]] w fun e w' => e = .returned no ∧ w' = (w.alloc (.cells #[.int .i64 o, .int .i64 d, .int .i64 a, .int .i64 c, .int .i32 i] 25)).alloc (.cells #[.int .i64 0, .int .i64 0, .int .i64 0, .int .i64 0, .int .i32 0] 25) := by
  have hl2 : decide ((len : Int) ≤ k) = true := by simpa using hlt
  go_enter Tryd.func9, Tryd.ntmps9
  go_wp2
  exact bodyPost_ret (v := no) (by simp [results, Tryd.results9, go_sem, no]) rfl ⟨rfl, rfl⟩
theorem one_no (b len cap : Nat) (k o d a c i : Int) (hk0 : 0 ≤ k) (hk7 : k ≤ 7) (w : World) (hb : b < w.heap.size)
    (hc : (len : Int) ≤ k ∨ (k < len ∧ w.cell? ⟨b, k.toNat, none⟩ = some (.int .i64 99))) :
    Calls Tryd.prog 9 #[.slice (some ⟨b, 0, none⟩) len cap, .int .u32 k, .agg #[.int .i64 o, .int .i64 d, .int .i64 a, .int .i64 c, .int .i32 i]] w fun e w' => e = .returned no ∧ w' = (w.alloc (.cells #[.int .i64 o, .int .i64 d, .int .i64 a, .int .i64 c, .int .i32 i] 25)).alloc (.cells #[.int .i64 0, .int .i64 0, .int .i64 0, .int .i64 0, .int .i32 0] 25) := by
  rcases hc with hc | ⟨h1, h2⟩
  · exact one_far b len cap k o d a c i hk0 hc hk7 w hb
  · exact one_99 b len cap k o d a c i hk0 h1 hk7 w hb h2
theorem fe_11_7 (x : Int) (h0 : 0 ≤ x) (h1 : x ≤ 4294967295) : fb x 11 7 = rdf x := by simp [fb, rdf]
theorem fe_14_12 (x : Int) (h0 : 0 ≤ x) (h1 : x ≤ 4294967295) : fb x 14 12 = f3 x := by simp [fb, f3]
theorem fe_19_15 (x : Int) (h0 : 0 ≤ x) (h1 : x ≤ 4294967295) : fb x 19 15 = r1 x := by simp [fb, r1]
theorem fe_24_20 (x : Int) (h0 : 0 ≤ x) (h1 : x ≤ 4294967295) : fb x 24 20 = r2 x := by simp [fb, r2]
theorem fe_31_25 (x : Int) (h0 : 0 ≤ x) (h1 : x ≤ 4294967295) : fb x 31 25 = f7 x := by simp [fb, f7]; omega
theorem fe_6_0 (x : Int) (h0 : 0 ≤ x) (h1 : x ≤ 4294967295) : fb x 6 0 = opc x := by simp [fb, opc]
def i20 (x : Int) : Int := x / 1048576
def vJ (x : Int) : Int := x / 2147483648 * 1048576 + x / 4096 % 256 * 4096 + x / 1048576 % 2 * 2048 + x / 2097152 % 1024 * 2
def vB (x : Int) : Int := x / 2147483648 * 4096 + x / 128 % 2 * 2048 + x / 33554432 % 64 * 32 + x / 256 % 16 * 2
def vS (x : Int) : Int := x / 33554432 * 32 + x / 128 % 32
theorem fe_31_20 (x : Int) (h0 : 0 ≤ x) (h1 : x ≤ 4294967295) : fb x 31 20 = i20 x := by simp [fb, i20]; omega
theorem sI (x : Int) (h0 : 0 ≤ x) (h1 : x ≤ 4294967295) : sgn (i20 x) 12 = immI x := by
  simp [sgn, i20, immI, wrap32]; by_cases h : 2048 ≤ x / 1048576 <;> simp only [h, if_true, if_false] <;> omega
theorem sJ (x : Int) (h0 : 0 ≤ x) (h1 : x ≤ 4294967295) : sgn (vJ x) 21 = immJ x := by
  simp [sgn, vJ, immJ, wrap32]; by_cases h : 1048576 ≤ x / 2147483648 * 1048576 + x / 4096 % 256 * 4096 + x / 1048576 % 2 * 2048 + x / 2097152 % 1024 * 2 <;> simp only [h, if_true, if_false] <;> omega
theorem sB (x : Int) (h0 : 0 ≤ x) (h1 : x ≤ 4294967295) : sgn (vB x) 13 = immB x := by
  simp [sgn, vB, immB, wrap32]; by_cases h : 4096 ≤ x / 2147483648 * 4096 + x / 128 % 2 * 2048 + x / 33554432 % 64 * 32 + x / 256 % 16 * 2 <;> simp only [h, if_true, if_false] <;> omega
theorem sS (x : Int) (h0 : 0 ≤ x) (h1 : x ≤ 4294967295) : sgn (vS x) 12 = immS x := by
  simp [sgn, vS, immS, wrap32]; by_cases h : 2048 ≤ x / 33554432 * 32 + x / 128 % 32 <;> simp only [h, if_true, if_false] <;> omega
theorem i20_bd (x : Int) (h0 : 0 ≤ x) (h1 : x ≤ 4294967295) : 0 ≤ i20 x ∧ i20 x < 2 ^ (12 : Int).toNat := by simp [i20]; omega
theorem vJ_bd (x : Int) (h0 : 0 ≤ x) (h1 : x ≤ 4294967295) : 0 ≤ vJ x ∧ vJ x < 2 ^ (21 : Int).toNat := by simp [vJ]; omega
theorem vB_bd (x : Int) (h0 : 0 ≤ x) (h1 : x ≤ 4294967295) : 0 ≤ vB x ∧ vB x < 2 ^ (13 : Int).toNat := by simp [vB]; omega
theorem vS_bd (x : Int) (h0 : 0 ≤ x) (h1 : x ≤ 4294967295) : 0 ≤ vS x ∧ vS x < 2 ^ (12 : Int).toNat := by simp [vS]; omega
theorem or4J (p q r s : Int) (hp0 : 0 ≤ p) (hp : p ≤ 1) (hq0 : 0 ≤ q) (hq : q ≤ 255) (hr0 : 0 ≤ r) (hr : r ≤ 1) (hs0 : 0 ≤ s) (hs : s ≤ 1023) :
    bits BinOp.or IntKind.u32 (bits BinOp.or IntKind.u32 (bits BinOp.or IntKind.u32 (p * 1048576 % 4294967296) (q * 4096 % 4294967296)) (r * 2048 % 4294967296)) (s * 2 % 4294967296) = p * 1048576 + q * 4096 + r * 2048 + s * 2 := by
  rw [show p * 1048576 % 4294967296 = p * 1048576 by omega, show q * 4096 % 4294967296 = q * 4096 by omega, show r * 2048 % 4294967296 = r * 2048 by omega, show s * 2 % 4294967296 = s * 2 by omega]
  rw [or_add (p * 1048576) (q * 4096) 20 (by omega) (by omega) (by omega) (by omega) (by decide) (by omega), or_add (p * 1048576 + q * 4096) (r * 2048) 12 (by omega) (by omega) (by omega) (by omega) (by decide) (by omega), or_add _ _ 11 (by omega) (by omega) (by omega) (by omega) (by decide) (by omega)]
theorem or4B (p q r s : Int) (hp0 : 0 ≤ p) (hp : p ≤ 1) (hq0 : 0 ≤ q) (hq : q ≤ 1) (hr0 : 0 ≤ r) (hr : r ≤ 63) (hs0 : 0 ≤ s) (hs : s ≤ 15) :
    bits BinOp.or IntKind.u32 (bits BinOp.or IntKind.u32 (bits BinOp.or IntKind.u32 (p * 4096 % 4294967296) (q * 2048 % 4294967296)) (r * 32 % 4294967296)) (s * 2 % 4294967296) = p * 4096 + q * 2048 + r * 32 + s * 2 := by
  rw [show p * 4096 % 4294967296 = p * 4096 by omega, show q * 2048 % 4294967296 = q * 2048 by omega, show r * 32 % 4294967296 = r * 32 by omega, show s * 2 % 4294967296 = s * 2 by omega]
  rw [or_add (p * 4096) (q * 2048) 12 (by omega) (by omega) (by omega) (by omega) (by decide) (by omega), or_add (p * 4096 + q * 2048) (r * 32) 11 (by omega) (by omega) (by omega) (by omega) (by decide) (by omega), or_add _ _ 5 (by omega) (by omega) (by omega) (by omega) (by decide) (by omega)]
theorem oJ (x : Int) (h0 : 0 ≤ x) (h1 : x ≤ 4294967295) : bits BinOp.or IntKind.u32 (bits BinOp.or IntKind.u32 (bits BinOp.or IntKind.u32 (fb x 31 31 * 1048576 % 4294967296) (fb x 19 12 * 4096 % 4294967296)) (fb x 20 20 * 2048 % 4294967296)) (fb x 30 21 * 2 % 4294967296) = vJ x := by
  simp only [fb, vJ, Int.reduceToNat, Int.reduceSub, Int.reduceAdd, Int.reducePow]
  rw [or4J _ _ _ _ (by omega) (by omega) (by omega) (by omega) (by omega) (by omega) (by omega) (by omega)]
  omega
theorem oB (x : Int) (h0 : 0 ≤ x) (h1 : x ≤ 4294967295) : bits BinOp.or IntKind.u32 (bits BinOp.or IntKind.u32 (bits BinOp.or IntKind.u32 (fb x 31 31 * 4096 % 4294967296) (fb x 7 7 * 2048 % 4294967296)) (fb x 30 25 * 32 % 4294967296)) (fb x 11 8 * 2 % 4294967296) = vB x := by
  simp only [fb, vB, Int.reduceToNat, Int.reduceSub, Int.reduceAdd, Int.reducePow]
  rw [or4B _ _ _ _ (by omega) (by omega) (by omega) (by omega) (by omega) (by omega) (by omega) (by omega)]
  omega
theorem oS (x : Int) (h0 : 0 ≤ x) (h1 : x ≤ 4294967295) : bits BinOp.or IntKind.u32 (f7 x * 32) (rdf x) = vS x := by
  unfold f7 rdf vS
  rw [or_add _ _ 5 (by omega) (by omega) (by omega) (by omega) (by decide) (by omega)]
theorem oU (x : Int) (h0 : 0 ≤ x) (h1 : x ≤ 4294967295) : wrap32 (bits BinOp.andNot IntKind.u32 x 4095) = immU x := by
  rw [andNot12 x h0 (by omega)]; unfold immU wrap32; omega
theorem rdf_bd (x : Int) : 0 ≤ rdf x ∧ rdf x ≤ 31 := by unfold rdf; omega
theorem r1_bd (x : Int) : 0 ≤ r1 x ∧ r1 x ≤ 31 := by unfold r1; omega
theorem r2_bd (x : Int) : 0 ≤ r2 x ∧ r2 x ≤ 31 := by unfold r2; omega
theorem f7_bd (x : Int) (h0 : 0 ≤ x) (h1 : x ≤ 4294967295) : 0 ≤ f7 x ∧ f7 x ≤ 127 := by unfold f7; omega
end Go.Proofs.YtjikimpejlmdiaaDoor.decodes

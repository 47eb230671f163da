import Derived.Test.YtjikimpejlmdiaaGreatDoorVGj
import Derived.Deep.OwnRows
import Derived.BigRegion
set_option maxHeartbeats 4000000
set_option linter.unusedVariables false
set_option linter.unusedSimpArgs false
set_option maxRecDepth 10000
namespace Go.Proofs.YtjikimpejlmdiaaGreatDoor
namespace ref
open ChangeShapes WideShapes ChangeAt RowKit nums dnums mach
attribute [local go_sem ↓] Go.wp_at_zero Go.wp_at_succ
/-- The machine at first. -/
def start (pg : Int) (im : ByteArray) (ba en : Int) (ans : List ByteArray) (fu sl ar : Int) (bl : Bool) : M :=
  { out := 0, pc := en, regs := fun _ => 0, brk := ba + im.size, evs := [], steps := 0, built := 0, mem := put (fun _ => 0) ba.toNat im, size := (pg * 64).toNat, low := ba + im.size, ans := ans, fuel := fu, ended := false,
     nslots := if bl then sl.toNat else 0, slots := fun _ => (0, 0), arena := ar, used := 0, cur := (0, 0), done := 0, blocks := [] }
/-- .. ahead of the image, the pc and the break. -/
def start0 (pg : Int) (im : ByteArray) (ba : Int) (ans : List ByteArray) (fu sl ar : Int) (bl : Bool) : M :=
  { out := 0, pc := 0, regs := fun _ => 0, brk := 0, evs := [], steps := 0, built := 0, mem := fun _ => 0, size := (pg * 64).toNat, low := ba + im.size, ans := ans, fuel := fu, ended := false,
     nslots := if bl then sl.toNat else 0, slots := fun _ => (0, 0), arena := ar, used := 0, cur := (0, 0), done := 0, blocks := [] }
/-- What is wrong with a setup. -/
def wrong (pg : Int) (im : ByteArray) (ba fu sl ar : Int) (bl : Bool) : Int :=
  if pg < 1 \/ 8 < pg then 1 else if pg * 64 < im.size \/ pg * 64 - im.size < ba then 2 else if fu < 0 \/ 2000 < fu then 3 else if bl = true /\ (sl < 1 \/ 64 < sl \/ ar < 8 \/ 256 < ar) then 4 else 0
theorem new_pg1t (pg : Int) (im : ByteArray) (ba en : Int) (vA : Value) (fu sl ar : Int) (ba0 : 0 <= ba) (ba1 : ba <= 4294967295) (him : im.size <= 1048576) (w : World) (h1 : pg < 1) :
    Calls Tryz.prog 33 #[.agg #[.int .i64 pg, .string im, .int .u32 ba, .int .u32 en, vA, .int .i64 fu, .int .i64 sl, .int .i64 ar], .bool true] w fun e w' => e = .returned (.tuple #[.pointer none, .int .i64 1]) /\ Below w.heap.size w w' := by
  have d1 : decide (pg < 1) = true := by simpa using h1
  go_enter Tryz.func33, Tryz.ntmps33
  go_wp2_with fail
  go_ret2
  refine ⟨rfl, ?_⟩
  (repeat' (first | with_reducible exact Below.refl _ _ | with_reducible apply below_drewN | with_reducible apply Below.drew | with_reducible apply Below.alloc | with_reducible apply Below.setCell)) <;> (first | (simp; done) | (simp; omega))
theorem new_pg2t (pg : Int) (im : ByteArray) (ba en : Int) (vA : Value) (fu sl ar : Int) (ba0 : 0 <= ba) (ba1 : ba <= 4294967295) (him : im.size <= 1048576) (w : World) (h1 : 8 < pg) :
    Calls Tryz.prog 33 #[.agg #[.int .i64 pg, .string im, .int .u32 ba, .int .u32 en, vA, .int .i64 fu, .int .i64 sl, .int .i64 ar], .bool true] w fun e w' => e = .returned (.tuple #[.pointer none, .int .i64 1]) /\ Below w.heap.size w w' := by
  have d1 : decide (pg < 1) = false := by simp; omega
  have d2 : decide (8 < pg) = true := by simpa using h1
  go_enter Tryz.func33, Tryz.ntmps33
  go_wp2_with fail
  go_ret2
  refine ⟨rfl, ?_⟩
  (repeat' (first | with_reducible exact Below.refl _ _ | with_reducible apply below_drewN | with_reducible apply Below.drew | with_reducible apply Below.alloc | with_reducible apply Below.setCell)) <;> (first | (simp; done) | (simp; omega))
theorem new_im1t (pg : Int) (im : ByteArray) (ba en : Int) (vA : Value) (fu sl ar : Int) (ba0 : 0 <= ba) (ba1 : ba <= 4294967295) (him : im.size <= 1048576) (w : World) (p0 : 1 <= pg) (p1 : pg <= 8) (h1 : pg * 64 < im.size) :
    Calls Tryz.prog 33 #[.agg #[.int .i64 pg, .string im, .int .u32 ba, .int .u32 en, vA, .int .i64 fu, .int .i64 sl, .int .i64 ar], .bool true] w fun e w' => e = .returned (.tuple #[.pointer none, .int .i64 2]) /\ Below w.heap.size w w' := by
  have d1 : decide (pg < 1) = false := by simp; omega
  have d2 : decide (8 < pg) = false := by simp; omega
  have d3 : decide (pg * 64 < (im.size : Int)) = true := by simpa using h1
  go_enter Tryz.func33, Tryz.ntmps33
  go_wp2_with fail
  go_ret2
  refine ⟨rfl, ?_⟩
  (repeat' (first | with_reducible exact Below.refl _ _ | with_reducible apply below_drewN | with_reducible apply Below.drew | with_reducible apply Below.alloc | with_reducible apply Below.setCell)) <;> (first | (simp; done) | (simp; omega))
theorem new_im2t (pg : Int) (im : ByteArray) (ba en : Int) (vA : Value) (fu sl ar : Int) (ba0 : 0 <= ba) (ba1 : ba <= 4294967295) (him : im.size <= 1048576) (w : World) (p0 : 1 <= pg) (p1 : pg <= 8) (i0 : im.size <= pg * 64) (h1 : pg * 64 - im.size < ba) :
    Calls Tryz.prog 33 #[.agg #[.int .i64 pg, .string im, .int .u32 ba, .int .u32 en, vA, .int .i64 fu, .int .i64 sl, .int .i64 ar], .bool true] w fun e w' => e = .returned (.tuple #[.pointer none, .int .i64 2]) /\ Below w.heap.size w w' := by
  have d1 : decide (pg < 1) = false := by simp; omega
  have d2 : decide (8 < pg) = false := by simp; omega
  have d3 : decide (pg * 64 < (im.size : Int)) = false := by simp; omega
  have d4 : decide (pg * 64 - (im.size : Int) < ba) = true := by simpa using h1
  go_enter Tryz.func33, Tryz.ntmps33
  go_wp2_with fail
  go_ret2
  refine ⟨rfl, ?_⟩
  (repeat' (first | with_reducible exact Below.refl _ _ | with_reducible apply below_drewN | with_reducible apply Below.drew | with_reducible apply Below.alloc | with_reducible apply Below.setCell)) <;> (first | (simp; done) | (simp; omega))
theorem new_fu1t (pg : Int) (im : ByteArray) (ba en : Int) (vA : Value) (fu sl ar : Int) (ba0 : 0 <= ba) (ba1 : ba <= 4294967295) (him : im.size <= 1048576) (w : World) (p0 : 1 <= pg) (p1 : pg <= 8) (i0 : im.size <= pg * 64) (i1 : ba <= pg * 64 - im.size) (h1 : fu < 0) :
    Calls Tryz.prog 33 #[.agg #[.int .i64 pg, .string im, .int .u32 ba, .int .u32 en, vA, .int .i64 fu, .int .i64 sl, .int .i64 ar], .bool true] w fun e w' => e = .returned (.tuple #[.pointer none, .int .i64 3]) /\ Below w.heap.size w w' := by
  have d1 : decide (pg < 1) = false := by simp; omega
  have d2 : decide (8 < pg) = false := by simp; omega
  have d3 : decide (pg * 64 < (im.size : Int)) = false := by simp; omega
  have d4 : decide (pg * 64 - (im.size : Int) < ba) = false := by simp; omega
  have d5 : decide (fu < 0) = true := by simpa using h1
  go_enter Tryz.func33, Tryz.ntmps33
  go_wp2_with fail
  go_ret2
  refine ⟨rfl, ?_⟩
  (repeat' (first | with_reducible exact Below.refl _ _ | with_reducible apply below_drewN | with_reducible apply Below.drew | with_reducible apply Below.alloc | with_reducible apply Below.setCell)) <;> (first | (simp; done) | (simp; omega))
theorem new_fu2t (pg : Int) (im : ByteArray) (ba en : Int) (vA : Value) (fu sl ar : Int) (ba0 : 0 <= ba) (ba1 : ba <= 4294967295) (him : im.size <= 1048576) (w : World) (p0 : 1 <= pg) (p1 : pg <= 8) (i0 : im.size <= pg * 64) (i1 : ba <= pg * 64 - im.size) (h1 : 2000 < fu) :
    Calls Tryz.prog 33 #[.agg #[.int .i64 pg, .string im, .int .u32 ba, .int .u32 en, vA, .int .i64 fu, .int .i64 sl, .int .i64 ar], .bool true] w fun e w' => e = .returned (.tuple #[.pointer none, .int .i64 3]) /\ Below w.heap.size w w' := by
  have d1 : decide (pg < 1) = false := by simp; omega
  have d2 : decide (8 < pg) = false := by simp; omega
  have d3 : decide (pg * 64 < (im.size : Int)) = false := by simp; omega
  have d4 : decide (pg * 64 - (im.size : Int) < ba) = false := by simp; omega
  have d5 : decide (fu < 0) = false := by simp; omega
  have d6 : decide (2000 < fu) = true := by simpa using h1
  go_enter Tryz.func33, Tryz.ntmps33
  go_wp2_with fail
  go_ret2
  refine ⟨rfl, ?_⟩
  (repeat' (first | with_reducible exact Below.refl _ _ | with_reducible apply below_drewN | with_reducible apply Below.drew | with_reducible apply Below.alloc | with_reducible apply Below.setCell)) <;> (first | (simp; done) | (simp; omega))
end ref
namespace ref
open ChangeShapes WideShapes ChangeAt RowKit nums dnums mach
attribute [local go_sem ↓] Go.wp_at_zero Go.wp_at_succ
theorem info_u8 : (Tryz.prog.info? 5).map (fun i => (i.zero, i.size, i.bytes)) = some (some (.int .u8 0), 1, 1) := by kernel_rfl
theorem make_mem (p : Nat) (hp : p <= 8) (w : World) : (Instr.makeSlice 74 (.int .i64 ((p : Int) * 64)) (.int .i64 ((p : Int) * 64))).run Tryz.prog w = .ok (.slice (some ⟨w.heap.size, 0, none⟩) (p * 64) (p * 64)) (w.alloc (.cells (madeCells #[.int .u8 0] (p * 64)) 5)) := by
  have := run_make_row' (P := Tryz.prog) 74 5 (.int .u8 0) 1 Tryz.underlying74 info_u8 rfl .i64 .i64 (p * 64) oM oM w
  rw [show (((p * 64 : Nat)) : Int) = (p : Int) * 64 by push_cast; rfl] at this
  exact this
theorem mach0_eq (g p na ca : Nat) (oa : Option Addr) (im : ByteArray) (ba en fu sl ar : Int) (ans : List ByteArray) :
    (#[.int .i64 0, .int .u32 0, .int .u32 0, .int .u32 0, .int .u32 0, .int .u32 0, .int .u32 0, .int .u32 0, .int .u32 0, .int .u32 0, .int .u32 0, .int .u32 0, .int .u32 0, .int .u32 0, .int .u32 0, .int .u32 0, .int .u32 0, .int .u32 0, .int .u32 0, .int .u32 0, .int .u32 0, .int .u32 0, .int .u32 0, .int .u32 0, .int .u32 0, .int .u32 0, .int .u32 0, .int .u32 0, .int .u32 0, .int .u32 0, .int .u32 0, .int .u32 0, .int .u32 0, .int .u32 0, .int .u32 0, .string ⟨#[]⟩, .slice none 0 0, .int .i64 0, .int .i64 0, .slice (some ⟨g, 0, none⟩) (p * 64) (p * 64), .int .u32 (ba + im.size), .slice oa na ca, .int .i64 fu, .bool false, .slice none 0 0, .int .i64 ar, .int .i64 0, .int .u32 0, .int .i64 0, .int .i64 0, .slice none 0 0] : Array Value) = ((List.range 51).map fun i => if i = 39 then Value.slice (some ⟨g, 0, none⟩) (p * 64) (p * 64) else lay (start0 (p : Int) im ba ans fu sl ar false) (.slice none 0 0) (.slice oa na ca) (.slice none 0 0) (.slice none 0 0) i).toArray := by
  simp [List.range, List.range.loop, lay, start0]
  rfl
theorem made_at (z : Value) (n i : Nat) (hi : i < n) : (madeCells #[z] n)[i]? = some z := by
  have h1 := toList_madeCells_one z n
  have h2 : (madeCells #[z] n)[i]? = (madeCells #[z] n).toList[i]? := by simp
  rw [h2, h1]; simp [hi]
theorem new_ref (p na ca : Nat) (oa : Option Addr) (im : ByteArray) (ba en fu sl ar : Int) (ans : List ByteArray) (w : World) :
    RefAt w.heap.size (w.heap.size + 1 + 1) (w.heap.size + 1) (start0 (p : Int) im ba ans fu sl ar false) (.slice none 0 0) (.slice oa na ca) (.slice none 0 0) (.slice none 0 0) ((((w.alloc (.cells #[.int .i64 (p : Int), .string im, .int .u32 ba, .int .u32 en, (.slice oa na ca), .int .i64 fu, .int .i64 sl, .int .i64 ar] 25)).alloc (.cells (madeCells #[.int .u8 0] (p * 64)) 5)).alloc (.cells #[.int .i64 0, .int .u32 0, .int .u32 0, .int .u32 0, .int .u32 0, .int .u32 0, .int .u32 0, .int .u32 0, .int .u32 0, .int .u32 0, .int .u32 0, .int .u32 0, .int .u32 0, .int .u32 0, .int .u32 0, .int .u32 0, .int .u32 0, .int .u32 0, .int .u32 0, .int .u32 0, .int .u32 0, .int .u32 0, .int .u32 0, .int .u32 0, .int .u32 0, .int .u32 0, .int .u32 0, .int .u32 0, .int .u32 0, .int .u32 0, .int .u32 0, .int .u32 0, .int .u32 0, .int .u32 0, .int .u32 0, .string ⟨#[]⟩, .slice none 0 0, .int .i64 0, .int .i64 0, .slice (some ⟨w.heap.size + 1, 0, none⟩) (p * 64) (p * 64), .int .u32 (ba + im.size), .slice oa na ca, .int .i64 fu, .bool false, .slice none 0 0, .int .i64 ar, .int .i64 0, .int .u32 0, .int .i64 0, .int .i64 0, .slice none 0 0] 79)).drew) := by
  have hs : (start0 (p : Int) im ba ans fu sl ar false).size = p * 64 := by simp [start0]; omega
  refine ⟨by omega, by omega, by omega, fun i hi h39 => ?_, ?_, fun i => ?_, fun i hi => ?_, fun i => ?_⟩
  · show (((((w.alloc (.cells #[.int .i64 (p : Int), .string im, .int .u32 ba, .int .u32 en, (.slice oa na ca), .int .i64 fu, .int .i64 sl, .int .i64 ar] 25)).alloc (.cells (madeCells #[.int .u8 0] (p * 64)) 5)).alloc (.cells #[.int .i64 0, .int .u32 0, .int .u32 0, .int .u32 0, .int .u32 0, .int .u32 0, .int .u32 0, .int .u32 0, .int .u32 0, .int .u32 0, .int .u32 0, .int .u32 0, .int .u32 0, .int .u32 0, .int .u32 0, .int .u32 0, .int .u32 0, .int .u32 0, .int .u32 0, .int .u32 0, .int .u32 0, .int .u32 0, .int .u32 0, .int .u32 0, .int .u32 0, .int .u32 0, .int .u32 0, .int .u32 0, .int .u32 0, .int .u32 0, .int .u32 0, .int .u32 0, .int .u32 0, .int .u32 0, .int .u32 0, .string ⟨#[]⟩, .slice none 0 0, .int .i64 0, .int .i64 0, .slice (some ⟨w.heap.size + 1, 0, none⟩) (p * 64) (p * 64), .int .u32 (ba + im.size), .slice oa na ca, .int .i64 fu, .bool false, .slice none 0 0, .int .i64 ar, .int .i64 0, .int .u32 0, .int .i64 0, .int .i64 0, .slice none 0 0] 79))).cell? ⟨w.heap.size + 1 + 1, i, none⟩) = _
    rw [World.cell?_alloc_at _ _ _ _ sP, mach0_eq (w.heap.size + 1) p na ca oa im ba en fu sl ar ans]
    simp [hi, h39]
  · show (((((w.alloc (.cells #[.int .i64 (p : Int), .string im, .int .u32 ba, .int .u32 en, (.slice oa na ca), .int .i64 fu, .int .i64 sl, .int .i64 ar] 25)).alloc (.cells (madeCells #[.int .u8 0] (p * 64)) 5)).alloc (.cells #[.int .i64 0, .int .u32 0, .int .u32 0, .int .u32 0, .int .u32 0, .int .u32 0, .int .u32 0, .int .u32 0, .int .u32 0, .int .u32 0, .int .u32 0, .int .u32 0, .int .u32 0, .int .u32 0, .int .u32 0, .int .u32 0, .int .u32 0, .int .u32 0, .int .u32 0, .int .u32 0, .int .u32 0, .int .u32 0, .int .u32 0, .int .u32 0, .int .u32 0, .int .u32 0, .int .u32 0, .int .u32 0, .int .u32 0, .int .u32 0, .int .u32 0, .int .u32 0, .int .u32 0, .int .u32 0, .int .u32 0, .string ⟨#[]⟩, .slice none 0 0, .int .i64 0, .int .i64 0, .slice (some ⟨w.heap.size + 1, 0, none⟩) (p * 64) (p * 64), .int .u32 (ba + im.size), .slice oa na ca, .int .i64 fu, .bool false, .slice none 0 0, .int .i64 ar, .int .i64 0, .int .u32 0, .int .i64 0, .int .i64 0, .slice none 0 0] 79))).cell? ⟨w.heap.size + 1 + 1, 39, none⟩) = _
    rw [World.cell?_alloc_at _ _ _ _ sP, hs]
    rfl
  · show (((((w.alloc (.cells #[.int .i64 (p : Int), .string im, .int .u32 ba, .int .u32 en, (.slice oa na ca), .int .i64 fu, .int .i64 sl, .int .i64 ar] 25)).alloc (.cells (madeCells #[.int .u8 0] (p * 64)) 5)).alloc (.cells #[.int .i64 0, .int .u32 0, .int .u32 0, .int .u32 0, .int .u32 0, .int .u32 0, .int .u32 0, .int .u32 0, .int .u32 0, .int .u32 0, .int .u32 0, .int .u32 0, .int .u32 0, .int .u32 0, .int .u32 0, .int .u32 0, .int .u32 0, .int .u32 0, .int .u32 0, .int .u32 0, .int .u32 0, .int .u32 0, .int .u32 0, .int .u32 0, .int .u32 0, .int .u32 0, .int .u32 0, .int .u32 0, .int .u32 0, .int .u32 0, .int .u32 0, .int .u32 0, .int .u32 0, .int .u32 0, .int .u32 0, .string ⟨#[]⟩, .slice none 0 0, .int .i64 0, .int .i64 0, .slice (some ⟨w.heap.size + 1, 0, none⟩) (p * 64) (p * 64), .int .u32 (ba + im.size), .slice oa na ca, .int .i64 fu, .bool false, .slice none 0 0, .int .i64 ar, .int .i64 0, .int .u32 0, .int .i64 0, .int .i64 0, .slice none 0 0] 79))).frozen? ⟨w.heap.size + 1 + 1, i, none⟩) = _
    exact World.frozen?_alloc_at _ _ _ _ sP
  · show (((((w.alloc (.cells #[.int .i64 (p : Int), .string im, .int .u32 ba, .int .u32 en, (.slice oa na ca), .int .i64 fu, .int .i64 sl, .int .i64 ar] 25)).alloc (.cells (madeCells #[.int .u8 0] (p * 64)) 5)).alloc (.cells #[.int .i64 0, .int .u32 0, .int .u32 0, .int .u32 0, .int .u32 0, .int .u32 0, .int .u32 0, .int .u32 0, .int .u32 0, .int .u32 0, .int .u32 0, .int .u32 0, .int .u32 0, .int .u32 0, .int .u32 0, .int .u32 0, .int .u32 0, .int .u32 0, .int .u32 0, .int .u32 0, .int .u32 0, .int .u32 0, .int .u32 0, .int .u32 0, .int .u32 0, .int .u32 0, .int .u32 0, .int .u32 0, .int .u32 0, .int .u32 0, .int .u32 0, .int .u32 0, .int .u32 0, .int .u32 0, .int .u32 0, .string ⟨#[]⟩, .slice none 0 0, .int .i64 0, .int .i64 0, .slice (some ⟨w.heap.size + 1, 0, none⟩) (p * 64) (p * 64), .int .u32 (ba + im.size), .slice oa na ca, .int .i64 fu, .bool false, .slice none 0 0, .int .i64 ar, .int .i64 0, .int .u32 0, .int .i64 0, .int .i64 0, .slice none 0 0] 79))).cell? ⟨w.heap.size + 1, i, none⟩) = _
    rw [World.cell?_alloc_past _ _ _ sP, World.cell?_alloc_at _ _ _ _ sP]
    exact made_at _ _ _ oM
  · show (((((w.alloc (.cells #[.int .i64 (p : Int), .string im, .int .u32 ba, .int .u32 en, (.slice oa na ca), .int .i64 fu, .int .i64 sl, .int .i64 ar] 25)).alloc (.cells (madeCells #[.int .u8 0] (p * 64)) 5)).alloc (.cells #[.int .i64 0, .int .u32 0, .int .u32 0, .int .u32 0, .int .u32 0, .int .u32 0, .int .u32 0, .int .u32 0, .int .u32 0, .int .u32 0, .int .u32 0, .int .u32 0, .int .u32 0, .int .u32 0, .int .u32 0, .int .u32 0, .int .u32 0, .int .u32 0, .int .u32 0, .int .u32 0, .int .u32 0, .int .u32 0, .int .u32 0, .int .u32 0, .int .u32 0, .int .u32 0, .int .u32 0, .int .u32 0, .int .u32 0, .int .u32 0, .int .u32 0, .int .u32 0, .int .u32 0, .int .u32 0, .int .u32 0, .string ⟨#[]⟩, .slice none 0 0, .int .i64 0, .int .i64 0, .slice (some ⟨w.heap.size + 1, 0, none⟩) (p * 64) (p * 64), .int .u32 (ba + im.size), .slice oa na ca, .int .i64 fu, .bool false, .slice none 0 0, .int .i64 ar, .int .i64 0, .int .u32 0, .int .i64 0, .int .i64 0, .slice none 0 0] 79))).frozen? ⟨w.heap.size + 1, i, none⟩) = _
    rw [World.frozen?_alloc_past _ _ _ sP]
    exact World.frozen?_alloc_at _ _ _ _ sP
theorem new_set (p na ca : Nat) (oa : Option Addr) (im : ByteArray) (ba en fu sl ar : Int) (w : World) (i : Nat) :
    ((((w.alloc (.cells #[.int .i64 (p : Int), .string im, .int .u32 ba, .int .u32 en, (.slice oa na ca), .int .i64 fu, .int .i64 sl, .int .i64 ar] 25)).alloc (.cells (madeCells #[.int .u8 0] (p * 64)) 5)).alloc (.cells #[.int .i64 0, .int .u32 0, .int .u32 0, .int .u32 0, .int .u32 0, .int .u32 0, .int .u32 0, .int .u32 0, .int .u32 0, .int .u32 0, .int .u32 0, .int .u32 0, .int .u32 0, .int .u32 0, .int .u32 0, .int .u32 0, .int .u32 0, .int .u32 0, .int .u32 0, .int .u32 0, .int .u32 0, .int .u32 0, .int .u32 0, .int .u32 0, .int .u32 0, .int .u32 0, .int .u32 0, .int .u32 0, .int .u32 0, .int .u32 0, .int .u32 0, .int .u32 0, .int .u32 0, .int .u32 0, .int .u32 0, .string ⟨#[]⟩, .slice none 0 0, .int .i64 0, .int .i64 0, .slice (some ⟨w.heap.size + 1, 0, none⟩) (p * 64) (p * 64), .int .u32 (ba + im.size), .slice oa na ca, .int .i64 fu, .bool false, .slice none 0 0, .int .i64 ar, .int .i64 0, .int .u32 0, .int .i64 0, .int .i64 0, .slice none 0 0] 79)).drew).cell? ⟨w.heap.size, i, none⟩ = (#[.int .i64 (p : Int), .string im, .int .u32 ba, .int .u32 en, (.slice oa na ca), .int .i64 fu, .int .i64 sl, .int .i64 ar] : Array Value)[i]? := by
  show (((((w.alloc (.cells #[.int .i64 (p : Int), .string im, .int .u32 ba, .int .u32 en, (.slice oa na ca), .int .i64 fu, .int .i64 sl, .int .i64 ar] 25)).alloc (.cells (madeCells #[.int .u8 0] (p * 64)) 5)).alloc (.cells #[.int .i64 0, .int .u32 0, .int .u32 0, .int .u32 0, .int .u32 0, .int .u32 0, .int .u32 0, .int .u32 0, .int .u32 0, .int .u32 0, .int .u32 0, .int .u32 0, .int .u32 0, .int .u32 0, .int .u32 0, .int .u32 0, .int .u32 0, .int .u32 0, .int .u32 0, .int .u32 0, .int .u32 0, .int .u32 0, .int .u32 0, .int .u32 0, .int .u32 0, .int .u32 0, .int .u32 0, .int .u32 0, .int .u32 0, .int .u32 0, .int .u32 0, .int .u32 0, .int .u32 0, .int .u32 0, .int .u32 0, .string ⟨#[]⟩, .slice none 0 0, .int .i64 0, .int .i64 0, .slice (some ⟨w.heap.size + 1, 0, none⟩) (p * 64) (p * 64), .int .u32 (ba + im.size), .slice oa na ca, .int .i64 fu, .bool false, .slice none 0 0, .int .i64 ar, .int .i64 0, .int .u32 0, .int .i64 0, .int .i64 0, .slice none 0 0] 79))).cell? ⟨w.heap.size, i, none⟩) = _
  rw [World.cell?_alloc_past _ _ _ (by simp; omega), World.cell?_alloc_past _ _ _ sP, World.cell?_alloc_at _ _ _ _ rfl]
theorem new_bel (p na ca : Nat) (oa : Option Addr) (im : ByteArray) (ba en fu sl ar : Int) (w : World) : Touch [] w ((((w.alloc (.cells #[.int .i64 (p : Int), .string im, .int .u32 ba, .int .u32 en, (.slice oa na ca), .int .i64 fu, .int .i64 sl, .int .i64 ar] 25)).alloc (.cells (madeCells #[.int .u8 0] (p * 64)) 5)).alloc (.cells #[.int .i64 0, .int .u32 0, .int .u32 0, .int .u32 0, .int .u32 0, .int .u32 0, .int .u32 0, .int .u32 0, .int .u32 0, .int .u32 0, .int .u32 0, .int .u32 0, .int .u32 0, .int .u32 0, .int .u32 0, .int .u32 0, .int .u32 0, .int .u32 0, .int .u32 0, .int .u32 0, .int .u32 0, .int .u32 0, .int .u32 0, .int .u32 0, .int .u32 0, .int .u32 0, .int .u32 0, .int .u32 0, .int .u32 0, .int .u32 0, .int .u32 0, .int .u32 0, .int .u32 0, .int .u32 0, .int .u32 0, .string ⟨#[]⟩, .slice none 0 0, .int .i64 0, .int .i64 0, .slice (some ⟨w.heap.size + 1, 0, none⟩) (p * 64) (p * 64), .int .u32 (ba + im.size), .slice oa na ca, .int .i64 fu, .bool false, .slice none 0 0, .int .i64 ar, .int .i64 0, .int .u32 0, .int .i64 0, .int .i64 0, .slice none 0 0] 79)).drew) := (((Touch.refl _ _).alloc _).alloc _).alloc _ |>.drew
theorem at_pc {B b mb : Nat} {m : M} {vE vA vS vB : Value} {w : World} (h : RefAt B b mb m vE vA vS vB w) (v : Int) : RefAt B b mb { m with pc := v } vE vA vS vB (w.setCell ⟨b, 1, none⟩ (.int .u32 v)) :=
  h.upd (m' := { m with pc := v }) (vE' := vE) (vA' := vA) (vS' := vS) (vB' := vB) 1 dC dC _ rfl rfl (fun i hi h39 => Or.elim (Decidable.em (i = 1)) (fun e => by subst e; simp [lay]) (fun e => by simp [lay, e]))
end ref
end Go.Proofs.YtjikimpejlmdiaaGreatDoor

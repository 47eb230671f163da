import Derived.Test.YtakcncahkdfknaaGreatDoorGg
import Derived.Test.YtakcncahkdfknaaGreatDoorGb
import Derived.Laws.IdiomCopy
import Derived.BigRegion
namespace Go.Proofs.YtakcncahkdfknaaGreatDoor.prog
open Go.ChangeShapes Go.WideShapes Go.ChangeAt Go.RowKit Go.Proofs.YtakcncahkdfknaaGreatDoor.nums Go.Proofs.YtakcncahkdfknaaGreatDoor.dnums Go.Proofs.YtakcncahkdfknaaGreatDoor.mach

set_option linter.unusedVariables false
set_option linter.unusedSimpArgs false
theorem size_u8 : (Tryz.prog.info? 5).map (·.size) = some 1 := by kernel_rfl
theorem or_z (a k : Int) (a0 : 0 ≤ a) (a1 : a ≤ 4294967295) : bits BinOp.or IntKind.u32 a 0 = a := by
  rw [or_add a 0 0 a0 (by omega) (by decide) (by decide) (by decide) (by omega)]; omega
theorem orb2 (a b : Int) (a0 : 0 ≤ a) (a1 : a ≤ 255) (b0 : 0 ≤ b) (b1 : b ≤ 255) : bits BinOp.or IntKind.u32 a (b * 256) = a + b * 256 := ref.or_low a b 8 (by decide) a0 (by omega) b0 (by omega)
theorem orb3 (a c : Int) (a0 : 0 ≤ a) (a1 : a ≤ 65535) (c0 : 0 ≤ c) (c1 : c ≤ 255) : bits BinOp.or IntKind.u32 a (c * 65536) = a + c * 65536 := ref.or_low a c 16 (by decide) a0 (by omega) c0 (by omega)
theorem orb4 (a d : Int) (a0 : 0 ≤ a) (a1 : a ≤ 16777215) (d0 : 0 ≤ d) (d1 : d ≤ 255) : bits BinOp.or IntKind.u32 a (d * 16777216) = a + d * 16777216 := ref.or_low a d 24 (by decide) a0 (by omega) d0 (by omega)
theorem touch_new : ∀ (vs : List Value) (o : Nat) (u w : World), ref.Touch [] u w → ∀ {g : Nat}, u.heap.size ≤ g → ref.Touch [] u (w.setCells g o vs)
  | [], _, _, _, h, _, _ => h
  | v :: r, o, u, w, h, g, hg => touch_new r (o + 1) u (w.setCell ⟨g, o, none⟩ v) ⟨h.os, h.tape, h.output, by simpa [World.setCell] using h.size, fun k hk hn => (Below.heap_setCell w ⟨g, o, none⟩ v k (by show k ≠ g; omega)).trans (h.block k hk hn)⟩ hg
theorem ld_a (mem : Nat → Int) (a : Nat) : ld mem a 1 = mem a ∧ ld mem a 2 = mem a + mem (a + 1) * 256 ∧ ld mem a 4 = mem a + mem (a + 1) * 256 + mem (a + 2) * 65536 + mem (a + 3) * 16777216 := by simp [ld]
set_option maxRecDepth 10000 in
set_option maxHeartbeats 1000000 in
theorem read_1 (B b mb : Nat) (m : M) (nx : Int) (vX : Nat → Value) (w : World) (h : PAt B b mb m nx vX w) (a : Nat) (ha : a + 1 ≤ m.size) (hz : m.size ≤ 512) (hm : ∀ i, 0 ≤ m.mem i ∧ m.mem i ≤ 255) :
    Calls Tryz.prog 31 #[.pointer (some ⟨b, 0, none⟩), .int .u32 a, .int .u32 1] w fun e w' => e = .returned (.int .u32 (ld m.mem a 1)) ∧ ref.Touch [] w w' := by
  have lb : b < w.heap.size := World.block_lt_of_cell? _ _ h.data
  have lm : mb < w.heap.size := World.block_lt_of_cell? _ _ (h.bytes 0 (by omega))
  have hd := h.data
  have q1 : (a : Int) ≤ (m.size : Int) := by omega
  have q2 : ¬ m.size = a := by omega
  have q3 : (0 : Int) ≤ (a : Int) := by omega
  have hW : ∀ i, i < m.size → (w.alloc (.cells #[.int .u8 0, .int .u8 0, .int .u8 0, .int .u8 0] 94)).cell? ⟨mb, i, none⟩ = some (.int .u8 (m.mem i)) := fun i hi => (World.cell?_alloc_past _ _ _ lm).trans (h.bytes i hi)
  obtain ⟨w1, hw1⟩ : ∃ w1, w1 = (w.alloc (.cells #[.int .u8 0, .int .u8 0, .int .u8 0, .int .u8 0] 94)).drew.setCells w.heap.size 0 [Value.int .u8 (m.mem a)] := ⟨_, rfl⟩
  have hrun : ∀ ty, (Builtin.copy_ #[49, 49] ty #[.slice (some ⟨w.heap.size, 0, none⟩) 1 4, .slice (some ⟨mb, a, none⟩) (m.size - a) (m.size - a)]).run Tryz.prog (w.alloc (.cells #[.int .u8 0, .int .u8 0, .int .u8 0, .int .u8 0] 94)).drew = .ok (goInt 1) w1 := fun ty => by
    rw [hw1]
    exact run_copy_cells (P := Tryz.prog) (w.alloc (.cells #[.int .u8 0, .int .u8 0, .int .u8 0, .int .u8 0] 94)).drew 49 49 ty 5 w.heap.size 0 1 4 ⟨mb, a, none⟩ (m.size - a) (m.size - a) [Value.int .u8 (m.mem a)] Tryz.underlying49 size_u8 (by simp [Nat.min_def]; omega)
      (by intro j v hv; rcases j with _ | j <;> simp at hv <;> subst hv <;> (simpa [Addr.add] using hW (a + 0) (by omega)))
      (by intro j hj; simp at hj; show ((w.alloc (.cells #[.int .u8 0, .int .u8 0, .int .u8 0, .int .u8 0] 94)).cell? ⟨w.heap.size, 0 + j, none⟩).isSome = true; rw [World.cell?_alloc_at _ _ _ _ rfl]; rcases j with _ | _ | _ | _ | j <;> first | rfl | omega)
      (by intro j hj; show (w.alloc (.cells #[.int .u8 0, .int .u8 0, .int .u8 0, .int .u8 0] 94)).frozen? ⟨w.heap.size, 0 + j, none⟩ = false; exact World.frozen?_alloc_at _ _ _ _ rfl)
      (by simp [Value.oneCell'])
  have hin : ∀ j, j < 1 → w1.cell? ⟨w.heap.size, 0 + j, none⟩ = [Value.int .u8 (m.mem a)][j]? := by
    intro j hj
    rw [hw1, World.cell?_setCells_in w.heap.size [Value.int .u8 (m.mem a)] 0 _ (by intro j hj; simp at hj; show ((w.alloc (.cells #[.int .u8 0, .int .u8 0, .int .u8 0, .int .u8 0] 94)).cell? ⟨w.heap.size, 0 + j, none⟩).isSome = true; rw [World.cell?_alloc_at _ _ _ _ rfl]; rcases j with _ | _ | _ | _ | j <;> first | rfl | omega) j (by simpa using hj)]
    exact (List.getElem?_eq_getElem (by simpa using hj)).symm
  have hou : ∀ j, 1 ≤ j → w1.cell? ⟨w.heap.size, j, none⟩ = (#[.int .u8 0, .int .u8 0, .int .u8 0, .int .u8 0] : Array Value)[j]? := by
    intro j hj
    rw [hw1, World.cell?_setCells_out _ _ _ _ _ (fun _ _ => Or.inr (by simpa using hj))]
    show (w.alloc (.cells #[.int .u8 0, .int .u8 0, .int .u8 0, .int .u8 0] 94)).cell? ⟨w.heap.size, j, none⟩ = _
    exact World.cell?_alloc_at _ _ _ _ rfl
  have e0 : w1.cell? ⟨w.heap.size, 0, none⟩ = some (.int .u8 (m.mem a)) := hin 0 (by decide)
  have e1 : w1.cell? ⟨w.heap.size, 1, none⟩ = some (.int .u8 (0)) := hou 1 (by decide)
  have e2 : w1.cell? ⟨w.heap.size, 2, none⟩ = some (.int .u8 (0)) := hou 2 (by decide)
  have e3 : w1.cell? ⟨w.heap.size, 3, none⟩ = some (.int .u8 (0)) := hou 3 (by decide)
  have b00 := (hm a).1
  have b01 := (hm a).2
  have HV : Hid (bits BinOp.or IntKind.u32 (bits BinOp.or IntKind.u32 (bits BinOp.or IntKind.u32 (m.mem a) (0)) (0)) (0) = ld m.mem a 1) := by
    have i1 := or_z (m.mem a) 0 (by omega) (by omega)
    rw [i1, i1, i1, (ld_a m.mem a).1]
    exact rfl
  have HT : Hid (ref.Touch [] w w1) := by
    rw [hw1]
    exact touch_new _ _ _ _ ((ref.Touch.refl _ _).alloc _).drew (Nat.le_refl _)
  clear h hm hin hou hw1 hW
  go_enter Tryz.func31, Tryz.ntmps31
  go_wp2_with fail
  go_region
  go_wp2_with fail
  go_ret
  exact ⟨by rw [← HV.out]; rfl, HT.out⟩
set_option maxRecDepth 10000 in
set_option maxHeartbeats 1000000 in
theorem read_2 (B b mb : Nat) (m : M) (nx : Int) (vX : Nat → Value) (w : World) (h : PAt B b mb m nx vX w) (a : Nat) (ha : a + 2 ≤ m.size) (hz : m.size ≤ 512) (hm : ∀ i, 0 ≤ m.mem i ∧ m.mem i ≤ 255) :
    Calls Tryz.prog 31 #[.pointer (some ⟨b, 0, none⟩), .int .u32 a, .int .u32 2] w fun e w' => e = .returned (.int .u32 (ld m.mem a 2)) ∧ ref.Touch [] w w' := by
  have lb : b < w.heap.size := World.block_lt_of_cell? _ _ h.data
  have lm : mb < w.heap.size := World.block_lt_of_cell? _ _ (h.bytes 0 (by omega))
  have hd := h.data
  have q1 : (a : Int) ≤ (m.size : Int) := by omega
  have q2 : ¬ m.size = a := by omega
  have q3 : (0 : Int) ≤ (a : Int) := by omega
  have hW : ∀ i, i < m.size → (w.alloc (.cells #[.int .u8 0, .int .u8 0, .int .u8 0, .int .u8 0] 94)).cell? ⟨mb, i, none⟩ = some (.int .u8 (m.mem i)) := fun i hi => (World.cell?_alloc_past _ _ _ lm).trans (h.bytes i hi)
  obtain ⟨w1, hw1⟩ : ∃ w1, w1 = (w.alloc (.cells #[.int .u8 0, .int .u8 0, .int .u8 0, .int .u8 0] 94)).drew.setCells w.heap.size 0 [Value.int .u8 (m.mem a), Value.int .u8 (m.mem (a + 1))] := ⟨_, rfl⟩
  have hrun : ∀ ty, (Builtin.copy_ #[49, 49] ty #[.slice (some ⟨w.heap.size, 0, none⟩) 2 4, .slice (some ⟨mb, a, none⟩) (m.size - a) (m.size - a)]).run Tryz.prog (w.alloc (.cells #[.int .u8 0, .int .u8 0, .int .u8 0, .int .u8 0] 94)).drew = .ok (goInt 2) w1 := fun ty => by
    rw [hw1]
    exact run_copy_cells (P := Tryz.prog) (w.alloc (.cells #[.int .u8 0, .int .u8 0, .int .u8 0, .int .u8 0] 94)).drew 49 49 ty 5 w.heap.size 0 2 4 ⟨mb, a, none⟩ (m.size - a) (m.size - a) [Value.int .u8 (m.mem a), Value.int .u8 (m.mem (a + 1))] Tryz.underlying49 size_u8 (by simp [Nat.min_def]; omega)
      (by intro j v hv; rcases j with _ | _ | j <;> simp at hv <;> subst hv <;> first | (simpa [Addr.add] using hW (a + 0) (by omega)) | (simpa [Addr.add] using hW (a + 1) (by omega)))
      (by intro j hj; simp at hj; show ((w.alloc (.cells #[.int .u8 0, .int .u8 0, .int .u8 0, .int .u8 0] 94)).cell? ⟨w.heap.size, 0 + j, none⟩).isSome = true; rw [World.cell?_alloc_at _ _ _ _ rfl]; rcases j with _ | _ | _ | _ | j <;> first | rfl | omega)
      (by intro j hj; show (w.alloc (.cells #[.int .u8 0, .int .u8 0, .int .u8 0, .int .u8 0] 94)).frozen? ⟨w.heap.size, 0 + j, none⟩ = false; exact World.frozen?_alloc_at _ _ _ _ rfl)
      (by simp [Value.oneCell'])
  have hin : ∀ j, j < 2 → w1.cell? ⟨w.heap.size, 0 + j, none⟩ = [Value.int .u8 (m.mem a), Value.int .u8 (m.mem (a + 1))][j]? := by
    intro j hj
    rw [hw1, World.cell?_setCells_in w.heap.size [Value.int .u8 (m.mem a), Value.int .u8 (m.mem (a + 1))] 0 _ (by intro j hj; simp at hj; show ((w.alloc (.cells #[.int .u8 0, .int .u8 0, .int .u8 0, .int .u8 0] 94)).cell? ⟨w.heap.size, 0 + j, none⟩).isSome = true; rw [World.cell?_alloc_at _ _ _ _ rfl]; rcases j with _ | _ | _ | _ | j <;> first | rfl | omega) j (by simpa using hj)]
    exact (List.getElem?_eq_getElem (by simpa using hj)).symm
  have hou : ∀ j, 2 ≤ j → w1.cell? ⟨w.heap.size, j, none⟩ = (#[.int .u8 0, .int .u8 0, .int .u8 0, .int .u8 0] : Array Value)[j]? := by
    intro j hj
    rw [hw1, World.cell?_setCells_out _ _ _ _ _ (fun _ _ => Or.inr (by simpa using hj))]
    show (w.alloc (.cells #[.int .u8 0, .int .u8 0, .int .u8 0, .int .u8 0] 94)).cell? ⟨w.heap.size, j, none⟩ = _
    exact World.cell?_alloc_at _ _ _ _ rfl
  have e0 : w1.cell? ⟨w.heap.size, 0, none⟩ = some (.int .u8 (m.mem a)) := hin 0 (by decide)
  have e1 : w1.cell? ⟨w.heap.size, 1, none⟩ = some (.int .u8 (m.mem (a + 1))) := hin 1 (by decide)
  have e2 : w1.cell? ⟨w.heap.size, 2, none⟩ = some (.int .u8 (0)) := hou 2 (by decide)
  have e3 : w1.cell? ⟨w.heap.size, 3, none⟩ = some (.int .u8 (0)) := hou 3 (by decide)
  have b00 := (hm a).1
  have b01 := (hm a).2
  have b10 := (hm (a + 1)).1
  have b11 := (hm (a + 1)).2
  have HV : Hid (bits BinOp.or IntKind.u32 (bits BinOp.or IntKind.u32 (bits BinOp.or IntKind.u32 (m.mem a) (m.mem (a + 1) * 256)) (0)) (0) = ld m.mem a 2) := by
    have i2 := orb2 (m.mem a) (m.mem (a + 1)) b00 b01 b10 b11
    have i3 := or_z (m.mem a + m.mem (a + 1) * 256) 0 (by omega) (by omega)
    rw [i2, i3, i3, (ld_a m.mem a).2.1]
    exact rfl
  have HT : Hid (ref.Touch [] w w1) := by
    rw [hw1]
    exact touch_new _ _ _ _ ((ref.Touch.refl _ _).alloc _).drew (Nat.le_refl _)
  clear h hm hin hou hw1 hW
  go_enter Tryz.func31, Tryz.ntmps31
  go_wp2_with fail
  go_region
  go_wp2_with fail
  go_ret
  exact ⟨by rw [← HV.out]; rfl, HT.out⟩
set_option maxRecDepth 10000 in
set_option maxHeartbeats 1000000 in
theorem read_4 (B b mb : Nat) (m : M) (nx : Int) (vX : Nat → Value) (w : World) (h : PAt B b mb m nx vX w) (a : Nat) (ha : a + 4 ≤ m.size) (hz : m.size ≤ 512) (hm : ∀ i, 0 ≤ m.mem i ∧ m.mem i ≤ 255) :
    Calls Tryz.prog 31 #[.pointer (some ⟨b, 0, none⟩), .int .u32 a, .int .u32 4] w fun e w' => e = .returned (.int .u32 (ld m.mem a 4)) ∧ ref.Touch [] w w' := by
  have lb : b < w.heap.size := World.block_lt_of_cell? _ _ h.data
  have lm : mb < w.heap.size := World.block_lt_of_cell? _ _ (h.bytes 0 (by omega))
  have hd := h.data
  have q1 : (a : Int) ≤ (m.size : Int) := by omega
  have q2 : ¬ m.size = a := by omega
  have q3 : (0 : Int) ≤ (a : Int) := by omega
  have hW : ∀ i, i < m.size → (w.alloc (.cells #[.int .u8 0, .int .u8 0, .int .u8 0, .int .u8 0] 94)).cell? ⟨mb, i, none⟩ = some (.int .u8 (m.mem i)) := fun i hi => (World.cell?_alloc_past _ _ _ lm).trans (h.bytes i hi)
  obtain ⟨w1, hw1⟩ : ∃ w1, w1 = (w.alloc (.cells #[.int .u8 0, .int .u8 0, .int .u8 0, .int .u8 0] 94)).drew.setCells w.heap.size 0 [Value.int .u8 (m.mem a), Value.int .u8 (m.mem (a + 1)), Value.int .u8 (m.mem (a + 2)), Value.int .u8 (m.mem (a + 3))] := ⟨_, rfl⟩
  have hrun : ∀ ty, (Builtin.copy_ #[49, 49] ty #[.slice (some ⟨w.heap.size, 0, none⟩) 4 4, .slice (some ⟨mb, a, none⟩) (m.size - a) (m.size - a)]).run Tryz.prog (w.alloc (.cells #[.int .u8 0, .int .u8 0, .int .u8 0, .int .u8 0] 94)).drew = .ok (goInt 4) w1 := fun ty => by
    rw [hw1]
    exact run_copy_cells (P := Tryz.prog) (w.alloc (.cells #[.int .u8 0, .int .u8 0, .int .u8 0, .int .u8 0] 94)).drew 49 49 ty 5 w.heap.size 0 4 4 ⟨mb, a, none⟩ (m.size - a) (m.size - a) [Value.int .u8 (m.mem a), Value.int .u8 (m.mem (a + 1)), Value.int .u8 (m.mem (a + 2)), Value.int .u8 (m.mem (a + 3))] Tryz.underlying49 size_u8 (by simp [Nat.min_def]; omega)
      (by intro j v hv; rcases j with _ | _ | _ | _ | j <;> simp at hv <;> subst hv <;> first | (simpa [Addr.add] using hW (a + 0) (by omega)) | (simpa [Addr.add] using hW (a + 1) (by omega)) | (simpa [Addr.add] using hW (a + 2) (by omega)) | (simpa [Addr.add] using hW (a + 3) (by omega)))
      (by intro j hj; simp at hj; show ((w.alloc (.cells #[.int .u8 0, .int .u8 0, .int .u8 0, .int .u8 0] 94)).cell? ⟨w.heap.size, 0 + j, none⟩).isSome = true; rw [World.cell?_alloc_at _ _ _ _ rfl]; rcases j with _ | _ | _ | _ | j <;> first | rfl | omega)
      (by intro j hj; show (w.alloc (.cells #[.int .u8 0, .int .u8 0, .int .u8 0, .int .u8 0] 94)).frozen? ⟨w.heap.size, 0 + j, none⟩ = false; exact World.frozen?_alloc_at _ _ _ _ rfl)
      (by simp [Value.oneCell'])
  have hin : ∀ j, j < 4 → w1.cell? ⟨w.heap.size, 0 + j, none⟩ = [Value.int .u8 (m.mem a), Value.int .u8 (m.mem (a + 1)), Value.int .u8 (m.mem (a + 2)), Value.int .u8 (m.mem (a + 3))][j]? := by
    intro j hj
    rw [hw1, World.cell?_setCells_in w.heap.size [Value.int .u8 (m.mem a), Value.int .u8 (m.mem (a + 1)), Value.int .u8 (m.mem (a + 2)), Value.int .u8 (m.mem (a + 3))] 0 _ (by intro j hj; simp at hj; show ((w.alloc (.cells #[.int .u8 0, .int .u8 0, .int .u8 0, .int .u8 0] 94)).cell? ⟨w.heap.size, 0 + j, none⟩).isSome = true; rw [World.cell?_alloc_at _ _ _ _ rfl]; rcases j with _ | _ | _ | _ | j <;> first | rfl | omega) j (by simpa using hj)]
    exact (List.getElem?_eq_getElem (by simpa using hj)).symm
  have hou : ∀ j, 4 ≤ j → w1.cell? ⟨w.heap.size, j, none⟩ = (#[.int .u8 0, .int .u8 0, .int .u8 0, .int .u8 0] : Array Value)[j]? := by
    intro j hj
    rw [hw1, World.cell?_setCells_out _ _ _ _ _ (fun _ _ => Or.inr (by simpa using hj))]
    show (w.alloc (.cells #[.int .u8 0, .int .u8 0, .int .u8 0, .int .u8 0] 94)).cell? ⟨w.heap.size, j, none⟩ = _
    exact World.cell?_alloc_at _ _ _ _ rfl
  have e0 : w1.cell? ⟨w.heap.size, 0, none⟩ = some (.int .u8 (m.mem a)) := hin 0 (by decide)
  have e1 : w1.cell? ⟨w.heap.size, 1, none⟩ = some (.int .u8 (m.mem (a + 1))) := hin 1 (by decide)
  have e2 : w1.cell? ⟨w.heap.size, 2, none⟩ = some (.int .u8 (m.mem (a + 2))) := hin 2 (by decide)
  have e3 : w1.cell? ⟨w.heap.size, 3, none⟩ = some (.int .u8 (m.mem (a + 3))) := hin 3 (by decide)
  have b00 := (hm a).1
  have b01 := (hm a).2
  have b10 := (hm (a + 1)).1
  have b11 := (hm (a + 1)).2
  have b20 := (hm (a + 2)).1
  have b21 := (hm (a + 2)).2
  have b30 := (hm (a + 3)).1
  have b31 := (hm (a + 3)).2
  have HV : Hid (bits BinOp.or IntKind.u32 (bits BinOp.or IntKind.u32 (bits BinOp.or IntKind.u32 (m.mem a) (m.mem (a + 1) * 256)) (m.mem (a + 2) * 65536)) (m.mem (a + 3) * 16777216) = ld m.mem a 4) := by
    have i2 := orb2 (m.mem a) (m.mem (a + 1)) b00 b01 b10 b11
    have i3 := orb3 (m.mem a + m.mem (a + 1) * 256) (m.mem (a + 2)) (by omega) (by omega) b20 b21
    have i4 := orb4 (m.mem a + m.mem (a + 1) * 256 + m.mem (a + 2) * 65536) (m.mem (a + 3)) (by omega) (by omega) b30 b31
    rw [i2, i3, i4, (ld_a m.mem a).2.2]
    exact rfl
  have HT : Hid (ref.Touch [] w w1) := by
    rw [hw1]
    exact touch_new _ _ _ _ ((ref.Touch.refl _ _).alloc _).drew (Nat.le_refl _)
  clear h hm hin hou hw1 hW
  go_enter Tryz.func31, Tryz.ntmps31
  go_wp2_with fail
  go_region
  go_wp2_with fail
  go_ret
  exact ⟨by rw [← HV.out]; rfl, HT.out⟩
theorem PAt.sets {B b mb : Nat} {m : M} {nx : Int} {vX : Nat → Value} {w : World} (h : PAt B b mb m nx vX w) (k : Nat) (l : List Int) (f : Nat → Int) (hk : k + l.length ≤ m.size) (hf : ∀ i, f i = if k ≤ i ∧ i < k + l.length then l.getD (i - k) 0 else m.mem i) : PAt B b mb { m with mem := f } nx vX (w.setCells mb k (l.map (Value.int .u8))) := by
  have ne := h.ne
  refine ⟨h.hb, h.hmb, h.ne, fun i hi hM => ?_, ?_, fun i => ?_, fun i hi => ?_, fun i => ?_⟩
  · rw [World.cell?_setCells_out _ _ _ _ _ (fun e => absurd e ne)]; exact h.cells i hi hM
  · rw [World.cell?_setCells_out _ _ _ _ _ (fun e => absurd e ne)]; exact h.data
  · rw [World.frozen?_setCells]; exact h.free i
  · show _ = some (Value.int .u8 (f i))
    rw [hf i]
    by_cases e : k ≤ i ∧ i < k + l.length
    · have hj : i - k < (l.map (Value.int .u8)).length := by rw [List.length_map]; omega
      have := World.cell?_setCells_in mb (l.map (Value.int .u8)) k w (fun j hj => by rw [List.length_map] at hj; rw [h.bytes (k + j) (by omega)]; rfl) (i - k) hj
      rw [show k + (i - k) = i by omega] at this
      rw [this, if_pos e]
      have hj2 : i - k < l.length := by omega
      simp [List.getD, hj2]
    · rw [World.cell?_setCells_out _ _ _ _ _ (fun _ _ => by rw [List.length_map]; show i < k ∨ k + l.length ≤ i; omega), if_neg e]; exact h.bytes i hi
  · rw [World.frozen?_setCells]; exact h.freem i
theorem touch_sets {S : List Nat} {b : Nat} (hb : b ∈ S) : ∀ (vs : List Value) (o : Nat) (u w : World), ref.Touch S u w → ref.Touch S u (w.setCells b o vs)
  | [], _, _, _, h => h
  | v :: r, o, u, w, h => touch_sets hb r (o + 1) u _ (h.setCell hb v)
set_option maxRecDepth 10000 in
set_option maxHeartbeats 1000000 in
theorem write_1 (B b mb : Nat) (m : M) (nx : Int) (vX : Nat → Value) (w : World) (h : PAt B b mb m nx vX w) (a : Nat) (v : Int) (v0 : 0 ≤ v) (v1 : v ≤ 4294967295) (ha : a + 1 ≤ m.size) (hz : m.size ≤ 512) :
    Calls Tryz.prog 105 #[.pointer (some ⟨b, 0, none⟩), .int .u32 a, .int .u32 1, .int .u32 v] w fun e w' => e = .returned (.tuple #[]) ∧ PAt B b mb { m with mem := st m.mem a 1 v } nx vX w' ∧ ref.Touch [mb] w w' := by
  have lb : b < w.heap.size := World.block_lt_of_cell? _ _ h.data
  have lm : mb < w.heap.size := World.block_lt_of_cell? _ _ (h.bytes 0 (by omega))
  have hd := h.data
  have q1 : (a : Int) ≤ (m.size : Int) := by omega
  have q2 : ¬ m.size = a := by omega
  have q3 : (0 : Int) ≤ (a : Int) := by omega
  have tW : ref.Touch [] w (w.alloc (.cells #[.int .u8 (v % 256), .int .u8 (v / 256 % 256), .int .u8 (v / 65536 % 256), .int .u8 (v / 16777216)] 94)) := (ref.Touch.refl _ _).alloc _
  have hW : PAt B b mb m nx vX (w.alloc (.cells #[.int .u8 (v % 256), .int .u8 (v / 256 % 256), .int .u8 (v / 65536 % 256), .int .u8 (v / 16777216)] 94)).drew := h.other tW.drew (by simp) (by simp) (by omega)
  obtain ⟨w1, hw1⟩ : ∃ w1, w1 = (w.alloc (.cells #[.int .u8 (v % 256), .int .u8 (v / 256 % 256), .int .u8 (v / 65536 % 256), .int .u8 (v / 16777216)] 94)).drew.setCells mb a ([v % 256].map (Value.int .u8)) := ⟨_, rfl⟩
  have hrun : ∀ ty, (Builtin.copy_ #[49, 49] ty #[.slice (some ⟨mb, a, none⟩) (m.size - a) (m.size - a), .slice (some ⟨w.heap.size, 0, none⟩) 1 4]).run Tryz.prog (w.alloc (.cells #[.int .u8 (v % 256), .int .u8 (v / 256 % 256), .int .u8 (v / 65536 % 256), .int .u8 (v / 16777216)] 94)).drew = .ok (goInt 1) w1 := fun ty => by
    rw [hw1]
    exact run_copy_cells (P := Tryz.prog) (w.alloc (.cells #[.int .u8 (v % 256), .int .u8 (v / 256 % 256), .int .u8 (v / 65536 % 256), .int .u8 (v / 16777216)] 94)).drew 49 49 ty 5 mb a (m.size - a) (m.size - a) ⟨w.heap.size, 0, none⟩ 1 4 ([v % 256].map (Value.int .u8)) Tryz.underlying49 size_u8 (by simp [Nat.min_def]; omega)
      (by intro j u hu; show (w.alloc (.cells #[.int .u8 (v % 256), .int .u8 (v / 256 % 256), .int .u8 (v / 65536 % 256), .int .u8 (v / 16777216)] 94)).cell? ((⟨w.heap.size, 0, none⟩ : Addr).add j) = some u; rw [show (⟨w.heap.size, 0, none⟩ : Addr).add j = ⟨w.heap.size, j, none⟩ from by unfold Addr.add; by_cases z : j = 0 <;> simp [z], World.cell?_alloc_at _ _ _ _ rfl]; rcases j with _ | j <;> simp at hu <;> subst hu <;> rfl)
      (by intro j hj; simp at hj; rw [hW.bytes (a + j) (by omega)]; rfl)
      (by intro j hj; exact hW.freem _)
      (by simp [Value.oneCell'])
  have HP : Hid (PAt B b mb { m with mem := st m.mem a 1 v } nx vX w1) := by
    rw [hw1]
    refine hW.sets a [v % 256] _ (by simpa using ha) (fun i => ?_)
    show st m.mem a 1 v i = _
    rw [← ref.st_1 m.mem a v]
    by_cases e : a ≤ i ∧ i < a + 1
    · obtain ⟨k, rfl⟩ : ∃ k, i = a + k := ⟨i - a, by omega⟩
      have hk : k < 1 := by omega
      rw [if_pos (by simpa using e), show a + k - a = k by omega]
      rcases k with _ | k
      · simp
      · omega
    · rw [if_neg (by simpa using e)]
      simp [show ¬ i = a by omega]
  have HT : Hid (ref.Touch [mb] w w1) := by
    rw [hw1]
    exact touch_sets (by simp) _ _ _ _ (tW.drew.mono (by simp))
  clear h hw1 hW tW
  go_enter Tryz.func105, Tryz.ntmps105
  go_wp2_with fail
  go_region
  go_wp2_with fail
  go_end0
  exact ⟨rfl, HP.out, HT.out⟩
set_option maxRecDepth 10000 in
set_option maxHeartbeats 1000000 in
theorem write_2 (B b mb : Nat) (m : M) (nx : Int) (vX : Nat → Value) (w : World) (h : PAt B b mb m nx vX w) (a : Nat) (v : Int) (v0 : 0 ≤ v) (v1 : v ≤ 4294967295) (ha : a + 2 ≤ m.size) (hz : m.size ≤ 512) :
    Calls Tryz.prog 105 #[.pointer (some ⟨b, 0, none⟩), .int .u32 a, .int .u32 2, .int .u32 v] w fun e w' => e = .returned (.tuple #[]) ∧ PAt B b mb { m with mem := st m.mem a 2 v } nx vX w' ∧ ref.Touch [mb] w w' := by
  have lb : b < w.heap.size := World.block_lt_of_cell? _ _ h.data
  have lm : mb < w.heap.size := World.block_lt_of_cell? _ _ (h.bytes 0 (by omega))
  have hd := h.data
  have q1 : (a : Int) ≤ (m.size : Int) := by omega
  have q2 : ¬ m.size = a := by omega
  have q3 : (0 : Int) ≤ (a : Int) := by omega
  have tW : ref.Touch [] w (w.alloc (.cells #[.int .u8 (v % 256), .int .u8 (v / 256 % 256), .int .u8 (v / 65536 % 256), .int .u8 (v / 16777216)] 94)) := (ref.Touch.refl _ _).alloc _
  have hW : PAt B b mb m nx vX (w.alloc (.cells #[.int .u8 (v % 256), .int .u8 (v / 256 % 256), .int .u8 (v / 65536 % 256), .int .u8 (v / 16777216)] 94)).drew := h.other tW.drew (by simp) (by simp) (by omega)
  obtain ⟨w1, hw1⟩ : ∃ w1, w1 = (w.alloc (.cells #[.int .u8 (v % 256), .int .u8 (v / 256 % 256), .int .u8 (v / 65536 % 256), .int .u8 (v / 16777216)] 94)).drew.setCells mb a ([v % 256, v / 256 % 256].map (Value.int .u8)) := ⟨_, rfl⟩
  have hrun : ∀ ty, (Builtin.copy_ #[49, 49] ty #[.slice (some ⟨mb, a, none⟩) (m.size - a) (m.size - a), .slice (some ⟨w.heap.size, 0, none⟩) 2 4]).run Tryz.prog (w.alloc (.cells #[.int .u8 (v % 256), .int .u8 (v / 256 % 256), .int .u8 (v / 65536 % 256), .int .u8 (v / 16777216)] 94)).drew = .ok (goInt 2) w1 := fun ty => by
    rw [hw1]
    exact run_copy_cells (P := Tryz.prog) (w.alloc (.cells #[.int .u8 (v % 256), .int .u8 (v / 256 % 256), .int .u8 (v / 65536 % 256), .int .u8 (v / 16777216)] 94)).drew 49 49 ty 5 mb a (m.size - a) (m.size - a) ⟨w.heap.size, 0, none⟩ 2 4 ([v % 256, v / 256 % 256].map (Value.int .u8)) Tryz.underlying49 size_u8 (by simp [Nat.min_def]; omega)
      (by intro j u hu; show (w.alloc (.cells #[.int .u8 (v % 256), .int .u8 (v / 256 % 256), .int .u8 (v / 65536 % 256), .int .u8 (v / 16777216)] 94)).cell? ((⟨w.heap.size, 0, none⟩ : Addr).add j) = some u; rw [show (⟨w.heap.size, 0, none⟩ : Addr).add j = ⟨w.heap.size, j, none⟩ from by unfold Addr.add; by_cases z : j = 0 <;> simp [z], World.cell?_alloc_at _ _ _ _ rfl]; rcases j with _ | _ | j <;> simp at hu <;> subst hu <;> rfl)
      (by intro j hj; simp at hj; rw [hW.bytes (a + j) (by omega)]; rfl)
      (by intro j hj; exact hW.freem _)
      (by simp [Value.oneCell'])
  have HP : Hid (PAt B b mb { m with mem := st m.mem a 2 v } nx vX w1) := by
    rw [hw1]
    refine hW.sets a [v % 256, v / 256 % 256] _ (by simpa using ha) (fun i => ?_)
    show st m.mem a 2 v i = _
    rw [← ref.st_2 m.mem a v]
    by_cases e : a ≤ i ∧ i < a + 2
    · obtain ⟨k, rfl⟩ : ∃ k, i = a + k := ⟨i - a, by omega⟩
      have hk : k < 2 := by omega
      rw [if_pos (by simpa using e), show a + k - a = k by omega]
      rcases k with _ | _ | k
      · simp
      · simp
      · omega
    · rw [if_neg (by simpa using e)]
      simp [show ¬ i = a by omega, show ¬ i = a + 1 by omega]
  have HT : Hid (ref.Touch [mb] w w1) := by
    rw [hw1]
    exact touch_sets (by simp) _ _ _ _ (tW.drew.mono (by simp))
  clear h hw1 hW tW
  go_enter Tryz.func105, Tryz.ntmps105
  go_wp2_with fail
  go_region
  go_wp2_with fail
  go_end0
  exact ⟨rfl, HP.out, HT.out⟩
set_option maxRecDepth 10000 in
set_option maxHeartbeats 1000000 in
theorem write_4 (B b mb : Nat) (m : M) (nx : Int) (vX : Nat → Value) (w : World) (h : PAt B b mb m nx vX w) (a : Nat) (v : Int) (v0 : 0 ≤ v) (v1 : v ≤ 4294967295) (ha : a + 4 ≤ m.size) (hz : m.size ≤ 512) :
    Calls Tryz.prog 105 #[.pointer (some ⟨b, 0, none⟩), .int .u32 a, .int .u32 4, .int .u32 v] w fun e w' => e = .returned (.tuple #[]) ∧ PAt B b mb { m with mem := st m.mem a 4 v } nx vX w' ∧ ref.Touch [mb] w w' := by
  have lb : b < w.heap.size := World.block_lt_of_cell? _ _ h.data
  have lm : mb < w.heap.size := World.block_lt_of_cell? _ _ (h.bytes 0 (by omega))
  have hd := h.data
  have q1 : (a : Int) ≤ (m.size : Int) := by omega
  have q2 : ¬ m.size = a := by omega
  have q3 : (0 : Int) ≤ (a : Int) := by omega
  have tW : ref.Touch [] w (w.alloc (.cells #[.int .u8 (v % 256), .int .u8 (v / 256 % 256), .int .u8 (v / 65536 % 256), .int .u8 (v / 16777216)] 94)) := (ref.Touch.refl _ _).alloc _
  have hW : PAt B b mb m nx vX (w.alloc (.cells #[.int .u8 (v % 256), .int .u8 (v / 256 % 256), .int .u8 (v / 65536 % 256), .int .u8 (v / 16777216)] 94)).drew := h.other tW.drew (by simp) (by simp) (by omega)
  obtain ⟨w1, hw1⟩ : ∃ w1, w1 = (w.alloc (.cells #[.int .u8 (v % 256), .int .u8 (v / 256 % 256), .int .u8 (v / 65536 % 256), .int .u8 (v / 16777216)] 94)).drew.setCells mb a ([v % 256, v / 256 % 256, v / 65536 % 256, v / 16777216].map (Value.int .u8)) := ⟨_, rfl⟩
  have hrun : ∀ ty, (Builtin.copy_ #[49, 49] ty #[.slice (some ⟨mb, a, none⟩) (m.size - a) (m.size - a), .slice (some ⟨w.heap.size, 0, none⟩) 4 4]).run Tryz.prog (w.alloc (.cells #[.int .u8 (v % 256), .int .u8 (v / 256 % 256), .int .u8 (v / 65536 % 256), .int .u8 (v / 16777216)] 94)).drew = .ok (goInt 4) w1 := fun ty => by
    rw [hw1]
    exact run_copy_cells (P := Tryz.prog) (w.alloc (.cells #[.int .u8 (v % 256), .int .u8 (v / 256 % 256), .int .u8 (v / 65536 % 256), .int .u8 (v / 16777216)] 94)).drew 49 49 ty 5 mb a (m.size - a) (m.size - a) ⟨w.heap.size, 0, none⟩ 4 4 ([v % 256, v / 256 % 256, v / 65536 % 256, v / 16777216].map (Value.int .u8)) Tryz.underlying49 size_u8 (by simp [Nat.min_def]; omega)
      (by intro j u hu; show (w.alloc (.cells #[.int .u8 (v % 256), .int .u8 (v / 256 % 256), .int .u8 (v / 65536 % 256), .int .u8 (v / 16777216)] 94)).cell? ((⟨w.heap.size, 0, none⟩ : Addr).add j) = some u; rw [show (⟨w.heap.size, 0, none⟩ : Addr).add j = ⟨w.heap.size, j, none⟩ from by unfold Addr.add; by_cases z : j = 0 <;> simp [z], World.cell?_alloc_at _ _ _ _ rfl]; rcases j with _ | _ | _ | _ | j <;> simp at hu <;> subst hu <;> rfl)
      (by intro j hj; simp at hj; rw [hW.bytes (a + j) (by omega)]; rfl)
      (by intro j hj; exact hW.freem _)
      (by simp [Value.oneCell'])
  have HP : Hid (PAt B b mb { m with mem := st m.mem a 4 v } nx vX w1) := by
    rw [hw1]
    refine hW.sets a [v % 256, v / 256 % 256, v / 65536 % 256, v / 16777216] _ (by simpa using ha) (fun i => ?_)
    show st m.mem a 4 v i = _
    rw [← ref.st_4 m.mem a v v0 v1]
    by_cases e : a ≤ i ∧ i < a + 4
    · obtain ⟨k, rfl⟩ : ∃ k, i = a + k := ⟨i - a, by omega⟩
      have hk : k < 4 := by omega
      rw [if_pos (by simpa using e), show a + k - a = k by omega]
      rcases k with _ | _ | _ | _ | k
      · simp
      · simp
      · simp
      · simp
      · omega
    · rw [if_neg (by simpa using e)]
      simp [show ¬ i = a by omega, show ¬ i = a + 1 by omega, show ¬ i = a + 2 by omega, show ¬ i = a + 3 by omega]
  have HT : Hid (ref.Touch [mb] w w1) := by
    rw [hw1]
    exact touch_sets (by simp) _ _ _ _ (tW.drew.mono (by simp))
  clear h hw1 hW tW
  go_enter Tryz.func105, Tryz.ntmps105
  go_wp2_with fail
  go_region
  go_wp2_with fail
  go_end0
  exact ⟨rfl, HP.out, HT.out⟩
end Go.Proofs.YtakcncahkdfknaaGreatDoor.prog

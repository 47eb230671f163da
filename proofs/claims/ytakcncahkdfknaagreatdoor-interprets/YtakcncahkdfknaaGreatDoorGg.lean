import Derived.Test.YtakcncahkdfknaaGreatDoorGb
import Derived.Recover
import Derived.Test.YtakcncahkdfknaaGreatDoorGa
import Derived.Defers
namespace Go.Proofs.YtakcncahkdfknaaGreatDoor.prog
open Go.ChangeShapes Go.WideShapes Go.ChangeAt Go.RowKit Go.Proofs.YtakcncahkdfknaaGreatDoor.nums Go.Proofs.YtakcncahkdfknaaGreatDoor.dnums Go.Proofs.YtakcncahkdfknaaGreatDoor.mach

set_option linter.unusedVariables false
set_option linter.unusedSimpArgs false
/-- The cells of the program's Machine; vX: those that are no plain number. -/
def layP (m : M) (nx : Int) (vX : Nat → Value) (i : Nat) : Value :=
  if i < 32 then .int .u32 (m.regs i) else if i = 33 then .int .u32 m.pc else if i = 34 then .int .u32 nx else if i = 36 then .int .u32 m.brk else if i = 39 then .int .i64 m.steps else vX i
structure PAt (B b mb : Nat) (m : M) (nx : Int) (vX : Nat → Value) (w : World) : Prop where
  hb : B ≤ b
  hmb : B ≤ mb
  ne : b ≠ mb
  cells : ∀ i, i < 40 → i ≠ 32 → w.cell? ⟨b, i, none⟩ = some (layP m nx vX i)
  data : w.cell? ⟨b, 32, none⟩ = some (.slice (some ⟨mb, 0, none⟩) m.size m.size)
  free : ∀ i, w.frozen? ⟨b, i, none⟩ = false
  bytes : ∀ i, i < m.size → w.cell? ⟨mb, i, none⟩ = some (.int .u8 (m.mem i))
  freem : ∀ i, w.frozen? ⟨mb, i, none⟩ = false
theorem PAt.there {B b mb : Nat} {m : M} {nx : Int} {vX : Nat → Value} {w : World} (h : PAt B b mb m nx vX w) (i : Nat) (hi : i < 40) : ∃ u, w.cell? ⟨b, i, none⟩ = some u := by
  by_cases e : i = 32
  · subst e; exact ⟨_, h.data⟩
  · exact ⟨_, h.cells i hi e⟩
theorem PAt.upd {B b mb : Nat} {m m' : M} {nx nx' : Int} {vX vX' : Nat → Value} {w : World} (h : PAt B b mb m nx vX w) (k : Nat) (hk : k < 40) (kM : k ≠ 32) (v : Value)
    (hs : m'.size = m.size) (hm : m'.mem = m.mem) (he : ∀ i, i < 40 → i ≠ 32 → layP m' nx' vX' i = if i = k then v else layP m nx vX i) :
    PAt B b mb m' nx' vX' (w.setCell ⟨b, k, none⟩ v) := by
  refine ⟨h.hb, h.hmb, h.ne, fun i hi hM => ?_, ?_, fun i => ?_, fun i hi => ?_, fun i => ?_⟩
  · rw [he i hi hM]
    by_cases e : i = k
    · subst e
      obtain ⟨u, hu⟩ := h.there i hi
      rw [World.cell?_setCell_same _ _ _ hu, if_pos rfl]
    · rw [World.cell?_setCell_other _ _ _ _ (by intro x; injection x with _ x; omega), if_neg e]; exact h.cells i hi hM
  · rw [World.cell?_setCell_other _ _ _ _ (by intro x; injection x with _ x; omega), hs]; exact h.data
  · rw [World.frozen?_setCell]; exact h.free i
  · rw [World.cell?_setCell_other _ _ _ _ (by have := h.ne; intro x; injection x with x _; omega), hm]; exact h.bytes i (by omega)
  · rw [World.frozen?_setCell]; exact h.freem i
theorem PAt.other {B b mb : Nat} {S : List Nat} {m : M} {nx : Int} {vX : Nat → Value} {w w' : World} (h : PAt B b mb m nx vX w) (t : ref.Touch S w w') (n1 : b ∉ S) (n2 : mb ∉ S) (hz : 0 < m.size) : PAt B b mb m nx vX w' := by
  have l1 : b < w.heap.size := World.block_lt_of_cell? _ _ h.data
  have l2 : mb < w.heap.size := World.block_lt_of_cell? _ _ (h.bytes 0 hz)
  refine ⟨h.hb, h.hmb, h.ne, fun i hi hM => ?_, ?_, fun i => ?_, fun i hi => ?_, fun i => ?_⟩
  · rw [t.cell (p := ⟨b, i, none⟩) l1 n1]; exact h.cells i hi hM
  · rw [t.cell (p := ⟨b, 32, none⟩) l1 n1]; exact h.data
  · rw [t.frozen (p := ⟨b, i, none⟩) l1 n1]; exact h.free i
  · rw [t.cell (p := ⟨mb, i, none⟩) l2 n2]; exact h.bytes i hi
  · rw [t.frozen (p := ⟨mb, i, none⟩) l2 n2]; exact h.freem i
theorem ly1 {α : Type} (l : List α) (i : Nat) (a : α) : l.toArray.setIfInBounds i a = (l.set i a).toArray := by simp
theorem ly2 {α : Type} (x a : α) (l : List α) : (x :: l).set 0 a = a :: l := rfl
theorem ly3 {α : Type} (x a : α) (l : List α) (n : Nat) : (x :: l).set (n + 1) a = x :: l.set n a := rfl
/-- What a trap raises. -/
def trapV (o : Int) : List PanicEntry := [{ v := .iface 78 (.agg #[.int .i64 o]), recovered := false }]
theorem end_any (o : Int) (w : World) : Calls Tryz.prog 32 #[.int .i64 o] w fun e w' => e = .panicked (trapV o) ∧ w' = w := by
  have hp : ∀ (v : Value) (w : World), (Instr.panic (.iface 78 v)).run Tryz.prog w = .halt (.panic (.iface 78 v)) w := fun v w => by simp [Instr.panic, goPanic, go_sem]
  go_enter Tryz.func32, Tryz.ntmps32
  go_wp2
  exact ⟨rfl, rfl, rfl⟩
theorem lies_any (a n z : Int) (a0 : 0 ≤ a) (a1 : a ≤ 4294967295) (n0 : 0 ≤ n) (n1 : n ≤ 4294967295) (w : World) :
    Calls Tryz.prog 16 #[.int .u64 a, .int .u64 n, .int .u64 z] w fun e w' => e = .returned (.bool (decide (a + n ≤ z))) ∧ w' = w := by
  go_enter Tryz.func16, Tryz.ntmps16
  go_wp2
  go_ret
  exact ⟨rfl, rfl⟩
theorem PAt.reg {B b mb : Nat} {m : M} {nx : Int} {vX : Nat → Value} {w : World} (h : PAt B b mb m nx vX w) (r : Nat) (hr : r < 32) : w.cell? ⟨b, r, none⟩ = some (.int .u32 (m.regs r)) := by
  have := h.cells r (by omega) (by omega)
  rwa [show layP m nx vX r = .int .u32 (m.regs r) from by simp [layP, hr]] at this
theorem at_reg (B b mb : Nat) (m : M) (nx : Int) (vX : Nat → Value) (w : World) (h : PAt B b mb m nx vX w) (r v : Int) (r0 : 1 ≤ r) (r1 : r ≤ 31) : PAt B b mb (setReg m r v) nx vX (w.setCell ⟨b, r.toNat, none⟩ (.int .u32 v)) := by
  rw [show setReg m r v = { m with regs := fun i => if i = r.toNat then v else m.regs i } from if_neg (by omega)]
  refine h.upd r.toNat (by omega) (by omega) _ rfl rfl (fun i hi hM => ?_)
  by_cases e : i = r.toNat
  · subst e
    simp [layP, show r.toNat < 32 by omega]
  · rw [if_neg e]
    by_cases k : i < 32
    · simp [layP, k, e]
    · simp [layP, k]
theorem at_next (B b mb : Nat) (m : M) (nx : Int) (vX : Nat → Value) (w : World) (h : PAt B b mb m nx vX w) (v : Int) : PAt B b mb m v vX (w.setCell ⟨b, 34, none⟩ (.int .u32 v)) :=
  h.upd (m' := m) (nx' := v) (vX' := vX) 34 (by decide) (by decide) _ rfl rfl (fun i hi hM => Or.elim (Decidable.em (i = 34)) (fun e => by subst e; simp [layP]) (fun e => by simp [layP, e]))
theorem at_pc (B b mb : Nat) (m : M) (nx : Int) (vX : Nat → Value) (w : World) (h : PAt B b mb m nx vX w) (v : Int) : PAt B b mb { m with pc := v } nx vX (w.setCell ⟨b, 33, none⟩ (.int .u32 v)) :=
  h.upd (m' := { m with pc := v }) (nx' := nx) (vX' := vX) 33 (by decide) (by decide) _ rfl rfl (fun i hi hM => Or.elim (Decidable.em (i = 33)) (fun e => by subst e; simp [layP]) (fun e => by simp [layP, e]))
theorem at_steps (B b mb : Nat) (m : M) (nx : Int) (vX : Nat → Value) (w : World) (h : PAt B b mb m nx vX w) (v : Int) : PAt B b mb { m with steps := v } nx vX (w.setCell ⟨b, 39, none⟩ (.int .i64 v)) :=
  h.upd (m' := { m with steps := v }) (nx' := nx) (vX' := vX) 39 (by decide) (by decide) _ rfl rfl (fun i hi hM => Or.elim (Decidable.em (i = 39)) (fun e => by subst e; simp [layP]) (fun e => by simp [layP, e]))
theorem set_any (B b mb : Nat) (m : M) (nx : Int) (vX : Nat → Value) (w : World) (h : PAt B b mb m nx vX w) (r v : Int) (r0 : 0 ≤ r) (r1 : r ≤ 31) :
    Calls Tryz.prog 86 #[.pointer (some ⟨b, 0, none⟩), .int .i64 r, .int .u32 v] w fun e w' => e = .returned (.tuple #[]) ∧ PAt B b mb (setReg m r v) nx vX w' ∧ ref.Touch [b] w w' := by
  by_cases e : r = 0
  · subst e
    have HAT : Hid (PAt B b mb (setReg m 0 v) nx vX w) := by rw [show setReg m 0 v = m from if_pos rfl]; exact h
    clear h
    go_enter Tryz.func86, Tryz.ntmps86
    go_wp2
    go_end0
    exact ⟨rfl, HAT.out, ref.Touch.refl _ _⟩
  · have HAT : Hid (PAt _ _ _ _ _ _ _) := at_reg B b mb m nx vX w h r v (by omega) r1
    obtain ⟨u0, c0⟩ := h.there r.toNat (by omega)
    have f0 := h.free r.toNat
    have r2 : r < 32 := by omega
    have r3 : 1 ≤ r := by omega
    clear h
    go_enter Tryz.func86, Tryz.ntmps86
    go_wp2
    go_end0
    exact ⟨rfl, HAT.out, (ref.Touch.refl _ _).setCell (by simp) _⟩
theorem jump_y (B b mb : Nat) (m : M) (nx : Int) (vX : Nat → Value) (w : World) (h : PAt B b mb m nx vX w) (to : Int) (t0 : 0 ≤ to) (t1 : to ≤ 4294967295) (ht : to % 4 = 0) :
    Calls Tryz.prog 87 #[.pointer (some ⟨b, 0, none⟩), .int .u32 to] w fun e w' => e = .returned (.tuple #[]) ∧ PAt B b mb m to vX w' ∧ ref.Touch [b] w w' := by
  have HAT : Hid (PAt B b mb m to vX _) := at_next B b mb m nx vX w h to
  obtain ⟨u0, c0⟩ := h.there 34 (by decide)
  have f0 := h.free 34
  clear h
  go_enter Tryz.func87, Tryz.ntmps87
  go_wp2
  go_end0
  exact ⟨rfl, HAT.out, (ref.Touch.refl _ _).setCell (by simp) _⟩
theorem jump_n (b : Nat) (to : Int) (t0 : 0 ≤ to) (t1 : to ≤ 4294967295) (ht : ¬ to % 4 = 0) (w : World) :
    Calls Tryz.prog 87 #[.pointer (some ⟨b, 0, none⟩), .int .u32 to] w fun e w' => e = .panicked (trapV 3) ∧ w' = w := by
  go_enter Tryz.func87, Tryz.ntmps87
  go_wp2_with (first | (go_at_call 32; refine (end_any 3 _).mono ?_; rintro e w' ⟨rfl, hw'⟩; subst w'))
  exact ⟨rfl, rfl, rfl⟩
theorem guard1_fa (B b mb : Nat) (m : M) (nx : Int) (vX : Nat → Value) (w : World) (h : PAt B b mb m nx vX w) (a al fa : Int) (a0 : 0 ≤ a) (a1 : a ≤ 4294967295) (hz : m.size ≤ 512) (hl : lies m a 1 = false) : Calls Tryz.prog 29 #[.pointer (some ⟨b, 0, none⟩), .int .u32 a, .int .u32 1, .int .i64 al, .int .i64 fa] w fun e w' => e = .panicked (trapV fa) ∧ w' = w := by
  have hd := h.data
  have hl2 : decide (a + 1 ≤ (m.size : Int)) = false := hl
  clear h
  go_enter Tryz.func29, Tryz.ntmps29
  go_wp2_with (first | (go_at_call 16; refine (lies_any a 1 (m.size : Int) (by omega) (by omega) (by omega) (by omega) _).mono ?_; rintro e w' ⟨rfl, hw'⟩; subst w') | (go_at_call 32; refine (end_any fa _).mono ?_; rintro e w' ⟨rfl, hw'⟩; subst w'))
  exact ⟨rfl, rfl, rfl⟩
theorem guard1_ok (B b mb : Nat) (m : M) (nx : Int) (vX : Nat → Value) (w : World) (h : PAt B b mb m nx vX w) (a al fa : Int) (a0 : 0 ≤ a) (a1 : a ≤ 4294967295) (hz : m.size ≤ 512) (hl : lies m a 1 = true) : Calls Tryz.prog 29 #[.pointer (some ⟨b, 0, none⟩), .int .u32 a, .int .u32 1, .int .i64 al, .int .i64 fa] w fun e w' => e = .returned (.tuple #[]) ∧ w' = w := by
  have hd := h.data
  have hl2 : decide (a + 1 ≤ (m.size : Int)) = true := hl
  clear h
  go_enter Tryz.func29, Tryz.ntmps29
  go_wp2_with (first | (go_at_call 16; refine (lies_any a 1 (m.size : Int) (by omega) (by omega) (by omega) (by omega) _).mono ?_; rintro e w' ⟨rfl, hw'⟩; subst w') | (go_at_call 32; refine (end_any fa _).mono ?_; rintro e w' ⟨rfl, hw'⟩; subst w'))
  go_end0
  exact ⟨rfl, rfl⟩
theorem guard2_al (B b mb : Nat) (m : M) (nx : Int) (vX : Nat → Value) (w : World) (h : PAt B b mb m nx vX w) (a al fa : Int) (a0 : 0 ≤ a) (a1 : a ≤ 4294967295) (hz : m.size ≤ 512) (ha : ¬ a % 2 = 0) : Calls Tryz.prog 29 #[.pointer (some ⟨b, 0, none⟩), .int .u32 a, .int .u32 2, .int .i64 al, .int .i64 fa] w fun e w' => e = .panicked (trapV al) ∧ w' = w := by
  clear h
  go_enter Tryz.func29, Tryz.ntmps29
  go_wp2_with (first | (go_at_call 32; refine (end_any al _).mono ?_; rintro e w' ⟨rfl, hw'⟩; subst w'))
  exact ⟨rfl, rfl, rfl⟩
theorem guard2_fa (B b mb : Nat) (m : M) (nx : Int) (vX : Nat → Value) (w : World) (h : PAt B b mb m nx vX w) (a al fa : Int) (a0 : 0 ≤ a) (a1 : a ≤ 4294967295) (hz : m.size ≤ 512) (ha : a % 2 = 0) (hl : lies m a 2 = false) : Calls Tryz.prog 29 #[.pointer (some ⟨b, 0, none⟩), .int .u32 a, .int .u32 2, .int .i64 al, .int .i64 fa] w fun e w' => e = .panicked (trapV fa) ∧ w' = w := by
  have hd := h.data
  have hl2 : decide (a + 2 ≤ (m.size : Int)) = false := hl
  clear h
  go_enter Tryz.func29, Tryz.ntmps29
  go_wp2_with (first | (go_at_call 16; refine (lies_any a 2 (m.size : Int) (by omega) (by omega) (by omega) (by omega) _).mono ?_; rintro e w' ⟨rfl, hw'⟩; subst w') | (go_at_call 32; refine (end_any fa _).mono ?_; rintro e w' ⟨rfl, hw'⟩; subst w'))
  exact ⟨rfl, rfl, rfl⟩
theorem guard2_ok (B b mb : Nat) (m : M) (nx : Int) (vX : Nat → Value) (w : World) (h : PAt B b mb m nx vX w) (a al fa : Int) (a0 : 0 ≤ a) (a1 : a ≤ 4294967295) (hz : m.size ≤ 512) (ha : a % 2 = 0) (hl : lies m a 2 = true) : Calls Tryz.prog 29 #[.pointer (some ⟨b, 0, none⟩), .int .u32 a, .int .u32 2, .int .i64 al, .int .i64 fa] w fun e w' => e = .returned (.tuple #[]) ∧ w' = w := by
  have hd := h.data
  have hl2 : decide (a + 2 ≤ (m.size : Int)) = true := hl
  clear h
  go_enter Tryz.func29, Tryz.ntmps29
  go_wp2_with (first | (go_at_call 16; refine (lies_any a 2 (m.size : Int) (by omega) (by omega) (by omega) (by omega) _).mono ?_; rintro e w' ⟨rfl, hw'⟩; subst w') | (go_at_call 32; refine (end_any fa _).mono ?_; rintro e w' ⟨rfl, hw'⟩; subst w'))
  go_end0
  exact ⟨rfl, rfl⟩
theorem guard4_al (B b mb : Nat) (m : M) (nx : Int) (vX : Nat → Value) (w : World) (h : PAt B b mb m nx vX w) (a al fa : Int) (a0 : 0 ≤ a) (a1 : a ≤ 4294967295) (hz : m.size ≤ 512) (ha : ¬ a % 4 = 0) : Calls Tryz.prog 29 #[.pointer (some ⟨b, 0, none⟩), .int .u32 a, .int .u32 4, .int .i64 al, .int .i64 fa] w fun e w' => e = .panicked (trapV al) ∧ w' = w := by
  clear h
  go_enter Tryz.func29, Tryz.ntmps29
  go_wp2_with (first | (go_at_call 32; refine (end_any al _).mono ?_; rintro e w' ⟨rfl, hw'⟩; subst w'))
  exact ⟨rfl, rfl, rfl⟩
theorem guard4_fa (B b mb : Nat) (m : M) (nx : Int) (vX : Nat → Value) (w : World) (h : PAt B b mb m nx vX w) (a al fa : Int) (a0 : 0 ≤ a) (a1 : a ≤ 4294967295) (hz : m.size ≤ 512) (ha : a % 4 = 0) (hl : lies m a 4 = false) : Calls Tryz.prog 29 #[.pointer (some ⟨b, 0, none⟩), .int .u32 a, .int .u32 4, .int .i64 al, .int .i64 fa] w fun e w' => e = .panicked (trapV fa) ∧ w' = w := by
  have hd := h.data
  have hl2 : decide (a + 4 ≤ (m.size : Int)) = false := hl
  clear h
  go_enter Tryz.func29, Tryz.ntmps29
  go_wp2_with (first | (go_at_call 16; refine (lies_any a 4 (m.size : Int) (by omega) (by omega) (by omega) (by omega) _).mono ?_; rintro e w' ⟨rfl, hw'⟩; subst w') | (go_at_call 32; refine (end_any fa _).mono ?_; rintro e w' ⟨rfl, hw'⟩; subst w'))
  exact ⟨rfl, rfl, rfl⟩
theorem guard4_ok (B b mb : Nat) (m : M) (nx : Int) (vX : Nat → Value) (w : World) (h : PAt B b mb m nx vX w) (a al fa : Int) (a0 : 0 ≤ a) (a1 : a ≤ 4294967295) (hz : m.size ≤ 512) (ha : a % 4 = 0) (hl : lies m a 4 = true) : Calls Tryz.prog 29 #[.pointer (some ⟨b, 0, none⟩), .int .u32 a, .int .u32 4, .int .i64 al, .int .i64 fa] w fun e w' => e = .returned (.tuple #[]) ∧ w' = w := by
  have hd := h.data
  have hl2 : decide (a + 4 ≤ (m.size : Int)) = true := hl
  clear h
  go_enter Tryz.func29, Tryz.ntmps29
  go_wp2_with (first | (go_at_call 16; refine (lies_any a 4 (m.size : Int) (by omega) (by omega) (by omega) (by omega) _).mono ?_; rintro e w' ⟨rfl, hw'⟩; subst w') | (go_at_call 32; refine (end_any fa _).mono ?_; rintro e w' ⟨rfl, hw'⟩; subst w'))
  go_end0
  exact ⟨rfl, rfl⟩
end Go.Proofs.YtakcncahkdfknaaGreatDoor.prog

namespace Go.Proofs.YtakcncahkdfknaaGreatDoor.prog
open Go.ChangeShapes Go.WideShapes Go.ChangeAt Go.RowKit Go.Proofs.YtakcncahkdfknaaGreatDoor.nums Go.Proofs.YtakcncahkdfknaaGreatDoor.dnums Go.Proofs.YtakcncahkdfknaaGreatDoor.mach

set_option linter.unusedVariables false
set_option linter.unusedSimpArgs false
set_option maxRecDepth 10000 in
theorem catch_trap (p : Nat) (x : Value) (o : Int) (w : World) (hc : w.cell? ⟨p, 0, none⟩ = some x) (hz : w.frozen? ⟨p, 0, none⟩ = false) :
    CallsD Tryz.prog 28 #[.pointer (some ⟨p, 0, none⟩)] (.panicking [{ v := Value.iface 78 (Value.agg #[Value.int IntKind.i64 o]), recovered := false }]) w fun e u' w' =>
      e = .returned (.tuple #[]) ∧ u' = .panicking [{ v := Value.iface 78 (Value.agg #[Value.int IntKind.i64 o]), recovered := true }] ∧ w' = (w.alloc (.cells #[.int .i64 o] 78)).setCell ⟨p, 0, none⟩ (.int .i64 o) := by
  have hta : ∀ (v : Value) (w : World), (Instr.typeAssert (.iface 78 v) 20 78 true).run Tryz.prog w = .ok (.tuple #[v, .bool true]) w := fun v w => by kernel_rfl
  have lp : p < w.heap.size := World.block_lt_of_cell? _ _ hc
  refine callsD_of_wpS Tryz.func28 rfl fun c₀ cs hu => ?_
  apply wpS_seq
  apply wpS_region
  simp [wpOpsS, go_sem, recoverD, hu, Tryz.ntmps28, Exit.thenS]
  refine wpS_of_wp ?_
  rw [show (#[Value.pointer (some ⟨p, 0, none⟩)] ++ (Array.replicate 11 undef).setIfInBounds 3 (Value.iface 78 (Value.agg #[Value.int IntKind.i64 o])) : Array Value) = #[Value.pointer (some ⟨p, 0, none⟩), undef, undef, undef, Value.iface 78 (Value.agg #[Value.int IntKind.i64 o]), undef, undef, undef, undef, undef, undef, undef] from rfl]
  go_wp2
  cases c₀
  simp_all [bodyPostS, results, Tryz.results28, go_sem]
theorem catch_idle (p : Nat) (w : World) :
    CallsD Tryz.prog 28 #[.pointer (some ⟨p, 0, none⟩)] .returning w fun e u' w' => e = .returned (.tuple #[]) ∧ u' = .returning ∧ w' = w := by
  refine callsD_of_wpS Tryz.func28 rfl fun c₀ cs hu => ?_
  apply wpS_seq
  apply wpS_region
  simp [wpOpsS, go_sem, recoverD, hu, Tryz.ntmps28, Exit.thenS]
  refine wpS_of_wp ?_
  rw [show (#[Value.pointer (some ⟨p, 0, none⟩)] ++ (Array.replicate 11 undef).setIfInBounds 3 Value.nilIface : Array Value) = #[Value.pointer (some ⟨p, 0, none⟩), undef, undef, undef, Value.nilIface, undef, undef, undef, undef, undef, undef, undef] from rfl]
  go_wp2
  cases c₀
  simp_all [bodyPostS, results, Tryz.results28]
set_option maxRecDepth 10000 in
theorem outcome_pan (g1 g2 : Nat) (o : Int) (w : World) (R : World → Prop)
    (hC : Calls Tryz.prog 19 #[.pointer (some ⟨g1, 0, none⟩), .pointer (some ⟨g2, 0, none⟩)] (w.alloc (.cells #[.int .i64 0] 28)) fun e w' => e = .panicked (trapV o) ∧ R w' ∧ w'.cell? ⟨w.heap.size, 0, none⟩ = some (.int .i64 0) ∧ w'.frozen? ⟨w.heap.size, 0, none⟩ = false) :
    Calls Tryz.prog 18 #[.func (.func 19) #[] #[.pointer (some ⟨g1, 0, none⟩), .pointer (some ⟨g2, 0, none⟩)]] w fun e w' => e = .returned (.int .i64 o) ∧ ∃ w1, R w1 ∧ w' = (w1.setCell ⟨w.heap.size, 0, none⟩ (.int .i64 o)).alloc (.cells #[.int .i64 o] 78) := by
  have hmf : ∀ (fn : Fn) (first cap : Array Value) (w : World), (Instr.makeFunc fn first cap).run Tryz.prog w = .ok (.func fn first cap) w := fun _ _ _ _ => rfl
  have HC : Hid (Calls Tryz.prog 19 #[.pointer (some ⟨g1, 0, none⟩), .pointer (some ⟨g2, 0, none⟩)] (w.alloc (.cells #[.int .i64 0] 28)) fun e w' => e = .panicked (trapV o) ∧ R w' ∧ w'.cell? ⟨w.heap.size, 0, none⟩ = some (.int .i64 0) ∧ w'.frozen? ⟨w.heap.size, 0, none⟩ = false) := hC
  clear hC
  go_enter_defers Tryz.func18, Tryz.ntmps18
  go_wp2_with (first | (go_at_call 19; refine (Calls.mono HC.out ?_); rintro e w1 ⟨rfl, hr, hc, hz⟩; have HR : Hid (R w1) := hr; clear hr))
  refine leaves_cons (f := 28) (args := #[.pointer (some ⟨w.heap.size, 0, none⟩)]) (by simp) (by simp [go_sem]) ?_
  refine (catch_trap w.heap.size _ o _ hc hz).mono ?_
  rintro e u' w2 ⟨rfl, rfl, rfl⟩
  have l1 : w.heap.size < w1.heap.size := World.block_lt_of_cell? _ _ hc
  simp [Leaves, settle, results, Tryz.results18, go_sem, hc, hz, l1]
  exact ⟨w1, HR.out, rfl⟩
set_option maxRecDepth 10000 in
theorem outcome_ret (g1 g2 : Nat) (w : World) (R : World → Prop) (hC : Calls Tryz.prog 19 #[.pointer (some ⟨g1, 0, none⟩), .pointer (some ⟨g2, 0, none⟩)] (w.alloc (.cells #[.int .i64 0] 28)) fun e w' => e = .returned (.tuple #[]) ∧ R w' ∧ w'.cell? ⟨w.heap.size, 0, none⟩ = some (.int .i64 0) ∧ w'.frozen? ⟨w.heap.size, 0, none⟩ = false) :
    Calls Tryz.prog 18 #[.func (.func 19) #[] #[.pointer (some ⟨g1, 0, none⟩), .pointer (some ⟨g2, 0, none⟩)]] w fun e w' => e = .returned (.int .i64 0) ∧ ∃ w1, R w1 ∧ w' = w1.setCell ⟨w.heap.size, 0, none⟩ (.int .i64 0) := by
  have hmf : ∀ (fn : Fn) (first cap : Array Value) (w : World), (Instr.makeFunc fn first cap).run Tryz.prog w = .ok (.func fn first cap) w := fun _ _ _ _ => rfl
  have HC : Hid (Calls Tryz.prog 19 #[.pointer (some ⟨g1, 0, none⟩), .pointer (some ⟨g2, 0, none⟩)] (w.alloc (.cells #[.int .i64 0] 28)) fun e w' => e = .returned (.tuple #[]) ∧ R w' ∧ w'.cell? ⟨w.heap.size, 0, none⟩ = some (.int .i64 0) ∧ w'.frozen? ⟨w.heap.size, 0, none⟩ = false) := hC
  clear hC
  go_enter_defers Tryz.func18, Tryz.ntmps18
  go_wp2_with (first | (go_at_call 19; refine (Calls.mono HC.out ?_); rintro e w1 ⟨rfl, hr, hc, hz⟩; have HR : Hid (R w1) := hr; clear hr))
  refine leaves_cons (f := 28) (args := #[.pointer (some ⟨w.heap.size, 0, none⟩)]) (by simp) (by simp [go_sem]) ?_
  refine (catch_idle w.heap.size _).mono ?_
  rintro e u' w2 ⟨rfl, rfl, rfl⟩
  simp [Leaves, settle, results, Tryz.results18, go_sem, hc, hz]
  exact ⟨w1, HR.out, rfl⟩
end Go.Proofs.YtakcncahkdfknaaGreatDoor.prog

namespace Go.Proofs.YtakcncahkdfknaaGreatDoor.prog
open Go.ChangeShapes Go.WideShapes Go.ChangeAt Go.RowKit Go.Proofs.YtakcncahkdfknaaGreatDoor.nums Go.Proofs.YtakcncahkdfknaaGreatDoor.dnums Go.Proofs.YtakcncahkdfknaaGreatDoor.mach

set_option linter.unusedVariables false
set_option linter.unusedSimpArgs false
theorem ao_0 (w : World) : Calls Tryz.prog 33 #[.int .i64 0] w fun e w' => e = .returned (.func (.func 45) #[] #[]) ∧ w' = w := by
  go_enter Tryz.func33, Tryz.ntmps33
  go_wp2
  go_ret
  exact ⟨rfl, rfl⟩
theorem ao_1 (w : World) : Calls Tryz.prog 33 #[.int .i64 1] w fun e w' => e = .returned (.func (.func 46) #[] #[]) ∧ w' = w := by
  go_enter Tryz.func33, Tryz.ntmps33
  go_wp2
  go_ret
  exact ⟨rfl, rfl⟩
theorem ao_2 (w : World) : Calls Tryz.prog 33 #[.int .i64 2] w fun e w' => e = .returned (.func (.func 47) #[] #[]) ∧ w' = w := by
  go_enter Tryz.func33, Tryz.ntmps33
  go_wp2
  go_ret
  exact ⟨rfl, rfl⟩
theorem ao_3 (w : World) : Calls Tryz.prog 33 #[.int .i64 3] w fun e w' => e = .returned (.func (.func 48) #[] #[]) ∧ w' = w := by
  go_enter Tryz.func33, Tryz.ntmps33
  go_wp2
  go_ret
  exact ⟨rfl, rfl⟩
theorem ao_4 (w : World) : Calls Tryz.prog 33 #[.int .i64 4] w fun e w' => e = .returned (.func (.func 49) #[] #[]) ∧ w' = w := by
  go_enter Tryz.func33, Tryz.ntmps33
  go_wp2
  go_ret
  exact ⟨rfl, rfl⟩
theorem ao_5 (w : World) : Calls Tryz.prog 33 #[.int .i64 5] w fun e w' => e = .returned (.func (.func 50) #[] #[]) ∧ w' = w := by
  go_enter Tryz.func33, Tryz.ntmps33
  go_wp2
  go_ret
  exact ⟨rfl, rfl⟩
theorem ao_6 (w : World) : Calls Tryz.prog 33 #[.int .i64 6] w fun e w' => e = .returned (.func (.func 51) #[] #[]) ∧ w' = w := by
  go_enter Tryz.func33, Tryz.ntmps33
  go_wp2
  go_ret
  exact ⟨rfl, rfl⟩
theorem ao_7 (w : World) : Calls Tryz.prog 33 #[.int .i64 7] w fun e w' => e = .returned (.func (.func 52) #[] #[]) ∧ w' = w := by
  go_enter Tryz.func33, Tryz.ntmps33
  go_wp2
  go_ret
  exact ⟨rfl, rfl⟩
theorem ao_8 (w : World) : Calls Tryz.prog 33 #[.int .i64 8] w fun e w' => e = .returned (.func (.func 53) #[] #[]) ∧ w' = w := by
  go_enter Tryz.func33, Tryz.ntmps33
  go_wp2
  go_ret
  exact ⟨rfl, rfl⟩
theorem ao_9 (w : World) : Calls Tryz.prog 33 #[.int .i64 9] w fun e w' => e = .returned (.func (.func 54) #[] #[]) ∧ w' = w := by
  go_enter Tryz.func33, Tryz.ntmps33
  go_wp2
  go_ret
  exact ⟨rfl, rfl⟩
theorem ao_10 (w : World) : Calls Tryz.prog 33 #[.int .i64 10] w fun e w' => e = .returned (.func (.func 55) #[] #[]) ∧ w' = w := by
  go_enter Tryz.func33, Tryz.ntmps33
  go_wp2
  go_ret
  exact ⟨rfl, rfl⟩
theorem ao_11 (w : World) : Calls Tryz.prog 33 #[.int .i64 11] w fun e w' => e = .returned (.func (.func 56) #[] #[]) ∧ w' = w := by
  go_enter Tryz.func33, Tryz.ntmps33
  go_wp2
  go_ret
  exact ⟨rfl, rfl⟩
theorem ao_12 (w : World) : Calls Tryz.prog 33 #[.int .i64 12] w fun e w' => e = .returned (.func (.func 57) #[] #[]) ∧ w' = w := by
  go_enter Tryz.func33, Tryz.ntmps33
  go_wp2
  go_ret
  exact ⟨rfl, rfl⟩
theorem ao_13 (w : World) : Calls Tryz.prog 33 #[.int .i64 13] w fun e w' => e = .returned (.func (.func 58) #[] #[]) ∧ w' = w := by
  go_enter Tryz.func33, Tryz.ntmps33
  go_wp2
  go_ret
  exact ⟨rfl, rfl⟩
theorem ao_14 (w : World) : Calls Tryz.prog 33 #[.int .i64 14] w fun e w' => e = .returned (.func (.func 59) #[] #[]) ∧ w' = w := by
  go_enter Tryz.func33, Tryz.ntmps33
  go_wp2
  go_ret
  exact ⟨rfl, rfl⟩
theorem ao_15 (w : World) : Calls Tryz.prog 33 #[.int .i64 15] w fun e w' => e = .returned (.func (.func 60) #[] #[]) ∧ w' = w := by
  go_enter Tryz.func33, Tryz.ntmps33
  go_wp2
  go_ret
  exact ⟨rfl, rfl⟩
theorem ao_16 (w : World) : Calls Tryz.prog 33 #[.int .i64 16] w fun e w' => e = .returned (.func (.func 61) #[] #[]) ∧ w' = w := by
  go_enter Tryz.func33, Tryz.ntmps33
  go_wp2
  go_ret
  exact ⟨rfl, rfl⟩
theorem ao_17 (w : World) : Calls Tryz.prog 33 #[.int .i64 17] w fun e w' => e = .returned (.func (.func 62) #[] #[]) ∧ w' = w := by
  go_enter Tryz.func33, Tryz.ntmps33
  go_wp2
  go_ret
  exact ⟨rfl, rfl⟩
theorem ao_45 (w : World) : Calls Tryz.prog 33 #[.int .i64 45] w fun e w' => e = .returned (.func (.func 63) #[] #[]) ∧ w' = w := by
  go_enter Tryz.func33, Tryz.ntmps33
  go_wp2
  go_ret
  exact ⟨rfl, rfl⟩
theorem ao_46 (w : World) : Calls Tryz.prog 33 #[.int .i64 46] w fun e w' => e = .returned (.func (.func 64) #[] #[]) ∧ w' = w := by
  go_enter Tryz.func33, Tryz.ntmps33
  go_wp2
  go_ret
  exact ⟨rfl, rfl⟩
theorem ao_47 (w : World) : Calls Tryz.prog 33 #[.int .i64 47] w fun e w' => e = .returned (.func (.func 65) #[] #[]) ∧ w' = w := by
  go_enter Tryz.func33, Tryz.ntmps33
  go_wp2
  go_ret
  exact ⟨rfl, rfl⟩
theorem ao_ri (op : Int) (h0 : 18 ≤ op) (h1 : op ≤ 26) (w : World) : Calls Tryz.prog 33 #[.int .i64 op] w fun e w' => e = .returned (.func (.func 99) #[] #[]) ∧ w' = w := by
  go_enter Tryz.func33, Tryz.ntmps33
  go_wp2
  go_ret
  exact ⟨rfl, rfl⟩
theorem ao_rr (op : Int) (h0 : 27 ≤ op) (h1 : op ≤ 44) (w : World) : Calls Tryz.prog 33 #[.int .i64 op] w fun e w' => e = .returned (.func (.func 100) #[] #[]) ∧ w' = w := by
  go_enter Tryz.func33, Tryz.ntmps33
  go_wp2
  go_ret
  exact ⟨rfl, rfl⟩
end Go.Proofs.YtakcncahkdfknaaGreatDoor.prog

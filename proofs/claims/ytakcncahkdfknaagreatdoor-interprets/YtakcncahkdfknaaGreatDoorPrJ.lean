import Derived.Test.YtakcncahkdfknaaGreatDoorGk
import Derived.Test.YtakcncahkdfknaaGreatDoorGg
import Derived.Test.YtakcncahkdfknaaGreatDoorGd
namespace Go.Proofs.YtakcncahkdfknaaGreatDoor.prog
open Go.ChangeShapes Go.WideShapes Go.ChangeAt Go.RowKit Go.Proofs.YtakcncahkdfknaaGreatDoor.nums Go.Proofs.YtakcncahkdfknaaGreatDoor.dnums Go.Proofs.YtakcncahkdfknaaGreatDoor.mach

set_option linter.unusedVariables false
set_option linter.unusedSimpArgs false
attribute [local go_sem ↓] Go.wp_at_zero Go.wp_at_succ
set_option maxRecDepth 10000 in
set_option maxHeartbeats 400000 in
theorem fetch_al (B b mb : Nat) (m : M) (nx : Int) (vX : Nat → Value) (w : World) (h : PAt B b mb m nx vX w) (hz : 0 < m.size) (hf : Fine m) (k : Nat) (hk : m.pc = k) (ha : ¬ (k : Int) % 4 = 0) :
    Calls Tryz.prog 21 #[.pointer (some ⟨b, 0, none⟩)] w fun e w' => e = .panicked (trapV 3) ∧ ref.Touch [] w w' := by
  have lb : b < w.heap.size := World.block_lt_of_cell? _ _ h.data
  have HH : Hid (PAt B b mb m nx vX (w.alloc (.cells #[.nilFunc, .int .i64 0, .int .i64 0, .int .i64 0, .int .i64 0, .int .i32 0] 69))) := h.other ((ref.Touch.refl [] _).alloc _) (by simp) (by simp) hz
  have HHt : Hid (∀ w', ref.Touch [] (w.alloc (.cells #[.nilFunc, .int .i64 0, .int .i64 0, .int .i64 0, .int .i64 0, .int .i32 0] 69)) w' → PAt B b mb m nx vX w') := fun w' t => HH.out.other t (by simp) (by simp) hz
  have HZ : Hid (0 < m.size) := hz
  have HF : Hid (Fine m) := hf
  have cpc : (w.alloc (.cells #[.nilFunc, .int .i64 0, .int .i64 0, .int .i64 0, .int .i64 0, .int .i32 0] 69)).cell? ⟨b, 33, none⟩ = some (.int .u32 (k : Int)) := (HH.out.cells 33 (by decide) (by decide)).trans (by rw [← hk]; rfl)
  have k0 : (0 : Int) ≤ (k : Int) := by omega
  have k1 : (k : Int) ≤ 4294967295 := by have := hf.pc.2; omega
  clear h hz hf
  go_enter Tryz.func21, Tryz.ntmps21
  go_wp2_with (first | (go_at_call 29; refine (Calls.mono (guard4_al B b mb m nx vX _ (HHt.out _ (by repeat' (first | with_reducible exact ref.Touch.refl _ _ | with_reducible apply ref.Touch.drew | with_reducible apply ref.Touch.drewN | assumption))) (k : Int) 3 4 k0 k1 HF.out.size ha ) ?_); rintro e w' ⟨rfl, hw'⟩; subst w'))
  exact ⟨rfl, rfl, (by repeat' (first | with_reducible exact ref.Touch.refl _ _ | with_reducible apply ref.Touch.drew | with_reducible apply ref.Touch.drewN | with_reducible apply ref.Touch.alloc | assumption | exact ref.Touch.trans ((ref.Touch.refl [] _).alloc _) (by assumption)))⟩
set_option maxRecDepth 10000 in
set_option maxHeartbeats 400000 in
theorem fetch_fa (B b mb : Nat) (m : M) (nx : Int) (vX : Nat → Value) (w : World) (h : PAt B b mb m nx vX w) (hz : 0 < m.size) (hf : Fine m) (k : Nat) (hk : m.pc = k) (ha : (k : Int) % 4 = 0) (hl : lies m k 4 = false) :
    Calls Tryz.prog 21 #[.pointer (some ⟨b, 0, none⟩)] w fun e w' => e = .panicked (trapV 4) ∧ ref.Touch [] w w' := by
  have lb : b < w.heap.size := World.block_lt_of_cell? _ _ h.data
  have HH : Hid (PAt B b mb m nx vX (w.alloc (.cells #[.nilFunc, .int .i64 0, .int .i64 0, .int .i64 0, .int .i64 0, .int .i32 0] 69))) := h.other ((ref.Touch.refl [] _).alloc _) (by simp) (by simp) hz
  have HHt : Hid (∀ w', ref.Touch [] (w.alloc (.cells #[.nilFunc, .int .i64 0, .int .i64 0, .int .i64 0, .int .i64 0, .int .i32 0] 69)) w' → PAt B b mb m nx vX w') := fun w' t => HH.out.other t (by simp) (by simp) hz
  have HZ : Hid (0 < m.size) := hz
  have HF : Hid (Fine m) := hf
  have cpc : (w.alloc (.cells #[.nilFunc, .int .i64 0, .int .i64 0, .int .i64 0, .int .i64 0, .int .i32 0] 69)).cell? ⟨b, 33, none⟩ = some (.int .u32 (k : Int)) := (HH.out.cells 33 (by decide) (by decide)).trans (by rw [← hk]; rfl)
  have k0 : (0 : Int) ≤ (k : Int) := by omega
  have k1 : (k : Int) ≤ 4294967295 := by have := hf.pc.2; omega
  clear h hz hf
  go_enter Tryz.func21, Tryz.ntmps21
  go_wp2_with (first | (go_at_call 29; refine (Calls.mono (guard4_fa B b mb m nx vX _ (HHt.out _ (by repeat' (first | with_reducible exact ref.Touch.refl _ _ | with_reducible apply ref.Touch.drew | with_reducible apply ref.Touch.drewN | assumption))) (k : Int) 3 4 k0 k1 HF.out.size ha hl) ?_); rintro e w' ⟨rfl, hw'⟩; subst w'))
  exact ⟨rfl, rfl, (by repeat' (first | with_reducible exact ref.Touch.refl _ _ | with_reducible apply ref.Touch.drew | with_reducible apply ref.Touch.drewN | with_reducible apply ref.Touch.alloc | assumption | exact ref.Touch.trans ((ref.Touch.refl [] _).alloc _) (by assumption)))⟩
set_option maxRecDepth 10000 in
set_option maxHeartbeats 400000 in
theorem fetch_no (B b mb : Nat) (m : M) (nx : Int) (vX : Nat → Value) (w : World) (h : PAt B b mb m nx vX w) (hz : 0 < m.size) (hf : Fine m) (k : Nat) (hk : m.pc = k) (ha : (k : Int) % 4 = 0) (hl : lies m k 4 = true) (hT : ∀ w', ref.Touch [] w w' → decodes.Tabs w' (ld m.mem k 4)) (hn : opn (ld m.mem k 4) = -1) :
    Calls Tryz.prog 21 #[.pointer (some ⟨b, 0, none⟩)] w fun e w' => e = .panicked (trapV 2) ∧ ref.Touch [] w w' := by
  have lb : b < w.heap.size := World.block_lt_of_cell? _ _ h.data
  have HH : Hid (PAt B b mb m nx vX (w.alloc (.cells #[.nilFunc, .int .i64 0, .int .i64 0, .int .i64 0, .int .i64 0, .int .i32 0] 69))) := h.other ((ref.Touch.refl [] _).alloc _) (by simp) (by simp) hz
  have HHt : Hid (∀ w', ref.Touch [] (w.alloc (.cells #[.nilFunc, .int .i64 0, .int .i64 0, .int .i64 0, .int .i64 0, .int .i32 0] 69)) w' → PAt B b mb m nx vX w') := fun w' t => HH.out.other t (by simp) (by simp) hz
  have HZ : Hid (0 < m.size) := hz
  have HF : Hid (Fine m) := hf
  have cpc : (w.alloc (.cells #[.nilFunc, .int .i64 0, .int .i64 0, .int .i64 0, .int .i64 0, .int .i32 0] 69)).cell? ⟨b, 33, none⟩ = some (.int .u32 (k : Int)) := (HH.out.cells 33 (by decide) (by decide)).trans (by rw [← hk]; rfl)
  have k0 : (0 : Int) ≤ (k : Int) := by omega
  have k1 : (k : Int) ≤ 4294967295 := by have := hf.pc.2; omega
  have hk4 : k + 4 ≤ m.size := by simp [lies] at hl; omega
  have x0 : 0 ≤ ld m.mem k 4 := (ld4 m.mem hf.mem k).1
  have x1 : ld m.mem k 4 ≤ 4294967295 := (ld4 m.mem hf.mem k).2
  have HTb : Hid (∀ w', ref.Touch [] w w' → decodes.Tabs w' (ld m.mem k 4)) := hT
  clear h hz hf
  go_enter Tryz.func21, Tryz.ntmps21
  go_wp2_with (first | (go_at_call 29; refine (Calls.mono (guard4_ok B b mb m nx vX _ (HHt.out _ (by repeat' (first | with_reducible exact ref.Touch.refl _ _ | with_reducible apply ref.Touch.drew | with_reducible apply ref.Touch.drewN | assumption))) (k : Int) 3 4 k0 k1 HF.out.size ha hl) ?_); rintro e w' ⟨rfl, hw'⟩; subst w') | (go_at_call 31; refine (Calls.mono (read_4 B b mb m nx vX _ (HHt.out _ (by repeat' (first | with_reducible exact ref.Touch.refl _ _ | with_reducible apply ref.Touch.drew | with_reducible apply ref.Touch.drewN | assumption))) k hk4 HF.out.size HF.out.mem) ?_); rintro e w8 ⟨rfl, ht8⟩; have t8 : ref.Touch [] (w.alloc (.cells #[.nilFunc, .int .i64 0, .int .i64 0, .int .i64 0, .int .i64 0, .int .i32 0] 69)) w8 := ref.Touch.trans (by repeat' (first | with_reducible exact ref.Touch.refl _ _ | with_reducible apply ref.Touch.drew | with_reducible apply ref.Touch.drewN | assumption)) ht8; have c8 : w8.cell? ⟨b, 33, none⟩ = some (.int .u32 (k : Int)) := ((HHt.out _ t8).cells 33 (by decide) (by decide)).trans (by rw [← hk]; rfl); clear ht8) | (go_at_call 30; refine (Calls.mono (decodes.word_any (ld m.mem k 4) x0 x1 _ (HTb.out _ (ref.Touch.trans ((ref.Touch.refl _ _).alloc _) t8))) ?_); rintro e w7 ⟨rfl, hbel⟩; have t7 : ref.Touch [] (w.alloc (.cells #[.nilFunc, .int .i64 0, .int .i64 0, .int .i64 0, .int .i64 0, .int .i32 0] 69)) w7 := ref.Touch.trans t8 (ref.Touch.of_below hbel); rw [dec_no _ hn]; unfold no; clear hbel) | (go_at_call 32; refine (end_any 2 _).mono ?_; rintro e w' ⟨rfl, hw'⟩; subst w'))
  exact ⟨rfl, rfl, ref.Touch.trans ((ref.Touch.refl _ _).alloc _) (t7.alloc _)⟩
theorem touch_cell {u v : World} (h : ref.Touch [] u v) {a : Addr} (ha : u.heap.size ≤ a.block) (x : Value) : ref.Touch [] u (v.setCell a x) :=
  ⟨h.os, h.tape, h.output, by simpa [World.setCell] using h.size, fun k hk hn => (Below.heap_setCell v a x k (by omega)).trans (h.block k hk hn)⟩
set_option maxRecDepth 10000 in
set_option maxHeartbeats 400000 in
theorem fetch_ok (B b mb : Nat) (m : M) (nx : Int) (vX : Nat → Value) (w : World) (h : PAt B b mb m nx vX w) (hz : 0 < m.size) (hf : Fine m) (k : Nat) (hk : m.pc = k) (ha : (k : Int) % 4 = 0) (hl : lies m k 4 = true) (hT : ∀ w', ref.Touch [] w w' → decodes.Tabs w' (ld m.mem k 4)) (hn : ¬ opn (ld m.mem k 4) = -1) (KF : Nat) (hao : ∀ w, Calls Tryz.prog 33 #[.int .i64 (opn (ld m.mem k 4))] w fun e w' => e = .returned (.func (.func KF) #[] #[]) ∧ w' = w) :
    Calls Tryz.prog 21 #[.pointer (some ⟨b, 0, none⟩)] w fun e w' => e = .returned (.agg #[(.func (.func KF) #[] #[]), .int .i64 (opn (ld m.mem k 4)), .int .i64 (qRd (ld m.mem k 4)), .int .i64 (qR1 (ld m.mem k 4)), .int .i64 (qR2 (ld m.mem k 4)), .int .i32 (imm (ld m.mem k 4))]) ∧ ref.Touch [] w w' := by
  have lb : b < w.heap.size := World.block_lt_of_cell? _ _ h.data
  have HH : Hid (PAt B b mb m nx vX (w.alloc (.cells #[.nilFunc, .int .i64 0, .int .i64 0, .int .i64 0, .int .i64 0, .int .i32 0] 69))) := h.other ((ref.Touch.refl [] _).alloc _) (by simp) (by simp) hz
  have HHt : Hid (∀ w', ref.Touch [] (w.alloc (.cells #[.nilFunc, .int .i64 0, .int .i64 0, .int .i64 0, .int .i64 0, .int .i32 0] 69)) w' → PAt B b mb m nx vX w') := fun w' t => HH.out.other t (by simp) (by simp) hz
  have HZ : Hid (0 < m.size) := hz
  have HF : Hid (Fine m) := hf
  have cpc : (w.alloc (.cells #[.nilFunc, .int .i64 0, .int .i64 0, .int .i64 0, .int .i64 0, .int .i32 0] 69)).cell? ⟨b, 33, none⟩ = some (.int .u32 (k : Int)) := (HH.out.cells 33 (by decide) (by decide)).trans (by rw [← hk]; rfl)
  have k0 : (0 : Int) ≤ (k : Int) := by omega
  have k1 : (k : Int) ≤ 4294967295 := by have := hf.pc.2; omega
  have hk4 : k + 4 ≤ m.size := by simp [lies] at hl; omega
  have x0 : 0 ≤ ld m.mem k 4 := (ld4 m.mem hf.mem k).1
  have x1 : ld m.mem k 4 ≤ 4294967295 := (ld4 m.mem hf.mem k).2
  have HTb : Hid (∀ w', ref.Touch [] w w' → decodes.Tabs w' (ld m.mem k 4)) := hT
  have HAO : Hid (∀ w, Calls Tryz.prog 33 #[.int .i64 (opn (ld m.mem k 4))] w fun e w' => e = .returned (.func (.func KF) #[] #[]) ∧ w' = w) := hao
  clear h hz hf
  go_enter Tryz.func21, Tryz.ntmps21
  go_wp2_with (first | (go_at_call 29; refine (Calls.mono (guard4_ok B b mb m nx vX _ (HHt.out _ (by repeat' (first | with_reducible exact ref.Touch.refl _ _ | with_reducible apply ref.Touch.drew | with_reducible apply ref.Touch.drewN | assumption))) (k : Int) 3 4 k0 k1 HF.out.size ha hl) ?_); rintro e w' ⟨rfl, hw'⟩; subst w') | (go_at_call 31; refine (Calls.mono (read_4 B b mb m nx vX _ (HHt.out _ (by repeat' (first | with_reducible exact ref.Touch.refl _ _ | with_reducible apply ref.Touch.drew | with_reducible apply ref.Touch.drewN | assumption))) k hk4 HF.out.size HF.out.mem) ?_); rintro e w8 ⟨rfl, ht8⟩; have t8 : ref.Touch [] (w.alloc (.cells #[.nilFunc, .int .i64 0, .int .i64 0, .int .i64 0, .int .i64 0, .int .i32 0] 69)) w8 := ref.Touch.trans (by repeat' (first | with_reducible exact ref.Touch.refl _ _ | with_reducible apply ref.Touch.drew | with_reducible apply ref.Touch.drewN | assumption)) ht8; have c8 : w8.cell? ⟨b, 33, none⟩ = some (.int .u32 (k : Int)) := ((HHt.out _ t8).cells 33 (by decide) (by decide)).trans (by rw [← hk]; rfl); clear ht8) | (go_at_call 30; refine (Calls.mono (decodes.word_any (ld m.mem k 4) x0 x1 _ (HTb.out _ (ref.Touch.trans ((ref.Touch.refl _ _).alloc _) t8))) ?_); rintro e w7 ⟨rfl, hbel⟩; have t7 : ref.Touch [] (w.alloc (.cells #[.nilFunc, .int .i64 0, .int .i64 0, .int .i64 0, .int .i64 0, .int .i32 0] 69)) w7 := ref.Touch.trans t8 (ref.Touch.of_below hbel); rw [dec_raw _ hn]; unfold ins; clear hbel))
  have l7 : w.heap.size < w7.heap.size := by have := t7.size; simp at this; omega
  have c70 : w7.cell? ⟨w.heap.size, 0, none⟩ = some (.nilFunc) := (t7.cell (p := ⟨w.heap.size, 0, none⟩) (by simp) (by simp)).trans (World.cell?_alloc_at _ _ _ _ rfl)
  have f70 : w7.frozen? ⟨w.heap.size, 0, none⟩ = false := (t7.frozen (p := ⟨w.heap.size, 0, none⟩) (by simp) (by simp)).trans (World.frozen?_alloc_at _ _ _ _ rfl)
  have c71 : w7.cell? ⟨w.heap.size, 1, none⟩ = some (.int .i64 0) := (t7.cell (p := ⟨w.heap.size, 1, none⟩) (by simp) (by simp)).trans (World.cell?_alloc_at _ _ _ _ rfl)
  have f71 : w7.frozen? ⟨w.heap.size, 1, none⟩ = false := (t7.frozen (p := ⟨w.heap.size, 1, none⟩) (by simp) (by simp)).trans (World.frozen?_alloc_at _ _ _ _ rfl)
  have c72 : w7.cell? ⟨w.heap.size, 2, none⟩ = some (.int .i64 0) := (t7.cell (p := ⟨w.heap.size, 2, none⟩) (by simp) (by simp)).trans (World.cell?_alloc_at _ _ _ _ rfl)
  have f72 : w7.frozen? ⟨w.heap.size, 2, none⟩ = false := (t7.frozen (p := ⟨w.heap.size, 2, none⟩) (by simp) (by simp)).trans (World.frozen?_alloc_at _ _ _ _ rfl)
  have c73 : w7.cell? ⟨w.heap.size, 3, none⟩ = some (.int .i64 0) := (t7.cell (p := ⟨w.heap.size, 3, none⟩) (by simp) (by simp)).trans (World.cell?_alloc_at _ _ _ _ rfl)
  have f73 : w7.frozen? ⟨w.heap.size, 3, none⟩ = false := (t7.frozen (p := ⟨w.heap.size, 3, none⟩) (by simp) (by simp)).trans (World.frozen?_alloc_at _ _ _ _ rfl)
  have c74 : w7.cell? ⟨w.heap.size, 4, none⟩ = some (.int .i64 0) := (t7.cell (p := ⟨w.heap.size, 4, none⟩) (by simp) (by simp)).trans (World.cell?_alloc_at _ _ _ _ rfl)
  have f74 : w7.frozen? ⟨w.heap.size, 4, none⟩ = false := (t7.frozen (p := ⟨w.heap.size, 4, none⟩) (by simp) (by simp)).trans (World.frozen?_alloc_at _ _ _ _ rfl)
  have c75 : w7.cell? ⟨w.heap.size, 5, none⟩ = some (.int .i32 0) := (t7.cell (p := ⟨w.heap.size, 5, none⟩) (by simp) (by simp)).trans (World.cell?_alloc_at _ _ _ _ rfl)
  have f75 : w7.frozen? ⟨w.heap.size, 5, none⟩ = false := (t7.frozen (p := ⟨w.heap.size, 5, none⟩) (by simp) (by simp)).trans (World.frozen?_alloc_at _ _ _ _ rfl)
  have HS5 : Hid (∀ w', ref.Touch [w.heap.size] (w7.alloc (.cells #[.int .i64 (opn (ld m.mem k 4)), .int .i64 (qRd (ld m.mem k 4)), .int .i64 (qR1 (ld m.mem k 4)), .int .i64 (qR2 (ld m.mem k 4)), .int .i32 (imm (ld m.mem k 4))] 67)) w' → (fun w' => w'.cell? ⟨w7.heap.size, 0, none⟩ = some (.int .i64 (opn (ld m.mem k 4))) ∧ w'.cell? ⟨w7.heap.size, 1, none⟩ = some (.int .i64 (qRd (ld m.mem k 4))) ∧ w'.cell? ⟨w7.heap.size, 2, none⟩ = some (.int .i64 (qR1 (ld m.mem k 4))) ∧ w'.cell? ⟨w7.heap.size, 3, none⟩ = some (.int .i64 (qR2 (ld m.mem k 4))) ∧ w'.cell? ⟨w7.heap.size, 4, none⟩ = some (.int .i32 (imm (ld m.mem k 4)))) w') := fun w' t => by
    have e : ∀ j, w'.cell? ⟨w7.heap.size, j, none⟩ = (w7.alloc (.cells #[.int .i64 (opn (ld m.mem k 4)), .int .i64 (qRd (ld m.mem k 4)), .int .i64 (qR1 (ld m.mem k 4)), .int .i64 (qR2 (ld m.mem k 4)), .int .i32 (imm (ld m.mem k 4))] 67)).cell? ⟨w7.heap.size, j, none⟩ := fun j => t.cell (p := ⟨w7.heap.size, j, none⟩) (by simp) (by simp; omega)
    exact ⟨(e 0).trans (World.cell?_alloc_at _ _ _ _ rfl), (e 1).trans (World.cell?_alloc_at _ _ _ _ rfl), (e 2).trans (World.cell?_alloc_at _ _ _ _ rfl), (e 3).trans (World.cell?_alloc_at _ _ _ _ rfl), (e 4).trans (World.cell?_alloc_at _ _ _ _ rfl)⟩
  have hst : (store ⟨w.heap.size, 0, none⟩ (.func (.func KF) #[] #[])).run Tryz.prog (w7.alloc (.cells #[.int .i64 (opn (ld m.mem k 4)), .int .i64 (qRd (ld m.mem k 4)), .int .i64 (qR1 (ld m.mem k 4)), .int .i64 (qR2 (ld m.mem k 4)), .int .i32 (imm (ld m.mem k 4))] 67)).drew = .ok () ((w7.alloc (.cells #[.int .i64 (opn (ld m.mem k 4)), .int .i64 (qRd (ld m.mem k 4)), .int .i64 (qR1 (ld m.mem k 4)), .int .i64 (qR2 (ld m.mem k 4)), .int .i32 (imm (ld m.mem k 4))] 67)).drew.setCell ⟨w.heap.size, 0, none⟩ (.func (.func KF) #[] #[])) := by
    have e1 : (w7.alloc (.cells #[.int .i64 (opn (ld m.mem k 4)), .int .i64 (qRd (ld m.mem k 4)), .int .i64 (qR1 (ld m.mem k 4)), .int .i64 (qR2 (ld m.mem k 4)), .int .i32 (imm (ld m.mem k 4))] 67)).drew.cell? ⟨w.heap.size, 0, none⟩ = some .nilFunc := (World.cell?_alloc_past _ _ _ l7).trans c70
    have e2 : (w7.alloc (.cells #[.int .i64 (opn (ld m.mem k 4)), .int .i64 (qRd (ld m.mem k 4)), .int .i64 (qR1 (ld m.mem k 4)), .int .i64 (qR2 (ld m.mem k 4)), .int .i32 (imm (ld m.mem k 4))] 67)).drew.frozen? ⟨w.heap.size, 0, none⟩ = false := (World.frozen?_alloc_past _ _ _ l7).trans f70
    rw [run_store Tryz.prog _ _ _ _ rfl]
    simp only [e1, e2]
    rfl
  have HT7 : Hid (ref.Touch [] w (w7.alloc (.cells #[.int .i64 (opn (ld m.mem k 4)), .int .i64 (qRd (ld m.mem k 4)), .int .i64 (qR1 (ld m.mem k 4)), .int .i64 (qR2 (ld m.mem k 4)), .int .i32 (imm (ld m.mem k 4))] 67))) := ref.Touch.trans ((ref.Touch.refl _ _).alloc _) (t7.alloc _)
  refine wp_region_held_drew (S := (fun w' => w'.cell? ⟨w7.heap.size, 0, none⟩ = some (.int .i64 (opn (ld m.mem k 4))) ∧ w'.cell? ⟨w7.heap.size, 1, none⟩ = some (.int .i64 (qRd (ld m.mem k 4))) ∧ w'.cell? ⟨w7.heap.size, 2, none⟩ = some (.int .i64 (qR1 (ld m.mem k 4))) ∧ w'.cell? ⟨w7.heap.size, 3, none⟩ = some (.int .i64 (qR2 (ld m.mem k 4))) ∧ w'.cell? ⟨w7.heap.size, 4, none⟩ = some (.int .i32 (imm (ld m.mem k 4))))) (by kernel_rfl) (HS5.out _ (ref.Touch.refl _ _).drew) (fun hHeld => ?_)
  refine tk (i := 0) (oi := ⟨some 24, _, _, _, _, _⟩) (v := ?v24x290) rfl (by kernel_rfl) (fun _ _ _ h => h) (by rfl) ?h24x290 (by assumption) ?r24x290
  case h24x290 => intro w' hSw; (try dsimp only [sb] at hSw); go_simp; try with_reducible rfl
  try simp only [Act.put, ly1, ly2, ly3]
  refine tk (i := 1) (oi := ⟨some 25, _, _, _, _, _⟩) (v := ?v25x291) rfl (by kernel_rfl) (fun _ _ _ h => h) (by rfl) ?h25x291 (by assumption) ?r25x291
  case h25x291 => intro w' hSw; (try dsimp only [sb] at hSw); go_simp; try with_reducible rfl
  try simp only [Act.put, ly1, ly2, ly3]
  refine tk (i := 3) (oi := ⟨some 27, _, _, _, _, _⟩) (v := ?v27x292) rfl (by kernel_rfl) (fun _ _ _ h => h) (by rfl) ?h27x292 (by assumption) ?r27x292
  case h27x292 => intro w' hSw; (try dsimp only [sb] at hSw); go_simp; try with_reducible rfl
  try simp only [Act.put, ly1, ly2, ly3]
  refine wpAnyH_ready (rs := [2]) (by kernel_rfl) (by simp) ?_
  refine AllReadyH.cons (o := ⟨some 26, _, _, _, _, _⟩) rfl (fun K hK => ?_) AllReadyH.nil
  rw [if_pos (by rfl)]
  go_simp
  refine (Calls.mono (HAO.out _) ?_)
  rintro e w6 ⟨rfl, hw6⟩
  subst w6
  refine hK.out _ _ (hHeld) (fun hHeld => ?_)
  clear hK K
  try simp only [Act.put, ly1, ly2, ly3]
  refine tk (i := 4) (oi := ⟨some 28, _, _, _, _, _⟩) (v := ?v28x293) rfl (by kernel_rfl) (fun _ _ _ h => h) (by rfl) ?h28x293 (by assumption) ?r28x293
  case h28x293 => intro w' hSw; (try dsimp only [sb] at hSw); go_simp; try with_reducible rfl
  try simp only [Act.put, ly1, ly2, ly3]
  refine wpAnyH_ready (rs := [5]) (by kernel_rfl) (by simp) ?_
  refine AllReadyH.cons (o := ⟨none, _, _, _, _, _⟩) rfl (fun K hK => ?_) AllReadyH.nil
  rw [if_pos (by rfl)]
  go_simp
  have hS9 : (fun w' => w'.cell? ⟨w7.heap.size, 0, none⟩ = some (.int .i64 (opn (ld m.mem k 4))) ∧ w'.cell? ⟨w7.heap.size, 1, none⟩ = some (.int .i64 (qRd (ld m.mem k 4))) ∧ w'.cell? ⟨w7.heap.size, 2, none⟩ = some (.int .i64 (qR1 (ld m.mem k 4))) ∧ w'.cell? ⟨w7.heap.size, 3, none⟩ = some (.int .i64 (qR2 (ld m.mem k 4))) ∧ w'.cell? ⟨w7.heap.size, 4, none⟩ = some (.int .i32 (imm (ld m.mem k 4)))) ((((((((w7.setCell ⟨w.heap.size, 0, none⟩ ((.func (.func KF) #[] #[]))).setCell ⟨w.heap.size, 1, none⟩ (.int .i64 (opn (ld m.mem k 4)))).setCell ⟨w.heap.size, 2, none⟩ (.int .i64 (qRd (ld m.mem k 4)))).setCell ⟨w.heap.size, 3, none⟩ (.int .i64 (qR1 (ld m.mem k 4)))).setCell ⟨w.heap.size, 4, none⟩ (.int .i64 (qR2 (ld m.mem k 4)))).setCell ⟨w.heap.size, 5, none⟩ (.int .i32 (imm (ld m.mem k 4)))).alloc (.cells #[.int .i64 (opn (ld m.mem k 4)), .int .i64 (qRd (ld m.mem k 4)), .int .i64 (qR1 (ld m.mem k 4)), .int .i64 (qR2 (ld m.mem k 4)), .int .i32 (imm (ld m.mem k 4))] 67)).drew) := by refine ⟨?_, ?_, ?_, ?_, ?_⟩ <;> go_simp
  have r90 : ((((((((w7.setCell ⟨w.heap.size, 0, none⟩ ((.func (.func KF) #[] #[]))).setCell ⟨w.heap.size, 1, none⟩ (.int .i64 (opn (ld m.mem k 4)))).setCell ⟨w.heap.size, 2, none⟩ (.int .i64 (qRd (ld m.mem k 4)))).setCell ⟨w.heap.size, 3, none⟩ (.int .i64 (qR1 (ld m.mem k 4)))).setCell ⟨w.heap.size, 4, none⟩ (.int .i64 (qR2 (ld m.mem k 4)))).setCell ⟨w.heap.size, 5, none⟩ (.int .i32 (imm (ld m.mem k 4)))).alloc (.cells #[.int .i64 (opn (ld m.mem k 4)), .int .i64 (qRd (ld m.mem k 4)), .int .i64 (qR1 (ld m.mem k 4)), .int .i64 (qR2 (ld m.mem k 4)), .int .i32 (imm (ld m.mem k 4))] 67)).drew).cell? ⟨w.heap.size, 0, none⟩ = some ((.func (.func KF) #[] #[])) := by go_simp
  have r91 : ((((((((w7.setCell ⟨w.heap.size, 0, none⟩ ((.func (.func KF) #[] #[]))).setCell ⟨w.heap.size, 1, none⟩ (.int .i64 (opn (ld m.mem k 4)))).setCell ⟨w.heap.size, 2, none⟩ (.int .i64 (qRd (ld m.mem k 4)))).setCell ⟨w.heap.size, 3, none⟩ (.int .i64 (qR1 (ld m.mem k 4)))).setCell ⟨w.heap.size, 4, none⟩ (.int .i64 (qR2 (ld m.mem k 4)))).setCell ⟨w.heap.size, 5, none⟩ (.int .i32 (imm (ld m.mem k 4)))).alloc (.cells #[.int .i64 (opn (ld m.mem k 4)), .int .i64 (qRd (ld m.mem k 4)), .int .i64 (qR1 (ld m.mem k 4)), .int .i64 (qR2 (ld m.mem k 4)), .int .i32 (imm (ld m.mem k 4))] 67)).drew).cell? ⟨w.heap.size, 1, none⟩ = some (.int .i64 (opn (ld m.mem k 4))) := by go_simp
  have r92 : ((((((((w7.setCell ⟨w.heap.size, 0, none⟩ ((.func (.func KF) #[] #[]))).setCell ⟨w.heap.size, 1, none⟩ (.int .i64 (opn (ld m.mem k 4)))).setCell ⟨w.heap.size, 2, none⟩ (.int .i64 (qRd (ld m.mem k 4)))).setCell ⟨w.heap.size, 3, none⟩ (.int .i64 (qR1 (ld m.mem k 4)))).setCell ⟨w.heap.size, 4, none⟩ (.int .i64 (qR2 (ld m.mem k 4)))).setCell ⟨w.heap.size, 5, none⟩ (.int .i32 (imm (ld m.mem k 4)))).alloc (.cells #[.int .i64 (opn (ld m.mem k 4)), .int .i64 (qRd (ld m.mem k 4)), .int .i64 (qR1 (ld m.mem k 4)), .int .i64 (qR2 (ld m.mem k 4)), .int .i32 (imm (ld m.mem k 4))] 67)).drew).cell? ⟨w.heap.size, 2, none⟩ = some (.int .i64 (qRd (ld m.mem k 4))) := by go_simp
  have r93 : ((((((((w7.setCell ⟨w.heap.size, 0, none⟩ ((.func (.func KF) #[] #[]))).setCell ⟨w.heap.size, 1, none⟩ (.int .i64 (opn (ld m.mem k 4)))).setCell ⟨w.heap.size, 2, none⟩ (.int .i64 (qRd (ld m.mem k 4)))).setCell ⟨w.heap.size, 3, none⟩ (.int .i64 (qR1 (ld m.mem k 4)))).setCell ⟨w.heap.size, 4, none⟩ (.int .i64 (qR2 (ld m.mem k 4)))).setCell ⟨w.heap.size, 5, none⟩ (.int .i32 (imm (ld m.mem k 4)))).alloc (.cells #[.int .i64 (opn (ld m.mem k 4)), .int .i64 (qRd (ld m.mem k 4)), .int .i64 (qR1 (ld m.mem k 4)), .int .i64 (qR2 (ld m.mem k 4)), .int .i32 (imm (ld m.mem k 4))] 67)).drew).cell? ⟨w.heap.size, 3, none⟩ = some (.int .i64 (qR1 (ld m.mem k 4))) := by go_simp
  have r94 : ((((((((w7.setCell ⟨w.heap.size, 0, none⟩ ((.func (.func KF) #[] #[]))).setCell ⟨w.heap.size, 1, none⟩ (.int .i64 (opn (ld m.mem k 4)))).setCell ⟨w.heap.size, 2, none⟩ (.int .i64 (qRd (ld m.mem k 4)))).setCell ⟨w.heap.size, 3, none⟩ (.int .i64 (qR1 (ld m.mem k 4)))).setCell ⟨w.heap.size, 4, none⟩ (.int .i64 (qR2 (ld m.mem k 4)))).setCell ⟨w.heap.size, 5, none⟩ (.int .i32 (imm (ld m.mem k 4)))).alloc (.cells #[.int .i64 (opn (ld m.mem k 4)), .int .i64 (qRd (ld m.mem k 4)), .int .i64 (qR1 (ld m.mem k 4)), .int .i64 (qR2 (ld m.mem k 4)), .int .i32 (imm (ld m.mem k 4))] 67)).drew).cell? ⟨w.heap.size, 4, none⟩ = some (.int .i64 (qR2 (ld m.mem k 4))) := by go_simp
  have r95 : ((((((((w7.setCell ⟨w.heap.size, 0, none⟩ ((.func (.func KF) #[] #[]))).setCell ⟨w.heap.size, 1, none⟩ (.int .i64 (opn (ld m.mem k 4)))).setCell ⟨w.heap.size, 2, none⟩ (.int .i64 (qRd (ld m.mem k 4)))).setCell ⟨w.heap.size, 3, none⟩ (.int .i64 (qR1 (ld m.mem k 4)))).setCell ⟨w.heap.size, 4, none⟩ (.int .i64 (qR2 (ld m.mem k 4)))).setCell ⟨w.heap.size, 5, none⟩ (.int .i32 (imm (ld m.mem k 4)))).alloc (.cells #[.int .i64 (opn (ld m.mem k 4)), .int .i64 (qRd (ld m.mem k 4)), .int .i64 (qR1 (ld m.mem k 4)), .int .i64 (qR2 (ld m.mem k 4)), .int .i32 (imm (ld m.mem k 4))] 67)).drew).cell? ⟨w.heap.size, 5, none⟩ = some (.int .i32 (imm (ld m.mem k 4))) := by go_simp
  have t9 : ref.Touch [] w ((((((((w7.setCell ⟨w.heap.size, 0, none⟩ ((.func (.func KF) #[] #[]))).setCell ⟨w.heap.size, 1, none⟩ (.int .i64 (opn (ld m.mem k 4)))).setCell ⟨w.heap.size, 2, none⟩ (.int .i64 (qRd (ld m.mem k 4)))).setCell ⟨w.heap.size, 3, none⟩ (.int .i64 (qR1 (ld m.mem k 4)))).setCell ⟨w.heap.size, 4, none⟩ (.int .i64 (qR2 (ld m.mem k 4)))).setCell ⟨w.heap.size, 5, none⟩ (.int .i32 (imm (ld m.mem k 4)))).alloc (.cells #[.int .i64 (opn (ld m.mem k 4)), .int .i64 (qRd (ld m.mem k 4)), .int .i64 (qR1 (ld m.mem k 4)), .int .i64 (qR2 (ld m.mem k 4)), .int .i32 (imm (ld m.mem k 4))] 67)).drew) := by
    have tw : ref.Touch [] w w7 := ref.Touch.trans ((ref.Touch.refl _ _).alloc _) t7
    refine ref.Touch.drew (ref.Touch.alloc ?_ _)
    exact touch_cell (touch_cell (touch_cell (touch_cell (touch_cell (touch_cell tw (Nat.le_refl _) _) (Nat.le_refl _) _) (Nat.le_refl _) _) (Nat.le_refl _) _) (Nat.le_refl _) _) (Nat.le_refl _) _
  generalize (((((((w7.setCell ⟨w.heap.size, 0, none⟩ ((.func (.func KF) #[] #[]))).setCell ⟨w.heap.size, 1, none⟩ (.int .i64 (opn (ld m.mem k 4)))).setCell ⟨w.heap.size, 2, none⟩ (.int .i64 (qRd (ld m.mem k 4)))).setCell ⟨w.heap.size, 3, none⟩ (.int .i64 (qR1 (ld m.mem k 4)))).setCell ⟨w.heap.size, 4, none⟩ (.int .i64 (qR2 (ld m.mem k 4)))).setCell ⟨w.heap.size, 5, none⟩ (.int .i32 (imm (ld m.mem k 4)))).alloc (.cells #[.int .i64 (opn (ld m.mem k 4)), .int .i64 (qRd (ld m.mem k 4)), .int .i64 (qR1 (ld m.mem k 4)), .int .i64 (qR2 (ld m.mem k 4)), .int .i32 (imm (ld m.mem k 4))] 67)).drew = w9 at hS9 r90 r91 r92 r93 r94 r95 t9 ⊢
  have T9 : Hid (ref.Touch [] w w9) := t9
  clear t9
  refine hK.out _ _ (hS9) (fun hHeld => ?_)
  clear hK K
  try simp only [Act.put, ly1, ly2, ly3]
  refine wpAnyH_done (by kernel_rfl) ?_ _
  go_wp2_with fail
  refine bodyPost_ret (v := .agg #[(.func (.func KF) #[] #[]), .int .i64 (opn (ld m.mem k 4)), .int .i64 (qRd (ld m.mem k 4)), .int .i64 (qR1 (ld m.mem k 4)), .int .i64 (qR2 (ld m.mem k 4)), .int .i32 (imm (ld m.mem k 4))]) ?_ rfl ⟨rfl, ?_⟩
  · simp [results, Tryz.results21, go_sem, r90, r91, r92, r93, r94, r95]
  · exact T9.out
end Go.Proofs.YtakcncahkdfknaaGreatDoor.prog

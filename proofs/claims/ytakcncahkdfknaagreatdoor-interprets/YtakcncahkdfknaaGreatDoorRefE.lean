import Derived.Test.YtakcncahkdfknaaGreatDoorRefD
namespace Go.Proofs.YtakcncahkdfknaaGreatDoor.ref
open Go.ChangeShapes Go.WideShapes Go.ChangeAt Go.RowKit Go.Proofs.YtakcncahkdfknaaGreatDoor.nums Go.Proofs.YtakcncahkdfknaaGreatDoor.dnums Go.Proofs.YtakcncahkdfknaaGreatDoor.mach
set_option linter.unusedVariables false
set_option linter.unusedSimpArgs false
theorem goes_any (B b mb : Nat) (m : M) (vE vA vS vB : Value) (w : World) (h : RefAt B b mb m vE vA vS vB w) (to : Int) (t0 : 0 ≤ to) (t1 : to ≤ 4294967295) (s0 : 0 ≤ m.steps) (s1 : m.steps ≤ 2000) :
    Calls Tryz.prog 39 #[.pointer (some ⟨b, 0, none⟩), .int .u32 to] w fun e w' => e = .returned (.bool (to % 4 == 0)) ∧ RefAt B b mb (goes m to) vE vA vS vB w' ∧ Touch [b] w w' := by
  by_cases e : to % 4 = 0
  · rw [show (to % 4 == 0) = true from by simpa using e]; exact goes_y B b mb m vE vA vS vB w h to t0 t1 e s0 s1
  · rw [show (to % 4 == 0) = false from by simpa using e]; exact goes_n B b mb m vE vA vS vB w h to t0 t1 e
theorem goes_ns (m : M) (to : Int) : (goes m to).nslots = m.nslots := by unfold goes; by_cases e : to % 4 = 0 <;> simp [e, stop]
theorem goes_sl (m : M) (to : Int) : (goes m to).slots = m.slots := by unfold goes; by_cases e : to % 4 = 0 <;> simp [e, stop]
set_option maxRecDepth 10000 in
set_option maxHeartbeats 2000000 in
theorem br4_y (B b mb : Nat) (m : M) (vE vA vS vB : Value) (w : World) (h : RefAt B b mb m vE vA vS vB w) (hs : SlotsAt b mb m vS w) (hz : 0 < m.size) (hf : Fine m) (hlt : m.steps < m.fuel) (op rd q1 q2 im : Int) (rd0 : 0 ≤ rd) (rd1 : rd ≤ 31) (q10 : 0 ≤ q1) (q11 : q1 ≤ 31) (q20 : 0 ≤ q2) (q21 : q2 ≤ 31) (i0 : -2147483648 ≤ im) (i1 : im ≤ 2147483647) (ho : op = 4) (hc : (m.regs q1.toNat == m.regs q2.toNat) = true) :
    Calls Tryz.prog 27 #[.pointer (some ⟨b, 0, none⟩), .agg #[.int .i64 op, .int .i64 rd, .int .i64 q1, .int .i64 q2, .int .i32 im]] w fun e w' => e = .returned (.tuple #[]) ∧ RefAt B b mb (goes m ((m.pc + im) % 4294967296)) vE vA vS vB w' ∧ SlotsAt b mb (goes m ((m.pc + im) % 4294967296)) vS w' ∧ Touch (b :: mb :: sblk vS) w w' := by
  subst ho
  have HT : Hid (∀ n, Touch [] w ((w.alloc (.cells #[.int .i64 4, .int .i64 rd, .int .i64 q1, .int .i64 q2, .int .i32 im] 67)).drewN n)) := fun n => ((Touch.refl _ _).alloc _).drewN n
  have HW : Hid (∀ n, RefAt B b mb m vE vA vS vB ((w.alloc (.cells #[.int .i64 4, .int .i64 rd, .int .i64 q1, .int .i64 q2, .int .i32 im] 67)).drewN n)) := fun n => (h.other ((Touch.refl [] _).alloc _) (by simp) (by simp) hz).draws n
  have HS : Hid (SlotsAt b mb m vS w) := hs
  have hbs : b < w.heap.size := World.block_lt_of_cell? _ _ h.data
  have hbs2 : b < w.heap.size + 1 := by omega
  have HTa : Hid (∀ n o, Touch [] w (((w.alloc (.cells #[.int .i64 4, .int .i64 rd, .int .i64 q1, .int .i64 q2, .int .i32 im] 67)).drewN n).alloc o)) := fun n o => (HT.out n).alloc o
  have HWa : Hid (∀ n o, RefAt B b mb m vE vA vS vB (((w.alloc (.cells #[.int .i64 4, .int .i64 rd, .int .i64 q1, .int .i64 q2, .int .i32 im] 67)).drewN n).alloc o)) := fun n o => (HW.out n).other ((Touch.refl [] _).alloc _) (by simp) (by simp) hz
  have HF : Hid (Fine m) := hf
  have hh := HW.out 0
  have cpc : (w.alloc (.cells #[.int .i64 4, .int .i64 rd, .int .i64 q1, .int .i64 q2, .int .i32 im] 67)).cell? ⟨b, 1, none⟩ = some (.int .u32 m.pc) := hh.cells 1 (by decide) (by decide)
  have ca : (w.alloc (.cells #[.int .i64 4, .int .i64 rd, .int .i64 q1, .int .i64 q2, .int .i32 im] 67)).cell? ⟨b, 2 + q1.toNat, none⟩ = some (.int .u32 (m.regs q1.toNat)) := hh.reg q1.toNat (by omega)
  have cb : (w.alloc (.cells #[.int .i64 4, .int .i64 rd, .int .i64 q1, .int .i64 q2, .int .i32 im] 67)).cell? ⟨b, 2 + q2.toNat, none⟩ = some (.int .u32 (m.regs q2.toNat)) := hh.reg q2.toNat (by omega)
  have pc0 := hf.pc.1
  have pc1 := hf.pc.2
  have q12 : q1 < 32 := by omega
  have q22 : q2 < 32 := by omega
  have ra0 := (hf.regs q1.toNat).1
  have ra1 := (hf.regs q1.toNat).2
  have rb0 := (hf.regs q2.toNat).1
  have rb1 := (hf.regs q2.toNat).2
  have st0 := hf.steps
  have st1 : m.steps < 2000 := by have := hf.fuel.2; omega
  clear hh h hs hf
  go_enter Tryz.func27, Tryz.ntmps27
  go_wp2_with fail
  go_quiet (fail)
  go_wp2_with fail
  go_quiet (fail)
  go_wp2_with (first | (go_at_call 39; refine (goes_any B b mb m vE vA vS vB _ (HWa.out _ _) ((m.pc + im) % 4294967296) (by omega) (by omega) st0 (by omega)).mono ?_; rintro e w1 ⟨rfl, hat, hto⟩; have HA : Hid (RefAt B b mb (goes m ((m.pc + im) % 4294967296)) vE vA vS vB w1) := hat; have HB : Hid (Touch [b] w w1) := ((HTa.out _ _).mono (by simp)).trans hto; clear hat hto))
  refine bodyPost_ret (results_none rfl _ _ _) rfl ?_
  exact ⟨rfl, HA.out, HS.out.other (HB.out.mono (by simp)) (goes_ns _ _) (goes_sl _ _), HB.out.mono (by simp)⟩
set_option maxRecDepth 10000 in
set_option maxHeartbeats 2000000 in
theorem br4_n (B b mb : Nat) (m : M) (vE vA vS vB : Value) (w : World) (h : RefAt B b mb m vE vA vS vB w) (hs : SlotsAt b mb m vS w) (hz : 0 < m.size) (hf : Fine m) (hlt : m.steps < m.fuel) (op rd q1 q2 im : Int) (rd0 : 0 ≤ rd) (rd1 : rd ≤ 31) (q10 : 0 ≤ q1) (q11 : q1 ≤ 31) (q20 : 0 ≤ q2) (q21 : q2 ≤ 31) (i0 : -2147483648 ≤ im) (i1 : im ≤ 2147483647) (ho : op = 4) (hc : (m.regs q1.toNat == m.regs q2.toNat) = false) :
    Calls Tryz.prog 27 #[.pointer (some ⟨b, 0, none⟩), .agg #[.int .i64 op, .int .i64 rd, .int .i64 q1, .int .i64 q2, .int .i32 im]] w fun e w' => e = .returned (.tuple #[]) ∧ RefAt B b mb (next m) vE vA vS vB w' ∧ SlotsAt b mb (next m) vS w' ∧ Touch (b :: mb :: sblk vS) w w' := by
  subst ho
  have HT : Hid (∀ n, Touch [] w ((w.alloc (.cells #[.int .i64 4, .int .i64 rd, .int .i64 q1, .int .i64 q2, .int .i32 im] 67)).drewN n)) := fun n => ((Touch.refl _ _).alloc _).drewN n
  have HW : Hid (∀ n, RefAt B b mb m vE vA vS vB ((w.alloc (.cells #[.int .i64 4, .int .i64 rd, .int .i64 q1, .int .i64 q2, .int .i32 im] 67)).drewN n)) := fun n => (h.other ((Touch.refl [] _).alloc _) (by simp) (by simp) hz).draws n
  have HS : Hid (SlotsAt b mb m vS w) := hs
  have hbs : b < w.heap.size := World.block_lt_of_cell? _ _ h.data
  have hbs2 : b < w.heap.size + 1 := by omega
  have HTa : Hid (∀ n o, Touch [] w (((w.alloc (.cells #[.int .i64 4, .int .i64 rd, .int .i64 q1, .int .i64 q2, .int .i32 im] 67)).drewN n).alloc o)) := fun n o => (HT.out n).alloc o
  have HWa : Hid (∀ n o, RefAt B b mb m vE vA vS vB (((w.alloc (.cells #[.int .i64 4, .int .i64 rd, .int .i64 q1, .int .i64 q2, .int .i32 im] 67)).drewN n).alloc o)) := fun n o => (HW.out n).other ((Touch.refl [] _).alloc _) (by simp) (by simp) hz
  have HF : Hid (Fine m) := hf
  have hh := HW.out 0
  have cpc : (w.alloc (.cells #[.int .i64 4, .int .i64 rd, .int .i64 q1, .int .i64 q2, .int .i32 im] 67)).cell? ⟨b, 1, none⟩ = some (.int .u32 m.pc) := hh.cells 1 (by decide) (by decide)
  have ca : (w.alloc (.cells #[.int .i64 4, .int .i64 rd, .int .i64 q1, .int .i64 q2, .int .i32 im] 67)).cell? ⟨b, 2 + q1.toNat, none⟩ = some (.int .u32 (m.regs q1.toNat)) := hh.reg q1.toNat (by omega)
  have cb : (w.alloc (.cells #[.int .i64 4, .int .i64 rd, .int .i64 q1, .int .i64 q2, .int .i32 im] 67)).cell? ⟨b, 2 + q2.toNat, none⟩ = some (.int .u32 (m.regs q2.toNat)) := hh.reg q2.toNat (by omega)
  have pc0 := hf.pc.1
  have pc1 := hf.pc.2
  have q12 : q1 < 32 := by omega
  have q22 : q2 < 32 := by omega
  have ra0 := (hf.regs q1.toNat).1
  have ra1 := (hf.regs q1.toNat).2
  have rb0 := (hf.regs q2.toNat).1
  have rb1 := (hf.regs q2.toNat).2
  have st0 := hf.steps
  have st1 : m.steps < 2000 := by have := hf.fuel.2; omega
  clear hh h hs hf
  have c37 : (w.alloc (.cells #[.int .i64 4, .int .i64 rd, .int .i64 q1, .int .i64 q2, .int .i32 im] 67)).cell? ⟨b, 37, none⟩ = some (.int .i64 m.steps) := (HW.out 0).cells 37 (by decide) (by decide)
  have f1 : (w.alloc (.cells #[.int .i64 4, .int .i64 rd, .int .i64 q1, .int .i64 q2, .int .i32 im] 67)).frozen? ⟨b, 1, none⟩ = false := (HW.out 0).free 1
  have f37 : (w.alloc (.cells #[.int .i64 4, .int .i64 rd, .int .i64 q1, .int .i64 q2, .int .i32 im] 67)).frozen? ⟨b, 37, none⟩ = false := (HW.out 0).free 37
  go_enter Tryz.func27, Tryz.ntmps27
  go_wp2_with fail
  go_quiet (fail)
  go_wp2_with fail
  go_quiet (fail)
  go_wp2_with fail
  go_end0
  obtain ⟨g1, g2, g3⟩ := next_end B b mb m vE vA vS vB w _ HS.out m (HW.out _) ((HT.out _).mono (by simp)) rfl rfl ((m.pc + 4) % 4294967296) (m.steps + 1) rfl rfl
  exact ⟨rfl, g1.other ((Touch.refl [] _).alloc _) (by simp) (by simp) hz, g2.other ((Touch.refl _ _).alloc _) rfl rfl, g3.alloc _⟩
set_option maxRecDepth 10000 in
set_option maxHeartbeats 2000000 in
theorem br5_y (B b mb : Nat) (m : M) (vE vA vS vB : Value) (w : World) (h : RefAt B b mb m vE vA vS vB w) (hs : SlotsAt b mb m vS w) (hz : 0 < m.size) (hf : Fine m) (hlt : m.steps < m.fuel) (op rd q1 q2 im : Int) (rd0 : 0 ≤ rd) (rd1 : rd ≤ 31) (q10 : 0 ≤ q1) (q11 : q1 ≤ 31) (q20 : 0 ≤ q2) (q21 : q2 ≤ 31) (i0 : -2147483648 ≤ im) (i1 : im ≤ 2147483647) (ho : op = 5) (hc : (m.regs q1.toNat != m.regs q2.toNat) = true) :
    Calls Tryz.prog 27 #[.pointer (some ⟨b, 0, none⟩), .agg #[.int .i64 op, .int .i64 rd, .int .i64 q1, .int .i64 q2, .int .i32 im]] w fun e w' => e = .returned (.tuple #[]) ∧ RefAt B b mb (goes m ((m.pc + im) % 4294967296)) vE vA vS vB w' ∧ SlotsAt b mb (goes m ((m.pc + im) % 4294967296)) vS w' ∧ Touch (b :: mb :: sblk vS) w w' := by
  subst ho
  have HT : Hid (∀ n, Touch [] w ((w.alloc (.cells #[.int .i64 5, .int .i64 rd, .int .i64 q1, .int .i64 q2, .int .i32 im] 67)).drewN n)) := fun n => ((Touch.refl _ _).alloc _).drewN n
  have HW : Hid (∀ n, RefAt B b mb m vE vA vS vB ((w.alloc (.cells #[.int .i64 5, .int .i64 rd, .int .i64 q1, .int .i64 q2, .int .i32 im] 67)).drewN n)) := fun n => (h.other ((Touch.refl [] _).alloc _) (by simp) (by simp) hz).draws n
  have HS : Hid (SlotsAt b mb m vS w) := hs
  have hbs : b < w.heap.size := World.block_lt_of_cell? _ _ h.data
  have hbs2 : b < w.heap.size + 1 := by omega
  have HTa : Hid (∀ n o, Touch [] w (((w.alloc (.cells #[.int .i64 5, .int .i64 rd, .int .i64 q1, .int .i64 q2, .int .i32 im] 67)).drewN n).alloc o)) := fun n o => (HT.out n).alloc o
  have HWa : Hid (∀ n o, RefAt B b mb m vE vA vS vB (((w.alloc (.cells #[.int .i64 5, .int .i64 rd, .int .i64 q1, .int .i64 q2, .int .i32 im] 67)).drewN n).alloc o)) := fun n o => (HW.out n).other ((Touch.refl [] _).alloc _) (by simp) (by simp) hz
  have HF : Hid (Fine m) := hf
  have hh := HW.out 0
  have cpc : (w.alloc (.cells #[.int .i64 5, .int .i64 rd, .int .i64 q1, .int .i64 q2, .int .i32 im] 67)).cell? ⟨b, 1, none⟩ = some (.int .u32 m.pc) := hh.cells 1 (by decide) (by decide)
  have ca : (w.alloc (.cells #[.int .i64 5, .int .i64 rd, .int .i64 q1, .int .i64 q2, .int .i32 im] 67)).cell? ⟨b, 2 + q1.toNat, none⟩ = some (.int .u32 (m.regs q1.toNat)) := hh.reg q1.toNat (by omega)
  have cb : (w.alloc (.cells #[.int .i64 5, .int .i64 rd, .int .i64 q1, .int .i64 q2, .int .i32 im] 67)).cell? ⟨b, 2 + q2.toNat, none⟩ = some (.int .u32 (m.regs q2.toNat)) := hh.reg q2.toNat (by omega)
  have pc0 := hf.pc.1
  have pc1 := hf.pc.2
  have q12 : q1 < 32 := by omega
  have q22 : q2 < 32 := by omega
  have ra0 := (hf.regs q1.toNat).1
  have ra1 := (hf.regs q1.toNat).2
  have rb0 := (hf.regs q2.toNat).1
  have rb1 := (hf.regs q2.toNat).2
  have st0 := hf.steps
  have st1 : m.steps < 2000 := by have := hf.fuel.2; omega
  clear hh h hs hf
  go_enter Tryz.func27, Tryz.ntmps27
  go_wp2_with fail
  go_quiet (fail)
  go_wp2_with fail
  go_quiet (fail)
  go_wp2_with (first | (go_at_call 39; refine (goes_any B b mb m vE vA vS vB _ (HWa.out _ _) ((m.pc + im) % 4294967296) (by omega) (by omega) st0 (by omega)).mono ?_; rintro e w1 ⟨rfl, hat, hto⟩; have HA : Hid (RefAt B b mb (goes m ((m.pc + im) % 4294967296)) vE vA vS vB w1) := hat; have HB : Hid (Touch [b] w w1) := ((HTa.out _ _).mono (by simp)).trans hto; clear hat hto))
  refine bodyPost_ret (results_none rfl _ _ _) rfl ?_
  exact ⟨rfl, HA.out, HS.out.other (HB.out.mono (by simp)) (goes_ns _ _) (goes_sl _ _), HB.out.mono (by simp)⟩
set_option maxRecDepth 10000 in
set_option maxHeartbeats 2000000 in
theorem br5_n (B b mb : Nat) (m : M) (vE vA vS vB : Value) (w : World) (h : RefAt B b mb m vE vA vS vB w) (hs : SlotsAt b mb m vS w) (hz : 0 < m.size) (hf : Fine m) (hlt : m.steps < m.fuel) (op rd q1 q2 im : Int) (rd0 : 0 ≤ rd) (rd1 : rd ≤ 31) (q10 : 0 ≤ q1) (q11 : q1 ≤ 31) (q20 : 0 ≤ q2) (q21 : q2 ≤ 31) (i0 : -2147483648 ≤ im) (i1 : im ≤ 2147483647) (ho : op = 5) (hc : (m.regs q1.toNat != m.regs q2.toNat) = false) :
    Calls Tryz.prog 27 #[.pointer (some ⟨b, 0, none⟩), .agg #[.int .i64 op, .int .i64 rd, .int .i64 q1, .int .i64 q2, .int .i32 im]] w fun e w' => e = .returned (.tuple #[]) ∧ RefAt B b mb (next m) vE vA vS vB w' ∧ SlotsAt b mb (next m) vS w' ∧ Touch (b :: mb :: sblk vS) w w' := by
  subst ho
  have HT : Hid (∀ n, Touch [] w ((w.alloc (.cells #[.int .i64 5, .int .i64 rd, .int .i64 q1, .int .i64 q2, .int .i32 im] 67)).drewN n)) := fun n => ((Touch.refl _ _).alloc _).drewN n
  have HW : Hid (∀ n, RefAt B b mb m vE vA vS vB ((w.alloc (.cells #[.int .i64 5, .int .i64 rd, .int .i64 q1, .int .i64 q2, .int .i32 im] 67)).drewN n)) := fun n => (h.other ((Touch.refl [] _).alloc _) (by simp) (by simp) hz).draws n
  have HS : Hid (SlotsAt b mb m vS w) := hs
  have hbs : b < w.heap.size := World.block_lt_of_cell? _ _ h.data
  have hbs2 : b < w.heap.size + 1 := by omega
  have HTa : Hid (∀ n o, Touch [] w (((w.alloc (.cells #[.int .i64 5, .int .i64 rd, .int .i64 q1, .int .i64 q2, .int .i32 im] 67)).drewN n).alloc o)) := fun n o => (HT.out n).alloc o
  have HWa : Hid (∀ n o, RefAt B b mb m vE vA vS vB (((w.alloc (.cells #[.int .i64 5, .int .i64 rd, .int .i64 q1, .int .i64 q2, .int .i32 im] 67)).drewN n).alloc o)) := fun n o => (HW.out n).other ((Touch.refl [] _).alloc _) (by simp) (by simp) hz
  have HF : Hid (Fine m) := hf
  have hh := HW.out 0
  have cpc : (w.alloc (.cells #[.int .i64 5, .int .i64 rd, .int .i64 q1, .int .i64 q2, .int .i32 im] 67)).cell? ⟨b, 1, none⟩ = some (.int .u32 m.pc) := hh.cells 1 (by decide) (by decide)
  have ca : (w.alloc (.cells #[.int .i64 5, .int .i64 rd, .int .i64 q1, .int .i64 q2, .int .i32 im] 67)).cell? ⟨b, 2 + q1.toNat, none⟩ = some (.int .u32 (m.regs q1.toNat)) := hh.reg q1.toNat (by omega)
  have cb : (w.alloc (.cells #[.int .i64 5, .int .i64 rd, .int .i64 q1, .int .i64 q2, .int .i32 im] 67)).cell? ⟨b, 2 + q2.toNat, none⟩ = some (.int .u32 (m.regs q2.toNat)) := hh.reg q2.toNat (by omega)
  have pc0 := hf.pc.1
  have pc1 := hf.pc.2
  have q12 : q1 < 32 := by omega
  have q22 : q2 < 32 := by omega
  have ra0 := (hf.regs q1.toNat).1
  have ra1 := (hf.regs q1.toNat).2
  have rb0 := (hf.regs q2.toNat).1
  have rb1 := (hf.regs q2.toNat).2
  have st0 := hf.steps
  have st1 : m.steps < 2000 := by have := hf.fuel.2; omega
  clear hh h hs hf
  have c37 : (w.alloc (.cells #[.int .i64 5, .int .i64 rd, .int .i64 q1, .int .i64 q2, .int .i32 im] 67)).cell? ⟨b, 37, none⟩ = some (.int .i64 m.steps) := (HW.out 0).cells 37 (by decide) (by decide)
  have f1 : (w.alloc (.cells #[.int .i64 5, .int .i64 rd, .int .i64 q1, .int .i64 q2, .int .i32 im] 67)).frozen? ⟨b, 1, none⟩ = false := (HW.out 0).free 1
  have f37 : (w.alloc (.cells #[.int .i64 5, .int .i64 rd, .int .i64 q1, .int .i64 q2, .int .i32 im] 67)).frozen? ⟨b, 37, none⟩ = false := (HW.out 0).free 37
  go_enter Tryz.func27, Tryz.ntmps27
  go_wp2_with fail
  go_quiet (fail)
  go_wp2_with fail
  go_quiet (fail)
  go_wp2_with fail
  go_end0
  obtain ⟨g1, g2, g3⟩ := next_end B b mb m vE vA vS vB w _ HS.out m (HW.out _) ((HT.out _).mono (by simp)) rfl rfl ((m.pc + 4) % 4294967296) (m.steps + 1) rfl rfl
  exact ⟨rfl, g1.other ((Touch.refl [] _).alloc _) (by simp) (by simp) hz, g2.other ((Touch.refl _ _).alloc _) rfl rfl, g3.alloc _⟩
set_option maxRecDepth 10000 in
set_option maxHeartbeats 2000000 in
theorem br6_y (B b mb : Nat) (m : M) (vE vA vS vB : Value) (w : World) (h : RefAt B b mb m vE vA vS vB w) (hs : SlotsAt b mb m vS w) (hz : 0 < m.size) (hf : Fine m) (hlt : m.steps < m.fuel) (op rd q1 q2 im : Int) (rd0 : 0 ≤ rd) (rd1 : rd ≤ 31) (q10 : 0 ≤ q1) (q11 : q1 ≤ 31) (q20 : 0 ≤ q2) (q21 : q2 ≤ 31) (i0 : -2147483648 ≤ im) (i1 : im ≤ 2147483647) (ho : op = 6) (hc : decide (wrap32 (m.regs q1.toNat) < wrap32 (m.regs q2.toNat)) = true) :
    Calls Tryz.prog 27 #[.pointer (some ⟨b, 0, none⟩), .agg #[.int .i64 op, .int .i64 rd, .int .i64 q1, .int .i64 q2, .int .i32 im]] w fun e w' => e = .returned (.tuple #[]) ∧ RefAt B b mb (goes m ((m.pc + im) % 4294967296)) vE vA vS vB w' ∧ SlotsAt b mb (goes m ((m.pc + im) % 4294967296)) vS w' ∧ Touch (b :: mb :: sblk vS) w w' := by
  subst ho
  have HT : Hid (∀ n, Touch [] w ((w.alloc (.cells #[.int .i64 6, .int .i64 rd, .int .i64 q1, .int .i64 q2, .int .i32 im] 67)).drewN n)) := fun n => ((Touch.refl _ _).alloc _).drewN n
  have HW : Hid (∀ n, RefAt B b mb m vE vA vS vB ((w.alloc (.cells #[.int .i64 6, .int .i64 rd, .int .i64 q1, .int .i64 q2, .int .i32 im] 67)).drewN n)) := fun n => (h.other ((Touch.refl [] _).alloc _) (by simp) (by simp) hz).draws n
  have HS : Hid (SlotsAt b mb m vS w) := hs
  have hbs : b < w.heap.size := World.block_lt_of_cell? _ _ h.data
  have hbs2 : b < w.heap.size + 1 := by omega
  have HTa : Hid (∀ n o, Touch [] w (((w.alloc (.cells #[.int .i64 6, .int .i64 rd, .int .i64 q1, .int .i64 q2, .int .i32 im] 67)).drewN n).alloc o)) := fun n o => (HT.out n).alloc o
  have HWa : Hid (∀ n o, RefAt B b mb m vE vA vS vB (((w.alloc (.cells #[.int .i64 6, .int .i64 rd, .int .i64 q1, .int .i64 q2, .int .i32 im] 67)).drewN n).alloc o)) := fun n o => (HW.out n).other ((Touch.refl [] _).alloc _) (by simp) (by simp) hz
  have HF : Hid (Fine m) := hf
  have hh := HW.out 0
  have cpc : (w.alloc (.cells #[.int .i64 6, .int .i64 rd, .int .i64 q1, .int .i64 q2, .int .i32 im] 67)).cell? ⟨b, 1, none⟩ = some (.int .u32 m.pc) := hh.cells 1 (by decide) (by decide)
  have ca : (w.alloc (.cells #[.int .i64 6, .int .i64 rd, .int .i64 q1, .int .i64 q2, .int .i32 im] 67)).cell? ⟨b, 2 + q1.toNat, none⟩ = some (.int .u32 (m.regs q1.toNat)) := hh.reg q1.toNat (by omega)
  have cb : (w.alloc (.cells #[.int .i64 6, .int .i64 rd, .int .i64 q1, .int .i64 q2, .int .i32 im] 67)).cell? ⟨b, 2 + q2.toNat, none⟩ = some (.int .u32 (m.regs q2.toNat)) := hh.reg q2.toNat (by omega)
  have pc0 := hf.pc.1
  have pc1 := hf.pc.2
  have q12 : q1 < 32 := by omega
  have q22 : q2 < 32 := by omega
  have ra0 := (hf.regs q1.toNat).1
  have ra1 := (hf.regs q1.toNat).2
  have rb0 := (hf.regs q2.toNat).1
  have rb1 := (hf.regs q2.toNat).2
  have st0 := hf.steps
  have st1 : m.steps < 2000 := by have := hf.fuel.2; omega
  clear hh h hs hf
  go_enter Tryz.func27, Tryz.ntmps27
  go_wp2_with fail
  go_quiet (fail)
  go_wp2_with fail
  go_quiet (fail)
  go_wp2_with (first | (go_at_call 39; refine (goes_any B b mb m vE vA vS vB _ (HWa.out _ _) ((m.pc + im) % 4294967296) (by omega) (by omega) st0 (by omega)).mono ?_; rintro e w1 ⟨rfl, hat, hto⟩; have HA : Hid (RefAt B b mb (goes m ((m.pc + im) % 4294967296)) vE vA vS vB w1) := hat; have HB : Hid (Touch [b] w w1) := ((HTa.out _ _).mono (by simp)).trans hto; clear hat hto))
  refine bodyPost_ret (results_none rfl _ _ _) rfl ?_
  exact ⟨rfl, HA.out, HS.out.other (HB.out.mono (by simp)) (goes_ns _ _) (goes_sl _ _), HB.out.mono (by simp)⟩
set_option maxRecDepth 10000 in
set_option maxHeartbeats 2000000 in
theorem br6_n (B b mb : Nat) (m : M) (vE vA vS vB : Value) (w : World) (h : RefAt B b mb m vE vA vS vB w) (hs : SlotsAt b mb m vS w) (hz : 0 < m.size) (hf : Fine m) (hlt : m.steps < m.fuel) (op rd q1 q2 im : Int) (rd0 : 0 ≤ rd) (rd1 : rd ≤ 31) (q10 : 0 ≤ q1) (q11 : q1 ≤ 31) (q20 : 0 ≤ q2) (q21 : q2 ≤ 31) (i0 : -2147483648 ≤ im) (i1 : im ≤ 2147483647) (ho : op = 6) (hc : decide (wrap32 (m.regs q1.toNat) < wrap32 (m.regs q2.toNat)) = false) :
    Calls Tryz.prog 27 #[.pointer (some ⟨b, 0, none⟩), .agg #[.int .i64 op, .int .i64 rd, .int .i64 q1, .int .i64 q2, .int .i32 im]] w fun e w' => e = .returned (.tuple #[]) ∧ RefAt B b mb (next m) vE vA vS vB w' ∧ SlotsAt b mb (next m) vS w' ∧ Touch (b :: mb :: sblk vS) w w' := by
  subst ho
  have HT : Hid (∀ n, Touch [] w ((w.alloc (.cells #[.int .i64 6, .int .i64 rd, .int .i64 q1, .int .i64 q2, .int .i32 im] 67)).drewN n)) := fun n => ((Touch.refl _ _).alloc _).drewN n
  have HW : Hid (∀ n, RefAt B b mb m vE vA vS vB ((w.alloc (.cells #[.int .i64 6, .int .i64 rd, .int .i64 q1, .int .i64 q2, .int .i32 im] 67)).drewN n)) := fun n => (h.other ((Touch.refl [] _).alloc _) (by simp) (by simp) hz).draws n
  have HS : Hid (SlotsAt b mb m vS w) := hs
  have hbs : b < w.heap.size := World.block_lt_of_cell? _ _ h.data
  have hbs2 : b < w.heap.size + 1 := by omega
  have HTa : Hid (∀ n o, Touch [] w (((w.alloc (.cells #[.int .i64 6, .int .i64 rd, .int .i64 q1, .int .i64 q2, .int .i32 im] 67)).drewN n).alloc o)) := fun n o => (HT.out n).alloc o
  have HWa : Hid (∀ n o, RefAt B b mb m vE vA vS vB (((w.alloc (.cells #[.int .i64 6, .int .i64 rd, .int .i64 q1, .int .i64 q2, .int .i32 im] 67)).drewN n).alloc o)) := fun n o => (HW.out n).other ((Touch.refl [] _).alloc _) (by simp) (by simp) hz
  have HF : Hid (Fine m) := hf
  have hh := HW.out 0
  have cpc : (w.alloc (.cells #[.int .i64 6, .int .i64 rd, .int .i64 q1, .int .i64 q2, .int .i32 im] 67)).cell? ⟨b, 1, none⟩ = some (.int .u32 m.pc) := hh.cells 1 (by decide) (by decide)
  have ca : (w.alloc (.cells #[.int .i64 6, .int .i64 rd, .int .i64 q1, .int .i64 q2, .int .i32 im] 67)).cell? ⟨b, 2 + q1.toNat, none⟩ = some (.int .u32 (m.regs q1.toNat)) := hh.reg q1.toNat (by omega)
  have cb : (w.alloc (.cells #[.int .i64 6, .int .i64 rd, .int .i64 q1, .int .i64 q2, .int .i32 im] 67)).cell? ⟨b, 2 + q2.toNat, none⟩ = some (.int .u32 (m.regs q2.toNat)) := hh.reg q2.toNat (by omega)
  have pc0 := hf.pc.1
  have pc1 := hf.pc.2
  have q12 : q1 < 32 := by omega
  have q22 : q2 < 32 := by omega
  have ra0 := (hf.regs q1.toNat).1
  have ra1 := (hf.regs q1.toNat).2
  have rb0 := (hf.regs q2.toNat).1
  have rb1 := (hf.regs q2.toNat).2
  have st0 := hf.steps
  have st1 : m.steps < 2000 := by have := hf.fuel.2; omega
  clear hh h hs hf
  have c37 : (w.alloc (.cells #[.int .i64 6, .int .i64 rd, .int .i64 q1, .int .i64 q2, .int .i32 im] 67)).cell? ⟨b, 37, none⟩ = some (.int .i64 m.steps) := (HW.out 0).cells 37 (by decide) (by decide)
  have f1 : (w.alloc (.cells #[.int .i64 6, .int .i64 rd, .int .i64 q1, .int .i64 q2, .int .i32 im] 67)).frozen? ⟨b, 1, none⟩ = false := (HW.out 0).free 1
  have f37 : (w.alloc (.cells #[.int .i64 6, .int .i64 rd, .int .i64 q1, .int .i64 q2, .int .i32 im] 67)).frozen? ⟨b, 37, none⟩ = false := (HW.out 0).free 37
  go_enter Tryz.func27, Tryz.ntmps27
  go_wp2_with fail
  go_quiet (fail)
  go_wp2_with fail
  go_quiet (fail)
  go_wp2_with fail
  go_end0
  obtain ⟨g1, g2, g3⟩ := next_end B b mb m vE vA vS vB w _ HS.out m (HW.out _) ((HT.out _).mono (by simp)) rfl rfl ((m.pc + 4) % 4294967296) (m.steps + 1) rfl rfl
  exact ⟨rfl, g1.other ((Touch.refl [] _).alloc _) (by simp) (by simp) hz, g2.other ((Touch.refl _ _).alloc _) rfl rfl, g3.alloc _⟩
set_option maxRecDepth 10000 in
set_option maxHeartbeats 2000000 in
theorem do_break (B b mb : Nat) (m : M) (vE vA vS vB : Value) (w : World) (h : RefAt B b mb m vE vA vS vB w) (hs : SlotsAt b mb m vS w) (hz : 0 < m.size) (hf : Fine m) (hlt : m.steps < m.fuel) (op rd q1 q2 im : Int) (rd0 : 0 ≤ rd) (rd1 : rd ≤ 31) (q10 : 0 ≤ q1) (q11 : q1 ≤ 31) (q20 : 0 ≤ q2) (q21 : q2 ≤ 31) (i0 : -2147483648 ≤ im) (i1 : im ≤ 2147483647) (ho : op = 47) :
    Calls Tryz.prog 27 #[.pointer (some ⟨b, 0, none⟩), .agg #[.int .i64 op, .int .i64 rd, .int .i64 q1, .int .i64 q2, .int .i32 im]] w fun e w' => e = .returned (.tuple #[]) ∧ RefAt B b mb (stop m 9) vE vA vS vB w' ∧ SlotsAt b mb (stop m 9) vS w' ∧ Touch (b :: mb :: sblk vS) w w' := by
  subst ho
  have HT : Hid (∀ n, Touch [] w ((w.alloc (.cells #[.int .i64 47, .int .i64 rd, .int .i64 q1, .int .i64 q2, .int .i32 im] 67)).drewN n)) := fun n => ((Touch.refl _ _).alloc _).drewN n
  have HW : Hid (∀ n, RefAt B b mb m vE vA vS vB ((w.alloc (.cells #[.int .i64 47, .int .i64 rd, .int .i64 q1, .int .i64 q2, .int .i32 im] 67)).drewN n)) := fun n => (h.other ((Touch.refl [] _).alloc _) (by simp) (by simp) hz).draws n
  have HS : Hid (SlotsAt b mb m vS w) := hs
  have HF : Hid (Fine m) := hf
  have hh := HW.out 0
  have cpc : (w.alloc (.cells #[.int .i64 47, .int .i64 rd, .int .i64 q1, .int .i64 q2, .int .i32 im] 67)).cell? ⟨b, 1, none⟩ = some (.int .u32 m.pc) := hh.cells 1 (by decide) (by decide)
  have ca : (w.alloc (.cells #[.int .i64 47, .int .i64 rd, .int .i64 q1, .int .i64 q2, .int .i32 im] 67)).cell? ⟨b, 2 + q1.toNat, none⟩ = some (.int .u32 (m.regs q1.toNat)) := hh.reg q1.toNat (by omega)
  have cb : (w.alloc (.cells #[.int .i64 47, .int .i64 rd, .int .i64 q1, .int .i64 q2, .int .i32 im] 67)).cell? ⟨b, 2 + q2.toNat, none⟩ = some (.int .u32 (m.regs q2.toNat)) := hh.reg q2.toNat (by omega)
  have pc0 := hf.pc.1
  have pc1 := hf.pc.2
  have q12 : q1 < 32 := by omega
  have q22 : q2 < 32 := by omega
  have ra0 := (hf.regs q1.toNat).1
  have ra1 := (hf.regs q1.toNat).2
  have rb0 := (hf.regs q2.toNat).1
  have rb1 := (hf.regs q2.toNat).2
  have st0 := hf.steps
  have st1 : m.steps < 2000 := by have := hf.fuel.2; omega
  clear hh h hs hf
  go_enter Tryz.func27, Tryz.ntmps27
  go_wp2_with fail
  go_quiet (fail)
  go_wp2_with fail
  go_quiet (fail)
  go_wp2_with (first | (go_at_call 22; refine (stop_any B b mb m vE vA vS vB _ (HW.out _) 9).mono ?_; rintro e w1 ⟨rfl, hat, hto⟩; have HA : Hid (RefAt B b mb (stop m 9) vE vA vS vB w1) := hat; have HB : Hid (Touch [b] w w1) := ((HT.out _).mono (by simp)).trans hto; clear hat hto))
  refine bodyPost_ret (results_none rfl _ _ _) rfl ?_
  exact ⟨rfl, HA.out, HS.out.other (HB.out.mono (by simp)) rfl rfl, HB.out.mono (by simp)⟩
end Go.Proofs.YtakcncahkdfknaaGreatDoor.ref

import Derived.Test.YtakcncahkdfknaaGreatDoorPrB
import Derived.Test.YtakcncahkdfknaaGreatDoorCompB
import Derived.Deep.RegionHeld3
import Derived.Deep.DrawnRows
import Derived.BigQuiet
namespace Go.Proofs.YtakcncahkdfknaaGreatDoor.prog
open Go.ChangeShapes Go.WideShapes Go.ChangeAt Go.RowKit Go.Proofs.YtakcncahkdfknaaGreatDoor.nums Go.Proofs.YtakcncahkdfknaaGreatDoor.dnums Go.Proofs.YtakcncahkdfknaaGreatDoor.mach

set_option linter.unusedVariables false
set_option linter.unusedSimpArgs false
attribute [local go_sem ↓] Go.wp_at_zero Go.wp_at_succ
set_option maxHeartbeats 1000000 in
theorem first_any (B b mb : Nat) (m : M) (nx : Int) (vX : Nat → Value) (w : World) (h : PAt B b mb m nx vX w) (op rd q1 q2 im : Int) (rd0 : 0 ≤ rd) (rd1 : rd ≤ 31) (q10 : 0 ≤ q1) (q11 : q1 ≤ 31) (q20 : 0 ≤ q2) (q21 : q2 ≤ 31) (i0 : -2147483648 ≤ im) (i1 : im ≤ 2147483647) (hz : 0 < m.size) :
    Calls Tryz.prog 88 #[.pointer (some ⟨b, 0, none⟩), .agg #[.int .i64 op, .int .i64 rd, .int .i64 q1, .int .i64 q2, .int .i32 im]] w fun e w' => e = .returned (.int .u32 (m.regs q1.toNat)) ∧ ref.Touch [] w w' := by
  have lb : b < w.heap.size := World.block_lt_of_cell? _ _ h.data
  have ca := h.reg q1.toNat (by omega)
  have q12 : q1 < 32 := by omega
  clear h
  go_enter Tryz.func88, Tryz.ntmps88
  go_wp2_with fail
  go_quiet (fail)
  go_wp2_with fail
  go_ret
  exact ⟨rfl, (((ref.Touch.refl _ _).alloc _).drewN _)⟩
set_option maxHeartbeats 1000000 in
theorem second_any (B b mb : Nat) (m : M) (nx : Int) (vX : Nat → Value) (w : World) (h : PAt B b mb m nx vX w) (op rd q1 q2 im : Int) (rd0 : 0 ≤ rd) (rd1 : rd ≤ 31) (q10 : 0 ≤ q1) (q11 : q1 ≤ 31) (q20 : 0 ≤ q2) (q21 : q2 ≤ 31) (i0 : -2147483648 ≤ im) (i1 : im ≤ 2147483647) (hz : 0 < m.size) :
    Calls Tryz.prog 90 #[.pointer (some ⟨b, 0, none⟩), .agg #[.int .i64 op, .int .i64 rd, .int .i64 q1, .int .i64 q2, .int .i32 im]] w fun e w' => e = .returned (.int .u32 (m.regs q2.toNat)) ∧ ref.Touch [] w w' := by
  have lb : b < w.heap.size := World.block_lt_of_cell? _ _ h.data
  have ca := h.reg q2.toNat (by omega)
  have q12 : q2 < 32 := by omega
  clear h
  go_enter Tryz.func90, Tryz.ntmps90
  go_wp2_with fail
  go_quiet (fail)
  go_wp2_with fail
  go_ret
  exact ⟨rfl, (((ref.Touch.refl _ _).alloc _).drewN _)⟩
/-- The world with the instruction's box; what is held of it. -/
abbrev bx (w : World) (op rd q1 q2 im : Int) : World := (w.alloc (.cells #[.int .i64 op, .int .i64 rd, .int .i64 q1, .int .i64 q2, .int .i32 im] 67))
abbrev sb (w : World) (b : Nat) (m : M) (op rd q1 q2 im : Int) (w' : World) : Prop := w'.cell? ⟨w.heap.size, 0, none⟩ = some (.int .i64 op) ∧ w'.cell? ⟨w.heap.size, 1, none⟩ = some (.int .i64 rd) ∧ w'.cell? ⟨w.heap.size, 2, none⟩ = some (.int .i64 q1) ∧ w'.cell? ⟨w.heap.size, 3, none⟩ = some (.int .i64 q2) ∧ w'.cell? ⟨w.heap.size, 4, none⟩ = some (.int .i32 im) ∧ w'.cell? ⟨b, 33, none⟩ = some (.int .u32 m.pc)
theorem tk {P : Program} {md : Region.Mode} {ops : Array Oper} {Q : Exit → Act → World → Prop} {S : World → Prop} {i : Nat} {oi : Oper} {v : Value} {fuel : Nat} {listed : Array Bool} {a : Act} {w : World} (hi : ops[i]? = some oi)
    (hk : (Region.noSelect ops && Region.free md ops listed i && (Region.ready md ops listed).contains i) = true) (hQ : ∀ c a w, Q (.panic c) (a.put oi.dst v) w → Q (.panic c) a w)
    (hw : Region.wanted oi (yielded ops a.tmps) = true) (hy : ∀ w, S w → (execOp a.eval oi).run P w = .ok (.value v) w) (hS : S w)
    (h : wpAnyH P md ops Q S fuel (listed.setIfInBounds i true) (a.put oi.dst v) w) : wpAnyH P md ops Q S (fuel + 1) listed a w := by
  simp only [Bool.and_eq_true] at hk
  exact wpAnyH_take hi hk.1.1 hk.1.2 hk.2 hQ (Or.inl ⟨hw, hy⟩) hS h
theorem pre_any (B b mb : Nat) (m : M) (nx : Int) (vX : Nat → Value) (w : World) (h : PAt B b mb m nx vX w) (op rd q1 q2 im : Int) (hz : 0 < m.size) (hf : Fine m) :
    b < w.heap.size ∧ Hid (PAt B b mb m nx vX (bx w op rd q1 q2 im)) ∧ Hid (∀ w', ref.Touch [] (bx w op rd q1 q2 im) w' → PAt B b mb m nx vX w') ∧ Hid (0 < m.size) ∧ Hid (Fine m) ∧ Hid (∀ w', ref.Touch [b] (bx w op rd q1 q2 im) w' → w'.cell? ⟨b, 33, none⟩ = some (.int .u32 m.pc) → (sb w b m op rd q1 q2 im) w') ∧ (bx w op rd q1 q2 im).cell? ⟨b, 33, none⟩ = some (.int .u32 m.pc) ∧
    0 ≤ m.regs q1.toNat ∧ m.regs q1.toNat ≤ 4294967295 ∧ 0 ≤ m.regs q2.toNat ∧ m.regs q2.toNat ≤ 4294967295 ∧ 0 ≤ m.pc ∧ m.pc ≤ 4294967295 ∧ IntKind.u32.wrap im = im % 4294967296 := by
  have lb : b < w.heap.size := World.block_lt_of_cell? _ _ h.data
  have HH : PAt B b mb m nx vX (w.alloc (.cells #[.int .i64 op, .int .i64 rd, .int .i64 q1, .int .i64 q2, .int .i32 im] 67)) := h.other ((ref.Touch.refl [] _).alloc _) (by simp) (by simp) hz
  refine ⟨lb, HH, fun w' t => HH.other t (by simp) (by simp) hz, hz, hf, fun w' t hp => ?_, HH.cells 33 (by decide) (by decide), (hf.regs q1.toNat).1, (hf.regs q1.toNat).2, (hf.regs q2.toNat).1, (hf.regs q2.toNat).2, hf.pc.1, hf.pc.2, IntKind.wrap_u32 _⟩
  have e : ∀ j, w'.cell? ⟨w.heap.size, j, none⟩ = (w.alloc (.cells #[.int .i64 op, .int .i64 rd, .int .i64 q1, .int .i64 q2, .int .i32 im] 67)).cell? ⟨w.heap.size, j, none⟩ := fun j => t.cell (p := ⟨w.heap.size, j, none⟩) (by simp) (by simp; omega)
  exact ⟨(e 0).trans (World.cell?_alloc_at _ _ _ _ rfl), (e 1).trans (World.cell?_alloc_at _ _ _ _ rfl), (e 2).trans (World.cell?_alloc_at _ _ _ _ rfl), (e 3).trans (World.cell?_alloc_at _ _ _ _ rfl), (e 4).trans (World.cell?_alloc_at _ _ _ _ rfl), hp⟩
theorem pre2_any (B b mb : Nat) (m : M) (nx : Int) (vX : Nat → Value) (w : World) (h : PAt B b mb m nx vX w) (op rd q1 q2 im : Int) (hz : 0 < m.size) : mb < w.heap.size ∧ Hid (∀ w', ref.Touch [b, mb] (bx w op rd q1 q2 im) w' → w'.cell? ⟨b, 33, none⟩ = some (.int .u32 m.pc) → (sb w b m op rd q1 q2 im) w') := by
  have lb : b < w.heap.size := World.block_lt_of_cell? _ _ h.data
  have lm : mb < w.heap.size := World.block_lt_of_cell? _ _ (h.bytes 0 hz)
  refine ⟨lm, fun w' t hp => ?_⟩
  have e : ∀ j, w'.cell? ⟨w.heap.size, j, none⟩ = (w.alloc (.cells #[.int .i64 op, .int .i64 rd, .int .i64 q1, .int .i64 q2, .int .i32 im] 67)).cell? ⟨w.heap.size, j, none⟩ := fun j => t.cell (p := ⟨w.heap.size, j, none⟩) (by simp) (by simp; omega)
  exact ⟨(e 0).trans (World.cell?_alloc_at _ _ _ _ rfl), (e 1).trans (World.cell?_alloc_at _ _ _ _ rfl), (e 2).trans (World.cell?_alloc_at _ _ _ _ rfl), (e 3).trans (World.cell?_alloc_at _ _ _ _ rfl), (e 4).trans (World.cell?_alloc_at _ _ _ _ rfl), hp⟩
theorem set_pc {B b mb : Nat} {m : M} {nx : Int} {vX : Nat → Value} {w : World} {r v : Int} (h : PAt B b mb (setReg m r v) nx vX w) : w.cell? ⟨b, 33, none⟩ = some (.int .u32 m.pc) := by
  have e : (setReg m r v).pc = m.pc := by unfold setReg; by_cases e : r = 0 <;> simp [e]
  rw [← e]; exact h.cells 33 (by decide) (by decide)
theorem setReg_pc (m : M) (r v : Int) : (setReg m r v).pc = m.pc := by unfold setReg; by_cases e : r = 0 <;> simp [e]
set_option maxRecDepth 10000 in
set_option maxHeartbeats 400000 in
theorem a_upper (B b mb : Nat) (m : M) (nx : Int) (vX : Nat → Value) (w : World) (h : PAt B b mb m nx vX w) (op rd q1 q2 im : Int) (rd0 : 0 ≤ rd) (rd1 : rd ≤ 31) (q10 : 0 ≤ q1) (q11 : q1 ≤ 31) (q20 : 0 ≤ q2) (q21 : q2 ≤ 31) (i0 : -2147483648 ≤ im) (i1 : im ≤ 2147483647) (hz : 0 < m.size) (hf : Fine m) :
    Calls Tryz.prog 45 #[.pointer (some ⟨b, 0, none⟩), .agg #[.int .i64 op, .int .i64 rd, .int .i64 q1, .int .i64 q2, .int .i32 im]] w fun e w' => e = .returned (.tuple #[]) ∧ PAt B b mb (setReg m rd (im % 4294967296)) nx vX w' ∧ ref.Touch [b, mb] w w' := by
  obtain ⟨lb, HH, HHt, HZ, HF, HSk, cpc, ra0, ra1, rb0, rb1, pc0, pc1, wi⟩ := pre_any B b mb m nx vX w h op rd q1 q2 im hz hf
  clear h
  clear hz hf
  go_enter Tryz.func45, Tryz.ntmps45
  go_wp2_with (first | (go_at_call 86; refine (Calls.mono (set_any B b mb m nx vX _ (HHt.out _ (by repeat' (first | with_reducible exact ref.Touch.refl _ _ | with_reducible apply ref.Touch.drew | with_reducible apply ref.Touch.drewN | assumption))) rd (im % 4294967296) rd0 rd1) ?_); rintro e w9 ⟨rfl, hat, hto⟩; have HA : Hid (PAt B b mb (setReg m rd (im % 4294967296)) nx vX w9) := hat; have htx : ref.Touch [b] (bx w op rd q1 q2 im) w9 := ref.Touch.trans (ref.Touch.mono (S := []) (by repeat' (first | with_reducible exact ref.Touch.refl _ _ | with_reducible apply ref.Touch.drew | with_reducible apply ref.Touch.drewN | assumption)) (by simp)) hto; have hpx : w9.cell? ⟨b, 33, none⟩ = some (.int .u32 m.pc) := set_pc hat; have HT : Hid (ref.Touch [b] (bx w op rd q1 q2 im) w9) := htx; clear hat hto))
  go_end0
  exact ⟨rfl, HA.out, (((ref.Touch.refl _ _).alloc _).trans HT.out).mono (by simp)⟩
set_option maxRecDepth 10000 in
set_option maxHeartbeats 400000 in
theorem a_upperFromHere (B b mb : Nat) (m : M) (nx : Int) (vX : Nat → Value) (w : World) (h : PAt B b mb m nx vX w) (op rd q1 q2 im : Int) (rd0 : 0 ≤ rd) (rd1 : rd ≤ 31) (q10 : 0 ≤ q1) (q11 : q1 ≤ 31) (q20 : 0 ≤ q2) (q21 : q2 ≤ 31) (i0 : -2147483648 ≤ im) (i1 : im ≤ 2147483647) (hz : 0 < m.size) (hf : Fine m) :
    Calls Tryz.prog 46 #[.pointer (some ⟨b, 0, none⟩), .agg #[.int .i64 op, .int .i64 rd, .int .i64 q1, .int .i64 q2, .int .i32 im]] w fun e w' => e = .returned (.tuple #[]) ∧ PAt B b mb (setReg m rd ((m.pc + im) % 4294967296)) nx vX w' ∧ ref.Touch [b, mb] w w' := by
  obtain ⟨lb, HH, HHt, HZ, HF, HSk, cpc, ra0, ra1, rb0, rb1, pc0, pc1, wi⟩ := pre_any B b mb m nx vX w h op rd q1 q2 im hz hf
  clear h
  have wp : IntKind.u32.wrap (m.pc + im % 4294967296) = (m.pc + im) % 4294967296 := by rw [IntKind.wrap_u32]; omega
  clear hz hf
  go_enter Tryz.func46, Tryz.ntmps46
  go_wp2_with fail
  go_region_held3 (fun w' => w'.cell? ⟨w.heap.size, 0, none⟩ = some (.int .i64 op) ∧ w'.cell? ⟨w.heap.size, 1, none⟩ = some (.int .i64 rd) ∧ w'.cell? ⟨w.heap.size, 2, none⟩ = some (.int .i64 q1) ∧ w'.cell? ⟨w.heap.size, 3, none⟩ = some (.int .i64 q2) ∧ w'.cell? ⟨w.heap.size, 4, none⟩ = some (.int .i32 im) ∧ w'.cell? ⟨b, 33, none⟩ = some (.int .u32 m.pc)) (exact HSk.out _ (by first | with_reducible exact (ref.Touch.refl _ _).drew | assumption | (apply ref.Touch.mono (S := []) (by assumption) (by simp)) | (with_reducible exact ref.Touch.refl _ _)) (by first | assumption | exact cpc)) (first | (go_at_call 86; refine (Calls.mono (set_any B b mb m nx vX _ (HHt.out _ (by repeat' (first | with_reducible exact ref.Touch.refl _ _ | with_reducible apply ref.Touch.drew | with_reducible apply ref.Touch.drewN | assumption))) rd ((m.pc + im) % 4294967296) rd0 rd1) ?_); rintro e w9 ⟨rfl, hat, hto⟩; have HA : Hid (PAt B b mb (setReg m rd ((m.pc + im) % 4294967296)) nx vX w9) := hat; have htx : ref.Touch [b] (bx w op rd q1 q2 im) w9 := ref.Touch.trans (ref.Touch.mono (S := []) (by repeat' (first | with_reducible exact ref.Touch.refl _ _ | with_reducible apply ref.Touch.drew | with_reducible apply ref.Touch.drewN | assumption)) (by simp)) hto; have hpx : w9.cell? ⟨b, 33, none⟩ = some (.int .u32 m.pc) := set_pc hat; have HT : Hid (ref.Touch [b] (bx w op rd q1 q2 im) w9) := htx; clear hat hto))
  go_wp2_with fail
  go_end0
  exact ⟨rfl, HA.out, (((ref.Touch.refl _ _).alloc _).trans HT.out).mono (by simp)⟩
set_option maxRecDepth 10000 in
set_option maxHeartbeats 400000 in
theorem a_reckon (B b mb : Nat) (m : M) (nx : Int) (vX : Nat → Value) (w : World) (h : PAt B b mb m nx vX w) (op rd q1 q2 im : Int) (rd0 : 0 ≤ rd) (rd1 : rd ≤ 31) (q10 : 0 ≤ q1) (q11 : q1 ≤ 31) (q20 : 0 ≤ q2) (q21 : q2 ≤ 31) (i0 : -2147483648 ≤ im) (i1 : im ≤ 2147483647) (hz : 0 < m.size) (hf : Fine m) :
    Calls Tryz.prog 100 #[.pointer (some ⟨b, 0, none⟩), .agg #[.int .i64 op, .int .i64 rd, .int .i64 q1, .int .i64 q2, .int .i32 im]] w fun e w' => e = .returned (.tuple #[]) ∧ PAt B b mb (setReg m rd (comp op (m.regs q1.toNat) (m.regs q2.toNat))) nx vX w' ∧ ref.Touch [b, mb] w w' := by
  obtain ⟨lb, HH, HHt, HZ, HF, HSk, cpc, ra0, ra1, rb0, rb1, pc0, pc1, wi⟩ := pre_any B b mb m nx vX w h op rd q1 q2 im hz hf
  clear h
  clear hz hf
  go_enter Tryz.func100, Tryz.ntmps100
  go_wp2_with fail
  go_region_held3 (fun w' => w'.cell? ⟨w.heap.size, 0, none⟩ = some (.int .i64 op) ∧ w'.cell? ⟨w.heap.size, 1, none⟩ = some (.int .i64 rd) ∧ w'.cell? ⟨w.heap.size, 2, none⟩ = some (.int .i64 q1) ∧ w'.cell? ⟨w.heap.size, 3, none⟩ = some (.int .i64 q2) ∧ w'.cell? ⟨w.heap.size, 4, none⟩ = some (.int .i32 im) ∧ w'.cell? ⟨b, 33, none⟩ = some (.int .u32 m.pc)) (exact HSk.out _ (by first | with_reducible exact (ref.Touch.refl _ _).drew | assumption | (apply ref.Touch.mono (S := []) (by assumption) (by simp)) | (with_reducible exact ref.Touch.refl _ _)) (by first | assumption | exact cpc)) (first | (go_at_call 88; refine (Calls.mono (first_any B b mb m nx vX _ (HHt.out _ (by repeat' (first | with_reducible exact ref.Touch.refl _ _ | with_reducible apply ref.Touch.drew | with_reducible apply ref.Touch.drewN | assumption))) op rd q1 q2 im rd0 rd1 q10 q11 q20 q21 i0 i1 HZ.out) ?_); rintro e w' ⟨rfl, ht'⟩; have htx : ref.Touch [] (bx w op rd q1 q2 im) w' := (ref.Touch.trans (by repeat' (first | with_reducible exact ref.Touch.refl _ _ | with_reducible apply ref.Touch.drew | with_reducible apply ref.Touch.drewN | assumption)) ht'); have hpx : w'.cell? ⟨b, 33, none⟩ = some (.int .u32 m.pc) := (HHt.out _ htx).cells 33 (by decide) (by decide); clear ht') | (go_at_call 90; refine (Calls.mono (second_any B b mb m nx vX _ (HHt.out _ (by repeat' (first | with_reducible exact ref.Touch.refl _ _ | with_reducible apply ref.Touch.drew | with_reducible apply ref.Touch.drewN | assumption))) op rd q1 q2 im rd0 rd1 q10 q11 q20 q21 i0 i1 HZ.out) ?_); rintro e w' ⟨rfl, ht'⟩; have htx : ref.Touch [] (bx w op rd q1 q2 im) w' := (ref.Touch.trans (by repeat' (first | with_reducible exact ref.Touch.refl _ _ | with_reducible apply ref.Touch.drew | with_reducible apply ref.Touch.drewN | assumption)) ht'); have hpx : w'.cell? ⟨b, 33, none⟩ = some (.int .u32 m.pc) := (HHt.out _ htx).cells 33 (by decide) (by decide); clear ht') | (go_at_call 110; refine (Calls.mono (computes.res_any op (m.regs q1.toNat) (m.regs q2.toNat) ra0 ra1 rb0 rb1 _) ?_); rintro e w' ⟨rfl, hw'⟩; subst w') | (go_at_call 86; refine (Calls.mono (set_any B b mb m nx vX _ (HHt.out _ (by repeat' (first | with_reducible exact ref.Touch.refl _ _ | with_reducible apply ref.Touch.drew | with_reducible apply ref.Touch.drewN | assumption))) rd (comp op (m.regs q1.toNat) (m.regs q2.toNat)) rd0 rd1) ?_); rintro e w9 ⟨rfl, hat, hto⟩; have HA : Hid (PAt B b mb (setReg m rd (comp op (m.regs q1.toNat) (m.regs q2.toNat))) nx vX w9) := hat; have htx : ref.Touch [b] (bx w op rd q1 q2 im) w9 := ref.Touch.trans (ref.Touch.mono (S := []) (by repeat' (first | with_reducible exact ref.Touch.refl _ _ | with_reducible apply ref.Touch.drew | with_reducible apply ref.Touch.drewN | assumption)) (by simp)) hto; have hpx : w9.cell? ⟨b, 33, none⟩ = some (.int .u32 m.pc) := set_pc hat; have HT : Hid (ref.Touch [b] (bx w op rd q1 q2 im) w9) := htx; clear hat hto))
  go_wp2_with fail
  go_end0
  exact ⟨rfl, HA.out, (((ref.Touch.refl _ _).alloc _).trans HT.out).mono (by simp)⟩
set_option maxRecDepth 10000 in
set_option maxHeartbeats 400000 in
theorem a_reckonImmediate (B b mb : Nat) (m : M) (nx : Int) (vX : Nat → Value) (w : World) (h : PAt B b mb m nx vX w) (op rd q1 q2 im : Int) (rd0 : 0 ≤ rd) (rd1 : rd ≤ 31) (q10 : 0 ≤ q1) (q11 : q1 ≤ 31) (q20 : 0 ≤ q2) (q21 : q2 ≤ 31) (i0 : -2147483648 ≤ im) (i1 : im ≤ 2147483647) (hz : 0 < m.size) (hf : Fine m) :
    Calls Tryz.prog 99 #[.pointer (some ⟨b, 0, none⟩), .agg #[.int .i64 op, .int .i64 rd, .int .i64 q1, .int .i64 q2, .int .i32 im]] w fun e w' => e = .returned (.tuple #[]) ∧ PAt B b mb (setReg m rd (comp op (m.regs q1.toNat) (im % 4294967296))) nx vX w' ∧ ref.Touch [b, mb] w w' := by
  obtain ⟨lb, HH, HHt, HZ, HF, HSk, cpc, ra0, ra1, rb0, rb1, pc0, pc1, wi⟩ := pre_any B b mb m nx vX w h op rd q1 q2 im hz hf
  clear h
  clear hz hf
  go_enter Tryz.func99, Tryz.ntmps99
  go_wp2_with fail
  go_region_held3 (fun w' => w'.cell? ⟨w.heap.size, 0, none⟩ = some (.int .i64 op) ∧ w'.cell? ⟨w.heap.size, 1, none⟩ = some (.int .i64 rd) ∧ w'.cell? ⟨w.heap.size, 2, none⟩ = some (.int .i64 q1) ∧ w'.cell? ⟨w.heap.size, 3, none⟩ = some (.int .i64 q2) ∧ w'.cell? ⟨w.heap.size, 4, none⟩ = some (.int .i32 im) ∧ w'.cell? ⟨b, 33, none⟩ = some (.int .u32 m.pc)) (exact HSk.out _ (by first | with_reducible exact (ref.Touch.refl _ _).drew | assumption | (apply ref.Touch.mono (S := []) (by assumption) (by simp)) | (with_reducible exact ref.Touch.refl _ _)) (by first | assumption | exact cpc)) (first | (go_at_call 88; refine (Calls.mono (first_any B b mb m nx vX _ (HHt.out _ (by repeat' (first | with_reducible exact ref.Touch.refl _ _ | with_reducible apply ref.Touch.drew | with_reducible apply ref.Touch.drewN | assumption))) op rd q1 q2 im rd0 rd1 q10 q11 q20 q21 i0 i1 HZ.out) ?_); rintro e w' ⟨rfl, ht'⟩; have htx : ref.Touch [] (bx w op rd q1 q2 im) w' := (ref.Touch.trans (by repeat' (first | with_reducible exact ref.Touch.refl _ _ | with_reducible apply ref.Touch.drew | with_reducible apply ref.Touch.drewN | assumption)) ht'); have hpx : w'.cell? ⟨b, 33, none⟩ = some (.int .u32 m.pc) := (HHt.out _ htx).cells 33 (by decide) (by decide); clear ht') | (go_at_call 110; refine (Calls.mono (computes.res_any op (m.regs q1.toNat) (im % 4294967296) ra0 ra1 (by omega) (by omega) _) ?_); rintro e w' ⟨rfl, hw'⟩; subst w') | (go_at_call 86; refine (Calls.mono (set_any B b mb m nx vX _ (HHt.out _ (by repeat' (first | with_reducible exact ref.Touch.refl _ _ | with_reducible apply ref.Touch.drew | with_reducible apply ref.Touch.drewN | assumption))) rd (comp op (m.regs q1.toNat) (im % 4294967296)) rd0 rd1) ?_); rintro e w9 ⟨rfl, hat, hto⟩; have HA : Hid (PAt B b mb (setReg m rd (comp op (m.regs q1.toNat) (im % 4294967296))) nx vX w9) := hat; have htx : ref.Touch [b] (bx w op rd q1 q2 im) w9 := ref.Touch.trans (ref.Touch.mono (S := []) (by repeat' (first | with_reducible exact ref.Touch.refl _ _ | with_reducible apply ref.Touch.drew | with_reducible apply ref.Touch.drewN | assumption)) (by simp)) hto; have hpx : w9.cell? ⟨b, 33, none⟩ = some (.int .u32 m.pc) := set_pc hat; have HT : Hid (ref.Touch [b] (bx w op rd q1 q2 im) w9) := htx; clear hat hto))
  go_wp2_with fail
  go_end0
  exact ⟨rfl, HA.out, (((ref.Touch.refl _ _).alloc _).trans HT.out).mono (by simp)⟩
end Go.Proofs.YtakcncahkdfknaaGreatDoor.prog

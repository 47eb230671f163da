import Derived.Test.YtmogjicompmkkaaGreatDoorQHa
import Derived.Test.YtmogjicompmkkaaGreatDoorQGy
namespace Go.Proofs.YtmogjicompmkkaaGreatDoor.prog
open Go.ChangeShapes Go.WideShapes Go.ChangeAt Go.RowKit Go.Proofs.YtmogjicompmkkaaGreatDoor.nums Go.Proofs.YtmogjicompmkkaaGreatDoor.dnums Go.Proofs.YtmogjicompmkkaaGreatDoor.mach

set_option linter.unusedVariables false
set_option linter.unusedSimpArgs false
set_option maxRecDepth 10000
attribute [local go_sem ↓] Go.wp_at_zero Go.wp_at_succ
set_option maxHeartbeats 400000 in
theorem jal_n (B b mb : Nat) (m : M) (nx : Int) (vX : Nat → Value) (w : World) (h : PAt B b mb m nx vX w) (op rd q1 q2 im : Int) (rd0 : 0 ≤ rd) (rd1 : rd ≤ 31) (q10 : 0 ≤ q1) (q11 : q1 ≤ 31) (q20 : 0 ≤ q2) (q21 : q2 ≤ 31) (i0 : -2147483648 ≤ im) (i1 : im ≤ 2147483647) (hz : 0 < m.size) (hf : Fine m) (ht : ¬ ((m.pc + im) % 4294967296) % 4 = 0) :
    Calls Tryz.prog 105 #[.pointer (some ⟨b, 0, none⟩), .agg #[.int .i64 op, .int .i64 rd, .int .i64 q1, .int .i64 q2, .int .i32 im]] w fun e w' => e = .panicked (trapV 3) ∧ ref.Touch [] w w' := by
  obtain ⟨lb, HH, HHt, HZ, HF, HSk, cpc, ra0, ra1, rb0, rb1, pc0, pc1, wi⟩ := pre_any B b mb m nx vX w h op rd q1 q2 im hz hf
  clear h
  have wp : IntKind.u32.wrap (m.pc + im % 4294967296) = (m.pc + im) % 4294967296 := by rw [IntKind.wrap_u32]; omega
  clear hz hf
  go_enter Tryz.func105, Tryz.ntmps105
  go_wp2_with fail
  refine wp_region_held_drew (S := (sbx w b m op rd q1 q2 im)) (by kernel_rfl) (HSk.out _ (ref.Touch.refl _ _).drew cpc) (fun hHeld => ?_)
  refine tk (i := 0) (oi := ⟨some 4, _, _, _, _, _⟩) (v := ?v4x1) rfl (by kernel_rfl) (fun _ _ _ h => h) (by rfl) ?h4x1 (by assumption) ?r4x1
  case h4x1 => intro w' hSw; (try dsimp only [sbx] at hSw); go_simp; try with_reducible rfl
  try simp only [Act.put, ly1, ly2, ly3]
  refine tk (i := 1) (oi := ⟨some 5, _, _, _, _, _⟩) (v := ?v5x2) rfl (by kernel_rfl) (fun _ _ _ h => h) (by rfl) ?h5x2 (by assumption) ?r5x2
  case h5x2 => intro w' hSw; (try dsimp only [sbx] at hSw); go_simp; try with_reducible rfl
  try simp only [Act.put, ly1, ly2, ly3]
  refine tk (i := 2) (oi := ⟨some 6, _, _, _, _, _⟩) (v := ?v6x3) rfl (by kernel_rfl) (fun _ _ _ h => h) (by rfl) ?h6x3 (by assumption) ?r6x3
  case h6x3 => intro w' hSw; (try dsimp only [sbx] at hSw); go_simp; try with_reducible rfl
  try simp only [Act.put, ly1, ly2, ly3]
  refine tk (i := 3) (oi := ⟨some 7, _, _, _, _, _⟩) (v := ?v7x4) rfl (by kernel_rfl) (fun _ _ _ h => h) (by rfl) ?h7x4 (by assumption) ?r7x4
  case h7x4 => intro w' hSw; (try dsimp only [sbx] at hSw); go_simp; try with_reducible rfl
  try simp only [Act.put, ly1, ly2, ly3]
  refine tk (i := 4) (oi := ⟨some 8, _, _, _, _, _⟩) (v := ?v8x5) rfl (by kernel_rfl) (fun _ _ _ h => h) (by rfl) ?h8x5 (by assumption) ?r8x5
  case h8x5 => intro w' hSw; (try dsimp only [sbx] at hSw); go_simp; try with_reducible rfl
  try simp only [Act.put, ly1, ly2, ly3]
  refine tk (i := 5) (oi := ⟨some 9, _, _, _, _, _⟩) (v := ?v9x6) rfl (by kernel_rfl) (fun _ _ _ h => h) (by rfl) ?h9x6 (by assumption) ?r9x6
  case h9x6 => intro w' hSw; (try dsimp only [sbx] at hSw); go_simp; try with_reducible rfl
  try simp only [Act.put, ly1, ly2, ly3]
  refine tk (i := 6) (oi := ⟨some 10, _, _, _, _, _⟩) (v := ?v10x7) rfl (by kernel_rfl) (fun _ _ _ h => h) (by rfl) ?h10x7 (by assumption) ?r10x7
  case h10x7 => intro w' hSw; (try dsimp only [sbx] at hSw); go_simp; try with_reducible rfl
  try simp only [Act.put, ly1, ly2, ly3]
  refine tk (i := 7) (oi := ⟨some 11, _, _, _, _, _⟩) (v := ?v11x8) rfl (by kernel_rfl) (fun _ _ _ h => h) (by rfl) ?h11x8 (by assumption) ?r11x8
  case h11x8 => intro w' hSw; (try dsimp only [sbx] at hSw); go_simp; try with_reducible rfl
  try simp only [Act.put, ly1, ly2, ly3]
  refine tk (i := 8) (oi := ⟨some 12, _, _, _, _, _⟩) (v := ?v12x9) rfl (by kernel_rfl) (fun _ _ _ h => h) (by rfl) ?h12x9 (by assumption) ?r12x9
  case h12x9 => intro w' hSw; (try dsimp only [sbx] at hSw); go_simp; try with_reducible rfl
  try simp only [Act.put, ly1, ly2, ly3]
  refine wpAnyH_ready (rs := [9]) (by kernel_rfl) (by simp) ?_
  refine AllReadyH.cons (o := ⟨some 13, _, _, _, _, _⟩) rfl (fun K hK => ?_) AllReadyH.nil
  rw [if_pos (by rfl)]
  go_simp
  refine (Calls.mono (jump_n b ((m.pc + im) % 4294967296) (by omega) (by omega) ht _) ?_)
  rintro e w9 ⟨rfl, hw9⟩
  subst w9
  exact ⟨rfl, rfl, (by repeat' (first | with_reducible exact ref.Touch.refl _ _ | with_reducible apply ref.Touch.drew | with_reducible apply ref.Touch.drewN | with_reducible apply ref.Touch.alloc | assumption | exact ref.Touch.trans ((ref.Touch.refl [] _).alloc _) (by assumption)))⟩
set_option maxHeartbeats 400000 in
theorem jal_y (B b mb : Nat) (m : M) (nx : Int) (vX : Nat → Value) (w : World) (h : PAt B b mb m nx vX w) (op rd q1 q2 im : Int) (rd0 : 0 ≤ rd) (rd1 : rd ≤ 31) (q10 : 0 ≤ q1) (q11 : q1 ≤ 31) (q20 : 0 ≤ q2) (q21 : q2 ≤ 31) (i0 : -2147483648 ≤ im) (i1 : im ≤ 2147483647) (hz : 0 < m.size) (hf : Fine m) (ht : ((m.pc + im) % 4294967296) % 4 = 0) :
    Calls Tryz.prog 105 #[.pointer (some ⟨b, 0, none⟩), .agg #[.int .i64 op, .int .i64 rd, .int .i64 q1, .int .i64 q2, .int .i32 im]] w fun e w' => e = .returned (.tuple #[]) ∧ PAt B b mb (setReg m rd ((m.pc + 4) % 4294967296)) ((m.pc + im) % 4294967296) vX w' ∧ ref.Touch [b, mb] w w' := by
  obtain ⟨lb, HH, HHt, HZ, HF, HSk, cpc, ra0, ra1, rb0, rb1, pc0, pc1, wi⟩ := pre_any B b mb m nx vX w h op rd q1 q2 im hz hf
  clear h
  have wp : IntKind.u32.wrap (m.pc + im % 4294967296) = (m.pc + im) % 4294967296 := by rw [IntKind.wrap_u32]; omega
  have wp4 : IntKind.u32.wrap (m.pc + 4) = (m.pc + 4) % 4294967296 := by rw [IntKind.wrap_u32]
  clear hz hf
  go_enter Tryz.func105, Tryz.ntmps105
  go_wp2_with fail
  refine wp_region_held_drew (S := (sbx w b m op rd q1 q2 im)) (by kernel_rfl) (HSk.out _ (ref.Touch.refl _ _).drew cpc) (fun hHeld => ?_)
  refine tk (i := 0) (oi := ⟨some 4, _, _, _, _, _⟩) (v := ?v4x10) rfl (by kernel_rfl) (fun _ _ _ h => h) (by rfl) ?h4x10 (by assumption) ?r4x10
  case h4x10 => intro w' hSw; (try dsimp only [sbx] at hSw); go_simp; try with_reducible rfl
  try simp only [Act.put, ly1, ly2, ly3]
  refine tk (i := 1) (oi := ⟨some 5, _, _, _, _, _⟩) (v := ?v5x11) rfl (by kernel_rfl) (fun _ _ _ h => h) (by rfl) ?h5x11 (by assumption) ?r5x11
  case h5x11 => intro w' hSw; (try dsimp only [sbx] at hSw); go_simp; try with_reducible rfl
  try simp only [Act.put, ly1, ly2, ly3]
  refine tk (i := 2) (oi := ⟨some 6, _, _, _, _, _⟩) (v := ?v6x12) rfl (by kernel_rfl) (fun _ _ _ h => h) (by rfl) ?h6x12 (by assumption) ?r6x12
  case h6x12 => intro w' hSw; (try dsimp only [sbx] at hSw); go_simp; try with_reducible rfl
  try simp only [Act.put, ly1, ly2, ly3]
  refine tk (i := 3) (oi := ⟨some 7, _, _, _, _, _⟩) (v := ?v7x13) rfl (by kernel_rfl) (fun _ _ _ h => h) (by rfl) ?h7x13 (by assumption) ?r7x13
  case h7x13 => intro w' hSw; (try dsimp only [sbx] at hSw); go_simp; try with_reducible rfl
  try simp only [Act.put, ly1, ly2, ly3]
  refine tk (i := 4) (oi := ⟨some 8, _, _, _, _, _⟩) (v := ?v8x14) rfl (by kernel_rfl) (fun _ _ _ h => h) (by rfl) ?h8x14 (by assumption) ?r8x14
  case h8x14 => intro w' hSw; (try dsimp only [sbx] at hSw); go_simp; try with_reducible rfl
  try simp only [Act.put, ly1, ly2, ly3]
  refine tk (i := 5) (oi := ⟨some 9, _, _, _, _, _⟩) (v := ?v9x15) rfl (by kernel_rfl) (fun _ _ _ h => h) (by rfl) ?h9x15 (by assumption) ?r9x15
  case h9x15 => intro w' hSw; (try dsimp only [sbx] at hSw); go_simp; try with_reducible rfl
  try simp only [Act.put, ly1, ly2, ly3]
  refine tk (i := 6) (oi := ⟨some 10, _, _, _, _, _⟩) (v := ?v10x16) rfl (by kernel_rfl) (fun _ _ _ h => h) (by rfl) ?h10x16 (by assumption) ?r10x16
  case h10x16 => intro w' hSw; (try dsimp only [sbx] at hSw); go_simp; try with_reducible rfl
  try simp only [Act.put, ly1, ly2, ly3]
  refine tk (i := 7) (oi := ⟨some 11, _, _, _, _, _⟩) (v := ?v11x17) rfl (by kernel_rfl) (fun _ _ _ h => h) (by rfl) ?h11x17 (by assumption) ?r11x17
  case h11x17 => intro w' hSw; (try dsimp only [sbx] at hSw); go_simp; try with_reducible rfl
  try simp only [Act.put, ly1, ly2, ly3]
  refine tk (i := 8) (oi := ⟨some 12, _, _, _, _, _⟩) (v := ?v12x18) rfl (by kernel_rfl) (fun _ _ _ h => h) (by rfl) ?h12x18 (by assumption) ?r12x18
  case h12x18 => intro w' hSw; (try dsimp only [sbx] at hSw); go_simp; try with_reducible rfl
  try simp only [Act.put, ly1, ly2, ly3]
  refine wpAnyH_ready (rs := [9]) (by kernel_rfl) (by simp) ?_
  refine AllReadyH.cons (o := ⟨some 13, _, _, _, _, _⟩) rfl (fun K hK => ?_) AllReadyH.nil
  rw [if_pos (by rfl)]
  go_simp
  refine (Calls.mono (jump_y B b mb m nx vX _ (HHt.out _ (by repeat' (first | with_reducible exact tR _ _ | with_reducible apply tD | with_reducible apply tN | assumption))) ((m.pc + im) % 4294967296) (by omega) (by omega) ht) ?_)
  rintro e wj ⟨rfl, hat, hto⟩
  have HJ : Hid (PAt B b mb m ((m.pc + im) % 4294967296) vX wj) := hat
  have tj : ref.Touch [b] (bx w op rd q1 q2 im) wj := ref.Touch.trans (ref.Touch.mono (S := []) (by repeat' (first | with_reducible exact tR _ _ | with_reducible apply tD | with_reducible apply tN | assumption)) (by simp)) hto
  have pj : wj.cell? ⟨b, 33, none⟩ = some (.int .u32 m.pc) := hat.cells 33 (by decide) (by decide)
  have HJt : Hid (∀ w', ref.Touch [] wj w' → PAt B b mb m ((m.pc + im) % 4294967296) vX w') := fun w' t => HJ.out.other t (by simp) (by simp) HZ.out
  clear hat hto
  refine hK.out _ _ (HSk.out _ tj pj) (fun hHeld => ?_)
  clear hK K
  try simp only [Act.put, ly1, ly2, ly3]
  refine wpAnyH_done (by kernel_rfl) ?_ _
  go_wp2_with fail
  refine wp_region_held_drew (S := (sbx w b m op rd q1 q2 im)) (by kernel_rfl) (HSk.out _ tj.drew pj) (fun hHeld => ?_)
  refine tk (i := 0) (oi := ⟨some 14, _, _, _, _, _⟩) (v := ?v14x19) rfl (by kernel_rfl) (fun _ _ _ h => h) (by rfl) ?h14x19 (by assumption) ?r14x19
  case h14x19 => intro w' hSw; (try dsimp only [sbx] at hSw); go_simp; try with_reducible rfl
  try simp only [Act.put, ly1, ly2, ly3]
  refine tk (i := 1) (oi := ⟨some 15, _, _, _, _, _⟩) (v := ?v15x20) rfl (by kernel_rfl) (fun _ _ _ h => h) (by rfl) ?h15x20 (by assumption) ?r15x20
  case h15x20 => intro w' hSw; (try dsimp only [sbx] at hSw); go_simp; try with_reducible rfl
  try simp only [Act.put, ly1, ly2, ly3]
  refine tk (i := 2) (oi := ⟨some 16, _, _, _, _, _⟩) (v := ?v16x21) rfl (by kernel_rfl) (fun _ _ _ h => h) (by rfl) ?h16x21 (by assumption) ?r16x21
  case h16x21 => intro w' hSw; (try dsimp only [sbx] at hSw); go_simp; try with_reducible rfl
  try simp only [Act.put, ly1, ly2, ly3]
  refine tk (i := 3) (oi := ⟨some 17, _, _, _, _, _⟩) (v := ?v17x22) rfl (by kernel_rfl) (fun _ _ _ h => h) (by rfl) ?h17x22 (by assumption) ?r17x22
  case h17x22 => intro w' hSw; (try dsimp only [sbx] at hSw); go_simp; try with_reducible rfl
  try simp only [Act.put, ly1, ly2, ly3]
  refine tk (i := 4) (oi := ⟨some 18, _, _, _, _, _⟩) (v := ?v18x23) rfl (by kernel_rfl) (fun _ _ _ h => h) (by rfl) ?h18x23 (by assumption) ?r18x23
  case h18x23 => intro w' hSw; (try dsimp only [sbx] at hSw); go_simp; try with_reducible rfl
  try simp only [Act.put, ly1, ly2, ly3]
  refine tk (i := 5) (oi := ⟨some 19, _, _, _, _, _⟩) (v := ?v19x24) rfl (by kernel_rfl) (fun _ _ _ h => h) (by rfl) ?h19x24 (by assumption) ?r19x24
  case h19x24 => intro w' hSw; (try dsimp only [sbx] at hSw); go_simp; try with_reducible rfl
  try simp only [Act.put, ly1, ly2, ly3]
  refine tk (i := 6) (oi := ⟨some 20, _, _, _, _, _⟩) (v := ?v20x25) rfl (by kernel_rfl) (fun _ _ _ h => h) (by rfl) ?h20x25 (by assumption) ?r20x25
  case h20x25 => intro w' hSw; (try dsimp only [sbx] at hSw); go_simp; try with_reducible rfl
  try simp only [Act.put, ly1, ly2, ly3]
  refine tk (i := 7) (oi := ⟨some 21, _, _, _, _, _⟩) (v := ?v21x26) rfl (by kernel_rfl) (fun _ _ _ h => h) (by rfl) ?h21x26 (by assumption) ?r21x26
  case h21x26 => intro w' hSw; (try dsimp only [sbx] at hSw); go_simp; try with_reducible rfl
  try simp only [Act.put, ly1, ly2, ly3]
  refine wpAnyH_ready (rs := [8]) (by kernel_rfl) (by simp) ?_
  refine AllReadyH.cons (o := ⟨some 22, _, _, _, _, _⟩) rfl (fun K hK => ?_) AllReadyH.nil
  rw [if_pos (by rfl)]
  go_simp
  refine (Calls.mono (set_any B b mb m ((m.pc + im) % 4294967296) vX _ (HJt.out _ (by repeat' (first | with_reducible exact tR _ _ | with_reducible apply tD | with_reducible apply tN | assumption))) rd ((m.pc + 4) % 4294967296) rd0 rd1) ?_)
  rintro e w9 ⟨rfl, hat, hto⟩
  have HA : Hid (PAt B b mb (setReg m rd ((m.pc + 4) % 4294967296)) ((m.pc + im) % 4294967296) vX w9) := hat
  have t9 : ref.Touch [b] (bx w op rd q1 q2 im) w9 := ref.Touch.trans (ref.Touch.trans tj (ref.Touch.mono (S := []) (by repeat' (first | with_reducible exact tR _ _ | with_reducible apply tD | with_reducible apply tN | assumption)) (by simp))) hto
  have p9 : w9.cell? ⟨b, 33, none⟩ = some (.int .u32 m.pc) := set_pc hat
  have HT : Hid (ref.Touch [b] (bx w op rd q1 q2 im) w9) := t9
  clear hat hto
  refine hK.out _ _ (HSk.out _ t9 p9) (fun hHeld => ?_)
  clear hK K
  try simp only [Act.put, ly1, ly2, ly3]
  refine wpAnyH_done (by kernel_rfl) ?_ _
  go_wp2_with fail
  go_end0
  exact ⟨rfl, HA.out, (((ref.Touch.refl _ _).alloc _).trans HT.out).mono (by simp)⟩
set_option maxHeartbeats 400000 in
theorem jalr_n (B b mb : Nat) (m : M) (nx : Int) (vX : Nat → Value) (w : World) (h : PAt B b mb m nx vX w) (op rd q1 q2 im : Int) (rd0 : 0 ≤ rd) (rd1 : rd ≤ 31) (q10 : 0 ≤ q1) (q11 : q1 ≤ 31) (q20 : 0 ≤ q2) (q21 : q2 ≤ 31) (i0 : -2147483648 ≤ im) (i1 : im ≤ 2147483647) (hz : 0 < m.size) (hf : Fine m) (ht : ¬ (ref.jt (m.regs q1.toNat) im) % 4 = 0) :
    Calls Tryz.prog 106 #[.pointer (some ⟨b, 0, none⟩), .agg #[.int .i64 op, .int .i64 rd, .int .i64 q1, .int .i64 q2, .int .i32 im]] w fun e w' => e = .panicked (trapV 3) ∧ ref.Touch [] w w' := by
  obtain ⟨lb, HH, HHt, HZ, HF, HSk, cpc, ra0, ra1, rb0, rb1, pc0, pc1, wi⟩ := pre_any B b mb m nx vX w h op rd q1 q2 im hz hf
  clear h
  have wa : IntKind.u32.wrap (m.regs q1.toNat + im % 4294967296) = ((m.regs q1.toNat + im) % 4294967296) := by rw [IntKind.wrap_u32]; omega
  have oj := ref.jt_eq (m.regs q1.toNat) im
  have ob0 := (ref.jt_bd (m.regs q1.toNat) im).1
  have ob1 := (ref.jt_bd (m.regs q1.toNat) im).2
  clear hz hf
  go_enter Tryz.func106, Tryz.ntmps106
  go_wp2_with fail
  refine wp_region_held_drew (S := (sbx w b m op rd q1 q2 im)) (by kernel_rfl) (HSk.out _ (ref.Touch.refl _ _).drew cpc) (fun hHeld => ?_)
  refine tk (i := 0) (oi := ⟨some 4, _, _, _, _, _⟩) (v := ?v4x27) rfl (by kernel_rfl) (fun _ _ _ h => h) (by rfl) ?h4x27 (by assumption) ?r4x27
  case h4x27 => intro w' hSw; (try dsimp only [sbx] at hSw); go_simp; try with_reducible rfl
  try simp only [Act.put, ly1, ly2, ly3]
  refine tk (i := 1) (oi := ⟨some 5, _, _, _, _, _⟩) (v := ?v5x28) rfl (by kernel_rfl) (fun _ _ _ h => h) (by rfl) ?h5x28 (by assumption) ?r5x28
  case h5x28 => intro w' hSw; (try dsimp only [sbx] at hSw); go_simp; try with_reducible rfl
  try simp only [Act.put, ly1, ly2, ly3]
  refine tk (i := 2) (oi := ⟨some 6, _, _, _, _, _⟩) (v := ?v6x29) rfl (by kernel_rfl) (fun _ _ _ h => h) (by rfl) ?h6x29 (by assumption) ?r6x29
  case h6x29 => intro w' hSw; (try dsimp only [sbx] at hSw); go_simp; try with_reducible rfl
  try simp only [Act.put, ly1, ly2, ly3]
  refine tk (i := 4) (oi := ⟨some 8, _, _, _, _, _⟩) (v := ?v8x30) rfl (by kernel_rfl) (fun _ _ _ h => h) (by rfl) ?h8x30 (by assumption) ?r8x30
  case h8x30 => intro w' hSw; (try dsimp only [sbx] at hSw); go_simp; try with_reducible rfl
  try simp only [Act.put, ly1, ly2, ly3]
  refine tk (i := 5) (oi := ⟨some 9, _, _, _, _, _⟩) (v := ?v9x31) rfl (by kernel_rfl) (fun _ _ _ h => h) (by rfl) ?h9x31 (by assumption) ?r9x31
  case h9x31 => intro w' hSw; (try dsimp only [sbx] at hSw); go_simp; try with_reducible rfl
  try simp only [Act.put, ly1, ly2, ly3]
  refine tk (i := 6) (oi := ⟨some 10, _, _, _, _, _⟩) (v := ?v10x32) rfl (by kernel_rfl) (fun _ _ _ h => h) (by rfl) ?h10x32 (by assumption) ?r10x32
  case h10x32 => intro w' hSw; (try dsimp only [sbx] at hSw); go_simp; try with_reducible rfl
  try simp only [Act.put, ly1, ly2, ly3]
  refine wpAnyH_ready (rs := [3]) (by kernel_rfl) (by simp) ?_
  refine AllReadyH.cons (o := ⟨some 7, _, _, _, _, _⟩) rfl (fun K hK => ?_) AllReadyH.nil
  rw [if_pos (by rfl)]
  go_simp
  refine (Calls.mono (first_any B b mb m nx vX _ (HHt.out _ (by repeat' (first | with_reducible exact tR _ _ | with_reducible apply tD | with_reducible apply tN | assumption))) op rd q1 q2 im rd0 rd1 q10 q11 q20 q21 i0 i1 HZ.out) ?_)
  rintro e w1 ⟨rfl, ht'⟩
  have t1 : ref.Touch [] (bx w op rd q1 q2 im) w1 := ref.Touch.trans (by repeat' (first | with_reducible exact tR _ _ | with_reducible apply tD | with_reducible apply tN | assumption)) ht'
  have p1 : w1.cell? ⟨b, 33, none⟩ = some (.int .u32 m.pc) := (HHt.out _ t1).cells 33 (by decide) (by decide)
  clear ht'
  refine hK.out _ _ (HSk.out _ (t1.mono (by simp)) p1) (fun hHeld => ?_)
  clear hK K
  try simp only [Act.put, ly1, ly2, ly3]
  refine tk (i := 7) (oi := ⟨some 11, _, _, _, _, _⟩) (v := ?v11x33) rfl (by kernel_rfl) (fun _ _ _ h => h) (by rfl) ?h11x33 (by assumption) ?r11x33
  case h11x33 => intro w' hSw; (try dsimp only [sbx] at hSw); go_simp; try with_reducible rfl
  try simp only [Act.put, ly1, ly2, ly3]
  refine tk (i := 8) (oi := ⟨some 12, _, _, _, _, _⟩) (v := ?v12x34) rfl (by kernel_rfl) (fun _ _ _ h => h) (by rfl) ?h12x34 (by assumption) ?r12x34
  case h12x34 => intro w' hSw; (try dsimp only [sbx] at hSw); go_simp; try with_reducible rfl
  try simp only [Act.put, ly1, ly2, ly3]
  refine wpAnyH_ready (rs := [9]) (by kernel_rfl) (by simp) ?_
  refine AllReadyH.cons (o := ⟨some 13, _, _, _, _, _⟩) rfl (fun K hK => ?_) AllReadyH.nil
  rw [if_pos (by rfl)]
  go_simp
  refine (Calls.mono (jump_n b (ref.jt (m.regs q1.toNat) im) (by omega) (by omega) ht _) ?_)
  rintro e w9 ⟨rfl, hw9⟩
  subst w9
  exact ⟨rfl, rfl, (by repeat' (first | with_reducible exact ref.Touch.refl _ _ | with_reducible apply ref.Touch.drew | with_reducible apply ref.Touch.drewN | with_reducible apply ref.Touch.alloc | assumption | exact ref.Touch.trans ((ref.Touch.refl [] _).alloc _) (by assumption)))⟩
set_option maxHeartbeats 400000 in
theorem jalr_y (B b mb : Nat) (m : M) (nx : Int) (vX : Nat → Value) (w : World) (h : PAt B b mb m nx vX w) (op rd q1 q2 im : Int) (rd0 : 0 ≤ rd) (rd1 : rd ≤ 31) (q10 : 0 ≤ q1) (q11 : q1 ≤ 31) (q20 : 0 ≤ q2) (q21 : q2 ≤ 31) (i0 : -2147483648 ≤ im) (i1 : im ≤ 2147483647) (hz : 0 < m.size) (hf : Fine m) (ht : (ref.jt (m.regs q1.toNat) im) % 4 = 0) :
    Calls Tryz.prog 106 #[.pointer (some ⟨b, 0, none⟩), .agg #[.int .i64 op, .int .i64 rd, .int .i64 q1, .int .i64 q2, .int .i32 im]] w fun e w' => e = .returned (.tuple #[]) ∧ PAt B b mb (setReg m rd ((m.pc + 4) % 4294967296)) (ref.jt (m.regs q1.toNat) im) vX w' ∧ ref.Touch [b, mb] w w' := by
  obtain ⟨lb, HH, HHt, HZ, HF, HSk, cpc, ra0, ra1, rb0, rb1, pc0, pc1, wi⟩ := pre_any B b mb m nx vX w h op rd q1 q2 im hz hf
  clear h
  have wa : IntKind.u32.wrap (m.regs q1.toNat + im % 4294967296) = ((m.regs q1.toNat + im) % 4294967296) := by rw [IntKind.wrap_u32]; omega
  have oj := ref.jt_eq (m.regs q1.toNat) im
  have ob0 := (ref.jt_bd (m.regs q1.toNat) im).1
  have ob1 := (ref.jt_bd (m.regs q1.toNat) im).2
  have wp4 : IntKind.u32.wrap (m.pc + 4) = (m.pc + 4) % 4294967296 := by rw [IntKind.wrap_u32]
  clear hz hf
  go_enter Tryz.func106, Tryz.ntmps106
  go_wp2_with fail
  refine wp_region_held_drew (S := (sbx w b m op rd q1 q2 im)) (by kernel_rfl) (HSk.out _ (ref.Touch.refl _ _).drew cpc) (fun hHeld => ?_)
  refine tk (i := 0) (oi := ⟨some 4, _, _, _, _, _⟩) (v := ?v4x35) rfl (by kernel_rfl) (fun _ _ _ h => h) (by rfl) ?h4x35 (by assumption) ?r4x35
  case h4x35 => intro w' hSw; (try dsimp only [sbx] at hSw); go_simp; try with_reducible rfl
  try simp only [Act.put, ly1, ly2, ly3]
  refine tk (i := 1) (oi := ⟨some 5, _, _, _, _, _⟩) (v := ?v5x36) rfl (by kernel_rfl) (fun _ _ _ h => h) (by rfl) ?h5x36 (by assumption) ?r5x36
  case h5x36 => intro w' hSw; (try dsimp only [sbx] at hSw); go_simp; try with_reducible rfl
  try simp only [Act.put, ly1, ly2, ly3]
  refine tk (i := 2) (oi := ⟨some 6, _, _, _, _, _⟩) (v := ?v6x37) rfl (by kernel_rfl) (fun _ _ _ h => h) (by rfl) ?h6x37 (by assumption) ?r6x37
  case h6x37 => intro w' hSw; (try dsimp only [sbx] at hSw); go_simp; try with_reducible rfl
  try simp only [Act.put, ly1, ly2, ly3]
  refine tk (i := 4) (oi := ⟨some 8, _, _, _, _, _⟩) (v := ?v8x38) rfl (by kernel_rfl) (fun _ _ _ h => h) (by rfl) ?h8x38 (by assumption) ?r8x38
  case h8x38 => intro w' hSw; (try dsimp only [sbx] at hSw); go_simp; try with_reducible rfl
  try simp only [Act.put, ly1, ly2, ly3]
  refine tk (i := 5) (oi := ⟨some 9, _, _, _, _, _⟩) (v := ?v9x39) rfl (by kernel_rfl) (fun _ _ _ h => h) (by rfl) ?h9x39 (by assumption) ?r9x39
  case h9x39 => intro w' hSw; (try dsimp only [sbx] at hSw); go_simp; try with_reducible rfl
  try simp only [Act.put, ly1, ly2, ly3]
  refine tk (i := 6) (oi := ⟨some 10, _, _, _, _, _⟩) (v := ?v10x40) rfl (by kernel_rfl) (fun _ _ _ h => h) (by rfl) ?h10x40 (by assumption) ?r10x40
  case h10x40 => intro w' hSw; (try dsimp only [sbx] at hSw); go_simp; try with_reducible rfl
  try simp only [Act.put, ly1, ly2, ly3]
  refine wpAnyH_ready (rs := [3]) (by kernel_rfl) (by simp) ?_
  refine AllReadyH.cons (o := ⟨some 7, _, _, _, _, _⟩) rfl (fun K hK => ?_) AllReadyH.nil
  rw [if_pos (by rfl)]
  go_simp
  refine (Calls.mono (first_any B b mb m nx vX _ (HHt.out _ (by repeat' (first | with_reducible exact tR _ _ | with_reducible apply tD | with_reducible apply tN | assumption))) op rd q1 q2 im rd0 rd1 q10 q11 q20 q21 i0 i1 HZ.out) ?_)
  rintro e w1 ⟨rfl, ht'⟩
  have t1 : ref.Touch [] (bx w op rd q1 q2 im) w1 := ref.Touch.trans (by repeat' (first | with_reducible exact tR _ _ | with_reducible apply tD | with_reducible apply tN | assumption)) ht'
  have p1 : w1.cell? ⟨b, 33, none⟩ = some (.int .u32 m.pc) := (HHt.out _ t1).cells 33 (by decide) (by decide)
  clear ht'
  refine hK.out _ _ (HSk.out _ (t1.mono (by simp)) p1) (fun hHeld => ?_)
  clear hK K
  try simp only [Act.put, ly1, ly2, ly3]
  refine tk (i := 7) (oi := ⟨some 11, _, _, _, _, _⟩) (v := ?v11x41) rfl (by kernel_rfl) (fun _ _ _ h => h) (by rfl) ?h11x41 (by assumption) ?r11x41
  case h11x41 => intro w' hSw; (try dsimp only [sbx] at hSw); go_simp; try with_reducible rfl
  try simp only [Act.put, ly1, ly2, ly3]
  refine tk (i := 8) (oi := ⟨some 12, _, _, _, _, _⟩) (v := ?v12x42) rfl (by kernel_rfl) (fun _ _ _ h => h) (by rfl) ?h12x42 (by assumption) ?r12x42
  case h12x42 => intro w' hSw; (try dsimp only [sbx] at hSw); go_simp; try with_reducible rfl
  try simp only [Act.put, ly1, ly2, ly3]
  refine wpAnyH_ready (rs := [9]) (by kernel_rfl) (by simp) ?_
  refine AllReadyH.cons (o := ⟨some 13, _, _, _, _, _⟩) rfl (fun K hK => ?_) AllReadyH.nil
  rw [if_pos (by rfl)]
  go_simp
  refine (Calls.mono (jump_y B b mb m nx vX _ (HHt.out _ (by repeat' (first | with_reducible exact tR _ _ | with_reducible apply tD | with_reducible apply tN | assumption))) (ref.jt (m.regs q1.toNat) im) (by omega) (by omega) ht) ?_)
  rintro e wj ⟨rfl, hat, hto⟩
  have HJ : Hid (PAt B b mb m (ref.jt (m.regs q1.toNat) im) vX wj) := hat
  have tj : ref.Touch [b] (bx w op rd q1 q2 im) wj := ref.Touch.trans (ref.Touch.mono (S := []) (by repeat' (first | with_reducible exact tR _ _ | with_reducible apply tD | with_reducible apply tN | assumption)) (by simp)) hto
  have pj : wj.cell? ⟨b, 33, none⟩ = some (.int .u32 m.pc) := hat.cells 33 (by decide) (by decide)
  have HJt : Hid (∀ w', ref.Touch [] wj w' → PAt B b mb m (ref.jt (m.regs q1.toNat) im) vX w') := fun w' t => HJ.out.other t (by simp) (by simp) HZ.out
  clear hat hto
  refine hK.out _ _ (HSk.out _ tj pj) (fun hHeld => ?_)
  clear hK K
  try simp only [Act.put, ly1, ly2, ly3]
  refine wpAnyH_done (by kernel_rfl) ?_ _
  go_wp2_with fail
  refine wp_region_held_drew (S := (sbx w b m op rd q1 q2 im)) (by kernel_rfl) (HSk.out _ tj.drew pj) (fun hHeld => ?_)
  refine tk (i := 0) (oi := ⟨some 14, _, _, _, _, _⟩) (v := ?v14x43) rfl (by kernel_rfl) (fun _ _ _ h => h) (by rfl) ?h14x43 (by assumption) ?r14x43
  case h14x43 => intro w' hSw; (try dsimp only [sbx] at hSw); go_simp; try with_reducible rfl
  try simp only [Act.put, ly1, ly2, ly3]
  refine tk (i := 1) (oi := ⟨some 15, _, _, _, _, _⟩) (v := ?v15x44) rfl (by kernel_rfl) (fun _ _ _ h => h) (by rfl) ?h15x44 (by assumption) ?r15x44
  case h15x44 => intro w' hSw; (try dsimp only [sbx] at hSw); go_simp; try with_reducible rfl
  try simp only [Act.put, ly1, ly2, ly3]
  refine tk (i := 2) (oi := ⟨some 16, _, _, _, _, _⟩) (v := ?v16x45) rfl (by kernel_rfl) (fun _ _ _ h => h) (by rfl) ?h16x45 (by assumption) ?r16x45
  case h16x45 => intro w' hSw; (try dsimp only [sbx] at hSw); go_simp; try with_reducible rfl
  try simp only [Act.put, ly1, ly2, ly3]
  refine tk (i := 3) (oi := ⟨some 17, _, _, _, _, _⟩) (v := ?v17x46) rfl (by kernel_rfl) (fun _ _ _ h => h) (by rfl) ?h17x46 (by assumption) ?r17x46
  case h17x46 => intro w' hSw; (try dsimp only [sbx] at hSw); go_simp; try with_reducible rfl
  try simp only [Act.put, ly1, ly2, ly3]
  refine tk (i := 4) (oi := ⟨some 18, _, _, _, _, _⟩) (v := ?v18x47) rfl (by kernel_rfl) (fun _ _ _ h => h) (by rfl) ?h18x47 (by assumption) ?r18x47
  case h18x47 => intro w' hSw; (try dsimp only [sbx] at hSw); go_simp; try with_reducible rfl
  try simp only [Act.put, ly1, ly2, ly3]
  refine tk (i := 5) (oi := ⟨some 19, _, _, _, _, _⟩) (v := ?v19x48) rfl (by kernel_rfl) (fun _ _ _ h => h) (by rfl) ?h19x48 (by assumption) ?r19x48
  case h19x48 => intro w' hSw; (try dsimp only [sbx] at hSw); go_simp; try with_reducible rfl
  try simp only [Act.put, ly1, ly2, ly3]
  refine tk (i := 6) (oi := ⟨some 20, _, _, _, _, _⟩) (v := ?v20x49) rfl (by kernel_rfl) (fun _ _ _ h => h) (by rfl) ?h20x49 (by assumption) ?r20x49
  case h20x49 => intro w' hSw; (try dsimp only [sbx] at hSw); go_simp; try with_reducible rfl
  try simp only [Act.put, ly1, ly2, ly3]
  refine tk (i := 7) (oi := ⟨some 21, _, _, _, _, _⟩) (v := ?v21x50) rfl (by kernel_rfl) (fun _ _ _ h => h) (by rfl) ?h21x50 (by assumption) ?r21x50
  case h21x50 => intro w' hSw; (try dsimp only [sbx] at hSw); go_simp; try with_reducible rfl
  try simp only [Act.put, ly1, ly2, ly3]
  refine wpAnyH_ready (rs := [8]) (by kernel_rfl) (by simp) ?_
  refine AllReadyH.cons (o := ⟨some 22, _, _, _, _, _⟩) rfl (fun K hK => ?_) AllReadyH.nil
  rw [if_pos (by rfl)]
  go_simp
  refine (Calls.mono (set_any B b mb m (ref.jt (m.regs q1.toNat) im) vX _ (HJt.out _ (by repeat' (first | with_reducible exact tR _ _ | with_reducible apply tD | with_reducible apply tN | assumption))) rd ((m.pc + 4) % 4294967296) rd0 rd1) ?_)
  rintro e w9 ⟨rfl, hat, hto⟩
  have HA : Hid (PAt B b mb (setReg m rd ((m.pc + 4) % 4294967296)) (ref.jt (m.regs q1.toNat) im) vX w9) := hat
  have t9 : ref.Touch [b] (bx w op rd q1 q2 im) w9 := ref.Touch.trans (ref.Touch.trans tj (ref.Touch.mono (S := []) (by repeat' (first | with_reducible exact tR _ _ | with_reducible apply tD | with_reducible apply tN | assumption)) (by simp))) hto
  have p9 : w9.cell? ⟨b, 33, none⟩ = some (.int .u32 m.pc) := set_pc hat
  have HT : Hid (ref.Touch [b] (bx w op rd q1 q2 im) w9) := t9
  clear hat hto
  refine hK.out _ _ (HSk.out _ t9 p9) (fun hHeld => ?_)
  clear hK K
  try simp only [Act.put, ly1, ly2, ly3]
  refine wpAnyH_done (by kernel_rfl) ?_ _
  go_wp2_with fail
  go_end0
  exact ⟨rfl, HA.out, (((ref.Touch.refl _ _).alloc _).trans HT.out).mono (by simp)⟩
set_option maxHeartbeats 400000 in
theorem br_no (B b mb : Nat) (m : M) (nx : Int) (vX : Nat → Value) (w : World) (h : PAt B b mb m nx vX w) (op rd q1 q2 im : Int) (rd0 : 0 ≤ rd) (rd1 : rd ≤ 31) (q10 : 0 ≤ q1) (q11 : q1 ≤ 31) (q20 : 0 ≤ q2) (q21 : q2 ≤ 31) (i0 : -2147483648 ≤ im) (i1 : im ≤ 2147483647) (hz : 0 < m.size) (hf : Fine m) :
    Calls Tryz.prog 129 #[.pointer (some ⟨b, 0, none⟩), .agg #[.int .i64 op, .int .i64 rd, .int .i64 q1, .int .i64 q2, .int .i32 im], .bool false] w fun e w' => e = .returned (.tuple #[]) ∧ PAt B b mb m nx vX w' ∧ ref.Touch [b, mb] w w' := by
  obtain ⟨lb, HH, HHt, HZ, HF, HSk, cpc, ra0, ra1, rb0, rb1, pc0, pc1, wi⟩ := pre_any B b mb m nx vX w h op rd q1 q2 im hz hf
  clear h
  clear hz hf
  go_enter Tryz.func129, Tryz.ntmps129
  go_wp2_with fail
  go_end0
  exact ⟨rfl, HH.out, (ref.Touch.refl _ _).alloc _⟩
set_option maxHeartbeats 400000 in
theorem br_n (B b mb : Nat) (m : M) (nx : Int) (vX : Nat → Value) (w : World) (h : PAt B b mb m nx vX w) (op rd q1 q2 im : Int) (rd0 : 0 ≤ rd) (rd1 : rd ≤ 31) (q10 : 0 ≤ q1) (q11 : q1 ≤ 31) (q20 : 0 ≤ q2) (q21 : q2 ≤ 31) (i0 : -2147483648 ≤ im) (i1 : im ≤ 2147483647) (hz : 0 < m.size) (hf : Fine m) (ht : ¬ ((m.pc + im) % 4294967296) % 4 = 0) :
    Calls Tryz.prog 129 #[.pointer (some ⟨b, 0, none⟩), .agg #[.int .i64 op, .int .i64 rd, .int .i64 q1, .int .i64 q2, .int .i32 im], .bool true] w fun e w' => e = .panicked (trapV 3) ∧ ref.Touch [] w w' := by
  obtain ⟨lb, HH, HHt, HZ, HF, HSk, cpc, ra0, ra1, rb0, rb1, pc0, pc1, wi⟩ := pre_any B b mb m nx vX w h op rd q1 q2 im hz hf
  clear h
  have wp : IntKind.u32.wrap (m.pc + im % 4294967296) = (m.pc + im) % 4294967296 := by rw [IntKind.wrap_u32]; omega
  clear hz hf
  go_enter Tryz.func129, Tryz.ntmps129
  go_wp2_with fail
  refine wp_region_held_drew (S := (sbx w b m op rd q1 q2 im)) (by kernel_rfl) (HSk.out _ (ref.Touch.refl _ _).drew cpc) (fun hHeld => ?_)
  refine tk (i := 0) (oi := ⟨some 7, _, _, _, _, _⟩) (v := ?v7x51) rfl (by kernel_rfl) (fun _ _ _ h => h) (by rfl) ?h7x51 (by assumption) ?r7x51
  case h7x51 => intro w' hSw; (try dsimp only [sbx] at hSw); go_simp; try with_reducible rfl
  try simp only [Act.put, ly1, ly2, ly3]
  refine tk (i := 1) (oi := ⟨some 8, _, _, _, _, _⟩) (v := ?v8x52) rfl (by kernel_rfl) (fun _ _ _ h => h) (by rfl) ?h8x52 (by assumption) ?r8x52
  case h8x52 => intro w' hSw; (try dsimp only [sbx] at hSw); go_simp; try with_reducible rfl
  try simp only [Act.put, ly1, ly2, ly3]
  refine tk (i := 2) (oi := ⟨some 9, _, _, _, _, _⟩) (v := ?v9x53) rfl (by kernel_rfl) (fun _ _ _ h => h) (by rfl) ?h9x53 (by assumption) ?r9x53
  case h9x53 => intro w' hSw; (try dsimp only [sbx] at hSw); go_simp; try with_reducible rfl
  try simp only [Act.put, ly1, ly2, ly3]
  refine tk (i := 3) (oi := ⟨some 10, _, _, _, _, _⟩) (v := ?v10x54) rfl (by kernel_rfl) (fun _ _ _ h => h) (by rfl) ?h10x54 (by assumption) ?r10x54
  case h10x54 => intro w' hSw; (try dsimp only [sbx] at hSw); go_simp; try with_reducible rfl
  try simp only [Act.put, ly1, ly2, ly3]
  refine tk (i := 4) (oi := ⟨some 11, _, _, _, _, _⟩) (v := ?v11x55) rfl (by kernel_rfl) (fun _ _ _ h => h) (by rfl) ?h11x55 (by assumption) ?r11x55
  case h11x55 => intro w' hSw; (try dsimp only [sbx] at hSw); go_simp; try with_reducible rfl
  try simp only [Act.put, ly1, ly2, ly3]
  refine tk (i := 5) (oi := ⟨some 12, _, _, _, _, _⟩) (v := ?v12x56) rfl (by kernel_rfl) (fun _ _ _ h => h) (by rfl) ?h12x56 (by assumption) ?r12x56
  case h12x56 => intro w' hSw; (try dsimp only [sbx] at hSw); go_simp; try with_reducible rfl
  try simp only [Act.put, ly1, ly2, ly3]
  refine tk (i := 6) (oi := ⟨some 13, _, _, _, _, _⟩) (v := ?v13x57) rfl (by kernel_rfl) (fun _ _ _ h => h) (by rfl) ?h13x57 (by assumption) ?r13x57
  case h13x57 => intro w' hSw; (try dsimp only [sbx] at hSw); go_simp; try with_reducible rfl
  try simp only [Act.put, ly1, ly2, ly3]
  refine tk (i := 7) (oi := ⟨some 14, _, _, _, _, _⟩) (v := ?v14x58) rfl (by kernel_rfl) (fun _ _ _ h => h) (by rfl) ?h14x58 (by assumption) ?r14x58
  case h14x58 => intro w' hSw; (try dsimp only [sbx] at hSw); go_simp; try with_reducible rfl
  try simp only [Act.put, ly1, ly2, ly3]
  refine tk (i := 8) (oi := ⟨some 15, _, _, _, _, _⟩) (v := ?v15x59) rfl (by kernel_rfl) (fun _ _ _ h => h) (by rfl) ?h15x59 (by assumption) ?r15x59
  case h15x59 => intro w' hSw; (try dsimp only [sbx] at hSw); go_simp; try with_reducible rfl
  try simp only [Act.put, ly1, ly2, ly3]
  refine wpAnyH_ready (rs := [9]) (by kernel_rfl) (by simp) ?_
  refine AllReadyH.cons (o := ⟨some 16, _, _, _, _, _⟩) rfl (fun K hK => ?_) AllReadyH.nil
  rw [if_pos (by rfl)]
  go_simp
  refine (Calls.mono (jump_n b ((m.pc + im) % 4294967296) (by omega) (by omega) ht _) ?_)
  rintro e w9 ⟨rfl, hw9⟩
  subst w9
  exact ⟨rfl, rfl, (by repeat' (first | with_reducible exact ref.Touch.refl _ _ | with_reducible apply ref.Touch.drew | with_reducible apply ref.Touch.drewN | with_reducible apply ref.Touch.alloc | assumption | exact ref.Touch.trans ((ref.Touch.refl [] _).alloc _) (by assumption)))⟩
set_option maxHeartbeats 400000 in
theorem br_y (B b mb : Nat) (m : M) (nx : Int) (vX : Nat → Value) (w : World) (h : PAt B b mb m nx vX w) (op rd q1 q2 im : Int) (rd0 : 0 ≤ rd) (rd1 : rd ≤ 31) (q10 : 0 ≤ q1) (q11 : q1 ≤ 31) (q20 : 0 ≤ q2) (q21 : q2 ≤ 31) (i0 : -2147483648 ≤ im) (i1 : im ≤ 2147483647) (hz : 0 < m.size) (hf : Fine m) (ht : ((m.pc + im) % 4294967296) % 4 = 0) :
    Calls Tryz.prog 129 #[.pointer (some ⟨b, 0, none⟩), .agg #[.int .i64 op, .int .i64 rd, .int .i64 q1, .int .i64 q2, .int .i32 im], .bool true] w fun e w' => e = .returned (.tuple #[]) ∧ PAt B b mb m ((m.pc + im) % 4294967296) vX w' ∧ ref.Touch [b, mb] w w' := by
  obtain ⟨lb, HH, HHt, HZ, HF, HSk, cpc, ra0, ra1, rb0, rb1, pc0, pc1, wi⟩ := pre_any B b mb m nx vX w h op rd q1 q2 im hz hf
  clear h
  have wp : IntKind.u32.wrap (m.pc + im % 4294967296) = (m.pc + im) % 4294967296 := by rw [IntKind.wrap_u32]; omega
  clear hz hf
  go_enter Tryz.func129, Tryz.ntmps129
  go_wp2_with fail
  refine wp_region_held_drew (S := (sbx w b m op rd q1 q2 im)) (by kernel_rfl) (HSk.out _ (ref.Touch.refl _ _).drew cpc) (fun hHeld => ?_)
  refine tk (i := 0) (oi := ⟨some 7, _, _, _, _, _⟩) (v := ?v7x60) rfl (by kernel_rfl) (fun _ _ _ h => h) (by rfl) ?h7x60 (by assumption) ?r7x60
  case h7x60 => intro w' hSw; (try dsimp only [sbx] at hSw); go_simp; try with_reducible rfl
  try simp only [Act.put, ly1, ly2, ly3]
  refine tk (i := 1) (oi := ⟨some 8, _, _, _, _, _⟩) (v := ?v8x61) rfl (by kernel_rfl) (fun _ _ _ h => h) (by rfl) ?h8x61 (by assumption) ?r8x61
  case h8x61 => intro w' hSw; (try dsimp only [sbx] at hSw); go_simp; try with_reducible rfl
  try simp only [Act.put, ly1, ly2, ly3]
  refine tk (i := 2) (oi := ⟨some 9, _, _, _, _, _⟩) (v := ?v9x62) rfl (by kernel_rfl) (fun _ _ _ h => h) (by rfl) ?h9x62 (by assumption) ?r9x62
  case h9x62 => intro w' hSw; (try dsimp only [sbx] at hSw); go_simp; try with_reducible rfl
  try simp only [Act.put, ly1, ly2, ly3]
  refine tk (i := 3) (oi := ⟨some 10, _, _, _, _, _⟩) (v := ?v10x63) rfl (by kernel_rfl) (fun _ _ _ h => h) (by rfl) ?h10x63 (by assumption) ?r10x63
  case h10x63 => intro w' hSw; (try dsimp only [sbx] at hSw); go_simp; try with_reducible rfl
  try simp only [Act.put, ly1, ly2, ly3]
  refine tk (i := 4) (oi := ⟨some 11, _, _, _, _, _⟩) (v := ?v11x64) rfl (by kernel_rfl) (fun _ _ _ h => h) (by rfl) ?h11x64 (by assumption) ?r11x64
  case h11x64 => intro w' hSw; (try dsimp only [sbx] at hSw); go_simp; try with_reducible rfl
  try simp only [Act.put, ly1, ly2, ly3]
  refine tk (i := 5) (oi := ⟨some 12, _, _, _, _, _⟩) (v := ?v12x65) rfl (by kernel_rfl) (fun _ _ _ h => h) (by rfl) ?h12x65 (by assumption) ?r12x65
  case h12x65 => intro w' hSw; (try dsimp only [sbx] at hSw); go_simp; try with_reducible rfl
  try simp only [Act.put, ly1, ly2, ly3]
  refine tk (i := 6) (oi := ⟨some 13, _, _, _, _, _⟩) (v := ?v13x66) rfl (by kernel_rfl) (fun _ _ _ h => h) (by rfl) ?h13x66 (by assumption) ?r13x66
  case h13x66 => intro w' hSw; (try dsimp only [sbx] at hSw); go_simp; try with_reducible rfl
  try simp only [Act.put, ly1, ly2, ly3]
  refine tk (i := 7) (oi := ⟨some 14, _, _, _, _, _⟩) (v := ?v14x67) rfl (by kernel_rfl) (fun _ _ _ h => h) (by rfl) ?h14x67 (by assumption) ?r14x67
  case h14x67 => intro w' hSw; (try dsimp only [sbx] at hSw); go_simp; try with_reducible rfl
  try simp only [Act.put, ly1, ly2, ly3]
  refine tk (i := 8) (oi := ⟨some 15, _, _, _, _, _⟩) (v := ?v15x68) rfl (by kernel_rfl) (fun _ _ _ h => h) (by rfl) ?h15x68 (by assumption) ?r15x68
  case h15x68 => intro w' hSw; (try dsimp only [sbx] at hSw); go_simp; try with_reducible rfl
  try simp only [Act.put, ly1, ly2, ly3]
  refine wpAnyH_ready (rs := [9]) (by kernel_rfl) (by simp) ?_
  refine AllReadyH.cons (o := ⟨some 16, _, _, _, _, _⟩) rfl (fun K hK => ?_) AllReadyH.nil
  rw [if_pos (by rfl)]
  go_simp
  refine (Calls.mono (jump_y B b mb m nx vX _ (HHt.out _ (by repeat' (first | with_reducible exact tR _ _ | with_reducible apply tD | with_reducible apply tN | assumption))) ((m.pc + im) % 4294967296) (by omega) (by omega) ht) ?_)
  rintro e wj ⟨rfl, hat, hto⟩
  have HJ : Hid (PAt B b mb m ((m.pc + im) % 4294967296) vX wj) := hat
  have tj : ref.Touch [b] (bx w op rd q1 q2 im) wj := ref.Touch.trans (ref.Touch.mono (S := []) (by repeat' (first | with_reducible exact tR _ _ | with_reducible apply tD | with_reducible apply tN | assumption)) (by simp)) hto
  have pj : wj.cell? ⟨b, 33, none⟩ = some (.int .u32 m.pc) := hat.cells 33 (by decide) (by decide)
  have HJt : Hid (∀ w', ref.Touch [] wj w' → PAt B b mb m ((m.pc + im) % 4294967296) vX w') := fun w' t => HJ.out.other t (by simp) (by simp) HZ.out
  clear hat hto
  refine hK.out _ _ (HSk.out _ tj pj) (fun hHeld => ?_)
  clear hK K
  try simp only [Act.put, ly1, ly2, ly3]
  refine wpAnyH_done (by kernel_rfl) ?_ _
  go_wp2_with fail
  go_end0
  exact ⟨rfl, HJ.out, (((ref.Touch.refl _ _).alloc _).trans tj).mono (by simp)⟩
set_option maxHeartbeats 400000 in
theorem less_any (B b mb : Nat) (m : M) (nx : Int) (vX : Nat → Value) (w : World) (h : PAt B b mb m nx vX w) (op rd q1 q2 im : Int) (rd0 : 0 ≤ rd) (rd1 : rd ≤ 31) (q10 : 0 ≤ q1) (q11 : q1 ≤ 31) (q20 : 0 ≤ q2) (q21 : q2 ≤ 31) (i0 : -2147483648 ≤ im) (i1 : im ≤ 2147483647) (hz : 0 < m.size) (hf : Fine m) :
    Calls Tryz.prog 131 #[.pointer (some ⟨b, 0, none⟩), .agg #[.int .i64 op, .int .i64 rd, .int .i64 q1, .int .i64 q2, .int .i32 im]] w fun e w' => e = .returned (.bool (decide (wrap32 (m.regs q1.toNat) < wrap32 (m.regs q2.toNat)))) ∧ ref.Touch [] w w' := by
  obtain ⟨lb, HH, HHt, HZ, HF, HSk, cpc, ra0, ra1, rb0, rb1, pc0, pc1, wi⟩ := pre_any B b mb m nx vX w h op rd q1 q2 im hz hf
  clear h
  have ws1 : IntKind.i32.wrap (m.regs q1.toNat) = wrap32 (m.regs q1.toNat) := by simp [wrap32, IntKind.wrap_i32]
  have ws2 : IntKind.i32.wrap (m.regs q2.toNat) = wrap32 (m.regs q2.toNat) := by simp [wrap32, IntKind.wrap_i32]
  clear hz hf
  go_enter Tryz.func131, Tryz.ntmps131
  go_wp2_with fail
  refine wp_region_held_drew (S := (sbx w b m op rd q1 q2 im)) (by kernel_rfl) (HSk.out _ (ref.Touch.refl _ _).drew cpc) (fun hHeld => ?_)
  refine tk (i := 0) (oi := ⟨some 5, _, _, _, _, _⟩) (v := ?v5x69) rfl (by kernel_rfl) (fun _ _ _ h => h) (by rfl) ?h5x69 (by assumption) ?r5x69
  case h5x69 => intro w' hSw; (try dsimp only [sbx] at hSw); go_simp; try with_reducible rfl
  try simp only [Act.put, ly1, ly2, ly3]
  refine tk (i := 1) (oi := ⟨some 6, _, _, _, _, _⟩) (v := ?v6x70) rfl (by kernel_rfl) (fun _ _ _ h => h) (by rfl) ?h6x70 (by assumption) ?r6x70
  case h6x70 => intro w' hSw; (try dsimp only [sbx] at hSw); go_simp; try with_reducible rfl
  try simp only [Act.put, ly1, ly2, ly3]
  refine tk (i := 4) (oi := ⟨some 9, _, _, _, _, _⟩) (v := ?v9x71) rfl (by kernel_rfl) (fun _ _ _ h => h) (by rfl) ?h9x71 (by assumption) ?r9x71
  case h9x71 => intro w' hSw; (try dsimp only [sbx] at hSw); go_simp; try with_reducible rfl
  try simp only [Act.put, ly1, ly2, ly3]
  refine tk (i := 5) (oi := ⟨some 10, _, _, _, _, _⟩) (v := ?v10x72) rfl (by kernel_rfl) (fun _ _ _ h => h) (by rfl) ?h10x72 (by assumption) ?r10x72
  case h10x72 => intro w' hSw; (try dsimp only [sbx] at hSw); go_simp; try with_reducible rfl
  try simp only [Act.put, ly1, ly2, ly3]
  refine wpAnyH_ready (rs := [2]) (by kernel_rfl) (by simp) ?_
  refine AllReadyH.cons (o := ⟨some 7, _, _, _, _, _⟩) rfl (fun K hK => ?_) AllReadyH.nil
  rw [if_pos (by rfl)]
  go_simp
  refine (Calls.mono (first_any B b mb m nx vX _ (HHt.out _ (by repeat' (first | with_reducible exact tR _ _ | with_reducible apply tD | with_reducible apply tN | assumption))) op rd q1 q2 im rd0 rd1 q10 q11 q20 q21 i0 i1 HZ.out) ?_)
  rintro e w1 ⟨rfl, ht'⟩
  have t1 : ref.Touch [] (bx w op rd q1 q2 im) w1 := ref.Touch.trans (by repeat' (first | with_reducible exact tR _ _ | with_reducible apply tD | with_reducible apply tN | assumption)) ht'
  have p1 : w1.cell? ⟨b, 33, none⟩ = some (.int .u32 m.pc) := (HHt.out _ t1).cells 33 (by decide) (by decide)
  clear ht'
  refine hK.out _ _ (HSk.out _ (t1.mono (by simp)) p1) (fun hHeld => ?_)
  clear hK K
  try simp only [Act.put, ly1, ly2, ly3]
  refine tk (i := 3) (oi := ⟨some 8, _, _, _, _, _⟩) (v := ?v8x73) rfl (by kernel_rfl) (fun _ _ _ h => h) (by rfl) ?h8x73 (by assumption) ?r8x73
  case h8x73 => intro w' hSw; (try dsimp only [sbx] at hSw); go_simp; try with_reducible rfl
  try simp only [Act.put, ly1, ly2, ly3]
  refine wpAnyH_ready (rs := [6]) (by kernel_rfl) (by simp) ?_
  refine AllReadyH.cons (o := ⟨some 11, _, _, _, _, _⟩) rfl (fun K hK => ?_) AllReadyH.nil
  rw [if_pos (by rfl)]
  go_simp
  refine (Calls.mono (second_any B b mb m nx vX _ (HHt.out _ (by repeat' (first | with_reducible exact tR _ _ | with_reducible apply tD | with_reducible apply tN | assumption))) op rd q1 q2 im rd0 rd1 q10 q11 q20 q21 i0 i1 HZ.out) ?_)
  rintro e w2 ⟨rfl, ht'⟩
  have t2 : ref.Touch [] (bx w op rd q1 q2 im) w2 := ref.Touch.trans (by repeat' (first | with_reducible exact tR _ _ | with_reducible apply tD | with_reducible apply tN | assumption)) ht'
  have p2 : w2.cell? ⟨b, 33, none⟩ = some (.int .u32 m.pc) := (HHt.out _ t2).cells 33 (by decide) (by decide)
  clear ht'
  refine hK.out _ _ (HSk.out _ (t2.mono (by simp)) p2) (fun hHeld => ?_)
  clear hK K
  try simp only [Act.put, ly1, ly2, ly3]
  refine tk (i := 7) (oi := ⟨some 12, _, _, _, _, _⟩) (v := ?v12x74) rfl (by kernel_rfl) (fun _ _ _ h => h) (by rfl) ?h12x74 (by assumption) ?r12x74
  case h12x74 => intro w' hSw; (try dsimp only [sbx] at hSw); go_simp; try with_reducible rfl
  try simp only [Act.put, ly1, ly2, ly3]
  refine tk (i := 8) (oi := ⟨some 13, _, _, _, _, _⟩) (v := ?v13x75) rfl (by kernel_rfl) (fun _ _ _ h => h) (by rfl) ?h13x75 (by assumption) ?r13x75
  case h13x75 => intro w' hSw; (try dsimp only [sbx] at hSw); go_simp; try with_reducible rfl
  try simp only [Act.put, ly1, ly2, ly3]
  refine tk (i := 9) (oi := ⟨some 4, _, _, _, _, _⟩) (v := ?v4x76) rfl (by kernel_rfl) (fun _ _ _ h => h) (by rfl) ?h4x76 (by assumption) ?r4x76
  case h4x76 => intro w' hSw; (try dsimp only [sbx] at hSw); go_simp; try with_reducible rfl
  try simp only [Act.put, ly1, ly2, ly3]
  refine wpAnyH_done (by kernel_rfl) ?_ _
  go_wp2_with fail
  go_ret
  exact ⟨rfl, ((ref.Touch.refl _ _).alloc _).trans t2⟩
set_option maxHeartbeats 400000 in
theorem lessUnsigned_any (B b mb : Nat) (m : M) (nx : Int) (vX : Nat → Value) (w : World) (h : PAt B b mb m nx vX w) (op rd q1 q2 im : Int) (rd0 : 0 ≤ rd) (rd1 : rd ≤ 31) (q10 : 0 ≤ q1) (q11 : q1 ≤ 31) (q20 : 0 ≤ q2) (q21 : q2 ≤ 31) (i0 : -2147483648 ≤ im) (i1 : im ≤ 2147483647) (hz : 0 < m.size) (hf : Fine m) :
    Calls Tryz.prog 132 #[.pointer (some ⟨b, 0, none⟩), .agg #[.int .i64 op, .int .i64 rd, .int .i64 q1, .int .i64 q2, .int .i32 im]] w fun e w' => e = .returned (.bool (decide (m.regs q1.toNat < m.regs q2.toNat))) ∧ ref.Touch [] w w' := by
  obtain ⟨lb, HH, HHt, HZ, HF, HSk, cpc, ra0, ra1, rb0, rb1, pc0, pc1, wi⟩ := pre_any B b mb m nx vX w h op rd q1 q2 im hz hf
  clear h
  clear hz hf
  go_enter Tryz.func132, Tryz.ntmps132
  go_wp2_with fail
  refine wp_region_held_drew (S := (sbx w b m op rd q1 q2 im)) (by kernel_rfl) (HSk.out _ (ref.Touch.refl _ _).drew cpc) (fun hHeld => ?_)
  refine tk (i := 0) (oi := ⟨some 5, _, _, _, _, _⟩) (v := ?v5x77) rfl (by kernel_rfl) (fun _ _ _ h => h) (by rfl) ?h5x77 (by assumption) ?r5x77
  case h5x77 => intro w' hSw; (try dsimp only [sbx] at hSw); go_simp; try with_reducible rfl
  try simp only [Act.put, ly1, ly2, ly3]
  refine tk (i := 1) (oi := ⟨some 6, _, _, _, _, _⟩) (v := ?v6x78) rfl (by kernel_rfl) (fun _ _ _ h => h) (by rfl) ?h6x78 (by assumption) ?r6x78
  case h6x78 => intro w' hSw; (try dsimp only [sbx] at hSw); go_simp; try with_reducible rfl
  try simp only [Act.put, ly1, ly2, ly3]
  refine tk (i := 3) (oi := ⟨some 8, _, _, _, _, _⟩) (v := ?v8x79) rfl (by kernel_rfl) (fun _ _ _ h => h) (by rfl) ?h8x79 (by assumption) ?r8x79
  case h8x79 => intro w' hSw; (try dsimp only [sbx] at hSw); go_simp; try with_reducible rfl
  try simp only [Act.put, ly1, ly2, ly3]
  refine tk (i := 4) (oi := ⟨some 9, _, _, _, _, _⟩) (v := ?v9x80) rfl (by kernel_rfl) (fun _ _ _ h => h) (by rfl) ?h9x80 (by assumption) ?r9x80
  case h9x80 => intro w' hSw; (try dsimp only [sbx] at hSw); go_simp; try with_reducible rfl
  try simp only [Act.put, ly1, ly2, ly3]
  refine wpAnyH_ready (rs := [2]) (by kernel_rfl) (by simp) ?_
  refine AllReadyH.cons (o := ⟨some 7, _, _, _, _, _⟩) rfl (fun K hK => ?_) AllReadyH.nil
  rw [if_pos (by rfl)]
  go_simp
  refine (Calls.mono (first_any B b mb m nx vX _ (HHt.out _ (by repeat' (first | with_reducible exact tR _ _ | with_reducible apply tD | with_reducible apply tN | assumption))) op rd q1 q2 im rd0 rd1 q10 q11 q20 q21 i0 i1 HZ.out) ?_)
  rintro e w1 ⟨rfl, ht'⟩
  have t1 : ref.Touch [] (bx w op rd q1 q2 im) w1 := ref.Touch.trans (by repeat' (first | with_reducible exact tR _ _ | with_reducible apply tD | with_reducible apply tN | assumption)) ht'
  have p1 : w1.cell? ⟨b, 33, none⟩ = some (.int .u32 m.pc) := (HHt.out _ t1).cells 33 (by decide) (by decide)
  clear ht'
  refine hK.out _ _ (HSk.out _ (t1.mono (by simp)) p1) (fun hHeld => ?_)
  clear hK K
  try simp only [Act.put, ly1, ly2, ly3]
  refine wpAnyH_ready (rs := [5]) (by kernel_rfl) (by simp) ?_
  refine AllReadyH.cons (o := ⟨some 10, _, _, _, _, _⟩) rfl (fun K hK => ?_) AllReadyH.nil
  rw [if_pos (by rfl)]
  go_simp
  refine (Calls.mono (second_any B b mb m nx vX _ (HHt.out _ (by repeat' (first | with_reducible exact tR _ _ | with_reducible apply tD | with_reducible apply tN | assumption))) op rd q1 q2 im rd0 rd1 q10 q11 q20 q21 i0 i1 HZ.out) ?_)
  rintro e w2 ⟨rfl, ht'⟩
  have t2 : ref.Touch [] (bx w op rd q1 q2 im) w2 := ref.Touch.trans (by repeat' (first | with_reducible exact tR _ _ | with_reducible apply tD | with_reducible apply tN | assumption)) ht'
  have p2 : w2.cell? ⟨b, 33, none⟩ = some (.int .u32 m.pc) := (HHt.out _ t2).cells 33 (by decide) (by decide)
  clear ht'
  refine hK.out _ _ (HSk.out _ (t2.mono (by simp)) p2) (fun hHeld => ?_)
  clear hK K
  try simp only [Act.put, ly1, ly2, ly3]
  refine tk (i := 6) (oi := ⟨some 11, _, _, _, _, _⟩) (v := ?v11x81) rfl (by kernel_rfl) (fun _ _ _ h => h) (by rfl) ?h11x81 (by assumption) ?r11x81
  case h11x81 => intro w' hSw; (try dsimp only [sbx] at hSw); go_simp; try with_reducible rfl
  try simp only [Act.put, ly1, ly2, ly3]
  refine tk (i := 7) (oi := ⟨some 4, _, _, _, _, _⟩) (v := ?v4x82) rfl (by kernel_rfl) (fun _ _ _ h => h) (by rfl) ?h4x82 (by assumption) ?r4x82
  case h4x82 => intro w' hSw; (try dsimp only [sbx] at hSw); go_simp; try with_reducible rfl
  try simp only [Act.put, ly1, ly2, ly3]
  refine wpAnyH_done (by kernel_rfl) ?_ _
  go_wp2_with fail
  go_ret
  exact ⟨rfl, ((ref.Touch.refl _ _).alloc _).trans t2⟩
end Go.Proofs.YtmogjicompmkkaaGreatDoor.prog

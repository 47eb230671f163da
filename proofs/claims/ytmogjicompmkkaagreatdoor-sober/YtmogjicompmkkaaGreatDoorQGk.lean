import Derived.Test.YtmogjicompmkkaaGreatDoorQPrF
namespace Go.Proofs.YtmogjicompmkkaaGreatDoor.prog
open Go.ChangeShapes Go.WideShapes Go.ChangeAt Go.RowKit Go.Proofs.YtmogjicompmkkaaGreatDoor.nums Go.Proofs.YtmogjicompmkkaaGreatDoor.dnums Go.Proofs.YtmogjicompmkkaaGreatDoor.mach

set_option linter.unusedVariables false
set_option linter.unusedSimpArgs false
set_option maxRecDepth 10000
attribute [local go_sem ↓] Go.wp_at_zero Go.wp_at_succ
set_option maxHeartbeats 400000 in
theorem loadByte_fa (B b mb : Nat) (m : M) (nx : Int) (vX : Nat → Value) (w : World) (h : PAt B b mb m nx vX w) (op rd q1 q2 im : Int) (rd0 : 0 ≤ rd) (rd1 : rd ≤ 31) (q10 : 0 ≤ q1) (q11 : q1 ≤ 31) (q20 : 0 ≤ q2) (q21 : q2 ≤ 31) (i0 : -2147483648 ≤ im) (i1 : im ≤ 2147483647) (hz : 0 < m.size) (hf : Fine m) (k : Nat) (hk : ((m.regs q1.toNat + im) % 4294967296) = k) (hl : lies m k 1 = false) :
    Calls Tryz.prog 113 #[.pointer (some ⟨b, 0, none⟩), .agg #[.int .i64 op, .int .i64 rd, .int .i64 q1, .int .i64 q2, .int .i32 im]] w fun e w' => e = .panicked (trapV 6) ∧ ref.Touch [] w w' := by
  obtain ⟨lb, HH, HHt, HZ, HF, HSk, cpc, ra0, ra1, rb0, rb1, pc0, pc1, wi⟩ := pre_any B b mb m nx vX w h op rd q1 q2 im hz hf
  clear h
  clear hz hf
  go_enter Tryz.func113, Tryz.ntmps113
  go_wp2_with fail
  refine wp_region_held_drew (S := (sbx w b m op rd q1 q2 im)) (by kernel_rfl) (HSk.out _ (ref.Touch.refl _ _).drew cpc) (fun hHeld => ?_)
  refine tk (i := 0) (oi := ⟨some 4, _, _, _, _, _⟩) (v := ?v4x221) rfl (by kernel_rfl) (fun _ _ _ h => h) (by rfl) ?h4x221 (by assumption) ?r4x221
  case h4x221 => intro w' hSw; (try dsimp only [sbx] at hSw); go_simp; try with_reducible rfl
  try simp only [Act.put, ly1, ly2, ly3]
  refine tk (i := 1) (oi := ⟨some 5, _, _, _, _, _⟩) (v := ?v5x222) rfl (by kernel_rfl) (fun _ _ _ h => h) (by rfl) ?h5x222 (by assumption) ?r5x222
  case h5x222 => intro w' hSw; (try dsimp only [sbx] at hSw); go_simp; try with_reducible rfl
  try simp only [Act.put, ly1, ly2, ly3]
  refine tk (i := 2) (oi := ⟨some 6, _, _, _, _, _⟩) (v := ?v6x223) rfl (by kernel_rfl) (fun _ _ _ h => h) (by rfl) ?h6x223 (by assumption) ?r6x223
  case h6x223 => intro w' hSw; (try dsimp only [sbx] at hSw); go_simp; try with_reducible rfl
  try simp only [Act.put, ly1, ly2, ly3]
  refine tk (i := 3) (oi := ⟨some 7, _, _, _, _, _⟩) (v := ?v7x224) rfl (by kernel_rfl) (fun _ _ _ h => h) (by rfl) ?h7x224 (by assumption) ?r7x224
  case h7x224 => intro w' hSw; (try dsimp only [sbx] at hSw); go_simp; try with_reducible rfl
  try simp only [Act.put, ly1, ly2, ly3]
  refine tk (i := 4) (oi := ⟨some 8, _, _, _, _, _⟩) (v := ?v8x225) rfl (by kernel_rfl) (fun _ _ _ h => h) (by rfl) ?h8x225 (by assumption) ?r8x225
  case h8x225 => intro w' hSw; (try dsimp only [sbx] at hSw); go_simp; try with_reducible rfl
  try simp only [Act.put, ly1, ly2, ly3]
  refine wpAnyH_ready (rs := [5]) (by kernel_rfl) (by simp) ?_
  refine AllReadyH.cons (o := ⟨some 9, _, _, _, _, _⟩) rfl (fun K hK => ?_) AllReadyH.nil
  rw [if_pos (by rfl)]
  go_simp
  refine (Calls.mono (load1_fa B b mb m nx vX _ (HHt.out _ (by repeat' (first | with_reducible exact tR _ _ | with_reducible apply tD | with_reducible apply tN | assumption))) op rd q1 q2 im rd0 rd1 q10 q11 q20 q21 i0 i1 HZ.out HF.out k hk hl) ?_)
  rintro e w9 ⟨rfl, ht9⟩
  exact ⟨rfl, rfl, ref.Touch.trans (by repeat' (first | with_reducible exact ref.Touch.refl _ _ | with_reducible apply ref.Touch.drew | with_reducible apply ref.Touch.drewN | with_reducible apply ref.Touch.alloc | assumption | exact ref.Touch.trans ((ref.Touch.refl [] _).alloc _) (by assumption))) ht9⟩
set_option maxHeartbeats 400000 in
theorem loadByte_ok (B b mb : Nat) (m : M) (nx : Int) (vX : Nat → Value) (w : World) (h : PAt B b mb m nx vX w) (op rd q1 q2 im : Int) (rd0 : 0 ≤ rd) (rd1 : rd ≤ 31) (q10 : 0 ≤ q1) (q11 : q1 ≤ 31) (q20 : 0 ≤ q2) (q21 : q2 ≤ 31) (i0 : -2147483648 ≤ im) (i1 : im ≤ 2147483647) (hz : 0 < m.size) (hf : Fine m) (k : Nat) (hk : ((m.regs q1.toNat + im) % 4294967296) = k) (hl : lies m k 1 = true) :
    Calls Tryz.prog 113 #[.pointer (some ⟨b, 0, none⟩), .agg #[.int .i64 op, .int .i64 rd, .int .i64 q1, .int .i64 q2, .int .i32 im]] w fun e w' => e = .returned (.tuple #[]) ∧ PAt B b mb (setReg m rd (sext (ld m.mem k 1) 1)) nx vX w' ∧ ref.Touch [b, mb] w w' := by
  obtain ⟨lb, HH, HHt, HZ, HF, HSk, cpc, ra0, ra1, rb0, rb1, pc0, pc1, wi⟩ := pre_any B b mb m nx vX w h op rd q1 q2 im hz hf
  clear h
  have lb0 := (ld_bd m.mem hf.mem k 1).1
  have lb1 := (ld_bd m.mem hf.mem k 1).2
  have wl : IntKind.u32.wrap (IntKind.i8.wrap (ld m.mem k 1)) = sext (ld m.mem k 1) 1 := by
    rw [ref.sext_1 _ (ld_bd m.mem hf.mem k 1), IntKind.wrap_u32]
    simp at lb1
    unfold ref.sx8
    by_cases z : 128 ≤ ld m.mem k 1
    · rw [if_pos z]; simp [IntKind.wrap, IntKind.bits, IntKind.signed]; omega
    · rw [if_neg z]; simp [IntKind.wrap, IntKind.bits, IntKind.signed]; omega
  clear hz hf
  go_enter Tryz.func113, Tryz.ntmps113
  go_wp2_with fail
  refine wp_region_held_drew (S := (sbx w b m op rd q1 q2 im)) (by kernel_rfl) (HSk.out _ (ref.Touch.refl _ _).drew cpc) (fun hHeld => ?_)
  refine tk (i := 0) (oi := ⟨some 4, _, _, _, _, _⟩) (v := ?v4x226) rfl (by kernel_rfl) (fun _ _ _ h => h) (by rfl) ?h4x226 (by assumption) ?r4x226
  case h4x226 => intro w' hSw; (try dsimp only [sbx] at hSw); go_simp; try with_reducible rfl
  try simp only [Act.put, ly1, ly2, ly3]
  refine tk (i := 1) (oi := ⟨some 5, _, _, _, _, _⟩) (v := ?v5x227) rfl (by kernel_rfl) (fun _ _ _ h => h) (by rfl) ?h5x227 (by assumption) ?r5x227
  case h5x227 => intro w' hSw; (try dsimp only [sbx] at hSw); go_simp; try with_reducible rfl
  try simp only [Act.put, ly1, ly2, ly3]
  refine tk (i := 2) (oi := ⟨some 6, _, _, _, _, _⟩) (v := ?v6x228) rfl (by kernel_rfl) (fun _ _ _ h => h) (by rfl) ?h6x228 (by assumption) ?r6x228
  case h6x228 => intro w' hSw; (try dsimp only [sbx] at hSw); go_simp; try with_reducible rfl
  try simp only [Act.put, ly1, ly2, ly3]
  refine tk (i := 3) (oi := ⟨some 7, _, _, _, _, _⟩) (v := ?v7x229) rfl (by kernel_rfl) (fun _ _ _ h => h) (by rfl) ?h7x229 (by assumption) ?r7x229
  case h7x229 => intro w' hSw; (try dsimp only [sbx] at hSw); go_simp; try with_reducible rfl
  try simp only [Act.put, ly1, ly2, ly3]
  refine tk (i := 4) (oi := ⟨some 8, _, _, _, _, _⟩) (v := ?v8x230) rfl (by kernel_rfl) (fun _ _ _ h => h) (by rfl) ?h8x230 (by assumption) ?r8x230
  case h8x230 => intro w' hSw; (try dsimp only [sbx] at hSw); go_simp; try with_reducible rfl
  try simp only [Act.put, ly1, ly2, ly3]
  refine wpAnyH_ready (rs := [5]) (by kernel_rfl) (by simp) ?_
  refine AllReadyH.cons (o := ⟨some 9, _, _, _, _, _⟩) rfl (fun K hK => ?_) AllReadyH.nil
  rw [if_pos (by rfl)]
  go_simp
  refine (Calls.mono (load1_ok B b mb m nx vX _ (HHt.out _ (by repeat' (first | with_reducible exact tR _ _ | with_reducible apply tD | with_reducible apply tN | assumption))) op rd q1 q2 im rd0 rd1 q10 q11 q20 q21 i0 i1 HZ.out HF.out k hk hl) ?_)
  rintro e w1 ⟨rfl, ht'⟩
  have t1 : ref.Touch [] (bx w op rd q1 q2 im) w1 := ref.Touch.trans (by repeat' (first | with_reducible exact tR _ _ | with_reducible apply tD | with_reducible apply tN | assumption)) ht'
  have p1 : w1.cell? ⟨b, 33, none⟩ = some (.int .u32 m.pc) := (HHt.out _ t1).cells 33 (by decide) (by decide)
  clear ht'
  refine hK.out _ _ (HSk.out _ (t1.mono (by simp)) p1) (fun hHeld => ?_)
  clear hK K
  try simp only [Act.put, ly1, ly2, ly3]
  refine tk (i := 6) (oi := ⟨some 10, _, _, _, _, _⟩) (v := ?v10x231) rfl (by kernel_rfl) (fun _ _ _ h => h) (by rfl) ?h10x231 (by assumption) ?r10x231
  case h10x231 => intro w' hSw; (try dsimp only [sbx] at hSw); go_simp; try with_reducible rfl
  try simp only [Act.put, ly1, ly2, ly3]
  refine tk (i := 7) (oi := ⟨some 11, _, _, _, _, _⟩) (v := ?v11x232) rfl (by kernel_rfl) (fun _ _ _ h => h) (by rfl) ?h11x232 (by assumption) ?r11x232
  case h11x232 => intro w' hSw; (try dsimp only [sbx] at hSw); go_simp; try with_reducible rfl
  try simp only [Act.put, ly1, ly2, ly3]
  refine wpAnyH_ready (rs := [8]) (by kernel_rfl) (by simp) ?_
  refine AllReadyH.cons (o := ⟨some 12, _, _, _, _, _⟩) rfl (fun K hK => ?_) AllReadyH.nil
  rw [if_pos (by rfl)]
  go_simp
  refine (Calls.mono (set_any B b mb m nx vX _ (HHt.out _ (by repeat' (first | with_reducible exact tR _ _ | with_reducible apply tD | with_reducible apply tN | assumption))) rd (sext (ld m.mem k 1) 1) rd0 rd1) ?_)
  rintro e w9 ⟨rfl, hat, hto⟩
  have HA : Hid (PAt B b mb (setReg m rd (sext (ld m.mem k 1) 1)) nx vX w9) := hat
  have t9 : ref.Touch [b] (bx w op rd q1 q2 im) w9 := ref.Touch.trans (ref.Touch.mono (S := []) (by repeat' (first | with_reducible exact tR _ _ | with_reducible apply tD | with_reducible apply tN | assumption)) (by simp)) hto
  have p9 : w9.cell? ⟨b, 33, none⟩ = some (.int .u32 m.pc) := set_pc hat
  have HT : Hid (ref.Touch [b] (bx w op rd q1 q2 im) w9) := t9
  clear hat hto
  refine hK.out _ _ (HSk.out _ t9 p9) (fun hHeld => ?_)
  clear hK K
  try simp only [Act.put, ly1, ly2, ly3]
  refine wpAnyH_done (by kernel_rfl) ?_ _
  go_wp2_with fail
  go_end0
  exact ⟨rfl, HA.out, (((ref.Touch.refl _ _).alloc _).trans HT.out).mono (by simp)⟩
set_option maxHeartbeats 400000 in
theorem loadHalf_al (B b mb : Nat) (m : M) (nx : Int) (vX : Nat → Value) (w : World) (h : PAt B b mb m nx vX w) (op rd q1 q2 im : Int) (rd0 : 0 ≤ rd) (rd1 : rd ≤ 31) (q10 : 0 ≤ q1) (q11 : q1 ≤ 31) (q20 : 0 ≤ q2) (q21 : q2 ≤ 31) (i0 : -2147483648 ≤ im) (i1 : im ≤ 2147483647) (hz : 0 < m.size) (hf : Fine m) (k : Nat) (hk : ((m.regs q1.toNat + im) % 4294967296) = k) (ha : ¬ (k : Int) % 2 = 0) :
    Calls Tryz.prog 114 #[.pointer (some ⟨b, 0, none⟩), .agg #[.int .i64 op, .int .i64 rd, .int .i64 q1, .int .i64 q2, .int .i32 im]] w fun e w' => e = .panicked (trapV 5) ∧ ref.Touch [] w w' := by
  obtain ⟨lb, HH, HHt, HZ, HF, HSk, cpc, ra0, ra1, rb0, rb1, pc0, pc1, wi⟩ := pre_any B b mb m nx vX w h op rd q1 q2 im hz hf
  clear h
  clear hz hf
  go_enter Tryz.func114, Tryz.ntmps114
  go_wp2_with fail
  refine wp_region_held_drew (S := (sbx w b m op rd q1 q2 im)) (by kernel_rfl) (HSk.out _ (ref.Touch.refl _ _).drew cpc) (fun hHeld => ?_)
  refine tk (i := 0) (oi := ⟨some 4, _, _, _, _, _⟩) (v := ?v4x233) rfl (by kernel_rfl) (fun _ _ _ h => h) (by rfl) ?h4x233 (by assumption) ?r4x233
  case h4x233 => intro w' hSw; (try dsimp only [sbx] at hSw); go_simp; try with_reducible rfl
  try simp only [Act.put, ly1, ly2, ly3]
  refine tk (i := 1) (oi := ⟨some 5, _, _, _, _, _⟩) (v := ?v5x234) rfl (by kernel_rfl) (fun _ _ _ h => h) (by rfl) ?h5x234 (by assumption) ?r5x234
  case h5x234 => intro w' hSw; (try dsimp only [sbx] at hSw); go_simp; try with_reducible rfl
  try simp only [Act.put, ly1, ly2, ly3]
  refine tk (i := 2) (oi := ⟨some 6, _, _, _, _, _⟩) (v := ?v6x235) rfl (by kernel_rfl) (fun _ _ _ h => h) (by rfl) ?h6x235 (by assumption) ?r6x235
  case h6x235 => intro w' hSw; (try dsimp only [sbx] at hSw); go_simp; try with_reducible rfl
  try simp only [Act.put, ly1, ly2, ly3]
  refine tk (i := 3) (oi := ⟨some 7, _, _, _, _, _⟩) (v := ?v7x236) rfl (by kernel_rfl) (fun _ _ _ h => h) (by rfl) ?h7x236 (by assumption) ?r7x236
  case h7x236 => intro w' hSw; (try dsimp only [sbx] at hSw); go_simp; try with_reducible rfl
  try simp only [Act.put, ly1, ly2, ly3]
  refine tk (i := 4) (oi := ⟨some 8, _, _, _, _, _⟩) (v := ?v8x237) rfl (by kernel_rfl) (fun _ _ _ h => h) (by rfl) ?h8x237 (by assumption) ?r8x237
  case h8x237 => intro w' hSw; (try dsimp only [sbx] at hSw); go_simp; try with_reducible rfl
  try simp only [Act.put, ly1, ly2, ly3]
  refine wpAnyH_ready (rs := [5]) (by kernel_rfl) (by simp) ?_
  refine AllReadyH.cons (o := ⟨some 9, _, _, _, _, _⟩) rfl (fun K hK => ?_) AllReadyH.nil
  rw [if_pos (by rfl)]
  go_simp
  refine (Calls.mono (load2_al B b mb m nx vX _ (HHt.out _ (by repeat' (first | with_reducible exact tR _ _ | with_reducible apply tD | with_reducible apply tN | assumption))) op rd q1 q2 im rd0 rd1 q10 q11 q20 q21 i0 i1 HZ.out HF.out k hk ha ) ?_)
  rintro e w9 ⟨rfl, ht9⟩
  exact ⟨rfl, rfl, ref.Touch.trans (by repeat' (first | with_reducible exact ref.Touch.refl _ _ | with_reducible apply ref.Touch.drew | with_reducible apply ref.Touch.drewN | with_reducible apply ref.Touch.alloc | assumption | exact ref.Touch.trans ((ref.Touch.refl [] _).alloc _) (by assumption))) ht9⟩
set_option maxHeartbeats 400000 in
theorem loadHalf_fa (B b mb : Nat) (m : M) (nx : Int) (vX : Nat → Value) (w : World) (h : PAt B b mb m nx vX w) (op rd q1 q2 im : Int) (rd0 : 0 ≤ rd) (rd1 : rd ≤ 31) (q10 : 0 ≤ q1) (q11 : q1 ≤ 31) (q20 : 0 ≤ q2) (q21 : q2 ≤ 31) (i0 : -2147483648 ≤ im) (i1 : im ≤ 2147483647) (hz : 0 < m.size) (hf : Fine m) (k : Nat) (hk : ((m.regs q1.toNat + im) % 4294967296) = k) (ha : (k : Int) % 2 = 0) (hl : lies m k 2 = false) :
    Calls Tryz.prog 114 #[.pointer (some ⟨b, 0, none⟩), .agg #[.int .i64 op, .int .i64 rd, .int .i64 q1, .int .i64 q2, .int .i32 im]] w fun e w' => e = .panicked (trapV 6) ∧ ref.Touch [] w w' := by
  obtain ⟨lb, HH, HHt, HZ, HF, HSk, cpc, ra0, ra1, rb0, rb1, pc0, pc1, wi⟩ := pre_any B b mb m nx vX w h op rd q1 q2 im hz hf
  clear h
  clear hz hf
  go_enter Tryz.func114, Tryz.ntmps114
  go_wp2_with fail
  refine wp_region_held_drew (S := (sbx w b m op rd q1 q2 im)) (by kernel_rfl) (HSk.out _ (ref.Touch.refl _ _).drew cpc) (fun hHeld => ?_)
  refine tk (i := 0) (oi := ⟨some 4, _, _, _, _, _⟩) (v := ?v4x238) rfl (by kernel_rfl) (fun _ _ _ h => h) (by rfl) ?h4x238 (by assumption) ?r4x238
  case h4x238 => intro w' hSw; (try dsimp only [sbx] at hSw); go_simp; try with_reducible rfl
  try simp only [Act.put, ly1, ly2, ly3]
  refine tk (i := 1) (oi := ⟨some 5, _, _, _, _, _⟩) (v := ?v5x239) rfl (by kernel_rfl) (fun _ _ _ h => h) (by rfl) ?h5x239 (by assumption) ?r5x239
  case h5x239 => intro w' hSw; (try dsimp only [sbx] at hSw); go_simp; try with_reducible rfl
  try simp only [Act.put, ly1, ly2, ly3]
  refine tk (i := 2) (oi := ⟨some 6, _, _, _, _, _⟩) (v := ?v6x240) rfl (by kernel_rfl) (fun _ _ _ h => h) (by rfl) ?h6x240 (by assumption) ?r6x240
  case h6x240 => intro w' hSw; (try dsimp only [sbx] at hSw); go_simp; try with_reducible rfl
  try simp only [Act.put, ly1, ly2, ly3]
  refine tk (i := 3) (oi := ⟨some 7, _, _, _, _, _⟩) (v := ?v7x241) rfl (by kernel_rfl) (fun _ _ _ h => h) (by rfl) ?h7x241 (by assumption) ?r7x241
  case h7x241 => intro w' hSw; (try dsimp only [sbx] at hSw); go_simp; try with_reducible rfl
  try simp only [Act.put, ly1, ly2, ly3]
  refine tk (i := 4) (oi := ⟨some 8, _, _, _, _, _⟩) (v := ?v8x242) rfl (by kernel_rfl) (fun _ _ _ h => h) (by rfl) ?h8x242 (by assumption) ?r8x242
  case h8x242 => intro w' hSw; (try dsimp only [sbx] at hSw); go_simp; try with_reducible rfl
  try simp only [Act.put, ly1, ly2, ly3]
  refine wpAnyH_ready (rs := [5]) (by kernel_rfl) (by simp) ?_
  refine AllReadyH.cons (o := ⟨some 9, _, _, _, _, _⟩) rfl (fun K hK => ?_) AllReadyH.nil
  rw [if_pos (by rfl)]
  go_simp
  refine (Calls.mono (load2_fa B b mb m nx vX _ (HHt.out _ (by repeat' (first | with_reducible exact tR _ _ | with_reducible apply tD | with_reducible apply tN | assumption))) op rd q1 q2 im rd0 rd1 q10 q11 q20 q21 i0 i1 HZ.out HF.out k hk ha hl) ?_)
  rintro e w9 ⟨rfl, ht9⟩
  exact ⟨rfl, rfl, ref.Touch.trans (by repeat' (first | with_reducible exact ref.Touch.refl _ _ | with_reducible apply ref.Touch.drew | with_reducible apply ref.Touch.drewN | with_reducible apply ref.Touch.alloc | assumption | exact ref.Touch.trans ((ref.Touch.refl [] _).alloc _) (by assumption))) ht9⟩
set_option maxHeartbeats 400000 in
theorem loadHalf_ok (B b mb : Nat) (m : M) (nx : Int) (vX : Nat → Value) (w : World) (h : PAt B b mb m nx vX w) (op rd q1 q2 im : Int) (rd0 : 0 ≤ rd) (rd1 : rd ≤ 31) (q10 : 0 ≤ q1) (q11 : q1 ≤ 31) (q20 : 0 ≤ q2) (q21 : q2 ≤ 31) (i0 : -2147483648 ≤ im) (i1 : im ≤ 2147483647) (hz : 0 < m.size) (hf : Fine m) (k : Nat) (hk : ((m.regs q1.toNat + im) % 4294967296) = k) (ha : (k : Int) % 2 = 0) (hl : lies m k 2 = true) :
    Calls Tryz.prog 114 #[.pointer (some ⟨b, 0, none⟩), .agg #[.int .i64 op, .int .i64 rd, .int .i64 q1, .int .i64 q2, .int .i32 im]] w fun e w' => e = .returned (.tuple #[]) ∧ PAt B b mb (setReg m rd (sext (ld m.mem k 2) 2)) nx vX w' ∧ ref.Touch [b, mb] w w' := by
  obtain ⟨lb, HH, HHt, HZ, HF, HSk, cpc, ra0, ra1, rb0, rb1, pc0, pc1, wi⟩ := pre_any B b mb m nx vX w h op rd q1 q2 im hz hf
  clear h
  have lb0 := (ld_bd m.mem hf.mem k 2).1
  have lb1 := (ld_bd m.mem hf.mem k 2).2
  have wl : IntKind.u32.wrap (IntKind.i16.wrap (ld m.mem k 2)) = sext (ld m.mem k 2) 2 := by
    rw [ref.sext_2 _ (ld_bd m.mem hf.mem k 2), IntKind.wrap_u32]
    simp at lb1
    unfold ref.sx16
    by_cases z : 32768 ≤ ld m.mem k 2
    · rw [if_pos z]; simp [IntKind.wrap, IntKind.bits, IntKind.signed]; omega
    · rw [if_neg z]; simp [IntKind.wrap, IntKind.bits, IntKind.signed]; omega
  clear hz hf
  go_enter Tryz.func114, Tryz.ntmps114
  go_wp2_with fail
  refine wp_region_held_drew (S := (sbx w b m op rd q1 q2 im)) (by kernel_rfl) (HSk.out _ (ref.Touch.refl _ _).drew cpc) (fun hHeld => ?_)
  refine tk (i := 0) (oi := ⟨some 4, _, _, _, _, _⟩) (v := ?v4x243) rfl (by kernel_rfl) (fun _ _ _ h => h) (by rfl) ?h4x243 (by assumption) ?r4x243
  case h4x243 => intro w' hSw; (try dsimp only [sbx] at hSw); go_simp; try with_reducible rfl
  try simp only [Act.put, ly1, ly2, ly3]
  refine tk (i := 1) (oi := ⟨some 5, _, _, _, _, _⟩) (v := ?v5x244) rfl (by kernel_rfl) (fun _ _ _ h => h) (by rfl) ?h5x244 (by assumption) ?r5x244
  case h5x244 => intro w' hSw; (try dsimp only [sbx] at hSw); go_simp; try with_reducible rfl
  try simp only [Act.put, ly1, ly2, ly3]
  refine tk (i := 2) (oi := ⟨some 6, _, _, _, _, _⟩) (v := ?v6x245) rfl (by kernel_rfl) (fun _ _ _ h => h) (by rfl) ?h6x245 (by assumption) ?r6x245
  case h6x245 => intro w' hSw; (try dsimp only [sbx] at hSw); go_simp; try with_reducible rfl
  try simp only [Act.put, ly1, ly2, ly3]
  refine tk (i := 3) (oi := ⟨some 7, _, _, _, _, _⟩) (v := ?v7x246) rfl (by kernel_rfl) (fun _ _ _ h => h) (by rfl) ?h7x246 (by assumption) ?r7x246
  case h7x246 => intro w' hSw; (try dsimp only [sbx] at hSw); go_simp; try with_reducible rfl
  try simp only [Act.put, ly1, ly2, ly3]
  refine tk (i := 4) (oi := ⟨some 8, _, _, _, _, _⟩) (v := ?v8x247) rfl (by kernel_rfl) (fun _ _ _ h => h) (by rfl) ?h8x247 (by assumption) ?r8x247
  case h8x247 => intro w' hSw; (try dsimp only [sbx] at hSw); go_simp; try with_reducible rfl
  try simp only [Act.put, ly1, ly2, ly3]
  refine wpAnyH_ready (rs := [5]) (by kernel_rfl) (by simp) ?_
  refine AllReadyH.cons (o := ⟨some 9, _, _, _, _, _⟩) rfl (fun K hK => ?_) AllReadyH.nil
  rw [if_pos (by rfl)]
  go_simp
  refine (Calls.mono (load2_ok B b mb m nx vX _ (HHt.out _ (by repeat' (first | with_reducible exact tR _ _ | with_reducible apply tD | with_reducible apply tN | assumption))) op rd q1 q2 im rd0 rd1 q10 q11 q20 q21 i0 i1 HZ.out HF.out k hk ha hl) ?_)
  rintro e w1 ⟨rfl, ht'⟩
  have t1 : ref.Touch [] (bx w op rd q1 q2 im) w1 := ref.Touch.trans (by repeat' (first | with_reducible exact tR _ _ | with_reducible apply tD | with_reducible apply tN | assumption)) ht'
  have p1 : w1.cell? ⟨b, 33, none⟩ = some (.int .u32 m.pc) := (HHt.out _ t1).cells 33 (by decide) (by decide)
  clear ht'
  refine hK.out _ _ (HSk.out _ (t1.mono (by simp)) p1) (fun hHeld => ?_)
  clear hK K
  try simp only [Act.put, ly1, ly2, ly3]
  refine tk (i := 6) (oi := ⟨some 10, _, _, _, _, _⟩) (v := ?v10x248) rfl (by kernel_rfl) (fun _ _ _ h => h) (by rfl) ?h10x248 (by assumption) ?r10x248
  case h10x248 => intro w' hSw; (try dsimp only [sbx] at hSw); go_simp; try with_reducible rfl
  try simp only [Act.put, ly1, ly2, ly3]
  refine tk (i := 7) (oi := ⟨some 11, _, _, _, _, _⟩) (v := ?v11x249) rfl (by kernel_rfl) (fun _ _ _ h => h) (by rfl) ?h11x249 (by assumption) ?r11x249
  case h11x249 => intro w' hSw; (try dsimp only [sbx] at hSw); go_simp; try with_reducible rfl
  try simp only [Act.put, ly1, ly2, ly3]
  refine wpAnyH_ready (rs := [8]) (by kernel_rfl) (by simp) ?_
  refine AllReadyH.cons (o := ⟨some 12, _, _, _, _, _⟩) rfl (fun K hK => ?_) AllReadyH.nil
  rw [if_pos (by rfl)]
  go_simp
  refine (Calls.mono (set_any B b mb m nx vX _ (HHt.out _ (by repeat' (first | with_reducible exact tR _ _ | with_reducible apply tD | with_reducible apply tN | assumption))) rd (sext (ld m.mem k 2) 2) rd0 rd1) ?_)
  rintro e w9 ⟨rfl, hat, hto⟩
  have HA : Hid (PAt B b mb (setReg m rd (sext (ld m.mem k 2) 2)) nx vX w9) := hat
  have t9 : ref.Touch [b] (bx w op rd q1 q2 im) w9 := ref.Touch.trans (ref.Touch.mono (S := []) (by repeat' (first | with_reducible exact tR _ _ | with_reducible apply tD | with_reducible apply tN | assumption)) (by simp)) hto
  have p9 : w9.cell? ⟨b, 33, none⟩ = some (.int .u32 m.pc) := set_pc hat
  have HT : Hid (ref.Touch [b] (bx w op rd q1 q2 im) w9) := t9
  clear hat hto
  refine hK.out _ _ (HSk.out _ t9 p9) (fun hHeld => ?_)
  clear hK K
  try simp only [Act.put, ly1, ly2, ly3]
  refine wpAnyH_done (by kernel_rfl) ?_ _
  go_wp2_with fail
  go_end0
  exact ⟨rfl, HA.out, (((ref.Touch.refl _ _).alloc _).trans HT.out).mono (by simp)⟩
set_option maxHeartbeats 400000 in
theorem loadWord_al (B b mb : Nat) (m : M) (nx : Int) (vX : Nat → Value) (w : World) (h : PAt B b mb m nx vX w) (op rd q1 q2 im : Int) (rd0 : 0 ≤ rd) (rd1 : rd ≤ 31) (q10 : 0 ≤ q1) (q11 : q1 ≤ 31) (q20 : 0 ≤ q2) (q21 : q2 ≤ 31) (i0 : -2147483648 ≤ im) (i1 : im ≤ 2147483647) (hz : 0 < m.size) (hf : Fine m) (k : Nat) (hk : ((m.regs q1.toNat + im) % 4294967296) = k) (ha : ¬ (k : Int) % 4 = 0) :
    Calls Tryz.prog 115 #[.pointer (some ⟨b, 0, none⟩), .agg #[.int .i64 op, .int .i64 rd, .int .i64 q1, .int .i64 q2, .int .i32 im]] w fun e w' => e = .panicked (trapV 5) ∧ ref.Touch [] w w' := by
  obtain ⟨lb, HH, HHt, HZ, HF, HSk, cpc, ra0, ra1, rb0, rb1, pc0, pc1, wi⟩ := pre_any B b mb m nx vX w h op rd q1 q2 im hz hf
  clear h
  clear hz hf
  go_enter Tryz.func115, Tryz.ntmps115
  go_wp2_with fail
  refine wp_region_held_drew (S := (sbx w b m op rd q1 q2 im)) (by kernel_rfl) (HSk.out _ (ref.Touch.refl _ _).drew cpc) (fun hHeld => ?_)
  refine tk (i := 0) (oi := ⟨some 4, _, _, _, _, _⟩) (v := ?v4x250) rfl (by kernel_rfl) (fun _ _ _ h => h) (by rfl) ?h4x250 (by assumption) ?r4x250
  case h4x250 => intro w' hSw; (try dsimp only [sbx] at hSw); go_simp; try with_reducible rfl
  try simp only [Act.put, ly1, ly2, ly3]
  refine tk (i := 1) (oi := ⟨some 5, _, _, _, _, _⟩) (v := ?v5x251) rfl (by kernel_rfl) (fun _ _ _ h => h) (by rfl) ?h5x251 (by assumption) ?r5x251
  case h5x251 => intro w' hSw; (try dsimp only [sbx] at hSw); go_simp; try with_reducible rfl
  try simp only [Act.put, ly1, ly2, ly3]
  refine tk (i := 2) (oi := ⟨some 6, _, _, _, _, _⟩) (v := ?v6x252) rfl (by kernel_rfl) (fun _ _ _ h => h) (by rfl) ?h6x252 (by assumption) ?r6x252
  case h6x252 => intro w' hSw; (try dsimp only [sbx] at hSw); go_simp; try with_reducible rfl
  try simp only [Act.put, ly1, ly2, ly3]
  refine tk (i := 3) (oi := ⟨some 7, _, _, _, _, _⟩) (v := ?v7x253) rfl (by kernel_rfl) (fun _ _ _ h => h) (by rfl) ?h7x253 (by assumption) ?r7x253
  case h7x253 => intro w' hSw; (try dsimp only [sbx] at hSw); go_simp; try with_reducible rfl
  try simp only [Act.put, ly1, ly2, ly3]
  refine tk (i := 4) (oi := ⟨some 8, _, _, _, _, _⟩) (v := ?v8x254) rfl (by kernel_rfl) (fun _ _ _ h => h) (by rfl) ?h8x254 (by assumption) ?r8x254
  case h8x254 => intro w' hSw; (try dsimp only [sbx] at hSw); go_simp; try with_reducible rfl
  try simp only [Act.put, ly1, ly2, ly3]
  refine wpAnyH_ready (rs := [5]) (by kernel_rfl) (by simp) ?_
  refine AllReadyH.cons (o := ⟨some 9, _, _, _, _, _⟩) rfl (fun K hK => ?_) AllReadyH.nil
  rw [if_pos (by rfl)]
  go_simp
  refine (Calls.mono (load4_al B b mb m nx vX _ (HHt.out _ (by repeat' (first | with_reducible exact tR _ _ | with_reducible apply tD | with_reducible apply tN | assumption))) op rd q1 q2 im rd0 rd1 q10 q11 q20 q21 i0 i1 HZ.out HF.out k hk ha ) ?_)
  rintro e w9 ⟨rfl, ht9⟩
  exact ⟨rfl, rfl, ref.Touch.trans (by repeat' (first | with_reducible exact ref.Touch.refl _ _ | with_reducible apply ref.Touch.drew | with_reducible apply ref.Touch.drewN | with_reducible apply ref.Touch.alloc | assumption | exact ref.Touch.trans ((ref.Touch.refl [] _).alloc _) (by assumption))) ht9⟩
set_option maxHeartbeats 400000 in
theorem loadWord_fa (B b mb : Nat) (m : M) (nx : Int) (vX : Nat → Value) (w : World) (h : PAt B b mb m nx vX w) (op rd q1 q2 im : Int) (rd0 : 0 ≤ rd) (rd1 : rd ≤ 31) (q10 : 0 ≤ q1) (q11 : q1 ≤ 31) (q20 : 0 ≤ q2) (q21 : q2 ≤ 31) (i0 : -2147483648 ≤ im) (i1 : im ≤ 2147483647) (hz : 0 < m.size) (hf : Fine m) (k : Nat) (hk : ((m.regs q1.toNat + im) % 4294967296) = k) (ha : (k : Int) % 4 = 0) (hl : lies m k 4 = false) :
    Calls Tryz.prog 115 #[.pointer (some ⟨b, 0, none⟩), .agg #[.int .i64 op, .int .i64 rd, .int .i64 q1, .int .i64 q2, .int .i32 im]] w fun e w' => e = .panicked (trapV 6) ∧ ref.Touch [] w w' := by
  obtain ⟨lb, HH, HHt, HZ, HF, HSk, cpc, ra0, ra1, rb0, rb1, pc0, pc1, wi⟩ := pre_any B b mb m nx vX w h op rd q1 q2 im hz hf
  clear h
  clear hz hf
  go_enter Tryz.func115, Tryz.ntmps115
  go_wp2_with fail
  refine wp_region_held_drew (S := (sbx w b m op rd q1 q2 im)) (by kernel_rfl) (HSk.out _ (ref.Touch.refl _ _).drew cpc) (fun hHeld => ?_)
  refine tk (i := 0) (oi := ⟨some 4, _, _, _, _, _⟩) (v := ?v4x255) rfl (by kernel_rfl) (fun _ _ _ h => h) (by rfl) ?h4x255 (by assumption) ?r4x255
  case h4x255 => intro w' hSw; (try dsimp only [sbx] at hSw); go_simp; try with_reducible rfl
  try simp only [Act.put, ly1, ly2, ly3]
  refine tk (i := 1) (oi := ⟨some 5, _, _, _, _, _⟩) (v := ?v5x256) rfl (by kernel_rfl) (fun _ _ _ h => h) (by rfl) ?h5x256 (by assumption) ?r5x256
  case h5x256 => intro w' hSw; (try dsimp only [sbx] at hSw); go_simp; try with_reducible rfl
  try simp only [Act.put, ly1, ly2, ly3]
  refine tk (i := 2) (oi := ⟨some 6, _, _, _, _, _⟩) (v := ?v6x257) rfl (by kernel_rfl) (fun _ _ _ h => h) (by rfl) ?h6x257 (by assumption) ?r6x257
  case h6x257 => intro w' hSw; (try dsimp only [sbx] at hSw); go_simp; try with_reducible rfl
  try simp only [Act.put, ly1, ly2, ly3]
  refine tk (i := 3) (oi := ⟨some 7, _, _, _, _, _⟩) (v := ?v7x258) rfl (by kernel_rfl) (fun _ _ _ h => h) (by rfl) ?h7x258 (by assumption) ?r7x258
  case h7x258 => intro w' hSw; (try dsimp only [sbx] at hSw); go_simp; try with_reducible rfl
  try simp only [Act.put, ly1, ly2, ly3]
  refine tk (i := 4) (oi := ⟨some 8, _, _, _, _, _⟩) (v := ?v8x259) rfl (by kernel_rfl) (fun _ _ _ h => h) (by rfl) ?h8x259 (by assumption) ?r8x259
  case h8x259 => intro w' hSw; (try dsimp only [sbx] at hSw); go_simp; try with_reducible rfl
  try simp only [Act.put, ly1, ly2, ly3]
  refine wpAnyH_ready (rs := [5]) (by kernel_rfl) (by simp) ?_
  refine AllReadyH.cons (o := ⟨some 9, _, _, _, _, _⟩) rfl (fun K hK => ?_) AllReadyH.nil
  rw [if_pos (by rfl)]
  go_simp
  refine (Calls.mono (load4_fa B b mb m nx vX _ (HHt.out _ (by repeat' (first | with_reducible exact tR _ _ | with_reducible apply tD | with_reducible apply tN | assumption))) op rd q1 q2 im rd0 rd1 q10 q11 q20 q21 i0 i1 HZ.out HF.out k hk ha hl) ?_)
  rintro e w9 ⟨rfl, ht9⟩
  exact ⟨rfl, rfl, ref.Touch.trans (by repeat' (first | with_reducible exact ref.Touch.refl _ _ | with_reducible apply ref.Touch.drew | with_reducible apply ref.Touch.drewN | with_reducible apply ref.Touch.alloc | assumption | exact ref.Touch.trans ((ref.Touch.refl [] _).alloc _) (by assumption))) ht9⟩
set_option maxHeartbeats 400000 in
theorem loadWord_ok (B b mb : Nat) (m : M) (nx : Int) (vX : Nat → Value) (w : World) (h : PAt B b mb m nx vX w) (op rd q1 q2 im : Int) (rd0 : 0 ≤ rd) (rd1 : rd ≤ 31) (q10 : 0 ≤ q1) (q11 : q1 ≤ 31) (q20 : 0 ≤ q2) (q21 : q2 ≤ 31) (i0 : -2147483648 ≤ im) (i1 : im ≤ 2147483647) (hz : 0 < m.size) (hf : Fine m) (k : Nat) (hk : ((m.regs q1.toNat + im) % 4294967296) = k) (ha : (k : Int) % 4 = 0) (hl : lies m k 4 = true) :
    Calls Tryz.prog 115 #[.pointer (some ⟨b, 0, none⟩), .agg #[.int .i64 op, .int .i64 rd, .int .i64 q1, .int .i64 q2, .int .i32 im]] w fun e w' => e = .returned (.tuple #[]) ∧ PAt B b mb (setReg m rd (ld m.mem k 4)) nx vX w' ∧ ref.Touch [b, mb] w w' := by
  obtain ⟨lb, HH, HHt, HZ, HF, HSk, cpc, ra0, ra1, rb0, rb1, pc0, pc1, wi⟩ := pre_any B b mb m nx vX w h op rd q1 q2 im hz hf
  clear h
  clear hz hf
  go_enter Tryz.func115, Tryz.ntmps115
  go_wp2_with fail
  refine wp_region_held_drew (S := (sbx w b m op rd q1 q2 im)) (by kernel_rfl) (HSk.out _ (ref.Touch.refl _ _).drew cpc) (fun hHeld => ?_)
  refine tk (i := 0) (oi := ⟨some 4, _, _, _, _, _⟩) (v := ?v4x260) rfl (by kernel_rfl) (fun _ _ _ h => h) (by rfl) ?h4x260 (by assumption) ?r4x260
  case h4x260 => intro w' hSw; (try dsimp only [sbx] at hSw); go_simp; try with_reducible rfl
  try simp only [Act.put, ly1, ly2, ly3]
  refine tk (i := 1) (oi := ⟨some 5, _, _, _, _, _⟩) (v := ?v5x261) rfl (by kernel_rfl) (fun _ _ _ h => h) (by rfl) ?h5x261 (by assumption) ?r5x261
  case h5x261 => intro w' hSw; (try dsimp only [sbx] at hSw); go_simp; try with_reducible rfl
  try simp only [Act.put, ly1, ly2, ly3]
  refine tk (i := 2) (oi := ⟨some 6, _, _, _, _, _⟩) (v := ?v6x262) rfl (by kernel_rfl) (fun _ _ _ h => h) (by rfl) ?h6x262 (by assumption) ?r6x262
  case h6x262 => intro w' hSw; (try dsimp only [sbx] at hSw); go_simp; try with_reducible rfl
  try simp only [Act.put, ly1, ly2, ly3]
  refine tk (i := 3) (oi := ⟨some 7, _, _, _, _, _⟩) (v := ?v7x263) rfl (by kernel_rfl) (fun _ _ _ h => h) (by rfl) ?h7x263 (by assumption) ?r7x263
  case h7x263 => intro w' hSw; (try dsimp only [sbx] at hSw); go_simp; try with_reducible rfl
  try simp only [Act.put, ly1, ly2, ly3]
  refine tk (i := 4) (oi := ⟨some 8, _, _, _, _, _⟩) (v := ?v8x264) rfl (by kernel_rfl) (fun _ _ _ h => h) (by rfl) ?h8x264 (by assumption) ?r8x264
  case h8x264 => intro w' hSw; (try dsimp only [sbx] at hSw); go_simp; try with_reducible rfl
  try simp only [Act.put, ly1, ly2, ly3]
  refine wpAnyH_ready (rs := [5]) (by kernel_rfl) (by simp) ?_
  refine AllReadyH.cons (o := ⟨some 9, _, _, _, _, _⟩) rfl (fun K hK => ?_) AllReadyH.nil
  rw [if_pos (by rfl)]
  go_simp
  refine (Calls.mono (load4_ok B b mb m nx vX _ (HHt.out _ (by repeat' (first | with_reducible exact tR _ _ | with_reducible apply tD | with_reducible apply tN | assumption))) op rd q1 q2 im rd0 rd1 q10 q11 q20 q21 i0 i1 HZ.out HF.out k hk ha hl) ?_)
  rintro e w1 ⟨rfl, ht'⟩
  have t1 : ref.Touch [] (bx w op rd q1 q2 im) w1 := ref.Touch.trans (by repeat' (first | with_reducible exact tR _ _ | with_reducible apply tD | with_reducible apply tN | assumption)) ht'
  have p1 : w1.cell? ⟨b, 33, none⟩ = some (.int .u32 m.pc) := (HHt.out _ t1).cells 33 (by decide) (by decide)
  clear ht'
  refine hK.out _ _ (HSk.out _ (t1.mono (by simp)) p1) (fun hHeld => ?_)
  clear hK K
  try simp only [Act.put, ly1, ly2, ly3]
  refine wpAnyH_ready (rs := [6]) (by kernel_rfl) (by simp) ?_
  refine AllReadyH.cons (o := ⟨some 10, _, _, _, _, _⟩) rfl (fun K hK => ?_) AllReadyH.nil
  rw [if_pos (by rfl)]
  go_simp
  refine (Calls.mono (set_any B b mb m nx vX _ (HHt.out _ (by repeat' (first | with_reducible exact tR _ _ | with_reducible apply tD | with_reducible apply tN | assumption))) rd (ld m.mem k 4) rd0 rd1) ?_)
  rintro e w9 ⟨rfl, hat, hto⟩
  have HA : Hid (PAt B b mb (setReg m rd (ld m.mem k 4)) nx vX w9) := hat
  have t9 : ref.Touch [b] (bx w op rd q1 q2 im) w9 := ref.Touch.trans (ref.Touch.mono (S := []) (by repeat' (first | with_reducible exact tR _ _ | with_reducible apply tD | with_reducible apply tN | assumption)) (by simp)) hto
  have p9 : w9.cell? ⟨b, 33, none⟩ = some (.int .u32 m.pc) := set_pc hat
  have HT : Hid (ref.Touch [b] (bx w op rd q1 q2 im) w9) := t9
  clear hat hto
  refine hK.out _ _ (HSk.out _ t9 p9) (fun hHeld => ?_)
  clear hK K
  try simp only [Act.put, ly1, ly2, ly3]
  refine wpAnyH_done (by kernel_rfl) ?_ _
  go_wp2_with fail
  go_end0
  exact ⟨rfl, HA.out, (((ref.Touch.refl _ _).alloc _).trans HT.out).mono (by simp)⟩
set_option maxHeartbeats 400000 in
theorem loadByteUnsigned_fa (B b mb : Nat) (m : M) (nx : Int) (vX : Nat → Value) (w : World) (h : PAt B b mb m nx vX w) (op rd q1 q2 im : Int) (rd0 : 0 ≤ rd) (rd1 : rd ≤ 31) (q10 : 0 ≤ q1) (q11 : q1 ≤ 31) (q20 : 0 ≤ q2) (q21 : q2 ≤ 31) (i0 : -2147483648 ≤ im) (i1 : im ≤ 2147483647) (hz : 0 < m.size) (hf : Fine m) (k : Nat) (hk : ((m.regs q1.toNat + im) % 4294967296) = k) (hl : lies m k 1 = false) :
    Calls Tryz.prog 116 #[.pointer (some ⟨b, 0, none⟩), .agg #[.int .i64 op, .int .i64 rd, .int .i64 q1, .int .i64 q2, .int .i32 im]] w fun e w' => e = .panicked (trapV 6) ∧ ref.Touch [] w w' := by
  obtain ⟨lb, HH, HHt, HZ, HF, HSk, cpc, ra0, ra1, rb0, rb1, pc0, pc1, wi⟩ := pre_any B b mb m nx vX w h op rd q1 q2 im hz hf
  clear h
  clear hz hf
  go_enter Tryz.func116, Tryz.ntmps116
  go_wp2_with fail
  refine wp_region_held_drew (S := (sbx w b m op rd q1 q2 im)) (by kernel_rfl) (HSk.out _ (ref.Touch.refl _ _).drew cpc) (fun hHeld => ?_)
  refine tk (i := 0) (oi := ⟨some 4, _, _, _, _, _⟩) (v := ?v4x265) rfl (by kernel_rfl) (fun _ _ _ h => h) (by rfl) ?h4x265 (by assumption) ?r4x265
  case h4x265 => intro w' hSw; (try dsimp only [sbx] at hSw); go_simp; try with_reducible rfl
  try simp only [Act.put, ly1, ly2, ly3]
  refine tk (i := 1) (oi := ⟨some 5, _, _, _, _, _⟩) (v := ?v5x266) rfl (by kernel_rfl) (fun _ _ _ h => h) (by rfl) ?h5x266 (by assumption) ?r5x266
  case h5x266 => intro w' hSw; (try dsimp only [sbx] at hSw); go_simp; try with_reducible rfl
  try simp only [Act.put, ly1, ly2, ly3]
  refine tk (i := 2) (oi := ⟨some 6, _, _, _, _, _⟩) (v := ?v6x267) rfl (by kernel_rfl) (fun _ _ _ h => h) (by rfl) ?h6x267 (by assumption) ?r6x267
  case h6x267 => intro w' hSw; (try dsimp only [sbx] at hSw); go_simp; try with_reducible rfl
  try simp only [Act.put, ly1, ly2, ly3]
  refine tk (i := 3) (oi := ⟨some 7, _, _, _, _, _⟩) (v := ?v7x268) rfl (by kernel_rfl) (fun _ _ _ h => h) (by rfl) ?h7x268 (by assumption) ?r7x268
  case h7x268 => intro w' hSw; (try dsimp only [sbx] at hSw); go_simp; try with_reducible rfl
  try simp only [Act.put, ly1, ly2, ly3]
  refine tk (i := 4) (oi := ⟨some 8, _, _, _, _, _⟩) (v := ?v8x269) rfl (by kernel_rfl) (fun _ _ _ h => h) (by rfl) ?h8x269 (by assumption) ?r8x269
  case h8x269 => intro w' hSw; (try dsimp only [sbx] at hSw); go_simp; try with_reducible rfl
  try simp only [Act.put, ly1, ly2, ly3]
  refine wpAnyH_ready (rs := [5]) (by kernel_rfl) (by simp) ?_
  refine AllReadyH.cons (o := ⟨some 9, _, _, _, _, _⟩) rfl (fun K hK => ?_) AllReadyH.nil
  rw [if_pos (by rfl)]
  go_simp
  refine (Calls.mono (load1_fa B b mb m nx vX _ (HHt.out _ (by repeat' (first | with_reducible exact tR _ _ | with_reducible apply tD | with_reducible apply tN | assumption))) op rd q1 q2 im rd0 rd1 q10 q11 q20 q21 i0 i1 HZ.out HF.out k hk hl) ?_)
  rintro e w9 ⟨rfl, ht9⟩
  exact ⟨rfl, rfl, ref.Touch.trans (by repeat' (first | with_reducible exact ref.Touch.refl _ _ | with_reducible apply ref.Touch.drew | with_reducible apply ref.Touch.drewN | with_reducible apply ref.Touch.alloc | assumption | exact ref.Touch.trans ((ref.Touch.refl [] _).alloc _) (by assumption))) ht9⟩
set_option maxHeartbeats 400000 in
theorem loadByteUnsigned_ok (B b mb : Nat) (m : M) (nx : Int) (vX : Nat → Value) (w : World) (h : PAt B b mb m nx vX w) (op rd q1 q2 im : Int) (rd0 : 0 ≤ rd) (rd1 : rd ≤ 31) (q10 : 0 ≤ q1) (q11 : q1 ≤ 31) (q20 : 0 ≤ q2) (q21 : q2 ≤ 31) (i0 : -2147483648 ≤ im) (i1 : im ≤ 2147483647) (hz : 0 < m.size) (hf : Fine m) (k : Nat) (hk : ((m.regs q1.toNat + im) % 4294967296) = k) (hl : lies m k 1 = true) :
    Calls Tryz.prog 116 #[.pointer (some ⟨b, 0, none⟩), .agg #[.int .i64 op, .int .i64 rd, .int .i64 q1, .int .i64 q2, .int .i32 im]] w fun e w' => e = .returned (.tuple #[]) ∧ PAt B b mb (setReg m rd (ld m.mem k 1)) nx vX w' ∧ ref.Touch [b, mb] w w' := by
  obtain ⟨lb, HH, HHt, HZ, HF, HSk, cpc, ra0, ra1, rb0, rb1, pc0, pc1, wi⟩ := pre_any B b mb m nx vX w h op rd q1 q2 im hz hf
  clear h
  clear hz hf
  go_enter Tryz.func116, Tryz.ntmps116
  go_wp2_with fail
  refine wp_region_held_drew (S := (sbx w b m op rd q1 q2 im)) (by kernel_rfl) (HSk.out _ (ref.Touch.refl _ _).drew cpc) (fun hHeld => ?_)
  refine tk (i := 0) (oi := ⟨some 4, _, _, _, _, _⟩) (v := ?v4x270) rfl (by kernel_rfl) (fun _ _ _ h => h) (by rfl) ?h4x270 (by assumption) ?r4x270
  case h4x270 => intro w' hSw; (try dsimp only [sbx] at hSw); go_simp; try with_reducible rfl
  try simp only [Act.put, ly1, ly2, ly3]
  refine tk (i := 1) (oi := ⟨some 5, _, _, _, _, _⟩) (v := ?v5x271) rfl (by kernel_rfl) (fun _ _ _ h => h) (by rfl) ?h5x271 (by assumption) ?r5x271
  case h5x271 => intro w' hSw; (try dsimp only [sbx] at hSw); go_simp; try with_reducible rfl
  try simp only [Act.put, ly1, ly2, ly3]
  refine tk (i := 2) (oi := ⟨some 6, _, _, _, _, _⟩) (v := ?v6x272) rfl (by kernel_rfl) (fun _ _ _ h => h) (by rfl) ?h6x272 (by assumption) ?r6x272
  case h6x272 => intro w' hSw; (try dsimp only [sbx] at hSw); go_simp; try with_reducible rfl
  try simp only [Act.put, ly1, ly2, ly3]
  refine tk (i := 3) (oi := ⟨some 7, _, _, _, _, _⟩) (v := ?v7x273) rfl (by kernel_rfl) (fun _ _ _ h => h) (by rfl) ?h7x273 (by assumption) ?r7x273
  case h7x273 => intro w' hSw; (try dsimp only [sbx] at hSw); go_simp; try with_reducible rfl
  try simp only [Act.put, ly1, ly2, ly3]
  refine tk (i := 4) (oi := ⟨some 8, _, _, _, _, _⟩) (v := ?v8x274) rfl (by kernel_rfl) (fun _ _ _ h => h) (by rfl) ?h8x274 (by assumption) ?r8x274
  case h8x274 => intro w' hSw; (try dsimp only [sbx] at hSw); go_simp; try with_reducible rfl
  try simp only [Act.put, ly1, ly2, ly3]
  refine wpAnyH_ready (rs := [5]) (by kernel_rfl) (by simp) ?_
  refine AllReadyH.cons (o := ⟨some 9, _, _, _, _, _⟩) rfl (fun K hK => ?_) AllReadyH.nil
  rw [if_pos (by rfl)]
  go_simp
  refine (Calls.mono (load1_ok B b mb m nx vX _ (HHt.out _ (by repeat' (first | with_reducible exact tR _ _ | with_reducible apply tD | with_reducible apply tN | assumption))) op rd q1 q2 im rd0 rd1 q10 q11 q20 q21 i0 i1 HZ.out HF.out k hk hl) ?_)
  rintro e w1 ⟨rfl, ht'⟩
  have t1 : ref.Touch [] (bx w op rd q1 q2 im) w1 := ref.Touch.trans (by repeat' (first | with_reducible exact tR _ _ | with_reducible apply tD | with_reducible apply tN | assumption)) ht'
  have p1 : w1.cell? ⟨b, 33, none⟩ = some (.int .u32 m.pc) := (HHt.out _ t1).cells 33 (by decide) (by decide)
  clear ht'
  refine hK.out _ _ (HSk.out _ (t1.mono (by simp)) p1) (fun hHeld => ?_)
  clear hK K
  try simp only [Act.put, ly1, ly2, ly3]
  refine wpAnyH_ready (rs := [6]) (by kernel_rfl) (by simp) ?_
  refine AllReadyH.cons (o := ⟨some 10, _, _, _, _, _⟩) rfl (fun K hK => ?_) AllReadyH.nil
  rw [if_pos (by rfl)]
  go_simp
  refine (Calls.mono (set_any B b mb m nx vX _ (HHt.out _ (by repeat' (first | with_reducible exact tR _ _ | with_reducible apply tD | with_reducible apply tN | assumption))) rd (ld m.mem k 1) rd0 rd1) ?_)
  rintro e w9 ⟨rfl, hat, hto⟩
  have HA : Hid (PAt B b mb (setReg m rd (ld m.mem k 1)) nx vX w9) := hat
  have t9 : ref.Touch [b] (bx w op rd q1 q2 im) w9 := ref.Touch.trans (ref.Touch.mono (S := []) (by repeat' (first | with_reducible exact tR _ _ | with_reducible apply tD | with_reducible apply tN | assumption)) (by simp)) hto
  have p9 : w9.cell? ⟨b, 33, none⟩ = some (.int .u32 m.pc) := set_pc hat
  have HT : Hid (ref.Touch [b] (bx w op rd q1 q2 im) w9) := t9
  clear hat hto
  refine hK.out _ _ (HSk.out _ t9 p9) (fun hHeld => ?_)
  clear hK K
  try simp only [Act.put, ly1, ly2, ly3]
  refine wpAnyH_done (by kernel_rfl) ?_ _
  go_wp2_with fail
  go_end0
  exact ⟨rfl, HA.out, (((ref.Touch.refl _ _).alloc _).trans HT.out).mono (by simp)⟩
set_option maxHeartbeats 400000 in
theorem loadHalfUnsigned_al (B b mb : Nat) (m : M) (nx : Int) (vX : Nat → Value) (w : World) (h : PAt B b mb m nx vX w) (op rd q1 q2 im : Int) (rd0 : 0 ≤ rd) (rd1 : rd ≤ 31) (q10 : 0 ≤ q1) (q11 : q1 ≤ 31) (q20 : 0 ≤ q2) (q21 : q2 ≤ 31) (i0 : -2147483648 ≤ im) (i1 : im ≤ 2147483647) (hz : 0 < m.size) (hf : Fine m) (k : Nat) (hk : ((m.regs q1.toNat + im) % 4294967296) = k) (ha : ¬ (k : Int) % 2 = 0) :
    Calls Tryz.prog 117 #[.pointer (some ⟨b, 0, none⟩), .agg #[.int .i64 op, .int .i64 rd, .int .i64 q1, .int .i64 q2, .int .i32 im]] w fun e w' => e = .panicked (trapV 5) ∧ ref.Touch [] w w' := by
  obtain ⟨lb, HH, HHt, HZ, HF, HSk, cpc, ra0, ra1, rb0, rb1, pc0, pc1, wi⟩ := pre_any B b mb m nx vX w h op rd q1 q2 im hz hf
  clear h
  clear hz hf
  go_enter Tryz.func117, Tryz.ntmps117
  go_wp2_with fail
  refine wp_region_held_drew (S := (sbx w b m op rd q1 q2 im)) (by kernel_rfl) (HSk.out _ (ref.Touch.refl _ _).drew cpc) (fun hHeld => ?_)
  refine tk (i := 0) (oi := ⟨some 4, _, _, _, _, _⟩) (v := ?v4x275) rfl (by kernel_rfl) (fun _ _ _ h => h) (by rfl) ?h4x275 (by assumption) ?r4x275
  case h4x275 => intro w' hSw; (try dsimp only [sbx] at hSw); go_simp; try with_reducible rfl
  try simp only [Act.put, ly1, ly2, ly3]
  refine tk (i := 1) (oi := ⟨some 5, _, _, _, _, _⟩) (v := ?v5x276) rfl (by kernel_rfl) (fun _ _ _ h => h) (by rfl) ?h5x276 (by assumption) ?r5x276
  case h5x276 => intro w' hSw; (try dsimp only [sbx] at hSw); go_simp; try with_reducible rfl
  try simp only [Act.put, ly1, ly2, ly3]
  refine tk (i := 2) (oi := ⟨some 6, _, _, _, _, _⟩) (v := ?v6x277) rfl (by kernel_rfl) (fun _ _ _ h => h) (by rfl) ?h6x277 (by assumption) ?r6x277
  case h6x277 => intro w' hSw; (try dsimp only [sbx] at hSw); go_simp; try with_reducible rfl
  try simp only [Act.put, ly1, ly2, ly3]
  refine tk (i := 3) (oi := ⟨some 7, _, _, _, _, _⟩) (v := ?v7x278) rfl (by kernel_rfl) (fun _ _ _ h => h) (by rfl) ?h7x278 (by assumption) ?r7x278
  case h7x278 => intro w' hSw; (try dsimp only [sbx] at hSw); go_simp; try with_reducible rfl
  try simp only [Act.put, ly1, ly2, ly3]
  refine tk (i := 4) (oi := ⟨some 8, _, _, _, _, _⟩) (v := ?v8x279) rfl (by kernel_rfl) (fun _ _ _ h => h) (by rfl) ?h8x279 (by assumption) ?r8x279
  case h8x279 => intro w' hSw; (try dsimp only [sbx] at hSw); go_simp; try with_reducible rfl
  try simp only [Act.put, ly1, ly2, ly3]
  refine wpAnyH_ready (rs := [5]) (by kernel_rfl) (by simp) ?_
  refine AllReadyH.cons (o := ⟨some 9, _, _, _, _, _⟩) rfl (fun K hK => ?_) AllReadyH.nil
  rw [if_pos (by rfl)]
  go_simp
  refine (Calls.mono (load2_al B b mb m nx vX _ (HHt.out _ (by repeat' (first | with_reducible exact tR _ _ | with_reducible apply tD | with_reducible apply tN | assumption))) op rd q1 q2 im rd0 rd1 q10 q11 q20 q21 i0 i1 HZ.out HF.out k hk ha ) ?_)
  rintro e w9 ⟨rfl, ht9⟩
  exact ⟨rfl, rfl, ref.Touch.trans (by repeat' (first | with_reducible exact ref.Touch.refl _ _ | with_reducible apply ref.Touch.drew | with_reducible apply ref.Touch.drewN | with_reducible apply ref.Touch.alloc | assumption | exact ref.Touch.trans ((ref.Touch.refl [] _).alloc _) (by assumption))) ht9⟩
set_option maxHeartbeats 400000 in
theorem loadHalfUnsigned_fa (B b mb : Nat) (m : M) (nx : Int) (vX : Nat → Value) (w : World) (h : PAt B b mb m nx vX w) (op rd q1 q2 im : Int) (rd0 : 0 ≤ rd) (rd1 : rd ≤ 31) (q10 : 0 ≤ q1) (q11 : q1 ≤ 31) (q20 : 0 ≤ q2) (q21 : q2 ≤ 31) (i0 : -2147483648 ≤ im) (i1 : im ≤ 2147483647) (hz : 0 < m.size) (hf : Fine m) (k : Nat) (hk : ((m.regs q1.toNat + im) % 4294967296) = k) (ha : (k : Int) % 2 = 0) (hl : lies m k 2 = false) :
    Calls Tryz.prog 117 #[.pointer (some ⟨b, 0, none⟩), .agg #[.int .i64 op, .int .i64 rd, .int .i64 q1, .int .i64 q2, .int .i32 im]] w fun e w' => e = .panicked (trapV 6) ∧ ref.Touch [] w w' := by
  obtain ⟨lb, HH, HHt, HZ, HF, HSk, cpc, ra0, ra1, rb0, rb1, pc0, pc1, wi⟩ := pre_any B b mb m nx vX w h op rd q1 q2 im hz hf
  clear h
  clear hz hf
  go_enter Tryz.func117, Tryz.ntmps117
  go_wp2_with fail
  refine wp_region_held_drew (S := (sbx w b m op rd q1 q2 im)) (by kernel_rfl) (HSk.out _ (ref.Touch.refl _ _).drew cpc) (fun hHeld => ?_)
  refine tk (i := 0) (oi := ⟨some 4, _, _, _, _, _⟩) (v := ?v4x280) rfl (by kernel_rfl) (fun _ _ _ h => h) (by rfl) ?h4x280 (by assumption) ?r4x280
  case h4x280 => intro w' hSw; (try dsimp only [sbx] at hSw); go_simp; try with_reducible rfl
  try simp only [Act.put, ly1, ly2, ly3]
  refine tk (i := 1) (oi := ⟨some 5, _, _, _, _, _⟩) (v := ?v5x281) rfl (by kernel_rfl) (fun _ _ _ h => h) (by rfl) ?h5x281 (by assumption) ?r5x281
  case h5x281 => intro w' hSw; (try dsimp only [sbx] at hSw); go_simp; try with_reducible rfl
  try simp only [Act.put, ly1, ly2, ly3]
  refine tk (i := 2) (oi := ⟨some 6, _, _, _, _, _⟩) (v := ?v6x282) rfl (by kernel_rfl) (fun _ _ _ h => h) (by rfl) ?h6x282 (by assumption) ?r6x282
  case h6x282 => intro w' hSw; (try dsimp only [sbx] at hSw); go_simp; try with_reducible rfl
  try simp only [Act.put, ly1, ly2, ly3]
  refine tk (i := 3) (oi := ⟨some 7, _, _, _, _, _⟩) (v := ?v7x283) rfl (by kernel_rfl) (fun _ _ _ h => h) (by rfl) ?h7x283 (by assumption) ?r7x283
  case h7x283 => intro w' hSw; (try dsimp only [sbx] at hSw); go_simp; try with_reducible rfl
  try simp only [Act.put, ly1, ly2, ly3]
  refine tk (i := 4) (oi := ⟨some 8, _, _, _, _, _⟩) (v := ?v8x284) rfl (by kernel_rfl) (fun _ _ _ h => h) (by rfl) ?h8x284 (by assumption) ?r8x284
  case h8x284 => intro w' hSw; (try dsimp only [sbx] at hSw); go_simp; try with_reducible rfl
  try simp only [Act.put, ly1, ly2, ly3]
  refine wpAnyH_ready (rs := [5]) (by kernel_rfl) (by simp) ?_
  refine AllReadyH.cons (o := ⟨some 9, _, _, _, _, _⟩) rfl (fun K hK => ?_) AllReadyH.nil
  rw [if_pos (by rfl)]
  go_simp
  refine (Calls.mono (load2_fa B b mb m nx vX _ (HHt.out _ (by repeat' (first | with_reducible exact tR _ _ | with_reducible apply tD | with_reducible apply tN | assumption))) op rd q1 q2 im rd0 rd1 q10 q11 q20 q21 i0 i1 HZ.out HF.out k hk ha hl) ?_)
  rintro e w9 ⟨rfl, ht9⟩
  exact ⟨rfl, rfl, ref.Touch.trans (by repeat' (first | with_reducible exact ref.Touch.refl _ _ | with_reducible apply ref.Touch.drew | with_reducible apply ref.Touch.drewN | with_reducible apply ref.Touch.alloc | assumption | exact ref.Touch.trans ((ref.Touch.refl [] _).alloc _) (by assumption))) ht9⟩
set_option maxHeartbeats 400000 in
theorem loadHalfUnsigned_ok (B b mb : Nat) (m : M) (nx : Int) (vX : Nat → Value) (w : World) (h : PAt B b mb m nx vX w) (op rd q1 q2 im : Int) (rd0 : 0 ≤ rd) (rd1 : rd ≤ 31) (q10 : 0 ≤ q1) (q11 : q1 ≤ 31) (q20 : 0 ≤ q2) (q21 : q2 ≤ 31) (i0 : -2147483648 ≤ im) (i1 : im ≤ 2147483647) (hz : 0 < m.size) (hf : Fine m) (k : Nat) (hk : ((m.regs q1.toNat + im) % 4294967296) = k) (ha : (k : Int) % 2 = 0) (hl : lies m k 2 = true) :
    Calls Tryz.prog 117 #[.pointer (some ⟨b, 0, none⟩), .agg #[.int .i64 op, .int .i64 rd, .int .i64 q1, .int .i64 q2, .int .i32 im]] w fun e w' => e = .returned (.tuple #[]) ∧ PAt B b mb (setReg m rd (ld m.mem k 2)) nx vX w' ∧ ref.Touch [b, mb] w w' := by
  obtain ⟨lb, HH, HHt, HZ, HF, HSk, cpc, ra0, ra1, rb0, rb1, pc0, pc1, wi⟩ := pre_any B b mb m nx vX w h op rd q1 q2 im hz hf
  clear h
  clear hz hf
  go_enter Tryz.func117, Tryz.ntmps117
  go_wp2_with fail
  refine wp_region_held_drew (S := (sbx w b m op rd q1 q2 im)) (by kernel_rfl) (HSk.out _ (ref.Touch.refl _ _).drew cpc) (fun hHeld => ?_)
  refine tk (i := 0) (oi := ⟨some 4, _, _, _, _, _⟩) (v := ?v4x285) rfl (by kernel_rfl) (fun _ _ _ h => h) (by rfl) ?h4x285 (by assumption) ?r4x285
  case h4x285 => intro w' hSw; (try dsimp only [sbx] at hSw); go_simp; try with_reducible rfl
  try simp only [Act.put, ly1, ly2, ly3]
  refine tk (i := 1) (oi := ⟨some 5, _, _, _, _, _⟩) (v := ?v5x286) rfl (by kernel_rfl) (fun _ _ _ h => h) (by rfl) ?h5x286 (by assumption) ?r5x286
  case h5x286 => intro w' hSw; (try dsimp only [sbx] at hSw); go_simp; try with_reducible rfl
  try simp only [Act.put, ly1, ly2, ly3]
  refine tk (i := 2) (oi := ⟨some 6, _, _, _, _, _⟩) (v := ?v6x287) rfl (by kernel_rfl) (fun _ _ _ h => h) (by rfl) ?h6x287 (by assumption) ?r6x287
  case h6x287 => intro w' hSw; (try dsimp only [sbx] at hSw); go_simp; try with_reducible rfl
  try simp only [Act.put, ly1, ly2, ly3]
  refine tk (i := 3) (oi := ⟨some 7, _, _, _, _, _⟩) (v := ?v7x288) rfl (by kernel_rfl) (fun _ _ _ h => h) (by rfl) ?h7x288 (by assumption) ?r7x288
  case h7x288 => intro w' hSw; (try dsimp only [sbx] at hSw); go_simp; try with_reducible rfl
  try simp only [Act.put, ly1, ly2, ly3]
  refine tk (i := 4) (oi := ⟨some 8, _, _, _, _, _⟩) (v := ?v8x289) rfl (by kernel_rfl) (fun _ _ _ h => h) (by rfl) ?h8x289 (by assumption) ?r8x289
  case h8x289 => intro w' hSw; (try dsimp only [sbx] at hSw); go_simp; try with_reducible rfl
  try simp only [Act.put, ly1, ly2, ly3]
  refine wpAnyH_ready (rs := [5]) (by kernel_rfl) (by simp) ?_
  refine AllReadyH.cons (o := ⟨some 9, _, _, _, _, _⟩) rfl (fun K hK => ?_) AllReadyH.nil
  rw [if_pos (by rfl)]
  go_simp
  refine (Calls.mono (load2_ok B b mb m nx vX _ (HHt.out _ (by repeat' (first | with_reducible exact tR _ _ | with_reducible apply tD | with_reducible apply tN | assumption))) op rd q1 q2 im rd0 rd1 q10 q11 q20 q21 i0 i1 HZ.out HF.out k hk ha hl) ?_)
  rintro e w1 ⟨rfl, ht'⟩
  have t1 : ref.Touch [] (bx w op rd q1 q2 im) w1 := ref.Touch.trans (by repeat' (first | with_reducible exact tR _ _ | with_reducible apply tD | with_reducible apply tN | assumption)) ht'
  have p1 : w1.cell? ⟨b, 33, none⟩ = some (.int .u32 m.pc) := (HHt.out _ t1).cells 33 (by decide) (by decide)
  clear ht'
  refine hK.out _ _ (HSk.out _ (t1.mono (by simp)) p1) (fun hHeld => ?_)
  clear hK K
  try simp only [Act.put, ly1, ly2, ly3]
  refine wpAnyH_ready (rs := [6]) (by kernel_rfl) (by simp) ?_
  refine AllReadyH.cons (o := ⟨some 10, _, _, _, _, _⟩) rfl (fun K hK => ?_) AllReadyH.nil
  rw [if_pos (by rfl)]
  go_simp
  refine (Calls.mono (set_any B b mb m nx vX _ (HHt.out _ (by repeat' (first | with_reducible exact tR _ _ | with_reducible apply tD | with_reducible apply tN | assumption))) rd (ld m.mem k 2) rd0 rd1) ?_)
  rintro e w9 ⟨rfl, hat, hto⟩
  have HA : Hid (PAt B b mb (setReg m rd (ld m.mem k 2)) nx vX w9) := hat
  have t9 : ref.Touch [b] (bx w op rd q1 q2 im) w9 := ref.Touch.trans (ref.Touch.mono (S := []) (by repeat' (first | with_reducible exact tR _ _ | with_reducible apply tD | with_reducible apply tN | assumption)) (by simp)) hto
  have p9 : w9.cell? ⟨b, 33, none⟩ = some (.int .u32 m.pc) := set_pc hat
  have HT : Hid (ref.Touch [b] (bx w op rd q1 q2 im) w9) := t9
  clear hat hto
  refine hK.out _ _ (HSk.out _ t9 p9) (fun hHeld => ?_)
  clear hK K
  try simp only [Act.put, ly1, ly2, ly3]
  refine wpAnyH_done (by kernel_rfl) ?_ _
  go_wp2_with fail
  go_end0
  exact ⟨rfl, HA.out, (((ref.Touch.refl _ _).alloc _).trans HT.out).mono (by simp)⟩
set_option maxHeartbeats 400000 in
theorem storeByte_fa (B b mb : Nat) (m : M) (nx : Int) (vX : Nat → Value) (w : World) (h : PAt B b mb m nx vX w) (op rd q1 q2 im : Int) (rd0 : 0 ≤ rd) (rd1 : rd ≤ 31) (q10 : 0 ≤ q1) (q11 : q1 ≤ 31) (q20 : 0 ≤ q2) (q21 : q2 ≤ 31) (i0 : -2147483648 ≤ im) (i1 : im ≤ 2147483647) (hz : 0 < m.size) (hf : Fine m) (k : Nat) (hk : ((m.regs q1.toNat + im) % 4294967296) = k) (hl : lies m k 1 = false) :
    Calls Tryz.prog 118 #[.pointer (some ⟨b, 0, none⟩), .agg #[.int .i64 op, .int .i64 rd, .int .i64 q1, .int .i64 q2, .int .i32 im]] w fun e w' => e = .panicked (trapV 8) ∧ ref.Touch [] w w' := by
  obtain ⟨lb, HH, HHt, HZ, HF, HSk, cpc, ra0, ra1, rb0, rb1, pc0, pc1, wi⟩ := pre_any B b mb m nx vX w h op rd q1 q2 im hz hf
  clear h
  clear hz hf
  go_enter Tryz.func118, Tryz.ntmps118
  go_wp2_with (first | (go_at_call 134; refine (Calls.mono (store1_fa B b mb m nx vX _ (HHt.out _ (by repeat' (first | with_reducible exact tR _ _ | with_reducible apply tD | with_reducible apply tN | assumption))) op rd q1 q2 im rd0 rd1 q10 q11 q20 q21 i0 i1 HZ.out HF.out k hk hl) ?_); rintro e w9 ⟨rfl, ht9⟩; have HT : Hid (ref.Touch [] (bx w op rd q1 q2 im) w9) := ref.Touch.trans (by repeat' (first | with_reducible exact tR _ _ | with_reducible apply tD | with_reducible apply tN | assumption)) ht9; clear ht9))
  exact ⟨rfl, rfl, ((ref.Touch.refl _ _).alloc _).trans HT.out⟩
set_option maxHeartbeats 400000 in
theorem storeByte_ok (B b mb sb : Nat) (X : List Nat) (m : M) (nx : Int) (vX : Nat → Value) (w : World) (hc0 : PCt B b mb sb X m nx vX w) (op rd q1 q2 im : Int) (rd0 : 0 ≤ rd) (rd1 : rd ≤ 31) (q10 : 0 ≤ q1) (q11 : q1 ≤ 31) (q20 : 0 ≤ q2) (q21 : q2 ≤ 31) (i0 : -2147483648 ≤ im) (i1 : im ≤ 2147483647) (hz : 0 < m.size) (hf : Fine m) (k : Nat) (hk : ((m.regs q1.toNat + im) % 4294967296) = k) (hl : lies m k 1 = true) :
    Calls Tryz.prog 118 #[.pointer (some ⟨b, 0, none⟩), .agg #[.int .i64 op, .int .i64 rd, .int .i64 q1, .int .i64 q2, .int .i32 im]] w fun e w' => e = .returned (.tuple #[]) ∧ PCt B b mb sb X (wrote { m with mem := st m.mem k 1 (m.regs q2.toNat) } k 1) nx vX w' ∧ ref.Touch [b, mb, sb] w w' := by
  have h := hc0.p
  have HC : Hid (∀ w', ref.Touch [] (bx w op rd q1 q2 im) w' → PCt B b mb sb X m nx vX w') := fun w' t => hc0.quiet hz (((ref.Touch.refl _ _).alloc _).trans t)
  clear hc0
  obtain ⟨lb, HH, HHt, HZ, HF, HSk, cpc, ra0, ra1, rb0, rb1, pc0, pc1, wi⟩ := pre_any B b mb m nx vX w h op rd q1 q2 im hz hf
  clear h
  clear hz hf
  go_enter Tryz.func118, Tryz.ntmps118
  go_wp2_with (first | (go_at_call 134; refine (Calls.mono (store1_ok B b mb sb X m nx vX _ (HC.out _ (by repeat' (first | with_reducible exact tR _ _ | with_reducible apply tD | with_reducible apply tN | assumption))) op rd q1 q2 im rd0 rd1 q10 q11 q20 q21 i0 i1 HZ.out HF.out k hk hl) ?_); rintro e w9 ⟨rfl, hat, ht9⟩; have HA : Hid (PCt B b mb sb X (wrote { m with mem := st m.mem k 1 (m.regs q2.toNat) } k 1) nx vX w9) := hat; have HT : Hid (ref.Touch [b, mb, sb] (bx w op rd q1 q2 im) w9) := ref.Touch.trans (ref.Touch.mono (S := []) (by repeat' (first | with_reducible exact tR _ _ | with_reducible apply tD | with_reducible apply tN | assumption)) (by simp)) ht9; clear hat ht9))
  go_end0
  exact ⟨rfl, HA.out, ((ref.Touch.refl _ _).alloc _).trans HT.out⟩
set_option maxHeartbeats 400000 in
theorem storeHalf_al (B b mb : Nat) (m : M) (nx : Int) (vX : Nat → Value) (w : World) (h : PAt B b mb m nx vX w) (op rd q1 q2 im : Int) (rd0 : 0 ≤ rd) (rd1 : rd ≤ 31) (q10 : 0 ≤ q1) (q11 : q1 ≤ 31) (q20 : 0 ≤ q2) (q21 : q2 ≤ 31) (i0 : -2147483648 ≤ im) (i1 : im ≤ 2147483647) (hz : 0 < m.size) (hf : Fine m) (k : Nat) (hk : ((m.regs q1.toNat + im) % 4294967296) = k) (ha : ¬ (k : Int) % 2 = 0) :
    Calls Tryz.prog 119 #[.pointer (some ⟨b, 0, none⟩), .agg #[.int .i64 op, .int .i64 rd, .int .i64 q1, .int .i64 q2, .int .i32 im]] w fun e w' => e = .panicked (trapV 7) ∧ ref.Touch [] w w' := by
  obtain ⟨lb, HH, HHt, HZ, HF, HSk, cpc, ra0, ra1, rb0, rb1, pc0, pc1, wi⟩ := pre_any B b mb m nx vX w h op rd q1 q2 im hz hf
  clear h
  clear hz hf
  go_enter Tryz.func119, Tryz.ntmps119
  go_wp2_with (first | (go_at_call 134; refine (Calls.mono (store2_al B b mb m nx vX _ (HHt.out _ (by repeat' (first | with_reducible exact tR _ _ | with_reducible apply tD | with_reducible apply tN | assumption))) op rd q1 q2 im rd0 rd1 q10 q11 q20 q21 i0 i1 HZ.out HF.out k hk ha ) ?_); rintro e w9 ⟨rfl, ht9⟩; have HT : Hid (ref.Touch [] (bx w op rd q1 q2 im) w9) := ref.Touch.trans (by repeat' (first | with_reducible exact tR _ _ | with_reducible apply tD | with_reducible apply tN | assumption)) ht9; clear ht9))
  exact ⟨rfl, rfl, ((ref.Touch.refl _ _).alloc _).trans HT.out⟩
set_option maxHeartbeats 400000 in
theorem storeHalf_fa (B b mb : Nat) (m : M) (nx : Int) (vX : Nat → Value) (w : World) (h : PAt B b mb m nx vX w) (op rd q1 q2 im : Int) (rd0 : 0 ≤ rd) (rd1 : rd ≤ 31) (q10 : 0 ≤ q1) (q11 : q1 ≤ 31) (q20 : 0 ≤ q2) (q21 : q2 ≤ 31) (i0 : -2147483648 ≤ im) (i1 : im ≤ 2147483647) (hz : 0 < m.size) (hf : Fine m) (k : Nat) (hk : ((m.regs q1.toNat + im) % 4294967296) = k) (ha : (k : Int) % 2 = 0) (hl : lies m k 2 = false) :
    Calls Tryz.prog 119 #[.pointer (some ⟨b, 0, none⟩), .agg #[.int .i64 op, .int .i64 rd, .int .i64 q1, .int .i64 q2, .int .i32 im]] w fun e w' => e = .panicked (trapV 8) ∧ ref.Touch [] w w' := by
  obtain ⟨lb, HH, HHt, HZ, HF, HSk, cpc, ra0, ra1, rb0, rb1, pc0, pc1, wi⟩ := pre_any B b mb m nx vX w h op rd q1 q2 im hz hf
  clear h
  clear hz hf
  go_enter Tryz.func119, Tryz.ntmps119
  go_wp2_with (first | (go_at_call 134; refine (Calls.mono (store2_fa B b mb m nx vX _ (HHt.out _ (by repeat' (first | with_reducible exact tR _ _ | with_reducible apply tD | with_reducible apply tN | assumption))) op rd q1 q2 im rd0 rd1 q10 q11 q20 q21 i0 i1 HZ.out HF.out k hk ha hl) ?_); rintro e w9 ⟨rfl, ht9⟩; have HT : Hid (ref.Touch [] (bx w op rd q1 q2 im) w9) := ref.Touch.trans (by repeat' (first | with_reducible exact tR _ _ | with_reducible apply tD | with_reducible apply tN | assumption)) ht9; clear ht9))
  exact ⟨rfl, rfl, ((ref.Touch.refl _ _).alloc _).trans HT.out⟩
set_option maxHeartbeats 400000 in
theorem storeHalf_ok (B b mb sb : Nat) (X : List Nat) (m : M) (nx : Int) (vX : Nat → Value) (w : World) (hc0 : PCt B b mb sb X m nx vX w) (op rd q1 q2 im : Int) (rd0 : 0 ≤ rd) (rd1 : rd ≤ 31) (q10 : 0 ≤ q1) (q11 : q1 ≤ 31) (q20 : 0 ≤ q2) (q21 : q2 ≤ 31) (i0 : -2147483648 ≤ im) (i1 : im ≤ 2147483647) (hz : 0 < m.size) (hf : Fine m) (k : Nat) (hk : ((m.regs q1.toNat + im) % 4294967296) = k) (ha : (k : Int) % 2 = 0) (hl : lies m k 2 = true) :
    Calls Tryz.prog 119 #[.pointer (some ⟨b, 0, none⟩), .agg #[.int .i64 op, .int .i64 rd, .int .i64 q1, .int .i64 q2, .int .i32 im]] w fun e w' => e = .returned (.tuple #[]) ∧ PCt B b mb sb X (wrote { m with mem := st m.mem k 2 (m.regs q2.toNat) } k 2) nx vX w' ∧ ref.Touch [b, mb, sb] w w' := by
  have h := hc0.p
  have HC : Hid (∀ w', ref.Touch [] (bx w op rd q1 q2 im) w' → PCt B b mb sb X m nx vX w') := fun w' t => hc0.quiet hz (((ref.Touch.refl _ _).alloc _).trans t)
  clear hc0
  obtain ⟨lb, HH, HHt, HZ, HF, HSk, cpc, ra0, ra1, rb0, rb1, pc0, pc1, wi⟩ := pre_any B b mb m nx vX w h op rd q1 q2 im hz hf
  clear h
  clear hz hf
  go_enter Tryz.func119, Tryz.ntmps119
  go_wp2_with (first | (go_at_call 134; refine (Calls.mono (store2_ok B b mb sb X m nx vX _ (HC.out _ (by repeat' (first | with_reducible exact tR _ _ | with_reducible apply tD | with_reducible apply tN | assumption))) op rd q1 q2 im rd0 rd1 q10 q11 q20 q21 i0 i1 HZ.out HF.out k hk ha hl) ?_); rintro e w9 ⟨rfl, hat, ht9⟩; have HA : Hid (PCt B b mb sb X (wrote { m with mem := st m.mem k 2 (m.regs q2.toNat) } k 2) nx vX w9) := hat; have HT : Hid (ref.Touch [b, mb, sb] (bx w op rd q1 q2 im) w9) := ref.Touch.trans (ref.Touch.mono (S := []) (by repeat' (first | with_reducible exact tR _ _ | with_reducible apply tD | with_reducible apply tN | assumption)) (by simp)) ht9; clear hat ht9))
  go_end0
  exact ⟨rfl, HA.out, ((ref.Touch.refl _ _).alloc _).trans HT.out⟩
set_option maxHeartbeats 400000 in
theorem storeWord_al (B b mb : Nat) (m : M) (nx : Int) (vX : Nat → Value) (w : World) (h : PAt B b mb m nx vX w) (op rd q1 q2 im : Int) (rd0 : 0 ≤ rd) (rd1 : rd ≤ 31) (q10 : 0 ≤ q1) (q11 : q1 ≤ 31) (q20 : 0 ≤ q2) (q21 : q2 ≤ 31) (i0 : -2147483648 ≤ im) (i1 : im ≤ 2147483647) (hz : 0 < m.size) (hf : Fine m) (k : Nat) (hk : ((m.regs q1.toNat + im) % 4294967296) = k) (ha : ¬ (k : Int) % 4 = 0) :
    Calls Tryz.prog 120 #[.pointer (some ⟨b, 0, none⟩), .agg #[.int .i64 op, .int .i64 rd, .int .i64 q1, .int .i64 q2, .int .i32 im]] w fun e w' => e = .panicked (trapV 7) ∧ ref.Touch [] w w' := by
  obtain ⟨lb, HH, HHt, HZ, HF, HSk, cpc, ra0, ra1, rb0, rb1, pc0, pc1, wi⟩ := pre_any B b mb m nx vX w h op rd q1 q2 im hz hf
  clear h
  clear hz hf
  go_enter Tryz.func120, Tryz.ntmps120
  go_wp2_with (first | (go_at_call 134; refine (Calls.mono (store4_al B b mb m nx vX _ (HHt.out _ (by repeat' (first | with_reducible exact tR _ _ | with_reducible apply tD | with_reducible apply tN | assumption))) op rd q1 q2 im rd0 rd1 q10 q11 q20 q21 i0 i1 HZ.out HF.out k hk ha ) ?_); rintro e w9 ⟨rfl, ht9⟩; have HT : Hid (ref.Touch [] (bx w op rd q1 q2 im) w9) := ref.Touch.trans (by repeat' (first | with_reducible exact tR _ _ | with_reducible apply tD | with_reducible apply tN | assumption)) ht9; clear ht9))
  exact ⟨rfl, rfl, ((ref.Touch.refl _ _).alloc _).trans HT.out⟩
set_option maxHeartbeats 400000 in
theorem storeWord_fa (B b mb : Nat) (m : M) (nx : Int) (vX : Nat → Value) (w : World) (h : PAt B b mb m nx vX w) (op rd q1 q2 im : Int) (rd0 : 0 ≤ rd) (rd1 : rd ≤ 31) (q10 : 0 ≤ q1) (q11 : q1 ≤ 31) (q20 : 0 ≤ q2) (q21 : q2 ≤ 31) (i0 : -2147483648 ≤ im) (i1 : im ≤ 2147483647) (hz : 0 < m.size) (hf : Fine m) (k : Nat) (hk : ((m.regs q1.toNat + im) % 4294967296) = k) (ha : (k : Int) % 4 = 0) (hl : lies m k 4 = false) :
    Calls Tryz.prog 120 #[.pointer (some ⟨b, 0, none⟩), .agg #[.int .i64 op, .int .i64 rd, .int .i64 q1, .int .i64 q2, .int .i32 im]] w fun e w' => e = .panicked (trapV 8) ∧ ref.Touch [] w w' := by
  obtain ⟨lb, HH, HHt, HZ, HF, HSk, cpc, ra0, ra1, rb0, rb1, pc0, pc1, wi⟩ := pre_any B b mb m nx vX w h op rd q1 q2 im hz hf
  clear h
  clear hz hf
  go_enter Tryz.func120, Tryz.ntmps120
  go_wp2_with (first | (go_at_call 134; refine (Calls.mono (store4_fa B b mb m nx vX _ (HHt.out _ (by repeat' (first | with_reducible exact tR _ _ | with_reducible apply tD | with_reducible apply tN | assumption))) op rd q1 q2 im rd0 rd1 q10 q11 q20 q21 i0 i1 HZ.out HF.out k hk ha hl) ?_); rintro e w9 ⟨rfl, ht9⟩; have HT : Hid (ref.Touch [] (bx w op rd q1 q2 im) w9) := ref.Touch.trans (by repeat' (first | with_reducible exact tR _ _ | with_reducible apply tD | with_reducible apply tN | assumption)) ht9; clear ht9))
  exact ⟨rfl, rfl, ((ref.Touch.refl _ _).alloc _).trans HT.out⟩
set_option maxHeartbeats 400000 in
theorem storeWord_ok (B b mb sb : Nat) (X : List Nat) (m : M) (nx : Int) (vX : Nat → Value) (w : World) (hc0 : PCt B b mb sb X m nx vX w) (op rd q1 q2 im : Int) (rd0 : 0 ≤ rd) (rd1 : rd ≤ 31) (q10 : 0 ≤ q1) (q11 : q1 ≤ 31) (q20 : 0 ≤ q2) (q21 : q2 ≤ 31) (i0 : -2147483648 ≤ im) (i1 : im ≤ 2147483647) (hz : 0 < m.size) (hf : Fine m) (k : Nat) (hk : ((m.regs q1.toNat + im) % 4294967296) = k) (ha : (k : Int) % 4 = 0) (hl : lies m k 4 = true) :
    Calls Tryz.prog 120 #[.pointer (some ⟨b, 0, none⟩), .agg #[.int .i64 op, .int .i64 rd, .int .i64 q1, .int .i64 q2, .int .i32 im]] w fun e w' => e = .returned (.tuple #[]) ∧ PCt B b mb sb X (wrote { m with mem := st m.mem k 4 (m.regs q2.toNat) } k 4) nx vX w' ∧ ref.Touch [b, mb, sb] w w' := by
  have h := hc0.p
  have HC : Hid (∀ w', ref.Touch [] (bx w op rd q1 q2 im) w' → PCt B b mb sb X m nx vX w') := fun w' t => hc0.quiet hz (((ref.Touch.refl _ _).alloc _).trans t)
  clear hc0
  obtain ⟨lb, HH, HHt, HZ, HF, HSk, cpc, ra0, ra1, rb0, rb1, pc0, pc1, wi⟩ := pre_any B b mb m nx vX w h op rd q1 q2 im hz hf
  clear h
  clear hz hf
  go_enter Tryz.func120, Tryz.ntmps120
  go_wp2_with (first | (go_at_call 134; refine (Calls.mono (store4_ok B b mb sb X m nx vX _ (HC.out _ (by repeat' (first | with_reducible exact tR _ _ | with_reducible apply tD | with_reducible apply tN | assumption))) op rd q1 q2 im rd0 rd1 q10 q11 q20 q21 i0 i1 HZ.out HF.out k hk ha hl) ?_); rintro e w9 ⟨rfl, hat, ht9⟩; have HA : Hid (PCt B b mb sb X (wrote { m with mem := st m.mem k 4 (m.regs q2.toNat) } k 4) nx vX w9) := hat; have HT : Hid (ref.Touch [b, mb, sb] (bx w op rd q1 q2 im) w9) := ref.Touch.trans (ref.Touch.mono (S := []) (by repeat' (first | with_reducible exact tR _ _ | with_reducible apply tD | with_reducible apply tN | assumption)) (by simp)) ht9; clear hat ht9))
  go_end0
  exact ⟨rfl, HA.out, ((ref.Touch.refl _ _).alloc _).trans HT.out⟩
end Go.Proofs.YtmogjicompmkkaaGreatDoor.prog

namespace Go.Proofs.YtmogjicompmkkaaGreatDoor.prog
open Go.ChangeShapes Go.WideShapes Go.ChangeAt Go.RowKit Go.Proofs.YtmogjicompmkkaaGreatDoor.nums Go.Proofs.YtmogjicompmkkaaGreatDoor.dnums Go.Proofs.YtmogjicompmkkaaGreatDoor.mach

set_option linter.unusedVariables false
set_option linter.unusedSimpArgs false
set_option maxRecDepth 10000
set_option maxHeartbeats 400000 in
theorem do_pan (B b mb sb : Nat) (X : List Nat) (m : M) (nx : Int) (vX : Nat → Value) (w : World) (h : PCt B b mb sb X m nx vX w) (op rd q1 q2 im : Int) (hz : 0 < m.size) (hf : Fine m) (K : Nat) (hcf : ∀ (args : Array Value) (w : World), (callFunc K args).run Tryz.prog w = .ok (.enter K args) w) (o : Int)
    (hK : ∀ w', PCt B b mb sb X m ((m.pc + 4) % 4294967296) vX w' → Calls Tryz.prog K #[.pointer (some ⟨b, 0, none⟩), .agg #[.int .i64 op, .int .i64 rd, .int .i64 q1, .int .i64 q2, .int .i32 im]] w' fun e w'' => e = .panicked (trapV o) ∧ ref.Touch [] w' w'') :
    Calls Tryz.prog 39 #[.pointer (some ⟨b, 0, none⟩), .agg #[(.func (.func K) #[] #[]), .int .i64 op, .int .i64 rd, .int .i64 q1, .int .i64 q2, .int .i32 im]] w fun e w' => e = .panicked (trapV o) ∧ PCt B b mb sb X m ((m.pc + 4) % 4294967296) vX w' ∧ ref.Touch [b, mb, sb] w w' := by
  have lb : b < w.heap.size := World.block_lt_of_cell? _ _ h.p.data
  have HN : Hid (PCt B b mb sb X m ((m.pc + 4) % 4294967296) vX ((w.setCell ⟨b, 34, none⟩ (.int .u32 ((m.pc + 4) % 4294967296))).alloc (.cells #[(.func (.func K) #[] #[]), .int .i64 op, .int .i64 rd, .int .i64 q1, .int .i64 q2, .int .i32 im] 86))) := h.lift ((at_next B b mb m nx vX _ h.p _).other ((ref.Touch.refl [] _).alloc _) (by simp) (by simp) hz) (((ref.Touch.refl _ _).setCell (by simp) _).alloc _) rfl rfl rfl
  have HT0 : Hid (ref.Touch [b] w ((w.setCell ⟨b, 34, none⟩ (.int .u32 ((m.pc + 4) % 4294967296))).alloc (.cells #[(.func (.func K) #[] #[]), .int .i64 op, .int .i64 rd, .int .i64 q1, .int .i64 q2, .int .i32 im] 86))) := ((ref.Touch.refl _ _).setCell (by simp) _).alloc _
  have cpc : w.cell? ⟨b, 33, none⟩ = some (.int .u32 m.pc) := h.p.cells 33 (by decide) (by decide)
  obtain ⟨u, cn⟩ := h.p.there 34 (by decide)
  have fn_ := h.p.free 34
  have HZ : Hid (0 < m.size) := hz
  have HK : Hid (∀ w', PCt B b mb sb X m ((m.pc + 4) % 4294967296) vX w' → Calls Tryz.prog K #[.pointer (some ⟨b, 0, none⟩), .agg #[.int .i64 op, .int .i64 rd, .int .i64 q1, .int .i64 q2, .int .i32 im]] w' fun e w'' => e = .panicked (trapV o) ∧ ref.Touch [] w' w'') := hK
  clear h hK hf hz
  go_enter Tryz.func39, Tryz.ntmps39
  go_wp2_with fail
  refine (Calls.mono (HK.out _ HN.out) ?_)
  rintro e w9 ⟨rfl, ht9⟩
  exact ⟨rfl, rfl, HN.out.quiet HZ.out ht9, (HT0.out.mono (by simp)).trans (ht9.mono (by simp))⟩
set_option maxHeartbeats 400000 in
theorem do_ret (B b mb sb : Nat) (X : List Nat) (m : M) (nx : Int) (vX : Nat → Value) (w : World) (h : PCt B b mb sb X m nx vX w) (op rd q1 q2 im : Int) (hz : 0 < m.size) (hf : Fine m) (K : Nat) (hcf : ∀ (args : Array Value) (w : World), (callFunc K args).run Tryz.prog w = .ok (.enter K args) w) (m2 : M) (nx2 : Int) (s0 : 0 ≤ m2.steps) (s1 : m2.steps ≤ 2000)
    (hK : ∀ w', PCt B b mb sb X m ((m.pc + 4) % 4294967296) vX w' → Calls Tryz.prog K #[.pointer (some ⟨b, 0, none⟩), .agg #[.int .i64 op, .int .i64 rd, .int .i64 q1, .int .i64 q2, .int .i32 im]] w' fun e w'' => e = .returned (.tuple #[]) ∧ PCt B b mb sb X m2 nx2 vX w'' ∧ ref.Touch [b, mb, sb] w' w'') :
    Calls Tryz.prog 39 #[.pointer (some ⟨b, 0, none⟩), .agg #[(.func (.func K) #[] #[]), .int .i64 op, .int .i64 rd, .int .i64 q1, .int .i64 q2, .int .i32 im]] w fun e w' => e = .returned (.tuple #[]) ∧ PCt B b mb sb X { m2 with pc := nx2, steps := m2.steps + 1 } nx2 vX w' ∧ ref.Touch [b, mb, sb] w w' := by
  have lb : b < w.heap.size := World.block_lt_of_cell? _ _ h.p.data
  have HN : Hid (PCt B b mb sb X m ((m.pc + 4) % 4294967296) vX ((w.setCell ⟨b, 34, none⟩ (.int .u32 ((m.pc + 4) % 4294967296))).alloc (.cells #[(.func (.func K) #[] #[]), .int .i64 op, .int .i64 rd, .int .i64 q1, .int .i64 q2, .int .i32 im] 86))) := h.lift ((at_next B b mb m nx vX _ h.p _).other ((ref.Touch.refl [] _).alloc _) (by simp) (by simp) hz) (((ref.Touch.refl _ _).setCell (by simp) _).alloc _) rfl rfl rfl
  have HT0 : Hid (ref.Touch [b] w ((w.setCell ⟨b, 34, none⟩ (.int .u32 ((m.pc + 4) % 4294967296))).alloc (.cells #[(.func (.func K) #[] #[]), .int .i64 op, .int .i64 rd, .int .i64 q1, .int .i64 q2, .int .i32 im] 86))) := ((ref.Touch.refl _ _).setCell (by simp) _).alloc _
  have cpc : w.cell? ⟨b, 33, none⟩ = some (.int .u32 m.pc) := h.p.cells 33 (by decide) (by decide)
  obtain ⟨u, cn⟩ := h.p.there 34 (by decide)
  have fn_ := h.p.free 34
  have HZ : Hid (0 < m.size) := hz
  have HK : Hid (∀ w', PCt B b mb sb X m ((m.pc + 4) % 4294967296) vX w' → Calls Tryz.prog K #[.pointer (some ⟨b, 0, none⟩), .agg #[.int .i64 op, .int .i64 rd, .int .i64 q1, .int .i64 q2, .int .i32 im]] w' fun e w'' => e = .returned (.tuple #[]) ∧ PCt B b mb sb X m2 nx2 vX w'' ∧ ref.Touch [b, mb, sb] w' w'') := hK
  clear h hK hf hz
  go_enter Tryz.func39, Tryz.ntmps39
  go_wp2_with fail
  refine (Calls.mono (HK.out _ HN.out) ?_)
  rintro e w9 ⟨rfl, hat, ht9⟩
  have HA : Hid (PCt B b mb sb X { m2 with pc := nx2, steps := m2.steps + 1 } nx2 vX ((w9.setCell ⟨b, 33, none⟩ (.int .u32 nx2)).setCell ⟨b, 39, none⟩ (.int .i64 (m2.steps + 1)))) := hat.lift (at_steps B b mb { m2 with pc := nx2 } nx2 vX _ (at_pc B b mb m2 nx2 vX w9 hat.p nx2) _) (((ref.Touch.refl _ _).setCell (by simp) _).setCell (by simp) _) rfl rfl rfl
  have HT : Hid (ref.Touch [b, mb, sb] w ((w9.setCell ⟨b, 33, none⟩ (.int .u32 nx2)).setCell ⟨b, 39, none⟩ (.int .i64 (m2.steps + 1)))) := (((HT0.out.mono (by simp)).trans ht9).setCell (by simp) _).setCell (by simp) _
  have c1 : w9.cell? ⟨b, 34, none⟩ = some (.int .u32 nx2) := hat.p.cells 34 (by decide) (by decide)
  have c2 : w9.cell? ⟨b, 39, none⟩ = some (.int .i64 m2.steps) := hat.p.cells 39 (by decide) (by decide)
  obtain ⟨u3, c3⟩ := hat.p.there 33 (by decide)
  have g1 := hat.p.free 33
  have g2 := hat.p.free 39
  clear hat ht9
  go_wp2_with fail
  go_end0
  exact ⟨rfl, HA.out, HT.out⟩
theorem run_callFunc_enter {P : Program} {f : FuncId} {fn : Func} (hf : P.funcs[f]? = some fn) (hname : (fn.name == "runtime.NumGoroutine") = false) (hb : fn.body.isNone = false) (args : Array Value) (w : World) : (callFunc f args).run P w = .ok (.enter f args) w := by
  have h1 : ¬ fn.name = "runtime.NumGoroutine" := ne_of_beq_false hname
  have h2 : ¬ fn.body = none := fun e => by rw [e] at hb; exact Bool.noConfusion hb
  simp [callFunc, go_sem, hf, h1, h2]
theorem cf_103 (args : Array Value) (w : World) : (callFunc 103 args).run Tryz.prog w = .ok (.enter 103 args) w := run_callFunc_enter Tryz.func103 (by kernel_rfl) (by kernel_rfl) args w
theorem cf_104 (args : Array Value) (w : World) : (callFunc 104 args).run Tryz.prog w = .ok (.enter 104 args) w := run_callFunc_enter Tryz.func104 (by kernel_rfl) (by kernel_rfl) args w
theorem cf_105 (args : Array Value) (w : World) : (callFunc 105 args).run Tryz.prog w = .ok (.enter 105 args) w := run_callFunc_enter Tryz.func105 (by kernel_rfl) (by kernel_rfl) args w
theorem cf_106 (args : Array Value) (w : World) : (callFunc 106 args).run Tryz.prog w = .ok (.enter 106 args) w := run_callFunc_enter Tryz.func106 (by kernel_rfl) (by kernel_rfl) args w
theorem cf_107 (args : Array Value) (w : World) : (callFunc 107 args).run Tryz.prog w = .ok (.enter 107 args) w := run_callFunc_enter Tryz.func107 (by kernel_rfl) (by kernel_rfl) args w
theorem cf_108 (args : Array Value) (w : World) : (callFunc 108 args).run Tryz.prog w = .ok (.enter 108 args) w := run_callFunc_enter Tryz.func108 (by kernel_rfl) (by kernel_rfl) args w
theorem cf_109 (args : Array Value) (w : World) : (callFunc 109 args).run Tryz.prog w = .ok (.enter 109 args) w := run_callFunc_enter Tryz.func109 (by kernel_rfl) (by kernel_rfl) args w
theorem cf_110 (args : Array Value) (w : World) : (callFunc 110 args).run Tryz.prog w = .ok (.enter 110 args) w := run_callFunc_enter Tryz.func110 (by kernel_rfl) (by kernel_rfl) args w
theorem cf_111 (args : Array Value) (w : World) : (callFunc 111 args).run Tryz.prog w = .ok (.enter 111 args) w := run_callFunc_enter Tryz.func111 (by kernel_rfl) (by kernel_rfl) args w
theorem cf_112 (args : Array Value) (w : World) : (callFunc 112 args).run Tryz.prog w = .ok (.enter 112 args) w := run_callFunc_enter Tryz.func112 (by kernel_rfl) (by kernel_rfl) args w
theorem cf_113 (args : Array Value) (w : World) : (callFunc 113 args).run Tryz.prog w = .ok (.enter 113 args) w := run_callFunc_enter Tryz.func113 (by kernel_rfl) (by kernel_rfl) args w
theorem cf_114 (args : Array Value) (w : World) : (callFunc 114 args).run Tryz.prog w = .ok (.enter 114 args) w := run_callFunc_enter Tryz.func114 (by kernel_rfl) (by kernel_rfl) args w
theorem cf_115 (args : Array Value) (w : World) : (callFunc 115 args).run Tryz.prog w = .ok (.enter 115 args) w := run_callFunc_enter Tryz.func115 (by kernel_rfl) (by kernel_rfl) args w
theorem cf_116 (args : Array Value) (w : World) : (callFunc 116 args).run Tryz.prog w = .ok (.enter 116 args) w := run_callFunc_enter Tryz.func116 (by kernel_rfl) (by kernel_rfl) args w
theorem cf_117 (args : Array Value) (w : World) : (callFunc 117 args).run Tryz.prog w = .ok (.enter 117 args) w := run_callFunc_enter Tryz.func117 (by kernel_rfl) (by kernel_rfl) args w
theorem cf_118 (args : Array Value) (w : World) : (callFunc 118 args).run Tryz.prog w = .ok (.enter 118 args) w := run_callFunc_enter Tryz.func118 (by kernel_rfl) (by kernel_rfl) args w
theorem cf_119 (args : Array Value) (w : World) : (callFunc 119 args).run Tryz.prog w = .ok (.enter 119 args) w := run_callFunc_enter Tryz.func119 (by kernel_rfl) (by kernel_rfl) args w
theorem cf_120 (args : Array Value) (w : World) : (callFunc 120 args).run Tryz.prog w = .ok (.enter 120 args) w := run_callFunc_enter Tryz.func120 (by kernel_rfl) (by kernel_rfl) args w
theorem cf_121 (args : Array Value) (w : World) : (callFunc 121 args).run Tryz.prog w = .ok (.enter 121 args) w := run_callFunc_enter Tryz.func121 (by kernel_rfl) (by kernel_rfl) args w
theorem cf_122 (args : Array Value) (w : World) : (callFunc 122 args).run Tryz.prog w = .ok (.enter 122 args) w := run_callFunc_enter Tryz.func122 (by kernel_rfl) (by kernel_rfl) args w
theorem cf_123 (args : Array Value) (w : World) : (callFunc 123 args).run Tryz.prog w = .ok (.enter 123 args) w := run_callFunc_enter Tryz.func123 (by kernel_rfl) (by kernel_rfl) args w
theorem cf_139 (args : Array Value) (w : World) : (callFunc 139 args).run Tryz.prog w = .ok (.enter 139 args) w := run_callFunc_enter Tryz.func139 (by kernel_rfl) (by kernel_rfl) args w
theorem cf_140 (args : Array Value) (w : World) : (callFunc 140 args).run Tryz.prog w = .ok (.enter 140 args) w := run_callFunc_enter Tryz.func140 (by kernel_rfl) (by kernel_rfl) args w
end Go.Proofs.YtmogjicompmkkaaGreatDoor.prog

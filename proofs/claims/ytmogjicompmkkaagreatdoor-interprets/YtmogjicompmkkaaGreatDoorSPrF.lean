import Derived.Test.YtmogjicompmkkaaGreatDoorSPrE
import Derived.Test.YtmogjicompmkkaaGreatDoorSGf
namespace Go.Proofs.YtmogjicompmkkaaGreatDoor.prog
set_option maxHeartbeats 4000000
open Go.ChangeShapes Go.WideShapes Go.ChangeAt Go.RowKit Go.Proofs.YtmogjicompmkkaaGreatDoor.nums Go.Proofs.YtmogjicompmkkaaGreatDoor.dnums Go.Proofs.YtmogjicompmkkaaGreatDoor.mach
set_option linter.unusedVariables false
set_option linter.unusedSimpArgs false
set_option maxRecDepth 10000
attribute [local go_sem ↓] Go.wp_at_zero Go.wp_at_succ
theorem load1_fa (B b mb : Nat) (m : M) (nx : Int) (vX : Nat → Value) (w : World) (h : PAt B b mb m nx vX w) (op rd q1 q2 im : Int) (rd0 : 0 ≤ rd) (rd1 : rd ≤ 31) (q10 : 0 ≤ q1) (q11 : q1 ≤ 31) (q20 : 0 ≤ q2) (q21 : q2 ≤ 31) (i0 : -2147483648 ≤ im) (i1 : im ≤ 2147483647) (hz : 0 < m.size) (hf : Fine m) (k : Nat) (hk : ((m.regs q1.toNat + im) % 4294967296) = k) (hl : lies m k 1 = false) :
    Calls Tryz.prog 133 #[.pointer (some ⟨b, 0, none⟩), .agg #[.int .i64 op, .int .i64 rd, .int .i64 q1, .int .i64 q2, .int .i32 im], .int .u32 1] w fun e w' => e = .panicked (trapV 6) ∧ ref.Touch [] w w' := by
  obtain ⟨lb, HH, HHt, HZ, HF, HSk, cpc, ra0, ra1, rb0, rb1, pc0, pc1, wi⟩ := pre_any B b mb m nx vX w h op rd q1 q2 im hz hf
  obtain ⟨lmb, HSk2⟩ := pre2_any B b mb m nx vX w h op rd q1 q2 im hz
  clear h
  have wa : IntKind.u32.wrap (m.regs q1.toNat + im % 4294967296) = (k : Int) := by rw [IntKind.wrap_u32, ← hk]; omega
  have k1 : (k : Int) ≤ 4294967295 := by omega
  have k0 : (0 : Int) ≤ (k : Int) := by omega
  have z5 := hf.size
  clear hz hf
  go_enter Tryz.func133, Tryz.ntmps133
  go_wp2_with fail
  refine wp_region_held_drew (S := (sbx w b m op rd q1 q2 im)) kR (HSk.out _ (ref.Touch.refl _ _).drew cpc) (fun hHeld => ?_)
  refine tkk 0 8 ?_
  refine tkk 1 9 ?_
  refine tkk 3 11 ?_
  refine tkk 4 12 ?_
  refine tkk 5 13 ?_
  try simp only [Act.put, ly1, ly2, ly3]
  refine rdy 2 (fun K hK => ?_)
  go_simp
  refine (Calls.mono (first_any B b mb m nx vX _ (HHt.out _ tch) op rd q1 q2 im rd0 rd1 q10 q11 q20 q21 i0 i1 HZ.out) ?_)
  rintro e w1 ⟨rfl, ht'⟩
  obtain ⟨t1, p1⟩ := tpp HHt ht'
  clear ht'
  refine hK.out _ _ (HSk.out _ (t1.mono sP) p1) (fun hHeld => ?_)
  clear hK K
  try simp only [Act.put, ly1, ly2, ly3]
  refine tkk 6 14 ?_
  refine tkk 7 7 ?_
  try simp only [Act.put, ly1, ly2, ly3]
  refine wpAnyH_done kR ?_ _
  go_wp2_with (first | (go_at_call 60; refine (Calls.mono (guard1_fa B b mb m nx vX _ (HHt.out _ tch) (k : Int) 5 6 k0 k1 HF.out.size hl) ?_); rintro e w' ⟨rfl, hw'⟩; subst w'))
  exact ⟨rfl, rfl, tcb⟩
theorem load1_ok (B b mb : Nat) (m : M) (nx : Int) (vX : Nat → Value) (w : World) (h : PAt B b mb m nx vX w) (op rd q1 q2 im : Int) (rd0 : 0 ≤ rd) (rd1 : rd ≤ 31) (q10 : 0 ≤ q1) (q11 : q1 ≤ 31) (q20 : 0 ≤ q2) (q21 : q2 ≤ 31) (i0 : -2147483648 ≤ im) (i1 : im ≤ 2147483647) (hz : 0 < m.size) (hf : Fine m) (k : Nat) (hk : ((m.regs q1.toNat + im) % 4294967296) = k) (hl : lies m k 1 = true) :
    Calls Tryz.prog 133 #[.pointer (some ⟨b, 0, none⟩), .agg #[.int .i64 op, .int .i64 rd, .int .i64 q1, .int .i64 q2, .int .i32 im], .int .u32 1] w fun e w' => e = .returned (.int .u32 (ld m.mem k 1)) ∧ ref.Touch [] w w' := by
  obtain ⟨lb, HH, HHt, HZ, HF, HSk, cpc, ra0, ra1, rb0, rb1, pc0, pc1, wi⟩ := pre_any B b mb m nx vX w h op rd q1 q2 im hz hf
  obtain ⟨lmb, HSk2⟩ := pre2_any B b mb m nx vX w h op rd q1 q2 im hz
  clear h
  have wa : IntKind.u32.wrap (m.regs q1.toNat + im % 4294967296) = (k : Int) := by rw [IntKind.wrap_u32, ← hk]; omega
  have k1 : (k : Int) ≤ 4294967295 := by omega
  have k0 : (0 : Int) ≤ (k : Int) := by omega
  have z5 := hf.size
  have hk4 : k + 1 ≤ m.size := by simp [lies] at hl; omega
  clear hz hf
  go_enter Tryz.func133, Tryz.ntmps133
  go_wp2_with fail
  refine wp_region_held_drew (S := (sbx w b m op rd q1 q2 im)) kR (HSk.out _ (ref.Touch.refl _ _).drew cpc) (fun hHeld => ?_)
  refine tkk 0 8 ?_
  refine tkk 1 9 ?_
  refine tkk 3 11 ?_
  refine tkk 4 12 ?_
  refine tkk 5 13 ?_
  try simp only [Act.put, ly1, ly2, ly3]
  refine rdy 2 (fun K hK => ?_)
  go_simp
  refine (Calls.mono (first_any B b mb m nx vX _ (HHt.out _ tch) op rd q1 q2 im rd0 rd1 q10 q11 q20 q21 i0 i1 HZ.out) ?_)
  rintro e w1 ⟨rfl, ht'⟩
  obtain ⟨t1, p1⟩ := tpp HHt ht'
  clear ht'
  refine hK.out _ _ (HSk.out _ (t1.mono sP) p1) (fun hHeld => ?_)
  clear hK K
  try simp only [Act.put, ly1, ly2, ly3]
  refine tkk 6 14 ?_
  refine tkk 7 7 ?_
  try simp only [Act.put, ly1, ly2, ly3]
  refine wpAnyH_done kR ?_ _
  go_wp2_with (first | (go_at_call 60; refine (Calls.mono (guard1_ok B b mb m nx vX _ (HHt.out _ tch) (k : Int) 5 6 k0 k1 HF.out.size hl) ?_); rintro e w' ⟨rfl, hw'⟩; subst w') | (go_at_call 90; refine (Calls.mono (read_1 B b mb m nx vX _ (HHt.out _ tch) k hk4 HF.out.size HF.out.mem) ?_); rintro e w8 ⟨rfl, ht8⟩; have HT : Hid (ref.Touch [] (bx w op rd q1 q2 im) w8) := ref.Touch.trans tch ht8; clear ht8))
  go_ret
  exact ⟨rfl, ((ref.Touch.refl _ _).alloc _).trans HT.out⟩
theorem store1_fa (B b mb : Nat) (m : M) (nx : Int) (vX : Nat → Value) (w : World) (h : PAt B b mb m nx vX w) (op rd q1 q2 im : Int) (rd0 : 0 ≤ rd) (rd1 : rd ≤ 31) (q10 : 0 ≤ q1) (q11 : q1 ≤ 31) (q20 : 0 ≤ q2) (q21 : q2 ≤ 31) (i0 : -2147483648 ≤ im) (i1 : im ≤ 2147483647) (hz : 0 < m.size) (hf : Fine m) (k : Nat) (hk : ((m.regs q1.toNat + im) % 4294967296) = k) (hl : lies m k 1 = false) :
    Calls Tryz.prog 134 #[.pointer (some ⟨b, 0, none⟩), .agg #[.int .i64 op, .int .i64 rd, .int .i64 q1, .int .i64 q2, .int .i32 im], .int .u32 1] w fun e w' => e = .panicked (trapV 8) ∧ ref.Touch [] w w' := by
  obtain ⟨lb, HH, HHt, HZ, HF, HSk, cpc, ra0, ra1, rb0, rb1, pc0, pc1, wi⟩ := pre_any B b mb m nx vX w h op rd q1 q2 im hz hf
  obtain ⟨lmb, HSk2⟩ := pre2_any B b mb m nx vX w h op rd q1 q2 im hz
  clear h
  have wa : IntKind.u32.wrap (m.regs q1.toNat + im % 4294967296) = (k : Int) := by rw [IntKind.wrap_u32, ← hk]; omega
  have k1 : (k : Int) ≤ 4294967295 := by omega
  have k0 : (0 : Int) ≤ (k : Int) := by omega
  have z5 := hf.size
  clear hz hf
  go_enter Tryz.func134, Tryz.ntmps134
  go_wp2_with fail
  refine wp_region_held_drew (S := (sbx w b m op rd q1 q2 im)) kR (HSk.out _ (ref.Touch.refl _ _).drew cpc) (fun hHeld => ?_)
  refine tkk 0 7 ?_
  refine tkk 1 8 ?_
  refine tkk 3 10 ?_
  refine tkk 4 11 ?_
  refine tkk 5 12 ?_
  try simp only [Act.put, ly1, ly2, ly3]
  refine rdy 2 (fun K hK => ?_)
  go_simp
  refine (Calls.mono (first_any B b mb m nx vX _ (HHt.out _ tch) op rd q1 q2 im rd0 rd1 q10 q11 q20 q21 i0 i1 HZ.out) ?_)
  rintro e w1 ⟨rfl, ht'⟩
  obtain ⟨t1, p1⟩ := tpp HHt ht'
  clear ht'
  refine hK.out _ _ (HSk.out _ (t1.mono sP) p1) (fun hHeld => ?_)
  clear hK K
  try simp only [Act.put, ly1, ly2, ly3]
  refine tkk 6 13 ?_
  refine tkk 7 6 ?_
  try simp only [Act.put, ly1, ly2, ly3]
  refine wpAnyH_done kR ?_ _
  go_wp2_with (first | (go_at_call 60; refine (Calls.mono (guard1_fa B b mb m nx vX _ (HHt.out _ tch) (k : Int) 7 8 k0 k1 HF.out.size hl) ?_); rintro e w' ⟨rfl, hw'⟩; subst w'))
  exact ⟨rfl, rfl, tcb⟩
theorem store1_ok (B b mb sb : Nat) (X : List Nat) (m : M) (nx : Int) (vX : Nat → Value) (w : World) (hc0 : PCt B b mb sb X m nx vX w) (op rd q1 q2 im : Int) (rd0 : 0 ≤ rd) (rd1 : rd ≤ 31) (q10 : 0 ≤ q1) (q11 : q1 ≤ 31) (q20 : 0 ≤ q2) (q21 : q2 ≤ 31) (i0 : -2147483648 ≤ im) (i1 : im ≤ 2147483647) (hz : 0 < m.size) (hf : Fine m) (k : Nat) (hk : ((m.regs q1.toNat + im) % 4294967296) = k) (hl : lies m k 1 = true) :
    Calls Tryz.prog 134 #[.pointer (some ⟨b, 0, none⟩), .agg #[.int .i64 op, .int .i64 rd, .int .i64 q1, .int .i64 q2, .int .i32 im], .int .u32 1] w fun e w' => e = .returned (.tuple #[]) ∧ PCt B b mb sb X (wrote { m with mem := st m.mem k 1 (m.regs q2.toNat) } k 1) nx vX w' ∧ ref.Touch [b, mb, sb] w w' := by
  have h := hc0.p
  have HC : Hid (∀ w', ref.Touch [] (bx w op rd q1 q2 im) w' → PCt B b mb sb X m nx vX w') := fun w' t => hc0.quiet hz (((ref.Touch.refl _ _).alloc _).trans t)
  clear hc0
  obtain ⟨lb, HH, HHt, HZ, HF, HSk, cpc, ra0, ra1, rb0, rb1, pc0, pc1, wi⟩ := pre_any B b mb m nx vX w h op rd q1 q2 im hz hf
  obtain ⟨lmb, HSk2⟩ := pre2_any B b mb m nx vX w h op rd q1 q2 im hz
  clear h
  have wa : IntKind.u32.wrap (m.regs q1.toNat + im % 4294967296) = (k : Int) := by rw [IntKind.wrap_u32, ← hk]; omega
  have k1 : (k : Int) ≤ 4294967295 := by omega
  have k0 : (0 : Int) ≤ (k : Int) := by omega
  have z5 := hf.size
  have hk4 : k + 1 ≤ m.size := by simp [lies] at hl; omega
  clear hz hf
  go_enter Tryz.func134, Tryz.ntmps134
  go_wp2_with fail
  refine wp_region_held_drew (S := (sbx w b m op rd q1 q2 im)) kR (HSk.out _ (ref.Touch.refl _ _).drew cpc) (fun hHeld => ?_)
  refine tkk 0 7 ?_
  refine tkk 1 8 ?_
  refine tkk 3 10 ?_
  refine tkk 4 11 ?_
  refine tkk 5 12 ?_
  try simp only [Act.put, ly1, ly2, ly3]
  refine rdy 2 (fun K hK => ?_)
  go_simp
  refine (Calls.mono (first_any B b mb m nx vX _ (HHt.out _ tch) op rd q1 q2 im rd0 rd1 q10 q11 q20 q21 i0 i1 HZ.out) ?_)
  rintro e w1 ⟨rfl, ht'⟩
  obtain ⟨t1, p1⟩ := tpp HHt ht'
  clear ht'
  refine hK.out _ _ (HSk.out _ (t1.mono sP) p1) (fun hHeld => ?_)
  clear hK K
  try simp only [Act.put, ly1, ly2, ly3]
  refine tkk 6 13 ?_
  refine tkk 7 6 ?_
  try simp only [Act.put, ly1, ly2, ly3]
  refine wpAnyH_done kR ?_ _
  have c5 : w1.cell? ⟨w.heap.size, 3, none⟩ = some (.int .i64 q2) := hHeld.2.2.2.1
  have hb1 := hHeld
  obtain ⟨x0, x1, x2, x3, x4, x5⟩ := hb1
  go_wp2_with (first | (go_at_call 60; refine (Calls.mono (guard1_ok B b mb m nx vX _ (HHt.out _ tch) (k : Int) 7 8 k0 k1 HF.out.size hl) ?_); rintro e w' ⟨rfl, hw'⟩; subst w') | (go_at_call 130; refine (Calls.mono (second_any B b mb m nx vX _ (HHt.out _ tch) op rd q1 q2 im rd0 rd1 q10 q11 q20 q21 i0 i1 HZ.out) ?_); rintro e w2 ⟨rfl, ht'⟩; have t2 : ref.Touch [] (bx w op rd q1 q2 im) w2 := ref.Touch.trans tch ht'; clear ht') | (go_at_call 141; refine (Calls.mono (write_1 B b mb sb X m nx vX _ (HC.out _ tch) k (m.regs q2.toNat) rb0 rb1 hk4 HF.out.size) ?_); rintro e w8 ⟨rfl, hat, ht8⟩; have HA : Hid (PCt B b mb sb X (wrote { m with mem := st m.mem k 1 (m.regs q2.toNat) } k 1) nx vX w8) := hat; have HT : Hid (ref.Touch [b, mb, sb] (bx w op rd q1 q2 im) w8) := ref.Touch.trans (ref.Touch.mono (S := []) tch sP) ht8; clear hat ht8))
  go_end0
  exact ⟨rfl, HA.out, ((ref.Touch.refl _ _).alloc _).trans HT.out⟩
theorem load2_al (B b mb : Nat) (m : M) (nx : Int) (vX : Nat → Value) (w : World) (h : PAt B b mb m nx vX w) (op rd q1 q2 im : Int) (rd0 : 0 ≤ rd) (rd1 : rd ≤ 31) (q10 : 0 ≤ q1) (q11 : q1 ≤ 31) (q20 : 0 ≤ q2) (q21 : q2 ≤ 31) (i0 : -2147483648 ≤ im) (i1 : im ≤ 2147483647) (hz : 0 < m.size) (hf : Fine m) (k : Nat) (hk : ((m.regs q1.toNat + im) % 4294967296) = k) (ha : ¬ (k : Int) % 2 = 0) :
    Calls Tryz.prog 133 #[.pointer (some ⟨b, 0, none⟩), .agg #[.int .i64 op, .int .i64 rd, .int .i64 q1, .int .i64 q2, .int .i32 im], .int .u32 2] w fun e w' => e = .panicked (trapV 5) ∧ ref.Touch [] w w' := by
  obtain ⟨lb, HH, HHt, HZ, HF, HSk, cpc, ra0, ra1, rb0, rb1, pc0, pc1, wi⟩ := pre_any B b mb m nx vX w h op rd q1 q2 im hz hf
  obtain ⟨lmb, HSk2⟩ := pre2_any B b mb m nx vX w h op rd q1 q2 im hz
  clear h
  have wa : IntKind.u32.wrap (m.regs q1.toNat + im % 4294967296) = (k : Int) := by rw [IntKind.wrap_u32, ← hk]; omega
  have k1 : (k : Int) ≤ 4294967295 := by omega
  have k0 : (0 : Int) ≤ (k : Int) := by omega
  have z5 := hf.size
  clear hz hf
  go_enter Tryz.func133, Tryz.ntmps133
  go_wp2_with fail
  refine wp_region_held_drew (S := (sbx w b m op rd q1 q2 im)) kR (HSk.out _ (ref.Touch.refl _ _).drew cpc) (fun hHeld => ?_)
  refine tkk 0 8 ?_
  refine tkk 1 9 ?_
  refine tkk 3 11 ?_
  refine tkk 4 12 ?_
  refine tkk 5 13 ?_
  try simp only [Act.put, ly1, ly2, ly3]
  refine rdy 2 (fun K hK => ?_)
  go_simp
  refine (Calls.mono (first_any B b mb m nx vX _ (HHt.out _ tch) op rd q1 q2 im rd0 rd1 q10 q11 q20 q21 i0 i1 HZ.out) ?_)
  rintro e w1 ⟨rfl, ht'⟩
  obtain ⟨t1, p1⟩ := tpp HHt ht'
  clear ht'
  refine hK.out _ _ (HSk.out _ (t1.mono sP) p1) (fun hHeld => ?_)
  clear hK K
  try simp only [Act.put, ly1, ly2, ly3]
  refine tkk 6 14 ?_
  refine tkk 7 7 ?_
  try simp only [Act.put, ly1, ly2, ly3]
  refine wpAnyH_done kR ?_ _
  go_wp2_with (first | (go_at_call 60; refine (Calls.mono (guard2_al B b mb m nx vX _ (HHt.out _ tch) (k : Int) 5 6 k0 k1 HF.out.size ha ) ?_); rintro e w' ⟨rfl, hw'⟩; subst w'))
  exact ⟨rfl, rfl, tcb⟩
theorem load2_fa (B b mb : Nat) (m : M) (nx : Int) (vX : Nat → Value) (w : World) (h : PAt B b mb m nx vX w) (op rd q1 q2 im : Int) (rd0 : 0 ≤ rd) (rd1 : rd ≤ 31) (q10 : 0 ≤ q1) (q11 : q1 ≤ 31) (q20 : 0 ≤ q2) (q21 : q2 ≤ 31) (i0 : -2147483648 ≤ im) (i1 : im ≤ 2147483647) (hz : 0 < m.size) (hf : Fine m) (k : Nat) (hk : ((m.regs q1.toNat + im) % 4294967296) = k) (ha : (k : Int) % 2 = 0) (hl : lies m k 2 = false) :
    Calls Tryz.prog 133 #[.pointer (some ⟨b, 0, none⟩), .agg #[.int .i64 op, .int .i64 rd, .int .i64 q1, .int .i64 q2, .int .i32 im], .int .u32 2] w fun e w' => e = .panicked (trapV 6) ∧ ref.Touch [] w w' := by
  obtain ⟨lb, HH, HHt, HZ, HF, HSk, cpc, ra0, ra1, rb0, rb1, pc0, pc1, wi⟩ := pre_any B b mb m nx vX w h op rd q1 q2 im hz hf
  obtain ⟨lmb, HSk2⟩ := pre2_any B b mb m nx vX w h op rd q1 q2 im hz
  clear h
  have wa : IntKind.u32.wrap (m.regs q1.toNat + im % 4294967296) = (k : Int) := by rw [IntKind.wrap_u32, ← hk]; omega
  have k1 : (k : Int) ≤ 4294967295 := by omega
  have k0 : (0 : Int) ≤ (k : Int) := by omega
  have z5 := hf.size
  clear hz hf
  go_enter Tryz.func133, Tryz.ntmps133
  go_wp2_with fail
  refine wp_region_held_drew (S := (sbx w b m op rd q1 q2 im)) kR (HSk.out _ (ref.Touch.refl _ _).drew cpc) (fun hHeld => ?_)
  refine tkk 0 8 ?_
  refine tkk 1 9 ?_
  refine tkk 3 11 ?_
  refine tkk 4 12 ?_
  refine tkk 5 13 ?_
  try simp only [Act.put, ly1, ly2, ly3]
  refine rdy 2 (fun K hK => ?_)
  go_simp
  refine (Calls.mono (first_any B b mb m nx vX _ (HHt.out _ tch) op rd q1 q2 im rd0 rd1 q10 q11 q20 q21 i0 i1 HZ.out) ?_)
  rintro e w1 ⟨rfl, ht'⟩
  obtain ⟨t1, p1⟩ := tpp HHt ht'
  clear ht'
  refine hK.out _ _ (HSk.out _ (t1.mono sP) p1) (fun hHeld => ?_)
  clear hK K
  try simp only [Act.put, ly1, ly2, ly3]
  refine tkk 6 14 ?_
  refine tkk 7 7 ?_
  try simp only [Act.put, ly1, ly2, ly3]
  refine wpAnyH_done kR ?_ _
  go_wp2_with (first | (go_at_call 60; refine (Calls.mono (guard2_fa B b mb m nx vX _ (HHt.out _ tch) (k : Int) 5 6 k0 k1 HF.out.size ha hl) ?_); rintro e w' ⟨rfl, hw'⟩; subst w'))
  exact ⟨rfl, rfl, tcb⟩
theorem load2_ok (B b mb : Nat) (m : M) (nx : Int) (vX : Nat → Value) (w : World) (h : PAt B b mb m nx vX w) (op rd q1 q2 im : Int) (rd0 : 0 ≤ rd) (rd1 : rd ≤ 31) (q10 : 0 ≤ q1) (q11 : q1 ≤ 31) (q20 : 0 ≤ q2) (q21 : q2 ≤ 31) (i0 : -2147483648 ≤ im) (i1 : im ≤ 2147483647) (hz : 0 < m.size) (hf : Fine m) (k : Nat) (hk : ((m.regs q1.toNat + im) % 4294967296) = k) (ha : (k : Int) % 2 = 0) (hl : lies m k 2 = true) :
    Calls Tryz.prog 133 #[.pointer (some ⟨b, 0, none⟩), .agg #[.int .i64 op, .int .i64 rd, .int .i64 q1, .int .i64 q2, .int .i32 im], .int .u32 2] w fun e w' => e = .returned (.int .u32 (ld m.mem k 2)) ∧ ref.Touch [] w w' := by
  obtain ⟨lb, HH, HHt, HZ, HF, HSk, cpc, ra0, ra1, rb0, rb1, pc0, pc1, wi⟩ := pre_any B b mb m nx vX w h op rd q1 q2 im hz hf
  obtain ⟨lmb, HSk2⟩ := pre2_any B b mb m nx vX w h op rd q1 q2 im hz
  clear h
  have wa : IntKind.u32.wrap (m.regs q1.toNat + im % 4294967296) = (k : Int) := by rw [IntKind.wrap_u32, ← hk]; omega
  have k1 : (k : Int) ≤ 4294967295 := by omega
  have k0 : (0 : Int) ≤ (k : Int) := by omega
  have z5 := hf.size
  have hk4 : k + 2 ≤ m.size := by simp [lies] at hl; omega
  clear hz hf
  go_enter Tryz.func133, Tryz.ntmps133
  go_wp2_with fail
  refine wp_region_held_drew (S := (sbx w b m op rd q1 q2 im)) kR (HSk.out _ (ref.Touch.refl _ _).drew cpc) (fun hHeld => ?_)
  refine tkk 0 8 ?_
  refine tkk 1 9 ?_
  refine tkk 3 11 ?_
  refine tkk 4 12 ?_
  refine tkk 5 13 ?_
  try simp only [Act.put, ly1, ly2, ly3]
  refine rdy 2 (fun K hK => ?_)
  go_simp
  refine (Calls.mono (first_any B b mb m nx vX _ (HHt.out _ tch) op rd q1 q2 im rd0 rd1 q10 q11 q20 q21 i0 i1 HZ.out) ?_)
  rintro e w1 ⟨rfl, ht'⟩
  obtain ⟨t1, p1⟩ := tpp HHt ht'
  clear ht'
  refine hK.out _ _ (HSk.out _ (t1.mono sP) p1) (fun hHeld => ?_)
  clear hK K
  try simp only [Act.put, ly1, ly2, ly3]
  refine tkk 6 14 ?_
  refine tkk 7 7 ?_
  try simp only [Act.put, ly1, ly2, ly3]
  refine wpAnyH_done kR ?_ _
  go_wp2_with (first | (go_at_call 60; refine (Calls.mono (guard2_ok B b mb m nx vX _ (HHt.out _ tch) (k : Int) 5 6 k0 k1 HF.out.size ha hl) ?_); rintro e w' ⟨rfl, hw'⟩; subst w') | (go_at_call 90; refine (Calls.mono (read_2 B b mb m nx vX _ (HHt.out _ tch) k hk4 HF.out.size HF.out.mem) ?_); rintro e w8 ⟨rfl, ht8⟩; have HT : Hid (ref.Touch [] (bx w op rd q1 q2 im) w8) := ref.Touch.trans tch ht8; clear ht8))
  go_ret
  exact ⟨rfl, ((ref.Touch.refl _ _).alloc _).trans HT.out⟩
theorem store2_al (B b mb : Nat) (m : M) (nx : Int) (vX : Nat → Value) (w : World) (h : PAt B b mb m nx vX w) (op rd q1 q2 im : Int) (rd0 : 0 ≤ rd) (rd1 : rd ≤ 31) (q10 : 0 ≤ q1) (q11 : q1 ≤ 31) (q20 : 0 ≤ q2) (q21 : q2 ≤ 31) (i0 : -2147483648 ≤ im) (i1 : im ≤ 2147483647) (hz : 0 < m.size) (hf : Fine m) (k : Nat) (hk : ((m.regs q1.toNat + im) % 4294967296) = k) (ha : ¬ (k : Int) % 2 = 0) :
    Calls Tryz.prog 134 #[.pointer (some ⟨b, 0, none⟩), .agg #[.int .i64 op, .int .i64 rd, .int .i64 q1, .int .i64 q2, .int .i32 im], .int .u32 2] w fun e w' => e = .panicked (trapV 7) ∧ ref.Touch [] w w' := by
  obtain ⟨lb, HH, HHt, HZ, HF, HSk, cpc, ra0, ra1, rb0, rb1, pc0, pc1, wi⟩ := pre_any B b mb m nx vX w h op rd q1 q2 im hz hf
  obtain ⟨lmb, HSk2⟩ := pre2_any B b mb m nx vX w h op rd q1 q2 im hz
  clear h
  have wa : IntKind.u32.wrap (m.regs q1.toNat + im % 4294967296) = (k : Int) := by rw [IntKind.wrap_u32, ← hk]; omega
  have k1 : (k : Int) ≤ 4294967295 := by omega
  have k0 : (0 : Int) ≤ (k : Int) := by omega
  have z5 := hf.size
  clear hz hf
  go_enter Tryz.func134, Tryz.ntmps134
  go_wp2_with fail
  refine wp_region_held_drew (S := (sbx w b m op rd q1 q2 im)) kR (HSk.out _ (ref.Touch.refl _ _).drew cpc) (fun hHeld => ?_)
  refine tkk 0 7 ?_
  refine tkk 1 8 ?_
  refine tkk 3 10 ?_
  refine tkk 4 11 ?_
  refine tkk 5 12 ?_
  try simp only [Act.put, ly1, ly2, ly3]
  refine rdy 2 (fun K hK => ?_)
  go_simp
  refine (Calls.mono (first_any B b mb m nx vX _ (HHt.out _ tch) op rd q1 q2 im rd0 rd1 q10 q11 q20 q21 i0 i1 HZ.out) ?_)
  rintro e w1 ⟨rfl, ht'⟩
  obtain ⟨t1, p1⟩ := tpp HHt ht'
  clear ht'
  refine hK.out _ _ (HSk.out _ (t1.mono sP) p1) (fun hHeld => ?_)
  clear hK K
  try simp only [Act.put, ly1, ly2, ly3]
  refine tkk 6 13 ?_
  refine tkk 7 6 ?_
  try simp only [Act.put, ly1, ly2, ly3]
  refine wpAnyH_done kR ?_ _
  go_wp2_with (first | (go_at_call 60; refine (Calls.mono (guard2_al B b mb m nx vX _ (HHt.out _ tch) (k : Int) 7 8 k0 k1 HF.out.size ha ) ?_); rintro e w' ⟨rfl, hw'⟩; subst w'))
  exact ⟨rfl, rfl, tcb⟩
theorem store2_fa (B b mb : Nat) (m : M) (nx : Int) (vX : Nat → Value) (w : World) (h : PAt B b mb m nx vX w) (op rd q1 q2 im : Int) (rd0 : 0 ≤ rd) (rd1 : rd ≤ 31) (q10 : 0 ≤ q1) (q11 : q1 ≤ 31) (q20 : 0 ≤ q2) (q21 : q2 ≤ 31) (i0 : -2147483648 ≤ im) (i1 : im ≤ 2147483647) (hz : 0 < m.size) (hf : Fine m) (k : Nat) (hk : ((m.regs q1.toNat + im) % 4294967296) = k) (ha : (k : Int) % 2 = 0) (hl : lies m k 2 = false) :
    Calls Tryz.prog 134 #[.pointer (some ⟨b, 0, none⟩), .agg #[.int .i64 op, .int .i64 rd, .int .i64 q1, .int .i64 q2, .int .i32 im], .int .u32 2] w fun e w' => e = .panicked (trapV 8) ∧ ref.Touch [] w w' := by
  obtain ⟨lb, HH, HHt, HZ, HF, HSk, cpc, ra0, ra1, rb0, rb1, pc0, pc1, wi⟩ := pre_any B b mb m nx vX w h op rd q1 q2 im hz hf
  obtain ⟨lmb, HSk2⟩ := pre2_any B b mb m nx vX w h op rd q1 q2 im hz
  clear h
  have wa : IntKind.u32.wrap (m.regs q1.toNat + im % 4294967296) = (k : Int) := by rw [IntKind.wrap_u32, ← hk]; omega
  have k1 : (k : Int) ≤ 4294967295 := by omega
  have k0 : (0 : Int) ≤ (k : Int) := by omega
  have z5 := hf.size
  clear hz hf
  go_enter Tryz.func134, Tryz.ntmps134
  go_wp2_with fail
  refine wp_region_held_drew (S := (sbx w b m op rd q1 q2 im)) kR (HSk.out _ (ref.Touch.refl _ _).drew cpc) (fun hHeld => ?_)
  refine tkk 0 7 ?_
  refine tkk 1 8 ?_
  refine tkk 3 10 ?_
  refine tkk 4 11 ?_
  refine tkk 5 12 ?_
  try simp only [Act.put, ly1, ly2, ly3]
  refine rdy 2 (fun K hK => ?_)
  go_simp
  refine (Calls.mono (first_any B b mb m nx vX _ (HHt.out _ tch) op rd q1 q2 im rd0 rd1 q10 q11 q20 q21 i0 i1 HZ.out) ?_)
  rintro e w1 ⟨rfl, ht'⟩
  obtain ⟨t1, p1⟩ := tpp HHt ht'
  clear ht'
  refine hK.out _ _ (HSk.out _ (t1.mono sP) p1) (fun hHeld => ?_)
  clear hK K
  try simp only [Act.put, ly1, ly2, ly3]
  refine tkk 6 13 ?_
  refine tkk 7 6 ?_
  try simp only [Act.put, ly1, ly2, ly3]
  refine wpAnyH_done kR ?_ _
  go_wp2_with (first | (go_at_call 60; refine (Calls.mono (guard2_fa B b mb m nx vX _ (HHt.out _ tch) (k : Int) 7 8 k0 k1 HF.out.size ha hl) ?_); rintro e w' ⟨rfl, hw'⟩; subst w'))
  exact ⟨rfl, rfl, tcb⟩
theorem store2_ok (B b mb sb : Nat) (X : List Nat) (m : M) (nx : Int) (vX : Nat → Value) (w : World) (hc0 : PCt B b mb sb X m nx vX w) (op rd q1 q2 im : Int) (rd0 : 0 ≤ rd) (rd1 : rd ≤ 31) (q10 : 0 ≤ q1) (q11 : q1 ≤ 31) (q20 : 0 ≤ q2) (q21 : q2 ≤ 31) (i0 : -2147483648 ≤ im) (i1 : im ≤ 2147483647) (hz : 0 < m.size) (hf : Fine m) (k : Nat) (hk : ((m.regs q1.toNat + im) % 4294967296) = k) (ha : (k : Int) % 2 = 0) (hl : lies m k 2 = true) :
    Calls Tryz.prog 134 #[.pointer (some ⟨b, 0, none⟩), .agg #[.int .i64 op, .int .i64 rd, .int .i64 q1, .int .i64 q2, .int .i32 im], .int .u32 2] w fun e w' => e = .returned (.tuple #[]) ∧ PCt B b mb sb X (wrote { m with mem := st m.mem k 2 (m.regs q2.toNat) } k 2) nx vX w' ∧ ref.Touch [b, mb, sb] w w' := by
  have h := hc0.p
  have HC : Hid (∀ w', ref.Touch [] (bx w op rd q1 q2 im) w' → PCt B b mb sb X m nx vX w') := fun w' t => hc0.quiet hz (((ref.Touch.refl _ _).alloc _).trans t)
  clear hc0
  obtain ⟨lb, HH, HHt, HZ, HF, HSk, cpc, ra0, ra1, rb0, rb1, pc0, pc1, wi⟩ := pre_any B b mb m nx vX w h op rd q1 q2 im hz hf
  obtain ⟨lmb, HSk2⟩ := pre2_any B b mb m nx vX w h op rd q1 q2 im hz
  clear h
  have wa : IntKind.u32.wrap (m.regs q1.toNat + im % 4294967296) = (k : Int) := by rw [IntKind.wrap_u32, ← hk]; omega
  have k1 : (k : Int) ≤ 4294967295 := by omega
  have k0 : (0 : Int) ≤ (k : Int) := by omega
  have z5 := hf.size
  have hk4 : k + 2 ≤ m.size := by simp [lies] at hl; omega
  clear hz hf
  go_enter Tryz.func134, Tryz.ntmps134
  go_wp2_with fail
  refine wp_region_held_drew (S := (sbx w b m op rd q1 q2 im)) kR (HSk.out _ (ref.Touch.refl _ _).drew cpc) (fun hHeld => ?_)
  refine tkk 0 7 ?_
  refine tkk 1 8 ?_
  refine tkk 3 10 ?_
  refine tkk 4 11 ?_
  refine tkk 5 12 ?_
  try simp only [Act.put, ly1, ly2, ly3]
  refine rdy 2 (fun K hK => ?_)
  go_simp
  refine (Calls.mono (first_any B b mb m nx vX _ (HHt.out _ tch) op rd q1 q2 im rd0 rd1 q10 q11 q20 q21 i0 i1 HZ.out) ?_)
  rintro e w1 ⟨rfl, ht'⟩
  obtain ⟨t1, p1⟩ := tpp HHt ht'
  clear ht'
  refine hK.out _ _ (HSk.out _ (t1.mono sP) p1) (fun hHeld => ?_)
  clear hK K
  try simp only [Act.put, ly1, ly2, ly3]
  refine tkk 6 13 ?_
  refine tkk 7 6 ?_
  try simp only [Act.put, ly1, ly2, ly3]
  refine wpAnyH_done kR ?_ _
  have c5 : w1.cell? ⟨w.heap.size, 3, none⟩ = some (.int .i64 q2) := hHeld.2.2.2.1
  have hb1 := hHeld
  obtain ⟨x0, x1, x2, x3, x4, x5⟩ := hb1
  go_wp2_with (first | (go_at_call 60; refine (Calls.mono (guard2_ok B b mb m nx vX _ (HHt.out _ tch) (k : Int) 7 8 k0 k1 HF.out.size ha hl) ?_); rintro e w' ⟨rfl, hw'⟩; subst w') | (go_at_call 130; refine (Calls.mono (second_any B b mb m nx vX _ (HHt.out _ tch) op rd q1 q2 im rd0 rd1 q10 q11 q20 q21 i0 i1 HZ.out) ?_); rintro e w2 ⟨rfl, ht'⟩; have t2 : ref.Touch [] (bx w op rd q1 q2 im) w2 := ref.Touch.trans tch ht'; clear ht') | (go_at_call 141; refine (Calls.mono (write_2 B b mb sb X m nx vX _ (HC.out _ tch) k (m.regs q2.toNat) rb0 rb1 hk4 HF.out.size) ?_); rintro e w8 ⟨rfl, hat, ht8⟩; have HA : Hid (PCt B b mb sb X (wrote { m with mem := st m.mem k 2 (m.regs q2.toNat) } k 2) nx vX w8) := hat; have HT : Hid (ref.Touch [b, mb, sb] (bx w op rd q1 q2 im) w8) := ref.Touch.trans (ref.Touch.mono (S := []) tch sP) ht8; clear hat ht8))
  go_end0
  exact ⟨rfl, HA.out, ((ref.Touch.refl _ _).alloc _).trans HT.out⟩
theorem load4_al (B b mb : Nat) (m : M) (nx : Int) (vX : Nat → Value) (w : World) (h : PAt B b mb m nx vX w) (op rd q1 q2 im : Int) (rd0 : 0 ≤ rd) (rd1 : rd ≤ 31) (q10 : 0 ≤ q1) (q11 : q1 ≤ 31) (q20 : 0 ≤ q2) (q21 : q2 ≤ 31) (i0 : -2147483648 ≤ im) (i1 : im ≤ 2147483647) (hz : 0 < m.size) (hf : Fine m) (k : Nat) (hk : ((m.regs q1.toNat + im) % 4294967296) = k) (ha : ¬ (k : Int) % 4 = 0) :
    Calls Tryz.prog 133 #[.pointer (some ⟨b, 0, none⟩), .agg #[.int .i64 op, .int .i64 rd, .int .i64 q1, .int .i64 q2, .int .i32 im], .int .u32 4] w fun e w' => e = .panicked (trapV 5) ∧ ref.Touch [] w w' := by
  obtain ⟨lb, HH, HHt, HZ, HF, HSk, cpc, ra0, ra1, rb0, rb1, pc0, pc1, wi⟩ := pre_any B b mb m nx vX w h op rd q1 q2 im hz hf
  obtain ⟨lmb, HSk2⟩ := pre2_any B b mb m nx vX w h op rd q1 q2 im hz
  clear h
  have wa : IntKind.u32.wrap (m.regs q1.toNat + im % 4294967296) = (k : Int) := by rw [IntKind.wrap_u32, ← hk]; omega
  have k1 : (k : Int) ≤ 4294967295 := by omega
  have k0 : (0 : Int) ≤ (k : Int) := by omega
  have z5 := hf.size
  clear hz hf
  go_enter Tryz.func133, Tryz.ntmps133
  go_wp2_with fail
  refine wp_region_held_drew (S := (sbx w b m op rd q1 q2 im)) kR (HSk.out _ (ref.Touch.refl _ _).drew cpc) (fun hHeld => ?_)
  refine tkk 0 8 ?_
  refine tkk 1 9 ?_
  refine tkk 3 11 ?_
  refine tkk 4 12 ?_
  refine tkk 5 13 ?_
  try simp only [Act.put, ly1, ly2, ly3]
  refine rdy 2 (fun K hK => ?_)
  go_simp
  refine (Calls.mono (first_any B b mb m nx vX _ (HHt.out _ tch) op rd q1 q2 im rd0 rd1 q10 q11 q20 q21 i0 i1 HZ.out) ?_)
  rintro e w1 ⟨rfl, ht'⟩
  obtain ⟨t1, p1⟩ := tpp HHt ht'
  clear ht'
  refine hK.out _ _ (HSk.out _ (t1.mono sP) p1) (fun hHeld => ?_)
  clear hK K
  try simp only [Act.put, ly1, ly2, ly3]
  refine tkk 6 14 ?_
  refine tkk 7 7 ?_
  try simp only [Act.put, ly1, ly2, ly3]
  refine wpAnyH_done kR ?_ _
  go_wp2_with (first | (go_at_call 60; refine (Calls.mono (guard4_al B b mb m nx vX _ (HHt.out _ tch) (k : Int) 5 6 k0 k1 HF.out.size ha ) ?_); rintro e w' ⟨rfl, hw'⟩; subst w'))
  exact ⟨rfl, rfl, tcb⟩
theorem load4_fa (B b mb : Nat) (m : M) (nx : Int) (vX : Nat → Value) (w : World) (h : PAt B b mb m nx vX w) (op rd q1 q2 im : Int) (rd0 : 0 ≤ rd) (rd1 : rd ≤ 31) (q10 : 0 ≤ q1) (q11 : q1 ≤ 31) (q20 : 0 ≤ q2) (q21 : q2 ≤ 31) (i0 : -2147483648 ≤ im) (i1 : im ≤ 2147483647) (hz : 0 < m.size) (hf : Fine m) (k : Nat) (hk : ((m.regs q1.toNat + im) % 4294967296) = k) (ha : (k : Int) % 4 = 0) (hl : lies m k 4 = false) :
    Calls Tryz.prog 133 #[.pointer (some ⟨b, 0, none⟩), .agg #[.int .i64 op, .int .i64 rd, .int .i64 q1, .int .i64 q2, .int .i32 im], .int .u32 4] w fun e w' => e = .panicked (trapV 6) ∧ ref.Touch [] w w' := by
  obtain ⟨lb, HH, HHt, HZ, HF, HSk, cpc, ra0, ra1, rb0, rb1, pc0, pc1, wi⟩ := pre_any B b mb m nx vX w h op rd q1 q2 im hz hf
  obtain ⟨lmb, HSk2⟩ := pre2_any B b mb m nx vX w h op rd q1 q2 im hz
  clear h
  have wa : IntKind.u32.wrap (m.regs q1.toNat + im % 4294967296) = (k : Int) := by rw [IntKind.wrap_u32, ← hk]; omega
  have k1 : (k : Int) ≤ 4294967295 := by omega
  have k0 : (0 : Int) ≤ (k : Int) := by omega
  have z5 := hf.size
  clear hz hf
  go_enter Tryz.func133, Tryz.ntmps133
  go_wp2_with fail
  refine wp_region_held_drew (S := (sbx w b m op rd q1 q2 im)) kR (HSk.out _ (ref.Touch.refl _ _).drew cpc) (fun hHeld => ?_)
  refine tkk 0 8 ?_
  refine tkk 1 9 ?_
  refine tkk 3 11 ?_
  refine tkk 4 12 ?_
  refine tkk 5 13 ?_
  try simp only [Act.put, ly1, ly2, ly3]
  refine rdy 2 (fun K hK => ?_)
  go_simp
  refine (Calls.mono (first_any B b mb m nx vX _ (HHt.out _ tch) op rd q1 q2 im rd0 rd1 q10 q11 q20 q21 i0 i1 HZ.out) ?_)
  rintro e w1 ⟨rfl, ht'⟩
  obtain ⟨t1, p1⟩ := tpp HHt ht'
  clear ht'
  refine hK.out _ _ (HSk.out _ (t1.mono sP) p1) (fun hHeld => ?_)
  clear hK K
  try simp only [Act.put, ly1, ly2, ly3]
  refine tkk 6 14 ?_
  refine tkk 7 7 ?_
  try simp only [Act.put, ly1, ly2, ly3]
  refine wpAnyH_done kR ?_ _
  go_wp2_with (first | (go_at_call 60; refine (Calls.mono (guard4_fa B b mb m nx vX _ (HHt.out _ tch) (k : Int) 5 6 k0 k1 HF.out.size ha hl) ?_); rintro e w' ⟨rfl, hw'⟩; subst w'))
  exact ⟨rfl, rfl, tcb⟩
theorem load4_ok (B b mb : Nat) (m : M) (nx : Int) (vX : Nat → Value) (w : World) (h : PAt B b mb m nx vX w) (op rd q1 q2 im : Int) (rd0 : 0 ≤ rd) (rd1 : rd ≤ 31) (q10 : 0 ≤ q1) (q11 : q1 ≤ 31) (q20 : 0 ≤ q2) (q21 : q2 ≤ 31) (i0 : -2147483648 ≤ im) (i1 : im ≤ 2147483647) (hz : 0 < m.size) (hf : Fine m) (k : Nat) (hk : ((m.regs q1.toNat + im) % 4294967296) = k) (ha : (k : Int) % 4 = 0) (hl : lies m k 4 = true) :
    Calls Tryz.prog 133 #[.pointer (some ⟨b, 0, none⟩), .agg #[.int .i64 op, .int .i64 rd, .int .i64 q1, .int .i64 q2, .int .i32 im], .int .u32 4] w fun e w' => e = .returned (.int .u32 (ld m.mem k 4)) ∧ ref.Touch [] w w' := by
  obtain ⟨lb, HH, HHt, HZ, HF, HSk, cpc, ra0, ra1, rb0, rb1, pc0, pc1, wi⟩ := pre_any B b mb m nx vX w h op rd q1 q2 im hz hf
  obtain ⟨lmb, HSk2⟩ := pre2_any B b mb m nx vX w h op rd q1 q2 im hz
  clear h
  have wa : IntKind.u32.wrap (m.regs q1.toNat + im % 4294967296) = (k : Int) := by rw [IntKind.wrap_u32, ← hk]; omega
  have k1 : (k : Int) ≤ 4294967295 := by omega
  have k0 : (0 : Int) ≤ (k : Int) := by omega
  have z5 := hf.size
  have hk4 : k + 4 ≤ m.size := by simp [lies] at hl; omega
  clear hz hf
  go_enter Tryz.func133, Tryz.ntmps133
  go_wp2_with fail
  refine wp_region_held_drew (S := (sbx w b m op rd q1 q2 im)) kR (HSk.out _ (ref.Touch.refl _ _).drew cpc) (fun hHeld => ?_)
  refine tkk 0 8 ?_
  refine tkk 1 9 ?_
  refine tkk 3 11 ?_
  refine tkk 4 12 ?_
  refine tkk 5 13 ?_
  try simp only [Act.put, ly1, ly2, ly3]
  refine rdy 2 (fun K hK => ?_)
  go_simp
  refine (Calls.mono (first_any B b mb m nx vX _ (HHt.out _ tch) op rd q1 q2 im rd0 rd1 q10 q11 q20 q21 i0 i1 HZ.out) ?_)
  rintro e w1 ⟨rfl, ht'⟩
  obtain ⟨t1, p1⟩ := tpp HHt ht'
  clear ht'
  refine hK.out _ _ (HSk.out _ (t1.mono sP) p1) (fun hHeld => ?_)
  clear hK K
  try simp only [Act.put, ly1, ly2, ly3]
  refine tkk 6 14 ?_
  refine tkk 7 7 ?_
  try simp only [Act.put, ly1, ly2, ly3]
  refine wpAnyH_done kR ?_ _
  go_wp2_with (first | (go_at_call 60; refine (Calls.mono (guard4_ok B b mb m nx vX _ (HHt.out _ tch) (k : Int) 5 6 k0 k1 HF.out.size ha hl) ?_); rintro e w' ⟨rfl, hw'⟩; subst w') | (go_at_call 90; refine (Calls.mono (read_4 B b mb m nx vX _ (HHt.out _ tch) k hk4 HF.out.size HF.out.mem) ?_); rintro e w8 ⟨rfl, ht8⟩; have HT : Hid (ref.Touch [] (bx w op rd q1 q2 im) w8) := ref.Touch.trans tch ht8; clear ht8))
  go_ret
  exact ⟨rfl, ((ref.Touch.refl _ _).alloc _).trans HT.out⟩
theorem store4_al (B b mb : Nat) (m : M) (nx : Int) (vX : Nat → Value) (w : World) (h : PAt B b mb m nx vX w) (op rd q1 q2 im : Int) (rd0 : 0 ≤ rd) (rd1 : rd ≤ 31) (q10 : 0 ≤ q1) (q11 : q1 ≤ 31) (q20 : 0 ≤ q2) (q21 : q2 ≤ 31) (i0 : -2147483648 ≤ im) (i1 : im ≤ 2147483647) (hz : 0 < m.size) (hf : Fine m) (k : Nat) (hk : ((m.regs q1.toNat + im) % 4294967296) = k) (ha : ¬ (k : Int) % 4 = 0) :
    Calls Tryz.prog 134 #[.pointer (some ⟨b, 0, none⟩), .agg #[.int .i64 op, .int .i64 rd, .int .i64 q1, .int .i64 q2, .int .i32 im], .int .u32 4] w fun e w' => e = .panicked (trapV 7) ∧ ref.Touch [] w w' := by
  obtain ⟨lb, HH, HHt, HZ, HF, HSk, cpc, ra0, ra1, rb0, rb1, pc0, pc1, wi⟩ := pre_any B b mb m nx vX w h op rd q1 q2 im hz hf
  obtain ⟨lmb, HSk2⟩ := pre2_any B b mb m nx vX w h op rd q1 q2 im hz
  clear h
  have wa : IntKind.u32.wrap (m.regs q1.toNat + im % 4294967296) = (k : Int) := by rw [IntKind.wrap_u32, ← hk]; omega
  have k1 : (k : Int) ≤ 4294967295 := by omega
  have k0 : (0 : Int) ≤ (k : Int) := by omega
  have z5 := hf.size
  clear hz hf
  go_enter Tryz.func134, Tryz.ntmps134
  go_wp2_with fail
  refine wp_region_held_drew (S := (sbx w b m op rd q1 q2 im)) kR (HSk.out _ (ref.Touch.refl _ _).drew cpc) (fun hHeld => ?_)
  refine tkk 0 7 ?_
  refine tkk 1 8 ?_
  refine tkk 3 10 ?_
  refine tkk 4 11 ?_
  refine tkk 5 12 ?_
  try simp only [Act.put, ly1, ly2, ly3]
  refine rdy 2 (fun K hK => ?_)
  go_simp
  refine (Calls.mono (first_any B b mb m nx vX _ (HHt.out _ tch) op rd q1 q2 im rd0 rd1 q10 q11 q20 q21 i0 i1 HZ.out) ?_)
  rintro e w1 ⟨rfl, ht'⟩
  obtain ⟨t1, p1⟩ := tpp HHt ht'
  clear ht'
  refine hK.out _ _ (HSk.out _ (t1.mono sP) p1) (fun hHeld => ?_)
  clear hK K
  try simp only [Act.put, ly1, ly2, ly3]
  refine tkk 6 13 ?_
  refine tkk 7 6 ?_
  try simp only [Act.put, ly1, ly2, ly3]
  refine wpAnyH_done kR ?_ _
  go_wp2_with (first | (go_at_call 60; refine (Calls.mono (guard4_al B b mb m nx vX _ (HHt.out _ tch) (k : Int) 7 8 k0 k1 HF.out.size ha ) ?_); rintro e w' ⟨rfl, hw'⟩; subst w'))
  exact ⟨rfl, rfl, tcb⟩
theorem store4_fa (B b mb : Nat) (m : M) (nx : Int) (vX : Nat → Value) (w : World) (h : PAt B b mb m nx vX w) (op rd q1 q2 im : Int) (rd0 : 0 ≤ rd) (rd1 : rd ≤ 31) (q10 : 0 ≤ q1) (q11 : q1 ≤ 31) (q20 : 0 ≤ q2) (q21 : q2 ≤ 31) (i0 : -2147483648 ≤ im) (i1 : im ≤ 2147483647) (hz : 0 < m.size) (hf : Fine m) (k : Nat) (hk : ((m.regs q1.toNat + im) % 4294967296) = k) (ha : (k : Int) % 4 = 0) (hl : lies m k 4 = false) :
    Calls Tryz.prog 134 #[.pointer (some ⟨b, 0, none⟩), .agg #[.int .i64 op, .int .i64 rd, .int .i64 q1, .int .i64 q2, .int .i32 im], .int .u32 4] w fun e w' => e = .panicked (trapV 8) ∧ ref.Touch [] w w' := by
  obtain ⟨lb, HH, HHt, HZ, HF, HSk, cpc, ra0, ra1, rb0, rb1, pc0, pc1, wi⟩ := pre_any B b mb m nx vX w h op rd q1 q2 im hz hf
  obtain ⟨lmb, HSk2⟩ := pre2_any B b mb m nx vX w h op rd q1 q2 im hz
  clear h
  have wa : IntKind.u32.wrap (m.regs q1.toNat + im % 4294967296) = (k : Int) := by rw [IntKind.wrap_u32, ← hk]; omega
  have k1 : (k : Int) ≤ 4294967295 := by omega
  have k0 : (0 : Int) ≤ (k : Int) := by omega
  have z5 := hf.size
  clear hz hf
  go_enter Tryz.func134, Tryz.ntmps134
  go_wp2_with fail
  refine wp_region_held_drew (S := (sbx w b m op rd q1 q2 im)) kR (HSk.out _ (ref.Touch.refl _ _).drew cpc) (fun hHeld => ?_)
  refine tkk 0 7 ?_
  refine tkk 1 8 ?_
  refine tkk 3 10 ?_
  refine tkk 4 11 ?_
  refine tkk 5 12 ?_
  try simp only [Act.put, ly1, ly2, ly3]
  refine rdy 2 (fun K hK => ?_)
  go_simp
  refine (Calls.mono (first_any B b mb m nx vX _ (HHt.out _ tch) op rd q1 q2 im rd0 rd1 q10 q11 q20 q21 i0 i1 HZ.out) ?_)
  rintro e w1 ⟨rfl, ht'⟩
  obtain ⟨t1, p1⟩ := tpp HHt ht'
  clear ht'
  refine hK.out _ _ (HSk.out _ (t1.mono sP) p1) (fun hHeld => ?_)
  clear hK K
  try simp only [Act.put, ly1, ly2, ly3]
  refine tkk 6 13 ?_
  refine tkk 7 6 ?_
  try simp only [Act.put, ly1, ly2, ly3]
  refine wpAnyH_done kR ?_ _
  go_wp2_with (first | (go_at_call 60; refine (Calls.mono (guard4_fa B b mb m nx vX _ (HHt.out _ tch) (k : Int) 7 8 k0 k1 HF.out.size ha hl) ?_); rintro e w' ⟨rfl, hw'⟩; subst w'))
  exact ⟨rfl, rfl, tcb⟩
theorem store4_ok (B b mb sb : Nat) (X : List Nat) (m : M) (nx : Int) (vX : Nat → Value) (w : World) (hc0 : PCt B b mb sb X m nx vX w) (op rd q1 q2 im : Int) (rd0 : 0 ≤ rd) (rd1 : rd ≤ 31) (q10 : 0 ≤ q1) (q11 : q1 ≤ 31) (q20 : 0 ≤ q2) (q21 : q2 ≤ 31) (i0 : -2147483648 ≤ im) (i1 : im ≤ 2147483647) (hz : 0 < m.size) (hf : Fine m) (k : Nat) (hk : ((m.regs q1.toNat + im) % 4294967296) = k) (ha : (k : Int) % 4 = 0) (hl : lies m k 4 = true) :
    Calls Tryz.prog 134 #[.pointer (some ⟨b, 0, none⟩), .agg #[.int .i64 op, .int .i64 rd, .int .i64 q1, .int .i64 q2, .int .i32 im], .int .u32 4] w fun e w' => e = .returned (.tuple #[]) ∧ PCt B b mb sb X (wrote { m with mem := st m.mem k 4 (m.regs q2.toNat) } k 4) nx vX w' ∧ ref.Touch [b, mb, sb] w w' := by
  have h := hc0.p
  have HC : Hid (∀ w', ref.Touch [] (bx w op rd q1 q2 im) w' → PCt B b mb sb X m nx vX w') := fun w' t => hc0.quiet hz (((ref.Touch.refl _ _).alloc _).trans t)
  clear hc0
  obtain ⟨lb, HH, HHt, HZ, HF, HSk, cpc, ra0, ra1, rb0, rb1, pc0, pc1, wi⟩ := pre_any B b mb m nx vX w h op rd q1 q2 im hz hf
  obtain ⟨lmb, HSk2⟩ := pre2_any B b mb m nx vX w h op rd q1 q2 im hz
  clear h
  have wa : IntKind.u32.wrap (m.regs q1.toNat + im % 4294967296) = (k : Int) := by rw [IntKind.wrap_u32, ← hk]; omega
  have k1 : (k : Int) ≤ 4294967295 := by omega
  have k0 : (0 : Int) ≤ (k : Int) := by omega
  have z5 := hf.size
  have hk4 : k + 4 ≤ m.size := by simp [lies] at hl; omega
  clear hz hf
  go_enter Tryz.func134, Tryz.ntmps134
  go_wp2_with fail
  refine wp_region_held_drew (S := (sbx w b m op rd q1 q2 im)) kR (HSk.out _ (ref.Touch.refl _ _).drew cpc) (fun hHeld => ?_)
  refine tkk 0 7 ?_
  refine tkk 1 8 ?_
  refine tkk 3 10 ?_
  refine tkk 4 11 ?_
  refine tkk 5 12 ?_
  try simp only [Act.put, ly1, ly2, ly3]
  refine rdy 2 (fun K hK => ?_)
  go_simp
  refine (Calls.mono (first_any B b mb m nx vX _ (HHt.out _ tch) op rd q1 q2 im rd0 rd1 q10 q11 q20 q21 i0 i1 HZ.out) ?_)
  rintro e w1 ⟨rfl, ht'⟩
  obtain ⟨t1, p1⟩ := tpp HHt ht'
  clear ht'
  refine hK.out _ _ (HSk.out _ (t1.mono sP) p1) (fun hHeld => ?_)
  clear hK K
  try simp only [Act.put, ly1, ly2, ly3]
  refine tkk 6 13 ?_
  refine tkk 7 6 ?_
  try simp only [Act.put, ly1, ly2, ly3]
  refine wpAnyH_done kR ?_ _
  have c5 : w1.cell? ⟨w.heap.size, 3, none⟩ = some (.int .i64 q2) := hHeld.2.2.2.1
  have hb1 := hHeld
  obtain ⟨x0, x1, x2, x3, x4, x5⟩ := hb1
  go_wp2_with (first | (go_at_call 60; refine (Calls.mono (guard4_ok B b mb m nx vX _ (HHt.out _ tch) (k : Int) 7 8 k0 k1 HF.out.size ha hl) ?_); rintro e w' ⟨rfl, hw'⟩; subst w') | (go_at_call 130; refine (Calls.mono (second_any B b mb m nx vX _ (HHt.out _ tch) op rd q1 q2 im rd0 rd1 q10 q11 q20 q21 i0 i1 HZ.out) ?_); rintro e w2 ⟨rfl, ht'⟩; have t2 : ref.Touch [] (bx w op rd q1 q2 im) w2 := ref.Touch.trans tch ht'; clear ht') | (go_at_call 141; refine (Calls.mono (write_4 B b mb sb X m nx vX _ (HC.out _ tch) k (m.regs q2.toNat) rb0 rb1 hk4 HF.out.size) ?_); rintro e w8 ⟨rfl, hat, ht8⟩; have HA : Hid (PCt B b mb sb X (wrote { m with mem := st m.mem k 4 (m.regs q2.toNat) } k 4) nx vX w8) := hat; have HT : Hid (ref.Touch [b, mb, sb] (bx w op rd q1 q2 im) w8) := ref.Touch.trans (ref.Touch.mono (S := []) tch sP) ht8; clear hat ht8))
  go_end0
  exact ⟨rfl, HA.out, ((ref.Touch.refl _ _).alloc _).trans HT.out⟩
end Go.Proofs.YtmogjicompmkkaaGreatDoor.prog

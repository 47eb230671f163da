import Derived.Test.YtmogjicompmkkaaGreatDoorQPrE
import Derived.Test.YtmogjicompmkkaaGreatDoorQGf
namespace Go.Proofs.YtmogjicompmkkaaGreatDoor.prog
open Go.ChangeShapes Go.WideShapes Go.ChangeAt Go.RowKit Go.Proofs.YtmogjicompmkkaaGreatDoor.nums Go.Proofs.YtmogjicompmkkaaGreatDoor.dnums Go.Proofs.YtmogjicompmkkaaGreatDoor.mach

set_option linter.unusedVariables false
set_option linter.unusedSimpArgs false
set_option maxRecDepth 10000
attribute [local go_sem ↓] Go.wp_at_zero Go.wp_at_succ
set_option maxHeartbeats 400000 in
theorem load1_fa (B b mb : Nat) (m : M) (nx : Int) (vX : Nat → Value) (w : World) (h : PAt B b mb m nx vX w) (op rd q1 q2 im : Int) (rd0 : 0 ≤ rd) (rd1 : rd ≤ 31) (q10 : 0 ≤ q1) (q11 : q1 ≤ 31) (q20 : 0 ≤ q2) (q21 : q2 ≤ 31) (i0 : -2147483648 ≤ im) (i1 : im ≤ 2147483647) (hz : 0 < m.size) (hf : Fine m) (k : Nat) (hk : ((m.regs q1.toNat + im) % 4294967296) = k) (hl : lies m k 1 = false) :
    Calls Tryz.prog 133 #[.pointer (some ⟨b, 0, none⟩), .agg #[.int .i64 op, .int .i64 rd, .int .i64 q1, .int .i64 q2, .int .i32 im], .int .u32 1] w fun e w' => e = .panicked (trapV 6) ∧ ref.Touch [] w w' := by
  obtain ⟨lb, HH, HHt, HZ, HF, HSk, cpc, ra0, ra1, rb0, rb1, pc0, pc1, wi⟩ := pre_any B b mb m nx vX w h op rd q1 q2 im hz hf
  obtain ⟨lmb, HSk2⟩ := pre2_any B b mb m nx vX w h op rd q1 q2 im hz
  clear h
  have wa : IntKind.u32.wrap (m.regs q1.toNat + im % 4294967296) = (k : Int) := by rw [IntKind.wrap_u32, ← hk]; omega
  have k1 : (k : Int) ≤ 4294967295 := by omega
  have k0 : (0 : Int) ≤ (k : Int) := by omega
  have z5 := hf.size
  clear hz hf
  go_enter Tryz.func133, Tryz.ntmps133
  go_wp2_with fail
  refine wp_region_held_drew (S := (sbx w b m op rd q1 q2 im)) (by kernel_rfl) (HSk.out _ (ref.Touch.refl _ _).drew cpc) (fun hHeld => ?_)
  refine tk (i := 0) (oi := ⟨some 8, _, _, _, _, _⟩) (v := ?v8x179) rfl (by kernel_rfl) (fun _ _ _ h => h) (by rfl) ?h8x179 (by assumption) ?r8x179
  case h8x179 => intro w' hSw; (try dsimp only [sbx] at hSw); go_simp; try with_reducible rfl
  try simp only [Act.put, ly1, ly2, ly3]
  refine tk (i := 1) (oi := ⟨some 9, _, _, _, _, _⟩) (v := ?v9x180) rfl (by kernel_rfl) (fun _ _ _ h => h) (by rfl) ?h9x180 (by assumption) ?r9x180
  case h9x180 => intro w' hSw; (try dsimp only [sbx] at hSw); go_simp; try with_reducible rfl
  try simp only [Act.put, ly1, ly2, ly3]
  refine tk (i := 3) (oi := ⟨some 11, _, _, _, _, _⟩) (v := ?v11x181) rfl (by kernel_rfl) (fun _ _ _ h => h) (by rfl) ?h11x181 (by assumption) ?r11x181
  case h11x181 => intro w' hSw; (try dsimp only [sbx] at hSw); go_simp; try with_reducible rfl
  try simp only [Act.put, ly1, ly2, ly3]
  refine tk (i := 4) (oi := ⟨some 12, _, _, _, _, _⟩) (v := ?v12x182) rfl (by kernel_rfl) (fun _ _ _ h => h) (by rfl) ?h12x182 (by assumption) ?r12x182
  case h12x182 => intro w' hSw; (try dsimp only [sbx] at hSw); go_simp; try with_reducible rfl
  try simp only [Act.put, ly1, ly2, ly3]
  refine tk (i := 5) (oi := ⟨some 13, _, _, _, _, _⟩) (v := ?v13x183) rfl (by kernel_rfl) (fun _ _ _ h => h) (by rfl) ?h13x183 (by assumption) ?r13x183
  case h13x183 => intro w' hSw; (try dsimp only [sbx] at hSw); go_simp; try with_reducible rfl
  try simp only [Act.put, ly1, ly2, ly3]
  refine wpAnyH_ready (rs := [2]) (by kernel_rfl) (by simp) ?_
  refine AllReadyH.cons (o := ⟨some 10, _, _, _, _, _⟩) rfl (fun K hK => ?_) AllReadyH.nil
  rw [if_pos (by rfl)]
  go_simp
  refine (Calls.mono (first_any B b mb m nx vX _ (HHt.out _ (by repeat' (first | with_reducible exact tR _ _ | with_reducible apply tD | with_reducible apply tN | assumption))) op rd q1 q2 im rd0 rd1 q10 q11 q20 q21 i0 i1 HZ.out) ?_)
  rintro e w1 ⟨rfl, ht'⟩
  have t1 : ref.Touch [] (bx w op rd q1 q2 im) w1 := ref.Touch.trans (by repeat' (first | with_reducible exact tR _ _ | with_reducible apply tD | with_reducible apply tN | assumption)) ht'
  have p1 : w1.cell? ⟨b, 33, none⟩ = some (.int .u32 m.pc) := (HHt.out _ t1).cells 33 (by decide) (by decide)
  clear ht'
  refine hK.out _ _ (HSk.out _ (t1.mono (by simp)) p1) (fun hHeld => ?_)
  clear hK K
  try simp only [Act.put, ly1, ly2, ly3]
  refine tk (i := 6) (oi := ⟨some 14, _, _, _, _, _⟩) (v := ?v14x184) rfl (by kernel_rfl) (fun _ _ _ h => h) (by rfl) ?h14x184 (by assumption) ?r14x184
  case h14x184 => intro w' hSw; (try dsimp only [sbx] at hSw); go_simp; try with_reducible rfl
  try simp only [Act.put, ly1, ly2, ly3]
  refine tk (i := 7) (oi := ⟨some 7, _, _, _, _, _⟩) (v := ?v7x185) rfl (by kernel_rfl) (fun _ _ _ h => h) (by rfl) ?h7x185 (by assumption) ?r7x185
  case h7x185 => intro w' hSw; (try dsimp only [sbx] at hSw); go_simp; try with_reducible rfl
  try simp only [Act.put, ly1, ly2, ly3]
  refine wpAnyH_done (by kernel_rfl) ?_ _
  go_wp2_with (first | (go_at_call 60; refine (Calls.mono (guard1_fa B b mb m nx vX _ (HHt.out _ (by repeat' (first | with_reducible exact tR _ _ | with_reducible apply tD | with_reducible apply tN | assumption))) (k : Int) 5 6 k0 k1 HF.out.size hl) ?_); rintro e w' ⟨rfl, hw'⟩; subst w'))
  exact ⟨rfl, rfl, (by repeat' (first | with_reducible exact ref.Touch.refl _ _ | with_reducible apply ref.Touch.drew | with_reducible apply ref.Touch.drewN | with_reducible apply ref.Touch.alloc | assumption | exact ref.Touch.trans ((ref.Touch.refl [] _).alloc _) (by assumption)))⟩
set_option maxHeartbeats 400000 in
theorem load1_ok (B b mb : Nat) (m : M) (nx : Int) (vX : Nat → Value) (w : World) (h : PAt B b mb m nx vX w) (op rd q1 q2 im : Int) (rd0 : 0 ≤ rd) (rd1 : rd ≤ 31) (q10 : 0 ≤ q1) (q11 : q1 ≤ 31) (q20 : 0 ≤ q2) (q21 : q2 ≤ 31) (i0 : -2147483648 ≤ im) (i1 : im ≤ 2147483647) (hz : 0 < m.size) (hf : Fine m) (k : Nat) (hk : ((m.regs q1.toNat + im) % 4294967296) = k) (hl : lies m k 1 = true) :
    Calls Tryz.prog 133 #[.pointer (some ⟨b, 0, none⟩), .agg #[.int .i64 op, .int .i64 rd, .int .i64 q1, .int .i64 q2, .int .i32 im], .int .u32 1] w fun e w' => e = .returned (.int .u32 (ld m.mem k 1)) ∧ ref.Touch [] w w' := by
  obtain ⟨lb, HH, HHt, HZ, HF, HSk, cpc, ra0, ra1, rb0, rb1, pc0, pc1, wi⟩ := pre_any B b mb m nx vX w h op rd q1 q2 im hz hf
  obtain ⟨lmb, HSk2⟩ := pre2_any B b mb m nx vX w h op rd q1 q2 im hz
  clear h
  have wa : IntKind.u32.wrap (m.regs q1.toNat + im % 4294967296) = (k : Int) := by rw [IntKind.wrap_u32, ← hk]; omega
  have k1 : (k : Int) ≤ 4294967295 := by omega
  have k0 : (0 : Int) ≤ (k : Int) := by omega
  have z5 := hf.size
  have hk4 : k + 1 ≤ m.size := by simp [lies] at hl; omega
  clear hz hf
  go_enter Tryz.func133, Tryz.ntmps133
  go_wp2_with fail
  refine wp_region_held_drew (S := (sbx w b m op rd q1 q2 im)) (by kernel_rfl) (HSk.out _ (ref.Touch.refl _ _).drew cpc) (fun hHeld => ?_)
  refine tk (i := 0) (oi := ⟨some 8, _, _, _, _, _⟩) (v := ?v8x179) rfl (by kernel_rfl) (fun _ _ _ h => h) (by rfl) ?h8x179 (by assumption) ?r8x179
  case h8x179 => intro w' hSw; (try dsimp only [sbx] at hSw); go_simp; try with_reducible rfl
  try simp only [Act.put, ly1, ly2, ly3]
  refine tk (i := 1) (oi := ⟨some 9, _, _, _, _, _⟩) (v := ?v9x180) rfl (by kernel_rfl) (fun _ _ _ h => h) (by rfl) ?h9x180 (by assumption) ?r9x180
  case h9x180 => intro w' hSw; (try dsimp only [sbx] at hSw); go_simp; try with_reducible rfl
  try simp only [Act.put, ly1, ly2, ly3]
  refine tk (i := 3) (oi := ⟨some 11, _, _, _, _, _⟩) (v := ?v11x181) rfl (by kernel_rfl) (fun _ _ _ h => h) (by rfl) ?h11x181 (by assumption) ?r11x181
  case h11x181 => intro w' hSw; (try dsimp only [sbx] at hSw); go_simp; try with_reducible rfl
  try simp only [Act.put, ly1, ly2, ly3]
  refine tk (i := 4) (oi := ⟨some 12, _, _, _, _, _⟩) (v := ?v12x182) rfl (by kernel_rfl) (fun _ _ _ h => h) (by rfl) ?h12x182 (by assumption) ?r12x182
  case h12x182 => intro w' hSw; (try dsimp only [sbx] at hSw); go_simp; try with_reducible rfl
  try simp only [Act.put, ly1, ly2, ly3]
  refine tk (i := 5) (oi := ⟨some 13, _, _, _, _, _⟩) (v := ?v13x183) rfl (by kernel_rfl) (fun _ _ _ h => h) (by rfl) ?h13x183 (by assumption) ?r13x183
  case h13x183 => intro w' hSw; (try dsimp only [sbx] at hSw); go_simp; try with_reducible rfl
  try simp only [Act.put, ly1, ly2, ly3]
  refine wpAnyH_ready (rs := [2]) (by kernel_rfl) (by simp) ?_
  refine AllReadyH.cons (o := ⟨some 10, _, _, _, _, _⟩) rfl (fun K hK => ?_) AllReadyH.nil
  rw [if_pos (by rfl)]
  go_simp
  refine (Calls.mono (first_any B b mb m nx vX _ (HHt.out _ (by repeat' (first | with_reducible exact tR _ _ | with_reducible apply tD | with_reducible apply tN | assumption))) op rd q1 q2 im rd0 rd1 q10 q11 q20 q21 i0 i1 HZ.out) ?_)
  rintro e w1 ⟨rfl, ht'⟩
  have t1 : ref.Touch [] (bx w op rd q1 q2 im) w1 := ref.Touch.trans (by repeat' (first | with_reducible exact tR _ _ | with_reducible apply tD | with_reducible apply tN | assumption)) ht'
  have p1 : w1.cell? ⟨b, 33, none⟩ = some (.int .u32 m.pc) := (HHt.out _ t1).cells 33 (by decide) (by decide)
  clear ht'
  refine hK.out _ _ (HSk.out _ (t1.mono (by simp)) p1) (fun hHeld => ?_)
  clear hK K
  try simp only [Act.put, ly1, ly2, ly3]
  refine tk (i := 6) (oi := ⟨some 14, _, _, _, _, _⟩) (v := ?v14x184) rfl (by kernel_rfl) (fun _ _ _ h => h) (by rfl) ?h14x184 (by assumption) ?r14x184
  case h14x184 => intro w' hSw; (try dsimp only [sbx] at hSw); go_simp; try with_reducible rfl
  try simp only [Act.put, ly1, ly2, ly3]
  refine tk (i := 7) (oi := ⟨some 7, _, _, _, _, _⟩) (v := ?v7x185) rfl (by kernel_rfl) (fun _ _ _ h => h) (by rfl) ?h7x185 (by assumption) ?r7x185
  case h7x185 => intro w' hSw; (try dsimp only [sbx] at hSw); go_simp; try with_reducible rfl
  try simp only [Act.put, ly1, ly2, ly3]
  refine wpAnyH_done (by kernel_rfl) ?_ _
  go_wp2_with (first | (go_at_call 60; refine (Calls.mono (guard1_ok B b mb m nx vX _ (HHt.out _ (by repeat' (first | with_reducible exact tR _ _ | with_reducible apply tD | with_reducible apply tN | assumption))) (k : Int) 5 6 k0 k1 HF.out.size hl) ?_); rintro e w' ⟨rfl, hw'⟩; subst w') | (go_at_call 90; refine (Calls.mono (read_1 B b mb m nx vX _ (HHt.out _ (by repeat' (first | with_reducible exact tR _ _ | with_reducible apply tD | with_reducible apply tN | assumption))) k hk4 HF.out.size HF.out.mem) ?_); rintro e w8 ⟨rfl, ht8⟩; have HT : Hid (ref.Touch [] (bx w op rd q1 q2 im) w8) := ref.Touch.trans (by repeat' (first | with_reducible exact tR _ _ | with_reducible apply tD | with_reducible apply tN | assumption)) ht8; clear ht8))
  go_ret
  exact ⟨rfl, ((ref.Touch.refl _ _).alloc _).trans HT.out⟩
set_option maxHeartbeats 400000 in
theorem store1_fa (B b mb : Nat) (m : M) (nx : Int) (vX : Nat → Value) (w : World) (h : PAt B b mb m nx vX w) (op rd q1 q2 im : Int) (rd0 : 0 ≤ rd) (rd1 : rd ≤ 31) (q10 : 0 ≤ q1) (q11 : q1 ≤ 31) (q20 : 0 ≤ q2) (q21 : q2 ≤ 31) (i0 : -2147483648 ≤ im) (i1 : im ≤ 2147483647) (hz : 0 < m.size) (hf : Fine m) (k : Nat) (hk : ((m.regs q1.toNat + im) % 4294967296) = k) (hl : lies m k 1 = false) :
    Calls Tryz.prog 134 #[.pointer (some ⟨b, 0, none⟩), .agg #[.int .i64 op, .int .i64 rd, .int .i64 q1, .int .i64 q2, .int .i32 im], .int .u32 1] w fun e w' => e = .panicked (trapV 8) ∧ ref.Touch [] w w' := by
  obtain ⟨lb, HH, HHt, HZ, HF, HSk, cpc, ra0, ra1, rb0, rb1, pc0, pc1, wi⟩ := pre_any B b mb m nx vX w h op rd q1 q2 im hz hf
  obtain ⟨lmb, HSk2⟩ := pre2_any B b mb m nx vX w h op rd q1 q2 im hz
  clear h
  have wa : IntKind.u32.wrap (m.regs q1.toNat + im % 4294967296) = (k : Int) := by rw [IntKind.wrap_u32, ← hk]; omega
  have k1 : (k : Int) ≤ 4294967295 := by omega
  have k0 : (0 : Int) ≤ (k : Int) := by omega
  have z5 := hf.size
  clear hz hf
  go_enter Tryz.func134, Tryz.ntmps134
  go_wp2_with fail
  refine wp_region_held_drew (S := (sbx w b m op rd q1 q2 im)) (by kernel_rfl) (HSk.out _ (ref.Touch.refl _ _).drew cpc) (fun hHeld => ?_)
  refine tk (i := 0) (oi := ⟨some 7, _, _, _, _, _⟩) (v := ?v7x186) rfl (by kernel_rfl) (fun _ _ _ h => h) (by rfl) ?h7x186 (by assumption) ?r7x186
  case h7x186 => intro w' hSw; (try dsimp only [sbx] at hSw); go_simp; try with_reducible rfl
  try simp only [Act.put, ly1, ly2, ly3]
  refine tk (i := 1) (oi := ⟨some 8, _, _, _, _, _⟩) (v := ?v8x187) rfl (by kernel_rfl) (fun _ _ _ h => h) (by rfl) ?h8x187 (by assumption) ?r8x187
  case h8x187 => intro w' hSw; (try dsimp only [sbx] at hSw); go_simp; try with_reducible rfl
  try simp only [Act.put, ly1, ly2, ly3]
  refine tk (i := 3) (oi := ⟨some 10, _, _, _, _, _⟩) (v := ?v10x188) rfl (by kernel_rfl) (fun _ _ _ h => h) (by rfl) ?h10x188 (by assumption) ?r10x188
  case h10x188 => intro w' hSw; (try dsimp only [sbx] at hSw); go_simp; try with_reducible rfl
  try simp only [Act.put, ly1, ly2, ly3]
  refine tk (i := 4) (oi := ⟨some 11, _, _, _, _, _⟩) (v := ?v11x189) rfl (by kernel_rfl) (fun _ _ _ h => h) (by rfl) ?h11x189 (by assumption) ?r11x189
  case h11x189 => intro w' hSw; (try dsimp only [sbx] at hSw); go_simp; try with_reducible rfl
  try simp only [Act.put, ly1, ly2, ly3]
  refine tk (i := 5) (oi := ⟨some 12, _, _, _, _, _⟩) (v := ?v12x190) rfl (by kernel_rfl) (fun _ _ _ h => h) (by rfl) ?h12x190 (by assumption) ?r12x190
  case h12x190 => intro w' hSw; (try dsimp only [sbx] at hSw); go_simp; try with_reducible rfl
  try simp only [Act.put, ly1, ly2, ly3]
  refine wpAnyH_ready (rs := [2]) (by kernel_rfl) (by simp) ?_
  refine AllReadyH.cons (o := ⟨some 9, _, _, _, _, _⟩) rfl (fun K hK => ?_) AllReadyH.nil
  rw [if_pos (by rfl)]
  go_simp
  refine (Calls.mono (first_any B b mb m nx vX _ (HHt.out _ (by repeat' (first | with_reducible exact tR _ _ | with_reducible apply tD | with_reducible apply tN | assumption))) op rd q1 q2 im rd0 rd1 q10 q11 q20 q21 i0 i1 HZ.out) ?_)
  rintro e w1 ⟨rfl, ht'⟩
  have t1 : ref.Touch [] (bx w op rd q1 q2 im) w1 := ref.Touch.trans (by repeat' (first | with_reducible exact tR _ _ | with_reducible apply tD | with_reducible apply tN | assumption)) ht'
  have p1 : w1.cell? ⟨b, 33, none⟩ = some (.int .u32 m.pc) := (HHt.out _ t1).cells 33 (by decide) (by decide)
  clear ht'
  refine hK.out _ _ (HSk.out _ (t1.mono (by simp)) p1) (fun hHeld => ?_)
  clear hK K
  try simp only [Act.put, ly1, ly2, ly3]
  refine tk (i := 6) (oi := ⟨some 13, _, _, _, _, _⟩) (v := ?v13x191) rfl (by kernel_rfl) (fun _ _ _ h => h) (by rfl) ?h13x191 (by assumption) ?r13x191
  case h13x191 => intro w' hSw; (try dsimp only [sbx] at hSw); go_simp; try with_reducible rfl
  try simp only [Act.put, ly1, ly2, ly3]
  refine tk (i := 7) (oi := ⟨some 6, _, _, _, _, _⟩) (v := ?v6x192) rfl (by kernel_rfl) (fun _ _ _ h => h) (by rfl) ?h6x192 (by assumption) ?r6x192
  case h6x192 => intro w' hSw; (try dsimp only [sbx] at hSw); go_simp; try with_reducible rfl
  try simp only [Act.put, ly1, ly2, ly3]
  refine wpAnyH_done (by kernel_rfl) ?_ _
  go_wp2_with (first | (go_at_call 60; refine (Calls.mono (guard1_fa B b mb m nx vX _ (HHt.out _ (by repeat' (first | with_reducible exact tR _ _ | with_reducible apply tD | with_reducible apply tN | assumption))) (k : Int) 7 8 k0 k1 HF.out.size hl) ?_); rintro e w' ⟨rfl, hw'⟩; subst w'))
  exact ⟨rfl, rfl, (by repeat' (first | with_reducible exact ref.Touch.refl _ _ | with_reducible apply ref.Touch.drew | with_reducible apply ref.Touch.drewN | with_reducible apply ref.Touch.alloc | assumption | exact ref.Touch.trans ((ref.Touch.refl [] _).alloc _) (by assumption)))⟩
set_option maxHeartbeats 400000 in
theorem store1_ok (B b mb sb : Nat) (X : List Nat) (m : M) (nx : Int) (vX : Nat → Value) (w : World) (hc0 : PCt B b mb sb X m nx vX w) (op rd q1 q2 im : Int) (rd0 : 0 ≤ rd) (rd1 : rd ≤ 31) (q10 : 0 ≤ q1) (q11 : q1 ≤ 31) (q20 : 0 ≤ q2) (q21 : q2 ≤ 31) (i0 : -2147483648 ≤ im) (i1 : im ≤ 2147483647) (hz : 0 < m.size) (hf : Fine m) (k : Nat) (hk : ((m.regs q1.toNat + im) % 4294967296) = k) (hl : lies m k 1 = true) :
    Calls Tryz.prog 134 #[.pointer (some ⟨b, 0, none⟩), .agg #[.int .i64 op, .int .i64 rd, .int .i64 q1, .int .i64 q2, .int .i32 im], .int .u32 1] w fun e w' => e = .returned (.tuple #[]) ∧ PCt B b mb sb X (wrote { m with mem := st m.mem k 1 (m.regs q2.toNat) } k 1) nx vX w' ∧ ref.Touch [b, mb, sb] w w' := by
  have h := hc0.p
  have HC : Hid (∀ w', ref.Touch [] (bx w op rd q1 q2 im) w' → PCt B b mb sb X m nx vX w') := fun w' t => hc0.quiet hz (((ref.Touch.refl _ _).alloc _).trans t)
  clear hc0
  obtain ⟨lb, HH, HHt, HZ, HF, HSk, cpc, ra0, ra1, rb0, rb1, pc0, pc1, wi⟩ := pre_any B b mb m nx vX w h op rd q1 q2 im hz hf
  obtain ⟨lmb, HSk2⟩ := pre2_any B b mb m nx vX w h op rd q1 q2 im hz
  clear h
  have wa : IntKind.u32.wrap (m.regs q1.toNat + im % 4294967296) = (k : Int) := by rw [IntKind.wrap_u32, ← hk]; omega
  have k1 : (k : Int) ≤ 4294967295 := by omega
  have k0 : (0 : Int) ≤ (k : Int) := by omega
  have z5 := hf.size
  have hk4 : k + 1 ≤ m.size := by simp [lies] at hl; omega
  clear hz hf
  go_enter Tryz.func134, Tryz.ntmps134
  go_wp2_with fail
  refine wp_region_held_drew (S := (sbx w b m op rd q1 q2 im)) (by kernel_rfl) (HSk.out _ (ref.Touch.refl _ _).drew cpc) (fun hHeld => ?_)
  refine tk (i := 0) (oi := ⟨some 7, _, _, _, _, _⟩) (v := ?v7x186) rfl (by kernel_rfl) (fun _ _ _ h => h) (by rfl) ?h7x186 (by assumption) ?r7x186
  case h7x186 => intro w' hSw; (try dsimp only [sbx] at hSw); go_simp; try with_reducible rfl
  try simp only [Act.put, ly1, ly2, ly3]
  refine tk (i := 1) (oi := ⟨some 8, _, _, _, _, _⟩) (v := ?v8x187) rfl (by kernel_rfl) (fun _ _ _ h => h) (by rfl) ?h8x187 (by assumption) ?r8x187
  case h8x187 => intro w' hSw; (try dsimp only [sbx] at hSw); go_simp; try with_reducible rfl
  try simp only [Act.put, ly1, ly2, ly3]
  refine tk (i := 3) (oi := ⟨some 10, _, _, _, _, _⟩) (v := ?v10x188) rfl (by kernel_rfl) (fun _ _ _ h => h) (by rfl) ?h10x188 (by assumption) ?r10x188
  case h10x188 => intro w' hSw; (try dsimp only [sbx] at hSw); go_simp; try with_reducible rfl
  try simp only [Act.put, ly1, ly2, ly3]
  refine tk (i := 4) (oi := ⟨some 11, _, _, _, _, _⟩) (v := ?v11x189) rfl (by kernel_rfl) (fun _ _ _ h => h) (by rfl) ?h11x189 (by assumption) ?r11x189
  case h11x189 => intro w' hSw; (try dsimp only [sbx] at hSw); go_simp; try with_reducible rfl
  try simp only [Act.put, ly1, ly2, ly3]
  refine tk (i := 5) (oi := ⟨some 12, _, _, _, _, _⟩) (v := ?v12x190) rfl (by kernel_rfl) (fun _ _ _ h => h) (by rfl) ?h12x190 (by assumption) ?r12x190
  case h12x190 => intro w' hSw; (try dsimp only [sbx] at hSw); go_simp; try with_reducible rfl
  try simp only [Act.put, ly1, ly2, ly3]
  refine wpAnyH_ready (rs := [2]) (by kernel_rfl) (by simp) ?_
  refine AllReadyH.cons (o := ⟨some 9, _, _, _, _, _⟩) rfl (fun K hK => ?_) AllReadyH.nil
  rw [if_pos (by rfl)]
  go_simp
  refine (Calls.mono (first_any B b mb m nx vX _ (HHt.out _ (by repeat' (first | with_reducible exact tR _ _ | with_reducible apply tD | with_reducible apply tN | assumption))) op rd q1 q2 im rd0 rd1 q10 q11 q20 q21 i0 i1 HZ.out) ?_)
  rintro e w1 ⟨rfl, ht'⟩
  have t1 : ref.Touch [] (bx w op rd q1 q2 im) w1 := ref.Touch.trans (by repeat' (first | with_reducible exact tR _ _ | with_reducible apply tD | with_reducible apply tN | assumption)) ht'
  have p1 : w1.cell? ⟨b, 33, none⟩ = some (.int .u32 m.pc) := (HHt.out _ t1).cells 33 (by decide) (by decide)
  clear ht'
  refine hK.out _ _ (HSk.out _ (t1.mono (by simp)) p1) (fun hHeld => ?_)
  clear hK K
  try simp only [Act.put, ly1, ly2, ly3]
  refine tk (i := 6) (oi := ⟨some 13, _, _, _, _, _⟩) (v := ?v13x191) rfl (by kernel_rfl) (fun _ _ _ h => h) (by rfl) ?h13x191 (by assumption) ?r13x191
  case h13x191 => intro w' hSw; (try dsimp only [sbx] at hSw); go_simp; try with_reducible rfl
  try simp only [Act.put, ly1, ly2, ly3]
  refine tk (i := 7) (oi := ⟨some 6, _, _, _, _, _⟩) (v := ?v6x192) rfl (by kernel_rfl) (fun _ _ _ h => h) (by rfl) ?h6x192 (by assumption) ?r6x192
  case h6x192 => intro w' hSw; (try dsimp only [sbx] at hSw); go_simp; try with_reducible rfl
  try simp only [Act.put, ly1, ly2, ly3]
  refine wpAnyH_done (by kernel_rfl) ?_ _
  have c5 : w1.cell? ⟨w.heap.size, 3, none⟩ = some (.int .i64 q2) := hHeld.2.2.2.1
  have hb1 := hHeld
  obtain ⟨x0, x1, x2, x3, x4, x5⟩ := hb1
  go_wp2_with (first | (go_at_call 60; refine (Calls.mono (guard1_ok B b mb m nx vX _ (HHt.out _ (by repeat' (first | with_reducible exact tR _ _ | with_reducible apply tD | with_reducible apply tN | assumption))) (k : Int) 7 8 k0 k1 HF.out.size hl) ?_); rintro e w' ⟨rfl, hw'⟩; subst w') | (go_at_call 130; refine (Calls.mono (second_any B b mb m nx vX _ (HHt.out _ (by repeat' (first | with_reducible exact tR _ _ | with_reducible apply tD | with_reducible apply tN | assumption))) op rd q1 q2 im rd0 rd1 q10 q11 q20 q21 i0 i1 HZ.out) ?_); rintro e w2 ⟨rfl, ht'⟩; have t2 : ref.Touch [] (bx w op rd q1 q2 im) w2 := ref.Touch.trans (by repeat' (first | with_reducible exact tR _ _ | with_reducible apply tD | with_reducible apply tN | assumption)) ht'; clear ht') | (go_at_call 141; refine (Calls.mono (write_1 B b mb sb X m nx vX _ (HC.out _ (by repeat' (first | with_reducible exact tR _ _ | with_reducible apply tD | with_reducible apply tN | assumption))) k (m.regs q2.toNat) rb0 rb1 hk4 HF.out.size) ?_); rintro e w8 ⟨rfl, hat, ht8⟩; have HA : Hid (PCt B b mb sb X (wrote { m with mem := st m.mem k 1 (m.regs q2.toNat) } k 1) nx vX w8) := hat; have HT : Hid (ref.Touch [b, mb, sb] (bx w op rd q1 q2 im) w8) := ref.Touch.trans (ref.Touch.mono (S := []) (by repeat' (first | with_reducible exact tR _ _ | with_reducible apply tD | with_reducible apply tN | assumption)) (by simp)) ht8; clear hat ht8))
  go_end0
  exact ⟨rfl, HA.out, ((ref.Touch.refl _ _).alloc _).trans HT.out⟩
set_option maxHeartbeats 400000 in
theorem load2_al (B b mb : Nat) (m : M) (nx : Int) (vX : Nat → Value) (w : World) (h : PAt B b mb m nx vX w) (op rd q1 q2 im : Int) (rd0 : 0 ≤ rd) (rd1 : rd ≤ 31) (q10 : 0 ≤ q1) (q11 : q1 ≤ 31) (q20 : 0 ≤ q2) (q21 : q2 ≤ 31) (i0 : -2147483648 ≤ im) (i1 : im ≤ 2147483647) (hz : 0 < m.size) (hf : Fine m) (k : Nat) (hk : ((m.regs q1.toNat + im) % 4294967296) = k) (ha : ¬ (k : Int) % 2 = 0) :
    Calls Tryz.prog 133 #[.pointer (some ⟨b, 0, none⟩), .agg #[.int .i64 op, .int .i64 rd, .int .i64 q1, .int .i64 q2, .int .i32 im], .int .u32 2] w fun e w' => e = .panicked (trapV 5) ∧ ref.Touch [] w w' := by
  obtain ⟨lb, HH, HHt, HZ, HF, HSk, cpc, ra0, ra1, rb0, rb1, pc0, pc1, wi⟩ := pre_any B b mb m nx vX w h op rd q1 q2 im hz hf
  obtain ⟨lmb, HSk2⟩ := pre2_any B b mb m nx vX w h op rd q1 q2 im hz
  clear h
  have wa : IntKind.u32.wrap (m.regs q1.toNat + im % 4294967296) = (k : Int) := by rw [IntKind.wrap_u32, ← hk]; omega
  have k1 : (k : Int) ≤ 4294967295 := by omega
  have k0 : (0 : Int) ≤ (k : Int) := by omega
  have z5 := hf.size
  clear hz hf
  go_enter Tryz.func133, Tryz.ntmps133
  go_wp2_with fail
  refine wp_region_held_drew (S := (sbx w b m op rd q1 q2 im)) (by kernel_rfl) (HSk.out _ (ref.Touch.refl _ _).drew cpc) (fun hHeld => ?_)
  refine tk (i := 0) (oi := ⟨some 8, _, _, _, _, _⟩) (v := ?v8x193) rfl (by kernel_rfl) (fun _ _ _ h => h) (by rfl) ?h8x193 (by assumption) ?r8x193
  case h8x193 => intro w' hSw; (try dsimp only [sbx] at hSw); go_simp; try with_reducible rfl
  try simp only [Act.put, ly1, ly2, ly3]
  refine tk (i := 1) (oi := ⟨some 9, _, _, _, _, _⟩) (v := ?v9x194) rfl (by kernel_rfl) (fun _ _ _ h => h) (by rfl) ?h9x194 (by assumption) ?r9x194
  case h9x194 => intro w' hSw; (try dsimp only [sbx] at hSw); go_simp; try with_reducible rfl
  try simp only [Act.put, ly1, ly2, ly3]
  refine tk (i := 3) (oi := ⟨some 11, _, _, _, _, _⟩) (v := ?v11x195) rfl (by kernel_rfl) (fun _ _ _ h => h) (by rfl) ?h11x195 (by assumption) ?r11x195
  case h11x195 => intro w' hSw; (try dsimp only [sbx] at hSw); go_simp; try with_reducible rfl
  try simp only [Act.put, ly1, ly2, ly3]
  refine tk (i := 4) (oi := ⟨some 12, _, _, _, _, _⟩) (v := ?v12x196) rfl (by kernel_rfl) (fun _ _ _ h => h) (by rfl) ?h12x196 (by assumption) ?r12x196
  case h12x196 => intro w' hSw; (try dsimp only [sbx] at hSw); go_simp; try with_reducible rfl
  try simp only [Act.put, ly1, ly2, ly3]
  refine tk (i := 5) (oi := ⟨some 13, _, _, _, _, _⟩) (v := ?v13x197) rfl (by kernel_rfl) (fun _ _ _ h => h) (by rfl) ?h13x197 (by assumption) ?r13x197
  case h13x197 => intro w' hSw; (try dsimp only [sbx] at hSw); go_simp; try with_reducible rfl
  try simp only [Act.put, ly1, ly2, ly3]
  refine wpAnyH_ready (rs := [2]) (by kernel_rfl) (by simp) ?_
  refine AllReadyH.cons (o := ⟨some 10, _, _, _, _, _⟩) rfl (fun K hK => ?_) AllReadyH.nil
  rw [if_pos (by rfl)]
  go_simp
  refine (Calls.mono (first_any B b mb m nx vX _ (HHt.out _ (by repeat' (first | with_reducible exact tR _ _ | with_reducible apply tD | with_reducible apply tN | assumption))) op rd q1 q2 im rd0 rd1 q10 q11 q20 q21 i0 i1 HZ.out) ?_)
  rintro e w1 ⟨rfl, ht'⟩
  have t1 : ref.Touch [] (bx w op rd q1 q2 im) w1 := ref.Touch.trans (by repeat' (first | with_reducible exact tR _ _ | with_reducible apply tD | with_reducible apply tN | assumption)) ht'
  have p1 : w1.cell? ⟨b, 33, none⟩ = some (.int .u32 m.pc) := (HHt.out _ t1).cells 33 (by decide) (by decide)
  clear ht'
  refine hK.out _ _ (HSk.out _ (t1.mono (by simp)) p1) (fun hHeld => ?_)
  clear hK K
  try simp only [Act.put, ly1, ly2, ly3]
  refine tk (i := 6) (oi := ⟨some 14, _, _, _, _, _⟩) (v := ?v14x198) rfl (by kernel_rfl) (fun _ _ _ h => h) (by rfl) ?h14x198 (by assumption) ?r14x198
  case h14x198 => intro w' hSw; (try dsimp only [sbx] at hSw); go_simp; try with_reducible rfl
  try simp only [Act.put, ly1, ly2, ly3]
  refine tk (i := 7) (oi := ⟨some 7, _, _, _, _, _⟩) (v := ?v7x199) rfl (by kernel_rfl) (fun _ _ _ h => h) (by rfl) ?h7x199 (by assumption) ?r7x199
  case h7x199 => intro w' hSw; (try dsimp only [sbx] at hSw); go_simp; try with_reducible rfl
  try simp only [Act.put, ly1, ly2, ly3]
  refine wpAnyH_done (by kernel_rfl) ?_ _
  go_wp2_with (first | (go_at_call 60; refine (Calls.mono (guard2_al B b mb m nx vX _ (HHt.out _ (by repeat' (first | with_reducible exact tR _ _ | with_reducible apply tD | with_reducible apply tN | assumption))) (k : Int) 5 6 k0 k1 HF.out.size ha ) ?_); rintro e w' ⟨rfl, hw'⟩; subst w'))
  exact ⟨rfl, rfl, (by repeat' (first | with_reducible exact ref.Touch.refl _ _ | with_reducible apply ref.Touch.drew | with_reducible apply ref.Touch.drewN | with_reducible apply ref.Touch.alloc | assumption | exact ref.Touch.trans ((ref.Touch.refl [] _).alloc _) (by assumption)))⟩
set_option maxHeartbeats 400000 in
theorem load2_fa (B b mb : Nat) (m : M) (nx : Int) (vX : Nat → Value) (w : World) (h : PAt B b mb m nx vX w) (op rd q1 q2 im : Int) (rd0 : 0 ≤ rd) (rd1 : rd ≤ 31) (q10 : 0 ≤ q1) (q11 : q1 ≤ 31) (q20 : 0 ≤ q2) (q21 : q2 ≤ 31) (i0 : -2147483648 ≤ im) (i1 : im ≤ 2147483647) (hz : 0 < m.size) (hf : Fine m) (k : Nat) (hk : ((m.regs q1.toNat + im) % 4294967296) = k) (ha : (k : Int) % 2 = 0) (hl : lies m k 2 = false) :
    Calls Tryz.prog 133 #[.pointer (some ⟨b, 0, none⟩), .agg #[.int .i64 op, .int .i64 rd, .int .i64 q1, .int .i64 q2, .int .i32 im], .int .u32 2] w fun e w' => e = .panicked (trapV 6) ∧ ref.Touch [] w w' := by
  obtain ⟨lb, HH, HHt, HZ, HF, HSk, cpc, ra0, ra1, rb0, rb1, pc0, pc1, wi⟩ := pre_any B b mb m nx vX w h op rd q1 q2 im hz hf
  obtain ⟨lmb, HSk2⟩ := pre2_any B b mb m nx vX w h op rd q1 q2 im hz
  clear h
  have wa : IntKind.u32.wrap (m.regs q1.toNat + im % 4294967296) = (k : Int) := by rw [IntKind.wrap_u32, ← hk]; omega
  have k1 : (k : Int) ≤ 4294967295 := by omega
  have k0 : (0 : Int) ≤ (k : Int) := by omega
  have z5 := hf.size
  clear hz hf
  go_enter Tryz.func133, Tryz.ntmps133
  go_wp2_with fail
  refine wp_region_held_drew (S := (sbx w b m op rd q1 q2 im)) (by kernel_rfl) (HSk.out _ (ref.Touch.refl _ _).drew cpc) (fun hHeld => ?_)
  refine tk (i := 0) (oi := ⟨some 8, _, _, _, _, _⟩) (v := ?v8x193) rfl (by kernel_rfl) (fun _ _ _ h => h) (by rfl) ?h8x193 (by assumption) ?r8x193
  case h8x193 => intro w' hSw; (try dsimp only [sbx] at hSw); go_simp; try with_reducible rfl
  try simp only [Act.put, ly1, ly2, ly3]
  refine tk (i := 1) (oi := ⟨some 9, _, _, _, _, _⟩) (v := ?v9x194) rfl (by kernel_rfl) (fun _ _ _ h => h) (by rfl) ?h9x194 (by assumption) ?r9x194
  case h9x194 => intro w' hSw; (try dsimp only [sbx] at hSw); go_simp; try with_reducible rfl
  try simp only [Act.put, ly1, ly2, ly3]
  refine tk (i := 3) (oi := ⟨some 11, _, _, _, _, _⟩) (v := ?v11x195) rfl (by kernel_rfl) (fun _ _ _ h => h) (by rfl) ?h11x195 (by assumption) ?r11x195
  case h11x195 => intro w' hSw; (try dsimp only [sbx] at hSw); go_simp; try with_reducible rfl
  try simp only [Act.put, ly1, ly2, ly3]
  refine tk (i := 4) (oi := ⟨some 12, _, _, _, _, _⟩) (v := ?v12x196) rfl (by kernel_rfl) (fun _ _ _ h => h) (by rfl) ?h12x196 (by assumption) ?r12x196
  case h12x196 => intro w' hSw; (try dsimp only [sbx] at hSw); go_simp; try with_reducible rfl
  try simp only [Act.put, ly1, ly2, ly3]
  refine tk (i := 5) (oi := ⟨some 13, _, _, _, _, _⟩) (v := ?v13x197) rfl (by kernel_rfl) (fun _ _ _ h => h) (by rfl) ?h13x197 (by assumption) ?r13x197
  case h13x197 => intro w' hSw; (try dsimp only [sbx] at hSw); go_simp; try with_reducible rfl
  try simp only [Act.put, ly1, ly2, ly3]
  refine wpAnyH_ready (rs := [2]) (by kernel_rfl) (by simp) ?_
  refine AllReadyH.cons (o := ⟨some 10, _, _, _, _, _⟩) rfl (fun K hK => ?_) AllReadyH.nil
  rw [if_pos (by rfl)]
  go_simp
  refine (Calls.mono (first_any B b mb m nx vX _ (HHt.out _ (by repeat' (first | with_reducible exact tR _ _ | with_reducible apply tD | with_reducible apply tN | assumption))) op rd q1 q2 im rd0 rd1 q10 q11 q20 q21 i0 i1 HZ.out) ?_)
  rintro e w1 ⟨rfl, ht'⟩
  have t1 : ref.Touch [] (bx w op rd q1 q2 im) w1 := ref.Touch.trans (by repeat' (first | with_reducible exact tR _ _ | with_reducible apply tD | with_reducible apply tN | assumption)) ht'
  have p1 : w1.cell? ⟨b, 33, none⟩ = some (.int .u32 m.pc) := (HHt.out _ t1).cells 33 (by decide) (by decide)
  clear ht'
  refine hK.out _ _ (HSk.out _ (t1.mono (by simp)) p1) (fun hHeld => ?_)
  clear hK K
  try simp only [Act.put, ly1, ly2, ly3]
  refine tk (i := 6) (oi := ⟨some 14, _, _, _, _, _⟩) (v := ?v14x198) rfl (by kernel_rfl) (fun _ _ _ h => h) (by rfl) ?h14x198 (by assumption) ?r14x198
  case h14x198 => intro w' hSw; (try dsimp only [sbx] at hSw); go_simp; try with_reducible rfl
  try simp only [Act.put, ly1, ly2, ly3]
  refine tk (i := 7) (oi := ⟨some 7, _, _, _, _, _⟩) (v := ?v7x199) rfl (by kernel_rfl) (fun _ _ _ h => h) (by rfl) ?h7x199 (by assumption) ?r7x199
  case h7x199 => intro w' hSw; (try dsimp only [sbx] at hSw); go_simp; try with_reducible rfl
  try simp only [Act.put, ly1, ly2, ly3]
  refine wpAnyH_done (by kernel_rfl) ?_ _
  go_wp2_with (first | (go_at_call 60; refine (Calls.mono (guard2_fa B b mb m nx vX _ (HHt.out _ (by repeat' (first | with_reducible exact tR _ _ | with_reducible apply tD | with_reducible apply tN | assumption))) (k : Int) 5 6 k0 k1 HF.out.size ha hl) ?_); rintro e w' ⟨rfl, hw'⟩; subst w'))
  exact ⟨rfl, rfl, (by repeat' (first | with_reducible exact ref.Touch.refl _ _ | with_reducible apply ref.Touch.drew | with_reducible apply ref.Touch.drewN | with_reducible apply ref.Touch.alloc | assumption | exact ref.Touch.trans ((ref.Touch.refl [] _).alloc _) (by assumption)))⟩
set_option maxHeartbeats 400000 in
theorem load2_ok (B b mb : Nat) (m : M) (nx : Int) (vX : Nat → Value) (w : World) (h : PAt B b mb m nx vX w) (op rd q1 q2 im : Int) (rd0 : 0 ≤ rd) (rd1 : rd ≤ 31) (q10 : 0 ≤ q1) (q11 : q1 ≤ 31) (q20 : 0 ≤ q2) (q21 : q2 ≤ 31) (i0 : -2147483648 ≤ im) (i1 : im ≤ 2147483647) (hz : 0 < m.size) (hf : Fine m) (k : Nat) (hk : ((m.regs q1.toNat + im) % 4294967296) = k) (ha : (k : Int) % 2 = 0) (hl : lies m k 2 = true) :
    Calls Tryz.prog 133 #[.pointer (some ⟨b, 0, none⟩), .agg #[.int .i64 op, .int .i64 rd, .int .i64 q1, .int .i64 q2, .int .i32 im], .int .u32 2] w fun e w' => e = .returned (.int .u32 (ld m.mem k 2)) ∧ ref.Touch [] w w' := by
  obtain ⟨lb, HH, HHt, HZ, HF, HSk, cpc, ra0, ra1, rb0, rb1, pc0, pc1, wi⟩ := pre_any B b mb m nx vX w h op rd q1 q2 im hz hf
  obtain ⟨lmb, HSk2⟩ := pre2_any B b mb m nx vX w h op rd q1 q2 im hz
  clear h
  have wa : IntKind.u32.wrap (m.regs q1.toNat + im % 4294967296) = (k : Int) := by rw [IntKind.wrap_u32, ← hk]; omega
  have k1 : (k : Int) ≤ 4294967295 := by omega
  have k0 : (0 : Int) ≤ (k : Int) := by omega
  have z5 := hf.size
  have hk4 : k + 2 ≤ m.size := by simp [lies] at hl; omega
  clear hz hf
  go_enter Tryz.func133, Tryz.ntmps133
  go_wp2_with fail
  refine wp_region_held_drew (S := (sbx w b m op rd q1 q2 im)) (by kernel_rfl) (HSk.out _ (ref.Touch.refl _ _).drew cpc) (fun hHeld => ?_)
  refine tk (i := 0) (oi := ⟨some 8, _, _, _, _, _⟩) (v := ?v8x193) rfl (by kernel_rfl) (fun _ _ _ h => h) (by rfl) ?h8x193 (by assumption) ?r8x193
  case h8x193 => intro w' hSw; (try dsimp only [sbx] at hSw); go_simp; try with_reducible rfl
  try simp only [Act.put, ly1, ly2, ly3]
  refine tk (i := 1) (oi := ⟨some 9, _, _, _, _, _⟩) (v := ?v9x194) rfl (by kernel_rfl) (fun _ _ _ h => h) (by rfl) ?h9x194 (by assumption) ?r9x194
  case h9x194 => intro w' hSw; (try dsimp only [sbx] at hSw); go_simp; try with_reducible rfl
  try simp only [Act.put, ly1, ly2, ly3]
  refine tk (i := 3) (oi := ⟨some 11, _, _, _, _, _⟩) (v := ?v11x195) rfl (by kernel_rfl) (fun _ _ _ h => h) (by rfl) ?h11x195 (by assumption) ?r11x195
  case h11x195 => intro w' hSw; (try dsimp only [sbx] at hSw); go_simp; try with_reducible rfl
  try simp only [Act.put, ly1, ly2, ly3]
  refine tk (i := 4) (oi := ⟨some 12, _, _, _, _, _⟩) (v := ?v12x196) rfl (by kernel_rfl) (fun _ _ _ h => h) (by rfl) ?h12x196 (by assumption) ?r12x196
  case h12x196 => intro w' hSw; (try dsimp only [sbx] at hSw); go_simp; try with_reducible rfl
  try simp only [Act.put, ly1, ly2, ly3]
  refine tk (i := 5) (oi := ⟨some 13, _, _, _, _, _⟩) (v := ?v13x197) rfl (by kernel_rfl) (fun _ _ _ h => h) (by rfl) ?h13x197 (by assumption) ?r13x197
  case h13x197 => intro w' hSw; (try dsimp only [sbx] at hSw); go_simp; try with_reducible rfl
  try simp only [Act.put, ly1, ly2, ly3]
  refine wpAnyH_ready (rs := [2]) (by kernel_rfl) (by simp) ?_
  refine AllReadyH.cons (o := ⟨some 10, _, _, _, _, _⟩) rfl (fun K hK => ?_) AllReadyH.nil
  rw [if_pos (by rfl)]
  go_simp
  refine (Calls.mono (first_any B b mb m nx vX _ (HHt.out _ (by repeat' (first | with_reducible exact tR _ _ | with_reducible apply tD | with_reducible apply tN | assumption))) op rd q1 q2 im rd0 rd1 q10 q11 q20 q21 i0 i1 HZ.out) ?_)
  rintro e w1 ⟨rfl, ht'⟩
  have t1 : ref.Touch [] (bx w op rd q1 q2 im) w1 := ref.Touch.trans (by repeat' (first | with_reducible exact tR _ _ | with_reducible apply tD | with_reducible apply tN | assumption)) ht'
  have p1 : w1.cell? ⟨b, 33, none⟩ = some (.int .u32 m.pc) := (HHt.out _ t1).cells 33 (by decide) (by decide)
  clear ht'
  refine hK.out _ _ (HSk.out _ (t1.mono (by simp)) p1) (fun hHeld => ?_)
  clear hK K
  try simp only [Act.put, ly1, ly2, ly3]
  refine tk (i := 6) (oi := ⟨some 14, _, _, _, _, _⟩) (v := ?v14x198) rfl (by kernel_rfl) (fun _ _ _ h => h) (by rfl) ?h14x198 (by assumption) ?r14x198
  case h14x198 => intro w' hSw; (try dsimp only [sbx] at hSw); go_simp; try with_reducible rfl
  try simp only [Act.put, ly1, ly2, ly3]
  refine tk (i := 7) (oi := ⟨some 7, _, _, _, _, _⟩) (v := ?v7x199) rfl (by kernel_rfl) (fun _ _ _ h => h) (by rfl) ?h7x199 (by assumption) ?r7x199
  case h7x199 => intro w' hSw; (try dsimp only [sbx] at hSw); go_simp; try with_reducible rfl
  try simp only [Act.put, ly1, ly2, ly3]
  refine wpAnyH_done (by kernel_rfl) ?_ _
  go_wp2_with (first | (go_at_call 60; refine (Calls.mono (guard2_ok B b mb m nx vX _ (HHt.out _ (by repeat' (first | with_reducible exact tR _ _ | with_reducible apply tD | with_reducible apply tN | assumption))) (k : Int) 5 6 k0 k1 HF.out.size ha hl) ?_); rintro e w' ⟨rfl, hw'⟩; subst w') | (go_at_call 90; refine (Calls.mono (read_2 B b mb m nx vX _ (HHt.out _ (by repeat' (first | with_reducible exact tR _ _ | with_reducible apply tD | with_reducible apply tN | assumption))) k hk4 HF.out.size HF.out.mem) ?_); rintro e w8 ⟨rfl, ht8⟩; have HT : Hid (ref.Touch [] (bx w op rd q1 q2 im) w8) := ref.Touch.trans (by repeat' (first | with_reducible exact tR _ _ | with_reducible apply tD | with_reducible apply tN | assumption)) ht8; clear ht8))
  go_ret
  exact ⟨rfl, ((ref.Touch.refl _ _).alloc _).trans HT.out⟩
set_option maxHeartbeats 400000 in
theorem store2_al (B b mb : Nat) (m : M) (nx : Int) (vX : Nat → Value) (w : World) (h : PAt B b mb m nx vX w) (op rd q1 q2 im : Int) (rd0 : 0 ≤ rd) (rd1 : rd ≤ 31) (q10 : 0 ≤ q1) (q11 : q1 ≤ 31) (q20 : 0 ≤ q2) (q21 : q2 ≤ 31) (i0 : -2147483648 ≤ im) (i1 : im ≤ 2147483647) (hz : 0 < m.size) (hf : Fine m) (k : Nat) (hk : ((m.regs q1.toNat + im) % 4294967296) = k) (ha : ¬ (k : Int) % 2 = 0) :
    Calls Tryz.prog 134 #[.pointer (some ⟨b, 0, none⟩), .agg #[.int .i64 op, .int .i64 rd, .int .i64 q1, .int .i64 q2, .int .i32 im], .int .u32 2] w fun e w' => e = .panicked (trapV 7) ∧ ref.Touch [] w w' := by
  obtain ⟨lb, HH, HHt, HZ, HF, HSk, cpc, ra0, ra1, rb0, rb1, pc0, pc1, wi⟩ := pre_any B b mb m nx vX w h op rd q1 q2 im hz hf
  obtain ⟨lmb, HSk2⟩ := pre2_any B b mb m nx vX w h op rd q1 q2 im hz
  clear h
  have wa : IntKind.u32.wrap (m.regs q1.toNat + im % 4294967296) = (k : Int) := by rw [IntKind.wrap_u32, ← hk]; omega
  have k1 : (k : Int) ≤ 4294967295 := by omega
  have k0 : (0 : Int) ≤ (k : Int) := by omega
  have z5 := hf.size
  clear hz hf
  go_enter Tryz.func134, Tryz.ntmps134
  go_wp2_with fail
  refine wp_region_held_drew (S := (sbx w b m op rd q1 q2 im)) (by kernel_rfl) (HSk.out _ (ref.Touch.refl _ _).drew cpc) (fun hHeld => ?_)
  refine tk (i := 0) (oi := ⟨some 7, _, _, _, _, _⟩) (v := ?v7x200) rfl (by kernel_rfl) (fun _ _ _ h => h) (by rfl) ?h7x200 (by assumption) ?r7x200
  case h7x200 => intro w' hSw; (try dsimp only [sbx] at hSw); go_simp; try with_reducible rfl
  try simp only [Act.put, ly1, ly2, ly3]
  refine tk (i := 1) (oi := ⟨some 8, _, _, _, _, _⟩) (v := ?v8x201) rfl (by kernel_rfl) (fun _ _ _ h => h) (by rfl) ?h8x201 (by assumption) ?r8x201
  case h8x201 => intro w' hSw; (try dsimp only [sbx] at hSw); go_simp; try with_reducible rfl
  try simp only [Act.put, ly1, ly2, ly3]
  refine tk (i := 3) (oi := ⟨some 10, _, _, _, _, _⟩) (v := ?v10x202) rfl (by kernel_rfl) (fun _ _ _ h => h) (by rfl) ?h10x202 (by assumption) ?r10x202
  case h10x202 => intro w' hSw; (try dsimp only [sbx] at hSw); go_simp; try with_reducible rfl
  try simp only [Act.put, ly1, ly2, ly3]
  refine tk (i := 4) (oi := ⟨some 11, _, _, _, _, _⟩) (v := ?v11x203) rfl (by kernel_rfl) (fun _ _ _ h => h) (by rfl) ?h11x203 (by assumption) ?r11x203
  case h11x203 => intro w' hSw; (try dsimp only [sbx] at hSw); go_simp; try with_reducible rfl
  try simp only [Act.put, ly1, ly2, ly3]
  refine tk (i := 5) (oi := ⟨some 12, _, _, _, _, _⟩) (v := ?v12x204) rfl (by kernel_rfl) (fun _ _ _ h => h) (by rfl) ?h12x204 (by assumption) ?r12x204
  case h12x204 => intro w' hSw; (try dsimp only [sbx] at hSw); go_simp; try with_reducible rfl
  try simp only [Act.put, ly1, ly2, ly3]
  refine wpAnyH_ready (rs := [2]) (by kernel_rfl) (by simp) ?_
  refine AllReadyH.cons (o := ⟨some 9, _, _, _, _, _⟩) rfl (fun K hK => ?_) AllReadyH.nil
  rw [if_pos (by rfl)]
  go_simp
  refine (Calls.mono (first_any B b mb m nx vX _ (HHt.out _ (by repeat' (first | with_reducible exact tR _ _ | with_reducible apply tD | with_reducible apply tN | assumption))) op rd q1 q2 im rd0 rd1 q10 q11 q20 q21 i0 i1 HZ.out) ?_)
  rintro e w1 ⟨rfl, ht'⟩
  have t1 : ref.Touch [] (bx w op rd q1 q2 im) w1 := ref.Touch.trans (by repeat' (first | with_reducible exact tR _ _ | with_reducible apply tD | with_reducible apply tN | assumption)) ht'
  have p1 : w1.cell? ⟨b, 33, none⟩ = some (.int .u32 m.pc) := (HHt.out _ t1).cells 33 (by decide) (by decide)
  clear ht'
  refine hK.out _ _ (HSk.out _ (t1.mono (by simp)) p1) (fun hHeld => ?_)
  clear hK K
  try simp only [Act.put, ly1, ly2, ly3]
  refine tk (i := 6) (oi := ⟨some 13, _, _, _, _, _⟩) (v := ?v13x205) rfl (by kernel_rfl) (fun _ _ _ h => h) (by rfl) ?h13x205 (by assumption) ?r13x205
  case h13x205 => intro w' hSw; (try dsimp only [sbx] at hSw); go_simp; try with_reducible rfl
  try simp only [Act.put, ly1, ly2, ly3]
  refine tk (i := 7) (oi := ⟨some 6, _, _, _, _, _⟩) (v := ?v6x206) rfl (by kernel_rfl) (fun _ _ _ h => h) (by rfl) ?h6x206 (by assumption) ?r6x206
  case h6x206 => intro w' hSw; (try dsimp only [sbx] at hSw); go_simp; try with_reducible rfl
  try simp only [Act.put, ly1, ly2, ly3]
  refine wpAnyH_done (by kernel_rfl) ?_ _
  go_wp2_with (first | (go_at_call 60; refine (Calls.mono (guard2_al B b mb m nx vX _ (HHt.out _ (by repeat' (first | with_reducible exact tR _ _ | with_reducible apply tD | with_reducible apply tN | assumption))) (k : Int) 7 8 k0 k1 HF.out.size ha ) ?_); rintro e w' ⟨rfl, hw'⟩; subst w'))
  exact ⟨rfl, rfl, (by repeat' (first | with_reducible exact ref.Touch.refl _ _ | with_reducible apply ref.Touch.drew | with_reducible apply ref.Touch.drewN | with_reducible apply ref.Touch.alloc | assumption | exact ref.Touch.trans ((ref.Touch.refl [] _).alloc _) (by assumption)))⟩
set_option maxHeartbeats 400000 in
theorem store2_fa (B b mb : Nat) (m : M) (nx : Int) (vX : Nat → Value) (w : World) (h : PAt B b mb m nx vX w) (op rd q1 q2 im : Int) (rd0 : 0 ≤ rd) (rd1 : rd ≤ 31) (q10 : 0 ≤ q1) (q11 : q1 ≤ 31) (q20 : 0 ≤ q2) (q21 : q2 ≤ 31) (i0 : -2147483648 ≤ im) (i1 : im ≤ 2147483647) (hz : 0 < m.size) (hf : Fine m) (k : Nat) (hk : ((m.regs q1.toNat + im) % 4294967296) = k) (ha : (k : Int) % 2 = 0) (hl : lies m k 2 = false) :
    Calls Tryz.prog 134 #[.pointer (some ⟨b, 0, none⟩), .agg #[.int .i64 op, .int .i64 rd, .int .i64 q1, .int .i64 q2, .int .i32 im], .int .u32 2] w fun e w' => e = .panicked (trapV 8) ∧ ref.Touch [] w w' := by
  obtain ⟨lb, HH, HHt, HZ, HF, HSk, cpc, ra0, ra1, rb0, rb1, pc0, pc1, wi⟩ := pre_any B b mb m nx vX w h op rd q1 q2 im hz hf
  obtain ⟨lmb, HSk2⟩ := pre2_any B b mb m nx vX w h op rd q1 q2 im hz
  clear h
  have wa : IntKind.u32.wrap (m.regs q1.toNat + im % 4294967296) = (k : Int) := by rw [IntKind.wrap_u32, ← hk]; omega
  have k1 : (k : Int) ≤ 4294967295 := by omega
  have k0 : (0 : Int) ≤ (k : Int) := by omega
  have z5 := hf.size
  clear hz hf
  go_enter Tryz.func134, Tryz.ntmps134
  go_wp2_with fail
  refine wp_region_held_drew (S := (sbx w b m op rd q1 q2 im)) (by kernel_rfl) (HSk.out _ (ref.Touch.refl _ _).drew cpc) (fun hHeld => ?_)
  refine tk (i := 0) (oi := ⟨some 7, _, _, _, _, _⟩) (v := ?v7x200) rfl (by kernel_rfl) (fun _ _ _ h => h) (by rfl) ?h7x200 (by assumption) ?r7x200
  case h7x200 => intro w' hSw; (try dsimp only [sbx] at hSw); go_simp; try with_reducible rfl
  try simp only [Act.put, ly1, ly2, ly3]
  refine tk (i := 1) (oi := ⟨some 8, _, _, _, _, _⟩) (v := ?v8x201) rfl (by kernel_rfl) (fun _ _ _ h => h) (by rfl) ?h8x201 (by assumption) ?r8x201
  case h8x201 => intro w' hSw; (try dsimp only [sbx] at hSw); go_simp; try with_reducible rfl
  try simp only [Act.put, ly1, ly2, ly3]
  refine tk (i := 3) (oi := ⟨some 10, _, _, _, _, _⟩) (v := ?v10x202) rfl (by kernel_rfl) (fun _ _ _ h => h) (by rfl) ?h10x202 (by assumption) ?r10x202
  case h10x202 => intro w' hSw; (try dsimp only [sbx] at hSw); go_simp; try with_reducible rfl
  try simp only [Act.put, ly1, ly2, ly3]
  refine tk (i := 4) (oi := ⟨some 11, _, _, _, _, _⟩) (v := ?v11x203) rfl (by kernel_rfl) (fun _ _ _ h => h) (by rfl) ?h11x203 (by assumption) ?r11x203
  case h11x203 => intro w' hSw; (try dsimp only [sbx] at hSw); go_simp; try with_reducible rfl
  try simp only [Act.put, ly1, ly2, ly3]
  refine tk (i := 5) (oi := ⟨some 12, _, _, _, _, _⟩) (v := ?v12x204) rfl (by kernel_rfl) (fun _ _ _ h => h) (by rfl) ?h12x204 (by assumption) ?r12x204
  case h12x204 => intro w' hSw; (try dsimp only [sbx] at hSw); go_simp; try with_reducible rfl
  try simp only [Act.put, ly1, ly2, ly3]
  refine wpAnyH_ready (rs := [2]) (by kernel_rfl) (by simp) ?_
  refine AllReadyH.cons (o := ⟨some 9, _, _, _, _, _⟩) rfl (fun K hK => ?_) AllReadyH.nil
  rw [if_pos (by rfl)]
  go_simp
  refine (Calls.mono (first_any B b mb m nx vX _ (HHt.out _ (by repeat' (first | with_reducible exact tR _ _ | with_reducible apply tD | with_reducible apply tN | assumption))) op rd q1 q2 im rd0 rd1 q10 q11 q20 q21 i0 i1 HZ.out) ?_)
  rintro e w1 ⟨rfl, ht'⟩
  have t1 : ref.Touch [] (bx w op rd q1 q2 im) w1 := ref.Touch.trans (by repeat' (first | with_reducible exact tR _ _ | with_reducible apply tD | with_reducible apply tN | assumption)) ht'
  have p1 : w1.cell? ⟨b, 33, none⟩ = some (.int .u32 m.pc) := (HHt.out _ t1).cells 33 (by decide) (by decide)
  clear ht'
  refine hK.out _ _ (HSk.out _ (t1.mono (by simp)) p1) (fun hHeld => ?_)
  clear hK K
  try simp only [Act.put, ly1, ly2, ly3]
  refine tk (i := 6) (oi := ⟨some 13, _, _, _, _, _⟩) (v := ?v13x205) rfl (by kernel_rfl) (fun _ _ _ h => h) (by rfl) ?h13x205 (by assumption) ?r13x205
  case h13x205 => intro w' hSw; (try dsimp only [sbx] at hSw); go_simp; try with_reducible rfl
  try simp only [Act.put, ly1, ly2, ly3]
  refine tk (i := 7) (oi := ⟨some 6, _, _, _, _, _⟩) (v := ?v6x206) rfl (by kernel_rfl) (fun _ _ _ h => h) (by rfl) ?h6x206 (by assumption) ?r6x206
  case h6x206 => intro w' hSw; (try dsimp only [sbx] at hSw); go_simp; try with_reducible rfl
  try simp only [Act.put, ly1, ly2, ly3]
  refine wpAnyH_done (by kernel_rfl) ?_ _
  go_wp2_with (first | (go_at_call 60; refine (Calls.mono (guard2_fa B b mb m nx vX _ (HHt.out _ (by repeat' (first | with_reducible exact tR _ _ | with_reducible apply tD | with_reducible apply tN | assumption))) (k : Int) 7 8 k0 k1 HF.out.size ha hl) ?_); rintro e w' ⟨rfl, hw'⟩; subst w'))
  exact ⟨rfl, rfl, (by repeat' (first | with_reducible exact ref.Touch.refl _ _ | with_reducible apply ref.Touch.drew | with_reducible apply ref.Touch.drewN | with_reducible apply ref.Touch.alloc | assumption | exact ref.Touch.trans ((ref.Touch.refl [] _).alloc _) (by assumption)))⟩
set_option maxHeartbeats 400000 in
theorem store2_ok (B b mb sb : Nat) (X : List Nat) (m : M) (nx : Int) (vX : Nat → Value) (w : World) (hc0 : PCt B b mb sb X m nx vX w) (op rd q1 q2 im : Int) (rd0 : 0 ≤ rd) (rd1 : rd ≤ 31) (q10 : 0 ≤ q1) (q11 : q1 ≤ 31) (q20 : 0 ≤ q2) (q21 : q2 ≤ 31) (i0 : -2147483648 ≤ im) (i1 : im ≤ 2147483647) (hz : 0 < m.size) (hf : Fine m) (k : Nat) (hk : ((m.regs q1.toNat + im) % 4294967296) = k) (ha : (k : Int) % 2 = 0) (hl : lies m k 2 = true) :
    Calls Tryz.prog 134 #[.pointer (some ⟨b, 0, none⟩), .agg #[.int .i64 op, .int .i64 rd, .int .i64 q1, .int .i64 q2, .int .i32 im], .int .u32 2] w fun e w' => e = .returned (.tuple #[]) ∧ PCt B b mb sb X (wrote { m with mem := st m.mem k 2 (m.regs q2.toNat) } k 2) nx vX w' ∧ ref.Touch [b, mb, sb] w w' := by
  have h := hc0.p
  have HC : Hid (∀ w', ref.Touch [] (bx w op rd q1 q2 im) w' → PCt B b mb sb X m nx vX w') := fun w' t => hc0.quiet hz (((ref.Touch.refl _ _).alloc _).trans t)
  clear hc0
  obtain ⟨lb, HH, HHt, HZ, HF, HSk, cpc, ra0, ra1, rb0, rb1, pc0, pc1, wi⟩ := pre_any B b mb m nx vX w h op rd q1 q2 im hz hf
  obtain ⟨lmb, HSk2⟩ := pre2_any B b mb m nx vX w h op rd q1 q2 im hz
  clear h
  have wa : IntKind.u32.wrap (m.regs q1.toNat + im % 4294967296) = (k : Int) := by rw [IntKind.wrap_u32, ← hk]; omega
  have k1 : (k : Int) ≤ 4294967295 := by omega
  have k0 : (0 : Int) ≤ (k : Int) := by omega
  have z5 := hf.size
  have hk4 : k + 2 ≤ m.size := by simp [lies] at hl; omega
  clear hz hf
  go_enter Tryz.func134, Tryz.ntmps134
  go_wp2_with fail
  refine wp_region_held_drew (S := (sbx w b m op rd q1 q2 im)) (by kernel_rfl) (HSk.out _ (ref.Touch.refl _ _).drew cpc) (fun hHeld => ?_)
  refine tk (i := 0) (oi := ⟨some 7, _, _, _, _, _⟩) (v := ?v7x200) rfl (by kernel_rfl) (fun _ _ _ h => h) (by rfl) ?h7x200 (by assumption) ?r7x200
  case h7x200 => intro w' hSw; (try dsimp only [sbx] at hSw); go_simp; try with_reducible rfl
  try simp only [Act.put, ly1, ly2, ly3]
  refine tk (i := 1) (oi := ⟨some 8, _, _, _, _, _⟩) (v := ?v8x201) rfl (by kernel_rfl) (fun _ _ _ h => h) (by rfl) ?h8x201 (by assumption) ?r8x201
  case h8x201 => intro w' hSw; (try dsimp only [sbx] at hSw); go_simp; try with_reducible rfl
  try simp only [Act.put, ly1, ly2, ly3]
  refine tk (i := 3) (oi := ⟨some 10, _, _, _, _, _⟩) (v := ?v10x202) rfl (by kernel_rfl) (fun _ _ _ h => h) (by rfl) ?h10x202 (by assumption) ?r10x202
  case h10x202 => intro w' hSw; (try dsimp only [sbx] at hSw); go_simp; try with_reducible rfl
  try simp only [Act.put, ly1, ly2, ly3]
  refine tk (i := 4) (oi := ⟨some 11, _, _, _, _, _⟩) (v := ?v11x203) rfl (by kernel_rfl) (fun _ _ _ h => h) (by rfl) ?h11x203 (by assumption) ?r11x203
  case h11x203 => intro w' hSw; (try dsimp only [sbx] at hSw); go_simp; try with_reducible rfl
  try simp only [Act.put, ly1, ly2, ly3]
  refine tk (i := 5) (oi := ⟨some 12, _, _, _, _, _⟩) (v := ?v12x204) rfl (by kernel_rfl) (fun _ _ _ h => h) (by rfl) ?h12x204 (by assumption) ?r12x204
  case h12x204 => intro w' hSw; (try dsimp only [sbx] at hSw); go_simp; try with_reducible rfl
  try simp only [Act.put, ly1, ly2, ly3]
  refine wpAnyH_ready (rs := [2]) (by kernel_rfl) (by simp) ?_
  refine AllReadyH.cons (o := ⟨some 9, _, _, _, _, _⟩) rfl (fun K hK => ?_) AllReadyH.nil
  rw [if_pos (by rfl)]
  go_simp
  refine (Calls.mono (first_any B b mb m nx vX _ (HHt.out _ (by repeat' (first | with_reducible exact tR _ _ | with_reducible apply tD | with_reducible apply tN | assumption))) op rd q1 q2 im rd0 rd1 q10 q11 q20 q21 i0 i1 HZ.out) ?_)
  rintro e w1 ⟨rfl, ht'⟩
  have t1 : ref.Touch [] (bx w op rd q1 q2 im) w1 := ref.Touch.trans (by repeat' (first | with_reducible exact tR _ _ | with_reducible apply tD | with_reducible apply tN | assumption)) ht'
  have p1 : w1.cell? ⟨b, 33, none⟩ = some (.int .u32 m.pc) := (HHt.out _ t1).cells 33 (by decide) (by decide)
  clear ht'
  refine hK.out _ _ (HSk.out _ (t1.mono (by simp)) p1) (fun hHeld => ?_)
  clear hK K
  try simp only [Act.put, ly1, ly2, ly3]
  refine tk (i := 6) (oi := ⟨some 13, _, _, _, _, _⟩) (v := ?v13x205) rfl (by kernel_rfl) (fun _ _ _ h => h) (by rfl) ?h13x205 (by assumption) ?r13x205
  case h13x205 => intro w' hSw; (try dsimp only [sbx] at hSw); go_simp; try with_reducible rfl
  try simp only [Act.put, ly1, ly2, ly3]
  refine tk (i := 7) (oi := ⟨some 6, _, _, _, _, _⟩) (v := ?v6x206) rfl (by kernel_rfl) (fun _ _ _ h => h) (by rfl) ?h6x206 (by assumption) ?r6x206
  case h6x206 => intro w' hSw; (try dsimp only [sbx] at hSw); go_simp; try with_reducible rfl
  try simp only [Act.put, ly1, ly2, ly3]
  refine wpAnyH_done (by kernel_rfl) ?_ _
  have c5 : w1.cell? ⟨w.heap.size, 3, none⟩ = some (.int .i64 q2) := hHeld.2.2.2.1
  have hb1 := hHeld
  obtain ⟨x0, x1, x2, x3, x4, x5⟩ := hb1
  go_wp2_with (first | (go_at_call 60; refine (Calls.mono (guard2_ok B b mb m nx vX _ (HHt.out _ (by repeat' (first | with_reducible exact tR _ _ | with_reducible apply tD | with_reducible apply tN | assumption))) (k : Int) 7 8 k0 k1 HF.out.size ha hl) ?_); rintro e w' ⟨rfl, hw'⟩; subst w') | (go_at_call 130; refine (Calls.mono (second_any B b mb m nx vX _ (HHt.out _ (by repeat' (first | with_reducible exact tR _ _ | with_reducible apply tD | with_reducible apply tN | assumption))) op rd q1 q2 im rd0 rd1 q10 q11 q20 q21 i0 i1 HZ.out) ?_); rintro e w2 ⟨rfl, ht'⟩; have t2 : ref.Touch [] (bx w op rd q1 q2 im) w2 := ref.Touch.trans (by repeat' (first | with_reducible exact tR _ _ | with_reducible apply tD | with_reducible apply tN | assumption)) ht'; clear ht') | (go_at_call 141; refine (Calls.mono (write_2 B b mb sb X m nx vX _ (HC.out _ (by repeat' (first | with_reducible exact tR _ _ | with_reducible apply tD | with_reducible apply tN | assumption))) k (m.regs q2.toNat) rb0 rb1 hk4 HF.out.size) ?_); rintro e w8 ⟨rfl, hat, ht8⟩; have HA : Hid (PCt B b mb sb X (wrote { m with mem := st m.mem k 2 (m.regs q2.toNat) } k 2) nx vX w8) := hat; have HT : Hid (ref.Touch [b, mb, sb] (bx w op rd q1 q2 im) w8) := ref.Touch.trans (ref.Touch.mono (S := []) (by repeat' (first | with_reducible exact tR _ _ | with_reducible apply tD | with_reducible apply tN | assumption)) (by simp)) ht8; clear hat ht8))
  go_end0
  exact ⟨rfl, HA.out, ((ref.Touch.refl _ _).alloc _).trans HT.out⟩
set_option maxHeartbeats 400000 in
theorem load4_al (B b mb : Nat) (m : M) (nx : Int) (vX : Nat → Value) (w : World) (h : PAt B b mb m nx vX w) (op rd q1 q2 im : Int) (rd0 : 0 ≤ rd) (rd1 : rd ≤ 31) (q10 : 0 ≤ q1) (q11 : q1 ≤ 31) (q20 : 0 ≤ q2) (q21 : q2 ≤ 31) (i0 : -2147483648 ≤ im) (i1 : im ≤ 2147483647) (hz : 0 < m.size) (hf : Fine m) (k : Nat) (hk : ((m.regs q1.toNat + im) % 4294967296) = k) (ha : ¬ (k : Int) % 4 = 0) :
    Calls Tryz.prog 133 #[.pointer (some ⟨b, 0, none⟩), .agg #[.int .i64 op, .int .i64 rd, .int .i64 q1, .int .i64 q2, .int .i32 im], .int .u32 4] w fun e w' => e = .panicked (trapV 5) ∧ ref.Touch [] w w' := by
  obtain ⟨lb, HH, HHt, HZ, HF, HSk, cpc, ra0, ra1, rb0, rb1, pc0, pc1, wi⟩ := pre_any B b mb m nx vX w h op rd q1 q2 im hz hf
  obtain ⟨lmb, HSk2⟩ := pre2_any B b mb m nx vX w h op rd q1 q2 im hz
  clear h
  have wa : IntKind.u32.wrap (m.regs q1.toNat + im % 4294967296) = (k : Int) := by rw [IntKind.wrap_u32, ← hk]; omega
  have k1 : (k : Int) ≤ 4294967295 := by omega
  have k0 : (0 : Int) ≤ (k : Int) := by omega
  have z5 := hf.size
  clear hz hf
  go_enter Tryz.func133, Tryz.ntmps133
  go_wp2_with fail
  refine wp_region_held_drew (S := (sbx w b m op rd q1 q2 im)) (by kernel_rfl) (HSk.out _ (ref.Touch.refl _ _).drew cpc) (fun hHeld => ?_)
  refine tk (i := 0) (oi := ⟨some 8, _, _, _, _, _⟩) (v := ?v8x207) rfl (by kernel_rfl) (fun _ _ _ h => h) (by rfl) ?h8x207 (by assumption) ?r8x207
  case h8x207 => intro w' hSw; (try dsimp only [sbx] at hSw); go_simp; try with_reducible rfl
  try simp only [Act.put, ly1, ly2, ly3]
  refine tk (i := 1) (oi := ⟨some 9, _, _, _, _, _⟩) (v := ?v9x208) rfl (by kernel_rfl) (fun _ _ _ h => h) (by rfl) ?h9x208 (by assumption) ?r9x208
  case h9x208 => intro w' hSw; (try dsimp only [sbx] at hSw); go_simp; try with_reducible rfl
  try simp only [Act.put, ly1, ly2, ly3]
  refine tk (i := 3) (oi := ⟨some 11, _, _, _, _, _⟩) (v := ?v11x209) rfl (by kernel_rfl) (fun _ _ _ h => h) (by rfl) ?h11x209 (by assumption) ?r11x209
  case h11x209 => intro w' hSw; (try dsimp only [sbx] at hSw); go_simp; try with_reducible rfl
  try simp only [Act.put, ly1, ly2, ly3]
  refine tk (i := 4) (oi := ⟨some 12, _, _, _, _, _⟩) (v := ?v12x210) rfl (by kernel_rfl) (fun _ _ _ h => h) (by rfl) ?h12x210 (by assumption) ?r12x210
  case h12x210 => intro w' hSw; (try dsimp only [sbx] at hSw); go_simp; try with_reducible rfl
  try simp only [Act.put, ly1, ly2, ly3]
  refine tk (i := 5) (oi := ⟨some 13, _, _, _, _, _⟩) (v := ?v13x211) rfl (by kernel_rfl) (fun _ _ _ h => h) (by rfl) ?h13x211 (by assumption) ?r13x211
  case h13x211 => intro w' hSw; (try dsimp only [sbx] at hSw); go_simp; try with_reducible rfl
  try simp only [Act.put, ly1, ly2, ly3]
  refine wpAnyH_ready (rs := [2]) (by kernel_rfl) (by simp) ?_
  refine AllReadyH.cons (o := ⟨some 10, _, _, _, _, _⟩) rfl (fun K hK => ?_) AllReadyH.nil
  rw [if_pos (by rfl)]
  go_simp
  refine (Calls.mono (first_any B b mb m nx vX _ (HHt.out _ (by repeat' (first | with_reducible exact tR _ _ | with_reducible apply tD | with_reducible apply tN | assumption))) op rd q1 q2 im rd0 rd1 q10 q11 q20 q21 i0 i1 HZ.out) ?_)
  rintro e w1 ⟨rfl, ht'⟩
  have t1 : ref.Touch [] (bx w op rd q1 q2 im) w1 := ref.Touch.trans (by repeat' (first | with_reducible exact tR _ _ | with_reducible apply tD | with_reducible apply tN | assumption)) ht'
  have p1 : w1.cell? ⟨b, 33, none⟩ = some (.int .u32 m.pc) := (HHt.out _ t1).cells 33 (by decide) (by decide)
  clear ht'
  refine hK.out _ _ (HSk.out _ (t1.mono (by simp)) p1) (fun hHeld => ?_)
  clear hK K
  try simp only [Act.put, ly1, ly2, ly3]
  refine tk (i := 6) (oi := ⟨some 14, _, _, _, _, _⟩) (v := ?v14x212) rfl (by kernel_rfl) (fun _ _ _ h => h) (by rfl) ?h14x212 (by assumption) ?r14x212
  case h14x212 => intro w' hSw; (try dsimp only [sbx] at hSw); go_simp; try with_reducible rfl
  try simp only [Act.put, ly1, ly2, ly3]
  refine tk (i := 7) (oi := ⟨some 7, _, _, _, _, _⟩) (v := ?v7x213) rfl (by kernel_rfl) (fun _ _ _ h => h) (by rfl) ?h7x213 (by assumption) ?r7x213
  case h7x213 => intro w' hSw; (try dsimp only [sbx] at hSw); go_simp; try with_reducible rfl
  try simp only [Act.put, ly1, ly2, ly3]
  refine wpAnyH_done (by kernel_rfl) ?_ _
  go_wp2_with (first | (go_at_call 60; refine (Calls.mono (guard4_al B b mb m nx vX _ (HHt.out _ (by repeat' (first | with_reducible exact tR _ _ | with_reducible apply tD | with_reducible apply tN | assumption))) (k : Int) 5 6 k0 k1 HF.out.size ha ) ?_); rintro e w' ⟨rfl, hw'⟩; subst w'))
  exact ⟨rfl, rfl, (by repeat' (first | with_reducible exact ref.Touch.refl _ _ | with_reducible apply ref.Touch.drew | with_reducible apply ref.Touch.drewN | with_reducible apply ref.Touch.alloc | assumption | exact ref.Touch.trans ((ref.Touch.refl [] _).alloc _) (by assumption)))⟩
set_option maxHeartbeats 400000 in
theorem load4_fa (B b mb : Nat) (m : M) (nx : Int) (vX : Nat → Value) (w : World) (h : PAt B b mb m nx vX w) (op rd q1 q2 im : Int) (rd0 : 0 ≤ rd) (rd1 : rd ≤ 31) (q10 : 0 ≤ q1) (q11 : q1 ≤ 31) (q20 : 0 ≤ q2) (q21 : q2 ≤ 31) (i0 : -2147483648 ≤ im) (i1 : im ≤ 2147483647) (hz : 0 < m.size) (hf : Fine m) (k : Nat) (hk : ((m.regs q1.toNat + im) % 4294967296) = k) (ha : (k : Int) % 4 = 0) (hl : lies m k 4 = false) :
    Calls Tryz.prog 133 #[.pointer (some ⟨b, 0, none⟩), .agg #[.int .i64 op, .int .i64 rd, .int .i64 q1, .int .i64 q2, .int .i32 im], .int .u32 4] w fun e w' => e = .panicked (trapV 6) ∧ ref.Touch [] w w' := by
  obtain ⟨lb, HH, HHt, HZ, HF, HSk, cpc, ra0, ra1, rb0, rb1, pc0, pc1, wi⟩ := pre_any B b mb m nx vX w h op rd q1 q2 im hz hf
  obtain ⟨lmb, HSk2⟩ := pre2_any B b mb m nx vX w h op rd q1 q2 im hz
  clear h
  have wa : IntKind.u32.wrap (m.regs q1.toNat + im % 4294967296) = (k : Int) := by rw [IntKind.wrap_u32, ← hk]; omega
  have k1 : (k : Int) ≤ 4294967295 := by omega
  have k0 : (0 : Int) ≤ (k : Int) := by omega
  have z5 := hf.size
  clear hz hf
  go_enter Tryz.func133, Tryz.ntmps133
  go_wp2_with fail
  refine wp_region_held_drew (S := (sbx w b m op rd q1 q2 im)) (by kernel_rfl) (HSk.out _ (ref.Touch.refl _ _).drew cpc) (fun hHeld => ?_)
  refine tk (i := 0) (oi := ⟨some 8, _, _, _, _, _⟩) (v := ?v8x207) rfl (by kernel_rfl) (fun _ _ _ h => h) (by rfl) ?h8x207 (by assumption) ?r8x207
  case h8x207 => intro w' hSw; (try dsimp only [sbx] at hSw); go_simp; try with_reducible rfl
  try simp only [Act.put, ly1, ly2, ly3]
  refine tk (i := 1) (oi := ⟨some 9, _, _, _, _, _⟩) (v := ?v9x208) rfl (by kernel_rfl) (fun _ _ _ h => h) (by rfl) ?h9x208 (by assumption) ?r9x208
  case h9x208 => intro w' hSw; (try dsimp only [sbx] at hSw); go_simp; try with_reducible rfl
  try simp only [Act.put, ly1, ly2, ly3]
  refine tk (i := 3) (oi := ⟨some 11, _, _, _, _, _⟩) (v := ?v11x209) rfl (by kernel_rfl) (fun _ _ _ h => h) (by rfl) ?h11x209 (by assumption) ?r11x209
  case h11x209 => intro w' hSw; (try dsimp only [sbx] at hSw); go_simp; try with_reducible rfl
  try simp only [Act.put, ly1, ly2, ly3]
  refine tk (i := 4) (oi := ⟨some 12, _, _, _, _, _⟩) (v := ?v12x210) rfl (by kernel_rfl) (fun _ _ _ h => h) (by rfl) ?h12x210 (by assumption) ?r12x210
  case h12x210 => intro w' hSw; (try dsimp only [sbx] at hSw); go_simp; try with_reducible rfl
  try simp only [Act.put, ly1, ly2, ly3]
  refine tk (i := 5) (oi := ⟨some 13, _, _, _, _, _⟩) (v := ?v13x211) rfl (by kernel_rfl) (fun _ _ _ h => h) (by rfl) ?h13x211 (by assumption) ?r13x211
  case h13x211 => intro w' hSw; (try dsimp only [sbx] at hSw); go_simp; try with_reducible rfl
  try simp only [Act.put, ly1, ly2, ly3]
  refine wpAnyH_ready (rs := [2]) (by kernel_rfl) (by simp) ?_
  refine AllReadyH.cons (o := ⟨some 10, _, _, _, _, _⟩) rfl (fun K hK => ?_) AllReadyH.nil
  rw [if_pos (by rfl)]
  go_simp
  refine (Calls.mono (first_any B b mb m nx vX _ (HHt.out _ (by repeat' (first | with_reducible exact tR _ _ | with_reducible apply tD | with_reducible apply tN | assumption))) op rd q1 q2 im rd0 rd1 q10 q11 q20 q21 i0 i1 HZ.out) ?_)
  rintro e w1 ⟨rfl, ht'⟩
  have t1 : ref.Touch [] (bx w op rd q1 q2 im) w1 := ref.Touch.trans (by repeat' (first | with_reducible exact tR _ _ | with_reducible apply tD | with_reducible apply tN | assumption)) ht'
  have p1 : w1.cell? ⟨b, 33, none⟩ = some (.int .u32 m.pc) := (HHt.out _ t1).cells 33 (by decide) (by decide)
  clear ht'
  refine hK.out _ _ (HSk.out _ (t1.mono (by simp)) p1) (fun hHeld => ?_)
  clear hK K
  try simp only [Act.put, ly1, ly2, ly3]
  refine tk (i := 6) (oi := ⟨some 14, _, _, _, _, _⟩) (v := ?v14x212) rfl (by kernel_rfl) (fun _ _ _ h => h) (by rfl) ?h14x212 (by assumption) ?r14x212
  case h14x212 => intro w' hSw; (try dsimp only [sbx] at hSw); go_simp; try with_reducible rfl
  try simp only [Act.put, ly1, ly2, ly3]
  refine tk (i := 7) (oi := ⟨some 7, _, _, _, _, _⟩) (v := ?v7x213) rfl (by kernel_rfl) (fun _ _ _ h => h) (by rfl) ?h7x213 (by assumption) ?r7x213
  case h7x213 => intro w' hSw; (try dsimp only [sbx] at hSw); go_simp; try with_reducible rfl
  try simp only [Act.put, ly1, ly2, ly3]
  refine wpAnyH_done (by kernel_rfl) ?_ _
  go_wp2_with (first | (go_at_call 60; refine (Calls.mono (guard4_fa B b mb m nx vX _ (HHt.out _ (by repeat' (first | with_reducible exact tR _ _ | with_reducible apply tD | with_reducible apply tN | assumption))) (k : Int) 5 6 k0 k1 HF.out.size ha hl) ?_); rintro e w' ⟨rfl, hw'⟩; subst w'))
  exact ⟨rfl, rfl, (by repeat' (first | with_reducible exact ref.Touch.refl _ _ | with_reducible apply ref.Touch.drew | with_reducible apply ref.Touch.drewN | with_reducible apply ref.Touch.alloc | assumption | exact ref.Touch.trans ((ref.Touch.refl [] _).alloc _) (by assumption)))⟩
set_option maxHeartbeats 400000 in
theorem load4_ok (B b mb : Nat) (m : M) (nx : Int) (vX : Nat → Value) (w : World) (h : PAt B b mb m nx vX w) (op rd q1 q2 im : Int) (rd0 : 0 ≤ rd) (rd1 : rd ≤ 31) (q10 : 0 ≤ q1) (q11 : q1 ≤ 31) (q20 : 0 ≤ q2) (q21 : q2 ≤ 31) (i0 : -2147483648 ≤ im) (i1 : im ≤ 2147483647) (hz : 0 < m.size) (hf : Fine m) (k : Nat) (hk : ((m.regs q1.toNat + im) % 4294967296) = k) (ha : (k : Int) % 4 = 0) (hl : lies m k 4 = true) :
    Calls Tryz.prog 133 #[.pointer (some ⟨b, 0, none⟩), .agg #[.int .i64 op, .int .i64 rd, .int .i64 q1, .int .i64 q2, .int .i32 im], .int .u32 4] w fun e w' => e = .returned (.int .u32 (ld m.mem k 4)) ∧ ref.Touch [] w w' := by
  obtain ⟨lb, HH, HHt, HZ, HF, HSk, cpc, ra0, ra1, rb0, rb1, pc0, pc1, wi⟩ := pre_any B b mb m nx vX w h op rd q1 q2 im hz hf
  obtain ⟨lmb, HSk2⟩ := pre2_any B b mb m nx vX w h op rd q1 q2 im hz
  clear h
  have wa : IntKind.u32.wrap (m.regs q1.toNat + im % 4294967296) = (k : Int) := by rw [IntKind.wrap_u32, ← hk]; omega
  have k1 : (k : Int) ≤ 4294967295 := by omega
  have k0 : (0 : Int) ≤ (k : Int) := by omega
  have z5 := hf.size
  have hk4 : k + 4 ≤ m.size := by simp [lies] at hl; omega
  clear hz hf
  go_enter Tryz.func133, Tryz.ntmps133
  go_wp2_with fail
  refine wp_region_held_drew (S := (sbx w b m op rd q1 q2 im)) (by kernel_rfl) (HSk.out _ (ref.Touch.refl _ _).drew cpc) (fun hHeld => ?_)
  refine tk (i := 0) (oi := ⟨some 8, _, _, _, _, _⟩) (v := ?v8x207) rfl (by kernel_rfl) (fun _ _ _ h => h) (by rfl) ?h8x207 (by assumption) ?r8x207
  case h8x207 => intro w' hSw; (try dsimp only [sbx] at hSw); go_simp; try with_reducible rfl
  try simp only [Act.put, ly1, ly2, ly3]
  refine tk (i := 1) (oi := ⟨some 9, _, _, _, _, _⟩) (v := ?v9x208) rfl (by kernel_rfl) (fun _ _ _ h => h) (by rfl) ?h9x208 (by assumption) ?r9x208
  case h9x208 => intro w' hSw; (try dsimp only [sbx] at hSw); go_simp; try with_reducible rfl
  try simp only [Act.put, ly1, ly2, ly3]
  refine tk (i := 3) (oi := ⟨some 11, _, _, _, _, _⟩) (v := ?v11x209) rfl (by kernel_rfl) (fun _ _ _ h => h) (by rfl) ?h11x209 (by assumption) ?r11x209
  case h11x209 => intro w' hSw; (try dsimp only [sbx] at hSw); go_simp; try with_reducible rfl
  try simp only [Act.put, ly1, ly2, ly3]
  refine tk (i := 4) (oi := ⟨some 12, _, _, _, _, _⟩) (v := ?v12x210) rfl (by kernel_rfl) (fun _ _ _ h => h) (by rfl) ?h12x210 (by assumption) ?r12x210
  case h12x210 => intro w' hSw; (try dsimp only [sbx] at hSw); go_simp; try with_reducible rfl
  try simp only [Act.put, ly1, ly2, ly3]
  refine tk (i := 5) (oi := ⟨some 13, _, _, _, _, _⟩) (v := ?v13x211) rfl (by kernel_rfl) (fun _ _ _ h => h) (by rfl) ?h13x211 (by assumption) ?r13x211
  case h13x211 => intro w' hSw; (try dsimp only [sbx] at hSw); go_simp; try with_reducible rfl
  try simp only [Act.put, ly1, ly2, ly3]
  refine wpAnyH_ready (rs := [2]) (by kernel_rfl) (by simp) ?_
  refine AllReadyH.cons (o := ⟨some 10, _, _, _, _, _⟩) rfl (fun K hK => ?_) AllReadyH.nil
  rw [if_pos (by rfl)]
  go_simp
  refine (Calls.mono (first_any B b mb m nx vX _ (HHt.out _ (by repeat' (first | with_reducible exact tR _ _ | with_reducible apply tD | with_reducible apply tN | assumption))) op rd q1 q2 im rd0 rd1 q10 q11 q20 q21 i0 i1 HZ.out) ?_)
  rintro e w1 ⟨rfl, ht'⟩
  have t1 : ref.Touch [] (bx w op rd q1 q2 im) w1 := ref.Touch.trans (by repeat' (first | with_reducible exact tR _ _ | with_reducible apply tD | with_reducible apply tN | assumption)) ht'
  have p1 : w1.cell? ⟨b, 33, none⟩ = some (.int .u32 m.pc) := (HHt.out _ t1).cells 33 (by decide) (by decide)
  clear ht'
  refine hK.out _ _ (HSk.out _ (t1.mono (by simp)) p1) (fun hHeld => ?_)
  clear hK K
  try simp only [Act.put, ly1, ly2, ly3]
  refine tk (i := 6) (oi := ⟨some 14, _, _, _, _, _⟩) (v := ?v14x212) rfl (by kernel_rfl) (fun _ _ _ h => h) (by rfl) ?h14x212 (by assumption) ?r14x212
  case h14x212 => intro w' hSw; (try dsimp only [sbx] at hSw); go_simp; try with_reducible rfl
  try simp only [Act.put, ly1, ly2, ly3]
  refine tk (i := 7) (oi := ⟨some 7, _, _, _, _, _⟩) (v := ?v7x213) rfl (by kernel_rfl) (fun _ _ _ h => h) (by rfl) ?h7x213 (by assumption) ?r7x213
  case h7x213 => intro w' hSw; (try dsimp only [sbx] at hSw); go_simp; try with_reducible rfl
  try simp only [Act.put, ly1, ly2, ly3]
  refine wpAnyH_done (by kernel_rfl) ?_ _
  go_wp2_with (first | (go_at_call 60; refine (Calls.mono (guard4_ok B b mb m nx vX _ (HHt.out _ (by repeat' (first | with_reducible exact tR _ _ | with_reducible apply tD | with_reducible apply tN | assumption))) (k : Int) 5 6 k0 k1 HF.out.size ha hl) ?_); rintro e w' ⟨rfl, hw'⟩; subst w') | (go_at_call 90; refine (Calls.mono (read_4 B b mb m nx vX _ (HHt.out _ (by repeat' (first | with_reducible exact tR _ _ | with_reducible apply tD | with_reducible apply tN | assumption))) k hk4 HF.out.size HF.out.mem) ?_); rintro e w8 ⟨rfl, ht8⟩; have HT : Hid (ref.Touch [] (bx w op rd q1 q2 im) w8) := ref.Touch.trans (by repeat' (first | with_reducible exact tR _ _ | with_reducible apply tD | with_reducible apply tN | assumption)) ht8; clear ht8))
  go_ret
  exact ⟨rfl, ((ref.Touch.refl _ _).alloc _).trans HT.out⟩
set_option maxHeartbeats 400000 in
theorem store4_al (B b mb : Nat) (m : M) (nx : Int) (vX : Nat → Value) (w : World) (h : PAt B b mb m nx vX w) (op rd q1 q2 im : Int) (rd0 : 0 ≤ rd) (rd1 : rd ≤ 31) (q10 : 0 ≤ q1) (q11 : q1 ≤ 31) (q20 : 0 ≤ q2) (q21 : q2 ≤ 31) (i0 : -2147483648 ≤ im) (i1 : im ≤ 2147483647) (hz : 0 < m.size) (hf : Fine m) (k : Nat) (hk : ((m.regs q1.toNat + im) % 4294967296) = k) (ha : ¬ (k : Int) % 4 = 0) :
    Calls Tryz.prog 134 #[.pointer (some ⟨b, 0, none⟩), .agg #[.int .i64 op, .int .i64 rd, .int .i64 q1, .int .i64 q2, .int .i32 im], .int .u32 4] w fun e w' => e = .panicked (trapV 7) ∧ ref.Touch [] w w' := by
  obtain ⟨lb, HH, HHt, HZ, HF, HSk, cpc, ra0, ra1, rb0, rb1, pc0, pc1, wi⟩ := pre_any B b mb m nx vX w h op rd q1 q2 im hz hf
  obtain ⟨lmb, HSk2⟩ := pre2_any B b mb m nx vX w h op rd q1 q2 im hz
  clear h
  have wa : IntKind.u32.wrap (m.regs q1.toNat + im % 4294967296) = (k : Int) := by rw [IntKind.wrap_u32, ← hk]; omega
  have k1 : (k : Int) ≤ 4294967295 := by omega
  have k0 : (0 : Int) ≤ (k : Int) := by omega
  have z5 := hf.size
  clear hz hf
  go_enter Tryz.func134, Tryz.ntmps134
  go_wp2_with fail
  refine wp_region_held_drew (S := (sbx w b m op rd q1 q2 im)) (by kernel_rfl) (HSk.out _ (ref.Touch.refl _ _).drew cpc) (fun hHeld => ?_)
  refine tk (i := 0) (oi := ⟨some 7, _, _, _, _, _⟩) (v := ?v7x214) rfl (by kernel_rfl) (fun _ _ _ h => h) (by rfl) ?h7x214 (by assumption) ?r7x214
  case h7x214 => intro w' hSw; (try dsimp only [sbx] at hSw); go_simp; try with_reducible rfl
  try simp only [Act.put, ly1, ly2, ly3]
  refine tk (i := 1) (oi := ⟨some 8, _, _, _, _, _⟩) (v := ?v8x215) rfl (by kernel_rfl) (fun _ _ _ h => h) (by rfl) ?h8x215 (by assumption) ?r8x215
  case h8x215 => intro w' hSw; (try dsimp only [sbx] at hSw); go_simp; try with_reducible rfl
  try simp only [Act.put, ly1, ly2, ly3]
  refine tk (i := 3) (oi := ⟨some 10, _, _, _, _, _⟩) (v := ?v10x216) rfl (by kernel_rfl) (fun _ _ _ h => h) (by rfl) ?h10x216 (by assumption) ?r10x216
  case h10x216 => intro w' hSw; (try dsimp only [sbx] at hSw); go_simp; try with_reducible rfl
  try simp only [Act.put, ly1, ly2, ly3]
  refine tk (i := 4) (oi := ⟨some 11, _, _, _, _, _⟩) (v := ?v11x217) rfl (by kernel_rfl) (fun _ _ _ h => h) (by rfl) ?h11x217 (by assumption) ?r11x217
  case h11x217 => intro w' hSw; (try dsimp only [sbx] at hSw); go_simp; try with_reducible rfl
  try simp only [Act.put, ly1, ly2, ly3]
  refine tk (i := 5) (oi := ⟨some 12, _, _, _, _, _⟩) (v := ?v12x218) rfl (by kernel_rfl) (fun _ _ _ h => h) (by rfl) ?h12x218 (by assumption) ?r12x218
  case h12x218 => intro w' hSw; (try dsimp only [sbx] at hSw); go_simp; try with_reducible rfl
  try simp only [Act.put, ly1, ly2, ly3]
  refine wpAnyH_ready (rs := [2]) (by kernel_rfl) (by simp) ?_
  refine AllReadyH.cons (o := ⟨some 9, _, _, _, _, _⟩) rfl (fun K hK => ?_) AllReadyH.nil
  rw [if_pos (by rfl)]
  go_simp
  refine (Calls.mono (first_any B b mb m nx vX _ (HHt.out _ (by repeat' (first | with_reducible exact tR _ _ | with_reducible apply tD | with_reducible apply tN | assumption))) op rd q1 q2 im rd0 rd1 q10 q11 q20 q21 i0 i1 HZ.out) ?_)
  rintro e w1 ⟨rfl, ht'⟩
  have t1 : ref.Touch [] (bx w op rd q1 q2 im) w1 := ref.Touch.trans (by repeat' (first | with_reducible exact tR _ _ | with_reducible apply tD | with_reducible apply tN | assumption)) ht'
  have p1 : w1.cell? ⟨b, 33, none⟩ = some (.int .u32 m.pc) := (HHt.out _ t1).cells 33 (by decide) (by decide)
  clear ht'
  refine hK.out _ _ (HSk.out _ (t1.mono (by simp)) p1) (fun hHeld => ?_)
  clear hK K
  try simp only [Act.put, ly1, ly2, ly3]
  refine tk (i := 6) (oi := ⟨some 13, _, _, _, _, _⟩) (v := ?v13x219) rfl (by kernel_rfl) (fun _ _ _ h => h) (by rfl) ?h13x219 (by assumption) ?r13x219
  case h13x219 => intro w' hSw; (try dsimp only [sbx] at hSw); go_simp; try with_reducible rfl
  try simp only [Act.put, ly1, ly2, ly3]
  refine tk (i := 7) (oi := ⟨some 6, _, _, _, _, _⟩) (v := ?v6x220) rfl (by kernel_rfl) (fun _ _ _ h => h) (by rfl) ?h6x220 (by assumption) ?r6x220
  case h6x220 => intro w' hSw; (try dsimp only [sbx] at hSw); go_simp; try with_reducible rfl
  try simp only [Act.put, ly1, ly2, ly3]
  refine wpAnyH_done (by kernel_rfl) ?_ _
  go_wp2_with (first | (go_at_call 60; refine (Calls.mono (guard4_al B b mb m nx vX _ (HHt.out _ (by repeat' (first | with_reducible exact tR _ _ | with_reducible apply tD | with_reducible apply tN | assumption))) (k : Int) 7 8 k0 k1 HF.out.size ha ) ?_); rintro e w' ⟨rfl, hw'⟩; subst w'))
  exact ⟨rfl, rfl, (by repeat' (first | with_reducible exact ref.Touch.refl _ _ | with_reducible apply ref.Touch.drew | with_reducible apply ref.Touch.drewN | with_reducible apply ref.Touch.alloc | assumption | exact ref.Touch.trans ((ref.Touch.refl [] _).alloc _) (by assumption)))⟩
set_option maxHeartbeats 400000 in
theorem store4_fa (B b mb : Nat) (m : M) (nx : Int) (vX : Nat → Value) (w : World) (h : PAt B b mb m nx vX w) (op rd q1 q2 im : Int) (rd0 : 0 ≤ rd) (rd1 : rd ≤ 31) (q10 : 0 ≤ q1) (q11 : q1 ≤ 31) (q20 : 0 ≤ q2) (q21 : q2 ≤ 31) (i0 : -2147483648 ≤ im) (i1 : im ≤ 2147483647) (hz : 0 < m.size) (hf : Fine m) (k : Nat) (hk : ((m.regs q1.toNat + im) % 4294967296) = k) (ha : (k : Int) % 4 = 0) (hl : lies m k 4 = false) :
    Calls Tryz.prog 134 #[.pointer (some ⟨b, 0, none⟩), .agg #[.int .i64 op, .int .i64 rd, .int .i64 q1, .int .i64 q2, .int .i32 im], .int .u32 4] w fun e w' => e = .panicked (trapV 8) ∧ ref.Touch [] w w' := by
  obtain ⟨lb, HH, HHt, HZ, HF, HSk, cpc, ra0, ra1, rb0, rb1, pc0, pc1, wi⟩ := pre_any B b mb m nx vX w h op rd q1 q2 im hz hf
  obtain ⟨lmb, HSk2⟩ := pre2_any B b mb m nx vX w h op rd q1 q2 im hz
  clear h
  have wa : IntKind.u32.wrap (m.regs q1.toNat + im % 4294967296) = (k : Int) := by rw [IntKind.wrap_u32, ← hk]; omega
  have k1 : (k : Int) ≤ 4294967295 := by omega
  have k0 : (0 : Int) ≤ (k : Int) := by omega
  have z5 := hf.size
  clear hz hf
  go_enter Tryz.func134, Tryz.ntmps134
  go_wp2_with fail
  refine wp_region_held_drew (S := (sbx w b m op rd q1 q2 im)) (by kernel_rfl) (HSk.out _ (ref.Touch.refl _ _).drew cpc) (fun hHeld => ?_)
  refine tk (i := 0) (oi := ⟨some 7, _, _, _, _, _⟩) (v := ?v7x214) rfl (by kernel_rfl) (fun _ _ _ h => h) (by rfl) ?h7x214 (by assumption) ?r7x214
  case h7x214 => intro w' hSw; (try dsimp only [sbx] at hSw); go_simp; try with_reducible rfl
  try simp only [Act.put, ly1, ly2, ly3]
  refine tk (i := 1) (oi := ⟨some 8, _, _, _, _, _⟩) (v := ?v8x215) rfl (by kernel_rfl) (fun _ _ _ h => h) (by rfl) ?h8x215 (by assumption) ?r8x215
  case h8x215 => intro w' hSw; (try dsimp only [sbx] at hSw); go_simp; try with_reducible rfl
  try simp only [Act.put, ly1, ly2, ly3]
  refine tk (i := 3) (oi := ⟨some 10, _, _, _, _, _⟩) (v := ?v10x216) rfl (by kernel_rfl) (fun _ _ _ h => h) (by rfl) ?h10x216 (by assumption) ?r10x216
  case h10x216 => intro w' hSw; (try dsimp only [sbx] at hSw); go_simp; try with_reducible rfl
  try simp only [Act.put, ly1, ly2, ly3]
  refine tk (i := 4) (oi := ⟨some 11, _, _, _, _, _⟩) (v := ?v11x217) rfl (by kernel_rfl) (fun _ _ _ h => h) (by rfl) ?h11x217 (by assumption) ?r11x217
  case h11x217 => intro w' hSw; (try dsimp only [sbx] at hSw); go_simp; try with_reducible rfl
  try simp only [Act.put, ly1, ly2, ly3]
  refine tk (i := 5) (oi := ⟨some 12, _, _, _, _, _⟩) (v := ?v12x218) rfl (by kernel_rfl) (fun _ _ _ h => h) (by rfl) ?h12x218 (by assumption) ?r12x218
  case h12x218 => intro w' hSw; (try dsimp only [sbx] at hSw); go_simp; try with_reducible rfl
  try simp only [Act.put, ly1, ly2, ly3]
  refine wpAnyH_ready (rs := [2]) (by kernel_rfl) (by simp) ?_
  refine AllReadyH.cons (o := ⟨some 9, _, _, _, _, _⟩) rfl (fun K hK => ?_) AllReadyH.nil
  rw [if_pos (by rfl)]
  go_simp
  refine (Calls.mono (first_any B b mb m nx vX _ (HHt.out _ (by repeat' (first | with_reducible exact tR _ _ | with_reducible apply tD | with_reducible apply tN | assumption))) op rd q1 q2 im rd0 rd1 q10 q11 q20 q21 i0 i1 HZ.out) ?_)
  rintro e w1 ⟨rfl, ht'⟩
  have t1 : ref.Touch [] (bx w op rd q1 q2 im) w1 := ref.Touch.trans (by repeat' (first | with_reducible exact tR _ _ | with_reducible apply tD | with_reducible apply tN | assumption)) ht'
  have p1 : w1.cell? ⟨b, 33, none⟩ = some (.int .u32 m.pc) := (HHt.out _ t1).cells 33 (by decide) (by decide)
  clear ht'
  refine hK.out _ _ (HSk.out _ (t1.mono (by simp)) p1) (fun hHeld => ?_)
  clear hK K
  try simp only [Act.put, ly1, ly2, ly3]
  refine tk (i := 6) (oi := ⟨some 13, _, _, _, _, _⟩) (v := ?v13x219) rfl (by kernel_rfl) (fun _ _ _ h => h) (by rfl) ?h13x219 (by assumption) ?r13x219
  case h13x219 => intro w' hSw; (try dsimp only [sbx] at hSw); go_simp; try with_reducible rfl
  try simp only [Act.put, ly1, ly2, ly3]
  refine tk (i := 7) (oi := ⟨some 6, _, _, _, _, _⟩) (v := ?v6x220) rfl (by kernel_rfl) (fun _ _ _ h => h) (by rfl) ?h6x220 (by assumption) ?r6x220
  case h6x220 => intro w' hSw; (try dsimp only [sbx] at hSw); go_simp; try with_reducible rfl
  try simp only [Act.put, ly1, ly2, ly3]
  refine wpAnyH_done (by kernel_rfl) ?_ _
  go_wp2_with (first | (go_at_call 60; refine (Calls.mono (guard4_fa B b mb m nx vX _ (HHt.out _ (by repeat' (first | with_reducible exact tR _ _ | with_reducible apply tD | with_reducible apply tN | assumption))) (k : Int) 7 8 k0 k1 HF.out.size ha hl) ?_); rintro e w' ⟨rfl, hw'⟩; subst w'))
  exact ⟨rfl, rfl, (by repeat' (first | with_reducible exact ref.Touch.refl _ _ | with_reducible apply ref.Touch.drew | with_reducible apply ref.Touch.drewN | with_reducible apply ref.Touch.alloc | assumption | exact ref.Touch.trans ((ref.Touch.refl [] _).alloc _) (by assumption)))⟩
set_option maxHeartbeats 400000 in
theorem store4_ok (B b mb sb : Nat) (X : List Nat) (m : M) (nx : Int) (vX : Nat → Value) (w : World) (hc0 : PCt B b mb sb X m nx vX w) (op rd q1 q2 im : Int) (rd0 : 0 ≤ rd) (rd1 : rd ≤ 31) (q10 : 0 ≤ q1) (q11 : q1 ≤ 31) (q20 : 0 ≤ q2) (q21 : q2 ≤ 31) (i0 : -2147483648 ≤ im) (i1 : im ≤ 2147483647) (hz : 0 < m.size) (hf : Fine m) (k : Nat) (hk : ((m.regs q1.toNat + im) % 4294967296) = k) (ha : (k : Int) % 4 = 0) (hl : lies m k 4 = true) :
    Calls Tryz.prog 134 #[.pointer (some ⟨b, 0, none⟩), .agg #[.int .i64 op, .int .i64 rd, .int .i64 q1, .int .i64 q2, .int .i32 im], .int .u32 4] w fun e w' => e = .returned (.tuple #[]) ∧ PCt B b mb sb X (wrote { m with mem := st m.mem k 4 (m.regs q2.toNat) } k 4) nx vX w' ∧ ref.Touch [b, mb, sb] w w' := by
  have h := hc0.p
  have HC : Hid (∀ w', ref.Touch [] (bx w op rd q1 q2 im) w' → PCt B b mb sb X m nx vX w') := fun w' t => hc0.quiet hz (((ref.Touch.refl _ _).alloc _).trans t)
  clear hc0
  obtain ⟨lb, HH, HHt, HZ, HF, HSk, cpc, ra0, ra1, rb0, rb1, pc0, pc1, wi⟩ := pre_any B b mb m nx vX w h op rd q1 q2 im hz hf
  obtain ⟨lmb, HSk2⟩ := pre2_any B b mb m nx vX w h op rd q1 q2 im hz
  clear h
  have wa : IntKind.u32.wrap (m.regs q1.toNat + im % 4294967296) = (k : Int) := by rw [IntKind.wrap_u32, ← hk]; omega
  have k1 : (k : Int) ≤ 4294967295 := by omega
  have k0 : (0 : Int) ≤ (k : Int) := by omega
  have z5 := hf.size
  have hk4 : k + 4 ≤ m.size := by simp [lies] at hl; omega
  clear hz hf
  go_enter Tryz.func134, Tryz.ntmps134
  go_wp2_with fail
  refine wp_region_held_drew (S := (sbx w b m op rd q1 q2 im)) (by kernel_rfl) (HSk.out _ (ref.Touch.refl _ _).drew cpc) (fun hHeld => ?_)
  refine tk (i := 0) (oi := ⟨some 7, _, _, _, _, _⟩) (v := ?v7x214) rfl (by kernel_rfl) (fun _ _ _ h => h) (by rfl) ?h7x214 (by assumption) ?r7x214
  case h7x214 => intro w' hSw; (try dsimp only [sbx] at hSw); go_simp; try with_reducible rfl
  try simp only [Act.put, ly1, ly2, ly3]
  refine tk (i := 1) (oi := ⟨some 8, _, _, _, _, _⟩) (v := ?v8x215) rfl (by kernel_rfl) (fun _ _ _ h => h) (by rfl) ?h8x215 (by assumption) ?r8x215
  case h8x215 => intro w' hSw; (try dsimp only [sbx] at hSw); go_simp; try with_reducible rfl
  try simp only [Act.put, ly1, ly2, ly3]
  refine tk (i := 3) (oi := ⟨some 10, _, _, _, _, _⟩) (v := ?v10x216) rfl (by kernel_rfl) (fun _ _ _ h => h) (by rfl) ?h10x216 (by assumption) ?r10x216
  case h10x216 => intro w' hSw; (try dsimp only [sbx] at hSw); go_simp; try with_reducible rfl
  try simp only [Act.put, ly1, ly2, ly3]
  refine tk (i := 4) (oi := ⟨some 11, _, _, _, _, _⟩) (v := ?v11x217) rfl (by kernel_rfl) (fun _ _ _ h => h) (by rfl) ?h11x217 (by assumption) ?r11x217
  case h11x217 => intro w' hSw; (try dsimp only [sbx] at hSw); go_simp; try with_reducible rfl
  try simp only [Act.put, ly1, ly2, ly3]
  refine tk (i := 5) (oi := ⟨some 12, _, _, _, _, _⟩) (v := ?v12x218) rfl (by kernel_rfl) (fun _ _ _ h => h) (by rfl) ?h12x218 (by assumption) ?r12x218
  case h12x218 => intro w' hSw; (try dsimp only [sbx] at hSw); go_simp; try with_reducible rfl
  try simp only [Act.put, ly1, ly2, ly3]
  refine wpAnyH_ready (rs := [2]) (by kernel_rfl) (by simp) ?_
  refine AllReadyH.cons (o := ⟨some 9, _, _, _, _, _⟩) rfl (fun K hK => ?_) AllReadyH.nil
  rw [if_pos (by rfl)]
  go_simp
  refine (Calls.mono (first_any B b mb m nx vX _ (HHt.out _ (by repeat' (first | with_reducible exact tR _ _ | with_reducible apply tD | with_reducible apply tN | assumption))) op rd q1 q2 im rd0 rd1 q10 q11 q20 q21 i0 i1 HZ.out) ?_)
  rintro e w1 ⟨rfl, ht'⟩
  have t1 : ref.Touch [] (bx w op rd q1 q2 im) w1 := ref.Touch.trans (by repeat' (first | with_reducible exact tR _ _ | with_reducible apply tD | with_reducible apply tN | assumption)) ht'
  have p1 : w1.cell? ⟨b, 33, none⟩ = some (.int .u32 m.pc) := (HHt.out _ t1).cells 33 (by decide) (by decide)
  clear ht'
  refine hK.out _ _ (HSk.out _ (t1.mono (by simp)) p1) (fun hHeld => ?_)
  clear hK K
  try simp only [Act.put, ly1, ly2, ly3]
  refine tk (i := 6) (oi := ⟨some 13, _, _, _, _, _⟩) (v := ?v13x219) rfl (by kernel_rfl) (fun _ _ _ h => h) (by rfl) ?h13x219 (by assumption) ?r13x219
  case h13x219 => intro w' hSw; (try dsimp only [sbx] at hSw); go_simp; try with_reducible rfl
  try simp only [Act.put, ly1, ly2, ly3]
  refine tk (i := 7) (oi := ⟨some 6, _, _, _, _, _⟩) (v := ?v6x220) rfl (by kernel_rfl) (fun _ _ _ h => h) (by rfl) ?h6x220 (by assumption) ?r6x220
  case h6x220 => intro w' hSw; (try dsimp only [sbx] at hSw); go_simp; try with_reducible rfl
  try simp only [Act.put, ly1, ly2, ly3]
  refine wpAnyH_done (by kernel_rfl) ?_ _
  have c5 : w1.cell? ⟨w.heap.size, 3, none⟩ = some (.int .i64 q2) := hHeld.2.2.2.1
  have hb1 := hHeld
  obtain ⟨x0, x1, x2, x3, x4, x5⟩ := hb1
  go_wp2_with (first | (go_at_call 60; refine (Calls.mono (guard4_ok B b mb m nx vX _ (HHt.out _ (by repeat' (first | with_reducible exact tR _ _ | with_reducible apply tD | with_reducible apply tN | assumption))) (k : Int) 7 8 k0 k1 HF.out.size ha hl) ?_); rintro e w' ⟨rfl, hw'⟩; subst w') | (go_at_call 130; refine (Calls.mono (second_any B b mb m nx vX _ (HHt.out _ (by repeat' (first | with_reducible exact tR _ _ | with_reducible apply tD | with_reducible apply tN | assumption))) op rd q1 q2 im rd0 rd1 q10 q11 q20 q21 i0 i1 HZ.out) ?_); rintro e w2 ⟨rfl, ht'⟩; have t2 : ref.Touch [] (bx w op rd q1 q2 im) w2 := ref.Touch.trans (by repeat' (first | with_reducible exact tR _ _ | with_reducible apply tD | with_reducible apply tN | assumption)) ht'; clear ht') | (go_at_call 141; refine (Calls.mono (write_4 B b mb sb X m nx vX _ (HC.out _ (by repeat' (first | with_reducible exact tR _ _ | with_reducible apply tD | with_reducible apply tN | assumption))) k (m.regs q2.toNat) rb0 rb1 hk4 HF.out.size) ?_); rintro e w8 ⟨rfl, hat, ht8⟩; have HA : Hid (PCt B b mb sb X (wrote { m with mem := st m.mem k 4 (m.regs q2.toNat) } k 4) nx vX w8) := hat; have HT : Hid (ref.Touch [b, mb, sb] (bx w op rd q1 q2 im) w8) := ref.Touch.trans (ref.Touch.mono (S := []) (by repeat' (first | with_reducible exact tR _ _ | with_reducible apply tD | with_reducible apply tN | assumption)) (by simp)) ht8; clear hat ht8))
  go_end0
  exact ⟨rfl, HA.out, ((ref.Touch.refl _ _).alloc _).trans HT.out⟩
end Go.Proofs.YtmogjicompmkkaaGreatDoor.prog

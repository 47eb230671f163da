import Derived.Test.YtmogjicompmkkaaGreatDoorQPrD
namespace Go.Proofs.YtmogjicompmkkaaGreatDoor.prog
open Go.ChangeShapes Go.WideShapes Go.ChangeAt Go.RowKit Go.Proofs.YtmogjicompmkkaaGreatDoor.nums Go.Proofs.YtmogjicompmkkaaGreatDoor.dnums Go.Proofs.YtmogjicompmkkaaGreatDoor.mach

set_option linter.unusedVariables false
set_option linter.unusedSimpArgs false
set_option maxRecDepth 10000
attribute [local go_sem ↓] Go.wp_at_zero Go.wp_at_succ
set_option maxHeartbeats 400000 in
theorem branchEqual_n (B b mb : Nat) (m : M) (nx : Int) (vX : Nat → Value) (w : World) (h : PAt B b mb m nx vX w) (op rd q1 q2 im : Int) (rd0 : 0 ≤ rd) (rd1 : rd ≤ 31) (q10 : 0 ≤ q1) (q11 : q1 ≤ 31) (q20 : 0 ≤ q2) (q21 : q2 ≤ 31) (i0 : -2147483648 ≤ im) (i1 : im ≤ 2147483647) (hz : 0 < m.size) (hf : Fine m) (hc : (m.regs q1.toNat == m.regs q2.toNat) = true) (ht : ¬ ((m.pc + im) % 4294967296) % 4 = 0) :
    Calls Tryz.prog 107 #[.pointer (some ⟨b, 0, none⟩), .agg #[.int .i64 op, .int .i64 rd, .int .i64 q1, .int .i64 q2, .int .i32 im]] w fun e w' => e = .panicked (trapV 3) ∧ ref.Touch [] w w' := by
  obtain ⟨lb, HH, HHt, HZ, HF, HSk, cpc, ra0, ra1, rb0, rb1, pc0, pc1, wi⟩ := pre_any B b mb m nx vX w h op rd q1 q2 im hz hf
  obtain ⟨lmb, HSk2⟩ := pre2_any B b mb m nx vX w h op rd q1 q2 im hz
  clear h
  clear hz hf
  go_enter Tryz.func107, Tryz.ntmps107
  go_wp2_with fail
  refine wp_region_held_drew (S := (sbx w b m op rd q1 q2 im)) (by kernel_rfl) (HSk.out _ (ref.Touch.refl _ _).drew cpc) (fun hHeld => ?_)
  refine tk (i := 0) (oi := ⟨some 4, _, _, _, _, _⟩) (v := ?v4x83) rfl (by kernel_rfl) (fun _ _ _ h => h) (by rfl) ?h4x83 (by assumption) ?r4x83
  case h4x83 => intro w' hSw; (try dsimp only [sbx] at hSw); go_simp; try with_reducible rfl
  try simp only [Act.put, ly1, ly2, ly3]
  refine tk (i := 1) (oi := ⟨some 5, _, _, _, _, _⟩) (v := ?v5x84) rfl (by kernel_rfl) (fun _ _ _ h => h) (by rfl) ?h5x84 (by assumption) ?r5x84
  case h5x84 => intro w' hSw; (try dsimp only [sbx] at hSw); go_simp; try with_reducible rfl
  try simp only [Act.put, ly1, ly2, ly3]
  refine tk (i := 2) (oi := ⟨some 6, _, _, _, _, _⟩) (v := ?v6x85) rfl (by kernel_rfl) (fun _ _ _ h => h) (by rfl) ?h6x85 (by assumption) ?r6x85
  case h6x85 => intro w' hSw; (try dsimp only [sbx] at hSw); go_simp; try with_reducible rfl
  try simp only [Act.put, ly1, ly2, ly3]
  refine tk (i := 3) (oi := ⟨some 7, _, _, _, _, _⟩) (v := ?v7x86) rfl (by kernel_rfl) (fun _ _ _ h => h) (by rfl) ?h7x86 (by assumption) ?r7x86
  case h7x86 => intro w' hSw; (try dsimp only [sbx] at hSw); go_simp; try with_reducible rfl
  try simp only [Act.put, ly1, ly2, ly3]
  refine tk (i := 5) (oi := ⟨some 9, _, _, _, _, _⟩) (v := ?v9x87) rfl (by kernel_rfl) (fun _ _ _ h => h) (by rfl) ?h9x87 (by assumption) ?r9x87
  case h9x87 => intro w' hSw; (try dsimp only [sbx] at hSw); go_simp; try with_reducible rfl
  try simp only [Act.put, ly1, ly2, ly3]
  refine tk (i := 6) (oi := ⟨some 10, _, _, _, _, _⟩) (v := ?v10x88) rfl (by kernel_rfl) (fun _ _ _ h => h) (by rfl) ?h10x88 (by assumption) ?r10x88
  case h10x88 => intro w' hSw; (try dsimp only [sbx] at hSw); go_simp; try with_reducible rfl
  try simp only [Act.put, ly1, ly2, ly3]
  refine wpAnyH_ready (rs := [4]) (by kernel_rfl) (by simp) ?_
  refine AllReadyH.cons (o := ⟨some 8, _, _, _, _, _⟩) rfl (fun K hK => ?_) AllReadyH.nil
  rw [if_pos (by rfl)]
  go_simp
  refine (Calls.mono (first_any B b mb m nx vX _ (HHt.out _ (by repeat' (first | with_reducible exact tR _ _ | with_reducible apply tD | with_reducible apply tN | assumption))) op rd q1 q2 im rd0 rd1 q10 q11 q20 q21 i0 i1 HZ.out) ?_)
  rintro e w1 ⟨rfl, ht'⟩
  have t1 : ref.Touch [] (bx w op rd q1 q2 im) w1 := ref.Touch.trans (by repeat' (first | with_reducible exact tR _ _ | with_reducible apply tD | with_reducible apply tN | assumption)) ht'
  have p1 : w1.cell? ⟨b, 33, none⟩ = some (.int .u32 m.pc) := (HHt.out _ t1).cells 33 (by decide) (by decide)
  clear ht'
  refine hK.out _ _ (HSk.out _ (t1.mono (by simp)) p1) (fun hHeld => ?_)
  clear hK K
  try simp only [Act.put, ly1, ly2, ly3]
  refine wpAnyH_ready (rs := [7]) (by kernel_rfl) (by simp) ?_
  refine AllReadyH.cons (o := ⟨some 11, _, _, _, _, _⟩) rfl (fun K hK => ?_) AllReadyH.nil
  rw [if_pos (by rfl)]
  go_simp
  refine (Calls.mono (second_any B b mb m nx vX _ (HHt.out _ (by repeat' (first | with_reducible exact tR _ _ | with_reducible apply tD | with_reducible apply tN | assumption))) op rd q1 q2 im rd0 rd1 q10 q11 q20 q21 i0 i1 HZ.out) ?_)
  rintro e w2 ⟨rfl, ht'⟩
  have t2 : ref.Touch [] (bx w op rd q1 q2 im) w2 := ref.Touch.trans (by repeat' (first | with_reducible exact tR _ _ | with_reducible apply tD | with_reducible apply tN | assumption)) ht'
  have p2 : w2.cell? ⟨b, 33, none⟩ = some (.int .u32 m.pc) := (HHt.out _ t2).cells 33 (by decide) (by decide)
  clear ht'
  refine hK.out _ _ (HSk.out _ (t2.mono (by simp)) p2) (fun hHeld => ?_)
  clear hK K
  try simp only [Act.put, ly1, ly2, ly3]
  refine tk (i := 8) (oi := ⟨some 12, _, _, _, _, _⟩) (v := ?v12x89) rfl (by kernel_rfl) (fun _ _ _ h => h) (by rfl) ?h12x89 (by assumption) ?r12x89
  case h12x89 => intro w' hSw; (try dsimp only [sbx] at hSw); go_simp; try with_reducible rfl
  try simp only [Act.put, ly1, ly2, ly3]
  refine wpAnyH_ready (rs := [9]) (by kernel_rfl) (by simp) ?_
  refine AllReadyH.cons (o := ⟨some 13, _, _, _, _, _⟩) rfl (fun K hK => ?_) AllReadyH.nil
  rw [if_pos (by rfl)]
  go_simp
  refine (Calls.mono (br_n B b mb m nx vX _ (HHt.out _ (by repeat' (first | with_reducible exact tR _ _ | with_reducible apply tD | with_reducible apply tN | assumption))) op rd q1 q2 im rd0 rd1 q10 q11 q20 q21 i0 i1 HZ.out HF.out ht) ?_)
  rintro e w9 ⟨rfl, ht9⟩
  exact ⟨rfl, rfl, ref.Touch.trans (by repeat' (first | with_reducible exact ref.Touch.refl _ _ | with_reducible apply ref.Touch.drew | with_reducible apply ref.Touch.drewN | with_reducible apply ref.Touch.alloc | assumption | exact ref.Touch.trans ((ref.Touch.refl [] _).alloc _) (by assumption))) ht9⟩
set_option maxHeartbeats 400000 in
theorem branchEqual_y (B b mb : Nat) (m : M) (nx : Int) (vX : Nat → Value) (w : World) (h : PAt B b mb m nx vX w) (op rd q1 q2 im : Int) (rd0 : 0 ≤ rd) (rd1 : rd ≤ 31) (q10 : 0 ≤ q1) (q11 : q1 ≤ 31) (q20 : 0 ≤ q2) (q21 : q2 ≤ 31) (i0 : -2147483648 ≤ im) (i1 : im ≤ 2147483647) (hz : 0 < m.size) (hf : Fine m) (hc : (m.regs q1.toNat == m.regs q2.toNat) = true) (ht : ((m.pc + im) % 4294967296) % 4 = 0) :
    Calls Tryz.prog 107 #[.pointer (some ⟨b, 0, none⟩), .agg #[.int .i64 op, .int .i64 rd, .int .i64 q1, .int .i64 q2, .int .i32 im]] w fun e w' => e = .returned (.tuple #[]) ∧ PAt B b mb m ((m.pc + im) % 4294967296) vX w' ∧ ref.Touch [b, mb] w w' := by
  obtain ⟨lb, HH, HHt, HZ, HF, HSk, cpc, ra0, ra1, rb0, rb1, pc0, pc1, wi⟩ := pre_any B b mb m nx vX w h op rd q1 q2 im hz hf
  obtain ⟨lmb, HSk2⟩ := pre2_any B b mb m nx vX w h op rd q1 q2 im hz
  clear h
  have lm := lmb
  clear hz hf
  go_enter Tryz.func107, Tryz.ntmps107
  go_wp2_with fail
  refine wp_region_held_drew (S := (sbx w b m op rd q1 q2 im)) (by kernel_rfl) (HSk.out _ (ref.Touch.refl _ _).drew cpc) (fun hHeld => ?_)
  refine tk (i := 0) (oi := ⟨some 4, _, _, _, _, _⟩) (v := ?v4x90) rfl (by kernel_rfl) (fun _ _ _ h => h) (by rfl) ?h4x90 (by assumption) ?r4x90
  case h4x90 => intro w' hSw; (try dsimp only [sbx] at hSw); go_simp; try with_reducible rfl
  try simp only [Act.put, ly1, ly2, ly3]
  refine tk (i := 1) (oi := ⟨some 5, _, _, _, _, _⟩) (v := ?v5x91) rfl (by kernel_rfl) (fun _ _ _ h => h) (by rfl) ?h5x91 (by assumption) ?r5x91
  case h5x91 => intro w' hSw; (try dsimp only [sbx] at hSw); go_simp; try with_reducible rfl
  try simp only [Act.put, ly1, ly2, ly3]
  refine tk (i := 2) (oi := ⟨some 6, _, _, _, _, _⟩) (v := ?v6x92) rfl (by kernel_rfl) (fun _ _ _ h => h) (by rfl) ?h6x92 (by assumption) ?r6x92
  case h6x92 => intro w' hSw; (try dsimp only [sbx] at hSw); go_simp; try with_reducible rfl
  try simp only [Act.put, ly1, ly2, ly3]
  refine tk (i := 3) (oi := ⟨some 7, _, _, _, _, _⟩) (v := ?v7x93) rfl (by kernel_rfl) (fun _ _ _ h => h) (by rfl) ?h7x93 (by assumption) ?r7x93
  case h7x93 => intro w' hSw; (try dsimp only [sbx] at hSw); go_simp; try with_reducible rfl
  try simp only [Act.put, ly1, ly2, ly3]
  refine tk (i := 5) (oi := ⟨some 9, _, _, _, _, _⟩) (v := ?v9x94) rfl (by kernel_rfl) (fun _ _ _ h => h) (by rfl) ?h9x94 (by assumption) ?r9x94
  case h9x94 => intro w' hSw; (try dsimp only [sbx] at hSw); go_simp; try with_reducible rfl
  try simp only [Act.put, ly1, ly2, ly3]
  refine tk (i := 6) (oi := ⟨some 10, _, _, _, _, _⟩) (v := ?v10x95) rfl (by kernel_rfl) (fun _ _ _ h => h) (by rfl) ?h10x95 (by assumption) ?r10x95
  case h10x95 => intro w' hSw; (try dsimp only [sbx] at hSw); go_simp; try with_reducible rfl
  try simp only [Act.put, ly1, ly2, ly3]
  refine wpAnyH_ready (rs := [4]) (by kernel_rfl) (by simp) ?_
  refine AllReadyH.cons (o := ⟨some 8, _, _, _, _, _⟩) rfl (fun K hK => ?_) AllReadyH.nil
  rw [if_pos (by rfl)]
  go_simp
  refine (Calls.mono (first_any B b mb m nx vX _ (HHt.out _ (by repeat' (first | with_reducible exact tR _ _ | with_reducible apply tD | with_reducible apply tN | assumption))) op rd q1 q2 im rd0 rd1 q10 q11 q20 q21 i0 i1 HZ.out) ?_)
  rintro e w1 ⟨rfl, ht'⟩
  have t1 : ref.Touch [] (bx w op rd q1 q2 im) w1 := ref.Touch.trans (by repeat' (first | with_reducible exact tR _ _ | with_reducible apply tD | with_reducible apply tN | assumption)) ht'
  have p1 : w1.cell? ⟨b, 33, none⟩ = some (.int .u32 m.pc) := (HHt.out _ t1).cells 33 (by decide) (by decide)
  clear ht'
  refine hK.out _ _ (HSk.out _ (t1.mono (by simp)) p1) (fun hHeld => ?_)
  clear hK K
  try simp only [Act.put, ly1, ly2, ly3]
  refine wpAnyH_ready (rs := [7]) (by kernel_rfl) (by simp) ?_
  refine AllReadyH.cons (o := ⟨some 11, _, _, _, _, _⟩) rfl (fun K hK => ?_) AllReadyH.nil
  rw [if_pos (by rfl)]
  go_simp
  refine (Calls.mono (second_any B b mb m nx vX _ (HHt.out _ (by repeat' (first | with_reducible exact tR _ _ | with_reducible apply tD | with_reducible apply tN | assumption))) op rd q1 q2 im rd0 rd1 q10 q11 q20 q21 i0 i1 HZ.out) ?_)
  rintro e w2 ⟨rfl, ht'⟩
  have t2 : ref.Touch [] (bx w op rd q1 q2 im) w2 := ref.Touch.trans (by repeat' (first | with_reducible exact tR _ _ | with_reducible apply tD | with_reducible apply tN | assumption)) ht'
  have p2 : w2.cell? ⟨b, 33, none⟩ = some (.int .u32 m.pc) := (HHt.out _ t2).cells 33 (by decide) (by decide)
  clear ht'
  refine hK.out _ _ (HSk.out _ (t2.mono (by simp)) p2) (fun hHeld => ?_)
  clear hK K
  try simp only [Act.put, ly1, ly2, ly3]
  refine tk (i := 8) (oi := ⟨some 12, _, _, _, _, _⟩) (v := ?v12x96) rfl (by kernel_rfl) (fun _ _ _ h => h) (by rfl) ?h12x96 (by assumption) ?r12x96
  case h12x96 => intro w' hSw; (try dsimp only [sbx] at hSw); go_simp; try with_reducible rfl
  try simp only [Act.put, ly1, ly2, ly3]
  refine wpAnyH_ready (rs := [9]) (by kernel_rfl) (by simp) ?_
  refine AllReadyH.cons (o := ⟨some 13, _, _, _, _, _⟩) rfl (fun K hK => ?_) AllReadyH.nil
  rw [if_pos (by rfl)]
  go_simp
  refine (Calls.mono (br_y B b mb m nx vX _ (HHt.out _ (by repeat' (first | with_reducible exact tR _ _ | with_reducible apply tD | with_reducible apply tN | assumption))) op rd q1 q2 im rd0 rd1 q10 q11 q20 q21 i0 i1 HZ.out HF.out ht) ?_)
  rintro e w9 ⟨rfl, hat, hto⟩
  have HA : Hid (PAt B b mb m ((m.pc + im) % 4294967296) vX w9) := hat
  have HT : Hid (ref.Touch [b, mb] (bx w op rd q1 q2 im) w9) := ref.Touch.trans (ref.Touch.mono (S := []) (by repeat' (first | with_reducible exact tR _ _ | with_reducible apply tD | with_reducible apply tN | assumption)) (by simp)) hto
  have t9 : ref.Touch [b, mb] (bx w op rd q1 q2 im) w9 := HT.out
  have p9 : w9.cell? ⟨b, 33, none⟩ = some (.int .u32 m.pc) := hat.cells 33 (by decide) (by decide)
  clear hat hto
  refine hK.out _ _ (HSk2.out _ t9 p9) (fun hHeld => ?_)
  clear hK K
  try simp only [Act.put, ly1, ly2, ly3]
  refine wpAnyH_done (by kernel_rfl) ?_ _
  go_wp2_with fail
  go_end0
  exact ⟨rfl, HA.out, ((ref.Touch.refl _ _).alloc _).trans HT.out⟩
set_option maxHeartbeats 400000 in
theorem branchEqual_no (B b mb : Nat) (m : M) (nx : Int) (vX : Nat → Value) (w : World) (h : PAt B b mb m nx vX w) (op rd q1 q2 im : Int) (rd0 : 0 ≤ rd) (rd1 : rd ≤ 31) (q10 : 0 ≤ q1) (q11 : q1 ≤ 31) (q20 : 0 ≤ q2) (q21 : q2 ≤ 31) (i0 : -2147483648 ≤ im) (i1 : im ≤ 2147483647) (hz : 0 < m.size) (hf : Fine m) (hc : (m.regs q1.toNat == m.regs q2.toNat) = false) :
    Calls Tryz.prog 107 #[.pointer (some ⟨b, 0, none⟩), .agg #[.int .i64 op, .int .i64 rd, .int .i64 q1, .int .i64 q2, .int .i32 im]] w fun e w' => e = .returned (.tuple #[]) ∧ PAt B b mb m nx vX w' ∧ ref.Touch [b, mb] w w' := by
  obtain ⟨lb, HH, HHt, HZ, HF, HSk, cpc, ra0, ra1, rb0, rb1, pc0, pc1, wi⟩ := pre_any B b mb m nx vX w h op rd q1 q2 im hz hf
  obtain ⟨lmb, HSk2⟩ := pre2_any B b mb m nx vX w h op rd q1 q2 im hz
  clear h
  have lm := lmb
  clear hz hf
  go_enter Tryz.func107, Tryz.ntmps107
  go_wp2_with fail
  refine wp_region_held_drew (S := (sbx w b m op rd q1 q2 im)) (by kernel_rfl) (HSk.out _ (ref.Touch.refl _ _).drew cpc) (fun hHeld => ?_)
  refine tk (i := 0) (oi := ⟨some 4, _, _, _, _, _⟩) (v := ?v4x97) rfl (by kernel_rfl) (fun _ _ _ h => h) (by rfl) ?h4x97 (by assumption) ?r4x97
  case h4x97 => intro w' hSw; (try dsimp only [sbx] at hSw); go_simp; try with_reducible rfl
  try simp only [Act.put, ly1, ly2, ly3]
  refine tk (i := 1) (oi := ⟨some 5, _, _, _, _, _⟩) (v := ?v5x98) rfl (by kernel_rfl) (fun _ _ _ h => h) (by rfl) ?h5x98 (by assumption) ?r5x98
  case h5x98 => intro w' hSw; (try dsimp only [sbx] at hSw); go_simp; try with_reducible rfl
  try simp only [Act.put, ly1, ly2, ly3]
  refine tk (i := 2) (oi := ⟨some 6, _, _, _, _, _⟩) (v := ?v6x99) rfl (by kernel_rfl) (fun _ _ _ h => h) (by rfl) ?h6x99 (by assumption) ?r6x99
  case h6x99 => intro w' hSw; (try dsimp only [sbx] at hSw); go_simp; try with_reducible rfl
  try simp only [Act.put, ly1, ly2, ly3]
  refine tk (i := 3) (oi := ⟨some 7, _, _, _, _, _⟩) (v := ?v7x100) rfl (by kernel_rfl) (fun _ _ _ h => h) (by rfl) ?h7x100 (by assumption) ?r7x100
  case h7x100 => intro w' hSw; (try dsimp only [sbx] at hSw); go_simp; try with_reducible rfl
  try simp only [Act.put, ly1, ly2, ly3]
  refine tk (i := 5) (oi := ⟨some 9, _, _, _, _, _⟩) (v := ?v9x101) rfl (by kernel_rfl) (fun _ _ _ h => h) (by rfl) ?h9x101 (by assumption) ?r9x101
  case h9x101 => intro w' hSw; (try dsimp only [sbx] at hSw); go_simp; try with_reducible rfl
  try simp only [Act.put, ly1, ly2, ly3]
  refine tk (i := 6) (oi := ⟨some 10, _, _, _, _, _⟩) (v := ?v10x102) rfl (by kernel_rfl) (fun _ _ _ h => h) (by rfl) ?h10x102 (by assumption) ?r10x102
  case h10x102 => intro w' hSw; (try dsimp only [sbx] at hSw); go_simp; try with_reducible rfl
  try simp only [Act.put, ly1, ly2, ly3]
  refine wpAnyH_ready (rs := [4]) (by kernel_rfl) (by simp) ?_
  refine AllReadyH.cons (o := ⟨some 8, _, _, _, _, _⟩) rfl (fun K hK => ?_) AllReadyH.nil
  rw [if_pos (by rfl)]
  go_simp
  refine (Calls.mono (first_any B b mb m nx vX _ (HHt.out _ (by repeat' (first | with_reducible exact tR _ _ | with_reducible apply tD | with_reducible apply tN | assumption))) op rd q1 q2 im rd0 rd1 q10 q11 q20 q21 i0 i1 HZ.out) ?_)
  rintro e w1 ⟨rfl, ht'⟩
  have t1 : ref.Touch [] (bx w op rd q1 q2 im) w1 := ref.Touch.trans (by repeat' (first | with_reducible exact tR _ _ | with_reducible apply tD | with_reducible apply tN | assumption)) ht'
  have p1 : w1.cell? ⟨b, 33, none⟩ = some (.int .u32 m.pc) := (HHt.out _ t1).cells 33 (by decide) (by decide)
  clear ht'
  refine hK.out _ _ (HSk.out _ (t1.mono (by simp)) p1) (fun hHeld => ?_)
  clear hK K
  try simp only [Act.put, ly1, ly2, ly3]
  refine wpAnyH_ready (rs := [7]) (by kernel_rfl) (by simp) ?_
  refine AllReadyH.cons (o := ⟨some 11, _, _, _, _, _⟩) rfl (fun K hK => ?_) AllReadyH.nil
  rw [if_pos (by rfl)]
  go_simp
  refine (Calls.mono (second_any B b mb m nx vX _ (HHt.out _ (by repeat' (first | with_reducible exact tR _ _ | with_reducible apply tD | with_reducible apply tN | assumption))) op rd q1 q2 im rd0 rd1 q10 q11 q20 q21 i0 i1 HZ.out) ?_)
  rintro e w2 ⟨rfl, ht'⟩
  have t2 : ref.Touch [] (bx w op rd q1 q2 im) w2 := ref.Touch.trans (by repeat' (first | with_reducible exact tR _ _ | with_reducible apply tD | with_reducible apply tN | assumption)) ht'
  have p2 : w2.cell? ⟨b, 33, none⟩ = some (.int .u32 m.pc) := (HHt.out _ t2).cells 33 (by decide) (by decide)
  clear ht'
  refine hK.out _ _ (HSk.out _ (t2.mono (by simp)) p2) (fun hHeld => ?_)
  clear hK K
  try simp only [Act.put, ly1, ly2, ly3]
  refine tk (i := 8) (oi := ⟨some 12, _, _, _, _, _⟩) (v := ?v12x103) rfl (by kernel_rfl) (fun _ _ _ h => h) (by rfl) ?h12x103 (by assumption) ?r12x103
  case h12x103 => intro w' hSw; (try dsimp only [sbx] at hSw); go_simp; try with_reducible rfl
  try simp only [Act.put, ly1, ly2, ly3]
  refine wpAnyH_ready (rs := [9]) (by kernel_rfl) (by simp) ?_
  refine AllReadyH.cons (o := ⟨some 13, _, _, _, _, _⟩) rfl (fun K hK => ?_) AllReadyH.nil
  rw [if_pos (by rfl)]
  go_simp
  refine (Calls.mono (br_no B b mb m nx vX _ (HHt.out _ (by repeat' (first | with_reducible exact tR _ _ | with_reducible apply tD | with_reducible apply tN | assumption))) op rd q1 q2 im rd0 rd1 q10 q11 q20 q21 i0 i1 HZ.out HF.out) ?_)
  rintro e w9 ⟨rfl, hat, hto⟩
  have HA : Hid (PAt B b mb m nx vX w9) := hat
  have HT : Hid (ref.Touch [b, mb] (bx w op rd q1 q2 im) w9) := ref.Touch.trans (ref.Touch.mono (S := []) (by repeat' (first | with_reducible exact tR _ _ | with_reducible apply tD | with_reducible apply tN | assumption)) (by simp)) hto
  have t9 : ref.Touch [b, mb] (bx w op rd q1 q2 im) w9 := HT.out
  have p9 : w9.cell? ⟨b, 33, none⟩ = some (.int .u32 m.pc) := hat.cells 33 (by decide) (by decide)
  clear hat hto
  refine hK.out _ _ (HSk2.out _ t9 p9) (fun hHeld => ?_)
  clear hK K
  try simp only [Act.put, ly1, ly2, ly3]
  refine wpAnyH_done (by kernel_rfl) ?_ _
  go_wp2_with fail
  go_end0
  exact ⟨rfl, HA.out, ((ref.Touch.refl _ _).alloc _).trans HT.out⟩
set_option maxHeartbeats 400000 in
theorem branchNotEqual_n (B b mb : Nat) (m : M) (nx : Int) (vX : Nat → Value) (w : World) (h : PAt B b mb m nx vX w) (op rd q1 q2 im : Int) (rd0 : 0 ≤ rd) (rd1 : rd ≤ 31) (q10 : 0 ≤ q1) (q11 : q1 ≤ 31) (q20 : 0 ≤ q2) (q21 : q2 ≤ 31) (i0 : -2147483648 ≤ im) (i1 : im ≤ 2147483647) (hz : 0 < m.size) (hf : Fine m) (hc : (m.regs q1.toNat != m.regs q2.toNat) = true) (ht : ¬ ((m.pc + im) % 4294967296) % 4 = 0) :
    Calls Tryz.prog 108 #[.pointer (some ⟨b, 0, none⟩), .agg #[.int .i64 op, .int .i64 rd, .int .i64 q1, .int .i64 q2, .int .i32 im]] w fun e w' => e = .panicked (trapV 3) ∧ ref.Touch [] w w' := by
  obtain ⟨lb, HH, HHt, HZ, HF, HSk, cpc, ra0, ra1, rb0, rb1, pc0, pc1, wi⟩ := pre_any B b mb m nx vX w h op rd q1 q2 im hz hf
  obtain ⟨lmb, HSk2⟩ := pre2_any B b mb m nx vX w h op rd q1 q2 im hz
  clear h
  clear hz hf
  go_enter Tryz.func108, Tryz.ntmps108
  go_wp2_with fail
  refine wp_region_held_drew (S := (sbx w b m op rd q1 q2 im)) (by kernel_rfl) (HSk.out _ (ref.Touch.refl _ _).drew cpc) (fun hHeld => ?_)
  refine tk (i := 0) (oi := ⟨some 4, _, _, _, _, _⟩) (v := ?v4x104) rfl (by kernel_rfl) (fun _ _ _ h => h) (by rfl) ?h4x104 (by assumption) ?r4x104
  case h4x104 => intro w' hSw; (try dsimp only [sbx] at hSw); go_simp; try with_reducible rfl
  try simp only [Act.put, ly1, ly2, ly3]
  refine tk (i := 1) (oi := ⟨some 5, _, _, _, _, _⟩) (v := ?v5x105) rfl (by kernel_rfl) (fun _ _ _ h => h) (by rfl) ?h5x105 (by assumption) ?r5x105
  case h5x105 => intro w' hSw; (try dsimp only [sbx] at hSw); go_simp; try with_reducible rfl
  try simp only [Act.put, ly1, ly2, ly3]
  refine tk (i := 2) (oi := ⟨some 6, _, _, _, _, _⟩) (v := ?v6x106) rfl (by kernel_rfl) (fun _ _ _ h => h) (by rfl) ?h6x106 (by assumption) ?r6x106
  case h6x106 => intro w' hSw; (try dsimp only [sbx] at hSw); go_simp; try with_reducible rfl
  try simp only [Act.put, ly1, ly2, ly3]
  refine tk (i := 3) (oi := ⟨some 7, _, _, _, _, _⟩) (v := ?v7x107) rfl (by kernel_rfl) (fun _ _ _ h => h) (by rfl) ?h7x107 (by assumption) ?r7x107
  case h7x107 => intro w' hSw; (try dsimp only [sbx] at hSw); go_simp; try with_reducible rfl
  try simp only [Act.put, ly1, ly2, ly3]
  refine tk (i := 5) (oi := ⟨some 9, _, _, _, _, _⟩) (v := ?v9x108) rfl (by kernel_rfl) (fun _ _ _ h => h) (by rfl) ?h9x108 (by assumption) ?r9x108
  case h9x108 => intro w' hSw; (try dsimp only [sbx] at hSw); go_simp; try with_reducible rfl
  try simp only [Act.put, ly1, ly2, ly3]
  refine tk (i := 6) (oi := ⟨some 10, _, _, _, _, _⟩) (v := ?v10x109) rfl (by kernel_rfl) (fun _ _ _ h => h) (by rfl) ?h10x109 (by assumption) ?r10x109
  case h10x109 => intro w' hSw; (try dsimp only [sbx] at hSw); go_simp; try with_reducible rfl
  try simp only [Act.put, ly1, ly2, ly3]
  refine wpAnyH_ready (rs := [4]) (by kernel_rfl) (by simp) ?_
  refine AllReadyH.cons (o := ⟨some 8, _, _, _, _, _⟩) rfl (fun K hK => ?_) AllReadyH.nil
  rw [if_pos (by rfl)]
  go_simp
  refine (Calls.mono (first_any B b mb m nx vX _ (HHt.out _ (by repeat' (first | with_reducible exact tR _ _ | with_reducible apply tD | with_reducible apply tN | assumption))) op rd q1 q2 im rd0 rd1 q10 q11 q20 q21 i0 i1 HZ.out) ?_)
  rintro e w1 ⟨rfl, ht'⟩
  have t1 : ref.Touch [] (bx w op rd q1 q2 im) w1 := ref.Touch.trans (by repeat' (first | with_reducible exact tR _ _ | with_reducible apply tD | with_reducible apply tN | assumption)) ht'
  have p1 : w1.cell? ⟨b, 33, none⟩ = some (.int .u32 m.pc) := (HHt.out _ t1).cells 33 (by decide) (by decide)
  clear ht'
  refine hK.out _ _ (HSk.out _ (t1.mono (by simp)) p1) (fun hHeld => ?_)
  clear hK K
  try simp only [Act.put, ly1, ly2, ly3]
  refine wpAnyH_ready (rs := [7]) (by kernel_rfl) (by simp) ?_
  refine AllReadyH.cons (o := ⟨some 11, _, _, _, _, _⟩) rfl (fun K hK => ?_) AllReadyH.nil
  rw [if_pos (by rfl)]
  go_simp
  refine (Calls.mono (second_any B b mb m nx vX _ (HHt.out _ (by repeat' (first | with_reducible exact tR _ _ | with_reducible apply tD | with_reducible apply tN | assumption))) op rd q1 q2 im rd0 rd1 q10 q11 q20 q21 i0 i1 HZ.out) ?_)
  rintro e w2 ⟨rfl, ht'⟩
  have t2 : ref.Touch [] (bx w op rd q1 q2 im) w2 := ref.Touch.trans (by repeat' (first | with_reducible exact tR _ _ | with_reducible apply tD | with_reducible apply tN | assumption)) ht'
  have p2 : w2.cell? ⟨b, 33, none⟩ = some (.int .u32 m.pc) := (HHt.out _ t2).cells 33 (by decide) (by decide)
  clear ht'
  refine hK.out _ _ (HSk.out _ (t2.mono (by simp)) p2) (fun hHeld => ?_)
  clear hK K
  try simp only [Act.put, ly1, ly2, ly3]
  refine tk (i := 8) (oi := ⟨some 12, _, _, _, _, _⟩) (v := ?v12x110) rfl (by kernel_rfl) (fun _ _ _ h => h) (by rfl) ?h12x110 (by assumption) ?r12x110
  case h12x110 => intro w' hSw; (try dsimp only [sbx] at hSw); go_simp; try with_reducible rfl
  try simp only [Act.put, ly1, ly2, ly3]
  refine wpAnyH_ready (rs := [9]) (by kernel_rfl) (by simp) ?_
  refine AllReadyH.cons (o := ⟨some 13, _, _, _, _, _⟩) rfl (fun K hK => ?_) AllReadyH.nil
  rw [if_pos (by rfl)]
  go_simp
  refine (Calls.mono (br_n B b mb m nx vX _ (HHt.out _ (by repeat' (first | with_reducible exact tR _ _ | with_reducible apply tD | with_reducible apply tN | assumption))) op rd q1 q2 im rd0 rd1 q10 q11 q20 q21 i0 i1 HZ.out HF.out ht) ?_)
  rintro e w9 ⟨rfl, ht9⟩
  exact ⟨rfl, rfl, ref.Touch.trans (by repeat' (first | with_reducible exact ref.Touch.refl _ _ | with_reducible apply ref.Touch.drew | with_reducible apply ref.Touch.drewN | with_reducible apply ref.Touch.alloc | assumption | exact ref.Touch.trans ((ref.Touch.refl [] _).alloc _) (by assumption))) ht9⟩
set_option maxHeartbeats 400000 in
theorem branchNotEqual_y (B b mb : Nat) (m : M) (nx : Int) (vX : Nat → Value) (w : World) (h : PAt B b mb m nx vX w) (op rd q1 q2 im : Int) (rd0 : 0 ≤ rd) (rd1 : rd ≤ 31) (q10 : 0 ≤ q1) (q11 : q1 ≤ 31) (q20 : 0 ≤ q2) (q21 : q2 ≤ 31) (i0 : -2147483648 ≤ im) (i1 : im ≤ 2147483647) (hz : 0 < m.size) (hf : Fine m) (hc : (m.regs q1.toNat != m.regs q2.toNat) = true) (ht : ((m.pc + im) % 4294967296) % 4 = 0) :
    Calls Tryz.prog 108 #[.pointer (some ⟨b, 0, none⟩), .agg #[.int .i64 op, .int .i64 rd, .int .i64 q1, .int .i64 q2, .int .i32 im]] w fun e w' => e = .returned (.tuple #[]) ∧ PAt B b mb m ((m.pc + im) % 4294967296) vX w' ∧ ref.Touch [b, mb] w w' := by
  obtain ⟨lb, HH, HHt, HZ, HF, HSk, cpc, ra0, ra1, rb0, rb1, pc0, pc1, wi⟩ := pre_any B b mb m nx vX w h op rd q1 q2 im hz hf
  obtain ⟨lmb, HSk2⟩ := pre2_any B b mb m nx vX w h op rd q1 q2 im hz
  clear h
  have lm := lmb
  clear hz hf
  go_enter Tryz.func108, Tryz.ntmps108
  go_wp2_with fail
  refine wp_region_held_drew (S := (sbx w b m op rd q1 q2 im)) (by kernel_rfl) (HSk.out _ (ref.Touch.refl _ _).drew cpc) (fun hHeld => ?_)
  refine tk (i := 0) (oi := ⟨some 4, _, _, _, _, _⟩) (v := ?v4x111) rfl (by kernel_rfl) (fun _ _ _ h => h) (by rfl) ?h4x111 (by assumption) ?r4x111
  case h4x111 => intro w' hSw; (try dsimp only [sbx] at hSw); go_simp; try with_reducible rfl
  try simp only [Act.put, ly1, ly2, ly3]
  refine tk (i := 1) (oi := ⟨some 5, _, _, _, _, _⟩) (v := ?v5x112) rfl (by kernel_rfl) (fun _ _ _ h => h) (by rfl) ?h5x112 (by assumption) ?r5x112
  case h5x112 => intro w' hSw; (try dsimp only [sbx] at hSw); go_simp; try with_reducible rfl
  try simp only [Act.put, ly1, ly2, ly3]
  refine tk (i := 2) (oi := ⟨some 6, _, _, _, _, _⟩) (v := ?v6x113) rfl (by kernel_rfl) (fun _ _ _ h => h) (by rfl) ?h6x113 (by assumption) ?r6x113
  case h6x113 => intro w' hSw; (try dsimp only [sbx] at hSw); go_simp; try with_reducible rfl
  try simp only [Act.put, ly1, ly2, ly3]
  refine tk (i := 3) (oi := ⟨some 7, _, _, _, _, _⟩) (v := ?v7x114) rfl (by kernel_rfl) (fun _ _ _ h => h) (by rfl) ?h7x114 (by assumption) ?r7x114
  case h7x114 => intro w' hSw; (try dsimp only [sbx] at hSw); go_simp; try with_reducible rfl
  try simp only [Act.put, ly1, ly2, ly3]
  refine tk (i := 5) (oi := ⟨some 9, _, _, _, _, _⟩) (v := ?v9x115) rfl (by kernel_rfl) (fun _ _ _ h => h) (by rfl) ?h9x115 (by assumption) ?r9x115
  case h9x115 => intro w' hSw; (try dsimp only [sbx] at hSw); go_simp; try with_reducible rfl
  try simp only [Act.put, ly1, ly2, ly3]
  refine tk (i := 6) (oi := ⟨some 10, _, _, _, _, _⟩) (v := ?v10x116) rfl (by kernel_rfl) (fun _ _ _ h => h) (by rfl) ?h10x116 (by assumption) ?r10x116
  case h10x116 => intro w' hSw; (try dsimp only [sbx] at hSw); go_simp; try with_reducible rfl
  try simp only [Act.put, ly1, ly2, ly3]
  refine wpAnyH_ready (rs := [4]) (by kernel_rfl) (by simp) ?_
  refine AllReadyH.cons (o := ⟨some 8, _, _, _, _, _⟩) rfl (fun K hK => ?_) AllReadyH.nil
  rw [if_pos (by rfl)]
  go_simp
  refine (Calls.mono (first_any B b mb m nx vX _ (HHt.out _ (by repeat' (first | with_reducible exact tR _ _ | with_reducible apply tD | with_reducible apply tN | assumption))) op rd q1 q2 im rd0 rd1 q10 q11 q20 q21 i0 i1 HZ.out) ?_)
  rintro e w1 ⟨rfl, ht'⟩
  have t1 : ref.Touch [] (bx w op rd q1 q2 im) w1 := ref.Touch.trans (by repeat' (first | with_reducible exact tR _ _ | with_reducible apply tD | with_reducible apply tN | assumption)) ht'
  have p1 : w1.cell? ⟨b, 33, none⟩ = some (.int .u32 m.pc) := (HHt.out _ t1).cells 33 (by decide) (by decide)
  clear ht'
  refine hK.out _ _ (HSk.out _ (t1.mono (by simp)) p1) (fun hHeld => ?_)
  clear hK K
  try simp only [Act.put, ly1, ly2, ly3]
  refine wpAnyH_ready (rs := [7]) (by kernel_rfl) (by simp) ?_
  refine AllReadyH.cons (o := ⟨some 11, _, _, _, _, _⟩) rfl (fun K hK => ?_) AllReadyH.nil
  rw [if_pos (by rfl)]
  go_simp
  refine (Calls.mono (second_any B b mb m nx vX _ (HHt.out _ (by repeat' (first | with_reducible exact tR _ _ | with_reducible apply tD | with_reducible apply tN | assumption))) op rd q1 q2 im rd0 rd1 q10 q11 q20 q21 i0 i1 HZ.out) ?_)
  rintro e w2 ⟨rfl, ht'⟩
  have t2 : ref.Touch [] (bx w op rd q1 q2 im) w2 := ref.Touch.trans (by repeat' (first | with_reducible exact tR _ _ | with_reducible apply tD | with_reducible apply tN | assumption)) ht'
  have p2 : w2.cell? ⟨b, 33, none⟩ = some (.int .u32 m.pc) := (HHt.out _ t2).cells 33 (by decide) (by decide)
  clear ht'
  refine hK.out _ _ (HSk.out _ (t2.mono (by simp)) p2) (fun hHeld => ?_)
  clear hK K
  try simp only [Act.put, ly1, ly2, ly3]
  refine tk (i := 8) (oi := ⟨some 12, _, _, _, _, _⟩) (v := ?v12x117) rfl (by kernel_rfl) (fun _ _ _ h => h) (by rfl) ?h12x117 (by assumption) ?r12x117
  case h12x117 => intro w' hSw; (try dsimp only [sbx] at hSw); go_simp; try with_reducible rfl
  try simp only [Act.put, ly1, ly2, ly3]
  refine wpAnyH_ready (rs := [9]) (by kernel_rfl) (by simp) ?_
  refine AllReadyH.cons (o := ⟨some 13, _, _, _, _, _⟩) rfl (fun K hK => ?_) AllReadyH.nil
  rw [if_pos (by rfl)]
  go_simp
  refine (Calls.mono (br_y B b mb m nx vX _ (HHt.out _ (by repeat' (first | with_reducible exact tR _ _ | with_reducible apply tD | with_reducible apply tN | assumption))) op rd q1 q2 im rd0 rd1 q10 q11 q20 q21 i0 i1 HZ.out HF.out ht) ?_)
  rintro e w9 ⟨rfl, hat, hto⟩
  have HA : Hid (PAt B b mb m ((m.pc + im) % 4294967296) vX w9) := hat
  have HT : Hid (ref.Touch [b, mb] (bx w op rd q1 q2 im) w9) := ref.Touch.trans (ref.Touch.mono (S := []) (by repeat' (first | with_reducible exact tR _ _ | with_reducible apply tD | with_reducible apply tN | assumption)) (by simp)) hto
  have t9 : ref.Touch [b, mb] (bx w op rd q1 q2 im) w9 := HT.out
  have p9 : w9.cell? ⟨b, 33, none⟩ = some (.int .u32 m.pc) := hat.cells 33 (by decide) (by decide)
  clear hat hto
  refine hK.out _ _ (HSk2.out _ t9 p9) (fun hHeld => ?_)
  clear hK K
  try simp only [Act.put, ly1, ly2, ly3]
  refine wpAnyH_done (by kernel_rfl) ?_ _
  go_wp2_with fail
  go_end0
  exact ⟨rfl, HA.out, ((ref.Touch.refl _ _).alloc _).trans HT.out⟩
set_option maxHeartbeats 400000 in
theorem branchNotEqual_no (B b mb : Nat) (m : M) (nx : Int) (vX : Nat → Value) (w : World) (h : PAt B b mb m nx vX w) (op rd q1 q2 im : Int) (rd0 : 0 ≤ rd) (rd1 : rd ≤ 31) (q10 : 0 ≤ q1) (q11 : q1 ≤ 31) (q20 : 0 ≤ q2) (q21 : q2 ≤ 31) (i0 : -2147483648 ≤ im) (i1 : im ≤ 2147483647) (hz : 0 < m.size) (hf : Fine m) (hc : (m.regs q1.toNat != m.regs q2.toNat) = false) :
    Calls Tryz.prog 108 #[.pointer (some ⟨b, 0, none⟩), .agg #[.int .i64 op, .int .i64 rd, .int .i64 q1, .int .i64 q2, .int .i32 im]] w fun e w' => e = .returned (.tuple #[]) ∧ PAt B b mb m nx vX w' ∧ ref.Touch [b, mb] w w' := by
  obtain ⟨lb, HH, HHt, HZ, HF, HSk, cpc, ra0, ra1, rb0, rb1, pc0, pc1, wi⟩ := pre_any B b mb m nx vX w h op rd q1 q2 im hz hf
  obtain ⟨lmb, HSk2⟩ := pre2_any B b mb m nx vX w h op rd q1 q2 im hz
  clear h
  have lm := lmb
  clear hz hf
  go_enter Tryz.func108, Tryz.ntmps108
  go_wp2_with fail
  refine wp_region_held_drew (S := (sbx w b m op rd q1 q2 im)) (by kernel_rfl) (HSk.out _ (ref.Touch.refl _ _).drew cpc) (fun hHeld => ?_)
  refine tk (i := 0) (oi := ⟨some 4, _, _, _, _, _⟩) (v := ?v4x118) rfl (by kernel_rfl) (fun _ _ _ h => h) (by rfl) ?h4x118 (by assumption) ?r4x118
  case h4x118 => intro w' hSw; (try dsimp only [sbx] at hSw); go_simp; try with_reducible rfl
  try simp only [Act.put, ly1, ly2, ly3]
  refine tk (i := 1) (oi := ⟨some 5, _, _, _, _, _⟩) (v := ?v5x119) rfl (by kernel_rfl) (fun _ _ _ h => h) (by rfl) ?h5x119 (by assumption) ?r5x119
  case h5x119 => intro w' hSw; (try dsimp only [sbx] at hSw); go_simp; try with_reducible rfl
  try simp only [Act.put, ly1, ly2, ly3]
  refine tk (i := 2) (oi := ⟨some 6, _, _, _, _, _⟩) (v := ?v6x120) rfl (by kernel_rfl) (fun _ _ _ h => h) (by rfl) ?h6x120 (by assumption) ?r6x120
  case h6x120 => intro w' hSw; (try dsimp only [sbx] at hSw); go_simp; try with_reducible rfl
  try simp only [Act.put, ly1, ly2, ly3]
  refine tk (i := 3) (oi := ⟨some 7, _, _, _, _, _⟩) (v := ?v7x121) rfl (by kernel_rfl) (fun _ _ _ h => h) (by rfl) ?h7x121 (by assumption) ?r7x121
  case h7x121 => intro w' hSw; (try dsimp only [sbx] at hSw); go_simp; try with_reducible rfl
  try simp only [Act.put, ly1, ly2, ly3]
  refine tk (i := 5) (oi := ⟨some 9, _, _, _, _, _⟩) (v := ?v9x122) rfl (by kernel_rfl) (fun _ _ _ h => h) (by rfl) ?h9x122 (by assumption) ?r9x122
  case h9x122 => intro w' hSw; (try dsimp only [sbx] at hSw); go_simp; try with_reducible rfl
  try simp only [Act.put, ly1, ly2, ly3]
  refine tk (i := 6) (oi := ⟨some 10, _, _, _, _, _⟩) (v := ?v10x123) rfl (by kernel_rfl) (fun _ _ _ h => h) (by rfl) ?h10x123 (by assumption) ?r10x123
  case h10x123 => intro w' hSw; (try dsimp only [sbx] at hSw); go_simp; try with_reducible rfl
  try simp only [Act.put, ly1, ly2, ly3]
  refine wpAnyH_ready (rs := [4]) (by kernel_rfl) (by simp) ?_
  refine AllReadyH.cons (o := ⟨some 8, _, _, _, _, _⟩) rfl (fun K hK => ?_) AllReadyH.nil
  rw [if_pos (by rfl)]
  go_simp
  refine (Calls.mono (first_any B b mb m nx vX _ (HHt.out _ (by repeat' (first | with_reducible exact tR _ _ | with_reducible apply tD | with_reducible apply tN | assumption))) op rd q1 q2 im rd0 rd1 q10 q11 q20 q21 i0 i1 HZ.out) ?_)
  rintro e w1 ⟨rfl, ht'⟩
  have t1 : ref.Touch [] (bx w op rd q1 q2 im) w1 := ref.Touch.trans (by repeat' (first | with_reducible exact tR _ _ | with_reducible apply tD | with_reducible apply tN | assumption)) ht'
  have p1 : w1.cell? ⟨b, 33, none⟩ = some (.int .u32 m.pc) := (HHt.out _ t1).cells 33 (by decide) (by decide)
  clear ht'
  refine hK.out _ _ (HSk.out _ (t1.mono (by simp)) p1) (fun hHeld => ?_)
  clear hK K
  try simp only [Act.put, ly1, ly2, ly3]
  refine wpAnyH_ready (rs := [7]) (by kernel_rfl) (by simp) ?_
  refine AllReadyH.cons (o := ⟨some 11, _, _, _, _, _⟩) rfl (fun K hK => ?_) AllReadyH.nil
  rw [if_pos (by rfl)]
  go_simp
  refine (Calls.mono (second_any B b mb m nx vX _ (HHt.out _ (by repeat' (first | with_reducible exact tR _ _ | with_reducible apply tD | with_reducible apply tN | assumption))) op rd q1 q2 im rd0 rd1 q10 q11 q20 q21 i0 i1 HZ.out) ?_)
  rintro e w2 ⟨rfl, ht'⟩
  have t2 : ref.Touch [] (bx w op rd q1 q2 im) w2 := ref.Touch.trans (by repeat' (first | with_reducible exact tR _ _ | with_reducible apply tD | with_reducible apply tN | assumption)) ht'
  have p2 : w2.cell? ⟨b, 33, none⟩ = some (.int .u32 m.pc) := (HHt.out _ t2).cells 33 (by decide) (by decide)
  clear ht'
  refine hK.out _ _ (HSk.out _ (t2.mono (by simp)) p2) (fun hHeld => ?_)
  clear hK K
  try simp only [Act.put, ly1, ly2, ly3]
  refine tk (i := 8) (oi := ⟨some 12, _, _, _, _, _⟩) (v := ?v12x124) rfl (by kernel_rfl) (fun _ _ _ h => h) (by rfl) ?h12x124 (by assumption) ?r12x124
  case h12x124 => intro w' hSw; (try dsimp only [sbx] at hSw); go_simp; try with_reducible rfl
  try simp only [Act.put, ly1, ly2, ly3]
  refine wpAnyH_ready (rs := [9]) (by kernel_rfl) (by simp) ?_
  refine AllReadyH.cons (o := ⟨some 13, _, _, _, _, _⟩) rfl (fun K hK => ?_) AllReadyH.nil
  rw [if_pos (by rfl)]
  go_simp
  refine (Calls.mono (br_no B b mb m nx vX _ (HHt.out _ (by repeat' (first | with_reducible exact tR _ _ | with_reducible apply tD | with_reducible apply tN | assumption))) op rd q1 q2 im rd0 rd1 q10 q11 q20 q21 i0 i1 HZ.out HF.out) ?_)
  rintro e w9 ⟨rfl, hat, hto⟩
  have HA : Hid (PAt B b mb m nx vX w9) := hat
  have HT : Hid (ref.Touch [b, mb] (bx w op rd q1 q2 im) w9) := ref.Touch.trans (ref.Touch.mono (S := []) (by repeat' (first | with_reducible exact tR _ _ | with_reducible apply tD | with_reducible apply tN | assumption)) (by simp)) hto
  have t9 : ref.Touch [b, mb] (bx w op rd q1 q2 im) w9 := HT.out
  have p9 : w9.cell? ⟨b, 33, none⟩ = some (.int .u32 m.pc) := hat.cells 33 (by decide) (by decide)
  clear hat hto
  refine hK.out _ _ (HSk2.out _ t9 p9) (fun hHeld => ?_)
  clear hK K
  try simp only [Act.put, ly1, ly2, ly3]
  refine wpAnyH_done (by kernel_rfl) ?_ _
  go_wp2_with fail
  go_end0
  exact ⟨rfl, HA.out, ((ref.Touch.refl _ _).alloc _).trans HT.out⟩
set_option maxHeartbeats 400000 in
theorem branchLess_n (B b mb : Nat) (m : M) (nx : Int) (vX : Nat → Value) (w : World) (h : PAt B b mb m nx vX w) (op rd q1 q2 im : Int) (rd0 : 0 ≤ rd) (rd1 : rd ≤ 31) (q10 : 0 ≤ q1) (q11 : q1 ≤ 31) (q20 : 0 ≤ q2) (q21 : q2 ≤ 31) (i0 : -2147483648 ≤ im) (i1 : im ≤ 2147483647) (hz : 0 < m.size) (hf : Fine m) (hc : decide (wrap32 (m.regs q1.toNat) < wrap32 (m.regs q2.toNat)) = true) (ht : ¬ ((m.pc + im) % 4294967296) % 4 = 0) :
    Calls Tryz.prog 109 #[.pointer (some ⟨b, 0, none⟩), .agg #[.int .i64 op, .int .i64 rd, .int .i64 q1, .int .i64 q2, .int .i32 im]] w fun e w' => e = .panicked (trapV 3) ∧ ref.Touch [] w w' := by
  obtain ⟨lb, HH, HHt, HZ, HF, HSk, cpc, ra0, ra1, rb0, rb1, pc0, pc1, wi⟩ := pre_any B b mb m nx vX w h op rd q1 q2 im hz hf
  obtain ⟨lmb, HSk2⟩ := pre2_any B b mb m nx vX w h op rd q1 q2 im hz
  clear h
  clear hz hf
  go_enter Tryz.func109, Tryz.ntmps109
  go_wp2_with fail
  refine wp_region_held_drew (S := (sbx w b m op rd q1 q2 im)) (by kernel_rfl) (HSk.out _ (ref.Touch.refl _ _).drew cpc) (fun hHeld => ?_)
  refine tk (i := 0) (oi := ⟨some 4, _, _, _, _, _⟩) (v := ?v4x125) rfl (by kernel_rfl) (fun _ _ _ h => h) (by rfl) ?h4x125 (by assumption) ?r4x125
  case h4x125 => intro w' hSw; (try dsimp only [sbx] at hSw); go_simp; try with_reducible rfl
  try simp only [Act.put, ly1, ly2, ly3]
  refine tk (i := 1) (oi := ⟨some 5, _, _, _, _, _⟩) (v := ?v5x126) rfl (by kernel_rfl) (fun _ _ _ h => h) (by rfl) ?h5x126 (by assumption) ?r5x126
  case h5x126 => intro w' hSw; (try dsimp only [sbx] at hSw); go_simp; try with_reducible rfl
  try simp only [Act.put, ly1, ly2, ly3]
  refine tk (i := 2) (oi := ⟨some 6, _, _, _, _, _⟩) (v := ?v6x127) rfl (by kernel_rfl) (fun _ _ _ h => h) (by rfl) ?h6x127 (by assumption) ?r6x127
  case h6x127 => intro w' hSw; (try dsimp only [sbx] at hSw); go_simp; try with_reducible rfl
  try simp only [Act.put, ly1, ly2, ly3]
  refine tk (i := 3) (oi := ⟨some 7, _, _, _, _, _⟩) (v := ?v7x128) rfl (by kernel_rfl) (fun _ _ _ h => h) (by rfl) ?h7x128 (by assumption) ?r7x128
  case h7x128 => intro w' hSw; (try dsimp only [sbx] at hSw); go_simp; try with_reducible rfl
  try simp only [Act.put, ly1, ly2, ly3]
  refine wpAnyH_ready (rs := [4]) (by kernel_rfl) (by simp) ?_
  refine AllReadyH.cons (o := ⟨some 8, _, _, _, _, _⟩) rfl (fun K hK => ?_) AllReadyH.nil
  rw [if_pos (by rfl)]
  go_simp
  refine (Calls.mono (less_any B b mb m nx vX _ (HHt.out _ (by repeat' (first | with_reducible exact tR _ _ | with_reducible apply tD | with_reducible apply tN | assumption))) op rd q1 q2 im rd0 rd1 q10 q11 q20 q21 i0 i1 HZ.out HF.out) ?_)
  rintro e w1 ⟨rfl, ht'⟩
  have t1 : ref.Touch [] (bx w op rd q1 q2 im) w1 := ref.Touch.trans (by repeat' (first | with_reducible exact tR _ _ | with_reducible apply tD | with_reducible apply tN | assumption)) ht'
  have p1 : w1.cell? ⟨b, 33, none⟩ = some (.int .u32 m.pc) := (HHt.out _ t1).cells 33 (by decide) (by decide)
  clear ht'
  refine hK.out _ _ (HSk.out _ (t1.mono (by simp)) p1) (fun hHeld => ?_)
  clear hK K
  try simp only [Act.put, ly1, ly2, ly3]
  refine wpAnyH_ready (rs := [5]) (by kernel_rfl) (by simp) ?_
  refine AllReadyH.cons (o := ⟨some 9, _, _, _, _, _⟩) rfl (fun K hK => ?_) AllReadyH.nil
  rw [if_pos (by rfl)]
  go_simp
  refine (Calls.mono (br_n B b mb m nx vX _ (HHt.out _ (by repeat' (first | with_reducible exact tR _ _ | with_reducible apply tD | with_reducible apply tN | assumption))) op rd q1 q2 im rd0 rd1 q10 q11 q20 q21 i0 i1 HZ.out HF.out ht) ?_)
  rintro e w9 ⟨rfl, ht9⟩
  exact ⟨rfl, rfl, ref.Touch.trans (by repeat' (first | with_reducible exact ref.Touch.refl _ _ | with_reducible apply ref.Touch.drew | with_reducible apply ref.Touch.drewN | with_reducible apply ref.Touch.alloc | assumption | exact ref.Touch.trans ((ref.Touch.refl [] _).alloc _) (by assumption))) ht9⟩
set_option maxHeartbeats 400000 in
theorem branchLess_y (B b mb : Nat) (m : M) (nx : Int) (vX : Nat → Value) (w : World) (h : PAt B b mb m nx vX w) (op rd q1 q2 im : Int) (rd0 : 0 ≤ rd) (rd1 : rd ≤ 31) (q10 : 0 ≤ q1) (q11 : q1 ≤ 31) (q20 : 0 ≤ q2) (q21 : q2 ≤ 31) (i0 : -2147483648 ≤ im) (i1 : im ≤ 2147483647) (hz : 0 < m.size) (hf : Fine m) (hc : decide (wrap32 (m.regs q1.toNat) < wrap32 (m.regs q2.toNat)) = true) (ht : ((m.pc + im) % 4294967296) % 4 = 0) :
    Calls Tryz.prog 109 #[.pointer (some ⟨b, 0, none⟩), .agg #[.int .i64 op, .int .i64 rd, .int .i64 q1, .int .i64 q2, .int .i32 im]] w fun e w' => e = .returned (.tuple #[]) ∧ PAt B b mb m ((m.pc + im) % 4294967296) vX w' ∧ ref.Touch [b, mb] w w' := by
  obtain ⟨lb, HH, HHt, HZ, HF, HSk, cpc, ra0, ra1, rb0, rb1, pc0, pc1, wi⟩ := pre_any B b mb m nx vX w h op rd q1 q2 im hz hf
  obtain ⟨lmb, HSk2⟩ := pre2_any B b mb m nx vX w h op rd q1 q2 im hz
  clear h
  have lm := lmb
  clear hz hf
  go_enter Tryz.func109, Tryz.ntmps109
  go_wp2_with fail
  refine wp_region_held_drew (S := (sbx w b m op rd q1 q2 im)) (by kernel_rfl) (HSk.out _ (ref.Touch.refl _ _).drew cpc) (fun hHeld => ?_)
  refine tk (i := 0) (oi := ⟨some 4, _, _, _, _, _⟩) (v := ?v4x129) rfl (by kernel_rfl) (fun _ _ _ h => h) (by rfl) ?h4x129 (by assumption) ?r4x129
  case h4x129 => intro w' hSw; (try dsimp only [sbx] at hSw); go_simp; try with_reducible rfl
  try simp only [Act.put, ly1, ly2, ly3]
  refine tk (i := 1) (oi := ⟨some 5, _, _, _, _, _⟩) (v := ?v5x130) rfl (by kernel_rfl) (fun _ _ _ h => h) (by rfl) ?h5x130 (by assumption) ?r5x130
  case h5x130 => intro w' hSw; (try dsimp only [sbx] at hSw); go_simp; try with_reducible rfl
  try simp only [Act.put, ly1, ly2, ly3]
  refine tk (i := 2) (oi := ⟨some 6, _, _, _, _, _⟩) (v := ?v6x131) rfl (by kernel_rfl) (fun _ _ _ h => h) (by rfl) ?h6x131 (by assumption) ?r6x131
  case h6x131 => intro w' hSw; (try dsimp only [sbx] at hSw); go_simp; try with_reducible rfl
  try simp only [Act.put, ly1, ly2, ly3]
  refine tk (i := 3) (oi := ⟨some 7, _, _, _, _, _⟩) (v := ?v7x132) rfl (by kernel_rfl) (fun _ _ _ h => h) (by rfl) ?h7x132 (by assumption) ?r7x132
  case h7x132 => intro w' hSw; (try dsimp only [sbx] at hSw); go_simp; try with_reducible rfl
  try simp only [Act.put, ly1, ly2, ly3]
  refine wpAnyH_ready (rs := [4]) (by kernel_rfl) (by simp) ?_
  refine AllReadyH.cons (o := ⟨some 8, _, _, _, _, _⟩) rfl (fun K hK => ?_) AllReadyH.nil
  rw [if_pos (by rfl)]
  go_simp
  refine (Calls.mono (less_any B b mb m nx vX _ (HHt.out _ (by repeat' (first | with_reducible exact tR _ _ | with_reducible apply tD | with_reducible apply tN | assumption))) op rd q1 q2 im rd0 rd1 q10 q11 q20 q21 i0 i1 HZ.out HF.out) ?_)
  rintro e w1 ⟨rfl, ht'⟩
  have t1 : ref.Touch [] (bx w op rd q1 q2 im) w1 := ref.Touch.trans (by repeat' (first | with_reducible exact tR _ _ | with_reducible apply tD | with_reducible apply tN | assumption)) ht'
  have p1 : w1.cell? ⟨b, 33, none⟩ = some (.int .u32 m.pc) := (HHt.out _ t1).cells 33 (by decide) (by decide)
  clear ht'
  refine hK.out _ _ (HSk.out _ (t1.mono (by simp)) p1) (fun hHeld => ?_)
  clear hK K
  try simp only [Act.put, ly1, ly2, ly3]
  refine wpAnyH_ready (rs := [5]) (by kernel_rfl) (by simp) ?_
  refine AllReadyH.cons (o := ⟨some 9, _, _, _, _, _⟩) rfl (fun K hK => ?_) AllReadyH.nil
  rw [if_pos (by rfl)]
  go_simp
  refine (Calls.mono (br_y B b mb m nx vX _ (HHt.out _ (by repeat' (first | with_reducible exact tR _ _ | with_reducible apply tD | with_reducible apply tN | assumption))) op rd q1 q2 im rd0 rd1 q10 q11 q20 q21 i0 i1 HZ.out HF.out ht) ?_)
  rintro e w9 ⟨rfl, hat, hto⟩
  have HA : Hid (PAt B b mb m ((m.pc + im) % 4294967296) vX w9) := hat
  have HT : Hid (ref.Touch [b, mb] (bx w op rd q1 q2 im) w9) := ref.Touch.trans (ref.Touch.mono (S := []) (by repeat' (first | with_reducible exact tR _ _ | with_reducible apply tD | with_reducible apply tN | assumption)) (by simp)) hto
  have t9 : ref.Touch [b, mb] (bx w op rd q1 q2 im) w9 := HT.out
  have p9 : w9.cell? ⟨b, 33, none⟩ = some (.int .u32 m.pc) := hat.cells 33 (by decide) (by decide)
  clear hat hto
  refine hK.out _ _ (HSk2.out _ t9 p9) (fun hHeld => ?_)
  clear hK K
  try simp only [Act.put, ly1, ly2, ly3]
  refine wpAnyH_done (by kernel_rfl) ?_ _
  go_wp2_with fail
  go_end0
  exact ⟨rfl, HA.out, ((ref.Touch.refl _ _).alloc _).trans HT.out⟩
set_option maxHeartbeats 400000 in
theorem branchLess_no (B b mb : Nat) (m : M) (nx : Int) (vX : Nat → Value) (w : World) (h : PAt B b mb m nx vX w) (op rd q1 q2 im : Int) (rd0 : 0 ≤ rd) (rd1 : rd ≤ 31) (q10 : 0 ≤ q1) (q11 : q1 ≤ 31) (q20 : 0 ≤ q2) (q21 : q2 ≤ 31) (i0 : -2147483648 ≤ im) (i1 : im ≤ 2147483647) (hz : 0 < m.size) (hf : Fine m) (hc : decide (wrap32 (m.regs q1.toNat) < wrap32 (m.regs q2.toNat)) = false) :
    Calls Tryz.prog 109 #[.pointer (some ⟨b, 0, none⟩), .agg #[.int .i64 op, .int .i64 rd, .int .i64 q1, .int .i64 q2, .int .i32 im]] w fun e w' => e = .returned (.tuple #[]) ∧ PAt B b mb m nx vX w' ∧ ref.Touch [b, mb] w w' := by
  obtain ⟨lb, HH, HHt, HZ, HF, HSk, cpc, ra0, ra1, rb0, rb1, pc0, pc1, wi⟩ := pre_any B b mb m nx vX w h op rd q1 q2 im hz hf
  obtain ⟨lmb, HSk2⟩ := pre2_any B b mb m nx vX w h op rd q1 q2 im hz
  clear h
  have lm := lmb
  clear hz hf
  go_enter Tryz.func109, Tryz.ntmps109
  go_wp2_with fail
  refine wp_region_held_drew (S := (sbx w b m op rd q1 q2 im)) (by kernel_rfl) (HSk.out _ (ref.Touch.refl _ _).drew cpc) (fun hHeld => ?_)
  refine tk (i := 0) (oi := ⟨some 4, _, _, _, _, _⟩) (v := ?v4x133) rfl (by kernel_rfl) (fun _ _ _ h => h) (by rfl) ?h4x133 (by assumption) ?r4x133
  case h4x133 => intro w' hSw; (try dsimp only [sbx] at hSw); go_simp; try with_reducible rfl
  try simp only [Act.put, ly1, ly2, ly3]
  refine tk (i := 1) (oi := ⟨some 5, _, _, _, _, _⟩) (v := ?v5x134) rfl (by kernel_rfl) (fun _ _ _ h => h) (by rfl) ?h5x134 (by assumption) ?r5x134
  case h5x134 => intro w' hSw; (try dsimp only [sbx] at hSw); go_simp; try with_reducible rfl
  try simp only [Act.put, ly1, ly2, ly3]
  refine tk (i := 2) (oi := ⟨some 6, _, _, _, _, _⟩) (v := ?v6x135) rfl (by kernel_rfl) (fun _ _ _ h => h) (by rfl) ?h6x135 (by assumption) ?r6x135
  case h6x135 => intro w' hSw; (try dsimp only [sbx] at hSw); go_simp; try with_reducible rfl
  try simp only [Act.put, ly1, ly2, ly3]
  refine tk (i := 3) (oi := ⟨some 7, _, _, _, _, _⟩) (v := ?v7x136) rfl (by kernel_rfl) (fun _ _ _ h => h) (by rfl) ?h7x136 (by assumption) ?r7x136
  case h7x136 => intro w' hSw; (try dsimp only [sbx] at hSw); go_simp; try with_reducible rfl
  try simp only [Act.put, ly1, ly2, ly3]
  refine wpAnyH_ready (rs := [4]) (by kernel_rfl) (by simp) ?_
  refine AllReadyH.cons (o := ⟨some 8, _, _, _, _, _⟩) rfl (fun K hK => ?_) AllReadyH.nil
  rw [if_pos (by rfl)]
  go_simp
  refine (Calls.mono (less_any B b mb m nx vX _ (HHt.out _ (by repeat' (first | with_reducible exact tR _ _ | with_reducible apply tD | with_reducible apply tN | assumption))) op rd q1 q2 im rd0 rd1 q10 q11 q20 q21 i0 i1 HZ.out HF.out) ?_)
  rintro e w1 ⟨rfl, ht'⟩
  have t1 : ref.Touch [] (bx w op rd q1 q2 im) w1 := ref.Touch.trans (by repeat' (first | with_reducible exact tR _ _ | with_reducible apply tD | with_reducible apply tN | assumption)) ht'
  have p1 : w1.cell? ⟨b, 33, none⟩ = some (.int .u32 m.pc) := (HHt.out _ t1).cells 33 (by decide) (by decide)
  clear ht'
  refine hK.out _ _ (HSk.out _ (t1.mono (by simp)) p1) (fun hHeld => ?_)
  clear hK K
  try simp only [Act.put, ly1, ly2, ly3]
  refine wpAnyH_ready (rs := [5]) (by kernel_rfl) (by simp) ?_
  refine AllReadyH.cons (o := ⟨some 9, _, _, _, _, _⟩) rfl (fun K hK => ?_) AllReadyH.nil
  rw [if_pos (by rfl)]
  go_simp
  refine (Calls.mono (br_no B b mb m nx vX _ (HHt.out _ (by repeat' (first | with_reducible exact tR _ _ | with_reducible apply tD | with_reducible apply tN | assumption))) op rd q1 q2 im rd0 rd1 q10 q11 q20 q21 i0 i1 HZ.out HF.out) ?_)
  rintro e w9 ⟨rfl, hat, hto⟩
  have HA : Hid (PAt B b mb m nx vX w9) := hat
  have HT : Hid (ref.Touch [b, mb] (bx w op rd q1 q2 im) w9) := ref.Touch.trans (ref.Touch.mono (S := []) (by repeat' (first | with_reducible exact tR _ _ | with_reducible apply tD | with_reducible apply tN | assumption)) (by simp)) hto
  have t9 : ref.Touch [b, mb] (bx w op rd q1 q2 im) w9 := HT.out
  have p9 : w9.cell? ⟨b, 33, none⟩ = some (.int .u32 m.pc) := hat.cells 33 (by decide) (by decide)
  clear hat hto
  refine hK.out _ _ (HSk2.out _ t9 p9) (fun hHeld => ?_)
  clear hK K
  try simp only [Act.put, ly1, ly2, ly3]
  refine wpAnyH_done (by kernel_rfl) ?_ _
  go_wp2_with fail
  go_end0
  exact ⟨rfl, HA.out, ((ref.Touch.refl _ _).alloc _).trans HT.out⟩
set_option maxHeartbeats 400000 in
theorem branchNotLess_n (B b mb : Nat) (m : M) (nx : Int) (vX : Nat → Value) (w : World) (h : PAt B b mb m nx vX w) (op rd q1 q2 im : Int) (rd0 : 0 ≤ rd) (rd1 : rd ≤ 31) (q10 : 0 ≤ q1) (q11 : q1 ≤ 31) (q20 : 0 ≤ q2) (q21 : q2 ≤ 31) (i0 : -2147483648 ≤ im) (i1 : im ≤ 2147483647) (hz : 0 < m.size) (hf : Fine m) (hc : decide (wrap32 (m.regs q1.toNat) < wrap32 (m.regs q2.toNat)) = false) (ht : ¬ ((m.pc + im) % 4294967296) % 4 = 0) :
    Calls Tryz.prog 110 #[.pointer (some ⟨b, 0, none⟩), .agg #[.int .i64 op, .int .i64 rd, .int .i64 q1, .int .i64 q2, .int .i32 im]] w fun e w' => e = .panicked (trapV 3) ∧ ref.Touch [] w w' := by
  obtain ⟨lb, HH, HHt, HZ, HF, HSk, cpc, ra0, ra1, rb0, rb1, pc0, pc1, wi⟩ := pre_any B b mb m nx vX w h op rd q1 q2 im hz hf
  obtain ⟨lmb, HSk2⟩ := pre2_any B b mb m nx vX w h op rd q1 q2 im hz
  clear h
  clear hz hf
  go_enter Tryz.func110, Tryz.ntmps110
  go_wp2_with fail
  refine wp_region_held_drew (S := (sbx w b m op rd q1 q2 im)) (by kernel_rfl) (HSk.out _ (ref.Touch.refl _ _).drew cpc) (fun hHeld => ?_)
  refine tk (i := 0) (oi := ⟨some 4, _, _, _, _, _⟩) (v := ?v4x137) rfl (by kernel_rfl) (fun _ _ _ h => h) (by rfl) ?h4x137 (by assumption) ?r4x137
  case h4x137 => intro w' hSw; (try dsimp only [sbx] at hSw); go_simp; try with_reducible rfl
  try simp only [Act.put, ly1, ly2, ly3]
  refine tk (i := 1) (oi := ⟨some 5, _, _, _, _, _⟩) (v := ?v5x138) rfl (by kernel_rfl) (fun _ _ _ h => h) (by rfl) ?h5x138 (by assumption) ?r5x138
  case h5x138 => intro w' hSw; (try dsimp only [sbx] at hSw); go_simp; try with_reducible rfl
  try simp only [Act.put, ly1, ly2, ly3]
  refine tk (i := 2) (oi := ⟨some 6, _, _, _, _, _⟩) (v := ?v6x139) rfl (by kernel_rfl) (fun _ _ _ h => h) (by rfl) ?h6x139 (by assumption) ?r6x139
  case h6x139 => intro w' hSw; (try dsimp only [sbx] at hSw); go_simp; try with_reducible rfl
  try simp only [Act.put, ly1, ly2, ly3]
  refine tk (i := 3) (oi := ⟨some 7, _, _, _, _, _⟩) (v := ?v7x140) rfl (by kernel_rfl) (fun _ _ _ h => h) (by rfl) ?h7x140 (by assumption) ?r7x140
  case h7x140 => intro w' hSw; (try dsimp only [sbx] at hSw); go_simp; try with_reducible rfl
  try simp only [Act.put, ly1, ly2, ly3]
  refine wpAnyH_ready (rs := [4]) (by kernel_rfl) (by simp) ?_
  refine AllReadyH.cons (o := ⟨some 8, _, _, _, _, _⟩) rfl (fun K hK => ?_) AllReadyH.nil
  rw [if_pos (by rfl)]
  go_simp
  refine (Calls.mono (less_any B b mb m nx vX _ (HHt.out _ (by repeat' (first | with_reducible exact tR _ _ | with_reducible apply tD | with_reducible apply tN | assumption))) op rd q1 q2 im rd0 rd1 q10 q11 q20 q21 i0 i1 HZ.out HF.out) ?_)
  rintro e w1 ⟨rfl, ht'⟩
  have t1 : ref.Touch [] (bx w op rd q1 q2 im) w1 := ref.Touch.trans (by repeat' (first | with_reducible exact tR _ _ | with_reducible apply tD | with_reducible apply tN | assumption)) ht'
  have p1 : w1.cell? ⟨b, 33, none⟩ = some (.int .u32 m.pc) := (HHt.out _ t1).cells 33 (by decide) (by decide)
  clear ht'
  refine hK.out _ _ (HSk.out _ (t1.mono (by simp)) p1) (fun hHeld => ?_)
  clear hK K
  try simp only [Act.put, ly1, ly2, ly3]
  refine tk (i := 5) (oi := ⟨some 9, _, _, _, _, _⟩) (v := ?v9x141) rfl (by kernel_rfl) (fun _ _ _ h => h) (by rfl) ?h9x141 (by assumption) ?r9x141
  case h9x141 => intro w' hSw; (try dsimp only [sbx] at hSw); go_simp; try with_reducible rfl
  try simp only [Act.put, ly1, ly2, ly3]
  refine wpAnyH_ready (rs := [6]) (by kernel_rfl) (by simp) ?_
  refine AllReadyH.cons (o := ⟨some 10, _, _, _, _, _⟩) rfl (fun K hK => ?_) AllReadyH.nil
  rw [if_pos (by rfl)]
  go_simp
  refine (Calls.mono (br_n B b mb m nx vX _ (HHt.out _ (by repeat' (first | with_reducible exact tR _ _ | with_reducible apply tD | with_reducible apply tN | assumption))) op rd q1 q2 im rd0 rd1 q10 q11 q20 q21 i0 i1 HZ.out HF.out ht) ?_)
  rintro e w9 ⟨rfl, ht9⟩
  exact ⟨rfl, rfl, ref.Touch.trans (by repeat' (first | with_reducible exact ref.Touch.refl _ _ | with_reducible apply ref.Touch.drew | with_reducible apply ref.Touch.drewN | with_reducible apply ref.Touch.alloc | assumption | exact ref.Touch.trans ((ref.Touch.refl [] _).alloc _) (by assumption))) ht9⟩
set_option maxHeartbeats 400000 in
theorem branchNotLess_y (B b mb : Nat) (m : M) (nx : Int) (vX : Nat → Value) (w : World) (h : PAt B b mb m nx vX w) (op rd q1 q2 im : Int) (rd0 : 0 ≤ rd) (rd1 : rd ≤ 31) (q10 : 0 ≤ q1) (q11 : q1 ≤ 31) (q20 : 0 ≤ q2) (q21 : q2 ≤ 31) (i0 : -2147483648 ≤ im) (i1 : im ≤ 2147483647) (hz : 0 < m.size) (hf : Fine m) (hc : decide (wrap32 (m.regs q1.toNat) < wrap32 (m.regs q2.toNat)) = false) (ht : ((m.pc + im) % 4294967296) % 4 = 0) :
    Calls Tryz.prog 110 #[.pointer (some ⟨b, 0, none⟩), .agg #[.int .i64 op, .int .i64 rd, .int .i64 q1, .int .i64 q2, .int .i32 im]] w fun e w' => e = .returned (.tuple #[]) ∧ PAt B b mb m ((m.pc + im) % 4294967296) vX w' ∧ ref.Touch [b, mb] w w' := by
  obtain ⟨lb, HH, HHt, HZ, HF, HSk, cpc, ra0, ra1, rb0, rb1, pc0, pc1, wi⟩ := pre_any B b mb m nx vX w h op rd q1 q2 im hz hf
  obtain ⟨lmb, HSk2⟩ := pre2_any B b mb m nx vX w h op rd q1 q2 im hz
  clear h
  have lm := lmb
  clear hz hf
  go_enter Tryz.func110, Tryz.ntmps110
  go_wp2_with fail
  refine wp_region_held_drew (S := (sbx w b m op rd q1 q2 im)) (by kernel_rfl) (HSk.out _ (ref.Touch.refl _ _).drew cpc) (fun hHeld => ?_)
  refine tk (i := 0) (oi := ⟨some 4, _, _, _, _, _⟩) (v := ?v4x142) rfl (by kernel_rfl) (fun _ _ _ h => h) (by rfl) ?h4x142 (by assumption) ?r4x142
  case h4x142 => intro w' hSw; (try dsimp only [sbx] at hSw); go_simp; try with_reducible rfl
  try simp only [Act.put, ly1, ly2, ly3]
  refine tk (i := 1) (oi := ⟨some 5, _, _, _, _, _⟩) (v := ?v5x143) rfl (by kernel_rfl) (fun _ _ _ h => h) (by rfl) ?h5x143 (by assumption) ?r5x143
  case h5x143 => intro w' hSw; (try dsimp only [sbx] at hSw); go_simp; try with_reducible rfl
  try simp only [Act.put, ly1, ly2, ly3]
  refine tk (i := 2) (oi := ⟨some 6, _, _, _, _, _⟩) (v := ?v6x144) rfl (by kernel_rfl) (fun _ _ _ h => h) (by rfl) ?h6x144 (by assumption) ?r6x144
  case h6x144 => intro w' hSw; (try dsimp only [sbx] at hSw); go_simp; try with_reducible rfl
  try simp only [Act.put, ly1, ly2, ly3]
  refine tk (i := 3) (oi := ⟨some 7, _, _, _, _, _⟩) (v := ?v7x145) rfl (by kernel_rfl) (fun _ _ _ h => h) (by rfl) ?h7x145 (by assumption) ?r7x145
  case h7x145 => intro w' hSw; (try dsimp only [sbx] at hSw); go_simp; try with_reducible rfl
  try simp only [Act.put, ly1, ly2, ly3]
  refine wpAnyH_ready (rs := [4]) (by kernel_rfl) (by simp) ?_
  refine AllReadyH.cons (o := ⟨some 8, _, _, _, _, _⟩) rfl (fun K hK => ?_) AllReadyH.nil
  rw [if_pos (by rfl)]
  go_simp
  refine (Calls.mono (less_any B b mb m nx vX _ (HHt.out _ (by repeat' (first | with_reducible exact tR _ _ | with_reducible apply tD | with_reducible apply tN | assumption))) op rd q1 q2 im rd0 rd1 q10 q11 q20 q21 i0 i1 HZ.out HF.out) ?_)
  rintro e w1 ⟨rfl, ht'⟩
  have t1 : ref.Touch [] (bx w op rd q1 q2 im) w1 := ref.Touch.trans (by repeat' (first | with_reducible exact tR _ _ | with_reducible apply tD | with_reducible apply tN | assumption)) ht'
  have p1 : w1.cell? ⟨b, 33, none⟩ = some (.int .u32 m.pc) := (HHt.out _ t1).cells 33 (by decide) (by decide)
  clear ht'
  refine hK.out _ _ (HSk.out _ (t1.mono (by simp)) p1) (fun hHeld => ?_)
  clear hK K
  try simp only [Act.put, ly1, ly2, ly3]
  refine tk (i := 5) (oi := ⟨some 9, _, _, _, _, _⟩) (v := ?v9x146) rfl (by kernel_rfl) (fun _ _ _ h => h) (by rfl) ?h9x146 (by assumption) ?r9x146
  case h9x146 => intro w' hSw; (try dsimp only [sbx] at hSw); go_simp; try with_reducible rfl
  try simp only [Act.put, ly1, ly2, ly3]
  refine wpAnyH_ready (rs := [6]) (by kernel_rfl) (by simp) ?_
  refine AllReadyH.cons (o := ⟨some 10, _, _, _, _, _⟩) rfl (fun K hK => ?_) AllReadyH.nil
  rw [if_pos (by rfl)]
  go_simp
  refine (Calls.mono (br_y B b mb m nx vX _ (HHt.out _ (by repeat' (first | with_reducible exact tR _ _ | with_reducible apply tD | with_reducible apply tN | assumption))) op rd q1 q2 im rd0 rd1 q10 q11 q20 q21 i0 i1 HZ.out HF.out ht) ?_)
  rintro e w9 ⟨rfl, hat, hto⟩
  have HA : Hid (PAt B b mb m ((m.pc + im) % 4294967296) vX w9) := hat
  have HT : Hid (ref.Touch [b, mb] (bx w op rd q1 q2 im) w9) := ref.Touch.trans (ref.Touch.mono (S := []) (by repeat' (first | with_reducible exact tR _ _ | with_reducible apply tD | with_reducible apply tN | assumption)) (by simp)) hto
  have t9 : ref.Touch [b, mb] (bx w op rd q1 q2 im) w9 := HT.out
  have p9 : w9.cell? ⟨b, 33, none⟩ = some (.int .u32 m.pc) := hat.cells 33 (by decide) (by decide)
  clear hat hto
  refine hK.out _ _ (HSk2.out _ t9 p9) (fun hHeld => ?_)
  clear hK K
  try simp only [Act.put, ly1, ly2, ly3]
  refine wpAnyH_done (by kernel_rfl) ?_ _
  go_wp2_with fail
  go_end0
  exact ⟨rfl, HA.out, ((ref.Touch.refl _ _).alloc _).trans HT.out⟩
set_option maxHeartbeats 400000 in
theorem branchNotLess_no (B b mb : Nat) (m : M) (nx : Int) (vX : Nat → Value) (w : World) (h : PAt B b mb m nx vX w) (op rd q1 q2 im : Int) (rd0 : 0 ≤ rd) (rd1 : rd ≤ 31) (q10 : 0 ≤ q1) (q11 : q1 ≤ 31) (q20 : 0 ≤ q2) (q21 : q2 ≤ 31) (i0 : -2147483648 ≤ im) (i1 : im ≤ 2147483647) (hz : 0 < m.size) (hf : Fine m) (hc : decide (wrap32 (m.regs q1.toNat) < wrap32 (m.regs q2.toNat)) = true) :
    Calls Tryz.prog 110 #[.pointer (some ⟨b, 0, none⟩), .agg #[.int .i64 op, .int .i64 rd, .int .i64 q1, .int .i64 q2, .int .i32 im]] w fun e w' => e = .returned (.tuple #[]) ∧ PAt B b mb m nx vX w' ∧ ref.Touch [b, mb] w w' := by
  obtain ⟨lb, HH, HHt, HZ, HF, HSk, cpc, ra0, ra1, rb0, rb1, pc0, pc1, wi⟩ := pre_any B b mb m nx vX w h op rd q1 q2 im hz hf
  obtain ⟨lmb, HSk2⟩ := pre2_any B b mb m nx vX w h op rd q1 q2 im hz
  clear h
  have lm := lmb
  clear hz hf
  go_enter Tryz.func110, Tryz.ntmps110
  go_wp2_with fail
  refine wp_region_held_drew (S := (sbx w b m op rd q1 q2 im)) (by kernel_rfl) (HSk.out _ (ref.Touch.refl _ _).drew cpc) (fun hHeld => ?_)
  refine tk (i := 0) (oi := ⟨some 4, _, _, _, _, _⟩) (v := ?v4x147) rfl (by kernel_rfl) (fun _ _ _ h => h) (by rfl) ?h4x147 (by assumption) ?r4x147
  case h4x147 => intro w' hSw; (try dsimp only [sbx] at hSw); go_simp; try with_reducible rfl
  try simp only [Act.put, ly1, ly2, ly3]
  refine tk (i := 1) (oi := ⟨some 5, _, _, _, _, _⟩) (v := ?v5x148) rfl (by kernel_rfl) (fun _ _ _ h => h) (by rfl) ?h5x148 (by assumption) ?r5x148
  case h5x148 => intro w' hSw; (try dsimp only [sbx] at hSw); go_simp; try with_reducible rfl
  try simp only [Act.put, ly1, ly2, ly3]
  refine tk (i := 2) (oi := ⟨some 6, _, _, _, _, _⟩) (v := ?v6x149) rfl (by kernel_rfl) (fun _ _ _ h => h) (by rfl) ?h6x149 (by assumption) ?r6x149
  case h6x149 => intro w' hSw; (try dsimp only [sbx] at hSw); go_simp; try with_reducible rfl
  try simp only [Act.put, ly1, ly2, ly3]
  refine tk (i := 3) (oi := ⟨some 7, _, _, _, _, _⟩) (v := ?v7x150) rfl (by kernel_rfl) (fun _ _ _ h => h) (by rfl) ?h7x150 (by assumption) ?r7x150
  case h7x150 => intro w' hSw; (try dsimp only [sbx] at hSw); go_simp; try with_reducible rfl
  try simp only [Act.put, ly1, ly2, ly3]
  refine wpAnyH_ready (rs := [4]) (by kernel_rfl) (by simp) ?_
  refine AllReadyH.cons (o := ⟨some 8, _, _, _, _, _⟩) rfl (fun K hK => ?_) AllReadyH.nil
  rw [if_pos (by rfl)]
  go_simp
  refine (Calls.mono (less_any B b mb m nx vX _ (HHt.out _ (by repeat' (first | with_reducible exact tR _ _ | with_reducible apply tD | with_reducible apply tN | assumption))) op rd q1 q2 im rd0 rd1 q10 q11 q20 q21 i0 i1 HZ.out HF.out) ?_)
  rintro e w1 ⟨rfl, ht'⟩
  have t1 : ref.Touch [] (bx w op rd q1 q2 im) w1 := ref.Touch.trans (by repeat' (first | with_reducible exact tR _ _ | with_reducible apply tD | with_reducible apply tN | assumption)) ht'
  have p1 : w1.cell? ⟨b, 33, none⟩ = some (.int .u32 m.pc) := (HHt.out _ t1).cells 33 (by decide) (by decide)
  clear ht'
  refine hK.out _ _ (HSk.out _ (t1.mono (by simp)) p1) (fun hHeld => ?_)
  clear hK K
  try simp only [Act.put, ly1, ly2, ly3]
  refine tk (i := 5) (oi := ⟨some 9, _, _, _, _, _⟩) (v := ?v9x151) rfl (by kernel_rfl) (fun _ _ _ h => h) (by rfl) ?h9x151 (by assumption) ?r9x151
  case h9x151 => intro w' hSw; (try dsimp only [sbx] at hSw); go_simp; try with_reducible rfl
  try simp only [Act.put, ly1, ly2, ly3]
  refine wpAnyH_ready (rs := [6]) (by kernel_rfl) (by simp) ?_
  refine AllReadyH.cons (o := ⟨some 10, _, _, _, _, _⟩) rfl (fun K hK => ?_) AllReadyH.nil
  rw [if_pos (by rfl)]
  go_simp
  refine (Calls.mono (br_no B b mb m nx vX _ (HHt.out _ (by repeat' (first | with_reducible exact tR _ _ | with_reducible apply tD | with_reducible apply tN | assumption))) op rd q1 q2 im rd0 rd1 q10 q11 q20 q21 i0 i1 HZ.out HF.out) ?_)
  rintro e w9 ⟨rfl, hat, hto⟩
  have HA : Hid (PAt B b mb m nx vX w9) := hat
  have HT : Hid (ref.Touch [b, mb] (bx w op rd q1 q2 im) w9) := ref.Touch.trans (ref.Touch.mono (S := []) (by repeat' (first | with_reducible exact tR _ _ | with_reducible apply tD | with_reducible apply tN | assumption)) (by simp)) hto
  have t9 : ref.Touch [b, mb] (bx w op rd q1 q2 im) w9 := HT.out
  have p9 : w9.cell? ⟨b, 33, none⟩ = some (.int .u32 m.pc) := hat.cells 33 (by decide) (by decide)
  clear hat hto
  refine hK.out _ _ (HSk2.out _ t9 p9) (fun hHeld => ?_)
  clear hK K
  try simp only [Act.put, ly1, ly2, ly3]
  refine wpAnyH_done (by kernel_rfl) ?_ _
  go_wp2_with fail
  go_end0
  exact ⟨rfl, HA.out, ((ref.Touch.refl _ _).alloc _).trans HT.out⟩
set_option maxHeartbeats 400000 in
theorem branchLessUnsigned_n (B b mb : Nat) (m : M) (nx : Int) (vX : Nat → Value) (w : World) (h : PAt B b mb m nx vX w) (op rd q1 q2 im : Int) (rd0 : 0 ≤ rd) (rd1 : rd ≤ 31) (q10 : 0 ≤ q1) (q11 : q1 ≤ 31) (q20 : 0 ≤ q2) (q21 : q2 ≤ 31) (i0 : -2147483648 ≤ im) (i1 : im ≤ 2147483647) (hz : 0 < m.size) (hf : Fine m) (hc : decide (m.regs q1.toNat < m.regs q2.toNat) = true) (ht : ¬ ((m.pc + im) % 4294967296) % 4 = 0) :
    Calls Tryz.prog 111 #[.pointer (some ⟨b, 0, none⟩), .agg #[.int .i64 op, .int .i64 rd, .int .i64 q1, .int .i64 q2, .int .i32 im]] w fun e w' => e = .panicked (trapV 3) ∧ ref.Touch [] w w' := by
  obtain ⟨lb, HH, HHt, HZ, HF, HSk, cpc, ra0, ra1, rb0, rb1, pc0, pc1, wi⟩ := pre_any B b mb m nx vX w h op rd q1 q2 im hz hf
  obtain ⟨lmb, HSk2⟩ := pre2_any B b mb m nx vX w h op rd q1 q2 im hz
  clear h
  clear hz hf
  go_enter Tryz.func111, Tryz.ntmps111
  go_wp2_with fail
  refine wp_region_held_drew (S := (sbx w b m op rd q1 q2 im)) (by kernel_rfl) (HSk.out _ (ref.Touch.refl _ _).drew cpc) (fun hHeld => ?_)
  refine tk (i := 0) (oi := ⟨some 4, _, _, _, _, _⟩) (v := ?v4x152) rfl (by kernel_rfl) (fun _ _ _ h => h) (by rfl) ?h4x152 (by assumption) ?r4x152
  case h4x152 => intro w' hSw; (try dsimp only [sbx] at hSw); go_simp; try with_reducible rfl
  try simp only [Act.put, ly1, ly2, ly3]
  refine tk (i := 1) (oi := ⟨some 5, _, _, _, _, _⟩) (v := ?v5x153) rfl (by kernel_rfl) (fun _ _ _ h => h) (by rfl) ?h5x153 (by assumption) ?r5x153
  case h5x153 => intro w' hSw; (try dsimp only [sbx] at hSw); go_simp; try with_reducible rfl
  try simp only [Act.put, ly1, ly2, ly3]
  refine tk (i := 2) (oi := ⟨some 6, _, _, _, _, _⟩) (v := ?v6x154) rfl (by kernel_rfl) (fun _ _ _ h => h) (by rfl) ?h6x154 (by assumption) ?r6x154
  case h6x154 => intro w' hSw; (try dsimp only [sbx] at hSw); go_simp; try with_reducible rfl
  try simp only [Act.put, ly1, ly2, ly3]
  refine tk (i := 3) (oi := ⟨some 7, _, _, _, _, _⟩) (v := ?v7x155) rfl (by kernel_rfl) (fun _ _ _ h => h) (by rfl) ?h7x155 (by assumption) ?r7x155
  case h7x155 => intro w' hSw; (try dsimp only [sbx] at hSw); go_simp; try with_reducible rfl
  try simp only [Act.put, ly1, ly2, ly3]
  refine wpAnyH_ready (rs := [4]) (by kernel_rfl) (by simp) ?_
  refine AllReadyH.cons (o := ⟨some 8, _, _, _, _, _⟩) rfl (fun K hK => ?_) AllReadyH.nil
  rw [if_pos (by rfl)]
  go_simp
  refine (Calls.mono (lessUnsigned_any B b mb m nx vX _ (HHt.out _ (by repeat' (first | with_reducible exact tR _ _ | with_reducible apply tD | with_reducible apply tN | assumption))) op rd q1 q2 im rd0 rd1 q10 q11 q20 q21 i0 i1 HZ.out HF.out) ?_)
  rintro e w1 ⟨rfl, ht'⟩
  have t1 : ref.Touch [] (bx w op rd q1 q2 im) w1 := ref.Touch.trans (by repeat' (first | with_reducible exact tR _ _ | with_reducible apply tD | with_reducible apply tN | assumption)) ht'
  have p1 : w1.cell? ⟨b, 33, none⟩ = some (.int .u32 m.pc) := (HHt.out _ t1).cells 33 (by decide) (by decide)
  clear ht'
  refine hK.out _ _ (HSk.out _ (t1.mono (by simp)) p1) (fun hHeld => ?_)
  clear hK K
  try simp only [Act.put, ly1, ly2, ly3]
  refine wpAnyH_ready (rs := [5]) (by kernel_rfl) (by simp) ?_
  refine AllReadyH.cons (o := ⟨some 9, _, _, _, _, _⟩) rfl (fun K hK => ?_) AllReadyH.nil
  rw [if_pos (by rfl)]
  go_simp
  refine (Calls.mono (br_n B b mb m nx vX _ (HHt.out _ (by repeat' (first | with_reducible exact tR _ _ | with_reducible apply tD | with_reducible apply tN | assumption))) op rd q1 q2 im rd0 rd1 q10 q11 q20 q21 i0 i1 HZ.out HF.out ht) ?_)
  rintro e w9 ⟨rfl, ht9⟩
  exact ⟨rfl, rfl, ref.Touch.trans (by repeat' (first | with_reducible exact ref.Touch.refl _ _ | with_reducible apply ref.Touch.drew | with_reducible apply ref.Touch.drewN | with_reducible apply ref.Touch.alloc | assumption | exact ref.Touch.trans ((ref.Touch.refl [] _).alloc _) (by assumption))) ht9⟩
set_option maxHeartbeats 400000 in
theorem branchLessUnsigned_y (B b mb : Nat) (m : M) (nx : Int) (vX : Nat → Value) (w : World) (h : PAt B b mb m nx vX w) (op rd q1 q2 im : Int) (rd0 : 0 ≤ rd) (rd1 : rd ≤ 31) (q10 : 0 ≤ q1) (q11 : q1 ≤ 31) (q20 : 0 ≤ q2) (q21 : q2 ≤ 31) (i0 : -2147483648 ≤ im) (i1 : im ≤ 2147483647) (hz : 0 < m.size) (hf : Fine m) (hc : decide (m.regs q1.toNat < m.regs q2.toNat) = true) (ht : ((m.pc + im) % 4294967296) % 4 = 0) :
    Calls Tryz.prog 111 #[.pointer (some ⟨b, 0, none⟩), .agg #[.int .i64 op, .int .i64 rd, .int .i64 q1, .int .i64 q2, .int .i32 im]] w fun e w' => e = .returned (.tuple #[]) ∧ PAt B b mb m ((m.pc + im) % 4294967296) vX w' ∧ ref.Touch [b, mb] w w' := by
  obtain ⟨lb, HH, HHt, HZ, HF, HSk, cpc, ra0, ra1, rb0, rb1, pc0, pc1, wi⟩ := pre_any B b mb m nx vX w h op rd q1 q2 im hz hf
  obtain ⟨lmb, HSk2⟩ := pre2_any B b mb m nx vX w h op rd q1 q2 im hz
  clear h
  have lm := lmb
  clear hz hf
  go_enter Tryz.func111, Tryz.ntmps111
  go_wp2_with fail
  refine wp_region_held_drew (S := (sbx w b m op rd q1 q2 im)) (by kernel_rfl) (HSk.out _ (ref.Touch.refl _ _).drew cpc) (fun hHeld => ?_)
  refine tk (i := 0) (oi := ⟨some 4, _, _, _, _, _⟩) (v := ?v4x156) rfl (by kernel_rfl) (fun _ _ _ h => h) (by rfl) ?h4x156 (by assumption) ?r4x156
  case h4x156 => intro w' hSw; (try dsimp only [sbx] at hSw); go_simp; try with_reducible rfl
  try simp only [Act.put, ly1, ly2, ly3]
  refine tk (i := 1) (oi := ⟨some 5, _, _, _, _, _⟩) (v := ?v5x157) rfl (by kernel_rfl) (fun _ _ _ h => h) (by rfl) ?h5x157 (by assumption) ?r5x157
  case h5x157 => intro w' hSw; (try dsimp only [sbx] at hSw); go_simp; try with_reducible rfl
  try simp only [Act.put, ly1, ly2, ly3]
  refine tk (i := 2) (oi := ⟨some 6, _, _, _, _, _⟩) (v := ?v6x158) rfl (by kernel_rfl) (fun _ _ _ h => h) (by rfl) ?h6x158 (by assumption) ?r6x158
  case h6x158 => intro w' hSw; (try dsimp only [sbx] at hSw); go_simp; try with_reducible rfl
  try simp only [Act.put, ly1, ly2, ly3]
  refine tk (i := 3) (oi := ⟨some 7, _, _, _, _, _⟩) (v := ?v7x159) rfl (by kernel_rfl) (fun _ _ _ h => h) (by rfl) ?h7x159 (by assumption) ?r7x159
  case h7x159 => intro w' hSw; (try dsimp only [sbx] at hSw); go_simp; try with_reducible rfl
  try simp only [Act.put, ly1, ly2, ly3]
  refine wpAnyH_ready (rs := [4]) (by kernel_rfl) (by simp) ?_
  refine AllReadyH.cons (o := ⟨some 8, _, _, _, _, _⟩) rfl (fun K hK => ?_) AllReadyH.nil
  rw [if_pos (by rfl)]
  go_simp
  refine (Calls.mono (lessUnsigned_any B b mb m nx vX _ (HHt.out _ (by repeat' (first | with_reducible exact tR _ _ | with_reducible apply tD | with_reducible apply tN | assumption))) op rd q1 q2 im rd0 rd1 q10 q11 q20 q21 i0 i1 HZ.out HF.out) ?_)
  rintro e w1 ⟨rfl, ht'⟩
  have t1 : ref.Touch [] (bx w op rd q1 q2 im) w1 := ref.Touch.trans (by repeat' (first | with_reducible exact tR _ _ | with_reducible apply tD | with_reducible apply tN | assumption)) ht'
  have p1 : w1.cell? ⟨b, 33, none⟩ = some (.int .u32 m.pc) := (HHt.out _ t1).cells 33 (by decide) (by decide)
  clear ht'
  refine hK.out _ _ (HSk.out _ (t1.mono (by simp)) p1) (fun hHeld => ?_)
  clear hK K
  try simp only [Act.put, ly1, ly2, ly3]
  refine wpAnyH_ready (rs := [5]) (by kernel_rfl) (by simp) ?_
  refine AllReadyH.cons (o := ⟨some 9, _, _, _, _, _⟩) rfl (fun K hK => ?_) AllReadyH.nil
  rw [if_pos (by rfl)]
  go_simp
  refine (Calls.mono (br_y B b mb m nx vX _ (HHt.out _ (by repeat' (first | with_reducible exact tR _ _ | with_reducible apply tD | with_reducible apply tN | assumption))) op rd q1 q2 im rd0 rd1 q10 q11 q20 q21 i0 i1 HZ.out HF.out ht) ?_)
  rintro e w9 ⟨rfl, hat, hto⟩
  have HA : Hid (PAt B b mb m ((m.pc + im) % 4294967296) vX w9) := hat
  have HT : Hid (ref.Touch [b, mb] (bx w op rd q1 q2 im) w9) := ref.Touch.trans (ref.Touch.mono (S := []) (by repeat' (first | with_reducible exact tR _ _ | with_reducible apply tD | with_reducible apply tN | assumption)) (by simp)) hto
  have t9 : ref.Touch [b, mb] (bx w op rd q1 q2 im) w9 := HT.out
  have p9 : w9.cell? ⟨b, 33, none⟩ = some (.int .u32 m.pc) := hat.cells 33 (by decide) (by decide)
  clear hat hto
  refine hK.out _ _ (HSk2.out _ t9 p9) (fun hHeld => ?_)
  clear hK K
  try simp only [Act.put, ly1, ly2, ly3]
  refine wpAnyH_done (by kernel_rfl) ?_ _
  go_wp2_with fail
  go_end0
  exact ⟨rfl, HA.out, ((ref.Touch.refl _ _).alloc _).trans HT.out⟩
set_option maxHeartbeats 400000 in
theorem branchLessUnsigned_no (B b mb : Nat) (m : M) (nx : Int) (vX : Nat → Value) (w : World) (h : PAt B b mb m nx vX w) (op rd q1 q2 im : Int) (rd0 : 0 ≤ rd) (rd1 : rd ≤ 31) (q10 : 0 ≤ q1) (q11 : q1 ≤ 31) (q20 : 0 ≤ q2) (q21 : q2 ≤ 31) (i0 : -2147483648 ≤ im) (i1 : im ≤ 2147483647) (hz : 0 < m.size) (hf : Fine m) (hc : decide (m.regs q1.toNat < m.regs q2.toNat) = false) :
    Calls Tryz.prog 111 #[.pointer (some ⟨b, 0, none⟩), .agg #[.int .i64 op, .int .i64 rd, .int .i64 q1, .int .i64 q2, .int .i32 im]] w fun e w' => e = .returned (.tuple #[]) ∧ PAt B b mb m nx vX w' ∧ ref.Touch [b, mb] w w' := by
  obtain ⟨lb, HH, HHt, HZ, HF, HSk, cpc, ra0, ra1, rb0, rb1, pc0, pc1, wi⟩ := pre_any B b mb m nx vX w h op rd q1 q2 im hz hf
  obtain ⟨lmb, HSk2⟩ := pre2_any B b mb m nx vX w h op rd q1 q2 im hz
  clear h
  have lm := lmb
  clear hz hf
  go_enter Tryz.func111, Tryz.ntmps111
  go_wp2_with fail
  refine wp_region_held_drew (S := (sbx w b m op rd q1 q2 im)) (by kernel_rfl) (HSk.out _ (ref.Touch.refl _ _).drew cpc) (fun hHeld => ?_)
  refine tk (i := 0) (oi := ⟨some 4, _, _, _, _, _⟩) (v := ?v4x160) rfl (by kernel_rfl) (fun _ _ _ h => h) (by rfl) ?h4x160 (by assumption) ?r4x160
  case h4x160 => intro w' hSw; (try dsimp only [sbx] at hSw); go_simp; try with_reducible rfl
  try simp only [Act.put, ly1, ly2, ly3]
  refine tk (i := 1) (oi := ⟨some 5, _, _, _, _, _⟩) (v := ?v5x161) rfl (by kernel_rfl) (fun _ _ _ h => h) (by rfl) ?h5x161 (by assumption) ?r5x161
  case h5x161 => intro w' hSw; (try dsimp only [sbx] at hSw); go_simp; try with_reducible rfl
  try simp only [Act.put, ly1, ly2, ly3]
  refine tk (i := 2) (oi := ⟨some 6, _, _, _, _, _⟩) (v := ?v6x162) rfl (by kernel_rfl) (fun _ _ _ h => h) (by rfl) ?h6x162 (by assumption) ?r6x162
  case h6x162 => intro w' hSw; (try dsimp only [sbx] at hSw); go_simp; try with_reducible rfl
  try simp only [Act.put, ly1, ly2, ly3]
  refine tk (i := 3) (oi := ⟨some 7, _, _, _, _, _⟩) (v := ?v7x163) rfl (by kernel_rfl) (fun _ _ _ h => h) (by rfl) ?h7x163 (by assumption) ?r7x163
  case h7x163 => intro w' hSw; (try dsimp only [sbx] at hSw); go_simp; try with_reducible rfl
  try simp only [Act.put, ly1, ly2, ly3]
  refine wpAnyH_ready (rs := [4]) (by kernel_rfl) (by simp) ?_
  refine AllReadyH.cons (o := ⟨some 8, _, _, _, _, _⟩) rfl (fun K hK => ?_) AllReadyH.nil
  rw [if_pos (by rfl)]
  go_simp
  refine (Calls.mono (lessUnsigned_any B b mb m nx vX _ (HHt.out _ (by repeat' (first | with_reducible exact tR _ _ | with_reducible apply tD | with_reducible apply tN | assumption))) op rd q1 q2 im rd0 rd1 q10 q11 q20 q21 i0 i1 HZ.out HF.out) ?_)
  rintro e w1 ⟨rfl, ht'⟩
  have t1 : ref.Touch [] (bx w op rd q1 q2 im) w1 := ref.Touch.trans (by repeat' (first | with_reducible exact tR _ _ | with_reducible apply tD | with_reducible apply tN | assumption)) ht'
  have p1 : w1.cell? ⟨b, 33, none⟩ = some (.int .u32 m.pc) := (HHt.out _ t1).cells 33 (by decide) (by decide)
  clear ht'
  refine hK.out _ _ (HSk.out _ (t1.mono (by simp)) p1) (fun hHeld => ?_)
  clear hK K
  try simp only [Act.put, ly1, ly2, ly3]
  refine wpAnyH_ready (rs := [5]) (by kernel_rfl) (by simp) ?_
  refine AllReadyH.cons (o := ⟨some 9, _, _, _, _, _⟩) rfl (fun K hK => ?_) AllReadyH.nil
  rw [if_pos (by rfl)]
  go_simp
  refine (Calls.mono (br_no B b mb m nx vX _ (HHt.out _ (by repeat' (first | with_reducible exact tR _ _ | with_reducible apply tD | with_reducible apply tN | assumption))) op rd q1 q2 im rd0 rd1 q10 q11 q20 q21 i0 i1 HZ.out HF.out) ?_)
  rintro e w9 ⟨rfl, hat, hto⟩
  have HA : Hid (PAt B b mb m nx vX w9) := hat
  have HT : Hid (ref.Touch [b, mb] (bx w op rd q1 q2 im) w9) := ref.Touch.trans (ref.Touch.mono (S := []) (by repeat' (first | with_reducible exact tR _ _ | with_reducible apply tD | with_reducible apply tN | assumption)) (by simp)) hto
  have t9 : ref.Touch [b, mb] (bx w op rd q1 q2 im) w9 := HT.out
  have p9 : w9.cell? ⟨b, 33, none⟩ = some (.int .u32 m.pc) := hat.cells 33 (by decide) (by decide)
  clear hat hto
  refine hK.out _ _ (HSk2.out _ t9 p9) (fun hHeld => ?_)
  clear hK K
  try simp only [Act.put, ly1, ly2, ly3]
  refine wpAnyH_done (by kernel_rfl) ?_ _
  go_wp2_with fail
  go_end0
  exact ⟨rfl, HA.out, ((ref.Touch.refl _ _).alloc _).trans HT.out⟩
set_option maxHeartbeats 400000 in
theorem branchNotLessUnsigned_n (B b mb : Nat) (m : M) (nx : Int) (vX : Nat → Value) (w : World) (h : PAt B b mb m nx vX w) (op rd q1 q2 im : Int) (rd0 : 0 ≤ rd) (rd1 : rd ≤ 31) (q10 : 0 ≤ q1) (q11 : q1 ≤ 31) (q20 : 0 ≤ q2) (q21 : q2 ≤ 31) (i0 : -2147483648 ≤ im) (i1 : im ≤ 2147483647) (hz : 0 < m.size) (hf : Fine m) (hc : decide (m.regs q1.toNat < m.regs q2.toNat) = false) (ht : ¬ ((m.pc + im) % 4294967296) % 4 = 0) :
    Calls Tryz.prog 112 #[.pointer (some ⟨b, 0, none⟩), .agg #[.int .i64 op, .int .i64 rd, .int .i64 q1, .int .i64 q2, .int .i32 im]] w fun e w' => e = .panicked (trapV 3) ∧ ref.Touch [] w w' := by
  obtain ⟨lb, HH, HHt, HZ, HF, HSk, cpc, ra0, ra1, rb0, rb1, pc0, pc1, wi⟩ := pre_any B b mb m nx vX w h op rd q1 q2 im hz hf
  obtain ⟨lmb, HSk2⟩ := pre2_any B b mb m nx vX w h op rd q1 q2 im hz
  clear h
  clear hz hf
  go_enter Tryz.func112, Tryz.ntmps112
  go_wp2_with fail
  refine wp_region_held_drew (S := (sbx w b m op rd q1 q2 im)) (by kernel_rfl) (HSk.out _ (ref.Touch.refl _ _).drew cpc) (fun hHeld => ?_)
  refine tk (i := 0) (oi := ⟨some 4, _, _, _, _, _⟩) (v := ?v4x164) rfl (by kernel_rfl) (fun _ _ _ h => h) (by rfl) ?h4x164 (by assumption) ?r4x164
  case h4x164 => intro w' hSw; (try dsimp only [sbx] at hSw); go_simp; try with_reducible rfl
  try simp only [Act.put, ly1, ly2, ly3]
  refine tk (i := 1) (oi := ⟨some 5, _, _, _, _, _⟩) (v := ?v5x165) rfl (by kernel_rfl) (fun _ _ _ h => h) (by rfl) ?h5x165 (by assumption) ?r5x165
  case h5x165 => intro w' hSw; (try dsimp only [sbx] at hSw); go_simp; try with_reducible rfl
  try simp only [Act.put, ly1, ly2, ly3]
  refine tk (i := 2) (oi := ⟨some 6, _, _, _, _, _⟩) (v := ?v6x166) rfl (by kernel_rfl) (fun _ _ _ h => h) (by rfl) ?h6x166 (by assumption) ?r6x166
  case h6x166 => intro w' hSw; (try dsimp only [sbx] at hSw); go_simp; try with_reducible rfl
  try simp only [Act.put, ly1, ly2, ly3]
  refine tk (i := 3) (oi := ⟨some 7, _, _, _, _, _⟩) (v := ?v7x167) rfl (by kernel_rfl) (fun _ _ _ h => h) (by rfl) ?h7x167 (by assumption) ?r7x167
  case h7x167 => intro w' hSw; (try dsimp only [sbx] at hSw); go_simp; try with_reducible rfl
  try simp only [Act.put, ly1, ly2, ly3]
  refine wpAnyH_ready (rs := [4]) (by kernel_rfl) (by simp) ?_
  refine AllReadyH.cons (o := ⟨some 8, _, _, _, _, _⟩) rfl (fun K hK => ?_) AllReadyH.nil
  rw [if_pos (by rfl)]
  go_simp
  refine (Calls.mono (lessUnsigned_any B b mb m nx vX _ (HHt.out _ (by repeat' (first | with_reducible exact tR _ _ | with_reducible apply tD | with_reducible apply tN | assumption))) op rd q1 q2 im rd0 rd1 q10 q11 q20 q21 i0 i1 HZ.out HF.out) ?_)
  rintro e w1 ⟨rfl, ht'⟩
  have t1 : ref.Touch [] (bx w op rd q1 q2 im) w1 := ref.Touch.trans (by repeat' (first | with_reducible exact tR _ _ | with_reducible apply tD | with_reducible apply tN | assumption)) ht'
  have p1 : w1.cell? ⟨b, 33, none⟩ = some (.int .u32 m.pc) := (HHt.out _ t1).cells 33 (by decide) (by decide)
  clear ht'
  refine hK.out _ _ (HSk.out _ (t1.mono (by simp)) p1) (fun hHeld => ?_)
  clear hK K
  try simp only [Act.put, ly1, ly2, ly3]
  refine tk (i := 5) (oi := ⟨some 9, _, _, _, _, _⟩) (v := ?v9x168) rfl (by kernel_rfl) (fun _ _ _ h => h) (by rfl) ?h9x168 (by assumption) ?r9x168
  case h9x168 => intro w' hSw; (try dsimp only [sbx] at hSw); go_simp; try with_reducible rfl
  try simp only [Act.put, ly1, ly2, ly3]
  refine wpAnyH_ready (rs := [6]) (by kernel_rfl) (by simp) ?_
  refine AllReadyH.cons (o := ⟨some 10, _, _, _, _, _⟩) rfl (fun K hK => ?_) AllReadyH.nil
  rw [if_pos (by rfl)]
  go_simp
  refine (Calls.mono (br_n B b mb m nx vX _ (HHt.out _ (by repeat' (first | with_reducible exact tR _ _ | with_reducible apply tD | with_reducible apply tN | assumption))) op rd q1 q2 im rd0 rd1 q10 q11 q20 q21 i0 i1 HZ.out HF.out ht) ?_)
  rintro e w9 ⟨rfl, ht9⟩
  exact ⟨rfl, rfl, ref.Touch.trans (by repeat' (first | with_reducible exact ref.Touch.refl _ _ | with_reducible apply ref.Touch.drew | with_reducible apply ref.Touch.drewN | with_reducible apply ref.Touch.alloc | assumption | exact ref.Touch.trans ((ref.Touch.refl [] _).alloc _) (by assumption))) ht9⟩
set_option maxHeartbeats 400000 in
theorem branchNotLessUnsigned_y (B b mb : Nat) (m : M) (nx : Int) (vX : Nat → Value) (w : World) (h : PAt B b mb m nx vX w) (op rd q1 q2 im : Int) (rd0 : 0 ≤ rd) (rd1 : rd ≤ 31) (q10 : 0 ≤ q1) (q11 : q1 ≤ 31) (q20 : 0 ≤ q2) (q21 : q2 ≤ 31) (i0 : -2147483648 ≤ im) (i1 : im ≤ 2147483647) (hz : 0 < m.size) (hf : Fine m) (hc : decide (m.regs q1.toNat < m.regs q2.toNat) = false) (ht : ((m.pc + im) % 4294967296) % 4 = 0) :
    Calls Tryz.prog 112 #[.pointer (some ⟨b, 0, none⟩), .agg #[.int .i64 op, .int .i64 rd, .int .i64 q1, .int .i64 q2, .int .i32 im]] w fun e w' => e = .returned (.tuple #[]) ∧ PAt B b mb m ((m.pc + im) % 4294967296) vX w' ∧ ref.Touch [b, mb] w w' := by
  obtain ⟨lb, HH, HHt, HZ, HF, HSk, cpc, ra0, ra1, rb0, rb1, pc0, pc1, wi⟩ := pre_any B b mb m nx vX w h op rd q1 q2 im hz hf
  obtain ⟨lmb, HSk2⟩ := pre2_any B b mb m nx vX w h op rd q1 q2 im hz
  clear h
  have lm := lmb
  clear hz hf
  go_enter Tryz.func112, Tryz.ntmps112
  go_wp2_with fail
  refine wp_region_held_drew (S := (sbx w b m op rd q1 q2 im)) (by kernel_rfl) (HSk.out _ (ref.Touch.refl _ _).drew cpc) (fun hHeld => ?_)
  refine tk (i := 0) (oi := ⟨some 4, _, _, _, _, _⟩) (v := ?v4x169) rfl (by kernel_rfl) (fun _ _ _ h => h) (by rfl) ?h4x169 (by assumption) ?r4x169
  case h4x169 => intro w' hSw; (try dsimp only [sbx] at hSw); go_simp; try with_reducible rfl
  try simp only [Act.put, ly1, ly2, ly3]
  refine tk (i := 1) (oi := ⟨some 5, _, _, _, _, _⟩) (v := ?v5x170) rfl (by kernel_rfl) (fun _ _ _ h => h) (by rfl) ?h5x170 (by assumption) ?r5x170
  case h5x170 => intro w' hSw; (try dsimp only [sbx] at hSw); go_simp; try with_reducible rfl
  try simp only [Act.put, ly1, ly2, ly3]
  refine tk (i := 2) (oi := ⟨some 6, _, _, _, _, _⟩) (v := ?v6x171) rfl (by kernel_rfl) (fun _ _ _ h => h) (by rfl) ?h6x171 (by assumption) ?r6x171
  case h6x171 => intro w' hSw; (try dsimp only [sbx] at hSw); go_simp; try with_reducible rfl
  try simp only [Act.put, ly1, ly2, ly3]
  refine tk (i := 3) (oi := ⟨some 7, _, _, _, _, _⟩) (v := ?v7x172) rfl (by kernel_rfl) (fun _ _ _ h => h) (by rfl) ?h7x172 (by assumption) ?r7x172
  case h7x172 => intro w' hSw; (try dsimp only [sbx] at hSw); go_simp; try with_reducible rfl
  try simp only [Act.put, ly1, ly2, ly3]
  refine wpAnyH_ready (rs := [4]) (by kernel_rfl) (by simp) ?_
  refine AllReadyH.cons (o := ⟨some 8, _, _, _, _, _⟩) rfl (fun K hK => ?_) AllReadyH.nil
  rw [if_pos (by rfl)]
  go_simp
  refine (Calls.mono (lessUnsigned_any B b mb m nx vX _ (HHt.out _ (by repeat' (first | with_reducible exact tR _ _ | with_reducible apply tD | with_reducible apply tN | assumption))) op rd q1 q2 im rd0 rd1 q10 q11 q20 q21 i0 i1 HZ.out HF.out) ?_)
  rintro e w1 ⟨rfl, ht'⟩
  have t1 : ref.Touch [] (bx w op rd q1 q2 im) w1 := ref.Touch.trans (by repeat' (first | with_reducible exact tR _ _ | with_reducible apply tD | with_reducible apply tN | assumption)) ht'
  have p1 : w1.cell? ⟨b, 33, none⟩ = some (.int .u32 m.pc) := (HHt.out _ t1).cells 33 (by decide) (by decide)
  clear ht'
  refine hK.out _ _ (HSk.out _ (t1.mono (by simp)) p1) (fun hHeld => ?_)
  clear hK K
  try simp only [Act.put, ly1, ly2, ly3]
  refine tk (i := 5) (oi := ⟨some 9, _, _, _, _, _⟩) (v := ?v9x173) rfl (by kernel_rfl) (fun _ _ _ h => h) (by rfl) ?h9x173 (by assumption) ?r9x173
  case h9x173 => intro w' hSw; (try dsimp only [sbx] at hSw); go_simp; try with_reducible rfl
  try simp only [Act.put, ly1, ly2, ly3]
  refine wpAnyH_ready (rs := [6]) (by kernel_rfl) (by simp) ?_
  refine AllReadyH.cons (o := ⟨some 10, _, _, _, _, _⟩) rfl (fun K hK => ?_) AllReadyH.nil
  rw [if_pos (by rfl)]
  go_simp
  refine (Calls.mono (br_y B b mb m nx vX _ (HHt.out _ (by repeat' (first | with_reducible exact tR _ _ | with_reducible apply tD | with_reducible apply tN | assumption))) op rd q1 q2 im rd0 rd1 q10 q11 q20 q21 i0 i1 HZ.out HF.out ht) ?_)
  rintro e w9 ⟨rfl, hat, hto⟩
  have HA : Hid (PAt B b mb m ((m.pc + im) % 4294967296) vX w9) := hat
  have HT : Hid (ref.Touch [b, mb] (bx w op rd q1 q2 im) w9) := ref.Touch.trans (ref.Touch.mono (S := []) (by repeat' (first | with_reducible exact tR _ _ | with_reducible apply tD | with_reducible apply tN | assumption)) (by simp)) hto
  have t9 : ref.Touch [b, mb] (bx w op rd q1 q2 im) w9 := HT.out
  have p9 : w9.cell? ⟨b, 33, none⟩ = some (.int .u32 m.pc) := hat.cells 33 (by decide) (by decide)
  clear hat hto
  refine hK.out _ _ (HSk2.out _ t9 p9) (fun hHeld => ?_)
  clear hK K
  try simp only [Act.put, ly1, ly2, ly3]
  refine wpAnyH_done (by kernel_rfl) ?_ _
  go_wp2_with fail
  go_end0
  exact ⟨rfl, HA.out, ((ref.Touch.refl _ _).alloc _).trans HT.out⟩
set_option maxHeartbeats 400000 in
theorem branchNotLessUnsigned_no (B b mb : Nat) (m : M) (nx : Int) (vX : Nat → Value) (w : World) (h : PAt B b mb m nx vX w) (op rd q1 q2 im : Int) (rd0 : 0 ≤ rd) (rd1 : rd ≤ 31) (q10 : 0 ≤ q1) (q11 : q1 ≤ 31) (q20 : 0 ≤ q2) (q21 : q2 ≤ 31) (i0 : -2147483648 ≤ im) (i1 : im ≤ 2147483647) (hz : 0 < m.size) (hf : Fine m) (hc : decide (m.regs q1.toNat < m.regs q2.toNat) = true) :
    Calls Tryz.prog 112 #[.pointer (some ⟨b, 0, none⟩), .agg #[.int .i64 op, .int .i64 rd, .int .i64 q1, .int .i64 q2, .int .i32 im]] w fun e w' => e = .returned (.tuple #[]) ∧ PAt B b mb m nx vX w' ∧ ref.Touch [b, mb] w w' := by
  obtain ⟨lb, HH, HHt, HZ, HF, HSk, cpc, ra0, ra1, rb0, rb1, pc0, pc1, wi⟩ := pre_any B b mb m nx vX w h op rd q1 q2 im hz hf
  obtain ⟨lmb, HSk2⟩ := pre2_any B b mb m nx vX w h op rd q1 q2 im hz
  clear h
  have lm := lmb
  clear hz hf
  go_enter Tryz.func112, Tryz.ntmps112
  go_wp2_with fail
  refine wp_region_held_drew (S := (sbx w b m op rd q1 q2 im)) (by kernel_rfl) (HSk.out _ (ref.Touch.refl _ _).drew cpc) (fun hHeld => ?_)
  refine tk (i := 0) (oi := ⟨some 4, _, _, _, _, _⟩) (v := ?v4x174) rfl (by kernel_rfl) (fun _ _ _ h => h) (by rfl) ?h4x174 (by assumption) ?r4x174
  case h4x174 => intro w' hSw; (try dsimp only [sbx] at hSw); go_simp; try with_reducible rfl
  try simp only [Act.put, ly1, ly2, ly3]
  refine tk (i := 1) (oi := ⟨some 5, _, _, _, _, _⟩) (v := ?v5x175) rfl (by kernel_rfl) (fun _ _ _ h => h) (by rfl) ?h5x175 (by assumption) ?r5x175
  case h5x175 => intro w' hSw; (try dsimp only [sbx] at hSw); go_simp; try with_reducible rfl
  try simp only [Act.put, ly1, ly2, ly3]
  refine tk (i := 2) (oi := ⟨some 6, _, _, _, _, _⟩) (v := ?v6x176) rfl (by kernel_rfl) (fun _ _ _ h => h) (by rfl) ?h6x176 (by assumption) ?r6x176
  case h6x176 => intro w' hSw; (try dsimp only [sbx] at hSw); go_simp; try with_reducible rfl
  try simp only [Act.put, ly1, ly2, ly3]
  refine tk (i := 3) (oi := ⟨some 7, _, _, _, _, _⟩) (v := ?v7x177) rfl (by kernel_rfl) (fun _ _ _ h => h) (by rfl) ?h7x177 (by assumption) ?r7x177
  case h7x177 => intro w' hSw; (try dsimp only [sbx] at hSw); go_simp; try with_reducible rfl
  try simp only [Act.put, ly1, ly2, ly3]
  refine wpAnyH_ready (rs := [4]) (by kernel_rfl) (by simp) ?_
  refine AllReadyH.cons (o := ⟨some 8, _, _, _, _, _⟩) rfl (fun K hK => ?_) AllReadyH.nil
  rw [if_pos (by rfl)]
  go_simp
  refine (Calls.mono (lessUnsigned_any B b mb m nx vX _ (HHt.out _ (by repeat' (first | with_reducible exact tR _ _ | with_reducible apply tD | with_reducible apply tN | assumption))) op rd q1 q2 im rd0 rd1 q10 q11 q20 q21 i0 i1 HZ.out HF.out) ?_)
  rintro e w1 ⟨rfl, ht'⟩
  have t1 : ref.Touch [] (bx w op rd q1 q2 im) w1 := ref.Touch.trans (by repeat' (first | with_reducible exact tR _ _ | with_reducible apply tD | with_reducible apply tN | assumption)) ht'
  have p1 : w1.cell? ⟨b, 33, none⟩ = some (.int .u32 m.pc) := (HHt.out _ t1).cells 33 (by decide) (by decide)
  clear ht'
  refine hK.out _ _ (HSk.out _ (t1.mono (by simp)) p1) (fun hHeld => ?_)
  clear hK K
  try simp only [Act.put, ly1, ly2, ly3]
  refine tk (i := 5) (oi := ⟨some 9, _, _, _, _, _⟩) (v := ?v9x178) rfl (by kernel_rfl) (fun _ _ _ h => h) (by rfl) ?h9x178 (by assumption) ?r9x178
  case h9x178 => intro w' hSw; (try dsimp only [sbx] at hSw); go_simp; try with_reducible rfl
  try simp only [Act.put, ly1, ly2, ly3]
  refine wpAnyH_ready (rs := [6]) (by kernel_rfl) (by simp) ?_
  refine AllReadyH.cons (o := ⟨some 10, _, _, _, _, _⟩) rfl (fun K hK => ?_) AllReadyH.nil
  rw [if_pos (by rfl)]
  go_simp
  refine (Calls.mono (br_no B b mb m nx vX _ (HHt.out _ (by repeat' (first | with_reducible exact tR _ _ | with_reducible apply tD | with_reducible apply tN | assumption))) op rd q1 q2 im rd0 rd1 q10 q11 q20 q21 i0 i1 HZ.out HF.out) ?_)
  rintro e w9 ⟨rfl, hat, hto⟩
  have HA : Hid (PAt B b mb m nx vX w9) := hat
  have HT : Hid (ref.Touch [b, mb] (bx w op rd q1 q2 im) w9) := ref.Touch.trans (ref.Touch.mono (S := []) (by repeat' (first | with_reducible exact tR _ _ | with_reducible apply tD | with_reducible apply tN | assumption)) (by simp)) hto
  have t9 : ref.Touch [b, mb] (bx w op rd q1 q2 im) w9 := HT.out
  have p9 : w9.cell? ⟨b, 33, none⟩ = some (.int .u32 m.pc) := hat.cells 33 (by decide) (by decide)
  clear hat hto
  refine hK.out _ _ (HSk2.out _ t9 p9) (fun hHeld => ?_)
  clear hK K
  try simp only [Act.put, ly1, ly2, ly3]
  refine wpAnyH_done (by kernel_rfl) ?_ _
  go_wp2_with fail
  go_end0
  exact ⟨rfl, HA.out, ((ref.Touch.refl _ _).alloc _).trans HT.out⟩
end Go.Proofs.YtmogjicompmkkaaGreatDoor.prog

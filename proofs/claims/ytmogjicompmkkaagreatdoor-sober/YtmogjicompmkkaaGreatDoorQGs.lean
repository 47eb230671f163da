import Derived.Test.YtmogjicompmkkaaGreatDoorQGr
import Derived.Test.YtmogjicompmkkaaGreatDoorQGa
import Derived.Deep.MidRow
namespace Go.Proofs.YtmogjicompmkkaaGreatDoor.prog
open Go.ChangeShapes Go.WideShapes Go.ChangeAt Go.RowKit Go.Proofs.YtmogjicompmkkaaGreatDoor.nums Go.Proofs.YtmogjicompmkkaaGreatDoor.dnums Go.Proofs.YtmogjicompmkkaaGreatDoor.mach

set_option linter.unusedVariables false
set_option linter.unusedSimpArgs false
set_option maxRecDepth 10000
attribute [local go_sem ↓] Go.wp_at_zero Go.wp_at_succ
/-- The cells of the program's report. -/
def repP (m : M) (o : Int) (vE : Value) : Array Value := #[.int .i64 o, .int .u32 m.pc, .int .u32 (m.regs 0), .int .u32 (m.regs 1), .int .u32 (m.regs 2), .int .u32 (m.regs 3), .int .u32 (m.regs 4), .int .u32 (m.regs 5), .int .u32 (m.regs 6), .int .u32 (m.regs 7), .int .u32 (m.regs 8), .int .u32 (m.regs 9), .int .u32 (m.regs 10), .int .u32 (m.regs 11), .int .u32 (m.regs 12), .int .u32 (m.regs 13), .int .u32 (m.regs 14), .int .u32 (m.regs 15), .int .u32 (m.regs 16), .int .u32 (m.regs 17), .int .u32 (m.regs 18), .int .u32 (m.regs 19), .int .u32 (m.regs 20), .int .u32 (m.regs 21), .int .u32 (m.regs 22), .int .u32 (m.regs 23), .int .u32 (m.regs 24), .int .u32 (m.regs 25), .int .u32 (m.regs 26), .int .u32 (m.regs 27), .int .u32 (m.regs 28), .int .u32 (m.regs 29), .int .u32 (m.regs 30), .int .u32 (m.regs 31), .int .u32 m.brk, .string (ref.memD m.mem 0 m.size), vE, .int .i64 m.steps, .int .i64 m.built]
theorem repP_one (m : M) (o : Int) (vE : Value) (h : vE.oneCell' = true) : (repP m o vE).all (·.oneCell') = true := by
  cases vE <;> simp_all [repP, Value.oneCell']
theorem info_rg : (Tryz.prog.info? 29).map (·.size) = some 32 := by kernel_rfl
theorem regs_range (B b mb : Nat) (m : M) (nx : Int) (vX : Nat → Value) (w : World) (h : PAt B b mb m nx vX w) : w.rangeAt b 0 [Value.int .u32 (m.regs 0), Value.int .u32 (m.regs 1), Value.int .u32 (m.regs 2), Value.int .u32 (m.regs 3), Value.int .u32 (m.regs 4), Value.int .u32 (m.regs 5), Value.int .u32 (m.regs 6), Value.int .u32 (m.regs 7), Value.int .u32 (m.regs 8), Value.int .u32 (m.regs 9), Value.int .u32 (m.regs 10), Value.int .u32 (m.regs 11), Value.int .u32 (m.regs 12), Value.int .u32 (m.regs 13), Value.int .u32 (m.regs 14), Value.int .u32 (m.regs 15), Value.int .u32 (m.regs 16), Value.int .u32 (m.regs 17), Value.int .u32 (m.regs 18), Value.int .u32 (m.regs 19), Value.int .u32 (m.regs 20), Value.int .u32 (m.regs 21), Value.int .u32 (m.regs 22), Value.int .u32 (m.regs 23), Value.int .u32 (m.regs 24), Value.int .u32 (m.regs 25), Value.int .u32 (m.regs 26), Value.int .u32 (m.regs 27), Value.int .u32 (m.regs 28), Value.int .u32 (m.regs 29), Value.int .u32 (m.regs 30), Value.int .u32 (m.regs 31)] := by
  intro j v hv
  have hj : j < 32 := by have := (List.getElem?_eq_some_iff.1 hv).1; simpa using this
  rw [Nat.zero_add, h.reg j hj, ← hv]
  have : j = 0 ∨ j = 1 ∨ j = 2 ∨ j = 3 ∨ j = 4 ∨ j = 5 ∨ j = 6 ∨ j = 7 ∨ j = 8 ∨ j = 9 ∨ j = 10 ∨ j = 11 ∨ j = 12 ∨ j = 13 ∨ j = 14 ∨ j = 15 ∨ j = 16 ∨ j = 17 ∨ j = 18 ∨ j = 19 ∨ j = 20 ∨ j = 21 ∨ j = 22 ∨ j = 23 ∨ j = 24 ∨ j = 25 ∨ j = 26 ∨ j = 27 ∨ j = 28 ∨ j = 29 ∨ j = 30 ∨ j = 31 := by omega
  rcases this with rfl | rfl | rfl | rfl | rfl | rfl | rfl | rfl | rfl | rfl | rfl | rfl | rfl | rfl | rfl | rfl | rfl | rfl | rfl | rfl | rfl | rfl | rfl | rfl | rfl | rfl | rfl | rfl | rfl | rfl | rfl | rfl <;> rfl
set_option maxHeartbeats 1000000 in
theorem report_any (B E b mb sb : Nat) (m : M) (nx : Int) (vE vA : Value) (w : World) (h : PW B E b mb sb m nx vE vA w) (hz : 0 < m.size) (hf : Fine m) (o : Int) :
    Calls Tryz.prog 27 #[.pointer (some ⟨b, 0, none⟩), .int .i64 o] w fun e w' => e = .returned (.agg (repP m o vE)) ∧ ref.Touch [] w w' := by
  obtain ⟨oE, nE, cE, hvE⟩ := ref.own_slice h.evs
  subst hvE
  have HSk : Hid (∀ w', ref.Touch [] w w' → (fun w' => w'.rangeAt b 0 [Value.int .u32 (m.regs 0), Value.int .u32 (m.regs 1), Value.int .u32 (m.regs 2), Value.int .u32 (m.regs 3), Value.int .u32 (m.regs 4), Value.int .u32 (m.regs 5), Value.int .u32 (m.regs 6), Value.int .u32 (m.regs 7), Value.int .u32 (m.regs 8), Value.int .u32 (m.regs 9), Value.int .u32 (m.regs 10), Value.int .u32 (m.regs 11), Value.int .u32 (m.regs 12), Value.int .u32 (m.regs 13), Value.int .u32 (m.regs 14), Value.int .u32 (m.regs 15), Value.int .u32 (m.regs 16), Value.int .u32 (m.regs 17), Value.int .u32 (m.regs 18), Value.int .u32 (m.regs 19), Value.int .u32 (m.regs 20), Value.int .u32 (m.regs 21), Value.int .u32 (m.regs 22), Value.int .u32 (m.regs 23), Value.int .u32 (m.regs 24), Value.int .u32 (m.regs 25), Value.int .u32 (m.regs 26), Value.int .u32 (m.regs 27), Value.int .u32 (m.regs 28), Value.int .u32 (m.regs 29), Value.int .u32 (m.regs 30), Value.int .u32 (m.regs 31)] ∧ w'.cell? ⟨b, 33, none⟩ = some (.int .u32 m.pc) ∧ w'.cell? ⟨b, 36, none⟩ = some (.int .u32 m.brk) ∧ w'.cell? ⟨b, 32, none⟩ = some (.slice (some ⟨mb, 0, none⟩) m.size m.size) ∧ w'.cell? ⟨b, 38, none⟩ = some (.slice oE nE cE) ∧ w'.cell? ⟨b, 39, none⟩ = some (.int .i64 m.steps) ∧ w'.cell? ⟨b, 43, none⟩ = some (.int .i64 m.built) ∧ (convert 67 9 (.slice (some ⟨mb, 0, none⟩) m.size m.size)).run Tryz.prog w' = .ok (.string (ref.memD m.mem 0 m.size)) w') w') := fun w' t => by
    have q := h.quiet hz t
    exact ⟨regs_range B b mb m nx _ w' q.p, q.p.cells 33 (by decide) (by decide), q.p.cells 36 (by decide) (by decide), q.p.data, q.cE, q.p.cells 39 (by decide) (by decide), q.p.cells 43 (by decide) (by decide), conv_p B b mb m nx _ w' q.p hf.mem 0 0 m.size m.size (by omega) (fun _ => rfl)⟩
  have HTH : Hid ((w.alloc (.cells ref.rep0 32)).drew.there w.heap.size 0 39) := ref.there_of (heap_alloc_new w _) rfl rfl
  clear h hz hf
  go_enter Tryz.func27, Tryz.ntmps27
  go_wp2_with fail
  refine wp_region_held_drew (S := (fun w' => w'.rangeAt b 0 [Value.int .u32 (m.regs 0), Value.int .u32 (m.regs 1), Value.int .u32 (m.regs 2), Value.int .u32 (m.regs 3), Value.int .u32 (m.regs 4), Value.int .u32 (m.regs 5), Value.int .u32 (m.regs 6), Value.int .u32 (m.regs 7), Value.int .u32 (m.regs 8), Value.int .u32 (m.regs 9), Value.int .u32 (m.regs 10), Value.int .u32 (m.regs 11), Value.int .u32 (m.regs 12), Value.int .u32 (m.regs 13), Value.int .u32 (m.regs 14), Value.int .u32 (m.regs 15), Value.int .u32 (m.regs 16), Value.int .u32 (m.regs 17), Value.int .u32 (m.regs 18), Value.int .u32 (m.regs 19), Value.int .u32 (m.regs 20), Value.int .u32 (m.regs 21), Value.int .u32 (m.regs 22), Value.int .u32 (m.regs 23), Value.int .u32 (m.regs 24), Value.int .u32 (m.regs 25), Value.int .u32 (m.regs 26), Value.int .u32 (m.regs 27), Value.int .u32 (m.regs 28), Value.int .u32 (m.regs 29), Value.int .u32 (m.regs 30), Value.int .u32 (m.regs 31)] ∧ w'.cell? ⟨b, 33, none⟩ = some (.int .u32 m.pc) ∧ w'.cell? ⟨b, 36, none⟩ = some (.int .u32 m.brk) ∧ w'.cell? ⟨b, 32, none⟩ = some (.slice (some ⟨mb, 0, none⟩) m.size m.size) ∧ w'.cell? ⟨b, 38, none⟩ = some (.slice oE nE cE) ∧ w'.cell? ⟨b, 39, none⟩ = some (.int .i64 m.steps) ∧ w'.cell? ⟨b, 43, none⟩ = some (.int .i64 m.built) ∧ (convert 67 9 (.slice (some ⟨mb, 0, none⟩) m.size m.size)).run Tryz.prog w' = .ok (.string (ref.memD m.mem 0 m.size)) w')) (by kernel_rfl) (HSk.out _ ((ref.Touch.refl _ _).alloc _).drew) (fun hHeld => ?_)
  refine tk (i := 0) (oi := ⟨some 5, _, _, _, _, _⟩) (v := ?v5x303) rfl (by kernel_rfl) (fun _ _ _ h => h) (by rfl) ?h5x303 (by assumption) ?r5x303
  case h5x303 => intro w' hSw; (try dsimp only [sbx] at hSw); go_simp; try with_reducible rfl
  try simp only [Act.put, ly1, ly2, ly3]
  refine tk (i := 1) (oi := ⟨some 6, _, _, _, _, _⟩) (v := ?v6x304) rfl (by kernel_rfl) (fun _ _ _ h => h) (by rfl) ?h6x304 (by assumption) ?r6x304
  case h6x304 => intro w' hSw; (try dsimp only [sbx] at hSw); go_simp; try with_reducible rfl
  try simp only [Act.put, ly1, ly2, ly3]
  refine tk (i := 2) (oi := ⟨some 7, _, _, _, _, _⟩) (v := ?v7x305) rfl (by kernel_rfl) (fun _ _ _ h => h) (by rfl) ?h7x305 (by assumption) ?r7x305
  case h7x305 => intro w' hSw; (try dsimp only [sbx] at hSw); go_simp; try with_reducible rfl
  try simp only [Act.put, ly1, ly2, ly3]
  refine tk (i := 3) (oi := ⟨some 8, _, _, _, _, _⟩) (v := ?v8x306) rfl (by kernel_rfl) (fun _ _ _ h => h) (by rfl) ?h8x306 (by assumption) ?r8x306
  case h8x306 => intro w' hSw; (try dsimp only [sbx] at hSw); go_simp; try with_reducible rfl
  try simp only [Act.put, ly1, ly2, ly3]
  refine tk (i := 4) (oi := ⟨some 9, _, _, _, _, _⟩) (v := ?v9x307) rfl (by kernel_rfl) (fun _ _ _ h => h) (by rfl) ?h9x307 (by assumption) ?r9x307
  case h9x307 => intro w' hSw; (try dsimp only [sbx] at hSw); go_simp; try with_reducible rfl
  try simp only [Act.put, ly1, ly2, ly3]
  refine tk (i := 5) (oi := ⟨some 10, _, _, _, _, _⟩) (v := ?v10x308) rfl (by kernel_rfl) (fun _ _ _ h => h) (by rfl) ?h10x308 (by assumption) ?r10x308
  case h10x308 => intro w' hSw; (try dsimp only [sbx] at hSw); go_simp; try with_reducible rfl
  try simp only [Act.put, ly1, ly2, ly3]
  refine tk (i := 6) (oi := ⟨some 11, _, _, _, _, _⟩) (v := ?v11x309) rfl (by kernel_rfl) (fun _ _ _ h => h) (by rfl) ?h11x309 (by assumption) ?r11x309
  case h11x309 => intro w' hSw; (try dsimp only [sbx] at hSw); go_simp; try with_reducible rfl
  try simp only [Act.put, ly1, ly2, ly3]
  refine tk (i := 7) (oi := ⟨some 12, _, _, _, _, _⟩) (v := ?v12x310) rfl (by kernel_rfl) (fun _ _ _ h => h) (by rfl) ?h12x310 (by assumption) ?r12x310
  case h12x310 => intro w' hSw; (try dsimp only [sbx] at hSw); go_simp; try with_reducible rfl
  try simp only [Act.put, ly1, ly2, ly3]
  refine wpAnyH_take (i := 8) (oi := ⟨some 13, _, _, _, _, _⟩) (v := .agg [Value.int .u32 (m.regs 0), Value.int .u32 (m.regs 1), Value.int .u32 (m.regs 2), Value.int .u32 (m.regs 3), Value.int .u32 (m.regs 4), Value.int .u32 (m.regs 5), Value.int .u32 (m.regs 6), Value.int .u32 (m.regs 7), Value.int .u32 (m.regs 8), Value.int .u32 (m.regs 9), Value.int .u32 (m.regs 10), Value.int .u32 (m.regs 11), Value.int .u32 (m.regs 12), Value.int .u32 (m.regs 13), Value.int .u32 (m.regs 14), Value.int .u32 (m.regs 15), Value.int .u32 (m.regs 16), Value.int .u32 (m.regs 17), Value.int .u32 (m.regs 18), Value.int .u32 (m.regs 19), Value.int .u32 (m.regs 20), Value.int .u32 (m.regs 21), Value.int .u32 (m.regs 22), Value.int .u32 (m.regs 23), Value.int .u32 (m.regs 24), Value.int .u32 (m.regs 25), Value.int .u32 (m.regs 26), Value.int .u32 (m.regs 27), Value.int .u32 (m.regs 28), Value.int .u32 (m.regs 29), Value.int .u32 (m.regs 30), Value.int .u32 (m.regs 31)].toArray) rfl (by kernel_rfl) (by kernel_rfl) (by kernel_rfl) (fun _ _ _ h => h) (yieldsIf_load_mid (by rfl) _ _ rfl b 0 rfl [Value.int .u32 (m.regs 0), Value.int .u32 (m.regs 1), Value.int .u32 (m.regs 2), Value.int .u32 (m.regs 3), Value.int .u32 (m.regs 4), Value.int .u32 (m.regs 5), Value.int .u32 (m.regs 6), Value.int .u32 (m.regs 7), Value.int .u32 (m.regs 8), Value.int .u32 (m.regs 9), Value.int .u32 (m.regs 10), Value.int .u32 (m.regs 11), Value.int .u32 (m.regs 12), Value.int .u32 (m.regs 13), Value.int .u32 (m.regs 14), Value.int .u32 (m.regs 15), Value.int .u32 (m.regs 16), Value.int .u32 (m.regs 17), Value.int .u32 (m.regs 18), Value.int .u32 (m.regs 19), Value.int .u32 (m.regs 20), Value.int .u32 (m.regs 21), Value.int .u32 (m.regs 22), Value.int .u32 (m.regs 23), Value.int .u32 (m.regs 24), Value.int .u32 (m.regs 25), Value.int .u32 (m.regs 26), Value.int .u32 (m.regs 27), Value.int .u32 (m.regs 28), Value.int .u32 (m.regs 29), Value.int .u32 (m.regs 30), Value.int .u32 (m.regs 31)] _ (fun w' hSw => hSw.1) Tryz.underlying29 rfl info_rg) (by assumption) ?rest13x
  try simp only [Act.put, ly1, ly2, ly3]
  refine tk (i := 9) (oi := ⟨some 14, _, _, _, _, _⟩) (v := ?v14x311) rfl (by kernel_rfl) (fun _ _ _ h => h) (by rfl) ?h14x311 (by assumption) ?r14x311
  case h14x311 => intro w' hSw; (try dsimp only [sbx] at hSw); go_simp; try with_reducible rfl
  try simp only [Act.put, ly1, ly2, ly3]
  refine tk (i := 10) (oi := ⟨some 15, _, _, _, _, _⟩) (v := ?v15x312) rfl (by kernel_rfl) (fun _ _ _ h => h) (by rfl) ?h15x312 (by assumption) ?r15x312
  case h15x312 => intro w' hSw; (try dsimp only [sbx] at hSw); go_simp; try with_reducible rfl
  try simp only [Act.put, ly1, ly2, ly3]
  refine tk (i := 11) (oi := ⟨some 16, _, _, _, _, _⟩) (v := ?v16x313) rfl (by kernel_rfl) (fun _ _ _ h => h) (by rfl) ?h16x313 (by assumption) ?r16x313
  case h16x313 => intro w' hSw; (try dsimp only [sbx] at hSw); go_simp; try with_reducible rfl
  try simp only [Act.put, ly1, ly2, ly3]
  refine tk (i := 12) (oi := ⟨some 17, _, _, _, _, _⟩) (v := ?v17x314) rfl (by kernel_rfl) (fun _ _ _ h => h) (by rfl) ?h17x314 (by assumption) ?r17x314
  case h17x314 => intro w' hSw; (try dsimp only [sbx] at hSw); go_simp; try with_reducible rfl
  try simp only [Act.put, ly1, ly2, ly3]
  refine tk (i := 13) (oi := ⟨some 18, _, _, _, _, _⟩) (v := ?v18x315) rfl (by kernel_rfl) (fun _ _ _ h => h) (by rfl) ?h18x315 (by assumption) ?r18x315
  case h18x315 => intro w' hSw; (try dsimp only [sbx] at hSw); go_simp; try with_reducible rfl
  try simp only [Act.put, ly1, ly2, ly3]
  refine tk (i := 14) (oi := ⟨some 19, _, _, _, _, _⟩) (v := ?v19x316) rfl (by kernel_rfl) (fun _ _ _ h => h) (by rfl) ?h19x316 (by assumption) ?r19x316
  case h19x316 => intro w' hSw; (try dsimp only [sbx] at hSw); go_simp; try with_reducible rfl
  try simp only [Act.put, ly1, ly2, ly3]
  refine tk (i := 15) (oi := ⟨some 20, _, _, _, _, _⟩) (v := ?v20x317) rfl (by kernel_rfl) (fun _ _ _ h => h) (by rfl) ?h20x317 (by assumption) ?r20x317
  case h20x317 => intro w' hSw; (try dsimp only [sbx] at hSw); go_simp; try with_reducible rfl
  try simp only [Act.put, ly1, ly2, ly3]
  refine tk (i := 16) (oi := ⟨some 21, _, _, _, _, _⟩) (v := ?v21x318) rfl (by kernel_rfl) (fun _ _ _ h => h) (by rfl) ?h21x318 (by assumption) ?r21x318
  case h21x318 => intro w' hSw; (try dsimp only [sbx] at hSw); go_simp; try with_reducible rfl
  try simp only [Act.put, ly1, ly2, ly3]
  refine tk (i := 17) (oi := ⟨some 22, _, _, _, _, _⟩) (v := ?v22x319) rfl (by kernel_rfl) (fun _ _ _ h => h) (by rfl) ?h22x319 (by assumption) ?r22x319
  case h22x319 => intro w' hSw; (try dsimp only [sbx] at hSw); go_simp; try with_reducible rfl
  try simp only [Act.put, ly1, ly2, ly3]
  refine tk (i := 18) (oi := ⟨some 23, _, _, _, _, _⟩) (v := ?v23x320) rfl (by kernel_rfl) (fun _ _ _ h => h) (by rfl) ?h23x320 (by assumption) ?r23x320
  case h23x320 => intro w' hSw; (try dsimp only [sbx] at hSw); go_simp; try with_reducible rfl
  try simp only [Act.put, ly1, ly2, ly3]
  refine tk (i := 19) (oi := ⟨some 24, _, _, _, _, _⟩) (v := ?v24x321) rfl (by kernel_rfl) (fun _ _ _ h => h) (by rfl) ?h24x321 (by assumption) ?r24x321
  case h24x321 => intro w' hSw; (try dsimp only [sbx] at hSw); go_simp; try with_reducible rfl
  try simp only [Act.put, ly1, ly2, ly3]
  refine tk (i := 20) (oi := ⟨some 25, _, _, _, _, _⟩) (v := ?v25x322) rfl (by kernel_rfl) (fun _ _ _ h => h) (by rfl) ?h25x322 (by assumption) ?r25x322
  case h25x322 => intro w' hSw; (try dsimp only [sbx] at hSw); go_simp; try with_reducible rfl
  try simp only [Act.put, ly1, ly2, ly3]
  refine tk (i := 21) (oi := ⟨some 26, _, _, _, _, _⟩) (v := ?v26x323) rfl (by kernel_rfl) (fun _ _ _ h => h) (by rfl) ?h26x323 (by assumption) ?r26x323
  case h26x323 => intro w' hSw; (try dsimp only [sbx] at hSw); go_simp; try with_reducible rfl
  try simp only [Act.put, ly1, ly2, ly3]
  refine tk (i := 22) (oi := ⟨some 27, _, _, _, _, _⟩) (v := ?v27x324) rfl (by kernel_rfl) (fun _ _ _ h => h) (by rfl) ?h27x324 (by assumption) ?r27x324
  case h27x324 => intro w' hSw; (try dsimp only [sbx] at hSw); go_simp; try with_reducible rfl
  try simp only [Act.put, ly1, ly2, ly3]
  refine tk (i := 23) (oi := ⟨some 28, _, _, _, _, _⟩) (v := ?v28x325) rfl (by kernel_rfl) (fun _ _ _ h => h) (by rfl) ?h28x325 (by assumption) ?r28x325
  case h28x325 => intro w' hSw; (try dsimp only [sbx] at hSw); go_simp; try with_reducible rfl
  try simp only [Act.put, ly1, ly2, ly3]
  refine tk (i := 24) (oi := ⟨some 29, _, _, _, _, _⟩) (v := ?v29x326) rfl (by kernel_rfl) (fun _ _ _ h => h) (by rfl) ?h29x326 (by assumption) ?r29x326
  case h29x326 => intro w' hSw; (try dsimp only [sbx] at hSw); go_simp; try with_reducible rfl
  try simp only [Act.put, ly1, ly2, ly3]
  refine tk (i := 25) (oi := ⟨some 30, _, _, _, _, _⟩) (v := ?v30x327) rfl (by kernel_rfl) (fun _ _ _ h => h) (by rfl) ?h30x327 (by assumption) ?r30x327
  case h30x327 => intro w' hSw; (try dsimp only [sbx] at hSw); go_simp; try with_reducible rfl
  try simp only [Act.put, ly1, ly2, ly3]
  refine tk (i := 26) (oi := ⟨some 31, _, _, _, _, _⟩) (v := ?v31x328) rfl (by kernel_rfl) (fun _ _ _ h => h) (by rfl) ?h31x328 (by assumption) ?r31x328
  case h31x328 => intro w' hSw; (try dsimp only [sbx] at hSw); go_simp; try with_reducible rfl
  try simp only [Act.put, ly1, ly2, ly3]
  refine tk (i := 27) (oi := ⟨some 32, _, _, _, _, _⟩) (v := ?v32x329) rfl (by kernel_rfl) (fun _ _ _ h => h) (by rfl) ?h32x329 (by assumption) ?r32x329
  case h32x329 => intro w' hSw; (try dsimp only [sbx] at hSw); go_simp; try with_reducible rfl
  try simp only [Act.put, ly1, ly2, ly3]
  refine tk (i := 28) (oi := ⟨some 33, _, _, _, _, _⟩) (v := ?v33x330) rfl (by kernel_rfl) (fun _ _ _ h => h) (by rfl) ?h33x330 (by assumption) ?r33x330
  case h33x330 => intro w' hSw; (try dsimp only [sbx] at hSw); go_simp; try with_reducible rfl
  try simp only [Act.put, ly1, ly2, ly3]
  refine tk (i := 29) (oi := ⟨some 34, _, _, _, _, _⟩) (v := ?v34x331) rfl (by kernel_rfl) (fun _ _ _ h => h) (by rfl) ?h34x331 (by assumption) ?r34x331
  case h34x331 => intro w' hSw; (try dsimp only [sbx] at hSw); go_simp; try with_reducible rfl
  try simp only [Act.put, ly1, ly2, ly3]
  refine tk (i := 30) (oi := ⟨some 35, _, _, _, _, _⟩) (v := ?v35x332) rfl (by kernel_rfl) (fun _ _ _ h => h) (by rfl) ?h35x332 (by assumption) ?r35x332
  case h35x332 => intro w' hSw; (try dsimp only [sbx] at hSw); go_simp; try with_reducible rfl
  try simp only [Act.put, ly1, ly2, ly3]
  refine wpAnyH_take (i := 31) (oi := ⟨some 36, _, _, _, _, _⟩) (v := .agg (repP m o (.slice oE nE cE))) rfl (by kernel_rfl) (by kernel_rfl) (by kernel_rfl) (fun _ _ _ h => h) (Or.inl ⟨by rfl, ?hy36x333⟩) (by assumption) ?rest36x333
  case hy36x333 => intro w' hSw; clear hSw; go_simp; rfl
  try simp only [Act.put, ly1, ly2, ly3]
  refine wpAnyH_ready (rs := [32]) (by kernel_rfl) (by simp) ?_
  refine AllReadyH.cons (o := ⟨none, _, _, _, _, _⟩) rfl (fun K hK => ?_) AllReadyH.nil
  rw [if_pos (by rfl)]
  refine wp_store_mid _ _ _ rfl w.heap.size 0 (repP m o (.slice oE nE cE)) rfl rfl (by exact HTH.out) ref.info_rep (repP_one m o _ rfl) ?_
  generalize h9 : World.setCells _ w.heap.size 0 (repP m o (.slice oE nE cE)).toList = w9
  have t9 : ref.Touch [] w w9 := by rw [← h9]; exact touch_new _ _ _ _ ((ref.Touch.refl _ _).alloc _).drew (Nat.le_refl _)
  have R9 : Hid (w9.rangeAt w.heap.size 0 (repP m o (.slice oE nE cE)).toList) := by rw [← h9]; exact World.rangeAt_setCells_same _ _ _ _ (by exact HTH.out)
  clear h9
  refine hK.out _ _ (HSk.out _ t9) (fun hHeld9 => ?_)
  clear hK K
  try simp only [Act.put, ly1, ly2, ly3]
  refine wpAnyH_done (by kernel_rfl) ?_ _
  go_wp2_with fail
  refine bodyPost_ret (results_c Tryz.results27 _ _ _ w.heap.size (repP m o (.slice oE nE cE)).toList (by rfl) _ R9.out Tryz.underlying32 rfl ref.info_rep) rfl ?_
  exact ⟨by simp, t9⟩
end Go.Proofs.YtmogjicompmkkaaGreatDoor.prog

namespace Go.Proofs.YtmogjicompmkkaaGreatDoor.prog
open Go.ChangeShapes Go.WideShapes Go.ChangeAt Go.RowKit Go.Proofs.YtmogjicompmkkaaGreatDoor.nums Go.Proofs.YtmogjicompmkkaaGreatDoor.dnums Go.Proofs.YtmogjicompmkkaaGreatDoor.mach

set_option linter.unusedVariables false
set_option linter.unusedSimpArgs false
set_option maxRecDepth 10000
attribute [local go_sem ↓] Go.wp_at_zero Go.wp_at_succ
set_option maxHeartbeats 1000000 in
theorem interpret_err (pg : Int) (im : ByteArray) (ba en : Int) (vA : Value) (fu sl ar : Int) (ba0 : 0 ≤ ba) (ba1 : ba ≤ 4294967295) (him : im.size ≤ 1048576) (w : World) (oa : Option Addr) (na ca : Nat) (hvA : vA = .slice oa na ca) (hw : ¬ ref.wrong pg im ba fu sl ar false = 0) :
    Calls Tryz.prog 12 #[.agg #[.int .i64 pg, .string im, .int .u32 ba, .int .u32 en, vA, .int .i64 fu, .int .i64 sl, .int .i64 ar]] w fun e w' => e = .returned (.tuple #[.agg ref.rep0, .int .i64 (ref.wrong pg im ba fu sl ar false)]) ∧ Below w.heap.size w w' := by
  subst hvA
  have HCK : Hid (∀ w, _) := fun w => check_any pg im ba en (.slice oa na ca) fu sl ar ba0 ba1 him w
  obtain ⟨er, her⟩ : ∃ er, er = ref.wrong pg im ba fu sl ar false := ⟨_, rfl⟩
  rw [← her] at HCK hw ⊢
  clear her
  go_enter Tryz.func12, Tryz.ntmps12
  go_wp2_with (first | (go_at_call 24; refine (Calls.mono (HCK.out _) ?_); rintro e w1 ⟨rfl, ht1⟩; have T1 : Hid (ref.Touch [] ((w.alloc (.cells #[.int .i64 pg, .string im, .int .u32 ba, .int .u32 en, .slice oa na ca, .int .i64 fu, .int .i64 sl, .int .i64 ar] 25)).alloc (.cells ref.rep0 32)) w1) := ht1; have HTH : Hid (w1.there (w.heap.size + 1) 0 39) := ref.there_of (ref.two_new w _ _) rfl (ht1.block (w.heap.size + 1) (by simp) (by simp)); have cF : w1.cell? ⟨w.heap.size, 5, none⟩ = some (.int .i64 fu) := (ht1.cell (p := ⟨w.heap.size, 5, none⟩) (by simp; omega) (by simp)).trans (by rw [World.cell?_alloc_past _ _ _ (by simp), World.cell?_alloc_at _ _ _ _ rfl]; rfl); clear ht1) | (refine wpList_store_mid (by rfl) 32 (.tmp 2) (.tmp 11) (by rfl) (w.heap.size + 1) 0 ref.rep0 (by rfl) (by rfl) HTH.out ref.info_rep ref.rep0_one ?_; generalize hw9 : w1.setCells (w.heap.size + 1) 0 ref.rep0.toList = w9; have H9 : Hid (w1.setCells (w.heap.size + 1) 0 ref.rep0.toList = w9) := hw9; clear hw9))
  refine bodyPost_ret (results_ct Tryz.results12 _ _ _ (w.heap.size + 1) ref.rep0.toList (by rfl) _ (by rw [← H9.out]; exact World.rangeAt_setCells_same _ _ _ _ HTH.out) Tryz.underlying32 rfl ref.info_rep) rfl ?_
  refine ⟨rfl, ?_⟩
  rw [← H9.out]
  exact below_setCells (by omega) _ _ _ (((((ref.Touch.refl _ _).alloc _).alloc _).trans T1.out).below (Nat.le_refl _) (by simp))
set_option maxHeartbeats 1000000 in
theorem interpret_ok (pg : Int) (im : ByteArray) (ba en : Int) (vA : Value) (fu sl ar : Int) (ba0 : 0 ≤ ba) (ba1 : ba ≤ 4294967295) (him : im.size ≤ 1048576) (w : World) (oa : Option Addr) (na ca : Nat) (hvA : vA = .slice oa na ca) (ans : List ByteArray) (ha : ref.AnsAt w.heap.size ans vA w) (en0 : 0 ≤ en) (en1 : en ≤ 4294967295) (hw : ref.wrong pg im ba fu sl ar false = 0)
    (hT : ∀ w' x, Below w.heap.size w w' → decodes.Tabs w' x) :
    Calls Tryz.prog 12 #[.agg #[.int .i64 pg, .string im, .int .u32 ba, .int .u32 en, vA, .int .i64 fu, .int .i64 sl, .int .i64 ar]] w fun e w' => ∃ m vE, e = .returned (.tuple #[.agg (repP m m.out vE), .int .i64 0]) ∧ MRun (ref.start pg im ba en ans fu sl ar false) m ∧ m.ended = true ∧ w'.ownsRow w.heap.size 45 3 vE m.evs.length (ref.evCells m.evs) ∧ Below w.heap.size w w' := by
  subst hvA
  have HCK : Hid (∀ w, _) := fun w => check_any pg im ba en (.slice oa na ca) fu sl ar ba0 ba1 him w
  rw [hw] at HCK
  have HNW : Hid (∀ w, ref.AnsAt w.heap.size ans (.slice oa na ca) w → _) := fun w ha => newp_any pg im ba en (.slice oa na ca) fu sl ar ba0 ba1 him w oa na ca rfl en0 en1 hw ans ha
  have HMR : Hid (MRun (ref.start pg im ba en ans fu sl ar false) (ref.start pg im ba en ans fu sl ar false)) := ref.mrun_start pg im ba en ans fu sl ar ba0 en0 en1 hw
  have HIN : Hid (∀ (w2 : World) (n : Nat) (h : PW n w2.heap.size (n + 1 + 1) (n + 1) (n + 1) (ref.start pg im ba en ans fu sl ar false) 0 (.slice none 0 0) (.slice oa na ca) w2), _ → _) := fun w2 n h hT => interp_any n (n + 1 + 1) (n + 1) (n + 1) (ref.start pg im ba en ans fu sl ar false) 0 (.slice oa na ca) w2 h HMR.out rfl rfl hT
  have HA : Hid (ref.AnsAt w.heap.size ans (.slice oa na ca) w) := ha
  have HTB : Hid (∀ w' x, Below w.heap.size w w' → decodes.Tabs w' x) := hT
  clear ha hT hw
  go_enter Tryz.func12, Tryz.ntmps12
  go_wp2_with (first | (go_at_call 24; refine (Calls.mono (HCK.out _) ?_); rintro e w1 ⟨rfl, ht1⟩; have T1 : Hid (ref.Touch [] ((w.alloc (.cells #[.int .i64 pg, .string im, .int .u32 ba, .int .u32 en, .slice oa na ca, .int .i64 fu, .int .i64 sl, .int .i64 ar] 25)).alloc (.cells ref.rep0 32)) w1) := ht1; have HTH : Hid (w1.there (w.heap.size + 1) 0 39) := ref.there_of (ref.two_new w _ _) rfl (ht1.block (w.heap.size + 1) (by simp) (by simp)); have cF : w1.cell? ⟨w.heap.size, 5, none⟩ = some (.int .i64 fu) := (ht1.cell (p := ⟨w.heap.size, 5, none⟩) (by simp; omega) (by simp)).trans (by rw [World.cell?_alloc_past _ _ _ (by simp), World.cell?_alloc_at _ _ _ _ rfl]; rfl); have s0 : w1.cell? ⟨w.heap.size, 0, none⟩ = some (.int .i64 pg) := (ht1.cell (p := ⟨w.heap.size, 0, none⟩) (by simp; omega) (by simp)).trans (by rw [World.cell?_alloc_past _ _ _ (by simp), World.cell?_alloc_at _ _ _ _ rfl]; rfl); have s1 : w1.cell? ⟨w.heap.size, 1, none⟩ = some (.string im) := (ht1.cell (p := ⟨w.heap.size, 1, none⟩) (by simp; omega) (by simp)).trans (by rw [World.cell?_alloc_past _ _ _ (by simp), World.cell?_alloc_at _ _ _ _ rfl]; rfl); have s2 : w1.cell? ⟨w.heap.size, 2, none⟩ = some (.int .u32 ba) := (ht1.cell (p := ⟨w.heap.size, 2, none⟩) (by simp; omega) (by simp)).trans (by rw [World.cell?_alloc_past _ _ _ (by simp), World.cell?_alloc_at _ _ _ _ rfl]; rfl); have s3 : w1.cell? ⟨w.heap.size, 3, none⟩ = some (.int .u32 en) := (ht1.cell (p := ⟨w.heap.size, 3, none⟩) (by simp; omega) (by simp)).trans (by rw [World.cell?_alloc_past _ _ _ (by simp), World.cell?_alloc_at _ _ _ _ rfl]; rfl); have s4 : w1.cell? ⟨w.heap.size, 4, none⟩ = some (.slice oa na ca) := (ht1.cell (p := ⟨w.heap.size, 4, none⟩) (by simp; omega) (by simp)).trans (by rw [World.cell?_alloc_past _ _ _ (by simp), World.cell?_alloc_at _ _ _ _ rfl]; rfl); have s5 : w1.cell? ⟨w.heap.size, 5, none⟩ = some (.int .i64 fu) := (ht1.cell (p := ⟨w.heap.size, 5, none⟩) (by simp; omega) (by simp)).trans (by rw [World.cell?_alloc_past _ _ _ (by simp), World.cell?_alloc_at _ _ _ _ rfl]; rfl); have s6 : w1.cell? ⟨w.heap.size, 6, none⟩ = some (.int .i64 sl) := (ht1.cell (p := ⟨w.heap.size, 6, none⟩) (by simp; omega) (by simp)).trans (by rw [World.cell?_alloc_past _ _ _ (by simp), World.cell?_alloc_at _ _ _ _ rfl]; rfl); have s7 : w1.cell? ⟨w.heap.size, 7, none⟩ = some (.int .i64 ar) := (ht1.cell (p := ⟨w.heap.size, 7, none⟩) (by simp; omega) (by simp)).trans (by rw [World.cell?_alloc_past _ _ _ (by simp), World.cell?_alloc_at _ _ _ _ rfl]; rfl); clear ht1) | (go_at_call 25; refine (Calls.mono (HNW.out _ (HA.out.mono2 ((((ref.Touch.refl _ _).alloc _).alloc _).trans T1.out) (by have := T1.out.size; simp at this; omega))) ?_); rintro e w2 ⟨rfl, hp2, hb2⟩; have P2 : Hid (PW w1.heap.size w2.heap.size (w1.heap.size + 1 + 1) (w1.heap.size + 1) (w1.heap.size + 1) (ref.start pg im ba en ans fu sl ar false) 0 (.slice none 0 0) (.slice oa na ca) w2) := hp2; have B2 : Hid (Below w1.heap.size w1 w2) := hb2; have hl1 : w.heap.size + 1 + 1 ≤ w1.heap.size := (by have := T1.out.size; simp at this; omega); have cF2 : w2.cell? ⟨w.heap.size, 5, none⟩ = some (.int .i64 fu) := (World.cell?_of_block (w := w1) (a := ⟨w.heap.size, 5, none⟩) (hb2.block w.heap.size (by omega))).trans cF; have HTH2 : Hid (w2.there (w.heap.size + 1) 0 39) := ref.there_below HTH.out (by decide) hb2 (by omega); have BW2 : Hid (Below w.heap.size w w2) := (((((ref.Touch.refl _ _).alloc _).alloc _).trans T1.out).below (Nat.le_refl _) (by simp)).trans (hb2.mono (by omega)); clear hp2 hb2) | (go_at_call 26; refine (Calls.mono (HIN.out w2 (w1.heap.size) P2.out (fun w' x t => HTB.out w' x (BW2.out.trans (t.below (by have := BW2.out.size; omega) (by simp; omega))))) ?_); rintro e w3 ⟨mF, nx3, vE3, vA3, rfl, q1, q2, q3, q4⟩; have HQ : Hid (MRun (ref.start pg im ba en ans fu sl ar false) mF ∧ mF.ended = true ∧ PW w1.heap.size w2.heap.size (w1.heap.size + 1 + 1) (w1.heap.size + 1) (w1.heap.size + 1) mF nx3 vE3 vA3 w3 ∧ ref.Touch [w1.heap.size + 1 + 1, w1.heap.size + 1, w1.heap.size + 1] w2 w3) := ⟨q1, q2, q3, q4⟩; clear q1 q2 q3 q4) | (go_at_call 27; refine (Calls.mono (report_any w1.heap.size w2.heap.size (w1.heap.size + 1 + 1) (w1.heap.size + 1) (w1.heap.size + 1) mF nx3 vE3 vA3 w3 HQ.out.2.2.1 HQ.out.1.good.pos HQ.out.1.good.fine mF.out) ?_); rintro e w4 ⟨rfl, ht4⟩; have T4 : Hid (ref.Touch [] w3 w4) := ht4; have HTH4 : Hid (w4.there (w.heap.size + 1) 0 39) := there_t (there_t HTH2.out (by decide) HQ.out.2.2.2 (by simp; omega)) (by decide) ht4 (by simp); clear ht4) | (refine wpList_store_mid (by rfl) 32 (.tmp 2) (.tmp 21) (by rfl) (w.heap.size + 1) 0 (repP mF mF.out vE3) (by rfl) (by rfl) HTH4.out ref.info_rep (repP_one mF _ _ (ref.own_one HQ.out.2.2.1.evs)) ?_; generalize hw9 : w4.setCells (w.heap.size + 1) 0 (repP mF mF.out vE3).toList = w9; have H9 : Hid (w4.setCells (w.heap.size + 1) 0 (repP mF mF.out vE3).toList = w9) := hw9; clear hw9))
  refine bodyPost_ret (results_ct Tryz.results12 _ _ _ (w.heap.size + 1) (repP mF mF.out vE3).toList (by rfl) _ (by rw [← H9.out]; exact World.rangeAt_setCells_same _ _ _ _ HTH4.out) Tryz.underlying32 rfl ref.info_rep) rfl ?_
  have hq := HQ.out.2.2.1
  have t9 : ref.Touch [w.heap.size + 1] w4 w9 := by rw [← H9.out]; exact touch_sets (by simp) _ _ _ _ (ref.Touch.refl _ _)
  have l2 := BW2.out.size
  have l3 := HQ.out.2.2.2.size
  have l4 := T4.out.size
  have lw2 : w1.heap.size ≤ w2.heap.size := B2.out.size
  refine ⟨mF, vE3, rfl, HQ.out.1, HQ.out.2.1, ?_, ?_⟩
  · refine ref.own_base (ref.own_touch (ref.own_touch hq.evs T4.out (by simp)) t9 (fun k hk => ?_)) l2
    have := (ref.own_lt hq.evs k hk).1
    simp; omega
  · exact ((BW2.out.trans (HQ.out.2.2.2.below l2 (by simp; omega))).trans (T4.out.below (by omega) (by simp))).trans (t9.below (by omega) (by simp))
end Go.Proofs.YtmogjicompmkkaaGreatDoor.prog

import Derived.Test.YtjikimpejlmdiaaGreatDoorWKpE
import Derived.OpenShut
import Derived.BigQuiet
import Derived.Deep.MidRow
import Derived.Deep.Cut
import Derived.Deep.CutRange
set_option maxHeartbeats 4000000
set_option linter.unusedVariables false
set_option linter.unusedSimpArgs false
set_option maxRecDepth 10000
namespace Go.Proofs.YtjikimpejlmdiaaGreatDoor
namespace keep
open IntWalk ChangeShapes WideShapes ChangeAt RowKit nums dnums mach
attribute [local go_sem ↓] Go.wp_at_zero Go.wp_at_succ
theorem sums_or (f : Int) (h0 : 0 <= f) (h1 : f <= 7) : bits BinOp.or IntKind.u32 (bits BinOp.or IntKind.u32 (bits BinOp.or IntKind.u32 (bits BinOp.or IntKind.u32 33554483 (f * 4096)) 384) 32768) 2097152 = sumsW f := by
  have : f = 0 \/ f = 1 \/ f = 2 \/ f = 3 \/ f = 4 \/ f = 5 \/ f = 6 \/ f = 7 := by omega
  rcases this with rfl | rfl | rfl | rfl | rfl | rfl | rfl | rfl <;> decide +kernel
theorem sums_bd (f : Int) (h0 : 0 <= f) (h1 : f <= 7) : ∀ x ∈ [16785539, 20979971, sumsW f, 1048691], 0 <= x /\ x <= 4294967295 := by
  intro x hx
  simp at hx
  unfold sumsW at hx
  omega
theorem sums_cell (y : Int) (k : Nat) (x : Int) (hk : [16785539, 20979971, y, 1048691][k]? = some x) : (#[.int .u32 16785539, .int .u32 20979971, .int .u32 y, .int .u32 1048691] : Array Value)[k]? = some (.int .u32 x) := by
  have h4 : k < 4 := (List.getElem?_eq_some_iff.1 hk).1
  have : k = 0 \/ k = 1 \/ k = 2 \/ k = 3 := by omega
  rcases this with rfl | rfl | rfl | rfl <;> (injection hk with hk; subst hk; rfl)
theorem sums_w0 (f a b : Int) (bl : Bool) : ref.wrong 1 (textB (sumsL f a b)) 0 9 1 8 bl = 0 := by
  have hs : (textB (sumsL f a b)).size = 24 := text_size _
  unfold ref.wrong
  rw [hs, if_neg oM, if_neg oM, if_neg oM, if_neg oM]
theorem sums_r {f a b : Int} {m : M} {o er : Int} (f0 : 0 <= f) (f1 : f <= 7) (a0 : 0 <= a) (a1 : a <= 4294967295) (b0 : 0 <= b) (b1 : b <= 4294967295) (h : ResB 1 (textB (sumsL f a b)) 0 0 9 1 8 [] m o er) : er = 0 /\ o = 9 /\ m.steps = 3 /\ m.regs 1 = a /\ m.regs 2 = b /\ m.regs 3 = comp (37 + f) a b := by
  have hr := sums_run f a b 1 8 f0 f1 a0 a1 b0 b1
  have hc : core (ref.start 1 (textB (sumsL f a b)) 0 0 [] 9 1 8 false) = core (ref.start 1 (textB (sumsL f a b)) 0 0 [] 9 1 8 true) := start_core _ _ _ _ _ _ _ _ _ _ _ _
  rcases h with ⟨_, h1, h2, h3, h4⟩ | ⟨h0, _⟩
  · obtain ⟨k, hk⟩ := h1.reach
    rw [hk] at h2
    clear h1
    generalize ref.start 1 (textB (sumsL f a b)) 0 0 [] 9 1 8 true = S at *
    generalize ref.start 1 (textB (sumsL f a b)) 0 0 [] 9 1 8 false = S0 at *
    have ea := core_eq (runs_alike hc 4 k hr.1 h2)
    exact ⟨h4, by rw [h3, hk, <- ea.1]; exact hr.2.1, by rw [hk, <- ea.2.2.2.2.2.1]; exact hr.2.2.1, by rw [hk, <- ea.2.2.1]; exact hr.2.2.2.1, by rw [hk, <- ea.2.2.1]; exact hr.2.2.2.2.1, by rw [hk, <- ea.2.2.1]; exact hr.2.2.2.2.2⟩
  · exact absurd (sums_w0 f a b true) h0
theorem sums_any (a b f : Int) (w : World) (wa : (Lit.int .u32 a).wf = true) (wb : (Lit.int .u32 b).wf = true) (wf : (Lit.int .i64 f).wf = true) (hT : ∀ w' x, Below w.heap.size w w' -> decodes.Tabs w' x) :
    Calls Tryz.prog 11 #[.int .u32 a, .int .u32 b, .int .i64 f] w fun e w' => e = .returned (.bool true) /\ Below w.heap.size w w' := by
  have HTB : Hid (∀ w' x, Below w.heap.size w w' -> decodes.Tabs w' x) := hT
  clear hT
  have ba := bounds_u32 wa
  have bb := bounds_u32 wb
  have bf := bounds_i64 wf
  obtain ⟨ba0, ba1⟩ := ba
  obtain ⟨bb0, bb1⟩ := bb
  go_enter Tryz.func11, Tryz.ntmps11
  go_wp2_with fail
  refine (Calls.mono (alive_any w HTB.out) ?_)
  rintro e w1 ⟨rfl, hb⟩
  have HB1 : Hid (Below w.heap.size w w1) := hb
  clear hb
  go_upto_if 20 with fail
  go_cut [2] from 18 (fun s wx => (∃ z : Int, 0 <= z /\ z <= 9223372036854775807 /\ s = .int .i64 z) /\ wx = w1)
  case first =>
    by_cases hneg : f < 0
    · go_wp2_with fail
      go_meet
      exact ⟨⟨-(f + 1), by omega, by omega, by first | rfl | (simp; done) | (congr 1; omega)⟩, rfl⟩
    · have hpos : 0 <= f := by omega
      go_wp2_with fail
      go_meet
      exact ⟨⟨f, by omega, by omega, rfl⟩, rfl⟩
  case rest =>
  obtain ⟨⟨f1, f10, f11, rfl⟩, hwc⟩ := hcut
  replace hwc := hwc.symm
  subst hwc
  have hor : bits BinOp.or IntKind.u32 (bits BinOp.or IntKind.u32 (bits BinOp.or IntKind.u32 (bits BinOp.or IntKind.u32 33554483 (f1 % 8 * 4096)) 384) 32768) 2097152 = sumsW (f1 % 8) := sums_or _ oM oM
  obtain ⟨so1, so2, so3, so4⟩ := sums_op (f1 % 8) oM oM
  go_wp2_with fail
  have hd : dec (sumsW (f1 % 8)) = .tuple #[.agg #[.int .i64 (37 + f1 % 8), .int .i64 3, .int .i64 1, .int .i64 2, .int .i32 (imm (sumsW (f1 % 8)))], .bool true] := by rw [dec_raw _ oM, so1, so2, so3, so4]; rfl
  refine (Calls.mono (decodes.dcall_any (sumsW (f1 % 8)) (by unfold sumsW; omega) (by unfold sumsW; omega) w1 (HTB.out w1 _ HB1.out)) ?_)
  rintro e w2 ⟨rfl, hb⟩
  have HB2 : Hid (Below w.heap.size w w2) := HB1.out.trans (hb.mono HB1.out.size)
  clear hb
  rw [hd]
  go_wp2_with fail
  refine (Calls.mono (computes.call_any (37 + f1 % 8) a b ba0 ba1 bb0 bb1 _) ?_)
  rintro e w3 ⟨rfl, hw3⟩
  subst w3
  have HB3 : Hid (Below w.heap.size w (w2.alloc (.cells #[.int .i64 (37 + f1 % 8), .int .i64 3, .int .i64 1, .int .i64 2, .int .i32 (imm (sumsW (f1 % 8)))] 61))) := HB2.out.alloc HB2.out.size _
  go_wp2_with fail
  refine (Calls.mono (word_any a ba0 ba1 _) ?_)
  rintro e w4 ⟨rfl, ht⟩
  have HB1 : Hid (Below w.heap.size w w4) := below_touch HB3.out ht
  clear ht
  go_wp2_with fail
  refine (Calls.mono (word_any b bb0 bb1 _) ?_)
  rintro e w5 ⟨rfl, ht⟩
  have HB2 : Hid (Below w.heap.size w w5) := below_touch HB1.out ht
  clear ht
  go_wp2_with fail
  have ht : ref.Touch [] w5 (w5.alloc (.cells #[.int .u32 16785539, .int .u32 20979971, .int .u32 (sumsW (f1 % 8)), .int .u32 1048691] 22)) := (ref.Touch.refl _ _).alloc _
  have HB3 : Hid (Below w.heap.size w (w5.alloc (.cells #[.int .u32 16785539, .int .u32 20979971, .int .u32 (sumsW (f1 % 8)), .int .u32 1048691] 22))) := below_touch HB2.out ht
  clear ht
  refine (Calls.mono (text_any [16785539, 20979971, (sumsW (f1 % 8)), 1048691] sP (sums_bd _ oM oM) w5.heap.size 4 (w5.alloc (.cells #[.int .u32 16785539, .int .u32 20979971, .int .u32 (sumsW (f1 % 8)), .int .u32 1048691] 22)) (fun k x hk => ?_)) ?_)
  · rw [World.cell?_alloc_at _ _ _ _ rfl]; exact sums_cell _ k x hk
  rintro e w7 ⟨rfl, ht⟩
  have HB4 : Hid (Below w.heap.size w w7) := below_touch HB3.out ht
  clear ht
  have q1 : ¬ 9223372036854775807 < (textB [16785539, 20979971, (sumsW (f1 % 8)), 1048691]).size + (wordB a).size := by rw [text_size, word_size]; show ¬ 9223372036854775807 < 4 * 4 + 4; omega
  have q2 : ¬ 9223372036854775807 < (textB [16785539, 20979971, (sumsW (f1 % 8)), 1048691] ++ wordB a).size + (wordB b).size := by rw [text_snoc, text_size, word_size]; show ¬ 9223372036854775807 < 4 * 5 + 4; omega
  have hcat : textB [16785539, 20979971, (sumsW (f1 % 8)), 1048691] ++ wordB a ++ wordB b = textB (sumsL (f1 % 8) a b) := by rw [text_snoc, text_snoc]; rfl
  go_wp2_with fail
  have ht : ref.Touch [] w7 (w7.alloc (.cells #[.int .i64 1, .string (textB (sumsL (f1 % 8) a b)), .int .u32 0, .int .u32 0, .slice none 0 0, .int .i64 9, .int .i64 1, .int .i64 8] 25)) := (ref.Touch.refl _ _).alloc _
  have HB5 : Hid (Below w.heap.size w (w7.alloc (.cells #[.int .i64 1, .string (textB (sumsL (f1 % 8) a b)), .int .u32 0, .int .u32 0, .slice none 0 0, .int .i64 9, .int .i64 1, .int .i64 8] 25))) := below_touch HB4.out ht
  clear ht
  generalize (w7.alloc (.cells #[.int .i64 1, .string (textB (sumsL (f1 % 8) a b)), .int .u32 0, .int .u32 0, .slice none 0 0, .int .i64 9, .int .i64 1, .int .i64 8] 25)) = w8 at *
  refine (Calls.mono (run_res 1 (textB (sumsL (f1 % 8) a b)) 0 0 9 1 8 [] dC dC dC dC (by rw [text_size]; show 4 * 6 <= 1048576; decide) (.slice none 0 0) w8 (ans_nil _) (fun w' x hb => HTB.out w' x (HB5.out.trans (hb.mono HB5.out.size)))) ?_)
  rintro e wa1 ⟨m1, o1, er1, v1, rfl, hres, how, hb⟩
  have HRES1 : Hid (ResB 1 (textB (sumsL (f1 % 8) a b)) 0 0 9 1 8 [] m1 o1 er1) := hres
  have hto : ref.Touch [] w8 wa1 := ref.Touch.of_below hb
  have HB6 : Hid (Below w.heap.size w wa1) := below_touch HB5.out hto
  have HO1a : Hid (wa1.ownsRow w8.heap.size 52 3 v1 m1.evs.length (ref.evCells m1.evs)) := how
  have HV1 : Hid (v1.oneCell' = true) := ref.own_one how
  have HTH1 : Hid (∀ (cs : Array Value) (t : TypeId), cs.size = 39 -> (wa1.alloc (.cells cs t)).there wa1.heap.size 0 (prog.repP m1 o1 v1).size) := fun cs t hc => there_new wa1 cs t _ hc
  clear hres how hb hto
  obtain ⟨rfl, HF1⟩ : er1 = 0 /\ Hid _ := sums_r oM oM ba0 ba1 bb0 bb1 HRES1.out
  go_wp2_with (first | (refine wpList_store_mid rfl 32 (.tmp 16) (.tmp 58) rfl wa1.heap.size 0 (prog.repP m1 o1 v1) rfl rfl (HTH1.out _ _ rfl) ref.info_rep (prog.repP_one m1 o1 v1 HV1.out) ?_; generalize hst : World.setCells _ wa1.heap.size 0 (prog.repP m1 o1 v1).toList = wb1; have ts : ref.Touch [] wa1 wb1 := (by rw [<- hst]; exact prog.touch_new _ _ _ _ ((ref.Touch.refl _ _).alloc _) (Nat.le_refl _)); have HRn1 : Hid (wb1.rangeAt wa1.heap.size 0 (prog.repP m1 o1 v1).toList) := (by rw [<- hst]; exact World.rangeAt_setCells_same _ _ _ _ (HTH1.out _ _ rfl)); have HO7 : Hid (wb1.ownsRow w8.heap.size 52 3 v1 m1.evs.length (ref.evCells m1.evs)) := ref.own_touch HO1a.out ts sP; have HB8 : Hid (Below w.heap.size w wb1) := below_touch HB6.out ts; clear hst ts; obtain ⟨y1, y2, y3, y4, y5⟩ := HF1.out; have p0 : wb1.cell? ⟨wa1.heap.size, 0, none⟩ = some (.int .i64 9) := (HRn1.out 0 _ rfl).trans (by rw [<- y1]); have p37 : wb1.cell? ⟨wa1.heap.size, 37, none⟩ = some (.int .i64 3) := (HRn1.out 37 _ rfl).trans (by rw [<- y2]); have p3 : wb1.cell? ⟨wa1.heap.size, 3, none⟩ = some (.int .u32 a) := (HRn1.out 3 _ rfl).trans (by rw [<- y3]); have p4 : wb1.cell? ⟨wa1.heap.size, 4, none⟩ = some (.int .u32 b) := (HRn1.out 4 _ rfl).trans (by rw [<- y4]); have p5 : wb1.cell? ⟨wa1.heap.size, 5, none⟩ = some (.int .u32 (comp (37 + f1 % 8) a b)) := (HRn1.out 5 _ rfl).trans (by rw [<- y5]); clear y1 y2 y3 y4 y5))
  go_ret
  exact ⟨rfl, HB8.out⟩
end keep
end Go.Proofs.YtjikimpejlmdiaaGreatDoor

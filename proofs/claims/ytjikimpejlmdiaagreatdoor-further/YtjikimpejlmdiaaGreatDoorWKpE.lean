import Derived.Test.YtjikimpejlmdiaaGreatDoorWGv
import Derived.Deep.MidRow
set_option maxHeartbeats 4000000
set_option linter.unusedVariables false
set_option linter.unusedSimpArgs false
set_option maxRecDepth 10000
namespace Go.Proofs.YtjikimpejlmdiaaGreatDoor
namespace keep
open ChangeShapes WideShapes ChangeAt RowKit nums dnums mach
attribute [local go_sem ↓] Go.wp_at_zero Go.wp_at_succ
theorem memD_size (f : Nat -> Int) (k n : Nat) : (ref.memD f k n).size = n := by simp [ref.memD, ByteArray.size]
theorem resb_out {pg : Int} {im : ByteArray} {ba en fu sl ar : Int} {ans : List ByteArray} {m : M} (h1 : BRun (ref.start pg im ba en ans fu sl ar true) m) (h2 : m.ended = true) (ho : m.out = 0) : m.steps = fu := by
  obtain ⟨k, hk⟩ := h1.reach
  have h3 := out_0 (ref.start pg im ba en ans fu sl ar true) rfl k (by rw [<- hk]; exact h2) (by rw [<- hk]; exact ho)
  rw [<- hk] at h3
  have h4 := h1.good.fine.within
  have h5 : m.fuel = fu := h1.fuel
  omega
theorem sober_c {pg : Int} {im : ByteArray} {ba en fu sl ar : Int} {ans : List ByteArray} {m : M} {o er : Int} (ba0 : 0 <= ba) (en0 : 0 <= en) (en1 : en <= 4294967295) (h : ResB pg im ba en fu sl ar ans m o er) :
    ((er == 0) = false /\ Hid (ref.memD m.mem 0 m.size = ⟨#[]⟩ /\ m.steps = 0 /\ m.built = 0 /\ m.evs.length = 0)) \/ (er = 0 /\ Hid (m.regs 0 = 0 /\ ((ref.memD m.mem 0 m.size).size : Int) = pg * 64 /\ m.steps <= fu /\ m.built <= m.steps + 1 /\ 0 <= m.steps /\ m.steps <= 2000 /\ 0 <= m.built /\ 1 <= pg /\ pg <= 8) /\ (o = 0 -> m.steps = fu)) := by
  rcases h with ⟨h0, h1, h2, h3, h4⟩ | ⟨h0, h1, h2, h3⟩
  · refine Or.inr ⟨h4, ⟨h1.good.fine.zero, ?_, ?_, ?_, h1.good.fine.steps, ?_, h1.bt0, ?_⟩, fun ho => resb_out h1 h2 (by rw [<- h3]; exact ho)⟩
    · have hg := ref.good_start pg im ba en ans fu sl ar true ba0 en0 en1 h0
      have hz : m.size = (pg * 64).toNat := h1.size
      rw [memD_size, hz]; omega
    · have h5 : m.fuel = fu := h1.fuel
      have := h1.good.fine.within; omega
    · have := h1.bt1; rw [h2] at this; simpa using this
    · have := h1.good.fine.within; have := h1.good.fine.fuel.2; omega
    · have hg := ref.good_start pg im ba en ans fu sl ar true ba0 en0 en1 h0
      exact ⟨hg.2.1, hg.2.2.1⟩
  · refine Or.inl ⟨?_, ?_⟩
    · rw [h3]; simpa using h0
    · rw [h1]; exact ⟨rfl, rfl, rfl, rfl⟩
theorem sober_any (pg : Int) (im : ByteArray) (ba en fu sl ar : Int) (oa : Option Addr) (l : List ByteArray) (ca : Nat) (w : World) (ba0 : 0 <= ba) (ba1 : ba <= 4294967295) (en0 : 0 <= en) (en1 : en <= 4294967295) (hfu : (Lit.int .i64 fu).wf = true) (h : ArgAt l oa ca w) (hT : ∀ w' x, Below w.heap.size w w' -> decodes.Tabs w' x) :
    Calls Tryz.prog 8 #[.agg #[.int .i64 pg, .string im, .int .u32 ba, .int .u32 en, .slice oa l.length ca, .int .i64 fu, .int .i64 sl, .int .i64 ar]] w fun e w' => e = .returned (.bool true) /\ Below w.heap.size w w' := by
  have HTB : Hid (∀ w' x, Below w.heap.size w w' -> decodes.Tabs w' x) := hT
  have HA0 : Hid (ArgAt l oa ca (w.alloc (.cells #[.int .i64 pg, .string im, .int .u32 ba, .int .u32 en, .slice oa l.length ca, .int .i64 fu, .int .i64 sl, .int .i64 ar] 25))) := h.below ((Below.refl _ _).alloc (Nat.le_refl _) _)
  have HB0 : Hid (Below w.heap.size w (w.alloc (.cells #[.int .i64 pg, .string im, .int .u32 ba, .int .u32 en, .slice oa l.length ca, .int .i64 fu, .int .i64 sl, .int .i64 ar] 25))) := (Below.refl _ _).alloc (Nat.le_refl _) _
  clear h hT
  go_enter Tryz.func8, Tryz.ntmps8
  go_wp2_with fail
  have a0 : (w.alloc (.cells #[.int .i64 pg, .string im, .int .u32 ba, .int .u32 en, .slice oa l.length ca, .int .i64 fu, .int .i64 sl, .int .i64 ar] 25)).cell? ⟨w.heap.size, 0, none⟩ = some (.int .i64 pg) := (World.cell?_alloc_at _ _ _ _ rfl).trans rfl
  have a1 : (w.alloc (.cells #[.int .i64 pg, .string im, .int .u32 ba, .int .u32 en, .slice oa l.length ca, .int .i64 fu, .int .i64 sl, .int .i64 ar] 25)).cell? ⟨w.heap.size, 1, none⟩ = some (.string im) := (World.cell?_alloc_at _ _ _ _ rfl).trans rfl
  have a2 : (w.alloc (.cells #[.int .i64 pg, .string im, .int .u32 ba, .int .u32 en, .slice oa l.length ca, .int .i64 fu, .int .i64 sl, .int .i64 ar] 25)).cell? ⟨w.heap.size, 2, none⟩ = some (.int .u32 ba) := (World.cell?_alloc_at _ _ _ _ rfl).trans rfl
  have a3 : (w.alloc (.cells #[.int .i64 pg, .string im, .int .u32 ba, .int .u32 en, .slice oa l.length ca, .int .i64 fu, .int .i64 sl, .int .i64 ar] 25)).cell? ⟨w.heap.size, 3, none⟩ = some (.int .u32 en) := (World.cell?_alloc_at _ _ _ _ rfl).trans rfl
  have a4 : (w.alloc (.cells #[.int .i64 pg, .string im, .int .u32 ba, .int .u32 en, .slice oa l.length ca, .int .i64 fu, .int .i64 sl, .int .i64 ar] 25)).cell? ⟨w.heap.size, 4, none⟩ = some (.slice oa l.length ca) := (World.cell?_alloc_at _ _ _ _ rfl).trans rfl
  have a5 : (w.alloc (.cells #[.int .i64 pg, .string im, .int .u32 ba, .int .u32 en, .slice oa l.length ca, .int .i64 fu, .int .i64 sl, .int .i64 ar] 25)).cell? ⟨w.heap.size, 5, none⟩ = some (.int .i64 fu) := (World.cell?_alloc_at _ _ _ _ rfl).trans rfl
  have a6 : (w.alloc (.cells #[.int .i64 pg, .string im, .int .u32 ba, .int .u32 en, .slice oa l.length ca, .int .i64 fu, .int .i64 sl, .int .i64 ar] 25)).cell? ⟨w.heap.size, 6, none⟩ = some (.int .i64 sl) := (World.cell?_alloc_at _ _ _ _ rfl).trans rfl
  have a7 : (w.alloc (.cells #[.int .i64 pg, .string im, .int .u32 ba, .int .u32 en, .slice oa l.length ca, .int .i64 fu, .int .i64 sl, .int .i64 ar] 25)).cell? ⟨w.heap.size, 7, none⟩ = some (.int .i64 ar) := (World.cell?_alloc_at _ _ _ _ rfl).trans rfl
  refine (Calls.mono (alive_any (w.alloc (.cells #[.int .i64 pg, .string im, .int .u32 ba, .int .u32 en, .slice oa l.length ca, .int .i64 fu, .int .i64 sl, .int .i64 ar] 25)) (fun w' x hb => HTB.out w' x (HB0.out.trans (hb.mono HB0.out.size)))) ?_)
  rintro e w1 ⟨rfl, hb⟩
  have hto : ref.Touch [] (w.alloc (.cells #[.int .i64 pg, .string im, .int .u32 ba, .int .u32 en, .slice oa l.length ca, .int .i64 fu, .int .i64 sl, .int .i64 ar] 25)) w1 := ref.Touch.of_below hb
  have c11 : w1.cell? ⟨w.heap.size, 0, none⟩ = some (.int .i64 pg) := (hto.cell (p := ⟨w.heap.size, 0, none⟩) (World.block_lt_of_cell? _ _ a0) sP).trans a0
  have c12 : w1.cell? ⟨w.heap.size, 1, none⟩ = some (.string im) := (hto.cell (p := ⟨w.heap.size, 1, none⟩) (World.block_lt_of_cell? _ _ a1) sP).trans a1
  have c13 : w1.cell? ⟨w.heap.size, 2, none⟩ = some (.int .u32 ba) := (hto.cell (p := ⟨w.heap.size, 2, none⟩) (World.block_lt_of_cell? _ _ a2) sP).trans a2
  have c14 : w1.cell? ⟨w.heap.size, 3, none⟩ = some (.int .u32 en) := (hto.cell (p := ⟨w.heap.size, 3, none⟩) (World.block_lt_of_cell? _ _ a3) sP).trans a3
  have c15 : w1.cell? ⟨w.heap.size, 4, none⟩ = some (.slice oa l.length ca) := (hto.cell (p := ⟨w.heap.size, 4, none⟩) (World.block_lt_of_cell? _ _ a4) sP).trans a4
  have c16 : w1.cell? ⟨w.heap.size, 5, none⟩ = some (.int .i64 fu) := (hto.cell (p := ⟨w.heap.size, 5, none⟩) (World.block_lt_of_cell? _ _ a5) sP).trans a5
  have c17 : w1.cell? ⟨w.heap.size, 6, none⟩ = some (.int .i64 sl) := (hto.cell (p := ⟨w.heap.size, 6, none⟩) (World.block_lt_of_cell? _ _ a6) sP).trans a6
  have c18 : w1.cell? ⟨w.heap.size, 7, none⟩ = some (.int .i64 ar) := (hto.cell (p := ⟨w.heap.size, 7, none⟩) (World.block_lt_of_cell? _ _ a7) sP).trans a7
  have HA19 : Hid (ArgAt l oa ca w1) := HA0.out.below (hto.below (Nat.le_refl _) sP)
  have HB20 : Hid (Below w.heap.size w w1) := below_touch HB0.out hto
  clear a0 a1 a2 a3 a4 a5 a6 a7
  clear hb hto
  go_wp2_with fail
  refine (Calls.mono (few_any pg im ba en fu sl ar oa l ca w1 HA19.out) ?_)
  rintro e w2 ⟨y, rfl, hy, ht⟩
  have HY : Hid (y = true -> Few im l) := hy
  have c21 : w2.cell? ⟨w.heap.size, 0, none⟩ = some (.int .i64 pg) := (ht.cell (p := ⟨w.heap.size, 0, none⟩) (World.block_lt_of_cell? _ _ c11) sP).trans c11
  have c22 : w2.cell? ⟨w.heap.size, 1, none⟩ = some (.string im) := (ht.cell (p := ⟨w.heap.size, 1, none⟩) (World.block_lt_of_cell? _ _ c12) sP).trans c12
  have c23 : w2.cell? ⟨w.heap.size, 2, none⟩ = some (.int .u32 ba) := (ht.cell (p := ⟨w.heap.size, 2, none⟩) (World.block_lt_of_cell? _ _ c13) sP).trans c13
  have c24 : w2.cell? ⟨w.heap.size, 3, none⟩ = some (.int .u32 en) := (ht.cell (p := ⟨w.heap.size, 3, none⟩) (World.block_lt_of_cell? _ _ c14) sP).trans c14
  have c25 : w2.cell? ⟨w.heap.size, 4, none⟩ = some (.slice oa l.length ca) := (ht.cell (p := ⟨w.heap.size, 4, none⟩) (World.block_lt_of_cell? _ _ c15) sP).trans c15
  have c26 : w2.cell? ⟨w.heap.size, 5, none⟩ = some (.int .i64 fu) := (ht.cell (p := ⟨w.heap.size, 5, none⟩) (World.block_lt_of_cell? _ _ c16) sP).trans c16
  have c27 : w2.cell? ⟨w.heap.size, 6, none⟩ = some (.int .i64 sl) := (ht.cell (p := ⟨w.heap.size, 6, none⟩) (World.block_lt_of_cell? _ _ c17) sP).trans c17
  have c28 : w2.cell? ⟨w.heap.size, 7, none⟩ = some (.int .i64 ar) := (ht.cell (p := ⟨w.heap.size, 7, none⟩) (World.block_lt_of_cell? _ _ c18) sP).trans c18
  have HA29 : Hid (ArgAt l oa ca w2) := HA19.out.below (ht.below (Nat.le_refl _) sP)
  have HB30 : Hid (Below w.heap.size w w2) := below_touch HB20.out ht
  clear c11 c12 c13 c14 c15 c16 c17 c18
  clear hy ht
  cases y with
  | false =>
    go_wp2_with fail
    go_ret
    exact ⟨rfl, HB30.out⟩
  | true =>
    have HFW : Hid (Few im l) := HY.out rfl
    go_wp2_with fail
    refine (Calls.mono (run_res pg im ba en fu sl ar l ba0 ba1 en0 en1 HFW.out.1 (.slice oa l.length ca) w2 (HA29.out.ans HFW.out) (fun w' x hb => HTB.out w' x (HB30.out.trans (hb.mono HB30.out.size)))) ?_)
    rintro e wa1 ⟨m1, o1, er1, v1, rfl, hres, how, hb⟩
    have HRES1 : Hid (ResB pg im ba en fu sl ar l m1 o1 er1) := hres
    have hto : ref.Touch [] w2 wa1 := ref.Touch.of_below hb
    have c31 : wa1.cell? ⟨w.heap.size, 0, none⟩ = some (.int .i64 pg) := (hto.cell (p := ⟨w.heap.size, 0, none⟩) (World.block_lt_of_cell? _ _ c21) sP).trans c21
    have c32 : wa1.cell? ⟨w.heap.size, 1, none⟩ = some (.string im) := (hto.cell (p := ⟨w.heap.size, 1, none⟩) (World.block_lt_of_cell? _ _ c22) sP).trans c22
    have c33 : wa1.cell? ⟨w.heap.size, 2, none⟩ = some (.int .u32 ba) := (hto.cell (p := ⟨w.heap.size, 2, none⟩) (World.block_lt_of_cell? _ _ c23) sP).trans c23
    have c34 : wa1.cell? ⟨w.heap.size, 3, none⟩ = some (.int .u32 en) := (hto.cell (p := ⟨w.heap.size, 3, none⟩) (World.block_lt_of_cell? _ _ c24) sP).trans c24
    have c35 : wa1.cell? ⟨w.heap.size, 4, none⟩ = some (.slice oa l.length ca) := (hto.cell (p := ⟨w.heap.size, 4, none⟩) (World.block_lt_of_cell? _ _ c25) sP).trans c25
    have c36 : wa1.cell? ⟨w.heap.size, 5, none⟩ = some (.int .i64 fu) := (hto.cell (p := ⟨w.heap.size, 5, none⟩) (World.block_lt_of_cell? _ _ c26) sP).trans c26
    have c37 : wa1.cell? ⟨w.heap.size, 6, none⟩ = some (.int .i64 sl) := (hto.cell (p := ⟨w.heap.size, 6, none⟩) (World.block_lt_of_cell? _ _ c27) sP).trans c27
    have c38 : wa1.cell? ⟨w.heap.size, 7, none⟩ = some (.int .i64 ar) := (hto.cell (p := ⟨w.heap.size, 7, none⟩) (World.block_lt_of_cell? _ _ c28) sP).trans c28
    have HA39 : Hid (ArgAt l oa ca wa1) := HA29.out.below (hto.below (Nat.le_refl _) sP)
    have HB40 : Hid (Below w.heap.size w wa1) := below_touch HB30.out hto
    clear c21 c22 c23 c24 c25 c26 c27 c28
    have HO1a : Hid (wa1.ownsRow w2.heap.size 52 3 v1 m1.evs.length (ref.evCells m1.evs)) := how
    have HV1 : Hid (v1.oneCell' = true) := ref.own_one how
    have HTH1 : Hid (∀ (cs : Array Value) (t : TypeId), cs.size = 39 -> (wa1.alloc (.cells cs t)).there wa1.heap.size 0 (prog.repP m1 o1 v1).size) := fun cs t hc => there_new wa1 cs t _ hc
    clear hres how hb hto
    rcases sober_c ba0 en0 en1 HRES1.out with ⟨hne, HE⟩ | ⟨rfl, HE, hout⟩
    · go_wp2_with (first | (refine wpList_store_mid rfl 32 (.tmp 5) (.tmp 20) rfl wa1.heap.size 0 (prog.repP m1 o1 v1) rfl rfl (HTH1.out _ _ rfl) ref.info_rep (prog.repP_one m1 o1 v1 HV1.out) ?_; generalize hst : World.setCells _ wa1.heap.size 0 (prog.repP m1 o1 v1).toList = wb1; have ts : ref.Touch [] wa1 wb1 := (by rw [<- hst]; exact prog.touch_new _ _ _ _ ((ref.Touch.refl _ _).alloc _) (Nat.le_refl _)); have HRn1 : Hid (wb1.rangeAt wa1.heap.size 0 (prog.repP m1 o1 v1).toList) := (by rw [<- hst]; exact World.rangeAt_setCells_same _ _ _ _ (HTH1.out _ _ rfl)); have c41 : wb1.cell? ⟨w.heap.size, 0, none⟩ = some (.int .i64 pg) := (ts.cell (p := ⟨w.heap.size, 0, none⟩) (World.block_lt_of_cell? _ _ c31) sP).trans c31; have c42 : wb1.cell? ⟨w.heap.size, 1, none⟩ = some (.string im) := (ts.cell (p := ⟨w.heap.size, 1, none⟩) (World.block_lt_of_cell? _ _ c32) sP).trans c32; have c43 : wb1.cell? ⟨w.heap.size, 2, none⟩ = some (.int .u32 ba) := (ts.cell (p := ⟨w.heap.size, 2, none⟩) (World.block_lt_of_cell? _ _ c33) sP).trans c33; have c44 : wb1.cell? ⟨w.heap.size, 3, none⟩ = some (.int .u32 en) := (ts.cell (p := ⟨w.heap.size, 3, none⟩) (World.block_lt_of_cell? _ _ c34) sP).trans c34; have c45 : wb1.cell? ⟨w.heap.size, 4, none⟩ = some (.slice oa l.length ca) := (ts.cell (p := ⟨w.heap.size, 4, none⟩) (World.block_lt_of_cell? _ _ c35) sP).trans c35; have c46 : wb1.cell? ⟨w.heap.size, 5, none⟩ = some (.int .i64 fu) := (ts.cell (p := ⟨w.heap.size, 5, none⟩) (World.block_lt_of_cell? _ _ c36) sP).trans c36; have c47 : wb1.cell? ⟨w.heap.size, 6, none⟩ = some (.int .i64 sl) := (ts.cell (p := ⟨w.heap.size, 6, none⟩) (World.block_lt_of_cell? _ _ c37) sP).trans c37; have c48 : wb1.cell? ⟨w.heap.size, 7, none⟩ = some (.int .i64 ar) := (ts.cell (p := ⟨w.heap.size, 7, none⟩) (World.block_lt_of_cell? _ _ c38) sP).trans c38; have HO49 : Hid (wb1.ownsRow w2.heap.size 52 3 v1 m1.evs.length (ref.evCells m1.evs)) := ref.own_touch HO1a.out ts sP; have HA50 : Hid (ArgAt l oa ca wb1) := HA39.out.below (ts.below (Nat.le_refl _) sP); have HB51 : Hid (Below w.heap.size w wb1) := below_touch HB40.out ts; clear c31 c32 c33 c34 c35 c36 c37 c38; clear hst ts; obtain ⟨z1, z2, z3, z4⟩ := HE.out; obtain ⟨oE, cE, hvE⟩ := ev_len HO49.out; rw [z4] at hvE; have p35 : wb1.cell? ⟨wa1.heap.size, 35, none⟩ = some (.string ⟨#[]⟩) := (HRn1.out 35 _ rfl).trans (by rw [z1]); have p37 : wb1.cell? ⟨wa1.heap.size, 37, none⟩ = some (.int .i64 0) := (HRn1.out 37 _ rfl).trans (by rw [z2]); have p38 : wb1.cell? ⟨wa1.heap.size, 38, none⟩ = some (.int .i64 0) := (HRn1.out 38 _ rfl).trans (by rw [z3]); have p36 : wb1.cell? ⟨wa1.heap.size, 36, none⟩ = some (.slice oE 0 cE) := (HRn1.out 36 _ rfl).trans (by rw [hvE])))
      go_ret
      exact ⟨rfl, HB51.out⟩
    · by_cases ho : o1 = 0
      · have HS0 : Hid (m1.steps = fu) := hout ho
        subst ho
        go_wp2_with (first | (refine wpList_store_mid rfl 32 (.tmp 5) (.tmp 20) rfl wa1.heap.size 0 (prog.repP m1 0 v1) rfl rfl (HTH1.out _ _ rfl) ref.info_rep (prog.repP_one m1 0 v1 HV1.out) ?_; generalize hst : World.setCells _ wa1.heap.size 0 (prog.repP m1 0 v1).toList = wb1; have ts : ref.Touch [] wa1 wb1 := (by rw [<- hst]; exact prog.touch_new _ _ _ _ ((ref.Touch.refl _ _).alloc _) (Nat.le_refl _)); have HRn1 : Hid (wb1.rangeAt wa1.heap.size 0 (prog.repP m1 0 v1).toList) := (by rw [<- hst]; exact World.rangeAt_setCells_same _ _ _ _ (HTH1.out _ _ rfl)); have c41 : wb1.cell? ⟨w.heap.size, 0, none⟩ = some (.int .i64 pg) := (ts.cell (p := ⟨w.heap.size, 0, none⟩) (World.block_lt_of_cell? _ _ c31) sP).trans c31; have c42 : wb1.cell? ⟨w.heap.size, 1, none⟩ = some (.string im) := (ts.cell (p := ⟨w.heap.size, 1, none⟩) (World.block_lt_of_cell? _ _ c32) sP).trans c32; have c43 : wb1.cell? ⟨w.heap.size, 2, none⟩ = some (.int .u32 ba) := (ts.cell (p := ⟨w.heap.size, 2, none⟩) (World.block_lt_of_cell? _ _ c33) sP).trans c33; have c44 : wb1.cell? ⟨w.heap.size, 3, none⟩ = some (.int .u32 en) := (ts.cell (p := ⟨w.heap.size, 3, none⟩) (World.block_lt_of_cell? _ _ c34) sP).trans c34; have c45 : wb1.cell? ⟨w.heap.size, 4, none⟩ = some (.slice oa l.length ca) := (ts.cell (p := ⟨w.heap.size, 4, none⟩) (World.block_lt_of_cell? _ _ c35) sP).trans c35; have c46 : wb1.cell? ⟨w.heap.size, 5, none⟩ = some (.int .i64 fu) := (ts.cell (p := ⟨w.heap.size, 5, none⟩) (World.block_lt_of_cell? _ _ c36) sP).trans c36; have c47 : wb1.cell? ⟨w.heap.size, 6, none⟩ = some (.int .i64 sl) := (ts.cell (p := ⟨w.heap.size, 6, none⟩) (World.block_lt_of_cell? _ _ c37) sP).trans c37; have c48 : wb1.cell? ⟨w.heap.size, 7, none⟩ = some (.int .i64 ar) := (ts.cell (p := ⟨w.heap.size, 7, none⟩) (World.block_lt_of_cell? _ _ c38) sP).trans c38; have HO49 : Hid (wb1.ownsRow w2.heap.size 52 3 v1 m1.evs.length (ref.evCells m1.evs)) := ref.own_touch HO1a.out ts sP; have HA50 : Hid (ArgAt l oa ca wb1) := HA39.out.below (ts.below (Nat.le_refl _) sP); have HB51 : Hid (Below w.heap.size w wb1) := below_touch HB40.out ts; clear c31 c32 c33 c34 c35 c36 c37 c38; clear hst ts; obtain ⟨z0, z1, z2, z3, z4, z5, z6, z7, z8⟩ := HE.out; have p2 : wb1.cell? ⟨wa1.heap.size, 2, none⟩ = some (.int .u32 0) := (HRn1.out 2 _ rfl).trans (by rw [<- z0]); have p35 : wb1.cell? ⟨wa1.heap.size, 35, none⟩ = some (.string (ref.memD m1.mem 0 m1.size)) := HRn1.out 35 _ rfl; have p37 : wb1.cell? ⟨wa1.heap.size, 37, none⟩ = some (.int .i64 m1.steps) := HRn1.out 37 _ rfl; have p38 : wb1.cell? ⟨wa1.heap.size, 38, none⟩ = some (.int .i64 m1.built) := HRn1.out 38 _ rfl; have p0 : wb1.cell? ⟨wa1.heap.size, 0, none⟩ = some (.int .i64 0) := HRn1.out 0 _ rfl; have d1 : decide (fu < m1.steps) = false := (by simp; omega); have d2 : decide (m1.steps + 1 < m1.built) = false := (by simp; omega); have hs0 := HS0.out; have z9 : 0 <= fu := oM; have z10 : fu <= 2000 := oM; have z11 : m1.built <= fu + 1 := oM; have d3 : decide (fu + 1 < m1.built) = false := (by simp; omega)))
        go_ret
        exact ⟨rfl, HB51.out⟩
      · have ho2 : (o1 == 0) = false := by simpa using ho
        clear hout
        go_wp2_with (first | (refine wpList_store_mid rfl 32 (.tmp 5) (.tmp 20) rfl wa1.heap.size 0 (prog.repP m1 o1 v1) rfl rfl (HTH1.out _ _ rfl) ref.info_rep (prog.repP_one m1 o1 v1 HV1.out) ?_; generalize hst : World.setCells _ wa1.heap.size 0 (prog.repP m1 o1 v1).toList = wb1; have ts : ref.Touch [] wa1 wb1 := (by rw [<- hst]; exact prog.touch_new _ _ _ _ ((ref.Touch.refl _ _).alloc _) (Nat.le_refl _)); have HRn1 : Hid (wb1.rangeAt wa1.heap.size 0 (prog.repP m1 o1 v1).toList) := (by rw [<- hst]; exact World.rangeAt_setCells_same _ _ _ _ (HTH1.out _ _ rfl)); have c41 : wb1.cell? ⟨w.heap.size, 0, none⟩ = some (.int .i64 pg) := (ts.cell (p := ⟨w.heap.size, 0, none⟩) (World.block_lt_of_cell? _ _ c31) sP).trans c31; have c42 : wb1.cell? ⟨w.heap.size, 1, none⟩ = some (.string im) := (ts.cell (p := ⟨w.heap.size, 1, none⟩) (World.block_lt_of_cell? _ _ c32) sP).trans c32; have c43 : wb1.cell? ⟨w.heap.size, 2, none⟩ = some (.int .u32 ba) := (ts.cell (p := ⟨w.heap.size, 2, none⟩) (World.block_lt_of_cell? _ _ c33) sP).trans c33; have c44 : wb1.cell? ⟨w.heap.size, 3, none⟩ = some (.int .u32 en) := (ts.cell (p := ⟨w.heap.size, 3, none⟩) (World.block_lt_of_cell? _ _ c34) sP).trans c34; have c45 : wb1.cell? ⟨w.heap.size, 4, none⟩ = some (.slice oa l.length ca) := (ts.cell (p := ⟨w.heap.size, 4, none⟩) (World.block_lt_of_cell? _ _ c35) sP).trans c35; have c46 : wb1.cell? ⟨w.heap.size, 5, none⟩ = some (.int .i64 fu) := (ts.cell (p := ⟨w.heap.size, 5, none⟩) (World.block_lt_of_cell? _ _ c36) sP).trans c36; have c47 : wb1.cell? ⟨w.heap.size, 6, none⟩ = some (.int .i64 sl) := (ts.cell (p := ⟨w.heap.size, 6, none⟩) (World.block_lt_of_cell? _ _ c37) sP).trans c37; have c48 : wb1.cell? ⟨w.heap.size, 7, none⟩ = some (.int .i64 ar) := (ts.cell (p := ⟨w.heap.size, 7, none⟩) (World.block_lt_of_cell? _ _ c38) sP).trans c38; have HO49 : Hid (wb1.ownsRow w2.heap.size 52 3 v1 m1.evs.length (ref.evCells m1.evs)) := ref.own_touch HO1a.out ts sP; have HA50 : Hid (ArgAt l oa ca wb1) := HA39.out.below (ts.below (Nat.le_refl _) sP); have HB51 : Hid (Below w.heap.size w wb1) := below_touch HB40.out ts; clear c31 c32 c33 c34 c35 c36 c37 c38; clear hst ts; obtain ⟨z0, z1, z2, z3, z4, z5, z6, z7, z8⟩ := HE.out; have p2 : wb1.cell? ⟨wa1.heap.size, 2, none⟩ = some (.int .u32 0) := (HRn1.out 2 _ rfl).trans (by rw [<- z0]); have p35 : wb1.cell? ⟨wa1.heap.size, 35, none⟩ = some (.string (ref.memD m1.mem 0 m1.size)) := HRn1.out 35 _ rfl; have p37 : wb1.cell? ⟨wa1.heap.size, 37, none⟩ = some (.int .i64 m1.steps) := HRn1.out 37 _ rfl; have p38 : wb1.cell? ⟨wa1.heap.size, 38, none⟩ = some (.int .i64 m1.built) := HRn1.out 38 _ rfl; have p0 : wb1.cell? ⟨wa1.heap.size, 0, none⟩ = some (.int .i64 o1) := HRn1.out 0 _ rfl; have d1 : decide (fu < m1.steps) = false := (by simp; omega); have d2 : decide (m1.steps + 1 < m1.built) = false := (by simp; omega)))
        all_goals (go_ret; exact ⟨by first | rfl | (simp [ho]; done) | (simp_all; done), HB51.out⟩)
end keep
end Go.Proofs.YtjikimpejlmdiaaGreatDoor

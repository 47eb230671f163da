import Derived.Test.YtjikimpejlmdiaaGreatDoorWGv
import Derived.Deep.MidRow
set_option maxHeartbeats 4000000
set_option linter.unusedVariables false
set_option linter.unusedSimpArgs false
set_option maxRecDepth 10000
namespace Go.Proofs.YtjikimpejlmdiaaGreatDoor
namespace keep
open ChangeShapes WideShapes ChangeAt RowKit nums dnums mach
attribute [local go_sem ↓] Go.wp_at_zero Go.wp_at_succ
theorem rep_core {m1 m2 : M} {o : Int} (h : core m1 = core m2) (v : Value) : prog.repP m2 o v = prog.repP { m1 with built := m2.built } o v := by
  obtain ⟨_, e2, e3, e4, e5, e6, e7, e8, _, _⟩ := core_eq h
  unfold prog.repP
  simp only [e2, e3, e4, e6, e7, e8]
theorem good_c {pg : Int} {im : ByteArray} {ba en fu sl ar s2 a2 : Int} {ans : List ByteArray} {m1 m2 : M} {o1 o2 er2 : Int} (h0 : ref.wrong pg im ba fu sl ar false = 0) (h1 : MRun (ref.start pg im ba en ans fu sl ar false) m1) (h2 : m1.ended = true) (h3 : o1 = m1.out) (k : ResB pg im ba en fu s2 a2 ans m2 o2 er2) : Good m1 o1 m2 o2 er2 := by
  rcases k with ⟨k0, k1, k2, k3, k4⟩ | ⟨k0, k1, k2, k3⟩
  · obtain ⟨a, ha⟩ := h1.reach
    obtain ⟨b, hb⟩ := k1.reach
    have e : core m1 = core m2 := by
      rw [ha, hb]
      exact runs_alike (start_core pg im ba en ans fu sl ar s2 a2 false true) a b (by rw [<- ha]; exact h2) (by rw [<- hb]; exact k2)
    have e1 := (core_eq e).1
    refine Or.inl ⟨k4, (core_eq e).2.2.2.2.1.symm, fun v => ?_⟩
    rw [k3, h3, e1]; exact rep_core e v
  · rcases wrong_04 (sl := s2) (ar := a2) h0 with q | q
    · exact absurd q k0
    · exact Or.inr ⟨by rw [k3, q], k1, k2⟩
theorem alike_c {pg : Int} {im : ByteArray} {ba en fu sl ar s2 a2 : Int} {ans : List ByteArray} {m1 m2 m3 : M} {o1 er1 o2 er2 o3 er3 : Int} (ba0 : 0 <= ba) (en0 : 0 <= en) (en1 : en <= 4294967295) (h : Res pg im ba en fu sl ar ans m1 o1 er1) (k : ResB pg im ba en fu sl ar ans m2 o2 er2) (j : ResB pg im ba en fu s2 a2 ans m3 o3 er3) :
    ((er1 == 0) = false /\ er2 = er1 /\ er3 = er1) \/ (er1 = 0 /\ Hid (Good m1 o1 m2 o2 er2) /\ Hid (Good m1 o1 m3 o3 er3) /\ Hid (0 < m1.size) /\ Hid (m1.evs.length <= 2000)) := by
  have hev := h.evs
  rcases h with ⟨h0, h1, h2, h3, h4⟩ | ⟨h0, h1, h2, h3⟩
  · exact Or.inr ⟨h4, good_c h0 h1 h2 h3 k, good_c h0 h1 h2 h3 j, h1.good.pos, hev⟩
  · have w2 : ref.wrong pg im ba fu sl ar true = ref.wrong pg im ba fu sl ar false := wrong_tf h0
    have w3 : ref.wrong pg im ba fu s2 a2 true = ref.wrong pg im ba fu sl ar false := wrong_tf h0
    refine Or.inl ⟨by rw [h3]; simpa using h0, ?_, ?_⟩
    · rcases k with ⟨k0, _⟩ | ⟨_, _, _, k3⟩
      · rw [w2] at k0; exact absurd k0 h0
      · rw [k3, h3, w2]
    · rcases j with ⟨k0, _⟩ | ⟨_, _, _, k3⟩
      · rw [w3] at k0; exact absurd k0 h0
      · rw [k3, h3, w3]
theorem alike_any (pg : Int) (im : ByteArray) (ba en fu sl ar : Int) (oa : Option Addr) (l : List ByteArray) (ca : Nat) (s2 a2 : Int) (w : World) (ws : (Lit.int .i64 s2).wf = true) (wa : (Lit.int .i64 a2).wf = true) (ba0 : 0 <= ba) (ba1 : ba <= 4294967295) (en0 : 0 <= en) (en1 : en <= 4294967295) (hfu : (Lit.int .i64 fu).wf = true) (h : ArgAt l oa ca w) (hT : ∀ w' x, Below w.heap.size w w' -> decodes.Tabs w' x) :
    Calls Tryz.prog 7 #[.agg #[.int .i64 pg, .string im, .int .u32 ba, .int .u32 en, .slice oa l.length ca, .int .i64 fu, .int .i64 sl, .int .i64 ar], .int .i64 s2, .int .i64 a2] w fun e w' => e = .returned (.bool true) /\ Below w.heap.size w w' := by
  have HTB : Hid (∀ w' x, Below w.heap.size w w' -> decodes.Tabs w' x) := hT
  have HA0 : Hid (ArgAt l oa ca (w.alloc (.cells #[.int .i64 pg, .string im, .int .u32 ba, .int .u32 en, .slice oa l.length ca, .int .i64 fu, .int .i64 sl, .int .i64 ar] 25))) := h.below ((Below.refl _ _).alloc (Nat.le_refl _) _)
  have HB0 : Hid (Below w.heap.size w (w.alloc (.cells #[.int .i64 pg, .string im, .int .u32 ba, .int .u32 en, .slice oa l.length ca, .int .i64 fu, .int .i64 sl, .int .i64 ar] 25))) := (Below.refl _ _).alloc (Nat.le_refl _) _
  clear h hT
  go_enter Tryz.func7, Tryz.ntmps7
  go_wp2_with fail
  have a0 : (w.alloc (.cells #[.int .i64 pg, .string im, .int .u32 ba, .int .u32 en, .slice oa l.length ca, .int .i64 fu, .int .i64 sl, .int .i64 ar] 25)).cell? ⟨w.heap.size, 0, none⟩ = some (.int .i64 pg) := (World.cell?_alloc_at _ _ _ _ rfl).trans rfl
  have a1 : (w.alloc (.cells #[.int .i64 pg, .string im, .int .u32 ba, .int .u32 en, .slice oa l.length ca, .int .i64 fu, .int .i64 sl, .int .i64 ar] 25)).cell? ⟨w.heap.size, 1, none⟩ = some (.string im) := (World.cell?_alloc_at _ _ _ _ rfl).trans rfl
  have a2 : (w.alloc (.cells #[.int .i64 pg, .string im, .int .u32 ba, .int .u32 en, .slice oa l.length ca, .int .i64 fu, .int .i64 sl, .int .i64 ar] 25)).cell? ⟨w.heap.size, 2, none⟩ = some (.int .u32 ba) := (World.cell?_alloc_at _ _ _ _ rfl).trans rfl
  have a3 : (w.alloc (.cells #[.int .i64 pg, .string im, .int .u32 ba, .int .u32 en, .slice oa l.length ca, .int .i64 fu, .int .i64 sl, .int .i64 ar] 25)).cell? ⟨w.heap.size, 3, none⟩ = some (.int .u32 en) := (World.cell?_alloc_at _ _ _ _ rfl).trans rfl
  have a4 : (w.alloc (.cells #[.int .i64 pg, .string im, .int .u32 ba, .int .u32 en, .slice oa l.length ca, .int .i64 fu, .int .i64 sl, .int .i64 ar] 25)).cell? ⟨w.heap.size, 4, none⟩ = some (.slice oa l.length ca) := (World.cell?_alloc_at _ _ _ _ rfl).trans rfl
  have a5 : (w.alloc (.cells #[.int .i64 pg, .string im, .int .u32 ba, .int .u32 en, .slice oa l.length ca, .int .i64 fu, .int .i64 sl, .int .i64 ar] 25)).cell? ⟨w.heap.size, 5, none⟩ = some (.int .i64 fu) := (World.cell?_alloc_at _ _ _ _ rfl).trans rfl
  have a6 : (w.alloc (.cells #[.int .i64 pg, .string im, .int .u32 ba, .int .u32 en, .slice oa l.length ca, .int .i64 fu, .int .i64 sl, .int .i64 ar] 25)).cell? ⟨w.heap.size, 6, none⟩ = some (.int .i64 sl) := (World.cell?_alloc_at _ _ _ _ rfl).trans rfl
  have a7 : (w.alloc (.cells #[.int .i64 pg, .string im, .int .u32 ba, .int .u32 en, .slice oa l.length ca, .int .i64 fu, .int .i64 sl, .int .i64 ar] 25)).cell? ⟨w.heap.size, 7, none⟩ = some (.int .i64 ar) := (World.cell?_alloc_at _ _ _ _ rfl).trans rfl
  refine (Calls.mono (alive_any (w.alloc (.cells #[.int .i64 pg, .string im, .int .u32 ba, .int .u32 en, .slice oa l.length ca, .int .i64 fu, .int .i64 sl, .int .i64 ar] 25)) (fun w' x hb => HTB.out w' x (HB0.out.trans (hb.mono HB0.out.size)))) ?_)
  rintro e w1 ⟨rfl, hb⟩
  have hto : ref.Touch [] (w.alloc (.cells #[.int .i64 pg, .string im, .int .u32 ba, .int .u32 en, .slice oa l.length ca, .int .i64 fu, .int .i64 sl, .int .i64 ar] 25)) w1 := ref.Touch.of_below hb
  have c11 : w1.cell? ⟨w.heap.size, 0, none⟩ = some (.int .i64 pg) := (hto.cell (p := ⟨w.heap.size, 0, none⟩) (World.block_lt_of_cell? _ _ a0) sP).trans a0
  have c12 : w1.cell? ⟨w.heap.size, 1, none⟩ = some (.string im) := (hto.cell (p := ⟨w.heap.size, 1, none⟩) (World.block_lt_of_cell? _ _ a1) sP).trans a1
  have c13 : w1.cell? ⟨w.heap.size, 2, none⟩ = some (.int .u32 ba) := (hto.cell (p := ⟨w.heap.size, 2, none⟩) (World.block_lt_of_cell? _ _ a2) sP).trans a2
  have c14 : w1.cell? ⟨w.heap.size, 3, none⟩ = some (.int .u32 en) := (hto.cell (p := ⟨w.heap.size, 3, none⟩) (World.block_lt_of_cell? _ _ a3) sP).trans a3
  have c15 : w1.cell? ⟨w.heap.size, 4, none⟩ = some (.slice oa l.length ca) := (hto.cell (p := ⟨w.heap.size, 4, none⟩) (World.block_lt_of_cell? _ _ a4) sP).trans a4
  have c16 : w1.cell? ⟨w.heap.size, 5, none⟩ = some (.int .i64 fu) := (hto.cell (p := ⟨w.heap.size, 5, none⟩) (World.block_lt_of_cell? _ _ a5) sP).trans a5
  have c17 : w1.cell? ⟨w.heap.size, 6, none⟩ = some (.int .i64 sl) := (hto.cell (p := ⟨w.heap.size, 6, none⟩) (World.block_lt_of_cell? _ _ a6) sP).trans a6
  have c18 : w1.cell? ⟨w.heap.size, 7, none⟩ = some (.int .i64 ar) := (hto.cell (p := ⟨w.heap.size, 7, none⟩) (World.block_lt_of_cell? _ _ a7) sP).trans a7
  have HA19 : Hid (ArgAt l oa ca w1) := HA0.out.below (hto.below (Nat.le_refl _) sP)
  have HB20 : Hid (Below w.heap.size w w1) := below_touch HB0.out hto
  clear a0 a1 a2 a3 a4 a5 a6 a7
  clear hb hto
  go_wp2_with fail
  refine (Calls.mono (few_any pg im ba en fu sl ar oa l ca w1 HA19.out) ?_)
  rintro e w2 ⟨y, rfl, hy, ht⟩
  have HY : Hid (y = true -> Few im l) := hy
  have c21 : w2.cell? ⟨w.heap.size, 0, none⟩ = some (.int .i64 pg) := (ht.cell (p := ⟨w.heap.size, 0, none⟩) (World.block_lt_of_cell? _ _ c11) sP).trans c11
  have c22 : w2.cell? ⟨w.heap.size, 1, none⟩ = some (.string im) := (ht.cell (p := ⟨w.heap.size, 1, none⟩) (World.block_lt_of_cell? _ _ c12) sP).trans c12
  have c23 : w2.cell? ⟨w.heap.size, 2, none⟩ = some (.int .u32 ba) := (ht.cell (p := ⟨w.heap.size, 2, none⟩) (World.block_lt_of_cell? _ _ c13) sP).trans c13
  have c24 : w2.cell? ⟨w.heap.size, 3, none⟩ = some (.int .u32 en) := (ht.cell (p := ⟨w.heap.size, 3, none⟩) (World.block_lt_of_cell? _ _ c14) sP).trans c14
  have c25 : w2.cell? ⟨w.heap.size, 4, none⟩ = some (.slice oa l.length ca) := (ht.cell (p := ⟨w.heap.size, 4, none⟩) (World.block_lt_of_cell? _ _ c15) sP).trans c15
  have c26 : w2.cell? ⟨w.heap.size, 5, none⟩ = some (.int .i64 fu) := (ht.cell (p := ⟨w.heap.size, 5, none⟩) (World.block_lt_of_cell? _ _ c16) sP).trans c16
  have c27 : w2.cell? ⟨w.heap.size, 6, none⟩ = some (.int .i64 sl) := (ht.cell (p := ⟨w.heap.size, 6, none⟩) (World.block_lt_of_cell? _ _ c17) sP).trans c17
  have c28 : w2.cell? ⟨w.heap.size, 7, none⟩ = some (.int .i64 ar) := (ht.cell (p := ⟨w.heap.size, 7, none⟩) (World.block_lt_of_cell? _ _ c18) sP).trans c18
  have HA29 : Hid (ArgAt l oa ca w2) := HA19.out.below (ht.below (Nat.le_refl _) sP)
  have HB30 : Hid (Below w.heap.size w w2) := below_touch HB20.out ht
  clear c11 c12 c13 c14 c15 c16 c17 c18
  clear hy ht
  cases y with
  | false =>
    go_wp2_with fail
    go_ret
    exact ⟨rfl, HB30.out⟩
  | true =>
    have HFW : Hid (Few im l) := HY.out rfl
    go_wp2_with fail
    refine (Calls.mono (interpret_res pg im ba en fu sl ar l ba0 ba1 en0 en1 HFW.out.1 (.slice oa l.length ca) w2 (HA29.out.ans HFW.out) (fun w' x hb => HTB.out w' x (HB30.out.trans (hb.mono HB30.out.size)))) ?_)
    rintro e wa1 ⟨m1, o1, er1, v1, rfl, hres, how, hb⟩
    have HRES1 : Hid (Res pg im ba en fu sl ar l m1 o1 er1) := hres
    have hto : ref.Touch [] w2 wa1 := ref.Touch.of_below hb
    have c31 : wa1.cell? ⟨w.heap.size, 0, none⟩ = some (.int .i64 pg) := (hto.cell (p := ⟨w.heap.size, 0, none⟩) (World.block_lt_of_cell? _ _ c21) sP).trans c21
    have c32 : wa1.cell? ⟨w.heap.size, 1, none⟩ = some (.string im) := (hto.cell (p := ⟨w.heap.size, 1, none⟩) (World.block_lt_of_cell? _ _ c22) sP).trans c22
    have c33 : wa1.cell? ⟨w.heap.size, 2, none⟩ = some (.int .u32 ba) := (hto.cell (p := ⟨w.heap.size, 2, none⟩) (World.block_lt_of_cell? _ _ c23) sP).trans c23
    have c34 : wa1.cell? ⟨w.heap.size, 3, none⟩ = some (.int .u32 en) := (hto.cell (p := ⟨w.heap.size, 3, none⟩) (World.block_lt_of_cell? _ _ c24) sP).trans c24
    have c35 : wa1.cell? ⟨w.heap.size, 4, none⟩ = some (.slice oa l.length ca) := (hto.cell (p := ⟨w.heap.size, 4, none⟩) (World.block_lt_of_cell? _ _ c25) sP).trans c25
    have c36 : wa1.cell? ⟨w.heap.size, 5, none⟩ = some (.int .i64 fu) := (hto.cell (p := ⟨w.heap.size, 5, none⟩) (World.block_lt_of_cell? _ _ c26) sP).trans c26
    have c37 : wa1.cell? ⟨w.heap.size, 6, none⟩ = some (.int .i64 sl) := (hto.cell (p := ⟨w.heap.size, 6, none⟩) (World.block_lt_of_cell? _ _ c27) sP).trans c27
    have c38 : wa1.cell? ⟨w.heap.size, 7, none⟩ = some (.int .i64 ar) := (hto.cell (p := ⟨w.heap.size, 7, none⟩) (World.block_lt_of_cell? _ _ c28) sP).trans c28
    have HA39 : Hid (ArgAt l oa ca wa1) := HA29.out.below (hto.below (Nat.le_refl _) sP)
    have HB40 : Hid (Below w.heap.size w wa1) := below_touch HB30.out hto
    clear c21 c22 c23 c24 c25 c26 c27 c28
    have HO1a : Hid (wa1.ownsRow w2.heap.size 52 3 v1 m1.evs.length (ref.evCells m1.evs)) := how
    have HV1 : Hid (v1.oneCell' = true) := ref.own_one how
    have HTH1 : Hid (∀ (cs : Array Value) (t : TypeId), cs.size = 39 -> (wa1.alloc (.cells cs t)).there wa1.heap.size 0 (prog.repP m1 o1 v1).size) := fun cs t hc => there_new wa1 cs t _ hc
    clear hres how hb hto
    go_wp2_with (first | (refine wpList_store_mid rfl 32 (.tmp 9) (.tmp 31) rfl wa1.heap.size 0 (prog.repP m1 o1 v1) rfl rfl (HTH1.out _ _ rfl) ref.info_rep (prog.repP_one m1 o1 v1 HV1.out) ?_; generalize hst : World.setCells _ wa1.heap.size 0 (prog.repP m1 o1 v1).toList = wb1; have ts : ref.Touch [] wa1 wb1 := (by rw [<- hst]; exact prog.touch_new _ _ _ _ ((ref.Touch.refl _ _).alloc _) (Nat.le_refl _)); have HRn1 : Hid (wb1.rangeAt wa1.heap.size 0 (prog.repP m1 o1 v1).toList) := (by rw [<- hst]; exact World.rangeAt_setCells_same _ _ _ _ (HTH1.out _ _ rfl)); have c41 : wb1.cell? ⟨w.heap.size, 0, none⟩ = some (.int .i64 pg) := (ts.cell (p := ⟨w.heap.size, 0, none⟩) (World.block_lt_of_cell? _ _ c31) sP).trans c31; have c42 : wb1.cell? ⟨w.heap.size, 1, none⟩ = some (.string im) := (ts.cell (p := ⟨w.heap.size, 1, none⟩) (World.block_lt_of_cell? _ _ c32) sP).trans c32; have c43 : wb1.cell? ⟨w.heap.size, 2, none⟩ = some (.int .u32 ba) := (ts.cell (p := ⟨w.heap.size, 2, none⟩) (World.block_lt_of_cell? _ _ c33) sP).trans c33; have c44 : wb1.cell? ⟨w.heap.size, 3, none⟩ = some (.int .u32 en) := (ts.cell (p := ⟨w.heap.size, 3, none⟩) (World.block_lt_of_cell? _ _ c34) sP).trans c34; have c45 : wb1.cell? ⟨w.heap.size, 4, none⟩ = some (.slice oa l.length ca) := (ts.cell (p := ⟨w.heap.size, 4, none⟩) (World.block_lt_of_cell? _ _ c35) sP).trans c35; have c46 : wb1.cell? ⟨w.heap.size, 5, none⟩ = some (.int .i64 fu) := (ts.cell (p := ⟨w.heap.size, 5, none⟩) (World.block_lt_of_cell? _ _ c36) sP).trans c36; have c47 : wb1.cell? ⟨w.heap.size, 6, none⟩ = some (.int .i64 sl) := (ts.cell (p := ⟨w.heap.size, 6, none⟩) (World.block_lt_of_cell? _ _ c37) sP).trans c37; have c48 : wb1.cell? ⟨w.heap.size, 7, none⟩ = some (.int .i64 ar) := (ts.cell (p := ⟨w.heap.size, 7, none⟩) (World.block_lt_of_cell? _ _ c38) sP).trans c38; have HO49 : Hid (wb1.ownsRow w2.heap.size 52 3 v1 m1.evs.length (ref.evCells m1.evs)) := ref.own_touch HO1a.out ts sP; have HA50 : Hid (ArgAt l oa ca wb1) := HA39.out.below (ts.below (Nat.le_refl _) sP); have HB51 : Hid (Below w.heap.size w wb1) := below_touch HB40.out ts; clear c31 c32 c33 c34 c35 c36 c37 c38; clear hst ts))
    refine (Calls.mono (run_res pg im ba en fu sl ar l ba0 ba1 en0 en1 HFW.out.1 (.slice oa l.length ca) wb1 (HA50.out.ans HFW.out) (fun w' x hb => HTB.out w' x (HB51.out.trans (hb.mono HB51.out.size)))) ?_)
    rintro e wa2 ⟨m2, o2, er2, v2, rfl, hres, how, hb⟩
    have HRES2 : Hid (ResB pg im ba en fu sl ar l m2 o2 er2) := hres
    have hto : ref.Touch [] wb1 wa2 := ref.Touch.of_below hb
    have c52 : wa2.cell? ⟨w.heap.size, 0, none⟩ = some (.int .i64 pg) := (hto.cell (p := ⟨w.heap.size, 0, none⟩) (World.block_lt_of_cell? _ _ c41) sP).trans c41
    have c53 : wa2.cell? ⟨w.heap.size, 1, none⟩ = some (.string im) := (hto.cell (p := ⟨w.heap.size, 1, none⟩) (World.block_lt_of_cell? _ _ c42) sP).trans c42
    have c54 : wa2.cell? ⟨w.heap.size, 2, none⟩ = some (.int .u32 ba) := (hto.cell (p := ⟨w.heap.size, 2, none⟩) (World.block_lt_of_cell? _ _ c43) sP).trans c43
    have c55 : wa2.cell? ⟨w.heap.size, 3, none⟩ = some (.int .u32 en) := (hto.cell (p := ⟨w.heap.size, 3, none⟩) (World.block_lt_of_cell? _ _ c44) sP).trans c44
    have c56 : wa2.cell? ⟨w.heap.size, 4, none⟩ = some (.slice oa l.length ca) := (hto.cell (p := ⟨w.heap.size, 4, none⟩) (World.block_lt_of_cell? _ _ c45) sP).trans c45
    have c57 : wa2.cell? ⟨w.heap.size, 5, none⟩ = some (.int .i64 fu) := (hto.cell (p := ⟨w.heap.size, 5, none⟩) (World.block_lt_of_cell? _ _ c46) sP).trans c46
    have c58 : wa2.cell? ⟨w.heap.size, 6, none⟩ = some (.int .i64 sl) := (hto.cell (p := ⟨w.heap.size, 6, none⟩) (World.block_lt_of_cell? _ _ c47) sP).trans c47
    have c59 : wa2.cell? ⟨w.heap.size, 7, none⟩ = some (.int .i64 ar) := (hto.cell (p := ⟨w.heap.size, 7, none⟩) (World.block_lt_of_cell? _ _ c48) sP).trans c48
    have HR60 : Hid (wa2.rangeAt wa1.heap.size 0 (prog.repP m1 o1 v1).toList) := range_touch HRn1.out hto (World.block_lt_of_cell? _ _ (HRn1.out 0 _ rfl))
    have HO61 : Hid (wa2.ownsRow w2.heap.size 52 3 v1 m1.evs.length (ref.evCells m1.evs)) := ref.own_touch HO49.out hto sP
    have HA62 : Hid (ArgAt l oa ca wa2) := HA50.out.below (hto.below (Nat.le_refl _) sP)
    have HB63 : Hid (Below w.heap.size w wa2) := below_touch HB51.out hto
    clear c41 c42 c43 c44 c45 c46 c47 c48
    have HO2a : Hid (wa2.ownsRow wb1.heap.size 52 3 v2 m2.evs.length (ref.evCells m2.evs)) := how
    have HV2 : Hid (v2.oneCell' = true) := ref.own_one how
    have HTH2 : Hid (∀ (cs : Array Value) (t : TypeId), cs.size = 39 -> (wa2.alloc (.cells cs t)).there wa2.heap.size 0 (prog.repP m2 o2 v2).size) := fun cs t hc => there_new wa2 cs t _ hc
    clear hres how hb hto
    go_wp2_with (first | (refine wpList_store_mid rfl 32 (.tmp 11) (.tmp 36) rfl wa2.heap.size 0 (prog.repP m2 o2 v2) rfl rfl (HTH2.out _ _ rfl) ref.info_rep (prog.repP_one m2 o2 v2 HV2.out) ?_; generalize hst : World.setCells _ wa2.heap.size 0 (prog.repP m2 o2 v2).toList = wb2; have ts : ref.Touch [] wa2 wb2 := (by rw [<- hst]; exact prog.touch_new _ _ _ _ ((ref.Touch.refl _ _).alloc _) (Nat.le_refl _)); have HRn2 : Hid (wb2.rangeAt wa2.heap.size 0 (prog.repP m2 o2 v2).toList) := (by rw [<- hst]; exact World.rangeAt_setCells_same _ _ _ _ (HTH2.out _ _ rfl)); have c64 : wb2.cell? ⟨w.heap.size, 0, none⟩ = some (.int .i64 pg) := (ts.cell (p := ⟨w.heap.size, 0, none⟩) (World.block_lt_of_cell? _ _ c52) sP).trans c52; have c65 : wb2.cell? ⟨w.heap.size, 1, none⟩ = some (.string im) := (ts.cell (p := ⟨w.heap.size, 1, none⟩) (World.block_lt_of_cell? _ _ c53) sP).trans c53; have c66 : wb2.cell? ⟨w.heap.size, 2, none⟩ = some (.int .u32 ba) := (ts.cell (p := ⟨w.heap.size, 2, none⟩) (World.block_lt_of_cell? _ _ c54) sP).trans c54; have c67 : wb2.cell? ⟨w.heap.size, 3, none⟩ = some (.int .u32 en) := (ts.cell (p := ⟨w.heap.size, 3, none⟩) (World.block_lt_of_cell? _ _ c55) sP).trans c55; have c68 : wb2.cell? ⟨w.heap.size, 4, none⟩ = some (.slice oa l.length ca) := (ts.cell (p := ⟨w.heap.size, 4, none⟩) (World.block_lt_of_cell? _ _ c56) sP).trans c56; have c69 : wb2.cell? ⟨w.heap.size, 5, none⟩ = some (.int .i64 fu) := (ts.cell (p := ⟨w.heap.size, 5, none⟩) (World.block_lt_of_cell? _ _ c57) sP).trans c57; have c70 : wb2.cell? ⟨w.heap.size, 6, none⟩ = some (.int .i64 sl) := (ts.cell (p := ⟨w.heap.size, 6, none⟩) (World.block_lt_of_cell? _ _ c58) sP).trans c58; have c71 : wb2.cell? ⟨w.heap.size, 7, none⟩ = some (.int .i64 ar) := (ts.cell (p := ⟨w.heap.size, 7, none⟩) (World.block_lt_of_cell? _ _ c59) sP).trans c59; have HR72 : Hid (wb2.rangeAt wa1.heap.size 0 (prog.repP m1 o1 v1).toList) := range_touch HR60.out ts (World.block_lt_of_cell? _ _ (HR60.out 0 _ rfl)); have HO73 : Hid (wb2.ownsRow w2.heap.size 52 3 v1 m1.evs.length (ref.evCells m1.evs)) := ref.own_touch HO61.out ts sP; have HO74 : Hid (wb2.ownsRow wb1.heap.size 52 3 v2 m2.evs.length (ref.evCells m2.evs)) := ref.own_touch HO2a.out ts sP; have HA75 : Hid (ArgAt l oa ca wb2) := HA62.out.below (ts.below (Nat.le_refl _) sP); have HB76 : Hid (Below w.heap.size w wb2) := below_touch HB63.out ts; clear c52 c53 c54 c55 c56 c57 c58 c59; clear hst ts))
    have hto : ref.Touch [] wb2 (wb2.alloc (.cells #[.int .i64 pg, .string im, .int .u32 ba, .int .u32 en, .slice oa l.length ca, .int .i64 fu, .int .i64 s2, .int .i64 a2] 25)) := (ref.Touch.refl _ _).alloc _
    have c77 : (wb2.alloc (.cells #[.int .i64 pg, .string im, .int .u32 ba, .int .u32 en, .slice oa l.length ca, .int .i64 fu, .int .i64 s2, .int .i64 a2] 25)).cell? ⟨w.heap.size, 0, none⟩ = some (.int .i64 pg) := (hto.cell (p := ⟨w.heap.size, 0, none⟩) (World.block_lt_of_cell? _ _ c64) sP).trans c64
    have c78 : (wb2.alloc (.cells #[.int .i64 pg, .string im, .int .u32 ba, .int .u32 en, .slice oa l.length ca, .int .i64 fu, .int .i64 s2, .int .i64 a2] 25)).cell? ⟨w.heap.size, 1, none⟩ = some (.string im) := (hto.cell (p := ⟨w.heap.size, 1, none⟩) (World.block_lt_of_cell? _ _ c65) sP).trans c65
    have c79 : (wb2.alloc (.cells #[.int .i64 pg, .string im, .int .u32 ba, .int .u32 en, .slice oa l.length ca, .int .i64 fu, .int .i64 s2, .int .i64 a2] 25)).cell? ⟨w.heap.size, 2, none⟩ = some (.int .u32 ba) := (hto.cell (p := ⟨w.heap.size, 2, none⟩) (World.block_lt_of_cell? _ _ c66) sP).trans c66
    have c80 : (wb2.alloc (.cells #[.int .i64 pg, .string im, .int .u32 ba, .int .u32 en, .slice oa l.length ca, .int .i64 fu, .int .i64 s2, .int .i64 a2] 25)).cell? ⟨w.heap.size, 3, none⟩ = some (.int .u32 en) := (hto.cell (p := ⟨w.heap.size, 3, none⟩) (World.block_lt_of_cell? _ _ c67) sP).trans c67
    have c81 : (wb2.alloc (.cells #[.int .i64 pg, .string im, .int .u32 ba, .int .u32 en, .slice oa l.length ca, .int .i64 fu, .int .i64 s2, .int .i64 a2] 25)).cell? ⟨w.heap.size, 4, none⟩ = some (.slice oa l.length ca) := (hto.cell (p := ⟨w.heap.size, 4, none⟩) (World.block_lt_of_cell? _ _ c68) sP).trans c68
    have c82 : (wb2.alloc (.cells #[.int .i64 pg, .string im, .int .u32 ba, .int .u32 en, .slice oa l.length ca, .int .i64 fu, .int .i64 s2, .int .i64 a2] 25)).cell? ⟨w.heap.size, 5, none⟩ = some (.int .i64 fu) := (hto.cell (p := ⟨w.heap.size, 5, none⟩) (World.block_lt_of_cell? _ _ c69) sP).trans c69
    have c83 : (wb2.alloc (.cells #[.int .i64 pg, .string im, .int .u32 ba, .int .u32 en, .slice oa l.length ca, .int .i64 fu, .int .i64 s2, .int .i64 a2] 25)).cell? ⟨w.heap.size, 6, none⟩ = some (.int .i64 sl) := (hto.cell (p := ⟨w.heap.size, 6, none⟩) (World.block_lt_of_cell? _ _ c70) sP).trans c70
    have c84 : (wb2.alloc (.cells #[.int .i64 pg, .string im, .int .u32 ba, .int .u32 en, .slice oa l.length ca, .int .i64 fu, .int .i64 s2, .int .i64 a2] 25)).cell? ⟨w.heap.size, 7, none⟩ = some (.int .i64 ar) := (hto.cell (p := ⟨w.heap.size, 7, none⟩) (World.block_lt_of_cell? _ _ c71) sP).trans c71
    have HR85 : Hid ((wb2.alloc (.cells #[.int .i64 pg, .string im, .int .u32 ba, .int .u32 en, .slice oa l.length ca, .int .i64 fu, .int .i64 s2, .int .i64 a2] 25)).rangeAt wa1.heap.size 0 (prog.repP m1 o1 v1).toList) := range_touch HR72.out hto (World.block_lt_of_cell? _ _ (HR72.out 0 _ rfl))
    have HR86 : Hid ((wb2.alloc (.cells #[.int .i64 pg, .string im, .int .u32 ba, .int .u32 en, .slice oa l.length ca, .int .i64 fu, .int .i64 s2, .int .i64 a2] 25)).rangeAt wa2.heap.size 0 (prog.repP m2 o2 v2).toList) := range_touch HRn2.out hto (World.block_lt_of_cell? _ _ (HRn2.out 0 _ rfl))
    have HO87 : Hid ((wb2.alloc (.cells #[.int .i64 pg, .string im, .int .u32 ba, .int .u32 en, .slice oa l.length ca, .int .i64 fu, .int .i64 s2, .int .i64 a2] 25)).ownsRow w2.heap.size 52 3 v1 m1.evs.length (ref.evCells m1.evs)) := ref.own_touch HO73.out hto sP
    have HO88 : Hid ((wb2.alloc (.cells #[.int .i64 pg, .string im, .int .u32 ba, .int .u32 en, .slice oa l.length ca, .int .i64 fu, .int .i64 s2, .int .i64 a2] 25)).ownsRow wb1.heap.size 52 3 v2 m2.evs.length (ref.evCells m2.evs)) := ref.own_touch HO74.out hto sP
    have HA89 : Hid (ArgAt l oa ca (wb2.alloc (.cells #[.int .i64 pg, .string im, .int .u32 ba, .int .u32 en, .slice oa l.length ca, .int .i64 fu, .int .i64 s2, .int .i64 a2] 25))) := HA75.out.below (hto.below (Nat.le_refl _) sP)
    have HB90 : Hid (Below w.heap.size w (wb2.alloc (.cells #[.int .i64 pg, .string im, .int .u32 ba, .int .u32 en, .slice oa l.length ca, .int .i64 fu, .int .i64 s2, .int .i64 a2] 25))) := below_touch HB76.out hto
    clear c64 c65 c66 c67 c68 c69 c70 c71
    clear hto
    generalize (wb2.alloc (.cells #[.int .i64 pg, .string im, .int .u32 ba, .int .u32 en, .slice oa l.length ca, .int .i64 fu, .int .i64 s2, .int .i64 a2] 25)) = w7 at *
    refine (Calls.mono (run_res pg im ba en fu s2 a2 l ba0 ba1 en0 en1 HFW.out.1 (.slice oa l.length ca) w7 (HA89.out.ans HFW.out) (fun w' x hb => HTB.out w' x (HB90.out.trans (hb.mono HB90.out.size)))) ?_)
    rintro e wa3 ⟨m3, o3, er3, v3, rfl, hres, how, hb⟩
    have HRES3 : Hid (ResB pg im ba en fu s2 a2 l m3 o3 er3) := hres
    have hto : ref.Touch [] w7 wa3 := ref.Touch.of_below hb
    have c91 : wa3.cell? ⟨w.heap.size, 0, none⟩ = some (.int .i64 pg) := (hto.cell (p := ⟨w.heap.size, 0, none⟩) (World.block_lt_of_cell? _ _ c77) sP).trans c77
    have c92 : wa3.cell? ⟨w.heap.size, 1, none⟩ = some (.string im) := (hto.cell (p := ⟨w.heap.size, 1, none⟩) (World.block_lt_of_cell? _ _ c78) sP).trans c78
    have c93 : wa3.cell? ⟨w.heap.size, 2, none⟩ = some (.int .u32 ba) := (hto.cell (p := ⟨w.heap.size, 2, none⟩) (World.block_lt_of_cell? _ _ c79) sP).trans c79
    have c94 : wa3.cell? ⟨w.heap.size, 3, none⟩ = some (.int .u32 en) := (hto.cell (p := ⟨w.heap.size, 3, none⟩) (World.block_lt_of_cell? _ _ c80) sP).trans c80
    have c95 : wa3.cell? ⟨w.heap.size, 4, none⟩ = some (.slice oa l.length ca) := (hto.cell (p := ⟨w.heap.size, 4, none⟩) (World.block_lt_of_cell? _ _ c81) sP).trans c81
    have c96 : wa3.cell? ⟨w.heap.size, 5, none⟩ = some (.int .i64 fu) := (hto.cell (p := ⟨w.heap.size, 5, none⟩) (World.block_lt_of_cell? _ _ c82) sP).trans c82
    have c97 : wa3.cell? ⟨w.heap.size, 6, none⟩ = some (.int .i64 sl) := (hto.cell (p := ⟨w.heap.size, 6, none⟩) (World.block_lt_of_cell? _ _ c83) sP).trans c83
    have c98 : wa3.cell? ⟨w.heap.size, 7, none⟩ = some (.int .i64 ar) := (hto.cell (p := ⟨w.heap.size, 7, none⟩) (World.block_lt_of_cell? _ _ c84) sP).trans c84
    have HR99 : Hid (wa3.rangeAt wa1.heap.size 0 (prog.repP m1 o1 v1).toList) := range_touch HR85.out hto (World.block_lt_of_cell? _ _ (HR85.out 0 _ rfl))
    have HR100 : Hid (wa3.rangeAt wa2.heap.size 0 (prog.repP m2 o2 v2).toList) := range_touch HR86.out hto (World.block_lt_of_cell? _ _ (HR86.out 0 _ rfl))
    have HO101 : Hid (wa3.ownsRow w2.heap.size 52 3 v1 m1.evs.length (ref.evCells m1.evs)) := ref.own_touch HO87.out hto sP
    have HO102 : Hid (wa3.ownsRow wb1.heap.size 52 3 v2 m2.evs.length (ref.evCells m2.evs)) := ref.own_touch HO88.out hto sP
    have HA103 : Hid (ArgAt l oa ca wa3) := HA89.out.below (hto.below (Nat.le_refl _) sP)
    have HB104 : Hid (Below w.heap.size w wa3) := below_touch HB90.out hto
    clear c77 c78 c79 c80 c81 c82 c83 c84
    have HO3a : Hid (wa3.ownsRow w7.heap.size 52 3 v3 m3.evs.length (ref.evCells m3.evs)) := how
    have HV3 : Hid (v3.oneCell' = true) := ref.own_one how
    have HTH3 : Hid (∀ (cs : Array Value) (t : TypeId), cs.size = 39 -> (wa3.alloc (.cells cs t)).there wa3.heap.size 0 (prog.repP m3 o3 v3).size) := fun cs t hc => there_new wa3 cs t _ hc
    clear hres how hb hto
    rcases alike_c ba0 en0 en1 HRES1.out HRES2.out HRES3.out with ⟨hne, rfl, rfl⟩ | ⟨rfl, HG2, HG3, HZ, HEV⟩
    · go_wp2_with (first | (refine wpList_store_mid rfl 32 (.tmp 14) (.tmp 46) rfl wa3.heap.size 0 (prog.repP m3 o3 v3) rfl rfl (HTH3.out _ _ rfl) ref.info_rep (prog.repP_one m3 o3 v3 HV3.out) ?_; generalize hst : World.setCells _ wa3.heap.size 0 (prog.repP m3 o3 v3).toList = wb3; have ts : ref.Touch [] wa3 wb3 := (by rw [<- hst]; exact prog.touch_new _ _ _ _ ((ref.Touch.refl _ _).alloc _) (Nat.le_refl _)); have HRn3 : Hid (wb3.rangeAt wa3.heap.size 0 (prog.repP m3 o3 v3).toList) := (by rw [<- hst]; exact World.rangeAt_setCells_same _ _ _ _ (HTH3.out _ _ rfl)); have c105 : wb3.cell? ⟨w.heap.size, 0, none⟩ = some (.int .i64 pg) := (ts.cell (p := ⟨w.heap.size, 0, none⟩) (World.block_lt_of_cell? _ _ c91) sP).trans c91; have c106 : wb3.cell? ⟨w.heap.size, 1, none⟩ = some (.string im) := (ts.cell (p := ⟨w.heap.size, 1, none⟩) (World.block_lt_of_cell? _ _ c92) sP).trans c92; have c107 : wb3.cell? ⟨w.heap.size, 2, none⟩ = some (.int .u32 ba) := (ts.cell (p := ⟨w.heap.size, 2, none⟩) (World.block_lt_of_cell? _ _ c93) sP).trans c93; have c108 : wb3.cell? ⟨w.heap.size, 3, none⟩ = some (.int .u32 en) := (ts.cell (p := ⟨w.heap.size, 3, none⟩) (World.block_lt_of_cell? _ _ c94) sP).trans c94; have c109 : wb3.cell? ⟨w.heap.size, 4, none⟩ = some (.slice oa l.length ca) := (ts.cell (p := ⟨w.heap.size, 4, none⟩) (World.block_lt_of_cell? _ _ c95) sP).trans c95; have c110 : wb3.cell? ⟨w.heap.size, 5, none⟩ = some (.int .i64 fu) := (ts.cell (p := ⟨w.heap.size, 5, none⟩) (World.block_lt_of_cell? _ _ c96) sP).trans c96; have c111 : wb3.cell? ⟨w.heap.size, 6, none⟩ = some (.int .i64 sl) := (ts.cell (p := ⟨w.heap.size, 6, none⟩) (World.block_lt_of_cell? _ _ c97) sP).trans c97; have c112 : wb3.cell? ⟨w.heap.size, 7, none⟩ = some (.int .i64 ar) := (ts.cell (p := ⟨w.heap.size, 7, none⟩) (World.block_lt_of_cell? _ _ c98) sP).trans c98; have HR113 : Hid (wb3.rangeAt wa1.heap.size 0 (prog.repP m1 o1 v1).toList) := range_touch HR99.out ts (World.block_lt_of_cell? _ _ (HR99.out 0 _ rfl)); have HR114 : Hid (wb3.rangeAt wa2.heap.size 0 (prog.repP m2 o2 v2).toList) := range_touch HR100.out ts (World.block_lt_of_cell? _ _ (HR100.out 0 _ rfl)); have HO115 : Hid (wb3.ownsRow w2.heap.size 52 3 v1 m1.evs.length (ref.evCells m1.evs)) := ref.own_touch HO101.out ts sP; have HO116 : Hid (wb3.ownsRow wb1.heap.size 52 3 v2 m2.evs.length (ref.evCells m2.evs)) := ref.own_touch HO102.out ts sP; have HO117 : Hid (wb3.ownsRow w7.heap.size 52 3 v3 m3.evs.length (ref.evCells m3.evs)) := ref.own_touch HO3a.out ts sP; have HA118 : Hid (ArgAt l oa ca wb3) := HA103.out.below (ts.below (Nat.le_refl _) sP); have HB119 : Hid (Below w.heap.size w wb3) := below_touch HB104.out ts; clear c91 c92 c93 c94 c95 c96 c97 c98; clear hst ts))
      go_ret
      exact ⟨by simp, HB119.out⟩
    · go_wp2_with (first | (refine wpList_store_mid rfl 32 (.tmp 14) (.tmp 46) rfl wa3.heap.size 0 (prog.repP m3 o3 v3) rfl rfl (HTH3.out _ _ rfl) ref.info_rep (prog.repP_one m3 o3 v3 HV3.out) ?_; generalize hst : World.setCells _ wa3.heap.size 0 (prog.repP m3 o3 v3).toList = wb3; have ts : ref.Touch [] wa3 wb3 := (by rw [<- hst]; exact prog.touch_new _ _ _ _ ((ref.Touch.refl _ _).alloc _) (Nat.le_refl _)); have HRn3 : Hid (wb3.rangeAt wa3.heap.size 0 (prog.repP m3 o3 v3).toList) := (by rw [<- hst]; exact World.rangeAt_setCells_same _ _ _ _ (HTH3.out _ _ rfl)); have c105 : wb3.cell? ⟨w.heap.size, 0, none⟩ = some (.int .i64 pg) := (ts.cell (p := ⟨w.heap.size, 0, none⟩) (World.block_lt_of_cell? _ _ c91) sP).trans c91; have c106 : wb3.cell? ⟨w.heap.size, 1, none⟩ = some (.string im) := (ts.cell (p := ⟨w.heap.size, 1, none⟩) (World.block_lt_of_cell? _ _ c92) sP).trans c92; have c107 : wb3.cell? ⟨w.heap.size, 2, none⟩ = some (.int .u32 ba) := (ts.cell (p := ⟨w.heap.size, 2, none⟩) (World.block_lt_of_cell? _ _ c93) sP).trans c93; have c108 : wb3.cell? ⟨w.heap.size, 3, none⟩ = some (.int .u32 en) := (ts.cell (p := ⟨w.heap.size, 3, none⟩) (World.block_lt_of_cell? _ _ c94) sP).trans c94; have c109 : wb3.cell? ⟨w.heap.size, 4, none⟩ = some (.slice oa l.length ca) := (ts.cell (p := ⟨w.heap.size, 4, none⟩) (World.block_lt_of_cell? _ _ c95) sP).trans c95; have c110 : wb3.cell? ⟨w.heap.size, 5, none⟩ = some (.int .i64 fu) := (ts.cell (p := ⟨w.heap.size, 5, none⟩) (World.block_lt_of_cell? _ _ c96) sP).trans c96; have c111 : wb3.cell? ⟨w.heap.size, 6, none⟩ = some (.int .i64 sl) := (ts.cell (p := ⟨w.heap.size, 6, none⟩) (World.block_lt_of_cell? _ _ c97) sP).trans c97; have c112 : wb3.cell? ⟨w.heap.size, 7, none⟩ = some (.int .i64 ar) := (ts.cell (p := ⟨w.heap.size, 7, none⟩) (World.block_lt_of_cell? _ _ c98) sP).trans c98; have HR113 : Hid (wb3.rangeAt wa1.heap.size 0 (prog.repP m1 o1 v1).toList) := range_touch HR99.out ts (World.block_lt_of_cell? _ _ (HR99.out 0 _ rfl)); have HR114 : Hid (wb3.rangeAt wa2.heap.size 0 (prog.repP m2 o2 v2).toList) := range_touch HR100.out ts (World.block_lt_of_cell? _ _ (HR100.out 0 _ rfl)); have HO115 : Hid (wb3.ownsRow w2.heap.size 52 3 v1 m1.evs.length (ref.evCells m1.evs)) := ref.own_touch HO101.out ts sP; have HO116 : Hid (wb3.ownsRow wb1.heap.size 52 3 v2 m2.evs.length (ref.evCells m2.evs)) := ref.own_touch HO102.out ts sP; have HO117 : Hid (wb3.ownsRow w7.heap.size 52 3 v3 m3.evs.length (ref.evCells m3.evs)) := ref.own_touch HO3a.out ts sP; have HA118 : Hid (ArgAt l oa ca wb3) := HA103.out.below (ts.below (Nat.le_refl _) sP); have HB119 : Hid (Below w.heap.size w wb3) := below_touch HB104.out ts; clear c91 c92 c93 c94 c95 c96 c97 c98; clear hst ts) | (refine wpList_load_mid rfl 32 (.tmp 9) rfl wa1.heap.size 0 rfl (prog.repP m1 o1 v1).toList _ HR113.out Tryz.underlying32 rfl ref.info_rep ?_; rw [Array.toArray_toList]) | (refine wpList_load_mid rfl 32 (.tmp 11) rfl wa2.heap.size 0 rfl (prog.repP m2 o2 v2).toList _ HR114.out Tryz.underlying32 rfl ref.info_rep ?_; rw [Array.toArray_toList]))
      refine (Calls.mono (same_good m1 m2 o1 o2 er2 v1 v2 _ _ wb3 HO115.out HO116.out HEV.out HZ.out HG2.out) ?_)
      rintro e wc ⟨y1, rfl, hy1, ht⟩
      have HY1 : Hid (er2 = 0 -> y1 = true) := hy1
      have c120 : wc.cell? ⟨w.heap.size, 0, none⟩ = some (.int .i64 pg) := (ht.cell (p := ⟨w.heap.size, 0, none⟩) (World.block_lt_of_cell? _ _ c105) sP).trans c105
      have c121 : wc.cell? ⟨w.heap.size, 1, none⟩ = some (.string im) := (ht.cell (p := ⟨w.heap.size, 1, none⟩) (World.block_lt_of_cell? _ _ c106) sP).trans c106
      have c122 : wc.cell? ⟨w.heap.size, 2, none⟩ = some (.int .u32 ba) := (ht.cell (p := ⟨w.heap.size, 2, none⟩) (World.block_lt_of_cell? _ _ c107) sP).trans c107
      have c123 : wc.cell? ⟨w.heap.size, 3, none⟩ = some (.int .u32 en) := (ht.cell (p := ⟨w.heap.size, 3, none⟩) (World.block_lt_of_cell? _ _ c108) sP).trans c108
      have c124 : wc.cell? ⟨w.heap.size, 4, none⟩ = some (.slice oa l.length ca) := (ht.cell (p := ⟨w.heap.size, 4, none⟩) (World.block_lt_of_cell? _ _ c109) sP).trans c109
      have c125 : wc.cell? ⟨w.heap.size, 5, none⟩ = some (.int .i64 fu) := (ht.cell (p := ⟨w.heap.size, 5, none⟩) (World.block_lt_of_cell? _ _ c110) sP).trans c110
      have c126 : wc.cell? ⟨w.heap.size, 6, none⟩ = some (.int .i64 sl) := (ht.cell (p := ⟨w.heap.size, 6, none⟩) (World.block_lt_of_cell? _ _ c111) sP).trans c111
      have c127 : wc.cell? ⟨w.heap.size, 7, none⟩ = some (.int .i64 ar) := (ht.cell (p := ⟨w.heap.size, 7, none⟩) (World.block_lt_of_cell? _ _ c112) sP).trans c112
      have HR128 : Hid (wc.rangeAt wa1.heap.size 0 (prog.repP m1 o1 v1).toList) := range_touch HR113.out ht (World.block_lt_of_cell? _ _ (HR113.out 0 _ rfl))
      have HR129 : Hid (wc.rangeAt wa2.heap.size 0 (prog.repP m2 o2 v2).toList) := range_touch HR114.out ht (World.block_lt_of_cell? _ _ (HR114.out 0 _ rfl))
      have HR130 : Hid (wc.rangeAt wa3.heap.size 0 (prog.repP m3 o3 v3).toList) := range_touch HRn3.out ht (World.block_lt_of_cell? _ _ (HRn3.out 0 _ rfl))
      have HO131 : Hid (wc.ownsRow w2.heap.size 52 3 v1 m1.evs.length (ref.evCells m1.evs)) := ref.own_touch HO115.out ht sP
      have HO132 : Hid (wc.ownsRow wb1.heap.size 52 3 v2 m2.evs.length (ref.evCells m2.evs)) := ref.own_touch HO116.out ht sP
      have HO133 : Hid (wc.ownsRow w7.heap.size 52 3 v3 m3.evs.length (ref.evCells m3.evs)) := ref.own_touch HO117.out ht sP
      have HA134 : Hid (ArgAt l oa ca wc) := HA118.out.below (ht.below (Nat.le_refl _) sP)
      have HB135 : Hid (Below w.heap.size w wc) := below_touch HB119.out ht
      clear c105 c106 c107 c108 c109 c110 c111 c112
      clear hy1 ht
      go_wp2_with (first | (refine wpList_load_mid rfl 32 (.tmp 9) rfl wa1.heap.size 0 rfl (prog.repP m1 o1 v1).toList _ HR128.out Tryz.underlying32 rfl ref.info_rep ?_; rw [Array.toArray_toList]) | (refine wpList_load_mid rfl 32 (.tmp 14) rfl wa3.heap.size 0 rfl (prog.repP m3 o3 v3).toList _ HR130.out Tryz.underlying32 rfl ref.info_rep ?_; rw [Array.toArray_toList]))
      refine (Calls.mono (same_good m1 m3 o1 o3 er3 v1 v3 _ _ wc HO131.out HO133.out HEV.out HZ.out HG3.out) ?_)
      rintro e wd ⟨y2, rfl, hy2, ht⟩
      have HY2 : Hid (er3 = 0 -> y2 = true) := hy2
      have c136 : wd.cell? ⟨w.heap.size, 0, none⟩ = some (.int .i64 pg) := (ht.cell (p := ⟨w.heap.size, 0, none⟩) (World.block_lt_of_cell? _ _ c120) sP).trans c120
      have c137 : wd.cell? ⟨w.heap.size, 1, none⟩ = some (.string im) := (ht.cell (p := ⟨w.heap.size, 1, none⟩) (World.block_lt_of_cell? _ _ c121) sP).trans c121
      have c138 : wd.cell? ⟨w.heap.size, 2, none⟩ = some (.int .u32 ba) := (ht.cell (p := ⟨w.heap.size, 2, none⟩) (World.block_lt_of_cell? _ _ c122) sP).trans c122
      have c139 : wd.cell? ⟨w.heap.size, 3, none⟩ = some (.int .u32 en) := (ht.cell (p := ⟨w.heap.size, 3, none⟩) (World.block_lt_of_cell? _ _ c123) sP).trans c123
      have c140 : wd.cell? ⟨w.heap.size, 4, none⟩ = some (.slice oa l.length ca) := (ht.cell (p := ⟨w.heap.size, 4, none⟩) (World.block_lt_of_cell? _ _ c124) sP).trans c124
      have c141 : wd.cell? ⟨w.heap.size, 5, none⟩ = some (.int .i64 fu) := (ht.cell (p := ⟨w.heap.size, 5, none⟩) (World.block_lt_of_cell? _ _ c125) sP).trans c125
      have c142 : wd.cell? ⟨w.heap.size, 6, none⟩ = some (.int .i64 sl) := (ht.cell (p := ⟨w.heap.size, 6, none⟩) (World.block_lt_of_cell? _ _ c126) sP).trans c126
      have c143 : wd.cell? ⟨w.heap.size, 7, none⟩ = some (.int .i64 ar) := (ht.cell (p := ⟨w.heap.size, 7, none⟩) (World.block_lt_of_cell? _ _ c127) sP).trans c127
      have HR144 : Hid (wd.rangeAt wa1.heap.size 0 (prog.repP m1 o1 v1).toList) := range_touch HR128.out ht (World.block_lt_of_cell? _ _ (HR128.out 0 _ rfl))
      have HR145 : Hid (wd.rangeAt wa2.heap.size 0 (prog.repP m2 o2 v2).toList) := range_touch HR129.out ht (World.block_lt_of_cell? _ _ (HR129.out 0 _ rfl))
      have HR146 : Hid (wd.rangeAt wa3.heap.size 0 (prog.repP m3 o3 v3).toList) := range_touch HR130.out ht (World.block_lt_of_cell? _ _ (HR130.out 0 _ rfl))
      have HO147 : Hid (wd.ownsRow w2.heap.size 52 3 v1 m1.evs.length (ref.evCells m1.evs)) := ref.own_touch HO131.out ht sP
      have HO148 : Hid (wd.ownsRow wb1.heap.size 52 3 v2 m2.evs.length (ref.evCells m2.evs)) := ref.own_touch HO132.out ht sP
      have HO149 : Hid (wd.ownsRow w7.heap.size 52 3 v3 m3.evs.length (ref.evCells m3.evs)) := ref.own_touch HO133.out ht sP
      have HA150 : Hid (ArgAt l oa ca wd) := HA134.out.below (ht.below (Nat.le_refl _) sP)
      have HB151 : Hid (Below w.heap.size w wd) := below_touch HB135.out ht
      clear c120 c121 c122 c123 c124 c125 c126 c127
      clear hy2 ht
      have c2 : (er2 = 0 /\ y1 = true) \/ er2 = 4 := by
        rcases HG2.out with q | q
        · exact Or.inl ⟨q.1, HY1.out q.1⟩
        · exact Or.inr q.1
      have c3 : (er3 = 0 /\ y2 = true) \/ er3 = 4 := by
        rcases HG3.out with q | q
        · exact Or.inl ⟨q.1, HY2.out q.1⟩
        · exact Or.inr q.1
      clear HY1 HY2 HG2 HG3 HRES1 HRES2 HRES3
      rcases c2 with ⟨rfl, rfl⟩ | rfl <;> rcases c3 with ⟨rfl, rfl⟩ | rfl
      all_goals (go_wp2_with fail; go_ret; exact ⟨rfl, HB151.out⟩)
end keep
end Go.Proofs.YtjikimpejlmdiaaGreatDoor

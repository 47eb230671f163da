import Derived.Test.YtjikimpejlmdiaaGreatDoorWKpE
import Derived.OpenShut
import Derived.BigQuiet
import Derived.Deep.MidRow
import Derived.Deep.Cut
import Derived.Deep.CutRange
set_option maxHeartbeats 4000000
set_option linter.unusedVariables false
set_option linter.unusedSimpArgs false
set_option maxRecDepth 10000
namespace Go.Proofs.YtjikimpejlmdiaaGreatDoor
namespace keep
open ChangeShapes WideShapes ChangeAt RowKit nums dnums mach
attribute [local go_sem ↓] Go.wp_at_zero Go.wp_at_succ
theorem steps_step {m0 m : M} (h : BRun m0 m) (he : m.ended = false) : m.steps <= (mach.step m).steps := by
  have hstop : ∀ o, m.steps <= (stop m o).steps := fun _ => Int.le_refl _
  by_cases c1 : m.fuel <= m.steps
  · rw [show mach.step m = stop m 0 by unfold mach.step; rw [if_pos c1]]; exact hstop 0
  by_cases c2 : m.pc % 4 ≠ 0
  · rw [show mach.step m = stop m 3 by unfold mach.step; rw [if_neg c1, if_pos c2]]; exact hstop 3
  by_cases c3 : (!lies m m.pc 4) = true
  · rw [show mach.step m = stop m 4 by unfold mach.step; rw [if_neg c1, if_neg c2, if_pos c3]]; exact hstop 4
  by_cases c4 : opn (ld m.mem m.pc.toNat 4) = -1
  · rw [show mach.step m = stop m 2 by unfold mach.step; dsimp only; rw [if_neg c1, if_neg c2, if_neg c3, if_pos c4]]; exact hstop 2
  rw [step_ready m c1 oM (by simpa using c3) c4]
  obtain ⟨f, hk, _⟩ := kx_exec _ (ld m.mem m.pc.toNat 4) (ready_fine h)
  have hr : (mach.ready m).steps = m.steps := by
    unfold mach.ready
    cases lost m with
    | true => rw [if_pos rfl]; exact (find_f m).2.2.2.2.1
    | false => rfl
  rw [<- hr]; exact hk.st
theorem steps_run {m0 : M} : ∀ (k : Nat) (m : M), BRun m0 m -> m.steps <= (run k m).steps
  | 0, m, _ => Int.le_refl _
  | k + 1, m, h => by
    rw [run]
    cases he : m.ended with
    | true => rw [if_pos rfl]; exact Int.le_refl _
    | false =>
      rw [if_neg dC]
      exact Int.le_trans (steps_step h he) (steps_run k _ (h.step he).1)
theorem further_c {pg : Int} {im : ByteArray} {ba en fu f2 sl ar : Int} {ans : List ByteArray} {m1 m2 : M} {o1 er1 o2 er2 : Int} (ba0 : 0 <= ba) (en0 : 0 <= en) (en1 : en <= 4294967295) (hle : fu <= f2) (h : ResB pg im ba en fu sl ar ans m1 o1 er1) (k : ResB pg im ba en f2 sl ar ans m2 o2 er2) :
    (er1 == 0) = false \/ (er1 = 0 /\ (er2 == 0) = false) \/ (er1 = 0 /\ er2 = 0 /\ ¬ o1 = 0 /\ Hid (m2.evs = m1.evs /\ (∀ v, prog.repP m2 o2 v = prog.repP { m1 with built := m1.built } o1 v) /\ m1.evs.length <= 2000)) \/
    (er1 = 0 /\ er2 = 0 /\ Hid (o1 = 0) /\ Hid (m1.evs.length <= m2.evs.length /\ m1.steps <= m2.steps /\ (∀ (k : Nat) (x : Ev), m1.evs[k]? = some x -> m2.evs[k]? = some x) /\ m1.evs.length <= 2000)) := by
  have hev := h.evs
  rcases h with ⟨h0, h1, h2, h3, h4⟩ | ⟨h0, h1, h2, h3⟩
  · rcases k with ⟨k0, k1, k2, k3, k4⟩ | ⟨k0, k1, k2, k3⟩
    · obtain ⟨a, ha⟩ := h1.reach
      obtain ⟨b, hb⟩ := k1.reach
      have hS : ref.start pg im ba en ans f2 sl ar true = fl (ref.start pg im ba en ans fu sl ar true) f2 := rfl
      have he0 : (ref.start pg im ba en ans fu sl ar true).ended = false := rfl
      have hfu : (ref.start pg im ba en ans fu sl ar true).fuel <= f2 := hle
      have hbs : ∀ j, BRun (ref.start pg im ba en ans f2 sl ar true) (run j (ref.start pg im ba en ans f2 sl ar true)) := brun_run (prog.brun_start pg im ba en ans f2 sl ar ba0 en0 en1 k0).1
      rw [hS] at hb hbs
      generalize ref.start pg im ba en ans fu sl ar true = S at *
      obtain ⟨q1, q2⟩ := further S f2 hfu he0 a b (by rw [<- ha]; exact h2) (by rw [<- hb]; exact k2)
      rw [<- ha, <- hb] at q1 q2
      by_cases ho : m1.out = 0
      · obtain ⟨j, e, r1, r2, r3, r4, i, r5⟩ := q2 ho
        refine Or.inr (Or.inr (Or.inr ⟨h4, k4, h3.trans ho, ?_, ?_, fun k x hx => ?_, hev⟩))
        · rw [r4, List.length_append]; omega
        · have hb2 := hbs j
          rw [fl_run j S f2 he0 r1 hfu] at hb2
          have := steps_run i _ hb2
          rw [<- r5] at this
          rw [r2]; exact this
        · rw [r4, List.getElem?_append_left (List.getElem?_eq_some_iff.1 hx).1]; exact hx
      · have e := q1 ho
        refine Or.inr (Or.inr (Or.inl ⟨h4, k4, by rw [h3]; exact ho, ?_, fun v => ?_, hev⟩))
        · rw [e]; rfl
        · rw [k3, h3, e]; rfl
    · exact Or.inr (Or.inl ⟨h4, by rw [k3]; simpa using k0⟩)
  · exact Or.inl (by rw [h3]; simpa using h0)
theorem further_any (pg : Int) (im : ByteArray) (ba en fu sl ar : Int) (oa : Option Addr) (l : List ByteArray) (ca : Nat) (mo : Int) (w : World) (wm : (Lit.int .i64 mo).wf = true) (ba0 : 0 <= ba) (ba1 : ba <= 4294967295) (en0 : 0 <= en) (en1 : en <= 4294967295) (hfu : (Lit.int .i64 fu).wf = true) (h : ArgAt l oa ca w) (hT : ∀ w' x, Below w.heap.size w w' -> decodes.Tabs w' x) :
    Calls Tryz.prog 9 #[.agg #[.int .i64 pg, .string im, .int .u32 ba, .int .u32 en, .slice oa l.length ca, .int .i64 fu, .int .i64 sl, .int .i64 ar], .int .i64 mo] w fun e w' => e = .returned (.bool true) /\ Below w.heap.size w w' := by
  have HTB : Hid (∀ w' x, Below w.heap.size w w' -> decodes.Tabs w' x) := hT
  have HA0 : Hid (ArgAt l oa ca (w.alloc (.cells #[.int .i64 pg, .string im, .int .u32 ba, .int .u32 en, .slice oa l.length ca, .int .i64 fu, .int .i64 sl, .int .i64 ar] 25))) := h.below ((Below.refl _ _).alloc (Nat.le_refl _) _)
  have HB0 : Hid (Below w.heap.size w (w.alloc (.cells #[.int .i64 pg, .string im, .int .u32 ba, .int .u32 en, .slice oa l.length ca, .int .i64 fu, .int .i64 sl, .int .i64 ar] 25))) := (Below.refl _ _).alloc (Nat.le_refl _) _
  clear h hT
  go_enter Tryz.func9, Tryz.ntmps9
  go_wp2_with fail
  have a0 : (w.alloc (.cells #[.int .i64 pg, .string im, .int .u32 ba, .int .u32 en, .slice oa l.length ca, .int .i64 fu, .int .i64 sl, .int .i64 ar] 25)).cell? ⟨w.heap.size, 0, none⟩ = some (.int .i64 pg) := (World.cell?_alloc_at _ _ _ _ rfl).trans rfl
  have a1 : (w.alloc (.cells #[.int .i64 pg, .string im, .int .u32 ba, .int .u32 en, .slice oa l.length ca, .int .i64 fu, .int .i64 sl, .int .i64 ar] 25)).cell? ⟨w.heap.size, 1, none⟩ = some (.string im) := (World.cell?_alloc_at _ _ _ _ rfl).trans rfl
  have a2 : (w.alloc (.cells #[.int .i64 pg, .string im, .int .u32 ba, .int .u32 en, .slice oa l.length ca, .int .i64 fu, .int .i64 sl, .int .i64 ar] 25)).cell? ⟨w.heap.size, 2, none⟩ = some (.int .u32 ba) := (World.cell?_alloc_at _ _ _ _ rfl).trans rfl
  have a3 : (w.alloc (.cells #[.int .i64 pg, .string im, .int .u32 ba, .int .u32 en, .slice oa l.length ca, .int .i64 fu, .int .i64 sl, .int .i64 ar] 25)).cell? ⟨w.heap.size, 3, none⟩ = some (.int .u32 en) := (World.cell?_alloc_at _ _ _ _ rfl).trans rfl
  have a4 : (w.alloc (.cells #[.int .i64 pg, .string im, .int .u32 ba, .int .u32 en, .slice oa l.length ca, .int .i64 fu, .int .i64 sl, .int .i64 ar] 25)).cell? ⟨w.heap.size, 4, none⟩ = some (.slice oa l.length ca) := (World.cell?_alloc_at _ _ _ _ rfl).trans rfl
  have a5 : (w.alloc (.cells #[.int .i64 pg, .string im, .int .u32 ba, .int .u32 en, .slice oa l.length ca, .int .i64 fu, .int .i64 sl, .int .i64 ar] 25)).cell? ⟨w.heap.size, 5, none⟩ = some (.int .i64 fu) := (World.cell?_alloc_at _ _ _ _ rfl).trans rfl
  have a6 : (w.alloc (.cells #[.int .i64 pg, .string im, .int .u32 ba, .int .u32 en, .slice oa l.length ca, .int .i64 fu, .int .i64 sl, .int .i64 ar] 25)).cell? ⟨w.heap.size, 6, none⟩ = some (.int .i64 sl) := (World.cell?_alloc_at _ _ _ _ rfl).trans rfl
  have a7 : (w.alloc (.cells #[.int .i64 pg, .string im, .int .u32 ba, .int .u32 en, .slice oa l.length ca, .int .i64 fu, .int .i64 sl, .int .i64 ar] 25)).cell? ⟨w.heap.size, 7, none⟩ = some (.int .i64 ar) := (World.cell?_alloc_at _ _ _ _ rfl).trans rfl
  refine (Calls.mono (alive_any (w.alloc (.cells #[.int .i64 pg, .string im, .int .u32 ba, .int .u32 en, .slice oa l.length ca, .int .i64 fu, .int .i64 sl, .int .i64 ar] 25)) (fun w' x hb => HTB.out w' x (HB0.out.trans (hb.mono HB0.out.size)))) ?_)
  rintro e w1 ⟨rfl, hb⟩
  have hto : ref.Touch [] (w.alloc (.cells #[.int .i64 pg, .string im, .int .u32 ba, .int .u32 en, .slice oa l.length ca, .int .i64 fu, .int .i64 sl, .int .i64 ar] 25)) w1 := ref.Touch.of_below hb
  have c11 : w1.cell? ⟨w.heap.size, 0, none⟩ = some (.int .i64 pg) := (hto.cell (p := ⟨w.heap.size, 0, none⟩) (World.block_lt_of_cell? _ _ a0) sP).trans a0
  have c12 : w1.cell? ⟨w.heap.size, 1, none⟩ = some (.string im) := (hto.cell (p := ⟨w.heap.size, 1, none⟩) (World.block_lt_of_cell? _ _ a1) sP).trans a1
  have c13 : w1.cell? ⟨w.heap.size, 2, none⟩ = some (.int .u32 ba) := (hto.cell (p := ⟨w.heap.size, 2, none⟩) (World.block_lt_of_cell? _ _ a2) sP).trans a2
  have c14 : w1.cell? ⟨w.heap.size, 3, none⟩ = some (.int .u32 en) := (hto.cell (p := ⟨w.heap.size, 3, none⟩) (World.block_lt_of_cell? _ _ a3) sP).trans a3
  have c15 : w1.cell? ⟨w.heap.size, 4, none⟩ = some (.slice oa l.length ca) := (hto.cell (p := ⟨w.heap.size, 4, none⟩) (World.block_lt_of_cell? _ _ a4) sP).trans a4
  have c16 : w1.cell? ⟨w.heap.size, 5, none⟩ = some (.int .i64 fu) := (hto.cell (p := ⟨w.heap.size, 5, none⟩) (World.block_lt_of_cell? _ _ a5) sP).trans a5
  have c17 : w1.cell? ⟨w.heap.size, 6, none⟩ = some (.int .i64 sl) := (hto.cell (p := ⟨w.heap.size, 6, none⟩) (World.block_lt_of_cell? _ _ a6) sP).trans a6
  have c18 : w1.cell? ⟨w.heap.size, 7, none⟩ = some (.int .i64 ar) := (hto.cell (p := ⟨w.heap.size, 7, none⟩) (World.block_lt_of_cell? _ _ a7) sP).trans a7
  have HA19 : Hid (ArgAt l oa ca w1) := HA0.out.below (hto.below (Nat.le_refl _) sP)
  have HB20 : Hid (Below w.heap.size w w1) := below_touch HB0.out hto
  clear a0 a1 a2 a3 a4 a5 a6 a7
  clear hb hto
  go_wp2_with fail
  refine (Calls.mono (few_any pg im ba en fu sl ar oa l ca w1 HA19.out) ?_)
  rintro e w2 ⟨y, rfl, hy, ht⟩
  have HY : Hid (y = true -> Few im l) := hy
  have c21 : w2.cell? ⟨w.heap.size, 0, none⟩ = some (.int .i64 pg) := (ht.cell (p := ⟨w.heap.size, 0, none⟩) (World.block_lt_of_cell? _ _ c11) sP).trans c11
  have c22 : w2.cell? ⟨w.heap.size, 1, none⟩ = some (.string im) := (ht.cell (p := ⟨w.heap.size, 1, none⟩) (World.block_lt_of_cell? _ _ c12) sP).trans c12
  have c23 : w2.cell? ⟨w.heap.size, 2, none⟩ = some (.int .u32 ba) := (ht.cell (p := ⟨w.heap.size, 2, none⟩) (World.block_lt_of_cell? _ _ c13) sP).trans c13
  have c24 : w2.cell? ⟨w.heap.size, 3, none⟩ = some (.int .u32 en) := (ht.cell (p := ⟨w.heap.size, 3, none⟩) (World.block_lt_of_cell? _ _ c14) sP).trans c14
  have c25 : w2.cell? ⟨w.heap.size, 4, none⟩ = some (.slice oa l.length ca) := (ht.cell (p := ⟨w.heap.size, 4, none⟩) (World.block_lt_of_cell? _ _ c15) sP).trans c15
  have c26 : w2.cell? ⟨w.heap.size, 5, none⟩ = some (.int .i64 fu) := (ht.cell (p := ⟨w.heap.size, 5, none⟩) (World.block_lt_of_cell? _ _ c16) sP).trans c16
  have c27 : w2.cell? ⟨w.heap.size, 6, none⟩ = some (.int .i64 sl) := (ht.cell (p := ⟨w.heap.size, 6, none⟩) (World.block_lt_of_cell? _ _ c17) sP).trans c17
  have c28 : w2.cell? ⟨w.heap.size, 7, none⟩ = some (.int .i64 ar) := (ht.cell (p := ⟨w.heap.size, 7, none⟩) (World.block_lt_of_cell? _ _ c18) sP).trans c18
  have HA29 : Hid (ArgAt l oa ca w2) := HA19.out.below (ht.below (Nat.le_refl _) sP)
  have HB30 : Hid (Below w.heap.size w w2) := below_touch HB20.out ht
  clear c11 c12 c13 c14 c15 c16 c17 c18
  clear hy ht
  cases y with
  | false =>
    go_wp2_with fail
    go_ret
    exact ⟨rfl, HB30.out⟩
  | true =>
    have HFW : Hid (Few im l) := HY.out rfl
    have bf := bounds_i64 hfu
    have bm := bounds_i64 wm
    have lw : w.heap.size < w2.heap.size := World.block_lt_of_cell? _ _ c21
    go_upto_if 25 with fail
    go_cut [1] from 14 (fun s wx => (∃ z : Int, 0 <= z /\ z <= 9223372036854775807 /\ s = .int .i64 z) /\ wx = w2)
    case first =>
      by_cases hneg : mo < 0
      · go_wp2_with fail
        go_meet
        exact ⟨⟨-(mo + 1), by omega, by omega, by first | rfl | (simp; done) | (congr 1; omega)⟩, rfl⟩
      · have hpos : 0 <= mo := by omega
        go_wp2_with fail
        go_meet
        exact ⟨⟨mo, by omega, by omega, rfl⟩, rfl⟩
    case rest =>
    obtain ⟨⟨mo1, mo10, mo11, rfl⟩, hwc⟩ := hcut
    replace hwc := hwc.symm
    subst hwc
    go_upto_if 41 with fail
    go_cut [] from 14 (fun wx => ∃ f2 : Int, fu <= f2 /\ wx = (w2.alloc (.cells #[.int .i64 pg, .string im, .int .u32 ba, .int .u32 en, .slice oa l.length ca, .int .i64 f2, .int .i64 sl, .int .i64 ar] 25)))
    case first =>
      by_cases hl : wrap64 (fu.tdiv 2 + mo1 % 1000) < fu
      · go_wp2_with fail
        go_meet
        exact ⟨fu, Int.le_refl _, rfl⟩
      · have hge : fu <= wrap64 (fu.tdiv 2 + mo1 % 1000) := by omega
        go_wp2_with fail
        go_meet
        exact ⟨wrap64 (fu.tdiv 2 + mo1 % 1000), hge, rfl⟩
    case rest =>
    obtain ⟨f2, hle, hwc⟩ := hcut
    replace hwc := hwc.symm
    subst hwc
    go_wp2_with fail
    have hto : ref.Touch [] w2 (w2.alloc (.cells #[.int .i64 pg, .string im, .int .u32 ba, .int .u32 en, .slice oa l.length ca, .int .i64 f2, .int .i64 sl, .int .i64 ar] 25)) := (ref.Touch.refl _ _).alloc _
    have c31 : (w2.alloc (.cells #[.int .i64 pg, .string im, .int .u32 ba, .int .u32 en, .slice oa l.length ca, .int .i64 f2, .int .i64 sl, .int .i64 ar] 25)).cell? ⟨w.heap.size, 0, none⟩ = some (.int .i64 pg) := (hto.cell (p := ⟨w.heap.size, 0, none⟩) (World.block_lt_of_cell? _ _ c21) sP).trans c21
    have c32 : (w2.alloc (.cells #[.int .i64 pg, .string im, .int .u32 ba, .int .u32 en, .slice oa l.length ca, .int .i64 f2, .int .i64 sl, .int .i64 ar] 25)).cell? ⟨w.heap.size, 1, none⟩ = some (.string im) := (hto.cell (p := ⟨w.heap.size, 1, none⟩) (World.block_lt_of_cell? _ _ c22) sP).trans c22
    have c33 : (w2.alloc (.cells #[.int .i64 pg, .string im, .int .u32 ba, .int .u32 en, .slice oa l.length ca, .int .i64 f2, .int .i64 sl, .int .i64 ar] 25)).cell? ⟨w.heap.size, 2, none⟩ = some (.int .u32 ba) := (hto.cell (p := ⟨w.heap.size, 2, none⟩) (World.block_lt_of_cell? _ _ c23) sP).trans c23
    have c34 : (w2.alloc (.cells #[.int .i64 pg, .string im, .int .u32 ba, .int .u32 en, .slice oa l.length ca, .int .i64 f2, .int .i64 sl, .int .i64 ar] 25)).cell? ⟨w.heap.size, 3, none⟩ = some (.int .u32 en) := (hto.cell (p := ⟨w.heap.size, 3, none⟩) (World.block_lt_of_cell? _ _ c24) sP).trans c24
    have c35 : (w2.alloc (.cells #[.int .i64 pg, .string im, .int .u32 ba, .int .u32 en, .slice oa l.length ca, .int .i64 f2, .int .i64 sl, .int .i64 ar] 25)).cell? ⟨w.heap.size, 4, none⟩ = some (.slice oa l.length ca) := (hto.cell (p := ⟨w.heap.size, 4, none⟩) (World.block_lt_of_cell? _ _ c25) sP).trans c25
    have c36 : (w2.alloc (.cells #[.int .i64 pg, .string im, .int .u32 ba, .int .u32 en, .slice oa l.length ca, .int .i64 f2, .int .i64 sl, .int .i64 ar] 25)).cell? ⟨w.heap.size, 5, none⟩ = some (.int .i64 fu) := (hto.cell (p := ⟨w.heap.size, 5, none⟩) (World.block_lt_of_cell? _ _ c26) sP).trans c26
    have c37 : (w2.alloc (.cells #[.int .i64 pg, .string im, .int .u32 ba, .int .u32 en, .slice oa l.length ca, .int .i64 f2, .int .i64 sl, .int .i64 ar] 25)).cell? ⟨w.heap.size, 6, none⟩ = some (.int .i64 sl) := (hto.cell (p := ⟨w.heap.size, 6, none⟩) (World.block_lt_of_cell? _ _ c27) sP).trans c27
    have c38 : (w2.alloc (.cells #[.int .i64 pg, .string im, .int .u32 ba, .int .u32 en, .slice oa l.length ca, .int .i64 f2, .int .i64 sl, .int .i64 ar] 25)).cell? ⟨w.heap.size, 7, none⟩ = some (.int .i64 ar) := (hto.cell (p := ⟨w.heap.size, 7, none⟩) (World.block_lt_of_cell? _ _ c28) sP).trans c28
    have HA39 : Hid (ArgAt l oa ca (w2.alloc (.cells #[.int .i64 pg, .string im, .int .u32 ba, .int .u32 en, .slice oa l.length ca, .int .i64 f2, .int .i64 sl, .int .i64 ar] 25))) := HA29.out.below (hto.below (Nat.le_refl _) sP)
    have HB40 : Hid (Below w.heap.size w (w2.alloc (.cells #[.int .i64 pg, .string im, .int .u32 ba, .int .u32 en, .slice oa l.length ca, .int .i64 f2, .int .i64 sl, .int .i64 ar] 25))) := below_touch HB30.out hto
    clear c21 c22 c23 c24 c25 c26 c27 c28
    clear hto
    have t0 : (w2.alloc (.cells #[.int .i64 pg, .string im, .int .u32 ba, .int .u32 en, .slice oa l.length ca, .int .i64 f2, .int .i64 sl, .int .i64 ar] 25)).cell? ⟨w2.heap.size, 0, none⟩ = some (.int .i64 pg) := (World.cell?_alloc_at _ _ _ _ rfl).trans rfl
    have t1 : (w2.alloc (.cells #[.int .i64 pg, .string im, .int .u32 ba, .int .u32 en, .slice oa l.length ca, .int .i64 f2, .int .i64 sl, .int .i64 ar] 25)).cell? ⟨w2.heap.size, 1, none⟩ = some (.string im) := (World.cell?_alloc_at _ _ _ _ rfl).trans rfl
    have t2 : (w2.alloc (.cells #[.int .i64 pg, .string im, .int .u32 ba, .int .u32 en, .slice oa l.length ca, .int .i64 f2, .int .i64 sl, .int .i64 ar] 25)).cell? ⟨w2.heap.size, 2, none⟩ = some (.int .u32 ba) := (World.cell?_alloc_at _ _ _ _ rfl).trans rfl
    have t3 : (w2.alloc (.cells #[.int .i64 pg, .string im, .int .u32 ba, .int .u32 en, .slice oa l.length ca, .int .i64 f2, .int .i64 sl, .int .i64 ar] 25)).cell? ⟨w2.heap.size, 3, none⟩ = some (.int .u32 en) := (World.cell?_alloc_at _ _ _ _ rfl).trans rfl
    have t4 : (w2.alloc (.cells #[.int .i64 pg, .string im, .int .u32 ba, .int .u32 en, .slice oa l.length ca, .int .i64 f2, .int .i64 sl, .int .i64 ar] 25)).cell? ⟨w2.heap.size, 4, none⟩ = some (.slice oa l.length ca) := (World.cell?_alloc_at _ _ _ _ rfl).trans rfl
    have t5 : (w2.alloc (.cells #[.int .i64 pg, .string im, .int .u32 ba, .int .u32 en, .slice oa l.length ca, .int .i64 f2, .int .i64 sl, .int .i64 ar] 25)).cell? ⟨w2.heap.size, 5, none⟩ = some (.int .i64 f2) := (World.cell?_alloc_at _ _ _ _ rfl).trans rfl
    have t6 : (w2.alloc (.cells #[.int .i64 pg, .string im, .int .u32 ba, .int .u32 en, .slice oa l.length ca, .int .i64 f2, .int .i64 sl, .int .i64 ar] 25)).cell? ⟨w2.heap.size, 6, none⟩ = some (.int .i64 sl) := (World.cell?_alloc_at _ _ _ _ rfl).trans rfl
    have t7 : (w2.alloc (.cells #[.int .i64 pg, .string im, .int .u32 ba, .int .u32 en, .slice oa l.length ca, .int .i64 f2, .int .i64 sl, .int .i64 ar] 25)).cell? ⟨w2.heap.size, 7, none⟩ = some (.int .i64 ar) := (World.cell?_alloc_at _ _ _ _ rfl).trans rfl
    generalize (w2.alloc (.cells #[.int .i64 pg, .string im, .int .u32 ba, .int .u32 en, .slice oa l.length ca, .int .i64 f2, .int .i64 sl, .int .i64 ar] 25)) = w7 at *
    refine (Calls.mono (run_res pg im ba en fu sl ar l ba0 ba1 en0 en1 HFW.out.1 (.slice oa l.length ca) w7 (HA39.out.ans HFW.out) (fun w' x hb => HTB.out w' x (HB40.out.trans (hb.mono HB40.out.size)))) ?_)
    rintro e wa1 ⟨m1, o1, er1, v1, rfl, hres, how, hb⟩
    have HRES1 : Hid (ResB pg im ba en fu sl ar l m1 o1 er1) := hres
    have hto : ref.Touch [] w7 wa1 := ref.Touch.of_below hb
    have c41 : wa1.cell? ⟨w.heap.size, 0, none⟩ = some (.int .i64 pg) := (hto.cell (p := ⟨w.heap.size, 0, none⟩) (World.block_lt_of_cell? _ _ c31) sP).trans c31
    have c42 : wa1.cell? ⟨w.heap.size, 1, none⟩ = some (.string im) := (hto.cell (p := ⟨w.heap.size, 1, none⟩) (World.block_lt_of_cell? _ _ c32) sP).trans c32
    have c43 : wa1.cell? ⟨w.heap.size, 2, none⟩ = some (.int .u32 ba) := (hto.cell (p := ⟨w.heap.size, 2, none⟩) (World.block_lt_of_cell? _ _ c33) sP).trans c33
    have c44 : wa1.cell? ⟨w.heap.size, 3, none⟩ = some (.int .u32 en) := (hto.cell (p := ⟨w.heap.size, 3, none⟩) (World.block_lt_of_cell? _ _ c34) sP).trans c34
    have c45 : wa1.cell? ⟨w.heap.size, 4, none⟩ = some (.slice oa l.length ca) := (hto.cell (p := ⟨w.heap.size, 4, none⟩) (World.block_lt_of_cell? _ _ c35) sP).trans c35
    have c46 : wa1.cell? ⟨w.heap.size, 5, none⟩ = some (.int .i64 fu) := (hto.cell (p := ⟨w.heap.size, 5, none⟩) (World.block_lt_of_cell? _ _ c36) sP).trans c36
    have c47 : wa1.cell? ⟨w.heap.size, 6, none⟩ = some (.int .i64 sl) := (hto.cell (p := ⟨w.heap.size, 6, none⟩) (World.block_lt_of_cell? _ _ c37) sP).trans c37
    have c48 : wa1.cell? ⟨w.heap.size, 7, none⟩ = some (.int .i64 ar) := (hto.cell (p := ⟨w.heap.size, 7, none⟩) (World.block_lt_of_cell? _ _ c38) sP).trans c38
    have c49 : wa1.cell? ⟨w2.heap.size, 0, none⟩ = some (.int .i64 pg) := (hto.cell (p := ⟨w2.heap.size, 0, none⟩) (World.block_lt_of_cell? _ _ t0) sP).trans t0
    have c50 : wa1.cell? ⟨w2.heap.size, 1, none⟩ = some (.string im) := (hto.cell (p := ⟨w2.heap.size, 1, none⟩) (World.block_lt_of_cell? _ _ t1) sP).trans t1
    have c51 : wa1.cell? ⟨w2.heap.size, 2, none⟩ = some (.int .u32 ba) := (hto.cell (p := ⟨w2.heap.size, 2, none⟩) (World.block_lt_of_cell? _ _ t2) sP).trans t2
    have c52 : wa1.cell? ⟨w2.heap.size, 3, none⟩ = some (.int .u32 en) := (hto.cell (p := ⟨w2.heap.size, 3, none⟩) (World.block_lt_of_cell? _ _ t3) sP).trans t3
    have c53 : wa1.cell? ⟨w2.heap.size, 4, none⟩ = some (.slice oa l.length ca) := (hto.cell (p := ⟨w2.heap.size, 4, none⟩) (World.block_lt_of_cell? _ _ t4) sP).trans t4
    have c54 : wa1.cell? ⟨w2.heap.size, 5, none⟩ = some (.int .i64 f2) := (hto.cell (p := ⟨w2.heap.size, 5, none⟩) (World.block_lt_of_cell? _ _ t5) sP).trans t5
    have c55 : wa1.cell? ⟨w2.heap.size, 6, none⟩ = some (.int .i64 sl) := (hto.cell (p := ⟨w2.heap.size, 6, none⟩) (World.block_lt_of_cell? _ _ t6) sP).trans t6
    have c56 : wa1.cell? ⟨w2.heap.size, 7, none⟩ = some (.int .i64 ar) := (hto.cell (p := ⟨w2.heap.size, 7, none⟩) (World.block_lt_of_cell? _ _ t7) sP).trans t7
    have HA57 : Hid (ArgAt l oa ca wa1) := HA39.out.below (hto.below (Nat.le_refl _) sP)
    have HB58 : Hid (Below w.heap.size w wa1) := below_touch HB40.out hto
    clear c31 c32 c33 c34 c35 c36 c37 c38 t0 t1 t2 t3 t4 t5 t6 t7
    have HO1a : Hid (wa1.ownsRow w7.heap.size 52 3 v1 m1.evs.length (ref.evCells m1.evs)) := how
    have HV1 : Hid (v1.oneCell' = true) := ref.own_one how
    have HTH1 : Hid (∀ (cs : Array Value) (t : TypeId), cs.size = 39 -> (wa1.alloc (.cells cs t)).there wa1.heap.size 0 (prog.repP m1 o1 v1).size) := fun cs t hc => there_new wa1 cs t _ hc
    clear hres how hb hto
    go_wp2_with (first | (refine wpList_store_mid rfl 32 (.tmp 8) (.tmp 48) rfl wa1.heap.size 0 (prog.repP m1 o1 v1) rfl rfl (HTH1.out _ _ rfl) ref.info_rep (prog.repP_one m1 o1 v1 HV1.out) ?_; generalize hst : World.setCells _ wa1.heap.size 0 (prog.repP m1 o1 v1).toList = wb1; have ts : ref.Touch [] wa1 wb1 := (by rw [<- hst]; exact prog.touch_new _ _ _ _ ((ref.Touch.refl _ _).alloc _) (Nat.le_refl _)); have HRn1 : Hid (wb1.rangeAt wa1.heap.size 0 (prog.repP m1 o1 v1).toList) := (by rw [<- hst]; exact World.rangeAt_setCells_same _ _ _ _ (HTH1.out _ _ rfl)); have c59 : wb1.cell? ⟨w.heap.size, 0, none⟩ = some (.int .i64 pg) := (ts.cell (p := ⟨w.heap.size, 0, none⟩) (World.block_lt_of_cell? _ _ c41) sP).trans c41; have c60 : wb1.cell? ⟨w.heap.size, 1, none⟩ = some (.string im) := (ts.cell (p := ⟨w.heap.size, 1, none⟩) (World.block_lt_of_cell? _ _ c42) sP).trans c42; have c61 : wb1.cell? ⟨w.heap.size, 2, none⟩ = some (.int .u32 ba) := (ts.cell (p := ⟨w.heap.size, 2, none⟩) (World.block_lt_of_cell? _ _ c43) sP).trans c43; have c62 : wb1.cell? ⟨w.heap.size, 3, none⟩ = some (.int .u32 en) := (ts.cell (p := ⟨w.heap.size, 3, none⟩) (World.block_lt_of_cell? _ _ c44) sP).trans c44; have c63 : wb1.cell? ⟨w.heap.size, 4, none⟩ = some (.slice oa l.length ca) := (ts.cell (p := ⟨w.heap.size, 4, none⟩) (World.block_lt_of_cell? _ _ c45) sP).trans c45; have c64 : wb1.cell? ⟨w.heap.size, 5, none⟩ = some (.int .i64 fu) := (ts.cell (p := ⟨w.heap.size, 5, none⟩) (World.block_lt_of_cell? _ _ c46) sP).trans c46; have c65 : wb1.cell? ⟨w.heap.size, 6, none⟩ = some (.int .i64 sl) := (ts.cell (p := ⟨w.heap.size, 6, none⟩) (World.block_lt_of_cell? _ _ c47) sP).trans c47; have c66 : wb1.cell? ⟨w.heap.size, 7, none⟩ = some (.int .i64 ar) := (ts.cell (p := ⟨w.heap.size, 7, none⟩) (World.block_lt_of_cell? _ _ c48) sP).trans c48; have c67 : wb1.cell? ⟨w2.heap.size, 0, none⟩ = some (.int .i64 pg) := (ts.cell (p := ⟨w2.heap.size, 0, none⟩) (World.block_lt_of_cell? _ _ c49) sP).trans c49; have c68 : wb1.cell? ⟨w2.heap.size, 1, none⟩ = some (.string im) := (ts.cell (p := ⟨w2.heap.size, 1, none⟩) (World.block_lt_of_cell? _ _ c50) sP).trans c50; have c69 : wb1.cell? ⟨w2.heap.size, 2, none⟩ = some (.int .u32 ba) := (ts.cell (p := ⟨w2.heap.size, 2, none⟩) (World.block_lt_of_cell? _ _ c51) sP).trans c51; have c70 : wb1.cell? ⟨w2.heap.size, 3, none⟩ = some (.int .u32 en) := (ts.cell (p := ⟨w2.heap.size, 3, none⟩) (World.block_lt_of_cell? _ _ c52) sP).trans c52; have c71 : wb1.cell? ⟨w2.heap.size, 4, none⟩ = some (.slice oa l.length ca) := (ts.cell (p := ⟨w2.heap.size, 4, none⟩) (World.block_lt_of_cell? _ _ c53) sP).trans c53; have c72 : wb1.cell? ⟨w2.heap.size, 5, none⟩ = some (.int .i64 f2) := (ts.cell (p := ⟨w2.heap.size, 5, none⟩) (World.block_lt_of_cell? _ _ c54) sP).trans c54; have c73 : wb1.cell? ⟨w2.heap.size, 6, none⟩ = some (.int .i64 sl) := (ts.cell (p := ⟨w2.heap.size, 6, none⟩) (World.block_lt_of_cell? _ _ c55) sP).trans c55; have c74 : wb1.cell? ⟨w2.heap.size, 7, none⟩ = some (.int .i64 ar) := (ts.cell (p := ⟨w2.heap.size, 7, none⟩) (World.block_lt_of_cell? _ _ c56) sP).trans c56; have HO75 : Hid (wb1.ownsRow w7.heap.size 52 3 v1 m1.evs.length (ref.evCells m1.evs)) := ref.own_touch HO1a.out ts sP; have HA76 : Hid (ArgAt l oa ca wb1) := HA57.out.below (ts.below (Nat.le_refl _) sP); have HB77 : Hid (Below w.heap.size w wb1) := below_touch HB58.out ts; clear c41 c42 c43 c44 c45 c46 c47 c48 c49 c50 c51 c52 c53 c54 c55 c56; clear hst ts))
    refine (Calls.mono (run_res pg im ba en f2 sl ar l ba0 ba1 en0 en1 HFW.out.1 (.slice oa l.length ca) wb1 (HA76.out.ans HFW.out) (fun w' x hb => HTB.out w' x (HB77.out.trans (hb.mono HB77.out.size)))) ?_)
    rintro e wa2 ⟨m2, o2, er2, v2, rfl, hres, how, hb⟩
    have HRES2 : Hid (ResB pg im ba en f2 sl ar l m2 o2 er2) := hres
    have hto : ref.Touch [] wb1 wa2 := ref.Touch.of_below hb
    have c78 : wa2.cell? ⟨w.heap.size, 0, none⟩ = some (.int .i64 pg) := (hto.cell (p := ⟨w.heap.size, 0, none⟩) (World.block_lt_of_cell? _ _ c59) sP).trans c59
    have c79 : wa2.cell? ⟨w.heap.size, 1, none⟩ = some (.string im) := (hto.cell (p := ⟨w.heap.size, 1, none⟩) (World.block_lt_of_cell? _ _ c60) sP).trans c60
    have c80 : wa2.cell? ⟨w.heap.size, 2, none⟩ = some (.int .u32 ba) := (hto.cell (p := ⟨w.heap.size, 2, none⟩) (World.block_lt_of_cell? _ _ c61) sP).trans c61
    have c81 : wa2.cell? ⟨w.heap.size, 3, none⟩ = some (.int .u32 en) := (hto.cell (p := ⟨w.heap.size, 3, none⟩) (World.block_lt_of_cell? _ _ c62) sP).trans c62
    have c82 : wa2.cell? ⟨w.heap.size, 4, none⟩ = some (.slice oa l.length ca) := (hto.cell (p := ⟨w.heap.size, 4, none⟩) (World.block_lt_of_cell? _ _ c63) sP).trans c63
    have c83 : wa2.cell? ⟨w.heap.size, 5, none⟩ = some (.int .i64 fu) := (hto.cell (p := ⟨w.heap.size, 5, none⟩) (World.block_lt_of_cell? _ _ c64) sP).trans c64
    have c84 : wa2.cell? ⟨w.heap.size, 6, none⟩ = some (.int .i64 sl) := (hto.cell (p := ⟨w.heap.size, 6, none⟩) (World.block_lt_of_cell? _ _ c65) sP).trans c65
    have c85 : wa2.cell? ⟨w.heap.size, 7, none⟩ = some (.int .i64 ar) := (hto.cell (p := ⟨w.heap.size, 7, none⟩) (World.block_lt_of_cell? _ _ c66) sP).trans c66
    have c86 : wa2.cell? ⟨w2.heap.size, 0, none⟩ = some (.int .i64 pg) := (hto.cell (p := ⟨w2.heap.size, 0, none⟩) (World.block_lt_of_cell? _ _ c67) sP).trans c67
    have c87 : wa2.cell? ⟨w2.heap.size, 1, none⟩ = some (.string im) := (hto.cell (p := ⟨w2.heap.size, 1, none⟩) (World.block_lt_of_cell? _ _ c68) sP).trans c68
    have c88 : wa2.cell? ⟨w2.heap.size, 2, none⟩ = some (.int .u32 ba) := (hto.cell (p := ⟨w2.heap.size, 2, none⟩) (World.block_lt_of_cell? _ _ c69) sP).trans c69
    have c89 : wa2.cell? ⟨w2.heap.size, 3, none⟩ = some (.int .u32 en) := (hto.cell (p := ⟨w2.heap.size, 3, none⟩) (World.block_lt_of_cell? _ _ c70) sP).trans c70
    have c90 : wa2.cell? ⟨w2.heap.size, 4, none⟩ = some (.slice oa l.length ca) := (hto.cell (p := ⟨w2.heap.size, 4, none⟩) (World.block_lt_of_cell? _ _ c71) sP).trans c71
    have c91 : wa2.cell? ⟨w2.heap.size, 5, none⟩ = some (.int .i64 f2) := (hto.cell (p := ⟨w2.heap.size, 5, none⟩) (World.block_lt_of_cell? _ _ c72) sP).trans c72
    have c92 : wa2.cell? ⟨w2.heap.size, 6, none⟩ = some (.int .i64 sl) := (hto.cell (p := ⟨w2.heap.size, 6, none⟩) (World.block_lt_of_cell? _ _ c73) sP).trans c73
    have c93 : wa2.cell? ⟨w2.heap.size, 7, none⟩ = some (.int .i64 ar) := (hto.cell (p := ⟨w2.heap.size, 7, none⟩) (World.block_lt_of_cell? _ _ c74) sP).trans c74
    have HR94 : Hid (wa2.rangeAt wa1.heap.size 0 (prog.repP m1 o1 v1).toList) := range_touch HRn1.out hto (World.block_lt_of_cell? _ _ (HRn1.out 0 _ rfl))
    have HO95 : Hid (wa2.ownsRow w7.heap.size 52 3 v1 m1.evs.length (ref.evCells m1.evs)) := ref.own_touch HO75.out hto sP
    have HA96 : Hid (ArgAt l oa ca wa2) := HA76.out.below (hto.below (Nat.le_refl _) sP)
    have HB97 : Hid (Below w.heap.size w wa2) := below_touch HB77.out hto
    clear c59 c60 c61 c62 c63 c64 c65 c66 c67 c68 c69 c70 c71 c72 c73 c74
    have HO2a : Hid (wa2.ownsRow wb1.heap.size 52 3 v2 m2.evs.length (ref.evCells m2.evs)) := how
    have HV2 : Hid (v2.oneCell' = true) := ref.own_one how
    have HTH2 : Hid (∀ (cs : Array Value) (t : TypeId), cs.size = 39 -> (wa2.alloc (.cells cs t)).there wa2.heap.size 0 (prog.repP m2 o2 v2).size) := fun cs t hc => there_new wa2 cs t _ hc
    clear hres how hb hto
    rcases further_c ba0 en0 en1 hle HRES1.out HRES2.out with ⟨hne⟩ | ⟨rfl, hne⟩ | ⟨rfl, rfl, ho, HG⟩ | ⟨rfl, rfl, HO0, HG⟩
    · go_wp2_with (first | (refine wpList_store_mid rfl 32 (.tmp 10) (.tmp 53) rfl wa2.heap.size 0 (prog.repP m2 o2 v2) rfl rfl (HTH2.out _ _ rfl) ref.info_rep (prog.repP_one m2 o2 v2 HV2.out) ?_; generalize hst : World.setCells _ wa2.heap.size 0 (prog.repP m2 o2 v2).toList = wb2; have ts : ref.Touch [] wa2 wb2 := (by rw [<- hst]; exact prog.touch_new _ _ _ _ ((ref.Touch.refl _ _).alloc _) (Nat.le_refl _)); have HRn2 : Hid (wb2.rangeAt wa2.heap.size 0 (prog.repP m2 o2 v2).toList) := (by rw [<- hst]; exact World.rangeAt_setCells_same _ _ _ _ (HTH2.out _ _ rfl)); have c98 : wb2.cell? ⟨w.heap.size, 0, none⟩ = some (.int .i64 pg) := (ts.cell (p := ⟨w.heap.size, 0, none⟩) (World.block_lt_of_cell? _ _ c78) sP).trans c78; have c99 : wb2.cell? ⟨w.heap.size, 1, none⟩ = some (.string im) := (ts.cell (p := ⟨w.heap.size, 1, none⟩) (World.block_lt_of_cell? _ _ c79) sP).trans c79; have c100 : wb2.cell? ⟨w.heap.size, 2, none⟩ = some (.int .u32 ba) := (ts.cell (p := ⟨w.heap.size, 2, none⟩) (World.block_lt_of_cell? _ _ c80) sP).trans c80; have c101 : wb2.cell? ⟨w.heap.size, 3, none⟩ = some (.int .u32 en) := (ts.cell (p := ⟨w.heap.size, 3, none⟩) (World.block_lt_of_cell? _ _ c81) sP).trans c81; have c102 : wb2.cell? ⟨w.heap.size, 4, none⟩ = some (.slice oa l.length ca) := (ts.cell (p := ⟨w.heap.size, 4, none⟩) (World.block_lt_of_cell? _ _ c82) sP).trans c82; have c103 : wb2.cell? ⟨w.heap.size, 5, none⟩ = some (.int .i64 fu) := (ts.cell (p := ⟨w.heap.size, 5, none⟩) (World.block_lt_of_cell? _ _ c83) sP).trans c83; have c104 : wb2.cell? ⟨w.heap.size, 6, none⟩ = some (.int .i64 sl) := (ts.cell (p := ⟨w.heap.size, 6, none⟩) (World.block_lt_of_cell? _ _ c84) sP).trans c84; have c105 : wb2.cell? ⟨w.heap.size, 7, none⟩ = some (.int .i64 ar) := (ts.cell (p := ⟨w.heap.size, 7, none⟩) (World.block_lt_of_cell? _ _ c85) sP).trans c85; have c106 : wb2.cell? ⟨w2.heap.size, 0, none⟩ = some (.int .i64 pg) := (ts.cell (p := ⟨w2.heap.size, 0, none⟩) (World.block_lt_of_cell? _ _ c86) sP).trans c86; have c107 : wb2.cell? ⟨w2.heap.size, 1, none⟩ = some (.string im) := (ts.cell (p := ⟨w2.heap.size, 1, none⟩) (World.block_lt_of_cell? _ _ c87) sP).trans c87; have c108 : wb2.cell? ⟨w2.heap.size, 2, none⟩ = some (.int .u32 ba) := (ts.cell (p := ⟨w2.heap.size, 2, none⟩) (World.block_lt_of_cell? _ _ c88) sP).trans c88; have c109 : wb2.cell? ⟨w2.heap.size, 3, none⟩ = some (.int .u32 en) := (ts.cell (p := ⟨w2.heap.size, 3, none⟩) (World.block_lt_of_cell? _ _ c89) sP).trans c89; have c110 : wb2.cell? ⟨w2.heap.size, 4, none⟩ = some (.slice oa l.length ca) := (ts.cell (p := ⟨w2.heap.size, 4, none⟩) (World.block_lt_of_cell? _ _ c90) sP).trans c90; have c111 : wb2.cell? ⟨w2.heap.size, 5, none⟩ = some (.int .i64 f2) := (ts.cell (p := ⟨w2.heap.size, 5, none⟩) (World.block_lt_of_cell? _ _ c91) sP).trans c91; have c112 : wb2.cell? ⟨w2.heap.size, 6, none⟩ = some (.int .i64 sl) := (ts.cell (p := ⟨w2.heap.size, 6, none⟩) (World.block_lt_of_cell? _ _ c92) sP).trans c92; have c113 : wb2.cell? ⟨w2.heap.size, 7, none⟩ = some (.int .i64 ar) := (ts.cell (p := ⟨w2.heap.size, 7, none⟩) (World.block_lt_of_cell? _ _ c93) sP).trans c93; have HR114 : Hid (wb2.rangeAt wa1.heap.size 0 (prog.repP m1 o1 v1).toList) := range_touch HR94.out ts (World.block_lt_of_cell? _ _ (HR94.out 0 _ rfl)); have HO115 : Hid (wb2.ownsRow w7.heap.size 52 3 v1 m1.evs.length (ref.evCells m1.evs)) := ref.own_touch HO95.out ts sP; have HO116 : Hid (wb2.ownsRow wb1.heap.size 52 3 v2 m2.evs.length (ref.evCells m2.evs)) := ref.own_touch HO2a.out ts sP; have HA117 : Hid (ArgAt l oa ca wb2) := HA96.out.below (ts.below (Nat.le_refl _) sP); have HB118 : Hid (Below w.heap.size w wb2) := below_touch HB97.out ts; clear c78 c79 c80 c81 c82 c83 c84 c85 c86 c87 c88 c89 c90 c91 c92 c93; clear hst ts))
      go_ret
      exact ⟨rfl, HB118.out⟩
    · go_wp2_with (first | (refine wpList_store_mid rfl 32 (.tmp 10) (.tmp 53) rfl wa2.heap.size 0 (prog.repP m2 o2 v2) rfl rfl (HTH2.out _ _ rfl) ref.info_rep (prog.repP_one m2 o2 v2 HV2.out) ?_; generalize hst : World.setCells _ wa2.heap.size 0 (prog.repP m2 o2 v2).toList = wb2; have ts : ref.Touch [] wa2 wb2 := (by rw [<- hst]; exact prog.touch_new _ _ _ _ ((ref.Touch.refl _ _).alloc _) (Nat.le_refl _)); have HRn2 : Hid (wb2.rangeAt wa2.heap.size 0 (prog.repP m2 o2 v2).toList) := (by rw [<- hst]; exact World.rangeAt_setCells_same _ _ _ _ (HTH2.out _ _ rfl)); have c98 : wb2.cell? ⟨w.heap.size, 0, none⟩ = some (.int .i64 pg) := (ts.cell (p := ⟨w.heap.size, 0, none⟩) (World.block_lt_of_cell? _ _ c78) sP).trans c78; have c99 : wb2.cell? ⟨w.heap.size, 1, none⟩ = some (.string im) := (ts.cell (p := ⟨w.heap.size, 1, none⟩) (World.block_lt_of_cell? _ _ c79) sP).trans c79; have c100 : wb2.cell? ⟨w.heap.size, 2, none⟩ = some (.int .u32 ba) := (ts.cell (p := ⟨w.heap.size, 2, none⟩) (World.block_lt_of_cell? _ _ c80) sP).trans c80; have c101 : wb2.cell? ⟨w.heap.size, 3, none⟩ = some (.int .u32 en) := (ts.cell (p := ⟨w.heap.size, 3, none⟩) (World.block_lt_of_cell? _ _ c81) sP).trans c81; have c102 : wb2.cell? ⟨w.heap.size, 4, none⟩ = some (.slice oa l.length ca) := (ts.cell (p := ⟨w.heap.size, 4, none⟩) (World.block_lt_of_cell? _ _ c82) sP).trans c82; have c103 : wb2.cell? ⟨w.heap.size, 5, none⟩ = some (.int .i64 fu) := (ts.cell (p := ⟨w.heap.size, 5, none⟩) (World.block_lt_of_cell? _ _ c83) sP).trans c83; have c104 : wb2.cell? ⟨w.heap.size, 6, none⟩ = some (.int .i64 sl) := (ts.cell (p := ⟨w.heap.size, 6, none⟩) (World.block_lt_of_cell? _ _ c84) sP).trans c84; have c105 : wb2.cell? ⟨w.heap.size, 7, none⟩ = some (.int .i64 ar) := (ts.cell (p := ⟨w.heap.size, 7, none⟩) (World.block_lt_of_cell? _ _ c85) sP).trans c85; have c106 : wb2.cell? ⟨w2.heap.size, 0, none⟩ = some (.int .i64 pg) := (ts.cell (p := ⟨w2.heap.size, 0, none⟩) (World.block_lt_of_cell? _ _ c86) sP).trans c86; have c107 : wb2.cell? ⟨w2.heap.size, 1, none⟩ = some (.string im) := (ts.cell (p := ⟨w2.heap.size, 1, none⟩) (World.block_lt_of_cell? _ _ c87) sP).trans c87; have c108 : wb2.cell? ⟨w2.heap.size, 2, none⟩ = some (.int .u32 ba) := (ts.cell (p := ⟨w2.heap.size, 2, none⟩) (World.block_lt_of_cell? _ _ c88) sP).trans c88; have c109 : wb2.cell? ⟨w2.heap.size, 3, none⟩ = some (.int .u32 en) := (ts.cell (p := ⟨w2.heap.size, 3, none⟩) (World.block_lt_of_cell? _ _ c89) sP).trans c89; have c110 : wb2.cell? ⟨w2.heap.size, 4, none⟩ = some (.slice oa l.length ca) := (ts.cell (p := ⟨w2.heap.size, 4, none⟩) (World.block_lt_of_cell? _ _ c90) sP).trans c90; have c111 : wb2.cell? ⟨w2.heap.size, 5, none⟩ = some (.int .i64 f2) := (ts.cell (p := ⟨w2.heap.size, 5, none⟩) (World.block_lt_of_cell? _ _ c91) sP).trans c91; have c112 : wb2.cell? ⟨w2.heap.size, 6, none⟩ = some (.int .i64 sl) := (ts.cell (p := ⟨w2.heap.size, 6, none⟩) (World.block_lt_of_cell? _ _ c92) sP).trans c92; have c113 : wb2.cell? ⟨w2.heap.size, 7, none⟩ = some (.int .i64 ar) := (ts.cell (p := ⟨w2.heap.size, 7, none⟩) (World.block_lt_of_cell? _ _ c93) sP).trans c93; have HR114 : Hid (wb2.rangeAt wa1.heap.size 0 (prog.repP m1 o1 v1).toList) := range_touch HR94.out ts (World.block_lt_of_cell? _ _ (HR94.out 0 _ rfl)); have HO115 : Hid (wb2.ownsRow w7.heap.size 52 3 v1 m1.evs.length (ref.evCells m1.evs)) := ref.own_touch HO95.out ts sP; have HO116 : Hid (wb2.ownsRow wb1.heap.size 52 3 v2 m2.evs.length (ref.evCells m2.evs)) := ref.own_touch HO2a.out ts sP; have HA117 : Hid (ArgAt l oa ca wb2) := HA96.out.below (ts.below (Nat.le_refl _) sP); have HB118 : Hid (Below w.heap.size w wb2) := below_touch HB97.out ts; clear c78 c79 c80 c81 c82 c83 c84 c85 c86 c87 c88 c89 c90 c91 c92 c93; clear hst ts))
      go_ret
      exact ⟨rfl, HB118.out⟩
    · have ho2 : (o1 == 0) = false := by simpa using ho
      go_wp2_with (first | (refine wpList_store_mid rfl 32 (.tmp 10) (.tmp 53) rfl wa2.heap.size 0 (prog.repP m2 o2 v2) rfl rfl (HTH2.out _ _ rfl) ref.info_rep (prog.repP_one m2 o2 v2 HV2.out) ?_; generalize hst : World.setCells _ wa2.heap.size 0 (prog.repP m2 o2 v2).toList = wb2; have ts : ref.Touch [] wa2 wb2 := (by rw [<- hst]; exact prog.touch_new _ _ _ _ ((ref.Touch.refl _ _).alloc _) (Nat.le_refl _)); have HRn2 : Hid (wb2.rangeAt wa2.heap.size 0 (prog.repP m2 o2 v2).toList) := (by rw [<- hst]; exact World.rangeAt_setCells_same _ _ _ _ (HTH2.out _ _ rfl)); have c98 : wb2.cell? ⟨w.heap.size, 0, none⟩ = some (.int .i64 pg) := (ts.cell (p := ⟨w.heap.size, 0, none⟩) (World.block_lt_of_cell? _ _ c78) sP).trans c78; have c99 : wb2.cell? ⟨w.heap.size, 1, none⟩ = some (.string im) := (ts.cell (p := ⟨w.heap.size, 1, none⟩) (World.block_lt_of_cell? _ _ c79) sP).trans c79; have c100 : wb2.cell? ⟨w.heap.size, 2, none⟩ = some (.int .u32 ba) := (ts.cell (p := ⟨w.heap.size, 2, none⟩) (World.block_lt_of_cell? _ _ c80) sP).trans c80; have c101 : wb2.cell? ⟨w.heap.size, 3, none⟩ = some (.int .u32 en) := (ts.cell (p := ⟨w.heap.size, 3, none⟩) (World.block_lt_of_cell? _ _ c81) sP).trans c81; have c102 : wb2.cell? ⟨w.heap.size, 4, none⟩ = some (.slice oa l.length ca) := (ts.cell (p := ⟨w.heap.size, 4, none⟩) (World.block_lt_of_cell? _ _ c82) sP).trans c82; have c103 : wb2.cell? ⟨w.heap.size, 5, none⟩ = some (.int .i64 fu) := (ts.cell (p := ⟨w.heap.size, 5, none⟩) (World.block_lt_of_cell? _ _ c83) sP).trans c83; have c104 : wb2.cell? ⟨w.heap.size, 6, none⟩ = some (.int .i64 sl) := (ts.cell (p := ⟨w.heap.size, 6, none⟩) (World.block_lt_of_cell? _ _ c84) sP).trans c84; have c105 : wb2.cell? ⟨w.heap.size, 7, none⟩ = some (.int .i64 ar) := (ts.cell (p := ⟨w.heap.size, 7, none⟩) (World.block_lt_of_cell? _ _ c85) sP).trans c85; have c106 : wb2.cell? ⟨w2.heap.size, 0, none⟩ = some (.int .i64 pg) := (ts.cell (p := ⟨w2.heap.size, 0, none⟩) (World.block_lt_of_cell? _ _ c86) sP).trans c86; have c107 : wb2.cell? ⟨w2.heap.size, 1, none⟩ = some (.string im) := (ts.cell (p := ⟨w2.heap.size, 1, none⟩) (World.block_lt_of_cell? _ _ c87) sP).trans c87; have c108 : wb2.cell? ⟨w2.heap.size, 2, none⟩ = some (.int .u32 ba) := (ts.cell (p := ⟨w2.heap.size, 2, none⟩) (World.block_lt_of_cell? _ _ c88) sP).trans c88; have c109 : wb2.cell? ⟨w2.heap.size, 3, none⟩ = some (.int .u32 en) := (ts.cell (p := ⟨w2.heap.size, 3, none⟩) (World.block_lt_of_cell? _ _ c89) sP).trans c89; have c110 : wb2.cell? ⟨w2.heap.size, 4, none⟩ = some (.slice oa l.length ca) := (ts.cell (p := ⟨w2.heap.size, 4, none⟩) (World.block_lt_of_cell? _ _ c90) sP).trans c90; have c111 : wb2.cell? ⟨w2.heap.size, 5, none⟩ = some (.int .i64 f2) := (ts.cell (p := ⟨w2.heap.size, 5, none⟩) (World.block_lt_of_cell? _ _ c91) sP).trans c91; have c112 : wb2.cell? ⟨w2.heap.size, 6, none⟩ = some (.int .i64 sl) := (ts.cell (p := ⟨w2.heap.size, 6, none⟩) (World.block_lt_of_cell? _ _ c92) sP).trans c92; have c113 : wb2.cell? ⟨w2.heap.size, 7, none⟩ = some (.int .i64 ar) := (ts.cell (p := ⟨w2.heap.size, 7, none⟩) (World.block_lt_of_cell? _ _ c93) sP).trans c93; have HR114 : Hid (wb2.rangeAt wa1.heap.size 0 (prog.repP m1 o1 v1).toList) := range_touch HR94.out ts (World.block_lt_of_cell? _ _ (HR94.out 0 _ rfl)); have HO115 : Hid (wb2.ownsRow w7.heap.size 52 3 v1 m1.evs.length (ref.evCells m1.evs)) := ref.own_touch HO95.out ts sP; have HO116 : Hid (wb2.ownsRow wb1.heap.size 52 3 v2 m2.evs.length (ref.evCells m2.evs)) := ref.own_touch HO2a.out ts sP; have HA117 : Hid (ArgAt l oa ca wb2) := HA96.out.below (ts.below (Nat.le_refl _) sP); have HB118 : Hid (Below w.heap.size w wb2) := below_touch HB97.out ts; clear c78 c79 c80 c81 c82 c83 c84 c85 c86 c87 c88 c89 c90 c91 c92 c93; clear hst ts; have p1x0 : wb2.cell? ⟨wa1.heap.size, 0, none⟩ = some (.int .i64 o1) := HR114.out 0 _ rfl) | (refine wpList_load_mid rfl 32 (.tmp 8) rfl wa1.heap.size 0 rfl (prog.repP m1 o1 v1).toList _ HR114.out Tryz.underlying32 rfl ref.info_rep ?_; rw [Array.toArray_toList]) | (refine wpList_load_mid rfl 32 (.tmp 10) rfl wa2.heap.size 0 rfl (prog.repP m2 o2 v2).toList _ HRn2.out Tryz.underlying32 rfl ref.info_rep ?_; rw [Array.toArray_toList]))
      obtain ⟨e1, e2, e3⟩ := HG.out
      rw [e2 v2]
      have how2 := HO116.out
      rw [e1] at how2
      refine (Calls.mono (same_any m1 m1.built m1.built o1 v1 v2 _ _ wb2 HO115.out how2 e3) ?_)
      rintro e wc ⟨rfl, ht⟩
      have HBF : Hid (Below w.heap.size w wc) := below_touch HB118.out ht
      clear ht
      go_wp2_with fail
      go_ret
      exact ⟨rfl, HBF.out⟩
    · go_wp2_with (first | (refine wpList_store_mid rfl 32 (.tmp 10) (.tmp 53) rfl wa2.heap.size 0 (prog.repP m2 o2 v2) rfl rfl (HTH2.out _ _ rfl) ref.info_rep (prog.repP_one m2 o2 v2 HV2.out) ?_; generalize hst : World.setCells _ wa2.heap.size 0 (prog.repP m2 o2 v2).toList = wb2; have ts : ref.Touch [] wa2 wb2 := (by rw [<- hst]; exact prog.touch_new _ _ _ _ ((ref.Touch.refl _ _).alloc _) (Nat.le_refl _)); have HRn2 : Hid (wb2.rangeAt wa2.heap.size 0 (prog.repP m2 o2 v2).toList) := (by rw [<- hst]; exact World.rangeAt_setCells_same _ _ _ _ (HTH2.out _ _ rfl)); have c98 : wb2.cell? ⟨w.heap.size, 0, none⟩ = some (.int .i64 pg) := (ts.cell (p := ⟨w.heap.size, 0, none⟩) (World.block_lt_of_cell? _ _ c78) sP).trans c78; have c99 : wb2.cell? ⟨w.heap.size, 1, none⟩ = some (.string im) := (ts.cell (p := ⟨w.heap.size, 1, none⟩) (World.block_lt_of_cell? _ _ c79) sP).trans c79; have c100 : wb2.cell? ⟨w.heap.size, 2, none⟩ = some (.int .u32 ba) := (ts.cell (p := ⟨w.heap.size, 2, none⟩) (World.block_lt_of_cell? _ _ c80) sP).trans c80; have c101 : wb2.cell? ⟨w.heap.size, 3, none⟩ = some (.int .u32 en) := (ts.cell (p := ⟨w.heap.size, 3, none⟩) (World.block_lt_of_cell? _ _ c81) sP).trans c81; have c102 : wb2.cell? ⟨w.heap.size, 4, none⟩ = some (.slice oa l.length ca) := (ts.cell (p := ⟨w.heap.size, 4, none⟩) (World.block_lt_of_cell? _ _ c82) sP).trans c82; have c103 : wb2.cell? ⟨w.heap.size, 5, none⟩ = some (.int .i64 fu) := (ts.cell (p := ⟨w.heap.size, 5, none⟩) (World.block_lt_of_cell? _ _ c83) sP).trans c83; have c104 : wb2.cell? ⟨w.heap.size, 6, none⟩ = some (.int .i64 sl) := (ts.cell (p := ⟨w.heap.size, 6, none⟩) (World.block_lt_of_cell? _ _ c84) sP).trans c84; have c105 : wb2.cell? ⟨w.heap.size, 7, none⟩ = some (.int .i64 ar) := (ts.cell (p := ⟨w.heap.size, 7, none⟩) (World.block_lt_of_cell? _ _ c85) sP).trans c85; have c106 : wb2.cell? ⟨w2.heap.size, 0, none⟩ = some (.int .i64 pg) := (ts.cell (p := ⟨w2.heap.size, 0, none⟩) (World.block_lt_of_cell? _ _ c86) sP).trans c86; have c107 : wb2.cell? ⟨w2.heap.size, 1, none⟩ = some (.string im) := (ts.cell (p := ⟨w2.heap.size, 1, none⟩) (World.block_lt_of_cell? _ _ c87) sP).trans c87; have c108 : wb2.cell? ⟨w2.heap.size, 2, none⟩ = some (.int .u32 ba) := (ts.cell (p := ⟨w2.heap.size, 2, none⟩) (World.block_lt_of_cell? _ _ c88) sP).trans c88; have c109 : wb2.cell? ⟨w2.heap.size, 3, none⟩ = some (.int .u32 en) := (ts.cell (p := ⟨w2.heap.size, 3, none⟩) (World.block_lt_of_cell? _ _ c89) sP).trans c89; have c110 : wb2.cell? ⟨w2.heap.size, 4, none⟩ = some (.slice oa l.length ca) := (ts.cell (p := ⟨w2.heap.size, 4, none⟩) (World.block_lt_of_cell? _ _ c90) sP).trans c90; have c111 : wb2.cell? ⟨w2.heap.size, 5, none⟩ = some (.int .i64 f2) := (ts.cell (p := ⟨w2.heap.size, 5, none⟩) (World.block_lt_of_cell? _ _ c91) sP).trans c91; have c112 : wb2.cell? ⟨w2.heap.size, 6, none⟩ = some (.int .i64 sl) := (ts.cell (p := ⟨w2.heap.size, 6, none⟩) (World.block_lt_of_cell? _ _ c92) sP).trans c92; have c113 : wb2.cell? ⟨w2.heap.size, 7, none⟩ = some (.int .i64 ar) := (ts.cell (p := ⟨w2.heap.size, 7, none⟩) (World.block_lt_of_cell? _ _ c93) sP).trans c93; have HR114 : Hid (wb2.rangeAt wa1.heap.size 0 (prog.repP m1 o1 v1).toList) := range_touch HR94.out ts (World.block_lt_of_cell? _ _ (HR94.out 0 _ rfl)); have HO115 : Hid (wb2.ownsRow w7.heap.size 52 3 v1 m1.evs.length (ref.evCells m1.evs)) := ref.own_touch HO95.out ts sP; have HO116 : Hid (wb2.ownsRow wb1.heap.size 52 3 v2 m2.evs.length (ref.evCells m2.evs)) := ref.own_touch HO2a.out ts sP; have HA117 : Hid (ArgAt l oa ca wb2) := HA96.out.below (ts.below (Nat.le_refl _) sP); have HB118 : Hid (Below w.heap.size w wb2) := below_touch HB97.out ts; clear c78 c79 c80 c81 c82 c83 c84 c85 c86 c87 c88 c89 c90 c91 c92 c93; clear hst ts; obtain ⟨f1, f2_, f3, f4⟩ := HG.out; obtain ⟨oe1, ce1, hv1⟩ := ev_len HO115.out; obtain ⟨oe2, ce2, hv2⟩ := ev_len HO116.out; have p0 : wb2.cell? ⟨wa1.heap.size, 0, none⟩ = some (.int .i64 0) := (HR114.out 0 _ rfl).trans (by rw [<- HO0.out]); have p36 : wb2.cell? ⟨wa1.heap.size, 36, none⟩ = some (.slice oe1 m1.evs.length ce1) := (HR114.out 36 _ rfl).trans (by rw [hv1]); have q36 : wb2.cell? ⟨wa2.heap.size, 36, none⟩ = some (.slice oe2 m2.evs.length ce2) := (HRn2.out 36 _ rfl).trans (by rw [hv2]); have p37 : wb2.cell? ⟨wa1.heap.size, 37, none⟩ = some (.int .i64 m1.steps) := HR114.out 37 _ rfl; have q37 : wb2.cell? ⟨wa2.heap.size, 37, none⟩ = some (.int .i64 m2.steps) := HRn2.out 37 _ rfl; have g1 : decide ((m2.evs.length : Int) < (m1.evs.length : Int)) = false := (by simp; omega); have g3 : decide (m2.evs.length < m1.evs.length) = false := (by simp; omega); have g2 : decide (m2.steps < m1.steps) = false := (by simp; omega); have HF3 : Hid _ := f3; clear f3))
      go_loopw [13] (fun i wr => ∃ k : Nat, k <= m1.evs.length /\ i = .int .i64 k /\ ∃ n, wr = wb2.drewN n) (fun i _ => m1.evs.length - (intOf i).toNat)
      case atStart => exact ⟨0, by omega, rfl, 0, rfl⟩
      case round =>
        obtain ⟨k, hk, rfl, n, rfl⟩ := hrel
        by_cases hlt : k < m1.evs.length
        · obtain ⟨x, hx⟩ : ∃ x, m1.evs[k]? = some x := ⟨_, List.getElem?_eq_getElem hlt⟩
          obtain ⟨g1_, d1, hw1, y1, y2, y3⟩ := row_ev HO115.out k x hx
          obtain ⟨g2_, d2, hw2, i1, i2, i3⟩ := row_ev HO116.out k x (HF3.out k x hx)
          rw [hv1] at hw1
          rw [hv2] at hw2
          injection hw1 with hw1 hn1 hd1
          injection hw2 with hw2 hn2 hd2
          clear hn1 hn2
          subst hw1
          subst hw2
          subst hd1
          subst hd2
          have lg1 : g1_ < wb2.heap.size := World.block_lt_of_cell? _ _ y1
          have lg2 : g2_ < wb2.heap.size := World.block_lt_of_cell? _ _ i1
          have q3 : (k : Int) < (m1.evs.length : Int) := by omega
          have q5 : (k : Int) < (m2.evs.length : Int) := by omega
          have q4 : (0 : Int) <= (k : Int) := by omega
          go_wp2_with fail
          go_quiet (fail)
          go_wp2_with fail
          go_roundw
          case rel => exact ⟨k + 1, by omega, by simp, _, rfl⟩
          case measure => simp [intOf]; omega
        · have q3 : (m1.evs.length : Int) <= (k : Int) := by omega
          go_wp2_with fail
          go_ret
          exact ⟨rfl, below_touch HB118.out ((ref.Touch.refl _ _).drewN _)⟩
end keep
end Go.Proofs.YtjikimpejlmdiaaGreatDoor

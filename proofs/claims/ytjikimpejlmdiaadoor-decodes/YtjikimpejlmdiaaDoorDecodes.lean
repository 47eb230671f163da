import Derived.Test.YtjikimpejlmdiaaDoorDecJ
import Derived.Test.YtjikimpejlmdiaaDoorCards
import Derived.Test.YtjikimpejlmdiaaDoorTie
import Derived.WalkKit
import Derived.ProofKit
import Derived.OpenShut
import Derived.Below
import Derived.Deep.DeepHandedRow
import Derived.Stop.LaidErr
import Derived.Lib.LaidTab
namespace Go.Proofs.YtjikimpejlmdiaaDoor.decodes
open Go.ChangeShapes Go.WideShapes Go.ChangeAt Go.RowKit Go.Proofs.YtjikimpejlmdiaaDoor.dnums
set_option linter.unusedVariables false
set_option linter.unusedSimpArgs false
set_option maxRecDepth 10000 in
set_option maxHeartbeats 1000000 in
theorem walkB (x : Int) (h0 : 0 ≤ x) (h1 : x ≤ 4294967295) (w : World) (ht : Tabs w x) :
    Calls Tryd.prog 3 #[.int .u32 x] w fun e w' => e = .returned (.bool true) ∧ Below w.heap.size w w' := by
  go_enter Tryd.func3, Tryd.ntmps3
  go_wp2_with fail
  refine (dcall_any x h0 h1 _ ht).mono ?_
  rintro e w1 ⟨rfl, hb⟩
  have hs1 := hb.size
  unfold dec
  go_wp2_with fail
  refine (dref_any x h0 h1 _).mono ?_
  rintro e w2 ⟨rfl, hb2⟩
  obtain ⟨hc', hf'⟩ := bcell hb2
  have hs2 : w1.heap.size < w2.heap.size := by have := hb2.size; simp at this; omega
  have HB : Hid (Below w.heap.size w w2) := (hb.alloc hs1 _).trans (hb2.mono (by simp; omega))
  clear hb hb2
  unfold dec
  go_wp2_with fail
  go_ret
  refine ⟨rfl, ?_⟩
  (repeat' (first | with_reducible exact HB.out | with_reducible apply below_drewN | with_reducible apply Below.drew | with_reducible apply Below.alloc | with_reducible apply Below.setCell)) <;> (first | (simp; done) | (simp; omega) | omega)
theorem own : ownKnob Tryd.prog.godebug = none := by kernel_rfl
theorem cellsA : Tryd.prog.cellsOf 39 = 8 := by kernel_rfl
theorem cellsO : Tryd.prog.cellsOf 23 = 1 := by kernel_rfl
theorem g_branches : Tryd.prog.globalNamed "chains/decode.branches" = some 0 := by kernel_rfl
theorem y_branches : (Tryd.prog.globals[0]?).map (·.type) = some 39 := by kernel_rfl
theorem at_T63 (x : Int) : T63.getD (f3 x).toNat 0 = at8 T63 x ∧ (f3 x).toNat < T63.length := by
  unfold at8
  rcases f3_all x with e | e | e | e | e | e | e | e <;> rw [e] <;> decide
theorem g_loads : Tryd.prog.globalNamed "chains/decode.loads" = some 1 := by kernel_rfl
theorem y_loads : (Tryd.prog.globals[1]?).map (·.type) = some 39 := by kernel_rfl
theorem at_T03 (x : Int) : T03.getD (f3 x).toNat 0 = at8 T03 x ∧ (f3 x).toNat < T03.length := by
  unfold at8
  rcases f3_all x with e | e | e | e | e | e | e | e <;> rw [e] <;> decide
theorem g_stores : Tryd.prog.globalNamed "chains/decode.stores" = some 2 := by kernel_rfl
theorem y_stores : (Tryd.prog.globals[2]?).map (·.type) = some 39 := by kernel_rfl
theorem at_T23 (x : Int) : T23.getD (f3 x).toNat 0 = at8 T23 x ∧ (f3 x).toNat < T23.length := by
  unfold at8
  rcases f3_all x with e | e | e | e | e | e | e | e <;> rw [e] <;> decide
theorem g_immediates : Tryd.prog.globalNamed "chains/decode.immediates" = some 3 := by kernel_rfl
theorem y_immediates : (Tryd.prog.globals[3]?).map (·.type) = some 39 := by kernel_rfl
theorem at_T13 (x : Int) : T13.getD (f3 x).toNat 0 = at8 T13 x ∧ (f3 x).toNat < T13.length := by
  unfold at8
  rcases f3_all x with e | e | e | e | e | e | e | e <;> rw [e] <;> decide
theorem g_plain : Tryd.prog.globalNamed "chains/decode.plain" = some 4 := by kernel_rfl
theorem y_plain : (Tryd.prog.globals[4]?).map (·.type) = some 39 := by kernel_rfl
theorem at_T330 (x : Int) : T330.getD (f3 x).toNat 0 = at8 T330 x ∧ (f3 x).toNat < T330.length := by
  unfold at8
  rcases f3_all x with e | e | e | e | e | e | e | e <;> rw [e] <;> decide
theorem g_opposite : Tryd.prog.globalNamed "chains/decode.opposite" = some 5 := by kernel_rfl
theorem y_opposite : (Tryd.prog.globals[5]?).map (·.type) = some 39 := by kernel_rfl
theorem at_T3320 (x : Int) : T3320.getD (f3 x).toNat 0 = at8 T3320 x ∧ (f3 x).toNat < T3320.length := by
  unfold at8
  rcases f3_all x with e | e | e | e | e | e | e | e <;> rw [e] <;> decide
theorem g_products : Tryd.prog.globalNamed "chains/decode.products" = some 6 := by kernel_rfl
theorem y_products : (Tryd.prog.globals[6]?).map (·.type) = some 39 := by kernel_rfl
theorem at_T331 (x : Int) : T331.getD (f3 x).toNat 0 = at8 T331 x ∧ (f3 x).toNat < T331.length := by
  unfold at8
  rcases f3_all x with e | e | e | e | e | e | e | e <;> rw [e] <;> decide
theorem tabs_of_laid {W : World} (h : laidMetH Tryd.prog Rows.decodesRow.laid W) (x : Int) : Tabs W x := by
  rw [MakeChecks.laidMetH_plain _ _ _ (by kernel_rfl)] at h
  have i0 : Lib.TabIs Tryd.prog W "chains/decode.branches" .i64 T63 := Lib.tabIs_of_head g_branches y_branches Tryd.underlying39 Tryd.underlying23 cellsO cellsA h
  have c0 : W.cell? ⟨0, (f3 x).toNat, none⟩ = some (.int .i64 (at8 T63 x)) := by rw [← (at_T63 x).1]; exact i0.cell g_branches _ (at_T63 x).2
  have i1 : Lib.TabIs Tryd.prog W "chains/decode.loads" .i64 T03 := Lib.tabIs_of_head g_loads y_loads Tryd.underlying39 Tryd.underlying23 cellsO cellsA h.tail
  have c1 : W.cell? ⟨1, (f3 x).toNat, none⟩ = some (.int .i64 (at8 T03 x)) := by rw [← (at_T03 x).1]; exact i1.cell g_loads _ (at_T03 x).2
  have i2 : Lib.TabIs Tryd.prog W "chains/decode.stores" .i64 T23 := Lib.tabIs_of_head g_stores y_stores Tryd.underlying39 Tryd.underlying23 cellsO cellsA h.tail.tail
  have c2 : W.cell? ⟨2, (f3 x).toNat, none⟩ = some (.int .i64 (at8 T23 x)) := by rw [← (at_T23 x).1]; exact i2.cell g_stores _ (at_T23 x).2
  have i3 : Lib.TabIs Tryd.prog W "chains/decode.immediates" .i64 T13 := Lib.tabIs_of_head g_immediates y_immediates Tryd.underlying39 Tryd.underlying23 cellsO cellsA h.tail.tail.tail
  have c3 : W.cell? ⟨3, (f3 x).toNat, none⟩ = some (.int .i64 (at8 T13 x)) := by rw [← (at_T13 x).1]; exact i3.cell g_immediates _ (at_T13 x).2
  have i4 : Lib.TabIs Tryd.prog W "chains/decode.plain" .i64 T330 := Lib.tabIs_of_head g_plain y_plain Tryd.underlying39 Tryd.underlying23 cellsO cellsA h.tail.tail.tail.tail
  have c4 : W.cell? ⟨4, (f3 x).toNat, none⟩ = some (.int .i64 (at8 T330 x)) := by rw [← (at_T330 x).1]; exact i4.cell g_plain _ (at_T330 x).2
  have i5 : Lib.TabIs Tryd.prog W "chains/decode.opposite" .i64 T3320 := Lib.tabIs_of_head g_opposite y_opposite Tryd.underlying39 Tryd.underlying23 cellsO cellsA h.tail.tail.tail.tail.tail
  have c5 : W.cell? ⟨5, (f3 x).toNat, none⟩ = some (.int .i64 (at8 T3320 x)) := by rw [← (at_T3320 x).1]; exact i5.cell g_opposite _ (at_T3320 x).2
  have i6 : Lib.TabIs Tryd.prog W "chains/decode.products" .i64 T331 := Lib.tabIs_of_head g_products y_products Tryd.underlying39 Tryd.underlying23 cellsO cellsA h.tail.tail.tail.tail.tail.tail
  have c6 : W.cell? ⟨6, (f3 x).toNat, none⟩ = some (.int .i64 (at8 T331 x)) := by rw [← (at_T331 x).1]; exact i6.cell g_products _ (at_T331 x).2
  have hz := World.block_lt_of_cell? _ _ c6
  exact ⟨hz, c0, c1, c2, c3, c4, c5, c6⟩
theorem contract (H : Type) (enc : TypeId × Value → H) (W : World) (base : Nat) (args : Array Value) (ds gs : List (DataW H)) (before : List MemPlace)
    (hval : ∀ (j : Nat) t v, Tryd.f3.params[j]? = some t → args[j]? = some v → Value.okWide Tryd.prog W .any base t v)
    (hW : DataW.Whole enc Tryd.prog Tryd.f3.params.toList Rows.decodesSpec.vars false W args.toList ds gs before) (hL : laidMetH Tryd.prog Rows.decodesRow.laid W) :
    Calls Tryd.prog 3 args W fun e W' => ∃ v, e = .returned v ∧ Rows.decodesSpec.post enc Tryd.prog Tryd.f3 false true false false W args v W' := by
  have hW' := hW
  obtain ⟨p, q, hA0, hV, rfl, hfz, hnd⟩ := hW
  have hA : DataW.TrodAll enc Tryd.prog W 0 (fun _ => true) true Tryd.f3.params.toList args.toList ds p := hA0
  rw [Tryd.params3] at hA hval
  obtain ⟨v0, vs0, d0, ds0, p0, q0, hargs, rfl, rfl, h0, r0⟩ := trodAll_cons hA
  obtain ⟨rfl, rfl, rfl⟩ := trodAll_nil r0
  obtain rfl : args = #[v0] := by cases args; simp_all
  obtain ⟨rfl, rfl⟩ := trodVars_none hV
  obtain ⟨x, rfl, rfl, rfl, wx⟩ := open_int Tryd.underlying22 (hval 0 22 v0 rfl rfl) h0
  clear hA0
  simp only [List.append_nil] at hW'
  have bx := bounds_u32 wx
  refine (walkB x bx.1 bx.2 W (tabs_of_laid hL x)).mono fun e W' ⟨he, bel⟩ => ?_
  subst he
  exact ⟨_, rfl, _, _, _, [], _, [], hW', trodAll_mk1 (shut_bool Tryd.underlying4 _), trodAll_mk1 (shut_int Tryd.underlying22 wx), rfl, bel.frame _, fun h => by cases h⟩

/-- The tables' cells, for the witness's world: the settled one, each table holding what its initialiser lays. -/
def laidCells : List (Nat × Nat × Int) := [(0, 0, 4), (0, 1, 5), (0, 2, -1), (0, 3, -1), (0, 4, 6), (0, 5, 7), (0, 6, 8), (0, 7, 9), (1, 0, 10), (1, 1, 11), (1, 2, 12), (1, 3, -1), (1, 4, 13), (1, 5, 14), (1, 6, -1), (1, 7, -1), (2, 0, 15), (2, 1, 16), (2, 2, 17), (2, 3, -1), (2, 4, -1), (2, 5, -1), (2, 6, -1), (2, 7, -1), (3, 0, 18), (3, 1, -1), (3, 2, 19), (3, 3, 20), (3, 4, 21), (3, 5, -1), (3, 6, 22), (3, 7, 23), (4, 0, 27), (4, 1, 29), (4, 2, 30), (4, 3, 31), (4, 4, 32), (4, 5, 33), (4, 6, 35), (4, 7, 36), (5, 0, 28), (5, 1, -1), (5, 2, -1), (5, 3, -1), (5, 4, -1), (5, 5, 34), (5, 6, -1), (5, 7, -1), (6, 0, 37), (6, 1, 38), (6, 2, 39), (6, 3, 40), (6, 4, 41), (6, 5, 42), (6, 6, 43), (6, 7, 44)]
/-- The start that fits: seven closed facts. -/
theorem start (os : Os) : ∃ w0 : World, w0.os = os ∧ (w0.forCall (fun _ _ => 0) ⟨#[], #[.int .u32 0], []⟩).variablesB Tryd.prog = true ∧
    ((w0.forCall (fun _ _ => 0) ⟨#[], #[.int .u32 0], []⟩).heap.toList.drop Tryd.prog.globals.size).take ((begin Tryd.prog (fun _ _ => 0) default).world.heap.size - Tryd.prog.globals.size) = (begin Tryd.prog (fun _ _ => 0) default).world.heap.toList.drop Tryd.prog.globals.size ∧
    Input.okWideB Tryd.prog (w0.forCall (fun _ _ => 0) ⟨#[], #[.int .u32 0], []⟩) 3 ⟨#[], #[.int .u32 0], []⟩ = true ∧ laidMet Tryd.prog Rows.decodesRow.laid (w0.forCall (fun _ _ => 0) ⟨#[], #[.int .u32 0], []⟩).memory ∧
    (∀ (H : Type) (enc : TypeId × Value → H), DataW.whole enc Tryd.prog (w0.forCall (fun _ _ => 0) ⟨#[], #[.int .u32 0], []⟩).memory Tryd.f3.params.toList Rows.decodesSpec.vars false #[Value.int .u32 0].toList 8 = some ([.lit (.int .u32 0)], [], [])) ∧
    (∀ (H : Type) (enc : TypeId × Value → H), (OpenSpec.ofChange Rows.decodesSpec).bare.sizedB enc Tryd.prog Tryd.f3 false (w0.forCall (fun _ _ => 0) ⟨#[], #[.int .u32 0], []⟩).memory #[.int .u32 0] 8 = true) :=
  ⟨(laidCells.foldl (fun w t => w.setCell ⟨t.1, t.2.1, none⟩ (.int .i64 t.2.2)) (World.holding Tryd.prog os ⟨#[], #[], []⟩)), rfl, by kernel_rfl, by kernel_rfl, by kernel_rfl, laidMet_of_run' 8 (by kernel_rfl) (by kernel_rfl), fun _ _ => by kernel_rfl, fun _ _ => by kernel_rfl⟩

set_option maxRecDepth 100000 in
theorem lifted (os : Os) (started : os.Started) (H : Type) (enc : TypeId × Value → H) (F : Stop.Interp) :
    ReturnsInHanded {} Tryd.checked os 3 .any ((OpenSpec.ofChange Rows.decodesSpec).preRow enc Tryd.prog Tryd.f3 Rows.decodesRow.domain false Rows.decodesRow.laid) (((OpenSpec.ofChange Rows.decodesSpec).at F).post enc Tryd.prog Tryd.f3 false true false false) := by
  obtain ⟨w0, q1, q2, q3, q4, q5, q6, q7⟩ := start os
  refine returnsInHanded_of_row (C := Tryd.checked) (s := OpenSpec.ofChange Rows.decodesSpec) own started (by kernel_rfl) Tryd.func3
    (witness_row_at (enc := enc) (C := Tryd.checked) false w0 #[.int .u32 0] q1 q2 q3 q4
      (OpenSpec.preRow_of_cond 8 (q6 H enc) (by kernel_rfl) (fun k hk => by cases hk) (q7 H enc) (by rw [MakeChecks.laidMetH_plain _ _ _ (by kernel_rfl)]; exact q5))) ?_
  intro W base args ds gs before hval hW _ _ _ hL _ _
  exact contract H enc W base args ds gs before hval hW hL

theorem said : Rows.DecodesSaid :=
  OpenClaim.holds_of_cond 3 Tryd.f3 rfl rfl rfl rfl rfl rfl rfl ⟨rfl, rfl, rfl, rfl, rfl⟩ rfl rfl rfl rfl rfl (by kernel_rfl) Tryd.func3 (by kernel_rfl)
    (of_decide_eq_true (by kernel_rfl)) (by unfold Func.isWrapper; first | (rw [if_pos (by decide +kernel)]; kernel_rfl) | (rw [if_neg (by decide +kernel)]; exact ⟨rfl, rfl⟩))
    (fun os started H enc _ F => by rw [OpenClaim.pre_eq_preRow]; exact lifted os started H enc F)

theorem plain (f : FuncId) (fn : Func) (hf : Tryd.pinned.checked.prog.funcNamed "chains/chainslaw.Decodes" = some f) (hfn : Tryd.pinned.checked.prog.funcs[f]? = some fn) :
    false = Tryd.pinned.checked.prog.looks [] ∧ ∀ (j : Nat) t, fn.params[j]? = some t → Tryd.pinned.checked.prog.wantsStandIn t = false := by
  obtain rfl : f = 3 := Option.some.inj ((show Tryd.prog.funcNamed "chains/chainslaw.Decodes" = some 3 by kernel_rfl).symm.trans hf) |>.symm
  obtain rfl : fn = Tryd.f3 := (Option.some.inj (Tryd.func3.symm.trans hfn)).symm
  refine ⟨by kernel_rfl, fun j t ht => ?_⟩
  rw [Tryd.params3] at ht
  obtain rfl : t = 22 := by simpa using Array.mem_of_getElem? ht
  exact (show Tryd.prog.wantsStandIn 22 = false by kernel_rfl)

theorem card : Rows.DecodesCardSaid :=
  Claim7.holds_tied_plain_at .later [] _ _ _ _ said (fun _ h => by cases h) (by kernel_rfl) (fun _ h => by cases h) decodes_row_tie rfl ⟨rfl, rfl⟩ (by kernel_rfl) rfl plain (by kernel_rfl)
end Go.Proofs.YtjikimpejlmdiaaDoor.decodes
namespace Go.Proofs.YtjikimpejlmdiaaDoor
theorem decodes_holds : Rows.DecodesCardSaid := decodes.card
#print axioms decodes_holds
end Go.Proofs.YtjikimpejlmdiaaDoor

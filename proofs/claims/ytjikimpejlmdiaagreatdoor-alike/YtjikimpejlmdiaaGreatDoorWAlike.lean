import Derived.Test.YtjikimpejlmdiaaGreatDoorWKpF
import Derived.Test.YtjikimpejlmdiaaGreatDoorWKpY
set_option maxHeartbeats 4000000
set_option linter.unusedVariables false
set_option linter.unusedSimpArgs false
set_option maxRecDepth 10000
namespace Go.Proofs.YtjikimpejlmdiaaGreatDoor
namespace keep.alike
open ChangeShapes WideShapes ChangeAt RowKit nums dnums mach
open keep
theorem tabs_of_laid {W : World} (h : laidMetH Tryz.prog Rows.alikeRow.laid W) (x : Int) : decodes.Tabs W x := by
  rw [MakeChecks.laidMetH_plain _ _ _ kR] at h
  have i0 : Lib.TabIs Tryz.prog W "chains/decode.branches" .i64 T63 := Lib.tabIs_of_head g_branches y_branches Tryz.underlying137 Tryz.underlying59 cellsO cellsA h
  have c0 : W.cell? ⟨0, (f3 x).toNat, none⟩ = some (.int .i64 (at8 T63 x)) := by rw [<- (at_T63 x).1]; exact i0.cell g_branches _ (at_T63 x).2
  have i1 : Lib.TabIs Tryz.prog W "chains/decode.loads" .i64 T03 := Lib.tabIs_of_head g_loads y_loads Tryz.underlying137 Tryz.underlying59 cellsO cellsA h.tail
  have c1 : W.cell? ⟨1, (f3 x).toNat, none⟩ = some (.int .i64 (at8 T03 x)) := by rw [<- (at_T03 x).1]; exact i1.cell g_loads _ (at_T03 x).2
  have i2 : Lib.TabIs Tryz.prog W "chains/decode.stores" .i64 T23 := Lib.tabIs_of_head g_stores y_stores Tryz.underlying137 Tryz.underlying59 cellsO cellsA h.tail.tail
  have c2 : W.cell? ⟨2, (f3 x).toNat, none⟩ = some (.int .i64 (at8 T23 x)) := by rw [<- (at_T23 x).1]; exact i2.cell g_stores _ (at_T23 x).2
  have i3 : Lib.TabIs Tryz.prog W "chains/decode.immediates" .i64 T13 := Lib.tabIs_of_head g_immediates y_immediates Tryz.underlying137 Tryz.underlying59 cellsO cellsA h.tail.tail.tail
  have c3 : W.cell? ⟨3, (f3 x).toNat, none⟩ = some (.int .i64 (at8 T13 x)) := by rw [<- (at_T13 x).1]; exact i3.cell g_immediates _ (at_T13 x).2
  have i4 : Lib.TabIs Tryz.prog W "chains/decode.plain" .i64 T330 := Lib.tabIs_of_head g_plain y_plain Tryz.underlying137 Tryz.underlying59 cellsO cellsA h.tail.tail.tail.tail
  have c4 : W.cell? ⟨4, (f3 x).toNat, none⟩ = some (.int .i64 (at8 T330 x)) := by rw [<- (at_T330 x).1]; exact i4.cell g_plain _ (at_T330 x).2
  have i5 : Lib.TabIs Tryz.prog W "chains/decode.opposite" .i64 T3320 := Lib.tabIs_of_head g_opposite y_opposite Tryz.underlying137 Tryz.underlying59 cellsO cellsA h.tail.tail.tail.tail.tail
  have c5 : W.cell? ⟨5, (f3 x).toNat, none⟩ = some (.int .i64 (at8 T3320 x)) := by rw [<- (at_T3320 x).1]; exact i5.cell g_opposite _ (at_T3320 x).2
  have i6 : Lib.TabIs Tryz.prog W "chains/decode.products" .i64 T331 := Lib.tabIs_of_head g_products y_products Tryz.underlying137 Tryz.underlying59 cellsO cellsA h.tail.tail.tail.tail.tail.tail
  have c6 : W.cell? ⟨6, (f3 x).toNat, none⟩ = some (.int .i64 (at8 T331 x)) := by rw [<- (at_T331 x).1]; exact i6.cell g_products _ (at_T331 x).2
  have hz := World.block_lt_of_cell? _ _ c6
  exact ⟨hz, c0, c1, c2, c3, c4, c5, c6⟩
theorem contract (H : Type) (enc : TypeId × Value -> H) (W : World) (base : Nat) (args : Array Value) (ds gs : List (DataW H)) (before : List MemPlace)
    (hval : ∀ (j : Nat) t v, Tryz.f7.params[j]? = some t -> args[j]? = some v -> Value.okWide Tryz.prog W .any base t v)
    (hW : DataW.Whole enc Tryz.prog Tryz.f7.params.toList Rows.alikeSpec.vars false W args.toList ds gs before) (hL : laidMetH Tryz.prog Rows.alikeRow.laid W) :
    Calls Tryz.prog 7 args W fun e W' => ∃ v, e = .returned v /\ Rows.alikeSpec.post enc Tryz.prog Tryz.f7 false true false false W args v W' := by
  have hW' := hW
  obtain ⟨p, q, hA0, hV, rfl, hfz, hnd⟩ := hW
  have hA : DataW.TrodAll enc Tryz.prog W 0 (fun _ => true) true Tryz.f7.params.toList args.toList ds p := hA0
  rw [Tryz.params7] at hA hval
  obtain ⟨v0, vs0, d0, ds0, p0, q0, hargs, rfl, rfl, h0, r0⟩ := trodAll_cons hA
  obtain ⟨v1, vs1, d1, ds1, p1, q1, rfl, rfl, rfl, h1, r1⟩ := trodAll_cons r0
  obtain ⟨v2, vs2, d2, ds2, p2, q2, rfl, rfl, rfl, h2, r2⟩ := trodAll_cons r1
  obtain ⟨rfl, rfl, rfl⟩ := trodAll_nil r2
  obtain rfl : args = #[v0, v1, v2] := by cases args; simp_all
  obtain ⟨rfl, rfl⟩ := trodVars_none hV
  clear hA0
  obtain ⟨cs, rfl, hcs⟩ := okWide_struct Tryz.underlying25 (hval 0 25 v0 rfl rfl)
  have h0k := h0
  obtain ⟨pg, im, ba, en, fu, sl, ar, oa, l, ca, hv, harg, hb, he, hfu⟩ := open_setup ⟨cs, rfl, hcs⟩ h0
  injection hv with hv
  subst hv
  obtain ⟨a1, rfl, rfl, rfl, w1⟩ := open_int Tryz.underlying3 (hval 1 3 v1 rfl rfl) h1
  obtain ⟨a2, rfl, rfl, rfl, w2⟩ := open_int Tryz.underlying3 (hval 2 3 v2 rfl rfl) h2
  simp only [List.append_nil, List.nil_append] at hW'
  have hlt : ∀ x ∈ p0, x.block < W.heap.size := fun x hx => by simpa using hW'.lt x hx
  refine (alike_any pg im ba en fu sl ar oa l ca a1 a2 W w1 w2 hb.1 hb.2 he.1 he.2 hfu harg (fun w' x hbel => (tabs_of_laid hL x).below hbel (tabs_of_laid hL x).1)).mono fun e W' ⟨he, bel⟩ => ?_
  subst he
  exact ⟨_, rfl, _, _, _, [], _, [], hW', trodAll_mk1 (shut_bool Tryz.underlying4 _), (trodAll_cons_mk (Below.trod laidOut kR (of_decide_eq_true kR) h0k bel hlt) (trodAll_cons_mk (shut_int Tryz.underlying3 w1) (trodAll_cons_mk (shut_int Tryz.underlying3 w2) trodAll_mk0))), rfl, bel.frame _, fun h => by cases h⟩
theorem start (os : Os) : ∃ w0 : World, w0.os = os /\ (w0.forCall (fun _ _ => 0) ⟨#[], #[Value.agg #[.int .i64 0, .string ⟨#[]⟩, .int .u32 0, .int .u32 0, .slice none 0 0, .int .i64 0, .int .i64 0, .int .i64 0], .int .i64 0, .int .i64 0], []⟩).variablesB Tryz.prog = true /\
    ((w0.forCall (fun _ _ => 0) ⟨#[], #[Value.agg #[.int .i64 0, .string ⟨#[]⟩, .int .u32 0, .int .u32 0, .slice none 0 0, .int .i64 0, .int .i64 0, .int .i64 0], .int .i64 0, .int .i64 0], []⟩).heap.toList.drop Tryz.prog.globals.size).take ((begin Tryz.prog (fun _ _ => 0) default).world.heap.size - Tryz.prog.globals.size) = (begin Tryz.prog (fun _ _ => 0) default).world.heap.toList.drop Tryz.prog.globals.size /\
    Input.okWideB Tryz.prog (w0.forCall (fun _ _ => 0) ⟨#[], #[Value.agg #[.int .i64 0, .string ⟨#[]⟩, .int .u32 0, .int .u32 0, .slice none 0 0, .int .i64 0, .int .i64 0, .int .i64 0], .int .i64 0, .int .i64 0], []⟩) 7 ⟨#[], #[Value.agg #[.int .i64 0, .string ⟨#[]⟩, .int .u32 0, .int .u32 0, .slice none 0 0, .int .i64 0, .int .i64 0, .int .i64 0], .int .i64 0, .int .i64 0], []⟩ = true /\ laidMet Tryz.prog Rows.alikeRow.laid (w0.forCall (fun _ _ => 0) ⟨#[], #[Value.agg #[.int .i64 0, .string ⟨#[]⟩, .int .u32 0, .int .u32 0, .slice none 0 0, .int .i64 0, .int .i64 0, .int .i64 0], .int .i64 0, .int .i64 0], []⟩).memory /\
    (∀ (H : Type) (enc : TypeId × Value -> H), DataW.whole enc Tryz.prog (w0.forCall (fun _ _ => 0) ⟨#[], #[Value.agg #[.int .i64 0, .string ⟨#[]⟩, .int .u32 0, .int .u32 0, .slice none 0 0, .int .i64 0, .int .i64 0, .int .i64 0], .int .i64 0, .int .i64 0], []⟩).memory Tryz.f7.params.toList Rows.alikeSpec.vars false #[Value.agg #[.int .i64 0, .string ⟨#[]⟩, .int .u32 0, .int .u32 0, .slice none 0 0, .int .i64 0, .int .i64 0, .int .i64 0], .int .i64 0, .int .i64 0].toList 8 = some ([.agg [.lit (.int .i64 0), .lit (.string []), .lit (.int .u32 0), .lit (.int .u32 0), .nil, .lit (.int .i64 0), .lit (.int .i64 0), .lit (.int .i64 0)], .lit (.int .i64 0), .lit (.int .i64 0)], [], [])) /\
    (∀ (H : Type) (enc : TypeId × Value -> H), (OpenSpec.ofChange Rows.alikeSpec).bare.sizedB enc Tryz.prog Tryz.f7 false (w0.forCall (fun _ _ => 0) ⟨#[], #[Value.agg #[.int .i64 0, .string ⟨#[]⟩, .int .u32 0, .int .u32 0, .slice none 0 0, .int .i64 0, .int .i64 0, .int .i64 0], .int .i64 0, .int .i64 0], []⟩).memory #[Value.agg #[.int .i64 0, .string ⟨#[]⟩, .int .u32 0, .int .u32 0, .slice none 0 0, .int .i64 0, .int .i64 0, .int .i64 0], .int .i64 0, .int .i64 0] 8 = true) :=
  ⟨(laidCells.foldl (fun w t => w.setCell ⟨t.1, t.2.1, none⟩ (.int .i64 t.2.2)) (World.holding Tryz.prog os ⟨#[], #[], []⟩)), rfl, by kernel_rfl, by kernel_rfl, by kernel_rfl, laidMet_of_run' 8 kR kR, fun _ _ => by kernel_rfl, fun _ _ => by kernel_rfl⟩

set_option maxRecDepth 100000 in
theorem lifted (os : Os) (started : os.Started) (H : Type) (enc : TypeId × Value -> H) (F : Stop.Interp) :
    ReturnsInHanded {} Tryz.checked os 7 .any ((OpenSpec.ofChange Rows.alikeSpec).preRow enc Tryz.prog Tryz.f7 Rows.alikeRow.domain false Rows.alikeRow.laid) (((OpenSpec.ofChange Rows.alikeSpec).at F).post enc Tryz.prog Tryz.f7 false true false false) := by
  obtain ⟨w0, q1, q2, q3, q4, q5, q6, q7⟩ := start os
  refine returnsInHanded_of_row (C := Tryz.checked) (s := OpenSpec.ofChange Rows.alikeSpec) own started kR Tryz.func7
    (witness_row_at (enc := enc) (C := Tryz.checked) false w0 #[Value.agg #[.int .i64 0, .string ⟨#[]⟩, .int .u32 0, .int .u32 0, .slice none 0 0, .int .i64 0, .int .i64 0, .int .i64 0], .int .i64 0, .int .i64 0] q1 q2 q3 q4
      (OpenSpec.preRow_of_cond 8 (q6 H enc) kR (fun k hk => by cases hk) (q7 H enc) (by rw [MakeChecks.laidMetH_plain _ _ _ kR]; exact q5))) ?_
  intro W base args ds gs before hval hW _ _ _ hL _ _
  exact contract H enc W base args ds gs before hval hW hL

theorem said : Rows.AlikeSaid :=
  OpenClaim.holds_of_cond 7 Tryz.f7 rfl rfl rfl rfl rfl rfl rfl ⟨rfl, rfl, rfl, rfl, rfl⟩ rfl rfl rfl rfl rfl kR Tryz.func7 kR
    (of_decide_eq_true kR) (by unfold Func.isWrapper; first | (rw [if_pos (by decide +kernel)]; kernel_rfl) | (rw [if_neg (by decide +kernel)]; exact ⟨rfl, rfl⟩))
    (fun os started H enc _ F => by rw [OpenClaim.pre_eq_preRow]; exact lifted os started H enc F)

theorem plain (f : FuncId) (fn : Func) (hf : Tryz.pinned.checked.prog.funcNamed "chains/chainskeep.Alike" = some f) (hfn : Tryz.pinned.checked.prog.funcs[f]? = some fn) :
    true = Tryz.pinned.checked.prog.looks [] /\ ∀ (j : Nat) t, fn.params[j]? = some t -> Tryz.pinned.checked.prog.wantsStandIn t = false := by
  obtain rfl : f = 7 := Option.some.inj ((show Tryz.prog.funcNamed "chains/chainskeep.Alike" = some 7 by kernel_rfl).symm.trans hf) |>.symm
  obtain rfl : fn = Tryz.f7 := (Option.some.inj (Tryz.func7.symm.trans hfn)).symm
  refine ⟨by kernel_rfl, fun j t ht => ?_⟩
  rw [Tryz.params7] at ht
  have hm := Array.mem_of_getElem? ht
  simp at hm
  rcases hm with rfl | rfl
  · exact (show Tryz.prog.wantsStandIn 25 = false by kernel_rfl)
  · exact (show Tryz.prog.wantsStandIn 3 = false by kernel_rfl)

theorem card : Rows.AlikeCardSaid :=
  Claim7.holds_tied_plain_at .later [] _ _ _ _ said (fun _ h => by cases h) kR (fun _ h => by cases h) alike_row_tie rfl ⟨rfl, rfl⟩ kR rfl plain kR
end keep.alike
theorem alike_holds : Rows.AlikeCardSaid := keep.alike.card
#print axioms alike_holds
end Go.Proofs.YtjikimpejlmdiaaGreatDoor

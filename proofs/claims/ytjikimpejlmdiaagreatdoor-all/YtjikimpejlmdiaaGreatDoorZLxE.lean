import Derived.Test.YtjikimpejlmdiaaGreatDoorZHg
import Derived.Deep.MidRow
set_option maxHeartbeats 4000000
set_option linter.unusedVariables false
set_option linter.unusedSimpArgs false
set_option maxRecDepth 10000
namespace Go.Proofs.YtjikimpejlmdiaaGreatDoor
theorem XF0{p:Prop}(h:p:=by rw[<-hst];exact prog.touch_new _ _ _ _ ((ref.Touch.refl _ _).alloc _) (Nat.le_refl _)):p:=h
namespace law
open ChangeShapes WideShapes ChangeAt RowKit nums dnums mach
attribute [local go_sem ↓] Go.wp_at_zero Go.wp_at_succ
theorem runs_any(pg:Int)(im:ByteArray)(ba en fu sl ar:Int)(oa:Option Addr)(l:List ByteArray)(ca:Nat)(w:World)(ba0:0<=ba)(ba1:ba<=4294967295)(en0:0<=en)(en1:en<=4294967295)(h:ArgAt l oa ca w)(hT:∀w' x,Below w.heap.size w w'->decodes.Tabs w' x):
  Calls Tryz.prog 4 #[.agg #[.int .i64 pg,.string im,.int .u32 ba,.int .u32 en,.slice oa l.length ca,.int .i64 fu,.int .i64 sl,.int .i64 ar]] w fun e w'=>e=.returned (.bool true)/\Below w.heap.size w w':=by
 have HA:Hid (ArgAt l oa ca w):=h
 have HA0:Hid (ArgAt l oa ca (w.alloc (.cells #[.int .i64 pg,.string im,.int .u32 ba,.int .u32 en,.slice oa l.length ca,.int .i64 fu,.int .i64 sl,.int .i64 ar] 25))):=h.below ((Below.refl _ _).alloc (Nat.le_refl _) _)
 have HTB:Hid (∀w' x,Below w.heap.size w w'->decodes.Tabs w' x):=hT
 clear h hT
 go_enter Tryz.func4,Tryz.ntmps4
 go_wp2_with fail
 refine(Calls.mono (few_any pg im ba en fu sl ar oa l ca _ HA0.out) ?_)
 rintro e w1 ⟨y,rfl,hy,ht1⟩
 have HY:Hid (y=true->Few im l):=hy
 have T1:Hid (ref.Touch [] (w.alloc (.cells #[.int .i64 pg,.string im,.int .u32 ba,.int .u32 en,.slice oa l.length ca,.int .i64 fu,.int .i64 sl,.int .i64 ar] 25)) w1):=ht1
 have a0:w1.cell? ⟨w.heap.size,0,none⟩=some (.int .i64 pg):=(ht1.cell (p:=⟨w.heap.size,0,none⟩) sP sP).trans (World.cell?_alloc_at _ _ _ _ rfl)
 have a1:w1.cell? ⟨w.heap.size,1,none⟩=some (.string im):=(ht1.cell (p:=⟨w.heap.size,1,none⟩) sP sP).trans (World.cell?_alloc_at _ _ _ _ rfl)
 have a2:w1.cell? ⟨w.heap.size,2,none⟩=some (.int .u32 ba):=(ht1.cell (p:=⟨w.heap.size,2,none⟩) sP sP).trans (World.cell?_alloc_at _ _ _ _ rfl)
 have a3:w1.cell? ⟨w.heap.size,3,none⟩=some (.int .u32 en):=(ht1.cell (p:=⟨w.heap.size,3,none⟩) sP sP).trans (World.cell?_alloc_at _ _ _ _ rfl)
 have a4:w1.cell? ⟨w.heap.size,4,none⟩=some (.slice oa l.length ca):=(ht1.cell (p:=⟨w.heap.size,4,none⟩) sP sP).trans (World.cell?_alloc_at _ _ _ _ rfl)
 have a5:w1.cell? ⟨w.heap.size,5,none⟩=some (.int .i64 fu):=(ht1.cell (p:=⟨w.heap.size,5,none⟩) sP sP).trans (World.cell?_alloc_at _ _ _ _ rfl)
 have a6:w1.cell? ⟨w.heap.size,6,none⟩=some (.int .i64 sl):=(ht1.cell (p:=⟨w.heap.size,6,none⟩) sP sP).trans (World.cell?_alloc_at _ _ _ _ rfl)
 have a7:w1.cell? ⟨w.heap.size,7,none⟩=some (.int .i64 ar):=(ht1.cell (p:=⟨w.heap.size,7,none⟩) sP sP).trans (World.cell?_alloc_at _ _ _ _ rfl)
 clear ht1 hy
 have HA1:Hid (ArgAt l oa ca w1):=HA0.out.below (T1.out.below (Nat.le_refl _) sP)
 have HB1:Hid (Below w.heap.size w w1):=below_touch ((Below.refl _ _).alloc (Nat.le_refl _) _) T1.out
 cases y with
 |false=>
  go_wp2_with fail
  go_ret
  exact⟨rfl,HB1.out⟩
 |true=>
  have HFW:Hid (Few im l):=HY.out rfl
  go_wp2_with fail
  refine(Calls.mono (copied_any pg im ba en fu sl ar oa l ca _ HA1.out HFW.out) ?_)
  rintro e w2 ⟨g,cq,rfl,hg2,hg,ht2⟩
  have HG2:Hid (ArgAt l (some ⟨g,0,none⟩) cq w2):=hg2
  have T2:Hid (ref.Touch [] w1 w2):=ht2
  have HGB:Hid (w1.heap.size<=g):=hg
  have b0:w2.cell? ⟨w.heap.size,0,none⟩=some (.int .i64 pg):=(ht2.cell (p:=⟨w.heap.size,0,none⟩) (World.block_lt_of_cell? _ _ a0) sP).trans a0
  have b1:w2.cell? ⟨w.heap.size,1,none⟩=some (.string im):=(ht2.cell (p:=⟨w.heap.size,1,none⟩) (World.block_lt_of_cell? _ _ a1) sP).trans a1
  have b2:w2.cell? ⟨w.heap.size,2,none⟩=some (.int .u32 ba):=(ht2.cell (p:=⟨w.heap.size,2,none⟩) (World.block_lt_of_cell? _ _ a2) sP).trans a2
  have b3:w2.cell? ⟨w.heap.size,3,none⟩=some (.int .u32 en):=(ht2.cell (p:=⟨w.heap.size,3,none⟩) (World.block_lt_of_cell? _ _ a3) sP).trans a3
  have b4:w2.cell? ⟨w.heap.size,4,none⟩=some (.slice oa l.length ca):=(ht2.cell (p:=⟨w.heap.size,4,none⟩) (World.block_lt_of_cell? _ _ a4) sP).trans a4
  have b5:w2.cell? ⟨w.heap.size,5,none⟩=some (.int .i64 fu):=(ht2.cell (p:=⟨w.heap.size,5,none⟩) (World.block_lt_of_cell? _ _ a5) sP).trans a5
  have b6:w2.cell? ⟨w.heap.size,6,none⟩=some (.int .i64 sl):=(ht2.cell (p:=⟨w.heap.size,6,none⟩) (World.block_lt_of_cell? _ _ a6) sP).trans a6
  have b7:w2.cell? ⟨w.heap.size,7,none⟩=some (.int .i64 ar):=(ht2.cell (p:=⟨w.heap.size,7,none⟩) (World.block_lt_of_cell? _ _ a7) sP).trans a7
  clear ht2 hg2 hg
  have HB2:Hid (Below w.heap.size w w2):=below_touch HB1.out T2.out
  go_wp2_with fail
  have HB3:Hid (Below w.heap.size w (w2.alloc (.cells #[.int .i64 pg,.string im,.int .u32 ba,.int .u32 en,.slice (some ⟨g,0,none⟩) l.length cq,.int .i64 fu,.int .i64 sl,.int .i64 ar] 25))):=HB2.out.alloc HB2.out.size _
  have HC3:Hid (ArgAt l (some ⟨g,0,none⟩) cq (w2.alloc (.cells #[.int .i64 pg,.string im,.int .u32 ba,.int .u32 en,.slice (some ⟨g,0,none⟩) l.length cq,.int .i64 fu,.int .i64 sl,.int .i64 ar] 25))):=HG2.out.below ((Below.refl _ _).alloc (Nat.le_refl _) _)
  have z3:w.heap.size<(w2.alloc (.cells #[.int .i64 pg,.string im,.int .u32 ba,.int .u32 en,.slice (some ⟨g,0,none⟩) l.length cq,.int .i64 fu,.int .i64 sl,.int .i64 ar] 25)).heap.size:=by have:=HB2.out.size;simp;omega
  have z2:w.heap.size<w2.heap.size:=World.block_lt_of_cell? _ _ b0
  refine(Calls.mono (run_res pg im ba en fu sl ar l ba0 ba1 en0 en1 HFW.out.1 (.slice (some ⟨g,0,none⟩) l.length cq) (w2.alloc (.cells #[.int .i64 pg,.string im,.int .u32 ba,.int .u32 en,.slice (some ⟨g,0,none⟩) l.length cq,.int .i64 fu,.int .i64 sl,.int .i64 ar] 25)) (HC3.out.ans HFW.out) (fun w' x hb=>HTB.out w' x (HB3.out.trans (hb.mono (Nat.le_of_lt z3))))) ?_)
  rintro e w4 ⟨m,o,er,v1,rfl,hres,how,hb4⟩
  have HRES:Hid (ResB pg im ba en fu sl ar l m o er):=hres
  have HO1:Hid (w4.ownsRow (w2.alloc (.cells #[.int .i64 pg,.string im,.int .u32 ba,.int .u32 en,.slice (some ⟨g,0,none⟩) l.length cq,.int .i64 fu,.int .i64 sl,.int .i64 ar] 25)).heap.size 52 3 v1 m.evs.length (ref.evCells m.evs)):=how
  have HB34:Hid (Below (w2.alloc (.cells #[.int .i64 pg,.string im,.int .u32 ba,.int .u32 en,.slice (some ⟨g,0,none⟩) l.length cq,.int .i64 fu,.int .i64 sl,.int .i64 ar] 25)).heap.size (w2.alloc (.cells #[.int .i64 pg,.string im,.int .u32 ba,.int .u32 en,.slice (some ⟨g,0,none⟩) l.length cq,.int .i64 fu,.int .i64 sl,.int .i64 ar] 25)) w4):=hb4
  have HB4:Hid (Below w.heap.size w w4):=HB3.out.trans (hb4.mono (Nat.le_of_lt z3))
  have HC4:Hid (ArgAt l (some ⟨g,0,none⟩) cq w4):=HC3.out.below hb4
  have k4:w4.cell? ⟨w2.heap.size,4,none⟩=some (.slice (some ⟨g,0,none⟩) l.length cq):=(World.cell?_of_block (w:=(w2.alloc (.cells #[.int .i64 pg,.string im,.int .u32 ba,.int .u32 en,.slice (some ⟨g,0,none⟩) l.length cq,.int .i64 fu,.int .i64 sl,.int .i64 ar] 25))) (a:=⟨w2.heap.size,4,none⟩) (hb4.block w2.heap.size sP)).trans (World.cell?_alloc_at _ _ _ _ rfl)
  have c0:w4.cell? ⟨w.heap.size,0,none⟩=some (.int .i64 pg):=(World.cell?_of_block (w:=(w2.alloc (.cells #[.int .i64 pg,.string im,.int .u32 ba,.int .u32 en,.slice (some ⟨g,0,none⟩) l.length cq,.int .i64 fu,.int .i64 sl,.int .i64 ar] 25))) (a:=⟨w.heap.size,0,none⟩) (hb4.block w.heap.size z3)).trans ((World.cell?_alloc_past _ _ _ z2).trans b0)
  have c1:w4.cell? ⟨w.heap.size,1,none⟩=some (.string im):=(World.cell?_of_block (w:=(w2.alloc (.cells #[.int .i64 pg,.string im,.int .u32 ba,.int .u32 en,.slice (some ⟨g,0,none⟩) l.length cq,.int .i64 fu,.int .i64 sl,.int .i64 ar] 25))) (a:=⟨w.heap.size,1,none⟩) (hb4.block w.heap.size z3)).trans ((World.cell?_alloc_past _ _ _ z2).trans b1)
  have c2:w4.cell? ⟨w.heap.size,2,none⟩=some (.int .u32 ba):=(World.cell?_of_block (w:=(w2.alloc (.cells #[.int .i64 pg,.string im,.int .u32 ba,.int .u32 en,.slice (some ⟨g,0,none⟩) l.length cq,.int .i64 fu,.int .i64 sl,.int .i64 ar] 25))) (a:=⟨w.heap.size,2,none⟩) (hb4.block w.heap.size z3)).trans ((World.cell?_alloc_past _ _ _ z2).trans b2)
  have c3:w4.cell? ⟨w.heap.size,3,none⟩=some (.int .u32 en):=(World.cell?_of_block (w:=(w2.alloc (.cells #[.int .i64 pg,.string im,.int .u32 ba,.int .u32 en,.slice (some ⟨g,0,none⟩) l.length cq,.int .i64 fu,.int .i64 sl,.int .i64 ar] 25))) (a:=⟨w.heap.size,3,none⟩) (hb4.block w.heap.size z3)).trans ((World.cell?_alloc_past _ _ _ z2).trans b3)
  have c4:w4.cell? ⟨w.heap.size,4,none⟩=some (.slice oa l.length ca):=(World.cell?_of_block (w:=(w2.alloc (.cells #[.int .i64 pg,.string im,.int .u32 ba,.int .u32 en,.slice (some ⟨g,0,none⟩) l.length cq,.int .i64 fu,.int .i64 sl,.int .i64 ar] 25))) (a:=⟨w.heap.size,4,none⟩) (hb4.block w.heap.size z3)).trans ((World.cell?_alloc_past _ _ _ z2).trans b4)
  have c5:w4.cell? ⟨w.heap.size,5,none⟩=some (.int .i64 fu):=(World.cell?_of_block (w:=(w2.alloc (.cells #[.int .i64 pg,.string im,.int .u32 ba,.int .u32 en,.slice (some ⟨g,0,none⟩) l.length cq,.int .i64 fu,.int .i64 sl,.int .i64 ar] 25))) (a:=⟨w.heap.size,5,none⟩) (hb4.block w.heap.size z3)).trans ((World.cell?_alloc_past _ _ _ z2).trans b5)
  have c6:w4.cell? ⟨w.heap.size,6,none⟩=some (.int .i64 sl):=(World.cell?_of_block (w:=(w2.alloc (.cells #[.int .i64 pg,.string im,.int .u32 ba,.int .u32 en,.slice (some ⟨g,0,none⟩) l.length cq,.int .i64 fu,.int .i64 sl,.int .i64 ar] 25))) (a:=⟨w.heap.size,6,none⟩) (hb4.block w.heap.size z3)).trans ((World.cell?_alloc_past _ _ _ z2).trans b6)
  have c7:w4.cell? ⟨w.heap.size,7,none⟩=some (.int .i64 ar):=(World.cell?_of_block (w:=(w2.alloc (.cells #[.int .i64 pg,.string im,.int .u32 ba,.int .u32 en,.slice (some ⟨g,0,none⟩) l.length cq,.int .i64 fu,.int .i64 sl,.int .i64 ar] 25))) (a:=⟨w.heap.size,7,none⟩) (hb4.block w.heap.size z3)).trans ((World.cell?_alloc_past _ _ _ z2).trans b7)
  have HTH4:Hid (∀(cs:Array Value) (t:TypeId),cs.size=39->(w4.alloc (.cells cs t)).there w4.heap.size 0 (prog.repP m o v1).size):=fun cs t hc=>there_new w4 cs t _ hc
  have HV1:Hid (v1.oneCell'=true):=ref.own_one how
  clear hres how hb4
  go_wp2_with (first|(refine wpList_store_mid rfl 32 (.tmp 5) (.tmp 21) rfl w4.heap.size 0 (prog.repP m o v1) rfl rfl (HTH4.out _ _ rfl) ref.info_rep (prog.repP_one m o v1 HV1.out) ?_;generalize hst:World.setCells _ w4.heap.size 0 (prog.repP m o v1).toList=w5;have ts:ref.Touch [] w4 w5:=XF0;have rs:w5.rangeAt w4.heap.size 0 (prog.repP m o v1).toList:=(by rw[<-hst];exact World.rangeAt_setCells_same _ _ _ _ (HTH4.out _ _ rfl));have ls:w4.heap.size<w5.heap.size:=World.block_lt_of_cell? _ _ (rs 0 _ rfl);have HR5:Hid (w5.rangeAt w4.heap.size 0 (prog.repP m o v1).toList):=rs;have HL5:Hid (w4.heap.size<w5.heap.size):=ls;have HO15:Hid (w5.ownsRow (w2.alloc (.cells #[.int .i64 pg,.string im,.int .u32 ba,.int .u32 en,.slice (some ⟨g,0,none⟩) l.length cq,.int .i64 fu,.int .i64 sl,.int .i64 ar] 25)).heap.size 52 3 v1 m.evs.length (ref.evCells m.evs)):=ref.own_touch HO1.out ts sP;have HB5:Hid (Below w.heap.size w w5):=below_touch HB4.out ts;have HC5:Hid (ArgAt l (some ⟨g,0,none⟩) cq w5):=HC4.out.below (ts.below (Nat.le_refl _) sP);have k5:w5.cell? ⟨w2.heap.size,4,none⟩=some (.slice (some ⟨g,0,none⟩) l.length cq):=(ts.cell (p:=⟨w2.heap.size,4,none⟩) (World.block_lt_of_cell? _ _ k4) sP).trans k4;have d0:w5.cell? ⟨w.heap.size,0,none⟩=some (.int .i64 pg):=(ts.cell (p:=⟨w.heap.size,0,none⟩) (World.block_lt_of_cell? _ _ c0) sP).trans c0;have d1:w5.cell? ⟨w.heap.size,1,none⟩=some (.string im):=(ts.cell (p:=⟨w.heap.size,1,none⟩) (World.block_lt_of_cell? _ _ c1) sP).trans c1;have d2:w5.cell? ⟨w.heap.size,2,none⟩=some (.int .u32 ba):=(ts.cell (p:=⟨w.heap.size,2,none⟩) (World.block_lt_of_cell? _ _ c2) sP).trans c2;have d3:w5.cell? ⟨w.heap.size,3,none⟩=some (.int .u32 en):=(ts.cell (p:=⟨w.heap.size,3,none⟩) (World.block_lt_of_cell? _ _ c3) sP).trans c3;have d4:w5.cell? ⟨w.heap.size,4,none⟩=some (.slice oa l.length ca):=(ts.cell (p:=⟨w.heap.size,4,none⟩) (World.block_lt_of_cell? _ _ c4) sP).trans c4;have d5:w5.cell? ⟨w.heap.size,5,none⟩=some (.int .i64 fu):=(ts.cell (p:=⟨w.heap.size,5,none⟩) (World.block_lt_of_cell? _ _ c5) sP).trans c5;have d6:w5.cell? ⟨w.heap.size,6,none⟩=some (.int .i64 sl):=(ts.cell (p:=⟨w.heap.size,6,none⟩) (World.block_lt_of_cell? _ _ c6) sP).trans c6;have d7:w5.cell? ⟨w.heap.size,7,none⟩=some (.int .i64 ar):=(ts.cell (p:=⟨w.heap.size,7,none⟩) (World.block_lt_of_cell? _ _ c7) sP).trans c7;clear hst ts rs ls))
  refine(Calls.mono (playt_res pg im ba en fu sl ar l ba0 ba1 en0 en1 HFW.out.1 (.slice oa l.length ca) w5 ((HA.out.below HB5.out).ans HFW.out)) ?_)
  rintro e w6 ⟨m2,o2,er2,v2,vB2,rfl,hres2,how2,_,hb6⟩
  obtain⟨e1,e2,e3⟩:=HRES.out.one hres2
  subst e1
  subst e2
  subst e3
  have HO26:Hid (w6.ownsRow w5.heap.size 52 3 v2 m.evs.length (ref.evCells m.evs)):=how2
  have HV2:Hid (v2.oneCell'=true):=ref.own_one how2
  have HTH6:Hid (∀(cs:Array Value) (t:TypeId),cs.size=39->(w6.alloc (.cells cs t)).there w6.heap.size 0 (prog.repP m o v2).size):=fun cs t hc=>there_new w6 cs t _ hc
  have HB6:Hid (Below w.heap.size w w6):=HB5.out.trans (hb6.mono HB5.out.size)
  have HC6:Hid (ArgAt l (some ⟨g,0,none⟩) cq w6):=HC5.out.below hb6
  have HO16:Hid (w6.ownsRow (w2.alloc (.cells #[.int .i64 pg,.string im,.int .u32 ba,.int .u32 en,.slice (some ⟨g,0,none⟩) l.length cq,.int .i64 fu,.int .i64 sl,.int .i64 ar] 25)).heap.size 52 3 v1 m.evs.length (ref.evCells m.evs)):=own_below HO15.out hb6
  have HR6:Hid (w6.rangeAt w4.heap.size 0 (prog.repP m o v1).toList):=range_below HR5.out hb6 HL5.out
  have k6:w6.cell? ⟨w2.heap.size,4,none⟩=some (.slice (some ⟨g,0,none⟩) l.length cq):=(World.cell?_of_block (w:=w5) (a:=⟨w2.heap.size,4,none⟩) (hb6.block w2.heap.size (World.block_lt_of_cell? _ _ k5))).trans k5
  have e4:w6.cell? ⟨w.heap.size,4,none⟩=some (.slice oa l.length ca):=(World.cell?_of_block (w:=w5) (a:=⟨w.heap.size,4,none⟩) (hb6.block w.heap.size (World.block_lt_of_cell? _ _ d4))).trans d4
  have HL6:Hid (w4.heap.size<w6.heap.size):=Nat.lt_of_lt_of_le HL5.out hb6.size
  clear hres2 how2 hb6
  go_wp2_with (first|(refine wpList_store_mid rfl 32 (.tmp 7) (.tmp 26) rfl w6.heap.size 0 (prog.repP m o v2) rfl rfl (HTH6.out _ _ rfl) ref.info_rep (prog.repP_one m o v2 HV2.out) ?_;generalize hst:World.setCells _ w6.heap.size 0 (prog.repP m o v2).toList=w7;have ts:ref.Touch [] w6 w7:=XF0;have rs:w7.rangeAt w6.heap.size 0 (prog.repP m o v2).toList:=(by rw[<-hst];exact World.rangeAt_setCells_same _ _ _ _ (HTH6.out _ _ rfl));have ls:w6.heap.size<w7.heap.size:=World.block_lt_of_cell? _ _ (rs 0 _ rfl);have HR71:Hid (w7.rangeAt w4.heap.size 0 (prog.repP m o v1).toList):=range_touch HR6.out ts HL6.out;have HR72:Hid (w7.rangeAt w6.heap.size 0 (prog.repP m o v2).toList):=rs;have HO17:Hid (w7.ownsRow (w2.alloc (.cells #[.int .i64 pg,.string im,.int .u32 ba,.int .u32 en,.slice (some ⟨g,0,none⟩) l.length cq,.int .i64 fu,.int .i64 sl,.int .i64 ar] 25)).heap.size 52 3 v1 m.evs.length (ref.evCells m.evs)):=ref.own_touch HO16.out ts sP;have HO27:Hid (w7.ownsRow w5.heap.size 52 3 v2 m.evs.length (ref.evCells m.evs)):=ref.own_touch HO26.out ts sP;have HB7:Hid (Below w.heap.size w w7):=below_touch HB6.out ts;have HC7:Hid (ArgAt l (some ⟨g,0,none⟩) cq w7):=HC6.out.below (ts.below (Nat.le_refl _) sP);have k7:w7.cell? ⟨w2.heap.size,4,none⟩=some (.slice (some ⟨g,0,none⟩) l.length cq):=(ts.cell (p:=⟨w2.heap.size,4,none⟩) (World.block_lt_of_cell? _ _ k6) sP).trans k6;have e5:w7.cell? ⟨w.heap.size,4,none⟩=some (.slice oa l.length ca):=(ts.cell (p:=⟨w.heap.size,4,none⟩) (World.block_lt_of_cell? _ _ e4) sP).trans e4;clear hst ts rs ls)|(refine wpList_load_mid rfl 32 (.tmp 5) rfl w4.heap.size 0 rfl (prog.repP m o v1).toList _ HR71.out Tryz.underlying32 rfl ref.info_rep ?_;rw[Array.toArray_toList])|(refine wpList_load_mid rfl 32 (.tmp 7) rfl w6.heap.size 0 rfl (prog.repP m o v2).toList _ HR72.out Tryz.underlying32 rfl ref.info_rep ?_;rw[Array.toArray_toList]))
  refine(Calls.mono (same_any m o v1 v2 (w2.alloc (.cells #[.int .i64 pg,.string im,.int .u32 ba,.int .u32 en,.slice (some ⟨g,0,none⟩) l.length cq,.int .i64 fu,.int .i64 sl,.int .i64 ar] 25)).heap.size w5.heap.size w7 HO17.out HO27.out HRES.out.evs) ?_)
  rintro e w8 ⟨rfl,ht8⟩
  have T8:Hid (ref.Touch [] w7 w8):=ht8
  have f4:w8.cell? ⟨w.heap.size,4,none⟩=some (.slice oa l.length ca):=(ht8.cell (p:=⟨w.heap.size,4,none⟩) (World.block_lt_of_cell? _ _ e5) sP).trans e5
  have g4:w8.cell? ⟨w2.heap.size,4,none⟩=some (.slice (some ⟨g,0,none⟩) l.length cq):=(ht8.cell (p:=⟨w2.heap.size,4,none⟩) (World.block_lt_of_cell? _ _ k7) sP).trans k7
  have HB8:Hid (Below w.heap.size w w8):=below_touch HB7.out ht8
  have HC8:Hid (ArgAt l (some ⟨g,0,none⟩) cq w8):=HC7.out.below (ht8.below (Nat.le_refl _) sP)
  clear ht8
  go_wp2_with fail
  refine(Calls.mono (texts_any (some ⟨g,0,none⟩) oa l cq ca w8 HFW.out.2.1 HC8.out (HA.out.below HB8.out)) ?_)
  rintro e w9 ⟨rfl,ht9⟩
  have T9:Hid (ref.Touch [] w8 w9):=ht9
  clear ht9
  go_wp2_with fail
  go_ret
  exact⟨rfl,below_touch HB8.out T9.out⟩
end law
end Go.Proofs.YtjikimpejlmdiaaGreatDoor

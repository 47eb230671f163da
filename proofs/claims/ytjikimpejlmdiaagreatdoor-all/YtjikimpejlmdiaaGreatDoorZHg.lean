import Derived.Test.YtjikimpejlmdiaaGreatDoorZLwE
import Derived.Test.YtjikimpejlmdiaaGreatDoorZGx
import Derived.Test.YtjikimpejlmdiaaGreatDoorZHf
import Derived.Deep.MidRow
set_option maxHeartbeats 4000000
set_option linter.unusedVariables false
set_option linter.unusedSimpArgs false
set_option maxRecDepth 10000
namespace Go.Proofs.YtjikimpejlmdiaaGreatDoor
namespace law
open ChangeShapes WideShapes ChangeAt RowKit nums dnums mach
attribute [local go_sem ↓] Go.wp_at_zero Go.wp_at_succ
theorem rep_eqb(m:M)(vE:Value):(ref.repL m vE).toArray=prog.repP m m.out vE:=by
 simp[ref.repL,List.range,List.range.loop,ref.lay,prog.repP]
def ResB (pg:Int) (im:ByteArray) (ba en fu sl ar:Int) (ans:List ByteArray) (m:M) (o er:Int):Prop:=(ref.wrong pg im ba fu sl ar true=0/\BRun (ref.start pg im ba en ans fu sl ar true) m/\m.ended=true/\o=m.out/\er=0)\/(¬ref.wrong pg im ba fu sl ar true=0/\m=mz/\o=0/\er=ref.wrong pg im ba fu sl ar true)
theorem ResB.one {pg:Int}{im:ByteArray}{ba en fu sl ar:Int}{ans:List ByteArray}{m m':M}{o o' er er':Int}(h:ResB pg im ba en fu sl ar ans m o er)(h':ResB pg im ba en fu sl ar ans m' o' er'):m=m'/\o=o'/\er=er':=by
 rcases h with⟨h0,h1,h2,h3,h4⟩|⟨h0,h1,h2,h3⟩
 ·rcases h' with⟨k0,k1,k2,k3,k4⟩|⟨k0,_⟩
  ·obtain⟨a,ha⟩:=h1.reach
   obtain⟨b,hb⟩:=k1.reach
   have e:m=m':=by
    rw[ha,hb]
    exact run_one a b _ (by rw[<-ha];exact h2) (by rw[<-hb];exact k2)
   exact⟨e,by rw[h3,k3,e],by rw[h4,k4]⟩
  ·exact absurd h0 k0
 ·rcases h' with⟨k0,_⟩|⟨k0,k1,k2,k3⟩
  ·exact absurd k0 h0
  ·exact⟨by rw[h1,k1],by rw[h2,k2],by rw[h3,k3]⟩
theorem ResB.evs {pg:Int}{im:ByteArray}{ba en fu sl ar:Int}{ans:List ByteArray}{m:M}{o er:Int}(h:ResB pg im ba en fu sl ar ans m o er):m.evs.length<=2000:=by
 rcases h with⟨h0,h1,h2,h3,h4⟩|⟨h0,h1,h2,h3⟩
 ·have:=h1.good.evs
  have:=h1.good.fine.within
  have:=h1.good.fine.fuel.2
  omega
 ·rw[h1];exact Nat.zero_le _
def RunQ (pg:Int) (im:ByteArray) (ba en fu sl ar:Int) (ans:List ByteArray) (w:World) (e:Ending) (w':World):Prop:=∃m o er v1,e=.returned (.tuple #[.agg (prog.repP m o v1),.int .i64 er])/\ResB pg im ba en fu sl ar ans m o er/\w'.ownsRow w.heap.size 52 3 v1 m.evs.length (ref.evCells m.evs)/\Below w.heap.size w w'
def PlayTQ (pg:Int) (im:ByteArray) (ba en fu sl ar:Int) (ans:List ByteArray) (w:World) (e:Ending) (w':World):Prop:=∃m o er v1 vB,e=.returned (.tuple #[.agg (prog.repP m o v1),vB,.int .i64 er])/\ResB pg im ba en fu sl ar ans m o er/\w'.ownsRow w.heap.size 52 3 v1 m.evs.length (ref.evCells m.evs)/\w'.ownsRow w.heap.size 44 4 vB m.blocks.length (ref.blkCells m.blocks)/\Below w.heap.size w w'
theorem run_res(pg:Int)(im:ByteArray)(ba en fu sl ar:Int)(ans:List ByteArray)(ba0:0<=ba)(ba1:ba<=4294967295)(en0:0<=en)(en1:en<=4294967295)(him:im.size<=1048576)(vA:Value)(w:World)(ha:ref.AnsAt w.heap.size ans vA w)(hT:∀w' x,Below w.heap.size w w'->decodes.Tabs w' x):
  Calls Tryz.prog 18 #[.agg #[.int .i64 pg,.string im,.int .u32 ba,.int .u32 en,vA,.int .i64 fu,.int .i64 sl,.int .i64 ar]] w (RunQ pg im ba en fu sl ar ans w):=by
 obtain⟨oa,na,ca,hv⟩:=ans_slice ha
 by_cases hw:ref.wrong pg im ba fu sl ar true=0
 ·refine(prog.run_ok pg im ba en vA fu sl ar ba0 ba1 him w oa na ca hv ans ha en0 en1 hw hT).mono ?_
  rintro e w' ⟨m,vE,rfl,h1,h2,h3,h4⟩
  exact⟨m,m.out,0,vE,rfl,Or.inl ⟨hw,h1,h2,rfl,rfl⟩,h3,h4⟩
 ·refine(prog.run_err pg im ba en vA fu sl ar ba0 ba1 him w oa na ca hv hw).mono ?_
  rintro e w' ⟨rfl,h4⟩
  exact⟨mz,0,_,.slice none 0 0,by rw[rep_mz],Or.inr ⟨hw,rfl,rfl,rfl⟩,World.ownsRow_nil _ _ _ _,h4⟩
theorem playt_res(pg:Int)(im:ByteArray)(ba en fu sl ar:Int)(ans:List ByteArray)(ba0:0<=ba)(ba1:ba<=4294967295)(en0:0<=en)(en1:en<=4294967295)(him:im.size<=1048576)(vA:Value)(w:World)(ha:ref.AnsAt w.heap.size ans vA w):
  Calls Tryz.prog 15 #[.agg #[.int .i64 pg,.string im,.int .u32 ba,.int .u32 en,vA,.int .i64 fu,.int .i64 sl,.int .i64 ar],.bool true] w (PlayTQ pg im ba en fu sl ar ans w):=by
 obtain⟨oa,na,ca,hv⟩:=ans_slice ha
 by_cases hw:ref.wrong pg im ba fu sl ar true=0
 ·refine(ref.playt_ok pg im ba en vA fu sl ar ba0 ba1 him w oa na ca hv ans ha en0 en1 hw).mono ?_
  rintro e w' ⟨m,vE,vB,rfl,h1,h2,h3,h3b,h4⟩
  exact⟨m,m.out,0,vE,vB,by rw[rep_eqb m vE],Or.inl ⟨hw,h1,h2,rfl,rfl⟩,h3,h3b,h4⟩
 ·refine(ref.playt_err pg im ba en vA fu sl ar ba0 ba1 him w oa na ca hv hw).mono ?_
  rintro e w' ⟨rfl,h4⟩
  exact⟨mz,0,_,.slice none 0 0,.slice none 0 0,by rw[rep_mz],Or.inr ⟨hw,rfl,rfl,rfl⟩,World.ownsRow_nil _ _ _ _,World.ownsRow_nil _ _ _ _,h4⟩
end law
namespace law
open ChangeShapes WideShapes ChangeAt RowKit nums dnums mach
attribute [local go_sem ↓] Go.wp_at_zero Go.wp_at_succ
def ProfQ (pg:Int) (im:ByteArray) (ba en fu sl ar:Int) (ans:List ByteArray) (w:World) (e:Ending) (w':World):Prop:=∃m o er vB,e=.returned (.tuple #[vB,.int .i64 er])/\ResB pg im ba en fu sl ar ans m o er/\w'.ownsRow w.heap.size 44 4 vB m.blocks.length (ref.blkCells m.blocks)/\Below w.heap.size w w'
theorem prof_res(pg:Int)(im:ByteArray)(ba en fu sl ar:Int)(ans:List ByteArray)(ba0:0<=ba)(ba1:ba<=4294967295)(en0:0<=en)(en1:en<=4294967295)(him:im.size<=1048576)(vA:Value)(w:World)(ha:ref.AnsAt w.heap.size ans vA w)(hT:∀w' x,Below w.heap.size w w'->decodes.Tabs w' x):
  Calls Tryz.prog 19 #[.agg #[.int .i64 pg,.string im,.int .u32 ba,.int .u32 en,vA,.int .i64 fu,.int .i64 sl,.int .i64 ar]] w (ProfQ pg im ba en fu sl ar ans w):=by
 obtain⟨oa,na,ca,hv⟩:=ans_slice ha
 by_cases hw:ref.wrong pg im ba fu sl ar true=0
 ·refine(prog.prof_ok pg im ba en vA fu sl ar ba0 ba1 him w oa na ca hv ans ha en0 en1 hw hT).mono ?_
  rintro e w' ⟨m,vB,rfl,h1,h2,h3,h4⟩
  exact⟨m,m.out,0,vB,rfl,Or.inl ⟨hw,h1,h2,rfl,rfl⟩,h3,h4⟩
 ·refine(prog.prof_err pg im ba en vA fu sl ar ba0 ba1 him w oa na ca hv hw).mono ?_
  rintro e w' ⟨rfl,h4⟩
  exact⟨mz,0,_,.slice none 0 0,rfl,Or.inr ⟨hw,rfl,rfl,rfl⟩,World.ownsRow_nil _ _ _ _,h4⟩
theorem ResB.blks {pg:Int}{im:ByteArray}{ba en fu sl ar:Int}{ans:List ByteArray}{m:M}{o er:Int}(h:ResB pg im ba en fu sl ar ans m o er):m.blocks.length<=5000:=by
 rcases h with⟨h0,h1,h2,h3,h4⟩|⟨h0,h1,h2,h3⟩
 ·have:=h1.bg.len
  have:=h1.good.fine.within
  have:=h1.good.fine.fuel
  split at*<;>omega
 ·rw[h1];exact Nat.zero_le _
def SetB (b:Nat) (pg:Int) (im:ByteArray) (ba en:Int) (vA:Value) (fu sl ar:Int) (X:World):Prop:=X.cell? ⟨b,0,none⟩=some (.int .i64 pg)/\X.cell? ⟨b,1,none⟩=some (.string im)/\X.cell? ⟨b,2,none⟩=some (.int .u32 ba)/\X.cell? ⟨b,3,none⟩=some (.int .u32 en)/\X.cell? ⟨b,4,none⟩=some (vA)/\X.cell? ⟨b,5,none⟩=some (.int .i64 fu)/\X.cell? ⟨b,6,none⟩=some (.int .i64 sl)/\X.cell? ⟨b,7,none⟩=some (.int .i64 ar)
theorem SetB.below {b:Nat}{pg:Int}{im:ByteArray}{ba en:Int}{vA:Value}{fu sl ar:Int}{X Y:World}{B:Nat}(h:SetB b pg im ba en vA fu sl ar X)(t:Below B X Y)(hb:b<B):SetB b pg im ba en vA fu sl ar Y:=by
 have q:∀i,Y.cell? ⟨b,i,none⟩=X.cell? ⟨b,i,none⟩:=fun i=>t.cell (p:=⟨b,i,none⟩) hb
 unfold SetB at h ⊢
 simpa only[q]using h
theorem own_len{w:World}{base e size n:Nat}{v:Value}{xs:List Value}(h:w.ownsRow base e size v n xs):∃o c,v=.slice o n c:=by
 rcases h.2 with⟨rfl,h0⟩|⟨g,cap,cur,rfl,_⟩
 ·exact⟨none,0,by rw[h0]⟩
 ·exact⟨_,_,rfl⟩
theorem row_at{w:World}{base n c:Nat}{o:Option Addr}{l:List Blk}(h:w.ownsRow base 44 4 (.slice o n c) n (ref.blkCells l))(hl:l.length=n)(k:Nat)(hk:k<n):
  ∃g x,o=some ⟨g,0,none⟩/\base<=g/\l[k]?=some x/\w.cell? ⟨g,k*4,none⟩=some (.int .u32 x.pc)/\w.cell? ⟨g,k*4+1,none⟩=some (.int .i64 x.len)/\w.cell? ⟨g,k*4+2,none⟩=some (.int .i64 x.built)/\w.cell? ⟨g,k*4+3,none⟩=some (.int .i64 x.entered):=by
 subst hl
 obtain⟨x,hx⟩:∃x,l[k]?=some x:=⟨_,List.getElem?_eq_getElem hk⟩
 obtain⟨g,c',hv,h1,h2,h3,h4⟩:=ref.row_blk h k x hx
 injection hv with hv
 subst hv
 exact⟨g,x,rfl,(h.lt g rfl).1,hx,h1,h2,h3,h4⟩
theorem profiles_any(pg:Int)(im:ByteArray)(ba en fu sl ar:Int)(oa:Option Addr)(l:List ByteArray)(ca:Nat)(w:World)(ba0:0<=ba)(ba1:ba<=4294967295)(en0:0<=en)(en1:en<=4294967295)(h:ArgAt l oa ca w)(hT:∀w' x,Below w.heap.size w w'->decodes.Tabs w' x):
  Calls Tryz.prog 5 #[.agg #[.int .i64 pg,.string im,.int .u32 ba,.int .u32 en,.slice oa l.length ca,.int .i64 fu,.int .i64 sl,.int .i64 ar]] w fun e w'=>e=.returned (.bool true)/\Below w.heap.size w w':=by
 have HA:Hid (ArgAt l oa ca w):=h
 have HA0:Hid (ArgAt l oa ca (w.alloc (.cells #[.int .i64 pg,.string im,.int .u32 ba,.int .u32 en,.slice oa l.length ca,.int .i64 fu,.int .i64 sl,.int .i64 ar] 25))):=h.below ((Below.refl _ _).alloc (Nat.le_refl _) _)
 have HTB:Hid (∀w' x,Below w.heap.size w w'->decodes.Tabs w' x):=hT
 have HS0:Hid (SetB w.heap.size pg im ba en (.slice oa l.length ca) fu sl ar (w.alloc (.cells #[.int .i64 pg,.string im,.int .u32 ba,.int .u32 en,.slice oa l.length ca,.int .i64 fu,.int .i64 sl,.int .i64 ar] 25))):=⟨World.cell?_alloc_at _ _ _ _ rfl,World.cell?_alloc_at _ _ _ _ rfl,World.cell?_alloc_at _ _ _ _ rfl,World.cell?_alloc_at _ _ _ _ rfl,World.cell?_alloc_at _ _ _ _ rfl,World.cell?_alloc_at _ _ _ _ rfl,World.cell?_alloc_at _ _ _ _ rfl,World.cell?_alloc_at _ _ _ _ rfl⟩
 have hz0:(w.alloc (.cells #[.int .i64 pg,.string im,.int .u32 ba,.int .u32 en,.slice oa l.length ca,.int .i64 fu,.int .i64 sl,.int .i64 ar] 25)).heap.size=w.heap.size+1:=by simp
 clear h hT
 go_enter Tryz.func5,Tryz.ntmps5
 go_wp2_with fail
 refine(Calls.mono (few_any pg im ba en fu sl ar oa l ca _ HA0.out) ?_)
 rintro e w1 ⟨y,rfl,hy,ht1⟩
 have HY:Hid (y=true->Few im l):=hy
 have HB1:Hid (Below (w.alloc (.cells #[.int .i64 pg,.string im,.int .u32 ba,.int .u32 en,.slice oa l.length ca,.int .i64 fu,.int .i64 sl,.int .i64 ar] 25)).heap.size (w.alloc (.cells #[.int .i64 pg,.string im,.int .u32 ba,.int .u32 en,.slice oa l.length ca,.int .i64 fu,.int .i64 sl,.int .i64 ar] 25)) w1):=ht1.below (Nat.le_refl _) sP
 have HBw:Hid (Below w.heap.size w w1):=((Below.refl _ _).alloc (Nat.le_refl _) _).trans (HB1.out.mono oM)
 clear ht1 hy
 cases y with
 |false=>
  go_wp2_with fail
  go_ret
  exact⟨rfl,HBw.out⟩
 |true=>
  have HFW:Hid (Few im l):=HY.out rfl
  have HS1:Hid (SetB w.heap.size pg im ba en (.slice oa l.length ca) fu sl ar w1):=HS0.out.below HB1.out oM
  obtain⟨a0,a1,a2,a3,a4,a5,a6,a7⟩:=HS1.out
  go_wp2_with fail
  refine(Calls.mono (playt_res pg im ba en fu sl ar l ba0 ba1 en0 en1 HFW.out.1 (.slice oa l.length ca) w1 ((HA.out.below HBw.out).ans HFW.out)) ?_)
  rintro e w2 ⟨m,o,er,v2,vB,rfl,hres,how,hob,hb2⟩
  have HV2:Hid (v2.oneCell'=true):=ref.own_one how
  have HRES:Hid (ResB pg im ba en fu sl ar l m o er):=hres
  have HTH2:Hid (∀(cs:Array Value) (t:TypeId),cs.size=39->(w2.alloc (.cells cs t)).there w2.heap.size 0 (prog.repP m o v2).size):=fun cs t hc=>there_new w2 cs t _ hc
  obtain⟨oB,cB,hvB⟩:=own_len hob
  subst hvB
  have HOB:Hid (w2.ownsRow w1.heap.size 44 4 (.slice oB m.blocks.length cB) m.blocks.length (ref.blkCells m.blocks)):=hob
  have HB2:Hid (Below w1.heap.size w1 w2):=hb2
  obtain⟨n,hn⟩:∃n,m.blocks.length=n:=⟨_,rfl⟩
  have HN:Hid (m.blocks.length=n):=hn
  simp only[hn]at HOB ⊢
  clear hres how hob hb2 a0 a1 a2 a3 a4 a5 a6 a7 hn
  go_wp2_with (first|(refine wpList_store_mid rfl 32 (.tmp 4) (.tmp 20) rfl w2.heap.size 0 (prog.repP m o v2) rfl rfl (HTH2.out _ _ rfl) ref.info_rep (prog.repP_one m o v2 HV2.out) ?_;generalize hst:World.setCells _ w2.heap.size 0 (prog.repP m o v2).toList=w3;have ts:ref.Touch [] w2 w3:=(by rw[<-hst];exact prog.touch_new _ _ _ _ ((ref.Touch.refl _ _).alloc _) (Nat.le_refl _));have T3:Hid (ref.Touch [] w2 w3):=ts;clear hst ts))
  have hn5:n<=5000:=by have:=HRES.out.blks;have:=HN.out;omega
  have H30:Hid (Below (w.alloc (.cells #[.int .i64 pg,.string im,.int .u32 ba,.int .u32 en,.slice oa l.length ca,.int .i64 fu,.int .i64 sl,.int .i64 ar] 25)).heap.size (w.alloc (.cells #[.int .i64 pg,.string im,.int .u32 ba,.int .u32 en,.slice oa l.length ca,.int .i64 fu,.int .i64 sl,.int .i64 ar] 25)) w3):=(HB1.out.trans (HB2.out.mono HB1.out.size)).trans (T3.out.below (Nat.le_trans HB1.out.size HB2.out.size) sP)
  have H3:Hid (Below w.heap.size w w3):=((Below.refl _ _).alloc (Nat.le_refl _) _).trans (H30.out.mono oM)
  have HOB3:Hid (w3.ownsRow w1.heap.size 44 4 (.slice oB n cB) n (ref.blkCells m.blocks)):=ref.own_touch HOB.out T3.out sP
  go_loopw [7] (fun s wr=>∃k:Nat,s=.int .i64 k/\k<=2/\Below w3.heap.size w3 wr) (fun s _=>2-(intOf s).toNat)
  case atStart=>exact⟨0,rfl,by omega,Below.refl _ _⟩
  case round=>
   obtain⟨k,rfl,hk,hbr⟩:=hrel
   have HBR:Hid (Below w3.heap.size w3 wr):=hbr
   have HBr:Hid (Below w.heap.size w wr):=H3.out.trans (hbr.mono H3.out.size)
   clear hbr
   by_cases hk2:k<2
   rotate_left
   ·have d1:decide ((k:Int)<2)=false:=by simp;omega
    go_wp2_with fail
    go_ret
    exact⟨rfl,HBr.out⟩
   have d1:decide ((k:Int)<2)=true:=by simp;omega
   have lr:w.heap.size<w3.heap.size:=by have:=H30.out.size;omega
   obtain⟨a0,a1,a2,a3,a4,a5,a6,a7⟩:=(HS0.out.below H30.out oM).below HBR.out lr
   go_wp2_with fail
   refine(Calls.mono (copied_any pg im ba en fu sl ar oa l ca _ (HA.out.below HBr.out) HFW.out) ?_)
   rintro e w4 ⟨g,cq,rfl,hg4,_,ht4⟩
   have HG4:Hid (ArgAt l (some ⟨g,0,none⟩) cq w4):=hg4
   have H4:Hid (Below w3.heap.size w3 w4):=HBR.out.trans (ht4.below HBR.out.size sP)
   clear hg4 ht4 a0 a1 a2 a3 a4 a5 a6 a7
   go_wp2_with fail
   have H5:Hid (Below w3.heap.size w3 (w4.alloc (.cells #[.int .i64 pg,.string im,.int .u32 ba,.int .u32 en,.slice (some ⟨g,0,none⟩) l.length cq,.int .i64 fu,.int .i64 sl,.int .i64 ar] 25))):=H4.out.alloc H4.out.size _
   have H5w:Hid (Below w.heap.size w (w4.alloc (.cells #[.int .i64 pg,.string im,.int .u32 ba,.int .u32 en,.slice (some ⟨g,0,none⟩) l.length cq,.int .i64 fu,.int .i64 sl,.int .i64 ar] 25))):=H3.out.trans (H5.out.mono H3.out.size)
   have HC5:Hid (ArgAt l (some ⟨g,0,none⟩) cq (w4.alloc (.cells #[.int .i64 pg,.string im,.int .u32 ba,.int .u32 en,.slice (some ⟨g,0,none⟩) l.length cq,.int .i64 fu,.int .i64 sl,.int .i64 ar] 25))):=HG4.out.below ((Below.refl _ _).alloc (Nat.le_refl _) _)
   refine(Calls.mono (prof_res pg im ba en fu sl ar l ba0 ba1 en0 en1 HFW.out.1 (.slice (some ⟨g,0,none⟩) l.length cq) (w4.alloc (.cells #[.int .i64 pg,.string im,.int .u32 ba,.int .u32 en,.slice (some ⟨g,0,none⟩) l.length cq,.int .i64 fu,.int .i64 sl,.int .i64 ar] 25)) (HC5.out.ans HFW.out) (fun w' x hb=>HTB.out w' x (H5w.out.trans (hb.mono H5w.out.size)))) ?_)
   rintro e w6 ⟨m2,o2,er2,vC,rfl,hres2,hoc,hb6⟩
   obtain⟨e1,e2,e3⟩:=HRES.out.one hres2
   subst e1
   subst e2
   subst e3
   obtain⟨oC,cC,hvC⟩:=own_len hoc
   subst hvC
   have HOC:Hid (w6.ownsRow w3.heap.size 44 4 (.slice oC m.blocks.length cC) m.blocks.length (ref.blkCells m.blocks)):=so.own_base hoc H5.out.size
   have H6:Hid (Below w3.heap.size w3 w6):=H5.out.trans (hb6.mono H5.out.size)
   simp only[HN.out]at HOC ⊢
   have HOB6:Hid (w6.ownsRow w1.heap.size 44 4 (.slice oB n cB) n (ref.blkCells m.blocks)):=own_below HOB3.out H6.out
   clear hres2 hoc hb6
   go_wp2_with fail
   go_loopw [11] (fun s wr=>∃i:Nat,s=.int .i64 i/\i<=n/\∃q,wr=w6.drewN q) (fun s _=>n-(intOf s).toNat)
   case atStart=>exact⟨0,rfl,Nat.zero_le _,0,rfl⟩
   case round=>
    obtain⟨i,rfl,hi,q,rfl⟩:=hrel
    by_cases hin:i<n
    ·obtain⟨g1,x,rfl,_,hx,c0,c1,c2,c3⟩:=row_at HOC.out HN.out i hin
     obtain⟨g2,x2,rfl,_,hx2,f0,f1,f2,f3⟩:=row_at HOB6.out HN.out i hin
     have e:=hx.symm.trans hx2
     injection e with e
     subst e
     clear hx hx2
     have d2:(i:Int)<(n:Int):=by omega
     go_wp2_with fail
     go_quiet (fail)
     go_wp2_with fail
     go_roundw
     case rel=>exact⟨i+1,by simp,by omega,_,rfl⟩
     case measure=>simp[intOf];omega
    ·have d2:¬(i:Int)<(n:Int):=by omega
     have HX:Hid (∃ls:List Blk,ls.length=n/\(w6.drewN q).ownsRow w3.heap.size 44 4 (.slice oC n cC) n (ref.blkCells ls)):=⟨m.blocks,HN.out,ref.own_touch (S:=[]) HOC.out ((ref.Touch.refl _ _).drewN _) sP⟩
     have HXB:Hid (Below w3.heap.size w3 (w6.drewN q)):=H6.out.trans (((ref.Touch.refl [] w6).drewN q).below H6.out.size sP)
     go_wp2_with fail
     go_loopw [12] (fun s wr=>∃(j:Nat) (ls:List Blk),s=.int .i64 j/\j<=n/\ls.length=n/\wr.ownsRow w3.heap.size 44 4 (.slice oC n cC) n (ref.blkCells ls)/\Below w3.heap.size w3 wr) (fun s _=>n-(intOf s).toNat)
     case atStart=>obtain⟨ls,h1,h2⟩:=HX.out;exact⟨0,ls,rfl,Nat.zero_le _,h1,h2,HXB.out⟩
     case round=>
      obtain⟨j,ls,rfl,hj,hls,how,hbw⟩:=hrel
      have HLS:Hid (ls.length=n):=hls
      have HW:Hid (wr.ownsRow w3.heap.size 44 4 (.slice oC n cC) n (ref.blkCells ls)):=how
      have HBW:Hid (Below w3.heap.size w3 wr):=hbw
      clear hls how hbw
      by_cases hjn:j<n
      ·obtain⟨g1,x,rfl,hg1,hx,c0,c1,c2,c3⟩:=row_at HW.out HLS.out j hjn
       have fz:=ref.row_free HW.out
       have d3:(j:Int)<(n:Int):=by omega
       clear hx
       go_wp2_with fail
       go_roundw
       case rel=>exact⟨j+1,ls.set j ⟨1,0,0,0⟩,by go_num,by omega,by rw[List.length_set];exact HLS.out,by rw[ref.blkCells_set ls j _ (by have:=HLS.out;omega)];exact ref.own_set (ref.own_set (ref.own_set (ref.own_set HW.out (j*4) oM _) (j*4+1) oM _) (j*4+2) oM _) (j*4+3) oM _,(((HBW.out.setCell (p:=⟨g1,j*4,none⟩) hg1 _).setCell (p:=⟨g1,j*4+1,none⟩) hg1 _).setCell (p:=⟨g1,j*4+2,none⟩) hg1 _).setCell (p:=⟨g1,j*4+3,none⟩) hg1 _⟩
       case measure=>simp[intOf];omega
      ·have d3:¬(j:Int)<(n:Int):=by omega
       go_wp2_with fail
       go_roundw
       case rel=>exact⟨k+1,by go_num,by omega,HBW.out⟩
       case measure=>simp[intOf];omega
end law
end Go.Proofs.YtjikimpejlmdiaaGreatDoor

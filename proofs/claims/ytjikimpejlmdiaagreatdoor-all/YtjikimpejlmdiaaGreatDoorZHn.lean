import Derived.Test.YtjikimpejlmdiaaGreatDoorZPrZB
import Derived.Test.YtjikimpejlmdiaaGreatDoorZGo
import Derived.Test.YtjikimpejlmdiaaGreatDoorZMachK
import Derived.BigQuiet
import Derived.Deep.RegionHeld3
import Derived.BigRegion
import Derived.WalkMore
set_option maxHeartbeats 4000000
set_option linter.unusedVariables false
set_option linter.unusedSimpArgs false
set_option maxRecDepth 10000
namespace Go.Proofs.YtjikimpejlmdiaaGreatDoor
theorem XC0{p:Prop}(h:p:=by
 have hpe:=hq.pe oM
 obtain⟨v1,v2,v3,v4⟩:=hpe.word
 obtain⟨X,hX⟩:∃X,X=ld q.mem q.pc.toNat 4:=⟨_,rfl⟩
 obtain⟨mx,hmx⟩:∃mx,mx=exec {q with done:=q.done+1 } X:=⟨_,rfl⟩
 have hlq:q.steps<q.fuel:=by have:=hq.st;have:=hq.fu;omega
 have hgo:=hpe.go hlq mx (by rw[hmx,hX])
 have hr:=hi.st.range j oM
 rw[show((k:Int)+4*(j:Int)).toNat=q.pc.toNat by rw[v2],<-hX]at hr
 have HR:Hid (wr.rangeAt kb (j*6) (Array.toList #[Value.func (.func (kofx (opn X))) #[] #[],Value.int .i64 (opn X),Value.int .i64 (qRd X),Value.int .i64 (qR1 X),Value.int .i64 (qR2 X),Value.int .i32 (imm X)])):=hr
 have x0:0<=X:=by rw[hX];exact(ld4 q.mem hpe.good.fine.mem _).1
 have x1:X<=4294967295:=by rw[hX];exact(ld4 q.mem hpe.good.fine.mem _).2
 have hxn:¬opn X=-1:=by rw[hX];exact v1
 have HXN:Hid (¬opn X=-1):=hxn
 have HGO:Hid (_):=hgo
 have HLQ:Hid (q.steps<q.fuel):=hlq
 have HMX:Hid (mx=exec {q with done:=q.done+1 } X):=hmx
 have HPQ:Hid (Pend m0 q k n j):=hpe
 clear hq hi hpe v1 v2 v3 v4 hX hmx hlq hgo hr hxn
 go_wp2_with (first|(refine wpList_load_mid rF 96 (.tmp 31) rF kb (j*6) rF (Array.toList #[Value.func (.func (kofx (opn X))) #[] #[],Value.int .i64 (opn X),Value.int .i64 (qRd X),Value.int .i64 (qR1 X),Value.int .i64 (qR2 X),Value.int .i32 (imm X)]) _ HR.out Tryz.underlying96 rfl info_st ?_)|(refine wpList_store_mid rF 96 (.tmp 6) (.tmp 32) rF wr.heap.size 0 #[Value.func (.func (kofx (opn X))) #[] #[],Value.int .i64 (opn X),Value.int .i64 (qRd X),Value.int .i64 (qR1 X),Value.int .i64 (qR2 X),Value.int .i32 (imm X)] rF rF (there_new wr _ _) info_st oC ?_;generalize hw9:World.setCells _ wr.heap.size 0 (Array.toList #[Value.func (.func (kofx (opn X))) #[] #[],Value.int .i64 (opn X),Value.int .i64 (qRd X),Value.int .i64 (qR1 X),Value.int .i64 (qR2 X),Value.int .i32 (imm X)])=w9;have R9:Hid (w9.rangeAt wr.heap.size 0 (Array.toList #[Value.func (.func (kofx (opn X))) #[] #[],Value.int .i64 (opn X),Value.int .i64 (qRd X),Value.int .i64 (qR1 X),Value.int .i64 (qR2 X),Value.int .i32 (imm X)])):=(by rw[<-hw9];exact World.rangeAt_setCells_same _ _ _ _ (there_new wr _ _));have T9:Hid (ref.Touch [] wr w9):=(by rw[<-hw9];exact touch_newP _ _ _ _ tcb sP);clear hw9)|(refine wpList_load_mid rF 96 (.tmp 6) rF wr.heap.size 0 rF (Array.toList #[Value.func (.func (kofx (opn X))) #[] #[],Value.int .i64 (opn X),Value.int .i64 (qRd X),Value.int .i64 (qR1 X),Value.int .i64 (qR2 X),Value.int .i32 (imm X)]) _ R9.out Tryz.underlying96 rfl info_st ?_))
 have hi9:=HI.out.quiet HPQ.out.good.pos n1 T9.out
 refine(Calls.mono (@do_all B E b mb sb {q with done:=q.done+1 } nx2 vE2 vA2 w9 (hi9.pw.congr rfl rfl rfl rfl rfl rfl rfl rfl rfl rfl rfl rfl rfl rfl) (good_done' HPQ.out.good _) HLQ.out HPQ.out.en X x0 x1 HXN.out) ?_)
 rintro e w8 (⟨e1,rfl,nx3,vE3,vA3,hp8,ht8⟩|⟨e1,rfl,nx3,vE3,vA3,hp8,ht8⟩)
 rotate_left
 ·rw[<-HMX.out]at e1 hp8
  exact⟨rfl,mx,nx3,vE3,vA3,HGO.out.1,e1,hp8,touchF hi9.t ht8 (fun i hi=>by rw[HEE.out];exact(ref.own_lt hi9.pw.evs i hi).1),Or.inr (by rw[HMX.out])⟩
 rw[<-HMX.out]at e1 hp8
 rcases HGO.out.2 with q1|⟨_,hst8,hcase⟩
 ·rw[e1]at q1;cases q1
 have HB8:Hid (BRun m0 mx):=HGO.out.1
 have HZ8:Hid (0<mx.size):=HB8.out.good.pos
 have HN8:Hid (0<mx.nslots):=HB8.out.pos
 have ens:mx.nslots=q.nslots:=HB8.out.ns.trans HPQ.out.ns.symm
 have eks:((k:Int)/4).toNat%q.nslots=k/4%mx.nslots:=by rw[ens];congr 1
 rw[eks]at hcase
 rcases hcase with⟨hs0,hlo8⟩|⟨hs1,hmm,hpn8,hlo8⟩
 ·have HI8:Hid (PW B E b mb sb mx nx3 vE3 vA3 w8/\ref.Touch [b,mb,sb,sb+1] w w8):=⟨hp8,touchF hi9.t ht8 (fun i hi=>by rw[HEE.out];exact(ref.own_lt hi9.pw.evs i hi).1)⟩
  have hhas:decide ((mx.slots (k/4%mx.nslots)).1=(k:Int)/\¬(mx.slots (k/4%mx.nslots)).2=0)=false:=by rw[hs0];simp
  have c8:w8.cell? ⟨w1.heap.size,0,none⟩=some (.int .u32 (k:Int)):=by
   have l:=(Array.getElem?_eq_some_iff.1 hi9.tg).1
   rw[ht8.cell (p:=⟨w1.heap.size,0,none⟩) l (by simp;exact⟨hi9.nt.1,hi9.nt.2.1,hi9.nt.2.2,tag_apart hi9.tg hi9.pw.evs dC⟩)]
   exact hi9.c0
  have C8:Hid (∀w',ref.Touch [] w8 w'->w'.cell? ⟨w1.heap.size,0,none⟩=some (.int .u32 (k:Int))):=fun w' t=>(t.cell (p:=⟨w1.heap.size,0,none⟩) (World.block_lt_of_cell? _ _ c8) sP).trans c8
  have HST:Hid (mx.steps=q.steps+1/\lost mx=true/\mx.ended=false):=⟨hst8,hlo8,e1⟩
  clear hi9 hp8 ht8 hs0 hst8 hlo8 e1 c8 eks ens
  go_wp2_with fail
  refine wp_region_held_drew (S:=(fun w'=>w'.cell? ⟨w1.heap.size,0,none⟩=some (.int .u32 (k:Int)))) kR (C8.out _ (ref.Touch.refl _ _).drew) (fun hHeld=> ?_)
  refine tkk 0 36 ?_
  refine tkk 1 37 ?_
  refine tkk 2 38 ?_
  refine tkk 3 39 ?_
  refine tkk 4 40 ?_
  try go_frame
  refine rdy 5 (fun K hK=> ?_)
  go_simp
  refine(Calls.mono (has_any (HI8.out.1.quiet HZ8.out tca).ct HN8.out k oM) ?_)
  rintro e w10 ⟨rfl,ht10⟩
  have t10:ref.Touch [] w8 w10:=ref.Touch.trans (ref.Touch.refl _ _).drew ht10
  have p10:w10.cell? ⟨w1.heap.size,0,none⟩=some (.int .u32 (k:Int)):=C8.out _ t10
  rw[hhas]
  clear ht10
  refine hK.out _ _ (p10) (fun hHeld=> ?_)
  clear hK K
  try go_frame
  refine tkk 6 42 ?_
  try go_frame
  refine wpAnyH_done kR ?_ _
  go_wp2_with fail
  go_roundw
  case rel=>exact⟨mx,nx3,vE3,vA3,HB8.out,HST.out.2.2,Or.inl HST.out.2.1,HI8.out.1.quiet HZ8.out t10,HI8.out.2.trans (t10.mono sP)⟩
  case measure=>
   show pm b m0.fuel _<pm b m0.fuel _
   rw[pm_at (HI8.out.1.quiet HZ8.out t10).p,pm_at HP.out.p]
   have:=HQ.out.st
   have:=HST.out.1
   omega
 ·have HI8:Hid (InW B E b mb sb w1.heap.size kb n c k w mx nx3 vE3 vA3 w8):=hi9.did n1 HEE.out hp8 ht8 (fun hs=>hs.page oM HK4.out HPG.out hmm)
  have hhas:decide ((mx.slots (k/4%mx.nslots)).1=(k:Int)/\¬(mx.slots (k/4%mx.nslots)).2=0)=true:=by rw[hs1];simp;omega
  have HST:Hid (InnerQ m0 mx k n (j+1) m.steps):=⟨by rw[hst8,HQ.out.st];push_cast;omega,e1,fun h1=>hpn8 oM,fun _=>⟨HB8.out,fun h1=>hlo8 oM⟩,HB8.out.fuel⟩
  clear hi9 hp8 ht8 hs1 hst8 hlo8 e1 hpn8 hmm eks ens
  go_wp2_with fail
  refine wp_region_held_drew (S:=(fun w'=>w'.cell? ⟨w1.heap.size,0,none⟩=some (.int .u32 (k:Int)))) kR (HI8.out.c0) (fun hHeld=> ?_)
  refine tkk 0 36 ?_
  refine tkk 1 37 ?_
  refine tkk 2 38 ?_
  refine tkk 3 39 ?_
  refine tkk 4 40 ?_
  try go_frame
  refine rdy 5 (fun K hK=> ?_)
  go_simp
  refine(Calls.mono (has_any (HI8.out.pw.quiet HZ8.out tca).ct HN8.out k oM) ?_)
  rintro e w10 ⟨rfl,ht10⟩
  have t10:ref.Touch [] w8 w10:=ref.Touch.trans (ref.Touch.refl _ _).drew ht10
  have p10:w10.cell? ⟨w1.heap.size,0,none⟩=some (.int .u32 (k:Int)):=(HI8.out.quiet HZ8.out n1 t10).c0
  rw[hhas]
  clear ht10
  refine hK.out _ _ (p10) (fun hHeld=> ?_)
  clear hK K
  try go_frame
  refine tkk 6 42 ?_
  try go_frame
  refine wpAnyH_done kR ?_ _
  go_wp2_with fail
  go_roundw
  case rel=>exact⟨j+1,mx,nx3,vE3,vA3,by go_num,by omega,HST.out,HI8.out.quiet HZ8.out n1 t10⟩
  case measure=>simp[intOf];omega):p:=h
theorem XC1{p:Prop}(h:p:=by
 show pm b m0.fuel _<pm b m0.fuel _
 rw[pm_at HI.out.pw.p,pm_at HP.out.p]
 have:=HQ.out.st
 omega):p:=h
theorem XC2{p:Prop}(h:p:=by rw[(mach.find_f m).2.2.2.2.2.2.1];exact HM.out.good.pos):p:=h
namespace prog
open ChangeShapes WideShapes ChangeAt RowKit nums dnums mach
attribute [local go_sem ↓] Go.wp_at_zero Go.wp_at_succ
theorem StepsIn.page {k n:Nat}{a:Int}{mem mem':Nat->Int}{w:World}(h:StepsIn k n a mem w)(a0:0<=a)(a4:a%4=0)(ap:∀j:Nat,j<n->(a+4*j)/64=a/64)(hm:∀i:Nat,(i:Int)/64=a/64->mem' i=mem i):StepsIn k n a mem' w:=
 ⟨h.1,fun j hj u hu=>by rw[word_page mem mem' a (a+4*j) oM oM (ap j hj) hm];exact h.2 j hj u hu⟩
theorem StepsIn.range {k n:Nat}{a:Int}{mem:Nat->Int}{w:World}(h:StepsIn k n a mem w)(j:Nat)(hj:j<n):w.rangeAt k (j*6) (stepL (ld mem (a+4*j).toNat 4)):=fun t v hv=>by
 have ht:t<6:=by have:=(List.getElem?_eq_some_iff.1 hv).1;simpa [stepL]using this
 rw[h.2 j hj t ht]
 have:t=0\/t=1\/t=2\/t=3\/t=4\/t=5:=by omega
 rcases this with rfl|rfl|rfl|rfl|rfl|rfl<;>simpa [stepL,stepC]using hv
theorem tag_apart{w:World}{k base e size j t:Nat}{cs:Array Value}{fr:Nat × Nat}{v:Value}{xs:List Value}(h:w.heap[k]?=some (.cells cs t fr))(ho:w.ownsRow base e size v j xs)(ne:e≠t):k∉ref.sblk v:=fun hk=>by
 rcases ho.2 with⟨h1,_⟩|⟨g',cap',cur,hv,hb,hg,hn,hm,hs,ht⟩
 ·rw[h1]at hk;simp[ref.sblk]at hk
 ·rw[hv]at hk
  simp[ref.sblk]at hk
  subst hk
  rw[hg]at h
  injection h with hc
  injection hc with _ hc _
  exact ne hc
theorem touchF{b mb sb:Nat}{L:List Nat}{u v w:World}(h:ref.Touch [b,mb,sb,sb+1] u v)(k:ref.Touch (b::mb::sb::L) v w)(hL:∀i,i∈L->u.heap.size<=i):ref.Touch [b,mb,sb,sb+1] u w:=
 ⟨k.os.trans h.os,k.tape.trans h.tape,k.output.trans h.output,Nat.le_trans h.size k.size,fun i hi hn=>(k.block i (Nat.lt_of_lt_of_le hi h.size) (fun hm=>by
  simp at hm hn
  rcases hm with e|e|e|e
  ·exact hn.1 e
  ·exact hn.2.1 e
  ·exact hn.2.2.1 e
  ·exact absurd (hL i e) (Nat.not_le.mpr hi))).trans (h.block i hi hn)⟩
structure InnerQ (m0 q:M) (k n j:Nat) (s0:Int):Prop where
 st:q.steps=s0+j
 en:q.ended=false
 pe:j<n->Pend m0 q k n j
 br:1<=j->BRun m0 q/\(j=n->lost q=true)
 fu:q.fuel=m0.fuel
structure InW (B E b mb sb tb kb n c k:Nat) (w:World) (q:M) (nx:Int) (vE vA:Value) (Y:World):Prop where
 pw:PW B E b mb sb q nx vE vA Y
 tg:Y.heap[tb]?=some (.cells #[.int .u32 (k:Int),.slice (some ⟨kb,0,none⟩) n c] 128 (0,0))
 st:StepsIn kb n k q.mem Y
 t:ref.Touch [b,mb,sb,sb+1] w Y
 nk:kb≠b/\kb≠mb/\kb≠sb
 nt:tb≠b/\tb≠mb/\tb≠sb
theorem InW.quiet {B E b mb sb tb kb n c k:Nat}{w:World}{q:M}{nx:Int}{vE vA:Value}{Y Y':World}(h:InW B E b mb sb tb kb n c k w q nx vE vA Y)(hz:0<q.size)(hn:0<n)(t:ref.Touch [] Y Y'):InW B E b mb sb tb kb n c k w q nx vE vA Y':=by
 have l:tb<Y.heap.size:=(Array.getElem?_eq_some_iff.1 h.tg).1
 exact⟨h.pw.quiet hz t,by rw[t.block tb l sP];exact h.tg,h.st.touch hn t sP,h.t.trans (t.mono sP),h.nk,h.nt⟩
theorem InW.c0 {B E b mb sb tb kb n c k:Nat}{w:World}{q:M}{nx:Int}{vE vA:Value}{Y:World}(h:InW B E b mb sb tb kb n c k w q nx vE vA Y):Y.cell? ⟨tb,0,none⟩=some (.int .u32 (k:Int)):=by
 rw[cell_of_row Y tb 0 _ _ _ h.tg];rfl
theorem InW.did {B E b mb sb tb kb n c k:Nat}{w:World}{q m':M}{nx nx':Int}{vE vA vE' vA':Value}{Y Y':World}(h:InW B E b mb sb tb kb n c k w q nx vE vA Y)(hn:0<n)(hE:w.heap.size=E)(hp:PW B E b mb sb m' nx' vE' vA' Y')(t:ref.Touch (b::mb::sb::ref.sblk vE) Y Y')(hm:StepsIn kb n k q.mem Y'->StepsIn kb n k m'.mem Y'):InW B E b mb sb tb kb n c k w m' nx' vE' vA' Y':=by
 have l:tb<Y.heap.size:=(Array.getElem?_eq_some_iff.1 h.tg).1
 have n1:tb∉b::mb::sb::ref.sblk vE:=by
  simp
  exact⟨h.nt.1,h.nt.2.1,h.nt.2.2,tag_apart h.tg h.pw.evs dC⟩
 have n2:kb∉b::mb::sb::ref.sblk vE:=by
  simp
  exact⟨h.nk.1,h.nk.2.1,h.nk.2.2,StepsIn.apart (g:=0) h.st h.pw.evs dC⟩
 exact⟨hp,by rw[t.block tb l n1];exact h.tg,hm (h.st.touch hn t n2),touchF h.t t (fun i hi=>by rw[hE];exact(ref.own_lt h.pw.evs i hi).1),h.nk,h.nt⟩
end prog
namespace prog
open ChangeShapes WideShapes ChangeAt RowKit nums dnums mach
attribute [local go_sem ↓] Go.wp_at_zero Go.wp_at_succ
theorem dob_any(B E b mb sb:Nat)(m0:M)(nx:Int)(vE vA:Value)(w:World)(hE:w.heap.size=E)(h:PW B E b mb sb m0 nx vE vA w)(hmr:BRun m0 m0)(hen:m0.ended=false)(hlo0:lost m0=true)(hT:∀w' x,ref.Touch [b,mb,sb,sb+1] w w'->decodes.Tabs w' x):
  Calls Tryz.prog 57 #[.pointer (some ⟨b,0,none⟩),.int .i64 m0.fuel] w fun e w'=>∃mF nx' vE' vA',BRun m0 mF/\mF.ended=true/\PW B E b mb sb mF nx' vE' vA' w'/\ref.Touch [b,mb,sb,sb+1] w w'/\((e=.returned (.tuple #[])/\mF.out=0)\/e=.panicked (trapV mF.out)):=by
 have HTB:Hid (∀w' x,ref.Touch [b,mb,sb,sb+1] w w'->decodes.Tabs w' x):=hT
 have HP0:Hid (PW B E b mb sb m0 nx vE vA w):=h
 have HM0:Hid (BRun m0 m0):=hmr
 have HEE:Hid (w.heap.size=E):=hE
 have HL0:Hid (lost m0=true):=hlo0
 have fu0:0<=m0.fuel:=hmr.good.fine.fuel.1
 have fu1:m0.fuel<=2000:=hmr.good.fine.fuel.2
 clear h hmr hT hE hlo0
 go_enter Tryz.func57,Tryz.ntmps57
 go_wp2_with fail
 go_step3
 go_wp2_with fail
 go_step3
 go_wp2_with fail
 go_loopw [] (fun wr=>∃m nx vE vA,BRun m0 m/\m.ended=false/\(lost m=true\/m.fuel<=m.steps)/\PW B E b mb sb m nx vE vA wr/\ref.Touch [b,mb,sb,sb+1] w wr) (fun wr=>pm b m0.fuel wr)
 case atStart=>exact⟨m0,nx,vE,vA,HM0.out,hen,Or.inl HL0.out,HP0.out,ref.Touch.refl _ _⟩
 case round=>
  clear HP0
  clear vE vA nx
  obtain⟨m,nx,vE,vA,hm,he,hlo,hp,ht⟩:=hrel
  have c3:wr.cell? ⟨b,39,none⟩=some (.int .i64 m.steps):=hp.p.cells 39 dC dC
  have HM:Hid (BRun m0 m):=hm
  have HE:Hid (m.ended=false):=he
  have HP:Hid (PW B E b mb sb m nx vE vA wr):=hp
  have HT:Hid (ref.Touch [b,mb,sb,sb+1] w wr):=ht
  have ef:=hm.fuel
  have st0:0<=m.steps:=hm.good.fine.steps
  have hs2:=hm.step he
  by_cases hlt:m.steps<m0.fuel
  rotate_left
  ·have hlt2:m0.fuel<=m.steps:=by omega
   have es:mach.step m=stop m 0:=by unfold mach.step;rw[if_pos oM]
   rw[es]at hs2
   have HS2:Hid (BRun m0 (stop m 0)):=hs2.1
   clear hm he hp ht hlo hs2 es
   go_wp2_with fail
   go_end0
   exact⟨stop m 0,nx,vE,vA,HS2.out,rfl,HP.out.congr rfl rfl rfl rfl rfl rfl rfl rfl rfl rfl rfl rfl rfl rfl,HT.out,Or.inl ⟨rfl,rfl⟩⟩
  ·have hlost:lost m=true:=by
    rcases hlo with q|q
    ·exact q
    ·omega
   have hff:=hm.good.fine
   have HTx:Hid (∀w' x,ref.Touch [] wr w'->decodes.Tabs w' x):=fun w' x t=>HTB.out w' x (ht.trans (t.mono sP))
   have HB5:Hid (BG m.blocks 50000):=hm.bg.mono (by rw[he];have:=hff.within;have:=hff.fuel;simp;omega)
   obtain⟨k,hk⟩:∃k:Nat,m.pc=k:=⟨m.pc.toNat,by have:=hff.pc.1;omega⟩
   have hltm:m.steps<m.fuel:=by omega
   by_cases ha:(k:Int)%4=0
   rotate_left
   ·have es:mach.step m=stop m 3:=by unfold mach.step;rw[if_neg oM,if_pos oM]
    rw[es]at hs2
    clear hm he hp ht hlo es hlost
    go_wp2_with (first|(go_at_call 83;refine(Calls.mono (find_al HP.out HM.out.good HM.out.pos k hk ha) ?_);rintro e w1 ⟨rfl,ht1⟩;have T1:Hid (ref.Touch [] wr w1):=ht1;clear ht1))
    have p1:=HP.out.quiet HM.out.good.pos T1.out
    exact⟨rfl,stop m 3,nx,vE,vA,hs2.1,rfl,p1.congr rfl rfl rfl rfl rfl rfl rfl rfl rfl rfl rfl rfl rfl rfl,HT.out.trans (T1.out.mono sP),Or.inr rfl⟩
   cases hl:lies m k 4 with
   |false=>
    have es:mach.step m=stop m 4:=by unfold mach.step;rw[if_neg oM,if_neg oM,if_pos (by rw[hk,hl];rfl)]
    rw[es]at hs2
    clear hm he hp ht hlo es hlost
    go_wp2_with (first|(go_at_call 83;refine(Calls.mono (find_fa HP.out HM.out.good HM.out.pos k hk ha hl) ?_);rintro e w1 ⟨rfl,ht1⟩;have T1:Hid (ref.Touch [] wr w1):=ht1;clear ht1))
    have p1:=HP.out.quiet HM.out.good.pos T1.out
    exact⟨rfl,stop m 4,nx,vE,vA,hs2.1,rfl,p1.congr rfl rfl rfl rfl rfl rfl rfl rfl rfl rfl rfl rfl rfl rfl,HT.out.trans (T1.out.mono sP),Or.inr rfl⟩
   |true=>
    by_cases hx:opn (ld m.mem k 4)=-1
    ·have es:mach.step m=stop m 2:=by
      unfold mach.step;dsimp only;rw[if_neg oM,if_neg oM,if_neg (by rw[hk,hl];decide),hk,Int.toNat_natCast,if_pos hx]
     rw[es]at hs2
     have hnh:¬((m.slots (k/4%m.nslots)).1=k/\¬(m.slots (k/4%m.nslots)).2=0):=fun hc=>by
      rcases hm.sinv.slot (k/4%m.nslots) (Nat.mod_lt _ hm.pos)with q|q
      ·rw[q]at hc;exact hc.2 rfl
      ·have h1:=q.len
       have h2:=q.pos
       rw[hc.1]at h1
       simp only[blockLen,Int.toNat_natCast]at h1
       rw[if_pos hx]at h1
       omega
     clear hm he hp ht hlo es hlost
     go_wp2_with (first|(go_at_call 83;refine(Calls.mono (find_no HP.out HM.out.good HM.out.pos k hk HM.out.sinv ha hl HTx.out hnh hx) ?_);rintro e w1 ⟨rfl,ht1⟩;have T1:Hid (ref.Touch [] wr w1):=ht1;clear ht1))
     have p1:=HP.out.quiet HM.out.good.pos T1.out
     exact⟨rfl,stop m 2,nx,vE,vA,hs2.1,rfl,p1.congr rfl rfl rfl rfl rfl rfl rfl rfl rfl rfl rfl rfl rfl rfl,HT.out.trans (T1.out.mono sP),Or.inr rfl⟩
    ·have HPE:Hid (Pend m0 (mach.find m) k (blockLen m.mem 8 k) 0):=(by have:=Pend.find hm he hlost oM (by rw[hk];simpa [lies]using hl) (by rw[hk];simpa using hx);rw[hk]at this;exact this:Pend m0 (mach.find m) k (blockLen m.mem 8 k) 0)
     have ef5:(mach.find m).steps=m.steps:=(mach.find_f m).2.2.2.2.1
     have EF5:Hid ((mach.find m).steps=m.steps):=ef5
     have HMP:Hid ((mach.find m).mem=m.mem):=(mach.find_f m).2.2.2.2.2.1
     have HK4:Hid ((k:Int)%4=0):=ha
     have k32:k<=4294967295:=by have:=hff.pc.2;omega
     clear hm he hp ht hlo hlost hs2 ef5
     go_wp2_with (first|(go_at_call 83;refine(Calls.mono (find_any HP.out HM.out.good HM.out.pos k hk HM.out.sinv HM.out.cnt HB5.out ha hl HTx.out hx HM.out.used.1 (by have:=HM.out.used;have:=HM.out.ar;omega) HM.out.ar.2) ?_);rintro e w1 ⟨kb,n,c,rfl,hp1,hb1,ht1⟩;have P1:Hid (PW B E b mb sb (mach.find m) nx vE vA w1):=hp1;have BK1:Hid (BlkAt B (sb::(sb+1)::b::mb::ref.sblk vE) m.mem k kb n c w1):=hb1;have T1:Hid (ref.Touch [b,sb,sb+1] wr w1):=ht1;have cs1:w1.cell? ⟨b,39,none⟩=some (.int .i64 m.steps):=(hp1.p.cells 39 dC dC).trans (by rw[show layP (mach.find m) nx (PX (mach.find m) sb vE vA) 39=.int .i64 (mach.find m).steps from rfl,(mach.find_f m).2.2.2.2.1]);have lb1:b<w1.heap.size:=hp1.lb;have n8:n<=8:=hb1.2.2.1;have n1:0<n:=hb1.2.1;have nc:n<=c:=hb1.2.2.2.1;clear hp1 hb1 ht1))
     obtain⟨L,hL1,hL2,hL3⟩:∃L:Nat,(L:Int)=min (n:Int) (m0.fuel-m.steps)/\1<=L/\L<=n:=⟨(min (n:Int) (m0.fuel-m.steps)).toNat,by omega,by omega,by omega⟩
     have HL1:Hid ((L:Int)=min (n:Int) (m0.fuel-m.steps)):=hL1
     have HIW:Hid (InW B E b mb sb w1.heap.size kb n c k w (mach.find m) nx vE vA (w1.alloc (.cells #[.int .u32 (k:Int),.slice (some ⟨kb,0,none⟩) n c] 128))):=by
      have q:=BK1.out
      have hkx:=q.2.2.2.2.2.1
      simp at hkx
      have lm1:mb<w1.heap.size:=World.block_lt_of_cell? _ _ (P1.out.p.bytes 0 XC2)
      have ls1:=P1.out.ls
      exact⟨P1.out.quiet XC2 ((ref.Touch.refl _ _).alloc _),heap_alloc_new w1 _,by rw[HMP.out];exact q.2.2.2.2.2.2.touch q.2.1 ((ref.Touch.refl [] _).alloc _) sP,((HT.out.trans (T1.out.mono sP)).alloc _),⟨hkx.2.2.1,hkx.2.2.2.1,hkx.1⟩,by omega,by omega,by omega⟩
     have HIQ:Hid (InnerQ m0 (mach.find m) k n 0 m.steps):=⟨by rw[EF5.out];simp,HPE.out.en,fun _=>by have:=HPE.out;rw[<-BK1.out.1]at this;exact this,fun h1=>by omega,HPE.out.fuel⟩
     have HPG:Hid (∀j:Nat,j<n->((k:Int)+4*j)/64=(k:Int)/64):=fun j hj=>blockLen_in m.mem 8 k HK4.out j (by rw[<-BK1.out.1];omega)
     have cs2:(w1.alloc (.cells #[.int .u32 (k:Int),.slice (some ⟨kb,0,none⟩) n c] 128)).cell? ⟨b,39,none⟩=some (.int .i64 m.steps):=(World.cell?_alloc_past _ _ _ lb1).trans cs1
     have HKE:Hid (m.pc=k):=hk
     clear hk hL1 cs1 ha hl hx
     by_cases hnf:(n:Int)<=m0.fuel-m.steps
     ·have hnf2:¬m0.fuel-m.steps<(n:Int):=by omega
      go_region
      refine then_world (fun Y=>InW B E b mb sb w1.heap.size kb n c k w (mach.find m) nx vE vA Y) (HIW.out.quiet XC2 n1 tcb) (fun Y0 HY0=> ?_)
      have HI0:Hid (InW B E b mb sb w1.heap.size kb n c k w (mach.find m) nx vE vA Y0):=HY0
      clear HY0
      go_wp2_with fail
      go_loopw [29] (fun i Y=>∃(j:Nat) (q:M) (nx:Int) (vE vA:Value),i=.int .i64 j/\j<=n/\InnerQ m0 q k n j m.steps/\InW B E b mb sb w1.heap.size kb n c k w q nx vE vA Y) (fun i _=>n-(intOf i).toNat)
      case atStart=>exact⟨0,mach.find m,nx,vE,vA,rfl,by omega,HIQ.out,HI0.out⟩
      case round=>
       obtain⟨j,q,nx2,vE2,vA2,rfl,hj,hq,hi⟩:=hrel
       have HQ:Hid (InnerQ m0 q k n j m.steps):=hq
       have HI:Hid (InW B E b mb sb w1.heap.size kb n c k w q nx2 vE2 vA2 wr):=hi
       by_cases hjL:j<n
       rotate_left
       ·clear hq hi
        go_wp2_with fail
        go_roundw
        case rel=>
         have hqq:=HQ.out
         obtain⟨hb,hlq⟩:=hqq.br oM
         exact⟨q,nx2,vE2,vA2,hb,hqq.en,Or.inl (hlq oM),HI.out.pw,HI.out.t⟩
        case measure=>
         exact XC1
       ·exact XC0
     ·have hnf2:m0.fuel-m.steps<(n:Int):=by omega
      have hLe:m0.fuel-m.steps=(L:Int):=by have:=HL1.out;omega
      go_region
      refine then_world (fun Y=>InW B E b mb sb w1.heap.size kb n c k w (mach.find m) nx vE vA Y) (HIW.out.quiet XC2 n1 tcb) (fun Y0 HY0=> ?_)
      have HI0:Hid (InW B E b mb sb w1.heap.size kb n c k w (mach.find m) nx vE vA Y0):=HY0
      clear HY0
      go_wp2_with fail
      go_loopw [29] (fun i Y=>∃(j:Nat) (q:M) (nx:Int) (vE vA:Value),i=.int .i64 j/\j<=L/\InnerQ m0 q k n j m.steps/\InW B E b mb sb w1.heap.size kb n c k w q nx vE vA Y) (fun i _=>L-(intOf i).toNat)
      case atStart=>exact⟨0,mach.find m,nx,vE,vA,rfl,by omega,HIQ.out,HI0.out⟩
      case round=>
       obtain⟨j,q,nx2,vE2,vA2,rfl,hj,hq,hi⟩:=hrel
       have HQ:Hid (InnerQ m0 q k n j m.steps):=hq
       have HI:Hid (InW B E b mb sb w1.heap.size kb n c k w q nx2 vE2 vA2 wr):=hi
       by_cases hjL:j<L
       rotate_left
       ·clear hq hi
        go_wp2_with fail
        go_roundw
        case rel=>
         have hqq:=HQ.out
         obtain⟨hb,hlq⟩:=hqq.br oM
         exact⟨q,nx2,vE2,vA2,hb,hqq.en,Or.inr (by rw[hqq.st,hb.fuel];omega),HI.out.pw,HI.out.t⟩
        case measure=>
         exact XC1
       ·exact XC0
end prog
end Go.Proofs.YtjikimpejlmdiaaGreatDoor

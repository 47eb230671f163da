import Derived.Test.YtjikimpejlmdiaaGreatDoorZGs
import Derived.Test.YtjikimpejlmdiaaGreatDoorZHn
import Derived.BigQuiet
import Derived.BigRegion
import Derived.Carry
import Derived.Deep.RegionHeld3
import Derived.Test.YtjikimpejlmdiaaGreatDoorZHm
import Derived.Sort.KeysCollected
set_option maxHeartbeats 4000000
set_option linter.unusedVariables false
set_option linter.unusedSimpArgs false
set_option maxRecDepth 10000
namespace Go.Proofs.YtjikimpejlmdiaaGreatDoor
theorem Xn0{p:Prop}(h:p:=by
 go_enter Tryz.func35,Tryz.ntmps35
 go_wp2_with (first|(go_at_call 29;refine(Calls.mono (HCK.out _) ?_);rintro e w1 ⟨rfl,ht1⟩;have T1:Hid (ref.Touch [] (w.alloc (.cells #[.int .i64 pg,.string im,.int .u32 ba,.int .u32 en,.slice oa na ca,.int .i64 fu,.int .i64 sl,.int .i64 ar] 25)) w1):=ht1;have s6:w1.cell? ⟨w.heap.size,6,none⟩=some (.int .i64 sl):=(ht1.cell (p:=⟨w.heap.size,6,none⟩) sP sP).trans (World.cell?_alloc_at _ _ _ _ rfl);have s7:w1.cell? ⟨w.heap.size,7,none⟩=some (.int .i64 ar):=(ht1.cell (p:=⟨w.heap.size,7,none⟩) sP sP).trans (World.cell?_alloc_at _ _ _ _ rfl);clear ht1)|(go_at_call 42;refine(Calls.mono (within_any _ _ _ dC _) ?_);rintro e w' ⟨rfl,hw'⟩;subst w'))
 go_ret
 exact⟨rfl,((ref.Touch.refl _ _).alloc _).trans T1.out⟩):p:=h
theorem Xn1{p:Prop}(h:p:=by
 have q:=runb_any n (n+1+1) (n+1) (ref.start pg im ba en ans fu sl ar true) (.slice oa na ca) w2 h1 h2 hbr rfl rfl (by simp[lost,ref.start];omega) (fun _=>rfl) rfl rfl h3
 rw[show(((ref.start pg im ba en ans fu sl ar true).nslots:Nat):Int)=sl from by show((sl.toNat:Nat):Int)=sl;omega]at q
 exact q):p:=h
theorem Xn2{p:Prop}(h:p:=by rw[World.cell?_alloc_past _ _ _ sP,World.cell?_alloc_at _ _ _ _ rfl];rfl):p:=h
theorem Xn3{p:Prop}(h:p:=by rw[World.cell?_alloc_at _ _ _ _ rfl];rfl):p:=h
theorem Xn4{p:Prop}(h:p:=by have:=T1.out.size;simp at this;omega):p:=h
theorem Xn5{p:Prop}(h:p:=by simp;omega):p:=h
namespace prog
open ChangeShapes WideShapes ChangeAt RowKit nums dnums mach
attribute [local go_sem ↓] Go.wp_at_zero Go.wp_at_succ
theorem ckb_1(pg:Int)(im:ByteArray)(ba en:Int)(oa:Option Addr)(na ca:Nat)(fu sl ar:Int)(ba0:0<=ba)(ba1:ba<=4294967295)(him:im.size<=1048576)(w:World)(er:Int)(he:er=ref.wrong pg im ba fu sl ar false)(hne:¬er=0):Calls Tryz.prog 35 #[.agg #[.int .i64 pg,.string im,.int .u32 ba,.int .u32 en,.slice oa na ca,.int .i64 fu,.int .i64 sl,.int .i64 ar]] w fun e w'=>e=.returned (.int .i64 er)/\ref.Touch [] w w':=by
 have HCK:Hid (∀w,_):=fun w=>check_any pg im ba en (.slice oa na ca) fu sl ar ba0 ba1 him w
 rw[<-he]at HCK
 clear he
 exact Xn0
theorem ckb_2(pg:Int)(im:ByteArray)(ba en:Int)(oa:Option Addr)(na ca:Nat)(fu sl ar:Int)(ba0:0<=ba)(ba1:ba<=4294967295)(him:im.size<=1048576)(w:World)(he:ref.wrong pg im ba fu sl ar false=0)(h1:¬(1<=sl/\sl<=64)):Calls Tryz.prog 35 #[.agg #[.int .i64 pg,.string im,.int .u32 ba,.int .u32 en,.slice oa na ca,.int .i64 fu,.int .i64 sl,.int .i64 ar]] w fun e w'=>e=.returned (.int .i64 4)/\ref.Touch [] w w':=by
 have HCK:Hid (∀w,_):=fun w=>check_any pg im ba en (.slice oa na ca) fu sl ar ba0 ba1 him w
 rw[he]at HCK
 have d1:decide (1<=sl/\sl<=64)=false:=by simp only[h1,decide_false]
 clear he h1
 exact Xn0
theorem ckb_3(pg:Int)(im:ByteArray)(ba en:Int)(oa:Option Addr)(na ca:Nat)(fu sl ar:Int)(ba0:0<=ba)(ba1:ba<=4294967295)(him:im.size<=1048576)(w:World)(he:ref.wrong pg im ba fu sl ar false=0)(h1:1<=sl/\sl<=64)(h2:¬(8<=ar/\ar<=256)):Calls Tryz.prog 35 #[.agg #[.int .i64 pg,.string im,.int .u32 ba,.int .u32 en,.slice oa na ca,.int .i64 fu,.int .i64 sl,.int .i64 ar]] w fun e w'=>e=.returned (.int .i64 4)/\ref.Touch [] w w':=by
 have HCK:Hid (∀w,_):=fun w=>check_any pg im ba en (.slice oa na ca) fu sl ar ba0 ba1 him w
 rw[he]at HCK
 have d1:decide (1<=sl/\sl<=64)=true:=by simp only[h1];simp
 have d2:decide (8<=ar/\ar<=256)=false:=by simp only[h2,decide_false]
 clear he h1 h2
 exact Xn0
theorem ckb_0(pg:Int)(im:ByteArray)(ba en:Int)(oa:Option Addr)(na ca:Nat)(fu sl ar:Int)(ba0:0<=ba)(ba1:ba<=4294967295)(him:im.size<=1048576)(w:World)(he:ref.wrong pg im ba fu sl ar false=0)(h1:1<=sl/\sl<=64)(h2:8<=ar/\ar<=256):Calls Tryz.prog 35 #[.agg #[.int .i64 pg,.string im,.int .u32 ba,.int .u32 en,.slice oa na ca,.int .i64 fu,.int .i64 sl,.int .i64 ar]] w fun e w'=>e=.returned (.int .i64 0)/\ref.Touch [] w w':=by
 have HCK:Hid (∀w,_):=fun w=>check_any pg im ba en (.slice oa na ca) fu sl ar ba0 ba1 him w
 rw[he]at HCK
 have d1:decide (1<=sl/\sl<=64)=true:=by simp only[h1];simp
 have d2:decide (8<=ar/\ar<=256)=true:=by simp only[h2];simp
 clear he h1 h2
 exact Xn0
theorem wrong_t(pg:Int)(im:ByteArray)(ba fu sl ar:Int):ref.wrong pg im ba fu sl ar true=if ref.wrong pg im ba fu sl ar false=0 then(if sl<1\/64<sl\/ar<8\/256<ar then 4 else 0)else ref.wrong pg im ba fu sl ar false:=by
 unfold ref.wrong
 by_cases c1:pg<1\/8<pg
 ·simp[c1]
 by_cases c2:pg*64<im.size\/pg*64-im.size<ba
 ·simp[c1,c2]
 by_cases c3:fu<0\/2000<fu
 ·simp[c1,c2,c3]
 ·simp[c1,c2,c3]
theorem checkb_any(pg:Int)(im:ByteArray)(ba en:Int)(vA:Value)(fu sl ar:Int)(ba0:0<=ba)(ba1:ba<=4294967295)(him:im.size<=1048576)(w:World)(oa:Option Addr)(na ca:Nat)(hvA:vA=.slice oa na ca):Calls Tryz.prog 35 #[.agg #[.int .i64 pg,.string im,.int .u32 ba,.int .u32 en,vA,.int .i64 fu,.int .i64 sl,.int .i64 ar]] w fun e w'=>e=.returned (.int .i64 (ref.wrong pg im ba fu sl ar true))/\ref.Touch [] w w':=by
 subst hvA
 rw[wrong_t]
 by_cases he:ref.wrong pg im ba fu sl ar false=0
 ·rw[if_pos he]
  by_cases h1:1<=sl/\sl<=64
  ·by_cases h2:8<=ar/\ar<=256
   ·rw[if_neg oM];exact ckb_0 pg im ba en oa na ca fu sl ar ba0 ba1 him w he h1 h2
   ·rw[if_pos oM];exact ckb_3 pg im ba en oa na ca fu sl ar ba0 ba1 him w he h1 h2
  ·rw[if_pos oM];exact ckb_2 pg im ba en oa na ca fu sl ar ba0 ba1 him w he h1
 ·rw[if_neg he];exact ckb_1 pg im ba en oa na ca fu sl ar ba0 ba1 him w _ rfl he
theorem info_blk:(Tryz.prog.info? 128).map (fun i=>(i.zero,i.size,i.bytes))=some (some (.agg #[.int .u32 0,.slice none 0 0]),2,32):=by kernel_rfl
theorem make_blks(n:Nat)(hn:n<=64)(w:World):(Instr.makeSlice 85 (.int .i64 (n:Int)) (.int .i64 (n:Int))).run Tryz.prog w=.ok (.slice (some ⟨w.heap.size,0,none⟩) n n) (w.alloc (.cells (madeCells #[.int .u32 0,.slice none 0 0] (n*2)) 128)):=by
 obtain⟨i0,hi,hz0,hz1,hz2⟩:=info_parts info_blk
 have:=run_make (P:=Tryz.prog) w 85 128 i0 _ Tryz.underlying85 hi hz0 .i64 .i64 (n:Int) (n:Int) oM oM (by rw[hz2];omega) oM
 simp only[Int.toNat_natCast]at this
 rw[hz1]at this
 exact this
theorem made2P(a c:Value)(n i:Nat)(hi:i<n):(madeCells #[a,c] (n*2))[i*2]?=some a/\(madeCells #[a,c] (n*2))[i*2+1]?=some c:=by
 have h1:i*2<n*2:=by omega
 have h2:i*2+1<n*2:=by omega
 constructor
 ·simp[madeCells,h1]
 ·simp[madeCells,h2,show(i*2+1)%2=1 by omega]
def CacheQ (n:Nat) (ar:Int) (w:World) (e:Ending) (w':World):Prop:=∃sb,e=.returned (.agg #[.slice (some ⟨sb,0,none⟩) n n,.int .i64 ar,.int .i64 0,.map (some (sb+1))])/\w.heap.size<=sb/\sb<w'.heap.size/\RowIn sb n (fun _=>(0,nilV)) w'/\PMp (sb+1) [] w'/\ref.Touch [] w w'
theorem newC_any(n:Nat)(hn0:0<n)(hn:n<=64)(ar:Int)(w:World):Calls Tryz.prog 55 #[.int .i64 (n:Int),.int .i64 ar] w (CacheQ n ar w):=by
 have hmk:=make_blks n hn
 have hmm:=@run_makeMap Tryz.prog
 go_enter Tryz.func55,Tryz.ntmps55
 go_wp2_with fail
 refine bodyPost_ret (v:=.agg #[.slice (some ⟨w.heap.size+1,0,none⟩) n n,.int .i64 ar,.int .i64 0,.map (some (w.heap.size+1+1))]) ?_ rfl ?_
 ·simp[results,Tryz.results55,go_sem]
 ·refine⟨w.heap.size+1,rfl,by omega,by simp,⟨fun i hi=> ?_,fun i hi=> ?_,fun j=> ?_⟩, ?_, ?_⟩
  ·rw[World.cell?_alloc_past _ _ _ sP,World.cell?_alloc_at _ _ _ _ sP];exact(made2P _ _ n i hi).1
  ·rw[World.cell?_alloc_past _ _ _ sP,World.cell?_alloc_at _ _ _ _ sP];exact(made2P _ _ n i hi).2
  ·rw[World.frozen?_alloc_past _ _ _ sP];exact World.frozen?_alloc_at _ _ _ _ sP
  ·have e:∀W:World,W.heap.size=w.heap.size+1+1->PMp (w.heap.size+1+1) [] (W.alloc (.map #[] 0)):=fun W hW=>by rw[<-hW];exact PM.made _ _ W
   exact e _ sP
  ·exact((((ref.Touch.refl _ _).alloc _).alloc _).alloc _)
theorem outcomeb_any(g1 g2:Nat)(w:World)(R:Int->World->Prop)(hC:Calls Tryz.prog 56 #[.pointer (some ⟨g1,0,none⟩),.pointer (some ⟨g2,0,none⟩)] (w.alloc (.cells #[.int .i64 0] 28)) fun e w'=>∃o,R o w'/\w'.cell? ⟨w.heap.size,0,none⟩=some (.int .i64 0)/\w'.frozen? ⟨w.heap.size,0,none⟩=false/\((e=.returned (.tuple #[])/\o=0)\/e=.panicked (trapV o))):
  Calls Tryz.prog 45 #[.func (.func 56) #[] #[.pointer (some ⟨g1,0,none⟩),.pointer (some ⟨g2,0,none⟩)]] w fun e w'=>∃o w1,e=.returned (.int .i64 o)/\R o w1/\ref.Touch [w.heap.size] w1 w':=by
 have hmf:∀(fn:Fn) (first cap:Array Value) (w:World),(Instr.makeFunc fn first cap).run Tryz.prog w=.ok (.func fn first cap) w:=fun _ _ _ _=>rfl
 have HC:Hid (Calls Tryz.prog 56 #[.pointer (some ⟨g1,0,none⟩),.pointer (some ⟨g2,0,none⟩)] (w.alloc (.cells #[.int .i64 0] 28)) fun e w'=>∃o,R o w'/\w'.cell? ⟨w.heap.size,0,none⟩=some (.int .i64 0)/\w'.frozen? ⟨w.heap.size,0,none⟩=false/\((e=.returned (.tuple #[])/\o=0)\/e=.panicked (trapV o))):=hC
 clear hC
 go_enter_defers Tryz.func45,Tryz.ntmps45
 go_wp2_with fail
 refine(Calls.mono HC.out ?_)
 rintro e w1 ⟨o,hr,hc,hz,(⟨rfl,rfl⟩|rfl)⟩
 ·have HR:Hid (R 0 w1):=hr
  clear hr
  go_wp2_with fail
  refine leaves_cons (f:=73) (args:=#[.pointer (some ⟨w.heap.size,0,none⟩)]) sP (by simp[go_sem]) ?_
  refine(catch_idle w.heap.size _).mono ?_
  rintro e u' w2 ⟨rfl,rfl,rfl⟩
  simp[Leaves,settle,results,Tryz.results45,go_sem,hc,hz]
  exact⟨w1,HR.out,(ref.Touch.refl _ _).setCell sP _⟩
 ·have HR:Hid (R o w1):=hr
  clear hr
  go_wp2_with fail
  refine leaves_cons (f:=73) (args:=#[.pointer (some ⟨w.heap.size,0,none⟩)]) sP (by simp[go_sem]) ?_
  refine(catch_trap w.heap.size _ o _ hc hz).mono ?_
  rintro e u' w2 ⟨rfl,rfl,rfl⟩
  have l1:w.heap.size<w1.heap.size:=World.block_lt_of_cell? _ _ hc
  simp[Leaves,settle,results,Tryz.results45,go_sem,hc,hz,l1]
  exact⟨w1,HR.out,((ref.Touch.refl _ _).setCell sP _).alloc _⟩
theorem rb1_any(B E b mb sb g1 g2:Nat)(m0:M)(nx:Int)(vE vA:Value)(w:World)(hE:w.heap.size=E)(h:PW B E b mb sb m0 nx vE vA w)(hmr:BRun m0 m0)(hen:m0.ended=false)(hlo0:lost m0=true)(hg1:w.cell? ⟨g1,0,none⟩=some (.pointer (some ⟨b,0,none⟩)))(hg2:w.cell? ⟨g2,0,none⟩=some (.int .i64 m0.fuel))(hT:∀w' x,ref.Touch [b,mb,sb,sb+1] w w'->decodes.Tabs w' x):
  Calls Tryz.prog 56 #[.pointer (some ⟨g1,0,none⟩),.pointer (some ⟨g2,0,none⟩)] w fun e w'=>∃mF nx' vE' vA',BRun m0 mF/\mF.ended=true/\PW B E b mb sb mF nx' vE' vA' w'/\ref.Touch [b,mb,sb,sb+1] w w'/\((e=.returned (.tuple #[])/\mF.out=0)\/e=.panicked (trapV mF.out)):=by
 have HD:Hid (_):=dob_any B E b mb sb m0 nx vE vA w hE h hmr hen hlo0 hT
 clear h hmr hT hE hlo0 hen
 go_enter Tryz.func56,Tryz.ntmps56
 go_wp2_with fail
 refine(Calls.mono HD.out ?_)
 rintro e w1 ⟨mF,nx',vE',vA',q1,q2,q3,q4,(⟨rfl,q5⟩|rfl)⟩
 ·have HQ:Hid (BRun m0 mF/\mF.ended=true/\PW B E b mb sb mF nx' vE' vA' w1/\ref.Touch [b,mb,sb,sb+1] w w1/\mF.out=0):=⟨q1,q2,q3,q4,q5⟩
  clear q1 q2 q3 q4 q5
  go_wp2_with fail
  go_end0
  exact⟨mF,nx',vE',vA',HQ.out.1,HQ.out.2.1,HQ.out.2.2.1,HQ.out.2.2.2.1,Or.inl ⟨rfl,HQ.out.2.2.2.2⟩⟩
 ·exact⟨rfl,mF,nx',vE',vA',q1,q2,q3,q4,Or.inr rfl⟩
theorem brun_start(pg:Int)(im:ByteArray)(ba en:Int)(ans:List ByteArray)(fu sl ar:Int)(ba0:0<=ba)(en0:0<=en)(en1:en<=4294967295)(h:ref.wrong pg im ba fu sl ar true=0):BRun (ref.start pg im ba en ans fu sl ar true) (ref.start pg im ba en ans fu sl ar true)/\ref.wrong pg im ba fu sl ar false=0/\1<=sl/\sl<=64:=by
 have hg:=ref.good_start pg im ba en ans fu sl ar true ba0 en0 en1 h
 rw[wrong_t]at h
 by_cases he:ref.wrong pg im ba fu sl ar false=0
 rotate_left
 ·rw[if_neg he]at h;exact absurd h he
 rw[if_pos he]at h
 have hb:¬(sl<1\/64<sl\/ar<8\/256<ar):=fun hc=>by rw[if_pos hc]at h;omega
 refine⟨⟨hg.1,⟨?_,fun i hi=>Or.inl rfl⟩, ?_,rfl, ?_,rfl, ?_, ?_,Int.le_refl _, ?_, ?_, ?_,Int.le_refl _, ?_,⟨0,rfl⟩,rfl,rfl,⟨rfl,fun i hi=>absurd rfl hi⟩⟩,he,by omega,by omega⟩
 ·show(pg*64).toNat%64=0;have:=hg.2;omega
 ·show 0<sl.toNat;omega
 ·show sl.toNat<=64;omega
 ·show 8<=ar/\ar<=256;omega
 ·show(0:Int)<=0/\(0:Int)<=ar;omega
 ·show(0:Int)<=0+0;omega
 ·exact⟨List.Pairwise.nil,Nat.zero_le _,fun x hx=>by cases hx⟩
 ·show(0:Int)<=8;omega
 ·show(0:Int)<=8;omega
theorem brun_bu{m0 m:M}(h:BRun m0 m):BuS m:=Or.inr ⟨by have:=h.pos;omega,h.cnt.bs,LB.of h.bg (by have:=h.good.fine.within;have:=h.good.fine.fuel;split<;>omega),by have q:=h.bt1;have:=h.good.fine.within;have:=h.good.fine.fuel;split at q<;>omega⟩
theorem info_ca:(Tryz.prog.info? 89).map (·.size)=some 4:=by kernel_rfl
theorem pw_cache(B E b mb sb:Nat)(m:M)(vA:Value)(w:World)(hq:PAt B b mb m 0 (vX3 m.low (.slice none 0 0) vA (cacheV 0 0 0 0)) w)(hz:0<m.size)(hn0:0<m.nslots)(hn:m.nslots<=64)(hev:m.evs=[])(hsl:∀i,m.slots i=(0,0))(hus:m.used=0)(hbl:m.blocks=[])(ha:ref.AnsAt B m.ans vA w)(hpm:PMp (sb+1) [] w)(hr:RowIn sb m.nslots (fun _=>(0,nilV)) w)(n1:sb≠b)(n2:sb≠mb)(hB:B<=sb)(hE:B<=E)(hE2:E<=w.heap.size):
  PW B E b mb sb m 0 (.slice none 0 0) vA (w.setCells b 40 [.slice (some ⟨sb,0,none⟩) m.nslots m.nslots,.int .i64 m.arena,.int .i64 0,.map (some (sb+1))]):=by
 have hne:m.nslots≠0:=by omega
 have q1:sb+1≠b:=fun e=>by have:=hpm.no 0;obtain⟨u,hu⟩:=hq.there 0 dC;rw[e,hu]at this;cases this
 have q2:sb+1≠mb:=fun e=>by have:=hpm.no 0;rw[e,hq.bytes 0 hz]at this;cases this
 have t:ref.Touch [b] w (w.setCells b 40 [.slice (some ⟨sb,0,none⟩) m.nslots m.nslots,.int .i64 m.arena,.int .i64 0,.map (some (sb+1))]):=touch_setsP sP _ _ _ _ (ref.Touch.refl _ _)
 have hbs:B<=w.heap.size:=Nat.le_trans hE hE2
 have hin:=World.cell?_setCells_in b [Value.slice (some ⟨sb,0,none⟩) m.nslots m.nslots,.int .i64 m.arena,.int .i64 0,.map (some (sb+1))] 40 w (fun j hj=>by simp at hj;obtain⟨u,hu⟩:=hq.there (40+j) oM;rw[hu];rfl)
 refine⟨⟨hq.hb,hq.hmb,hq.ne,fun i hi hM=> ?_, ?_,fun i=>by rw[World.frozen?_setCells];exact hq.free i,fun i hi=> ?_,fun i=>by rw[World.frozen?_setCells];exact hq.freem i⟩,hE,Nat.le_trans hE2 t.size,by rw[hev];exact World.ownsRow_nil _ _ _ _,ha.below (t.below hbs (by intro i hi;simp at hi;subst hi;exact hq.hb)),by simp[ref.sblk],⟨hn,fun _=>⟨hB,by simp[ref.sblk];exact⟨n1,n2⟩⟩,fun _=>⟨fun _=>(0,nilV),hr.other hn0 t (by simpa using n1),fun i hi=>⟨by rw[hsl i],Or.inl ⟨hsl i,rfl⟩⟩⟩,fun _=>⟨by rw[hbl];exact hpm.keep (t.block _ hpm.lt (by simpa using q1)),by simp[ref.sblk];exact⟨q1,q2⟩⟩⟩,hB,Nat.lt_of_lt_of_le (World.block_lt_of_cell? _ _ (hr.pcs 0 hn0)) t.size⟩
 ·by_cases c:i<40
  ·rw[World.cell?_setCells_out _ _ _ _ _ (fun _ _=>Or.inl c),hq.cells i hi hM]
   have:i<32\/i=33\/i=34\/i=35\/i=36\/i=37\/i=38\/i=39:=by omega
   rcases this with k|k|k|k|k|k|k|k<;>simp[layP,vX3,k]
  ·have:i=40\/i=41\/i=42\/i=43:=by omega
   rcases this with rfl|rfl|rfl|rfl
   ·exact(hin 0 sP).trans (by simp[layP,vX3,cacheV,slotsV,hne])
   ·exact(hin 1 sP).trans (by simp[layP,vX3,cacheV,hne])
   ·exact(hin 2 sP).trans (by simp[layP,vX3,cacheV,hne,hus])
   ·exact(hin 3 sP).trans (by simp[layP,vX3,cacheV,mapV,hne])
 ·rw[World.cell?_setCells_out _ _ _ _ _ (fun _ _=>Or.inl (by show 32<40;decide))];exact hq.data
 ·rw[World.cell?_setCells_out _ _ _ _ _ (fun e=>absurd e.symm hq.ne)];exact hq.bytes i hi
theorem setCells_size:∀(vs:List Value) (b o:Nat) (w:World),(w.setCells b o vs).heap.size=w.heap.size
 |[],_,_,_=>rfl
 |v::r,b,o,w=>(setCells_size r b (o+1) (w.setCell ⟨b,o,none⟩ v)).trans (by simp[World.setCell])
theorem tnew3{b mb sb:Nat}{u v w:World}(h:ref.Touch [b,mb] u v)(k:ref.Touch [b,mb,sb,sb+1] v w)(hs:u.heap.size+1+1<=sb):ref.Touch [b,mb] u w:=
 ⟨k.os.trans h.os,k.tape.trans h.tape,k.output.trans h.output,Nat.le_trans h.size k.size,fun i hi hn=>(k.block i (Nat.lt_of_lt_of_le hi h.size) (fun hm=>by simp at hm hn;omega)).trans (h.block i hi hn)⟩
theorem runb_any(B b mb:Nat)(m0:M)(vA:Value)(w:World)(hq:PAt B b mb m0 0 (vX3 m0.low (.slice none 0 0) vA (cacheV 0 0 0 0)) w)(ha:ref.AnsAt B m0.ans vA w)(hmr:BRun m0 m0)(hen:m0.ended=false)(hev:m0.evs=[])(hlo:lost m0=true)(hsl:∀i,m0.slots i=(0,0))(hus:m0.used=0)(hbu:m0.blocks=[])(hT:∀w' x,Below B w w'->decodes.Tabs w' x):
  Calls Tryz.prog 36 #[.pointer (some ⟨b,0,none⟩),.int .i64 m0.fuel,.int .i64 (m0.nslots:Int),.int .i64 m0.arena] w fun e w'=>∃mF nx' vE' vA' sb,e=.returned (.int .i64 mF.out)/\BRun m0 mF/\mF.ended=true/\PW B w.heap.size b mb sb mF nx' vE' vA' w'/\ref.Touch [b,mb] w w':=by
 have hmf:∀(fn:Fn) (first cap:Array Value) (w:World),(Instr.makeFunc fn first cap).run Tryz.prog w=.ok (.func fn first cap) w:=fun _ _ _ _=>rfl
 have hz:0<m0.size:=hmr.good.pos
 have HZ:Hid (0<m0.size):=hz
 have hn0:0<m0.nslots:=hmr.pos
 have hn64:m0.nslots<=64:=hmr.nb
 have lb:b<w.heap.size:=World.block_lt_of_cell? _ _ hq.data
 have lm:mb<w.heap.size:=World.block_lt_of_cell? _ _ (hq.bytes 0 hz)
 have HQ0:Hid (PAt B b mb m0 0 (vX3 m0.low (.slice none 0 0) vA (cacheV 0 0 0 0)) w):=hq
 have HAN:Hid (ref.AnsAt B m0.ans vA w):=ha
 have HMR:Hid (BRun m0 m0):=hmr
 have HEV:Hid (m0.evs=[]):=hev
 have HLO:Hid (lost m0=true):=hlo
 have HSL:Hid (∀i,m0.slots i=(0,0)):=hsl
 have HUS:Hid (m0.used=0):=hus
 have HBU:Hid (m0.blocks=[]):=hbu
 have HTB:Hid (∀w' x,Below B w w'->decodes.Tabs w' x):=hT
 have HG1:Hid (((w.alloc (.cells #[.pointer (some ⟨b,0,none⟩)] 67)).alloc (.cells #[.int .i64 m0.fuel] 3)).cell? ⟨w.heap.size,0,none⟩=some (.pointer (some ⟨b,0,none⟩))):=(by rw[World.cell?_alloc_past _ _ _ sP,World.cell?_alloc_at _ _ _ _ rfl];rfl:((w.alloc (.cells #[.pointer (some ⟨b,0,none⟩)] 67)).alloc (.cells #[.int .i64 m0.fuel] 3)).cell? ⟨w.heap.size,0,none⟩=some (.pointer (some ⟨b,0,none⟩)))
 have HG2:Hid (((w.alloc (.cells #[.pointer (some ⟨b,0,none⟩)] 67)).alloc (.cells #[.int .i64 m0.fuel] 3)).cell? ⟨w.heap.size+1,0,none⟩=some (.int .i64 m0.fuel)):=(by rw[World.cell?_alloc_at _ _ _ _ sP];rfl:((w.alloc (.cells #[.pointer (some ⟨b,0,none⟩)] 67)).alloc (.cells #[.int .i64 m0.fuel] 3)).cell? ⟨w.heap.size+1,0,none⟩=some (.int .i64 m0.fuel))
 have HBw:Hid (B<=w.heap.size):=(by have:=hq.hb;omega:B<=w.heap.size)
 clear hq ha hmr hev hlo hsl hus hbu hT hz
 go_enter Tryz.func36,Tryz.ntmps36
 go_wp2_with fail
 refine wp_region_held_drew (S:=(fun w'=>w'.cell? ⟨w.heap.size,0,none⟩=some (.pointer (some ⟨b,0,none⟩)))) kR (HG1.out) (fun hHeld=> ?_)
 refine tkk 0 9 ?_
 refine tkk 1 10 ?_
 refine tkk 2 11 ?_
 try go_frame
 refine rdy 3 (fun K hK=> ?_)
 go_simp
 refine(Calls.mono (newC_any m0.nslots hn0 hn64 m0.arena _) ?_)
 rintro e w2 ⟨sb,rfl,hsb1,hsb2,hrow,hpm,ht2⟩
 have HPM:Hid (PMp (sb+1) [] w2):=hpm
 have tw:ref.Touch [] ((w.alloc (.cells #[.pointer (some ⟨b,0,none⟩)] 67)).alloc (.cells #[.int .i64 m0.fuel] 3)) w2:=ref.Touch.trans tcb ht2
 have t2:ref.Touch [] w w2:=((((ref.Touch.refl _ _).alloc _).alloc _)).trans tw
 have p2:w2.cell? ⟨w.heap.size,0,none⟩=some (.pointer (some ⟨b,0,none⟩)):=(tw.cell (p:=⟨w.heap.size,0,none⟩) Xn5 sP).trans HG1.out
 have p3:w2.cell? ⟨w.heap.size+1,0,none⟩=some (.int .i64 m0.fuel):=(tw.cell (p:=⟨w.heap.size+1,0,none⟩) sP sP).trans HG2.out
 have HP3:Hid (w2.cell? ⟨w.heap.size+1,0,none⟩=some (.int .i64 m0.fuel)):=p3
 have HROW:Hid (RowIn sb m0.nslots (fun _=>(0,nilV)) w2):=hrow
 have hsb1':w.heap.size+1+1<=sb:=by simpa using hsb1
 have q2:PAt B b mb m0 0 (vX3 m0.low (.slice none 0 0) vA (cacheV 0 0 0 0)) w2:=HQ0.out.other t2 sP sP HZ.out
 have HQ2:Hid (PAt B b mb m0 0 (vX3 m0.low (.slice none 0 0) vA (cacheV 0 0 0 0)) w2):=q2
 have THC:Hid (w2.there b 40 4):=fun j hj=>by
  obtain⟨u,hu⟩:=q2.there (40+j) oM
  exact⟨by rw[hu];rfl,q2.free _⟩
 clear ht2 hrow hsb1 q2 p3 hpm
 refine hK.out _ _ p2 (fun hHeld=> ?_)
 clear hK K
 try go_frame
 refine tkk 4 13 ?_
 refine tkk 5 14 ?_
 try go_frame
 refine rdy 6 (fun K hK=> ?_)
 refine wp_store_mid _ _ _ rfl b 40 #[Value.slice (some ⟨sb,0,none⟩) m0.nslots m0.nslots,Value.int .i64 m0.arena,Value.int .i64 0,Value.map (some (sb+1))] rfl rfl (by exact THC.out) info_ca oC ?_
 generalize h9:World.setCells _ b 40 (Array.toList #[Value.slice (some ⟨sb,0,none⟩) m0.nslots m0.nslots,Value.int .i64 m0.arena,Value.int .i64 0,Value.map (some (sb+1))])=w9
 have T9:Hid (ref.Touch [b] w2 w9):=by rw[<-h9];exact touch_setsP sP _ _ _ _ (ref.Touch.refl _ _)
 have P9:Hid (PW B w9.heap.size b mb sb m0 0 (.slice none 0 0) vA w9):=by
  have lw:w9.heap.size=w2.heap.size:=by rw[<-h9];exact setCells_size _ _ _ _
  have hbs:=HQ2.out.hb
  have hlb:b<w.heap.size:=lb
  have hlm:mb<w.heap.size:=lm
  rw[lw,<-h9]
  exact pw_cache B w2.heap.size b mb sb m0 vA w2 HQ2.out HZ.out hn0 hn64 HEV.out HSL.out HUS.out HBU.out (HAN.out.below (t2.below oM sP)) HPM.out HROW.out oM oM oM (by have:=t2.size;omega) (Nat.le_refl _)
 have p9:w9.cell? ⟨w.heap.size,0,none⟩=some (.pointer (some ⟨b,0,none⟩)):=(T9.out.cell (p:=⟨w.heap.size,0,none⟩) (World.block_lt_of_cell? _ _ p2) Xn5).trans p2
 clear h9
 refine hK.out _ _ p9 (fun hHeld9=> ?_)
 clear hK K
 try go_frame
 refine wpAnyH_done kR ?_ _
 go_wp2_with fail
 have lg0:w.heap.size+1<w2.heap.size:=World.block_lt_of_cell? _ _ HP3.out
 have l9:w2.heap.size<=w9.heap.size:=T9.out.size
 have hw2:w.heap.size<=w2.heap.size:=t2.size
 have tO:ref.Touch [] w9 (w9.alloc (.cells #[.int .i64 0] 28)):=(ref.Touch.refl _ _).alloc _
 have h3:=P9.out.quiet HZ.out tO
 have b9:Below B w w9:=(t2.below HBw.out sP).trans (T9.out.below (by have:=HBw.out;omega) (by have:=P9.out.p.hb;simpa using this))
 have hrb:=rb1_any B (w9.alloc (.cells #[.int .i64 0] 28)).heap.size b mb sb w.heap.size (w.heap.size+1) m0 0 (.slice none 0 0) vA (w9.alloc (.cells #[.int .i64 0] 28)) rfl
  ⟨h3.p,Nat.le_trans HBw.out (Nat.le_trans hw2 (Nat.le_trans l9 tO.size)),Nat.le_refl _,by rw[HEV.out];exact World.ownsRow_nil _ _ _ _,h3.ans,by simp[ref.sblk],h3.c,h3.hsb,h3.ls⟩ HMR.out hen HLO.out
  (by rw[World.cell?_alloc_past _ _ _ (by show w.heap.size<w9.heap.size;omega)];exact p9)
  (by rw[World.cell?_alloc_past _ _ _ (by show w.heap.size+1<w9.heap.size;omega),T9.out.cell (p:=⟨w.heap.size+1,0,none⟩) lg0 Xn5];exact HP3.out)
  (fun w' x t=>HTB.out w' x (b9.trans ((tO.below (by have:=b9.size;have:=HBw.out;omega) sP).trans (t.below (by have:=b9.size;have:=HBw.out;simp;omega) (by have:=P9.out.p.hb;have:=P9.out.p.hmb;have:=P9.out.hsb;simp;omega)))))
 have HO:Hid (_):=outcomeb_any w.heap.size (w.heap.size+1) w9 (fun o w'=>∃mF nx' vE' vA',o=mF.out/\BRun m0 mF/\mF.ended=true/\PW B (w9.heap.size+1) b mb sb mF nx' vE' vA' w'/\ref.Touch [b,mb,sb,sb+1] w9 w'/\w'.cell? ⟨w9.heap.size,0,none⟩=some (.int .i64 0)) (hrb.mono (by
  rintro e w' ⟨mF,nx',vE',vA',q1,q2,q3,q4,q5⟩
  have ls9:=P9.out.ls
  have lpp:sb+1<w9.heap.size:=(P9.out.c.mp oM).1.lt
  have nn:w9.heap.size∉[b,mb,sb,sb+1]:=by simp;omega
  have e1:w'.cell? ⟨w9.heap.size,0,none⟩=some (.int .i64 0):=(q4.cell (p:=⟨w9.heap.size,0,none⟩) sP nn).trans (World.cell?_alloc_at _ _ _ _ rfl)
  have e2:w'.frozen? ⟨w9.heap.size,0,none⟩=false:=(q4.frozen (p:=⟨w9.heap.size,0,none⟩) sP nn).trans (World.frozen?_alloc_at _ _ _ _ rfl)
  exact⟨mF.out,⟨mF,nx',vE',vA',rfl,q1,q2,by simpa using q3,(tO.mono sP).trans q4,e1⟩,e1,e2,q5⟩))
 have HB9:Hid (Below B w w9):=b9
 have TO2:Hid (ref.Touch [b] w w9):=(t2.mono sP).trans T9.out
 have LS9:Hid (sb<w9.heap.size/\w.heap.size+1+1<=sb):=⟨P9.out.ls,hsb1'⟩
 clear h3 hrb b9
 refine(Calls.mono HO.out ?_)
 rintro e w' ⟨o,w10,rfl,⟨mF,nx',vE',vA',rfl,q1,q2,q3,q4,q6⟩,q5⟩
 have HQ:Hid (BRun m0 mF/\mF.ended=true/\PW B (w9.heap.size+1) b mb sb mF nx' vE' vA' w10/\ref.Touch [b,mb,sb,sb+1] w9 w10/\w10.cell? ⟨w9.heap.size,0,none⟩=some (.int .i64 0)):=⟨q1,q2,q3,q4,q6⟩
 have HT5:Hid (ref.Touch [w9.heap.size] w10 w'):=q5
 clear q1 q2 q3 q4 q5 q6
 go_wp2_with fail
 go_ret
 obtain⟨r1,r2,r3,r4,r5⟩:=HQ.out
 have r6:=r3.late r1.good.pos HT5.out r5 (by have:=HBw.out;omega) oM oM (by have:=LS9.out.1;omega) (fun hc=>by have:=(ref.own_lt r3.evs _ hc).1;omega)
 refine⟨mF,nx',vE',vA',sb,by simp[go_sem],r1,r2,⟨r6.p,HBw.out,by have:=r4.size;have:=HT5.out.size;omega,ref.own_base r6.evs oM,r6.ans,r6.dE,r6.c,r6.hsb,r6.ls⟩, ?_⟩
 have tt:ref.Touch [b,mb] w w10:=tnew3 (TO2.out.mono sP) r4 LS9.out.2
 exact tnewP tt HT5.out Xn5
theorem run_err(pg:Int)(im:ByteArray)(ba en:Int)(vA:Value)(fu sl ar:Int)(ba0:0<=ba)(ba1:ba<=4294967295)(him:im.size<=1048576)(w:World)(oa:Option Addr)(na ca:Nat)(hvA:vA=.slice oa na ca)(hw:¬ref.wrong pg im ba fu sl ar true=0):
  Calls Tryz.prog 18 #[.agg #[.int .i64 pg,.string im,.int .u32 ba,.int .u32 en,vA,.int .i64 fu,.int .i64 sl,.int .i64 ar]] w fun e w'=>e=.returned (.tuple #[.agg ref.rep0,.int .i64 (ref.wrong pg im ba fu sl ar true)])/\Below w.heap.size w w':=by
 have HCK:Hid (∀w,_):=fun w=>checkb_any pg im ba en vA fu sl ar ba0 ba1 him w oa na ca hvA
 subst hvA
 obtain⟨er,her⟩:∃er,er=ref.wrong pg im ba fu sl ar true:=⟨_,rfl⟩
 rw[<-her]at HCK hw ⊢
 clear her
 go_enter Tryz.func18,Tryz.ntmps18
 go_wp2_with (first|(go_at_call 35;refine(Calls.mono (HCK.out _) ?_);rintro e w1 ⟨rfl,ht1⟩;have T1:Hid (ref.Touch [] ((w.alloc (.cells #[.int .i64 pg,.string im,.int .u32 ba,.int .u32 en,.slice oa na ca,.int .i64 fu,.int .i64 sl,.int .i64 ar] 25)).alloc (.cells ref.rep0 32)) w1):=ht1;have HTH:Hid (w1.there (w.heap.size+1) 0 39):=ref.there_of (ref.two_new w _ _) rfl (ht1.block (w.heap.size+1) sP sP);clear ht1)|(refine wpList_store_mid rF 32 (.tmp 2) (.tmp 11) rF (w.heap.size+1) 0 ref.rep0 rF rF HTH.out ref.info_rep ref.rep0_one ?_;generalize hw9:w1.setCells (w.heap.size+1) 0 ref.rep0.toList=w9;have H9:Hid (w1.setCells (w.heap.size+1) 0 ref.rep0.toList=w9):=hw9;clear hw9))
 refine bodyPost_ret (results_ct Tryz.results18 _ _ _ (w.heap.size+1) ref.rep0.toList rF _ (by rw[<-H9.out];exact World.rangeAt_setCells_same _ _ _ _ HTH.out) Tryz.underlying32 rfl ref.info_rep) rfl ?_
 refine⟨rfl, ?_⟩
 rw[<-H9.out]
 exact below_setCells oM _ _ _ (((((ref.Touch.refl _ _).alloc _).alloc _).trans T1.out).below (Nat.le_refl _) sP)
theorem run_ok(pg:Int)(im:ByteArray)(ba en:Int)(vA:Value)(fu sl ar:Int)(ba0:0<=ba)(ba1:ba<=4294967295)(him:im.size<=1048576)(w:World)(oa:Option Addr)(na ca:Nat)(hvA:vA=.slice oa na ca)(ans:List ByteArray)(ha:ref.AnsAt w.heap.size ans vA w)(en0:0<=en)(en1:en<=4294967295)(hw:ref.wrong pg im ba fu sl ar true=0)
  (hT:∀w' x,Below w.heap.size w w'->decodes.Tabs w' x):
  Calls Tryz.prog 18 #[.agg #[.int .i64 pg,.string im,.int .u32 ba,.int .u32 en,vA,.int .i64 fu,.int .i64 sl,.int .i64 ar]] w fun e w'=>∃m vE,e=.returned (.tuple #[.agg (repP m m.out vE),.int .i64 0])/\BRun (ref.start pg im ba en ans fu sl ar true) m/\m.ended=true/\w'.ownsRow w.heap.size 52 3 vE m.evs.length (ref.evCells m.evs)/\Below w.heap.size w w':=by
 have HCK:Hid (∀w,_):=fun w=>checkb_any pg im ba en vA fu sl ar ba0 ba1 him w oa na ca hvA
 rw[hw]at HCK
 subst hvA
 obtain⟨hbr,hwf,sl1,sl2⟩:=brun_start pg im ba en ans fu sl ar ba0 en0 en1 hw
 have HNW:Hid (∀w,ref.AnsAt w.heap.size ans (.slice oa na ca) w->_):=fun w ha=>newq_any pg im ba en (.slice oa na ca) fu sl ar ba0 ba1 him w oa na ca rfl en0 en1 hwf ans ha
 have HIN:Hid (∀(w2:World) (n:Nat) (_:PAt n (n+1+1) (n+1) (ref.start pg im ba en ans fu sl ar true) 0 (vX3 (ba+im.size) (.slice none 0 0) (.slice oa na ca) (cacheV 0 0 0 0)) w2) (_:ref.AnsAt n ans (.slice oa na ca) w2) (_:∀w' x,Below n w2 w'->decodes.Tabs w' x),Calls Tryz.prog 36 #[.pointer (some ⟨n+1+1,0,none⟩),.int .i64 fu,.int .i64 sl,.int .i64 ar] w2 fun e w'=>∃mF nx' vE' vA' sb,e=.returned (.int .i64 mF.out)/\BRun (ref.start pg im ba en ans fu sl ar true) mF/\mF.ended=true/\PW n w2.heap.size (n+1+1) (n+1) sb mF nx' vE' vA' w'/\ref.Touch [n+1+1,n+1] w2 w'):=fun w2 n h1 h2 h3=>by
  exact Xn1
 have HA:Hid (ref.AnsAt w.heap.size ans (.slice oa na ca) w):=ha
 have HTB:Hid (∀w' x,Below w.heap.size w w'->decodes.Tabs w' x):=hT
 clear ha hT hw hbr hwf
 go_enter Tryz.func18,Tryz.ntmps18
 go_wp2_with (first|(go_at_call 35;refine(Calls.mono (HCK.out _) ?_);rintro e w1 ⟨rfl,ht1⟩;have T1:Hid (ref.Touch [] ((w.alloc (.cells #[.int .i64 pg,.string im,.int .u32 ba,.int .u32 en,.slice oa na ca,.int .i64 fu,.int .i64 sl,.int .i64 ar] 25)).alloc (.cells ref.rep0 32)) w1):=ht1;have HTH:Hid (w1.there (w.heap.size+1) 0 39):=ref.there_of (ref.two_new w _ _) rfl (ht1.block (w.heap.size+1) sP sP);have s0:w1.cell? ⟨w.heap.size,0,none⟩=some (.int .i64 pg):=(ht1.cell (p:=⟨w.heap.size,0,none⟩) Xn5 sP).trans Xn2;have s1:w1.cell? ⟨w.heap.size,1,none⟩=some (.string im):=(ht1.cell (p:=⟨w.heap.size,1,none⟩) Xn5 sP).trans Xn2;have s2:w1.cell? ⟨w.heap.size,2,none⟩=some (.int .u32 ba):=(ht1.cell (p:=⟨w.heap.size,2,none⟩) Xn5 sP).trans Xn2;have s3:w1.cell? ⟨w.heap.size,3,none⟩=some (.int .u32 en):=(ht1.cell (p:=⟨w.heap.size,3,none⟩) Xn5 sP).trans Xn2;have s4:w1.cell? ⟨w.heap.size,4,none⟩=some (.slice oa na ca):=(ht1.cell (p:=⟨w.heap.size,4,none⟩) Xn5 sP).trans Xn2;have s5:w1.cell? ⟨w.heap.size,5,none⟩=some (.int .i64 fu):=(ht1.cell (p:=⟨w.heap.size,5,none⟩) Xn5 sP).trans Xn2;have s6:w1.cell? ⟨w.heap.size,6,none⟩=some (.int .i64 sl):=(ht1.cell (p:=⟨w.heap.size,6,none⟩) Xn5 sP).trans Xn2;have s7:w1.cell? ⟨w.heap.size,7,none⟩=some (.int .i64 ar):=(ht1.cell (p:=⟨w.heap.size,7,none⟩) Xn5 sP).trans Xn2;clear ht1)|(go_at_call 30;refine(Calls.mono (HNW.out _ (HA.out.mono2 ((((ref.Touch.refl _ _).alloc _).alloc _).trans T1.out) Xn4)) ?_);rintro e w2 ⟨rfl,hp2,ha2,hb2⟩;have P2:Hid (PAt w1.heap.size (w1.heap.size+1+1) (w1.heap.size+1) (ref.start pg im ba en ans fu sl ar true) 0 (vX3 (ba+im.size) (.slice none 0 0) (.slice oa na ca) (cacheV 0 0 0 0)) w2):=hp2.cong rfl rfl rfl rfl rfl rfl;have A2:Hid (ref.AnsAt w1.heap.size ans (.slice oa na ca) w2):=ha2;have B2:Hid (Below w1.heap.size w1 w2):=hb2;have hl1:w.heap.size+1+1<=w1.heap.size:=Xn4;have c25:w2.cell? ⟨w.heap.size,5,none⟩=some (.int .i64 fu):=(World.cell?_of_block (w:=w1) (a:=⟨w.heap.size,5,none⟩) (hb2.block w.heap.size oM)).trans s5;have c26:w2.cell? ⟨w.heap.size,6,none⟩=some (.int .i64 sl):=(World.cell?_of_block (w:=w1) (a:=⟨w.heap.size,6,none⟩) (hb2.block w.heap.size oM)).trans s6;have c27:w2.cell? ⟨w.heap.size,7,none⟩=some (.int .i64 ar):=(World.cell?_of_block (w:=w1) (a:=⟨w.heap.size,7,none⟩) (hb2.block w.heap.size oM)).trans s7;have HTH2:Hid (w2.there (w.heap.size+1) 0 39):=ref.there_below HTH.out dC hb2 oM;have BW2:Hid (Below w.heap.size w w2):=(((((ref.Touch.refl _ _).alloc _).alloc _).trans T1.out).below (Nat.le_refl _) sP).trans (hb2.mono oM);clear hp2 hb2 ha2)|(go_at_call 36;refine(Calls.mono (HIN.out w2 (w1.heap.size) P2.out A2.out (fun w' x t=>HTB.out w' x (BW2.out.trans (t.mono oM)))) ?_);rintro e w3 ⟨mF,nx3,vE3,vA3,sb3,rfl,q1,q2,q3,q4⟩;have HQ:Hid (BRun (ref.start pg im ba en ans fu sl ar true) mF/\mF.ended=true/\PW w1.heap.size w2.heap.size (w1.heap.size+1+1) (w1.heap.size+1) sb3 mF nx3 vE3 vA3 w3/\ref.Touch [w1.heap.size+1+1,w1.heap.size+1] w2 w3):=⟨q1,q2,q3,q4⟩;clear q1 q2 q3 q4)|(go_at_call 32;refine(Calls.mono (report_any HQ.out.2.2.1 HQ.out.1.good.pos HQ.out.1.good.fine (brun_bu HQ.out.1) mF.out) ?_);rintro e w4 ⟨rfl,ht4⟩;have T4:Hid (ref.Touch [] w3 w4):=ht4;have HTH4:Hid (w4.there (w.heap.size+1) 0 39):=there_t (there_t HTH2.out dC HQ.out.2.2.2 Xn5) dC ht4 sP;clear ht4)|(refine wpList_store_mid rF 32 (.tmp 2) (.tmp 25) rF (w.heap.size+1) 0 (repP mF mF.out vE3) rF rF HTH4.out ref.info_rep (repP_one mF _ _ (ref.own_one HQ.out.2.2.1.evs)) ?_;generalize hw9:w4.setCells (w.heap.size+1) 0 (repP mF mF.out vE3).toList=w9;have H9:Hid (w4.setCells (w.heap.size+1) 0 (repP mF mF.out vE3).toList=w9):=hw9;clear hw9))
 refine bodyPost_ret (results_ct Tryz.results18 _ _ _ (w.heap.size+1) (repP mF mF.out vE3).toList rF _ (by rw[<-H9.out];exact World.rangeAt_setCells_same _ _ _ _ HTH4.out) Tryz.underlying32 rfl ref.info_rep) rfl ?_
 have hq:=HQ.out.2.2.1
 have t9:ref.Touch [w.heap.size+1] w4 w9:=by rw[<-H9.out];exact touch_sets sP _ _ _ _ (ref.Touch.refl _ _)
 have l2:=BW2.out.size
 have l3:=HQ.out.2.2.2.size
 have l4:=T4.out.size
 have lw2:w1.heap.size<=w2.heap.size:=B2.out.size
 refine⟨mF,vE3,rfl,HQ.out.1,HQ.out.2.1, ?_, ?_⟩
 ·refine ref.own_base (ref.own_touch (ref.own_touch hq.evs T4.out sP) t9 (fun k hk=> ?_)) l2
  have:=(ref.own_lt hq.evs k hk).1
  simp;omega
 ·exact((BW2.out.trans (HQ.out.2.2.2.below l2 Xn5)).trans (T4.out.below oM sP)).trans (t9.below oM sP)
theorem PM.pcs {k:TypeId}{p:Nat}{l:List Blk}{w:World}(hk:Tryz.prog.underlying k=some (.int .u32))(h:PM Tryz.prog k p l w):∀c∈l,0<=c.pc/\c.pc<=4294967295:=by
 intro c hc
 obtain⟨es,e,hko⟩:=World.ownsMap.keysOf h
 unfold blkL at e
 injection e with e
 obtain⟨v,hv⟩:=hko (Lit.int .u32 c.pc,blkD c) (by rw[<-e];exact List.mem_map.2 ⟨c,hc,rfl⟩)
 obtain⟨y,_,hy,hl⟩:=Go.Maps.keyOf_int_inv hk hv
 simp only[Lit.int.injEq]at hy
 obtain⟨_,rfl⟩:=hy
 simp[Lit.wf,IntKind.min,IntKind.max,IntKind.signed,IntKind.bits]at hl
 omega
theorem mprof_any{B E b mb sb:Nat}{m:M}{nx:Int}{vE vA:Value}{w:World}(h:PW B E b mb sb m nx vE vA w)(hn:m.nslots≠0)(hl:m.blocks.length<=5000)(hs:m.blocks.Pairwise (fun a b=>a.pc<b.pc)):
  Calls Tryz.prog 37 #[.pointer (some ⟨b,0,none⟩)] w fun e w'=>∃v,e=.returned v/\w'.ownsRow w.heap.size 44 4 v m.blocks.length (ref.blkCells m.blocks)/\Below w.heap.size w w':=by
 have hp:=(h.c.mp hn).1
 have HC:Hid (Calls Tryz.prog 58 #[.map (some (sb+1))] w fun e w'=>∃v,e=.returned v/\w'.ownsRow w.heap.size 44 4 v m.blocks.length (ref.blkCells m.blocks)/\Below w.heap.size w w'):=so.list_any (sb+1) m.blocks w hp hl hs (PM.pcs Tryz.underlying22 hp)
 have c43:w.cell? ⟨b,43,none⟩=some (.map (some (sb+1))):=(h.p.cells 43 dC dC).trans (by show some (mapV m.nslots sb)=_;simp[mapV,hn])
 clear h hp hl hs
 go_enter Tryz.func37,Tryz.ntmps37
 go_wp2_with (first|(go_at_call 58;refine(Calls.mono HC.out ?_);rintro e9 w9 ⟨v,rfl,k1,k2⟩))
 go_ret
 exact⟨v,rfl,k1,k2⟩
theorem prof_err(pg:Int)(im:ByteArray)(ba en:Int)(vA:Value)(fu sl ar:Int)(ba0:0<=ba)(ba1:ba<=4294967295)(him:im.size<=1048576)(w:World)(oa:Option Addr)(na ca:Nat)(hvA:vA=.slice oa na ca)(hw:¬ref.wrong pg im ba fu sl ar true=0):
  Calls Tryz.prog 19 #[.agg #[.int .i64 pg,.string im,.int .u32 ba,.int .u32 en,vA,.int .i64 fu,.int .i64 sl,.int .i64 ar]] w fun e w'=>e=.returned (.tuple #[.slice none 0 0,.int .i64 (ref.wrong pg im ba fu sl ar true)])/\Below w.heap.size w w':=by
 have HCK:Hid (∀w,_):=fun w=>checkb_any pg im ba en vA fu sl ar ba0 ba1 him w oa na ca hvA
 subst hvA
 obtain⟨er,her⟩:∃er,er=ref.wrong pg im ba fu sl ar true:=⟨_,rfl⟩
 rw[<-her]at HCK hw ⊢
 clear her
 go_enter Tryz.func19,Tryz.ntmps19
 go_wp2_with (first|(go_at_call 35;refine(Calls.mono (HCK.out _) ?_);rintro e w1 ⟨rfl,ht1⟩;have T1:Hid (ref.Touch [] (w.alloc (.cells #[.int .i64 pg,.string im,.int .u32 ba,.int .u32 en,.slice oa na ca,.int .i64 fu,.int .i64 sl,.int .i64 ar] 25)) w1):=ht1;clear ht1))
 go_ret2
 exact⟨rfl,(((ref.Touch.refl _ _).alloc _).trans T1.out).below (Nat.le_refl _) sP⟩
theorem prof_ok(pg:Int)(im:ByteArray)(ba en:Int)(vA:Value)(fu sl ar:Int)(ba0:0<=ba)(ba1:ba<=4294967295)(him:im.size<=1048576)(w:World)(oa:Option Addr)(na ca:Nat)(hvA:vA=.slice oa na ca)(ans:List ByteArray)(ha:ref.AnsAt w.heap.size ans vA w)(en0:0<=en)(en1:en<=4294967295)(hw:ref.wrong pg im ba fu sl ar true=0)
  (hT:∀w' x,Below w.heap.size w w'->decodes.Tabs w' x):
  Calls Tryz.prog 19 #[.agg #[.int .i64 pg,.string im,.int .u32 ba,.int .u32 en,vA,.int .i64 fu,.int .i64 sl,.int .i64 ar]] w fun e w'=>∃m vB,e=.returned (.tuple #[vB,.int .i64 0])/\BRun (ref.start pg im ba en ans fu sl ar true) m/\m.ended=true/\w'.ownsRow w.heap.size 44 4 vB m.blocks.length (ref.blkCells m.blocks)/\Below w.heap.size w w':=by
 have HCK:Hid (∀w,_):=fun w=>checkb_any pg im ba en vA fu sl ar ba0 ba1 him w oa na ca hvA
 rw[hw]at HCK
 subst hvA
 obtain⟨hbr,hwf,sl1,sl2⟩:=brun_start pg im ba en ans fu sl ar ba0 en0 en1 hw
 have HNW:Hid (∀w,ref.AnsAt w.heap.size ans (.slice oa na ca) w->_):=fun w ha=>newq_any pg im ba en (.slice oa na ca) fu sl ar ba0 ba1 him w oa na ca rfl en0 en1 hwf ans ha
 have HIN:Hid (∀(w2:World) (n:Nat) (_:PAt n (n+1+1) (n+1) (ref.start pg im ba en ans fu sl ar true) 0 (vX3 (ba+im.size) (.slice none 0 0) (.slice oa na ca) (cacheV 0 0 0 0)) w2) (_:ref.AnsAt n ans (.slice oa na ca) w2) (_:∀w' x,Below n w2 w'->decodes.Tabs w' x),Calls Tryz.prog 36 #[.pointer (some ⟨n+1+1,0,none⟩),.int .i64 fu,.int .i64 sl,.int .i64 ar] w2 fun e w'=>∃mF nx' vE' vA' sb,e=.returned (.int .i64 mF.out)/\BRun (ref.start pg im ba en ans fu sl ar true) mF/\mF.ended=true/\PW n w2.heap.size (n+1+1) (n+1) sb mF nx' vE' vA' w'/\ref.Touch [n+1+1,n+1] w2 w'):=fun w2 n h1 h2 h3=>by
  exact Xn1
 have HA:Hid (ref.AnsAt w.heap.size ans (.slice oa na ca) w):=ha
 have HTB:Hid (∀w' x,Below w.heap.size w w'->decodes.Tabs w' x):=hT
 clear ha hT hw hbr hwf
 go_enter Tryz.func19,Tryz.ntmps19
 go_wp2_with (first|(go_at_call 35;refine(Calls.mono (HCK.out _) ?_);rintro e w1 ⟨rfl,ht1⟩;have T1:Hid (ref.Touch [] (w.alloc (.cells #[.int .i64 pg,.string im,.int .u32 ba,.int .u32 en,.slice oa na ca,.int .i64 fu,.int .i64 sl,.int .i64 ar] 25)) w1):=ht1;have s0:w1.cell? ⟨w.heap.size,0,none⟩=some (.int .i64 pg):=(ht1.cell (p:=⟨w.heap.size,0,none⟩) sP sP).trans Xn3;have s1:w1.cell? ⟨w.heap.size,1,none⟩=some (.string im):=(ht1.cell (p:=⟨w.heap.size,1,none⟩) sP sP).trans Xn3;have s2:w1.cell? ⟨w.heap.size,2,none⟩=some (.int .u32 ba):=(ht1.cell (p:=⟨w.heap.size,2,none⟩) sP sP).trans Xn3;have s3:w1.cell? ⟨w.heap.size,3,none⟩=some (.int .u32 en):=(ht1.cell (p:=⟨w.heap.size,3,none⟩) sP sP).trans Xn3;have s4:w1.cell? ⟨w.heap.size,4,none⟩=some (.slice oa na ca):=(ht1.cell (p:=⟨w.heap.size,4,none⟩) sP sP).trans Xn3;have s5:w1.cell? ⟨w.heap.size,5,none⟩=some (.int .i64 fu):=(ht1.cell (p:=⟨w.heap.size,5,none⟩) sP sP).trans Xn3;have s6:w1.cell? ⟨w.heap.size,6,none⟩=some (.int .i64 sl):=(ht1.cell (p:=⟨w.heap.size,6,none⟩) sP sP).trans Xn3;have s7:w1.cell? ⟨w.heap.size,7,none⟩=some (.int .i64 ar):=(ht1.cell (p:=⟨w.heap.size,7,none⟩) sP sP).trans Xn3;clear ht1)|(go_at_call 30;refine(Calls.mono (HNW.out _ (HA.out.mono2 (((ref.Touch.refl _ _).alloc _).trans T1.out) Xn4)) ?_);rintro e w2 ⟨rfl,hp2,ha2,hb2⟩;have P2:Hid (PAt w1.heap.size (w1.heap.size+1+1) (w1.heap.size+1) (ref.start pg im ba en ans fu sl ar true) 0 (vX3 (ba+im.size) (.slice none 0 0) (.slice oa na ca) (cacheV 0 0 0 0)) w2):=hp2.cong rfl rfl rfl rfl rfl rfl;have A2:Hid (ref.AnsAt w1.heap.size ans (.slice oa na ca) w2):=ha2;have B2:Hid (Below w1.heap.size w1 w2):=hb2;have hl1:w.heap.size+1<=w1.heap.size:=Xn4;have c25:w2.cell? ⟨w.heap.size,5,none⟩=some (.int .i64 fu):=(World.cell?_of_block (w:=w1) (a:=⟨w.heap.size,5,none⟩) (hb2.block w.heap.size oM)).trans s5;have c26:w2.cell? ⟨w.heap.size,6,none⟩=some (.int .i64 sl):=(World.cell?_of_block (w:=w1) (a:=⟨w.heap.size,6,none⟩) (hb2.block w.heap.size oM)).trans s6;have c27:w2.cell? ⟨w.heap.size,7,none⟩=some (.int .i64 ar):=(World.cell?_of_block (w:=w1) (a:=⟨w.heap.size,7,none⟩) (hb2.block w.heap.size oM)).trans s7;have BW2:Hid (Below w.heap.size w w2):=((((ref.Touch.refl _ _).alloc _).trans T1.out).below (Nat.le_refl _) sP).trans (hb2.mono oM);clear hp2 hb2 ha2)|(go_at_call 36;refine(Calls.mono (HIN.out w2 (w1.heap.size) P2.out A2.out (fun w' x t=>HTB.out w' x (BW2.out.trans (t.mono oM)))) ?_);rintro e w3 ⟨mF,nx3,vE3,vA3,sb3,rfl,q1,q2,q3,q4⟩;have HQ:Hid (BRun (ref.start pg im ba en ans fu sl ar true) mF/\mF.ended=true/\PW w1.heap.size w2.heap.size (w1.heap.size+1+1) (w1.heap.size+1) sb3 mF nx3 vE3 vA3 w3/\ref.Touch [w1.heap.size+1+1,w1.heap.size+1] w2 w3):=⟨q1,q2,q3,q4⟩;clear q1 q2 q3 q4)|(go_at_call 37;refine(Calls.mono (mprof_any HQ.out.2.2.1 (by have:=HQ.out.1.pos;omega) (by have:=HQ.out.1.bg.len;have:=HQ.out.1.good.fine.within;have:=HQ.out.1.good.fine.fuel;split at*<;>omega) HQ.out.1.bg.sorted) ?_);rintro e w4 ⟨vB,rfl,k1,k2⟩;have K4:Hid (w4.ownsRow w3.heap.size 44 4 vB mF.blocks.length (ref.blkCells mF.blocks)/\Below w3.heap.size w3 w4):=⟨k1,k2⟩;clear k1 k2))
 go_ret2
 have l2:=BW2.out.size
 have l3:=HQ.out.2.2.2.size
 have lw2:w1.heap.size<=w2.heap.size:=B2.out.size
 refine⟨mF,vB,rfl,HQ.out.1,HQ.out.2.1,ref.own_base K4.out.1 oM, ?_⟩
 exact(BW2.out.trans (HQ.out.2.2.2.below l2 Xn5)).trans (K4.out.2.mono oM)
end prog
end Go.Proofs.YtjikimpejlmdiaaGreatDoor

import Derived.Test.YtjikimpejlmdiaaGreatDoorZGp
import Derived.Test.YtjikimpejlmdiaaGreatDoorZGa
import Derived.Deep.MidRow
set_option maxHeartbeats 4000000
set_option linter.unusedVariables false
set_option linter.unusedSimpArgs false
set_option maxRecDepth 10000
namespace Go.Proofs.YtjikimpejlmdiaaGreatDoor
namespace ref
open ChangeShapes WideShapes ChangeAt RowKit nums dnums mach
theorem good_start(pg:Int)(im:ByteArray)(ba en:Int)(ans:List ByteArray)(fu sl ar:Int)(bl:Bool)(ba0:0<=ba)(en0:0<=en)(en1:en<=4294967295)(h:wrong pg im ba fu sl ar bl=0):MGood (start pg im ba en ans fu sl ar bl)/\1<=pg/\pg<=8/\(im.size:Int)<=pg*64/\ba<=pg*64-im.size/\0<=fu/\fu<=2000:=by
 unfold wrong at h
 by_cases c1:pg<1\/8<pg
 ·rw[if_pos c1]at h;omega
 rw[if_neg c1]at h
 by_cases c2:pg*64<im.size\/pg*64-im.size<ba
 ·rw[if_pos c2]at h;omega
 rw[if_neg c2]at h
 by_cases c3:fu<0\/2000<fu
 ·rw[if_pos c3]at h;omega
 refine⟨⟨⟨fun r=> ?_,rfl,put_bd _ (fun i=>⟨by decide,by decide⟩) _ _, ?_,⟨en0,en1⟩, ?_, ?_, ?_, ?_, ?_⟩, ?_, ?_, ?_⟩,by omega,by omega,by omega,by omega,by omega,by omega⟩
 ·show(0:Int)<=0/\(0:Int)<=4294967295;omega
 ·show(pg*64).toNat<=512;omega
 ·show 0<=ba+im.size/\ba+im.size<=4294967295;omega
 ·show 0<=ba+im.size/\ba+im.size<=(((pg*64).toNat:Nat):Int);omega
 ·show(0:Int)<=0;omega
 ·show 0<=fu/\fu<=2000;omega
 ·show 0<=fu;omega
 ·show 0<(pg*64).toNat;omega
 ·show((([]:List Ev).length:Nat):Int)<=0;simp
 ·show(0:Int)<=0/\(0:Int)<=4294967295;omega
theorem new_f(pg:Int)(im:ByteArray)(ba en:Int)(vA:Value)(fu sl ar:Int)(ba0:0<=ba)(ba1:ba<=4294967295)(him:im.size<=1048576)(w:World)(oa:Option Addr)(na ca:Nat)(hvA:vA=.slice oa na ca)(ans:List ByteArray)(ha:AnsAt w.heap.size ans vA w)(B:Nat)(hB:w.heap.size=B)(en0:0<=en)(en1:en<=4294967295)(hw:wrong pg im ba fu sl ar false=0):
  Calls Tryz.prog 33 #[.agg #[.int .i64 pg,.string im,.int .u32 ba,.int .u32 en,vA,.int .i64 fu,.int .i64 sl,.int .i64 ar],.bool false] w fun e w'=>e=.returned (.tuple #[.pointer (some ⟨B+1+1,0,none⟩),.int .i64 0])/\Whole B (B+1+1) (B+1) (start pg im ba en ans fu sl ar false) (.slice none 0 0) vA (.slice none 0 0) (.slice none 0 0) w'/\Below B w w':=by
 subst hB
 obtain⟨_,p0,p1,i0,i1,f0,f1⟩:=good_start pg im ba en ans fu sl ar false ba0 en0 en1 hw
 obtain⟨p,hp⟩:∃p:Nat,pg=p:=⟨pg.toNat,by omega⟩
 obtain⟨k,hk⟩:∃k:Nat,ba=k:=⟨ba.toNat,by omega⟩
 by_cases hks:p*64=k
 ·exact new_okn pg im ba en vA fu sl ar ba0 ba1 him w oa na ca hvA p hp oM oM k hk hks i0 i1 f0 f1 ans ha
 ·exact new_oky pg im ba en vA fu sl ar ba0 ba1 him w oa na ca hvA p hp oM oM k hk hks i0 i1 f0 f1 ans ha
theorem new_fe(pg:Int)(im:ByteArray)(ba en:Int)(vA:Value)(fu sl ar:Int)(ba0:0<=ba)(ba1:ba<=4294967295)(him:im.size<=1048576)(w:World)(hw:¬wrong pg im ba fu sl ar false=0):
  Calls Tryz.prog 33 #[.agg #[.int .i64 pg,.string im,.int .u32 ba,.int .u32 en,vA,.int .i64 fu,.int .i64 sl,.int .i64 ar],.bool false] w fun e w'=>e=.returned (.tuple #[.pointer none,.int .i64 (wrong pg im ba fu sl ar false)])/\Below w.heap.size w w':=by
 unfold wrong at hw ⊢
 by_cases c1:pg<1\/8<pg
 ·rw[if_pos c1]
  rcases c1 with c|c
  ·exact new_pg1f pg im ba en vA fu sl ar ba0 ba1 him w c
  ·exact new_pg2f pg im ba en vA fu sl ar ba0 ba1 him w c
 rw[if_neg c1]at hw ⊢
 by_cases c2:pg*64<im.size\/pg*64-im.size<ba
 ·rw[if_pos c2]
  by_cases c:pg*64<im.size
  ·exact new_im1f pg im ba en vA fu sl ar ba0 ba1 him w oM oM c
  ·exact new_im2f pg im ba en vA fu sl ar ba0 ba1 him w oM oM oM oM
 rw[if_neg c2]at hw ⊢
 by_cases c3:fu<0\/2000<fu
 ·rw[if_pos c3]
  by_cases c:fu<0
  ·exact new_fu1f pg im ba en vA fu sl ar ba0 ba1 him w oM oM oM oM c
  ·exact new_fu2f pg im ba en vA fu sl ar ba0 ba1 him w oM oM oM oM oM
 rw[if_neg c3]at hw
 exact absurd (if_neg (fun h=>by cases h.1)) hw
def msr (b:Nat) (w:World):Nat:=
 match w.cell? ⟨b,43,none⟩,w.cell? ⟨b,37,none⟩,w.cell? ⟨b,42,none⟩with
 |some (.bool false),some (.int _ s),some (.int _ f)=>(f-s).toNat+1
 |_,_,_=>0
theorem msr_at{B b mb:Nat}{m:M}{vE vA vS vB:Value}{w:World}(h:RefAt B b mb m vE vA vS vB w):msr b w=if m.ended then 0 else(m.fuel-m.steps).toNat+1:=by
 have h1:w.cell? ⟨b,43,none⟩=some (.bool m.ended):=h.cells 43 dC dC
 have h2:w.cell? ⟨b,37,none⟩=some (.int .i64 m.steps):=h.cells 37 dC dC
 have h3:w.cell? ⟨b,42,none⟩=some (.int .i64 m.fuel):=h.cells 42 dC dC
 unfold msr
 rw[h1,h2,h3]
 cases m.ended<;>rfl
end ref
namespace ref
open ChangeShapes WideShapes ChangeAt RowKit nums dnums mach
attribute [local go_sem ↓] Go.wp_at_zero Go.wp_at_succ
def repL (m:M) (vE:Value):List Value:=(List.range 39).map fun i=>if i=35 then .string (memD m.mem 0 m.size)else lay m vE (.slice none 0 0) (.slice none 0 0) (.slice none 0 0) i
def rep0:Array Value:=#[.int .i64 0,.int .u32 0,.int .u32 0,.int .u32 0,.int .u32 0,.int .u32 0,.int .u32 0,.int .u32 0,.int .u32 0,.int .u32 0,.int .u32 0,.int .u32 0,.int .u32 0,.int .u32 0,.int .u32 0,.int .u32 0,.int .u32 0,.int .u32 0,.int .u32 0,.int .u32 0,.int .u32 0,.int .u32 0,.int .u32 0,.int .u32 0,.int .u32 0,.int .u32 0,.int .u32 0,.int .u32 0,.int .u32 0,.int .u32 0,.int .u32 0,.int .u32 0,.int .u32 0,.int .u32 0,.int .u32 0,.string ⟨#[]⟩,.slice none 0 0,.int .i64 0,.int .i64 0]
theorem rep0_one:rep0.all (·.oneCell')=true:=by simp[rep0,Value.oneCell']
theorem repL_len(m:M)(vE:Value):(repL m vE).length=39:=by simp[repL]
theorem info_rep:(Tryz.prog.info? 32).map (·.size)=some 39:=by kernel_rfl
theorem own_base{w:World}{B B' e size n:Nat}{v:Value}{xs:List Value}(h:w.ownsRow B e size v n xs)(hb:B'<=B):w.ownsRow B' e size v n xs:=by
 refine⟨h.1, ?_⟩
 rcases h.2 with hn|⟨g,cap,cur,rfl,hb2,rest⟩
 ·exact .inl hn
 ·exact .inr ⟨g,cap,cur,rfl,Nat.le_trans hb hb2,rest⟩
theorem results_ctt{fn:Func}{p u v:Tmp}{ty:TypeId}(h:fn.results=#[.cell p ty,.tmp u,.tmp v])(tmps:Array Value)(P:Program)(w:World)(g:Nat)(cs:List Value)(hp:tmps.getD p undef=.pointer (some ⟨g,0,none⟩))(d:TypeDesc)(hc:w.rangeAt g 0 cs)(hu:P.underlying ty=some d)(hd:d.isRow=true)(hi:(P.info? ty).map (·.size)=some cs.length):
  (results fn tmps).run P w=.ok (.tuple #[.agg cs.toArray,tmps.getD u undef,tmps.getD v undef]) w:=by
 have:=run_loadVar_mid (P:=P) w g 0 ty cs d hc hu hd hi
 have hp2:tmps[p]?.getD undef=.pointer (some ⟨g,0,none⟩):=by simpa using hp
 simp only[results,h]
 simp[Sem.run_bind,Result.andThen,hp2,asAddr,this]
theorem two_new(w:World)(o1 o2:Obj):((w.alloc o1).alloc o2).heap[w.heap.size+1]?=some o2:=by
 have:=heap_alloc_new (w.alloc o1) o2
 rwa [show(w.alloc o1).heap.size=w.heap.size+1 from by simp]at this
theorem there_of{w w':World}{g n:Nat}{cs:Array Value}{t:TypeId}(h:w.heap[g]?=some (.cells cs t (0,0)))(hn:cs.size=n)(hk:w'.heap[g]?=w.heap[g]?):w'.there g 0 n:=fun j hj=>by
 rw[h]at hk
 refine⟨?_, ?_⟩
 ·rw[cell_of_row w' g (0+j) cs t (0,0) hk];simp;omega
 ·unfold World.frozen?;simp[hk]
theorem play_err(pg:Int)(im:ByteArray)(ba en:Int)(vA:Value)(fu sl ar:Int)(ba0:0<=ba)(ba1:ba<=4294967295)(him:im.size<=1048576)(w:World)(oa:Option Addr)(na ca:Nat)(hvA:vA=.slice oa na ca)(hw:¬wrong pg im ba fu sl ar false=0):
  Calls Tryz.prog 15 #[.agg #[.int .i64 pg,.string im,.int .u32 ba,.int .u32 en,vA,.int .i64 fu,.int .i64 sl,.int .i64 ar],.bool false] w fun e w'=>e=.returned (.tuple #[.agg rep0,.slice none 0 0,.int .i64 (wrong pg im ba fu sl ar false)])/\Below w.heap.size w w':=by
 subst hvA
 have HNE:Hid (∀w,_):=fun w=>new_fe pg im ba en (.slice oa na ca) fu sl ar ba0 ba1 him w hw
 obtain⟨er,her⟩:∃er,er=wrong pg im ba fu sl ar false:=⟨_,rfl⟩
 rw[<-her]at HNE hw ⊢
 clear her
 go_enter Tryz.func15,Tryz.ntmps15
 go_wp2_with (first|(go_at_call 33;refine(HNE.out _).mono ?_;rintro e w1 ⟨rfl,hbel⟩;have HT:Hid (w1.there (w.heap.size+1) 0 39):=there_of (two_new w _ _) rfl (hbel.block (w.heap.size+1) sP);have HB:Hid (Below w.heap.size w w1):=(((Below.refl _ _).alloc sP _).alloc sP _).trans (hbel.mono (by simp;omega));clear hbel)|(refine wpList_store_mid rF 32 (.tmp 4) (.tmp 17) rF (w.heap.size+1) 0 rep0 rF rF HT.out info_rep rep0_one ?_;generalize hw2:w1.setCells (w.heap.size+1) 0 rep0.toList=w2;have H2:Hid (w1.setCells (w.heap.size+1) 0 rep0.toList=w2):=hw2;clear hw2))
 refine bodyPost_ret (results_ctt Tryz.results15 _ _ _ (w.heap.size+1) rep0.toList rF _ (by rw[<-H2.out];exact World.rangeAt_setCells_same _ _ _ _ HT.out) Tryz.underlying32 rfl info_rep) rfl ?_
 refine⟨rfl, ?_⟩
 rw[<-H2.out]
 exact below_setCells oM _ _ _ HB.out
theorem mrun_start(pg:Int)(im:ByteArray)(ba en:Int)(ans:List ByteArray)(fu sl ar:Int)(ba0:0<=ba)(en0:0<=en)(en1:en<=4294967295)(h:wrong pg im ba fu sl ar false=0):MRun (start pg im ba en ans fu sl ar false) (start pg im ba en ans fu sl ar false):=
 ⟨(good_start pg im ba en ans fu sl ar false ba0 en0 en1 h).1,rfl,Int.le_refl _,fun _=>Int.le_refl _,⟨0,rfl⟩,rfl,rfl⟩
theorem lay_lt(m:M)(vE vA vS vB:Value)(j:Nat)(hj:j<39):lay m vE vA vS vB j=lay m vE (.slice none 0 0) (.slice none 0 0) (.slice none 0 0) j:=by
 by_cases h1:j<34
 ·by_cases h2:j=0
  ·subst h2;rfl
  ·by_cases h3:j=1
   ·subst h3;rfl
   ·simp[lay,h1,h2,h3]
 ·have:j=34\/j=35\/j=36\/j=37\/j=38:=by omega
  rcases this with rfl|rfl|rfl|rfl|rfl<;>rfl
theorem there_below{w w':World}{B g n:Nat}(h:w.there g 0 n)(hn:0<n)(hb:Below B w w')(hg:g<B):w'.there g 0 n:=fun j hj=>by
 obtain⟨h1,h2⟩:=h j hj
 have e:=hb.block g hg
 exact⟨by rw[World.cell?_of_block (w:=w) (a:=⟨g,0+j,none⟩) e];exact h1,by rw[World.frozen?_of_block (w:=w) (a:=⟨g,0+j,none⟩) e];exact h2⟩
theorem there_set{w:World}{g n:Nat}(h:w.there g 0 n)(a:Addr)(v:Value)(ha:a.block≠g):(w.setCell a v).there g 0 n:=fun j hj=>by
 obtain⟨h1,h2⟩:=h j hj
 exact⟨by rw[World.cell?_setCell_other _ _ _ _ (by intro e;exact ha (by rw[e]))];exact h1,by rw[World.frozen?_setCell];exact h2⟩
theorem rep_range{B b mb:Nat}{m:M}{vE vA vS vB:Value}{w:World}(h:RefAt B b mb m vE vA vS vB w)(hm:∀i,0<=m.mem i/\m.mem i<=255):(w.setCell ⟨b,35,none⟩ (.string (memD m.mem 0 m.size))).rangeAt b 0 (repL m vE):=by
 intro j v hv
 rw[Nat.zero_add]
 have hj:j<39:=by have:=(List.getElem?_eq_some_iff.1 hv).1;rwa [repL_len]at this
 have e:v=if j=35 then .string (memD m.mem 0 m.size)else lay m vE (.slice none 0 0) (.slice none 0 0) (.slice none 0 0) j:=by
  simp[repL,hj]at hv;exact hv.symm
 by_cases k:j=35
 ·subst k
  obtain⟨u,hu⟩:=h.there 35 dC
  rw[World.cell?_setCell_same _ _ _ hu,e,if_pos rfl]
 ·rw[World.cell?_setCell_other _ _ _ _ (by intro x;injection x with _ x;omega),h.cells j oM oM,e,if_neg k]
  rw[lay_lt m vE vA vS vB j hj]
theorem repL_one(m:M)(vE:Value)(h:vE.oneCell'=true):∀v∈repL m vE,v.oneCell'=true:=by
 intro v hv
 simp[repL,List.range,List.range.loop,lay]at hv
 rcases hv with rfl|rfl|rfl|rfl|rfl|rfl|rfl|rfl|rfl|rfl|rfl|rfl|rfl|rfl|rfl|rfl|rfl|rfl|rfl|rfl|rfl|rfl|rfl|rfl|rfl|rfl|rfl|rfl|rfl|rfl|rfl|rfl|rfl|rfl|rfl|rfl|rfl|rfl|rfl<;>first|rfl|exact h
theorem own_slice{w:World}{base e size n:Nat}{v:Value}{xs:List Value}(h:w.ownsRow base e size v n xs):∃o k c,v=.slice o k c:=by
 rcases h.2 with⟨rfl,_⟩|⟨g,cap,cur,rfl,_⟩
 ·exact⟨_,_,_,rfl⟩
 ·exact⟨_,_,_,rfl⟩
theorem own_one{w:World}{base e size n:Nat}{v:Value}{xs:List Value}(h:w.ownsRow base e size v n xs):v.oneCell'=true:=by
 rcases h.2 with⟨rfl,_⟩|⟨g,cap,cur,rfl,_⟩<;>rfl
theorem play_ok(pg:Int)(im:ByteArray)(ba en:Int)(vA:Value)(fu sl ar:Int)(ba0:0<=ba)(ba1:ba<=4294967295)(him:im.size<=1048576)(w:World)(oa:Option Addr)(na ca:Nat)(hvA:vA=.slice oa na ca)(ans:List ByteArray)(ha:AnsAt w.heap.size ans vA w)(en0:0<=en)(en1:en<=4294967295)(hw:wrong pg im ba fu sl ar false=0):
  Calls Tryz.prog 15 #[.agg #[.int .i64 pg,.string im,.int .u32 ba,.int .u32 en,vA,.int .i64 fu,.int .i64 sl,.int .i64 ar],.bool false] w fun e w'=>∃m vE,e=.returned (.tuple #[.agg (repL m vE).toArray,.slice none 0 0,.int .i64 0])/\MRun (start pg im ba en ans fu sl ar false) m/\m.ended=true/\w'.ownsRow w.heap.size 52 3 vE m.evs.length (evCells m.evs)/\Below w.heap.size w w':=by
 subst hvA
 have HMR:Hid (MRun (start pg im ba en ans fu sl ar false) (start pg im ba en ans fu sl ar false)):=mrun_start pg im ba en ans fu sl ar ba0 en0 en1 hw
 have HNW:Hid (∀w,AnsAt w.heap.size ans (.slice oa na ca) w->∀B,w.heap.size=B->_):=fun w ha B hB=>new_f pg im ba en (.slice oa na ca) fu sl ar ba0 ba1 him w oa na ca rfl ans ha B hB en0 en1 hw
 have HA:Hid (AnsAt w.heap.size ans (.slice oa na ca) w):=ha
 clear ha hw
 go_enter Tryz.func15,Tryz.ntmps15
 go_wp2_with fail
 refine Calls.mono (HNW.out _ (HA.out.mono2 (((Touch.refl _ _).alloc _).alloc _) fS) (w.heap.size+1+1) sP) ?_
 rintro e w1 ⟨rfl,hwh,hbel⟩
 have hlt1:w.heap.size+1+1<=w1.heap.size:=by have:=hbel.size;simp at this;omega
 have HT:Hid (w1.there (w.heap.size+1) 0 39):=there_of (two_new w _ _) rfl (hbel.block (w.heap.size+1) oM)
 have HB:Hid (Below w.heap.size w w1):=(((Below.refl _ _).alloc sP _).alloc sP _).trans (hbel.mono oM)
 have HW:Hid (Whole (w.heap.size+1+1) (w.heap.size+1+1+1+1) (w.heap.size+1+1+1) (start pg im ba en ans fu sl ar false) (.slice none 0 0) (.slice oa na ca) (.slice none 0 0) (.slice none 0 0) w1):=hwh
 clear hbel hwh
 go_wp2_with fail
 go_loopw [] (fun wr=>∃m vE vA',Whole (w.heap.size+1+1) (w.heap.size+1+1+1+1) (w.heap.size+1+1+1) m vE vA' (.slice none 0 0) (.slice none 0 0) wr/\MRun (start pg im ba en ans fu sl ar false) m/\Below (w.heap.size+1+1) w1 wr) (fun wr=>msr (w.heap.size+1+1+1+1) wr)
 case atStart=>exact⟨_,_,_,HW.out,HMR.out,Below.refl _ _⟩
 case round=>
  obtain⟨m,vE,vA',hwm,hmr,hbr⟩:=hrel
  have c43:wr.cell? ⟨(w.heap.size+1+1+1+1),43,none⟩=some (.bool m.ended):=hwm.ref.cells 43 dC dC
  have HWm:Hid (Whole (w.heap.size+1+1) (w.heap.size+1+1+1+1) (w.heap.size+1+1+1) m vE vA' (.slice none 0 0) (.slice none 0 0) wr):=hwm
  have HMr:Hid (MRun (start pg im ba en ans fu sl ar false) m):=hmr
  have HBr:Hid (Below (w.heap.size+1+1) w1 wr):=hbr
  cases hen:m.ended with
  |false=>
   rw[hen]at c43
   have HE:Hid (m.ended=false):=hen
   clear hwm hmr hbr hen
   go_wp2_with fail
   refine(step1_any HWm.out HMr.out.good HE.out HMr.out.done0 (HMr.out.done1 HE.out) HMr.out.ns).mono ?_
   rintro e w2 ⟨rfl,vE2,vA2,q1,q2⟩
   have HQ:Hid (Whole (w.heap.size+1+1) (w.heap.size+1+1+1+1) (w.heap.size+1+1+1) (mach.step m) vE2 vA2 (.slice none 0 0) (.slice none 0 0) w2/\Below (w.heap.size+1+1) wr w2):=⟨q1,q2⟩
   clear q1 q2
   go_wp2_with fail
   go_roundw
   case rel=>exact⟨_,vE2,vA2,HQ.out.1,(HMr.out.step HE.out).1,HBr.out.trans HQ.out.2⟩
   case measure=>
    have h2:=(HMr.out.step HE.out).2
    have h3:=(HMr.out.step HE.out).1.fuel.trans HMr.out.fuel.symm
    show msr (w.heap.size+1+1+1+1) w2<msr (w.heap.size+1+1+1+1) wr
    rw[msr_at HQ.out.1.ref,msr_at HWm.out.ref,HE.out]
    rcases h2 with h2|⟨h2,h4⟩
    ·rw[h2];simp
    ·by_cases k:(mach.step m).ended=true
     ·rw[k];simp
     ·rw[if_neg k,if_neg dC,h2,h3];omega
  |true=>
   rw[hen]at c43
   have HE:Hid (m.ended=true):=hen
   obtain⟨oE,nE,cE,hvE⟩:=own_slice hwm.evs
   subst hvE
   have cv:(convert 74 9 (.slice (some ⟨w.heap.size+1+1+1,0,none⟩) m.size m.size)).run Tryz.prog wr=.ok (.string (memD m.mem 0 m.size)) wr:=conv_mem hwm.ref hmr.good.fine.mem 0 m.size m.size oM
   have c39:=hwm.ref.data
   obtain⟨u35,c35⟩:=hwm.ref.there 35 dC
   have f35:=hwm.ref.free 35
   clear hwm hmr hbr hen
   go_wp2_with fail
   generalize h6:wr.setCell ⟨(w.heap.size+1+1+1+1),35,none⟩ (.string (memD m.mem 0 m.size))=w6
   obtain⟨cs,hcs⟩:∃cs,cs=repL m (.slice oE nE cE):=⟨_,rfl⟩
   have hcl:cs.length=39:=by rw[hcs];exact repL_len m _
   have hrg:w6.rangeAt (w.heap.size+1+1+1+1) 0 cs:=by rw[<-h6,hcs];exact rep_range HWm.out.ref HMr.out.good.fine.mem
   have hth:w6.there (w.heap.size+1) 0 39:=by rw[<-h6];exact there_set (there_below HT.out dC HBr.out oM) _ _ (by show w.heap.size+1+1+1+1≠w.heap.size+1;omega)
   have c50:w6.cell? ⟨(w.heap.size+1+1+1+1),50,none⟩=some (.slice none 0 0):=by rw[<-h6,World.cell?_setCell_other _ _ _ _ sP];exact HWm.out.ref.cells 50 dC dC
   have l6:(w.heap.size+1+1+1+1)<w6.heap.size:=World.block_lt_of_cell? _ _ c50
   have hi:(Tryz.prog.info? 32).map (·.size)=some cs.length:=by rw[hcl];exact info_rep
   have h1c:∀v∈cs,v.oneCell'=true:=by rw[hcs];exact repL_one m _ rfl
   have H6:Hid (wr.setCell ⟨(w.heap.size+1+1+1+1),35,none⟩ (.string (memD m.mem 0 m.size))=w6):=h6
   have HCS:Hid (cs=repL m (.slice oE nE cE)):=hcs
   have hKS:∀w',Touch [w.heap.size+1] w6 w'->w'.cell? ⟨(w.heap.size+1+1+1+1),50,none⟩=some (.slice none 0 0):=fun w' t=>(t.cell (p:=⟨(w.heap.size+1+1+1+1),50,none⟩) l6 (by simp;omega)).trans c50
   have HKS:Hid (∀w',Touch [w.heap.size+1] w6 w'->w'.cell? ⟨(w.heap.size+1+1+1+1),50,none⟩=some (.slice none 0 0)):=hKS
   clear h6 hcs cv c35 f35 c39 c43 hKS
   refine wp_region_held_drew (S:=fun w'=>w'.rangeAt (w.heap.size+1+1+1+1) 0 cs/\w'.cell? ⟨(w.heap.size+1+1+1+1),50,none⟩=some (.slice none 0 0)) kR ⟨hrg,c50⟩ (fun hHeld=> ?_)
   refine wpAnyH_take (i:=0) (oi:=⟨some 35,_,_,_,_,_⟩) (v:=(.pointer (some ⟨(w.heap.size+1+1+1+1),0,none⟩))) rfl kR kR kR (fun _ _ _ h=>h) (Or.inl ⟨by rfl, ?hy0⟩) aS ?rest0
   case hy0=>intro w' hSw;(try dsimp only at hSw);go_simp
   try simp only[Act.put,List.setIfInBounds_toArray,List.set_cons_zero,List.set_cons_succ]
   refine wpAnyH_take (i:=1) (oi:=⟨some 36,_,_,_,_,_⟩) (v:=(.pointer (some ⟨(w.heap.size+1+1+1+1),0,none⟩))) rfl kR kR kR (fun _ _ _ h=>h) (Or.inl ⟨by rfl, ?hy1⟩) aS ?rest1
   case hy1=>intro w' hSw;(try dsimp only at hSw);go_simp
   try simp only[Act.put,List.setIfInBounds_toArray,List.set_cons_zero,List.set_cons_succ]
   refine wpAnyH_take (i:=2) (oi:=⟨some 37,_,_,_,_,_⟩) (v:=(.pointer (some ⟨(w.heap.size+1+1+1+1),0,none⟩))) rfl kR kR kR (fun _ _ _ h=>h) (Or.inl ⟨by rfl, ?hy2⟩) aS ?rest2
   case hy2=>intro w' hSw;(try dsimp only at hSw);go_simp
   try simp only[Act.put,List.setIfInBounds_toArray,List.set_cons_zero,List.set_cons_succ]
   refine wpAnyH_take (i:=3) (oi:=⟨some 38,_,_,_,_,_⟩) (v:=.agg cs.toArray) rfl kR kR kR (fun _ _ _ h=>h) (yieldsIf_load_mid rF _ _ rfl (w.heap.size+1+1+1+1) 0 rfl cs _ (fun w' hSw=>hSw.1) Tryz.underlying32 rfl hi) aS ?rest3
   try simp only[Act.put,List.setIfInBounds_toArray,List.set_cons_zero,List.set_cons_succ]
   refine wpAnyH_take (i:=4) (oi:=⟨some 39,_,_,_,_,_⟩) (v:=(.pointer (some ⟨(w.heap.size+1+1+1+1),0,none⟩))) rfl kR kR kR (fun _ _ _ h=>h) (Or.inl ⟨by rfl, ?hy4⟩) aS ?rest4
   case hy4=>intro w' hSw;(try dsimp only at hSw);go_simp
   try simp only[Act.put,List.setIfInBounds_toArray,List.set_cons_zero,List.set_cons_succ]
   refine wpAnyH_take (i:=5) (oi:=⟨some 40,_,_,_,_,_⟩) (v:=(.pointer (some ⟨(w.heap.size+1+1+1+1),0,none⟩))) rfl kR kR kR (fun _ _ _ h=>h) (Or.inl ⟨by rfl, ?hy5⟩) aS ?rest5
   case hy5=>intro w' hSw;(try dsimp only at hSw);go_simp
   try simp only[Act.put,List.setIfInBounds_toArray,List.set_cons_zero,List.set_cons_succ]
   refine wpAnyH_take (i:=6) (oi:=⟨some 41,_,_,_,_,_⟩) (v:=(.pointer (some ⟨(w.heap.size+1+1+1+1),50,none⟩))) rfl kR kR kR (fun _ _ _ h=>h) (Or.inl ⟨by rfl, ?hy6⟩) aS ?rest6
   case hy6=>intro w' hSw;(try dsimp only at hSw);go_simp
   try simp only[Act.put,List.setIfInBounds_toArray,List.set_cons_zero,List.set_cons_succ]
   refine wpAnyH_take (i:=7) (oi:=⟨some 42,_,_,_,_,_⟩) (v:=(.slice none 0 0)) rfl kR kR kR (fun _ _ _ h=>h) (Or.inl ⟨by rfl, ?hy7⟩) aS ?rest7
   case hy7=>intro w' hSw;(try dsimp only at hSw);go_simp
   try simp only[Act.put,List.setIfInBounds_toArray,List.set_cons_zero,List.set_cons_succ]
   refine wpAnyH_ready (rs:=[8]) kR sP ?_
   refine AllReadyH.cons (o:=⟨none,_,_,_,_,_⟩) rfl (fun K hK=> ?_) AllReadyH.nil
   rw[if_pos rF]
   refine wp_store_mid _ _ _ rfl (w.heap.size+1) 0 cs.toArray rfl rfl (by simp only[List.size_toArray,hcl];exact hth) (by simp only[List.size_toArray];exact hi) (all_oneCell_toArray h1c) ?_
   generalize h9:w6.drew.setCells (w.heap.size+1) 0 cs.toArray.toList=w9
   have t9:Touch [w.heap.size+1] w6 w9:=by rw[<-h9];exact touch_setCells sP _ _ _ _ (Touch.refl _ _).drew
   have r9:w9.rangeAt (w.heap.size+1) 0 cs:=by rw[<-h9,List.toList_toArray];exact World.rangeAt_setCells_same _ _ _ _ (by rw[hcl];exact hth)
   have hS9:w9.rangeAt (w.heap.size+1+1+1+1) 0 cs/\w9.cell? ⟨(w.heap.size+1+1+1+1),50,none⟩=some (.slice none 0 0):=⟨by rw[<-h9];exact World.rangeAt_setCells_apart ((World.rangeAt_drew _ _ _ _).2 hrg) _ _ _ (Or.inl oM),HKS.out w9 t9⟩
   clear h9
   refine hK.out _ _ hS9 (fun hHeld9=> ?_)
   clear hK K
   try simp only[Act.put,List.setIfInBounds_toArray,List.set_cons_zero,List.set_cons_succ]
   refine wpAnyH_take (i:=9) (oi:=⟨some 5,_,_,_,_,_⟩) (v:=(.slice none 0 0)) rfl kR kR kR (fun _ _ _ h=>h) (Or.inl ⟨by rfl, ?hy9⟩) aS ?rest9
   case hy9=>intro w' hSw;(try dsimp only at hSw);go_simp
   try simp only[Act.put,List.setIfInBounds_toArray,List.set_cons_zero,List.set_cons_succ]
   refine wpAnyH_take (i:=10) (oi:=⟨some 6,_,_,_,_,_⟩) (v:=(.int .i64 0)) rfl kR kR kR (fun _ _ _ h=>h) (Or.inl ⟨by rfl, ?hy10⟩) aS ?rest10
   case hy10=>intro w' hSw;(try dsimp only at hSw);go_simp
   try simp only[Act.put,List.setIfInBounds_toArray,List.set_cons_zero,List.set_cons_succ]
   refine wpAnyH_done kR ?_ _
   have T9:Hid (Touch [w.heap.size+1] w6 w9):=t9
   have R9:Hid (w9.rangeAt (w.heap.size+1) 0 cs):=r9
   clear t9 r9 hS9 hHeld9 hHeld hrg hth c50
   go_wp2_with fail
   refine bodyPost_ret (results_ctt Tryz.results15 _ _ _ (w.heap.size+1) cs rF _ R9.out Tryz.underlying32 rfl hi) rfl ?_
   have t6:Touch [(w.heap.size+1+1+1+1)] wr w6:=by rw[<-H6.out];exact(Touch.refl _ _).setCell sP _
   have lw:w.heap.size+1+1<=wr.heap.size:=Nat.le_trans hlt1 HBr.out.size
   refine⟨m,.slice oE nE cE,by rw[<-HCS.out];rfl,HMr.out,HE.out, ?_, ?_⟩
   ·refine own_base (own_touch (own_touch HWm.out.evs t6 (fun k hk=>by have:=(HWm.out.dE k hk).1;simpa using this)) T9.out (fun k hk=> ?_)) (by omega:w.heap.size<=w.heap.size+1+1)
    have:=(own_lt HWm.out.evs k hk).1
    simp;omega
   ·exact(HB.out.trans ((HBr.out.mono oM).trans ((t6.below oM (by simp;omega)).trans (T9.out.below (Nat.le_trans (by omega:w.heap.size<=wr.heap.size) t6.size) sP))))
end ref
end Go.Proofs.YtjikimpejlmdiaaGreatDoor

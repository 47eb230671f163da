import Derived.Test.YtjikimpejlmdiaaGreatDoorZLxG
import Derived.Test.YtjikimpejlmdiaaGreatDoorCards
import Derived.Test.YtjikimpejlmdiaaGreatDoorTie
import Derived.WalkKit
import Derived.ProofKit
import Derived.OpenShut
import Derived.Below
import Derived.Carry
import Derived.SliceStrings
import Derived.Deep.DeepHandedRow
import Derived.Stop.LaidErr
import Derived.Lib.LaidTab
set_option maxHeartbeats 4000000
set_option linter.unusedVariables false
set_option linter.unusedSimpArgs false
set_option maxRecDepth 10000
namespace Go.Proofs.YtjikimpejlmdiaaGreatDoor
theorem X00{p:Prop}(h:p:=by
 unfold at8
 rcases f3_all x with e|e|e|e|e|e|e|e<;>rw[e]<;>decide):p:=h
theorem X01{p:Prop}(h:p:=by exact(show Tryz.prog.wantsStandIn 22=false by kernel_rfl)):p:=h
namespace law.all
open law ChangeShapes WideShapes ChangeAt RowKit nums dnums mach
theorem own:ownKnob Tryz.prog.godebug=none:=by kernel_rfl
theorem laidOut:laidOutB Tryz.prog=true:=by kernel_rfl
theorem cellsA:Tryz.prog.cellsOf 137=8:=by kernel_rfl
theorem cellsO:Tryz.prog.cellsOf 59=1:=by kernel_rfl
theorem cellsS:Tryz.prog.cellsOf 9=1:=by kernel_rfl
theorem cellsI:Tryz.prog.cellsOf 3=1:=by kernel_rfl
theorem cellsU:Tryz.prog.cellsOf 22=1:=by kernel_rfl
theorem cellsR:Tryz.prog.cellsOf 23=1:=by kernel_rfl
theorem cellsT:Tryz.prog.cellsOf 25=8:=by kernel_rfl
theorem g_branches:Tryz.prog.globalNamed "chains/decode.branches" =some 0:=by kernel_rfl
theorem y_branches:(Tryz.prog.globals[0]?).map (·.type)=some 137:=by kernel_rfl
theorem at_T63(x:Int):T63.getD (f3 x).toNat 0=at8 T63 x/\(f3 x).toNat<T63.length:=by
 exact X00
theorem g_loads:Tryz.prog.globalNamed "chains/decode.loads" =some 1:=by kernel_rfl
theorem y_loads:(Tryz.prog.globals[1]?).map (·.type)=some 137:=by kernel_rfl
theorem at_T03(x:Int):T03.getD (f3 x).toNat 0=at8 T03 x/\(f3 x).toNat<T03.length:=by
 exact X00
theorem g_stores:Tryz.prog.globalNamed "chains/decode.stores" =some 2:=by kernel_rfl
theorem y_stores:(Tryz.prog.globals[2]?).map (·.type)=some 137:=by kernel_rfl
theorem at_T23(x:Int):T23.getD (f3 x).toNat 0=at8 T23 x/\(f3 x).toNat<T23.length:=by
 exact X00
theorem g_immediates:Tryz.prog.globalNamed "chains/decode.immediates" =some 3:=by kernel_rfl
theorem y_immediates:(Tryz.prog.globals[3]?).map (·.type)=some 137:=by kernel_rfl
theorem at_T13(x:Int):T13.getD (f3 x).toNat 0=at8 T13 x/\(f3 x).toNat<T13.length:=by
 exact X00
theorem g_plain:Tryz.prog.globalNamed "chains/decode.plain" =some 4:=by kernel_rfl
theorem y_plain:(Tryz.prog.globals[4]?).map (·.type)=some 137:=by kernel_rfl
theorem at_T330(x:Int):T330.getD (f3 x).toNat 0=at8 T330 x/\(f3 x).toNat<T330.length:=by
 exact X00
theorem g_opposite:Tryz.prog.globalNamed "chains/decode.opposite" =some 5:=by kernel_rfl
theorem y_opposite:(Tryz.prog.globals[5]?).map (·.type)=some 137:=by kernel_rfl
theorem at_T3320(x:Int):T3320.getD (f3 x).toNat 0=at8 T3320 x/\(f3 x).toNat<T3320.length:=by
 exact X00
theorem g_products:Tryz.prog.globalNamed "chains/decode.products" =some 6:=by kernel_rfl
theorem y_products:(Tryz.prog.globals[6]?).map (·.type)=some 137:=by kernel_rfl
theorem at_T331(x:Int):T331.getD (f3 x).toNat 0=at8 T331 x/\(f3 x).toNat<T331.length:=by
 exact X00
theorem tabs_of_laid{W:World}(h:laidMetH Tryz.prog Rows.allRow.laid W)(x:Int):decodes.Tabs W x:=by
 rw[MakeChecks.laidMetH_plain _ _ _ kR]at h
 have i0:Lib.TabIs Tryz.prog W "chains/decode.branches" .i64 T63:=Lib.tabIs_of_head g_branches y_branches Tryz.underlying137 Tryz.underlying59 cellsO cellsA h
 have c0:W.cell? ⟨0,(f3 x).toNat,none⟩=some (.int .i64 (at8 T63 x)):=by rw[<-(at_T63 x).1];exact i0.cell g_branches _ (at_T63 x).2
 have i1:Lib.TabIs Tryz.prog W "chains/decode.loads" .i64 T03:=Lib.tabIs_of_head g_loads y_loads Tryz.underlying137 Tryz.underlying59 cellsO cellsA h.tail
 have c1:W.cell? ⟨1,(f3 x).toNat,none⟩=some (.int .i64 (at8 T03 x)):=by rw[<-(at_T03 x).1];exact i1.cell g_loads _ (at_T03 x).2
 have i2:Lib.TabIs Tryz.prog W "chains/decode.stores" .i64 T23:=Lib.tabIs_of_head g_stores y_stores Tryz.underlying137 Tryz.underlying59 cellsO cellsA h.tail.tail
 have c2:W.cell? ⟨2,(f3 x).toNat,none⟩=some (.int .i64 (at8 T23 x)):=by rw[<-(at_T23 x).1];exact i2.cell g_stores _ (at_T23 x).2
 have i3:Lib.TabIs Tryz.prog W "chains/decode.immediates" .i64 T13:=Lib.tabIs_of_head g_immediates y_immediates Tryz.underlying137 Tryz.underlying59 cellsO cellsA h.tail.tail.tail
 have c3:W.cell? ⟨3,(f3 x).toNat,none⟩=some (.int .i64 (at8 T13 x)):=by rw[<-(at_T13 x).1];exact i3.cell g_immediates _ (at_T13 x).2
 have i4:Lib.TabIs Tryz.prog W "chains/decode.plain" .i64 T330:=Lib.tabIs_of_head g_plain y_plain Tryz.underlying137 Tryz.underlying59 cellsO cellsA h.tail.tail.tail.tail
 have c4:W.cell? ⟨4,(f3 x).toNat,none⟩=some (.int .i64 (at8 T330 x)):=by rw[<-(at_T330 x).1];exact i4.cell g_plain _ (at_T330 x).2
 have i5:Lib.TabIs Tryz.prog W "chains/decode.opposite" .i64 T3320:=Lib.tabIs_of_head g_opposite y_opposite Tryz.underlying137 Tryz.underlying59 cellsO cellsA h.tail.tail.tail.tail.tail
 have c5:W.cell? ⟨5,(f3 x).toNat,none⟩=some (.int .i64 (at8 T3320 x)):=by rw[<-(at_T3320 x).1];exact i5.cell g_opposite _ (at_T3320 x).2
 have i6:Lib.TabIs Tryz.prog W "chains/decode.products" .i64 T331:=Lib.tabIs_of_head g_products y_products Tryz.underlying137 Tryz.underlying59 cellsO cellsA h.tail.tail.tail.tail.tail.tail
 have c6:W.cell? ⟨6,(f3 x).toNat,none⟩=some (.int .i64 (at8 T331 x)):=by rw[<-(at_T331 x).1];exact i6.cell g_products _ (at_T331 x).2
 have hz:=World.block_lt_of_cell? _ _ c6
 exact⟨hz,c0,c1,c2,c3,c4,c5,c6⟩
theorem open_setup{H:Type}{enc:TypeId × Value->H}{W:World}{v:Value}{d:DataW H}{p:List MemPlace}(hv:∃cs:Array Value,v=.agg cs/\cs.size=Tryz.prog.cellsOf 25)(h:DataW.Trod enc Tryz.prog W 0 (fun _=>true) true 25 v d p):
  ∃(pg:Int) (im:ByteArray) (ba en fu sl ar:Int) (oa:Option Addr) (l:List ByteArray) (ca:Nat),v=.agg #[.int .i64 pg,.string im,.int .u32 ba,.int .u32 en,.slice oa l.length ca,.int .i64 fu,.int .i64 sl,.int .i64 ar]/\ArgAt l oa ca W/\(0<=ba/\ba<=4294967295)/\0<=en/\en<=4294967295:=by
 obtain⟨cs,rfl,hs⟩:=hv
 rw[cellsT]at hs
 obtain⟨fuel,hf⟩:=h
 obtain⟨xs,n,rfl,hx,hl,hxl,hfs⟩:=DataW.trod_struct Tryz.underlying25 hf
 have hxl2:xs.length=8:=hxl
 obtain⟨ls⟩:=cs
 have hs2:ls.length=8:=by simpa using hs
 match ls,hs2 with
 |[c0,c1,c2,c3,c4,c5,c6,c7],_=>
  have hc:(Value.agg ⟨[c0,c1,c2,c3,c4,c5,c6,c7]⟩).cells.toList=[c0,c1,c2,c3,c4,c5,c6,c7]:=rfl
  rw[hc]at hfs
  obtain⟨z0,y0⟩:∃y,xs[0]?=some y:=⟨_,List.getElem?_eq_getElem oM⟩
  have t0:=hfs 0 _ rfl
  rw[y0]at t0
  have u0:DataW.trod enc Tryz.prog W 0 (fun _=>true) true n 3 [c0]=some z0:=by rw[<-t0];show _=DataW.trod enc Tryz.prog W 0 (fun _=>true) true n 3 (([c0,c1,c2,c3,c4,c5,c6,c7].drop 0).take (Tryz.prog.cellsOf 3));rw[cellsI];rfl
  obtain⟨z1,y1⟩:∃y,xs[1]?=some y:=⟨_,List.getElem?_eq_getElem oM⟩
  have t1:=hfs 1 _ rfl
  rw[y1]at t1
  have u1:DataW.trod enc Tryz.prog W 0 (fun _=>true) true n 9 [c1]=some z1:=by rw[<-t1];show _=DataW.trod enc Tryz.prog W 0 (fun _=>true) true n 9 (([c0,c1,c2,c3,c4,c5,c6,c7].drop 1).take (Tryz.prog.cellsOf 9));rw[cellsS];rfl
  obtain⟨z2,y2⟩:∃y,xs[2]?=some y:=⟨_,List.getElem?_eq_getElem oM⟩
  have t2:=hfs 2 _ rfl
  rw[y2]at t2
  have u2:DataW.trod enc Tryz.prog W 0 (fun _=>true) true n 22 [c2]=some z2:=by rw[<-t2];show _=DataW.trod enc Tryz.prog W 0 (fun _=>true) true n 22 (([c0,c1,c2,c3,c4,c5,c6,c7].drop 2).take (Tryz.prog.cellsOf 22));rw[cellsU];rfl
  obtain⟨z3,y3⟩:∃y,xs[3]?=some y:=⟨_,List.getElem?_eq_getElem oM⟩
  have t3:=hfs 3 _ rfl
  rw[y3]at t3
  have u3:DataW.trod enc Tryz.prog W 0 (fun _=>true) true n 22 [c3]=some z3:=by rw[<-t3];show _=DataW.trod enc Tryz.prog W 0 (fun _=>true) true n 22 (([c0,c1,c2,c3,c4,c5,c6,c7].drop 3).take (Tryz.prog.cellsOf 22));rw[cellsU];rfl
  obtain⟨z4,y4⟩:∃y,xs[4]?=some y:=⟨_,List.getElem?_eq_getElem oM⟩
  have t4:=hfs 4 _ rfl
  rw[y4]at t4
  have u4:DataW.trod enc Tryz.prog W 0 (fun _=>true) true n 23 [c4]=some z4:=by rw[<-t4];show _=DataW.trod enc Tryz.prog W 0 (fun _=>true) true n 23 (([c0,c1,c2,c3,c4,c5,c6,c7].drop 4).take (Tryz.prog.cellsOf 23));rw[cellsR];rfl
  obtain⟨z5,y5⟩:∃y,xs[5]?=some y:=⟨_,List.getElem?_eq_getElem oM⟩
  have t5:=hfs 5 _ rfl
  rw[y5]at t5
  have u5:DataW.trod enc Tryz.prog W 0 (fun _=>true) true n 3 [c5]=some z5:=by rw[<-t5];show _=DataW.trod enc Tryz.prog W 0 (fun _=>true) true n 3 (([c0,c1,c2,c3,c4,c5,c6,c7].drop 5).take (Tryz.prog.cellsOf 3));rw[cellsI];rfl
  obtain⟨z6,y6⟩:∃y,xs[6]?=some y:=⟨_,List.getElem?_eq_getElem oM⟩
  have t6:=hfs 6 _ rfl
  rw[y6]at t6
  have u6:DataW.trod enc Tryz.prog W 0 (fun _=>true) true n 3 [c6]=some z6:=by rw[<-t6];show _=DataW.trod enc Tryz.prog W 0 (fun _=>true) true n 3 (([c0,c1,c2,c3,c4,c5,c6,c7].drop 6).take (Tryz.prog.cellsOf 3));rw[cellsI];rfl
  obtain⟨z7,y7⟩:∃y,xs[7]?=some y:=⟨_,List.getElem?_eq_getElem oM⟩
  have t7:=hfs 7 _ rfl
  rw[y7]at t7
  have u7:DataW.trod enc Tryz.prog W 0 (fun _=>true) true n 3 [c7]=some z7:=by rw[<-t7];show _=DataW.trod enc Tryz.prog W 0 (fun _=>true) true n 3 (([c0,c1,c2,c3,c4,c5,c6,c7].drop 7).take (Tryz.prog.cellsOf 3));rw[cellsI];rfl
  obtain⟨pg,e0,_,_⟩:=DataW.trod_int Tryz.underlying3 u0
  obtain⟨im,e1,_,_⟩:=DataW.trod_string Tryz.underlying9 u1
  obtain⟨ba,e2,_,w2⟩:=DataW.trod_int Tryz.underlying22 u2
  obtain⟨en,e3,_,w3⟩:=DataW.trod_int Tryz.underlying22 u3
  obtain⟨fu,e5,_,_⟩:=DataW.trod_int Tryz.underlying3 u5
  obtain⟨sl,e6,_,_⟩:=DataW.trod_int Tryz.underlying3 u6
  obtain⟨ar,e7,_,_⟩:=DataW.trod_int Tryz.underlying3 u7
  have b2:=bounds_u32 w2
  have b3:=bounds_u32 w3
  injection e0 with e0 _
  injection e1 with e1 _
  injection e2 with e2 _
  injection e3 with e3 _
  injection e5 with e5 _
  injection e6 with e6 _
  injection e7 with e7 _
  subst e0 e1 e2 e3 e5 e6 e7
  rcases open_strings Tryz.underlying23 Tryz.underlying9 cellsS u4 with⟨e4,_⟩|⟨a,len,cap,ss,e4,_,hl1,hm,hz,_,hcell,_⟩
  ·injection e4 with e4 _
   subst e4
   exact⟨pg,im,ba,en,fu,sl,ar,none,[],0,rfl,⟨Nat.le_refl _,by unfold maxLen;omega,fun k s hk=>by simp at hk⟩,b2,b3⟩
  ·injection e4 with e4 _
   subst e4
   simp only[if_true]at hz
   have hlen:(ss.take len).length=len:=by rw[List.length_take];omega
   refine⟨pg,im,ba,en,fu,sl,ar,some a,ss.take len,cap,by rw[hlen],⟨by omega,hm,fun k s hk=> ?_⟩,b2,b3⟩
   have hk2:k<len:=by have:=(List.getElem?_eq_some_iff.1 hk).1;omega
   have hg:ss[k]?=some s:=by rw[List.getElem?_take]at hk;simpa [hk2]using hk
   have hc:=hcell k oM
   have e:ss.getD k ByteArray.empty=s:=by rw[List.getD,hg];rfl
   rw[e]at hc
   have lb:=World.block_lt_of_cell? _ _ hc
   rw[block_add]at lb
   exact⟨a,rfl,lb,hc⟩
theorem contract(H:Type)(enc:TypeId × Value->H)(W:World)(base:Nat)(args:Array Value)(ds gs:List (DataW H))(before:List MemPlace)
  (hval:∀(j:Nat) t v,Tryz.f6.params[j]?=some t->args[j]?=some v->Value.okWide Tryz.prog W .any base t v)
  (hW:DataW.Whole enc Tryz.prog Tryz.f6.params.toList Rows.allSpec.vars false W args.toList ds gs before) (hL:laidMetH Tryz.prog Rows.allRow.laid W):
  Calls Tryz.prog 6 args W fun e W'=>∃v,e=.returned v/\Rows.allSpec.post enc Tryz.prog Tryz.f6 false true false false W args v W':=by
 have hW':=hW
 obtain⟨p,q,hA0,hV,rfl,hfz,hnd⟩:=hW
 have hA:DataW.TrodAll enc Tryz.prog W 0 (fun _=>true) true Tryz.f6.params.toList args.toList ds p:=hA0
 rw[Tryz.params6]at hA hval
 obtain⟨v0,vs0,d0,ds0,p0,q0,hargs,rfl,rfl,h0,r0⟩:=trodAll_cons hA
 obtain⟨v1,vs1,d1,ds1,p1,q1,rfl,rfl,rfl,h1,r1⟩:=trodAll_cons r0
 obtain⟨v2,vs2,d2,ds2,p2,q2,rfl,rfl,rfl,h2,r2⟩:=trodAll_cons r1
 obtain⟨v3,vs3,d3,ds3,p3,q3,rfl,rfl,rfl,h3,r3⟩:=trodAll_cons r2
 obtain⟨v4,vs4,d4,ds4,p4,q4,rfl,rfl,rfl,h4,r4⟩:=trodAll_cons r3
 obtain⟨v5,vs5,d5,ds5,p5,q5,rfl,rfl,rfl,h5,r5⟩:=trodAll_cons r4
 obtain⟨rfl,rfl,rfl⟩:=trodAll_nil r5
 obtain rfl:args=#[v0,v1,v2,v3,v4,v5]:=by cases args;simp_all
 obtain⟨rfl,rfl⟩:=trodVars_none hV
 clear hA0
 obtain⟨a0,rfl,rfl,rfl,w0⟩:=open_int Tryz.underlying22 (hval 0 22 v0 rfl rfl) h0
 obtain⟨a1,rfl,rfl,rfl,w1⟩:=open_int Tryz.underlying3 (hval 1 3 v1 rfl rfl) h1
 obtain⟨a2,rfl,rfl,rfl,w2⟩:=open_int Tryz.underlying22 (hval 2 22 v2 rfl rfl) h2
 obtain⟨a3,rfl,rfl,rfl,w3⟩:=open_int Tryz.underlying22 (hval 3 22 v3 rfl rfl) h3
 obtain⟨cs4,rfl,hcs4⟩:=okWide_struct Tryz.underlying25 (hval 4 25 v4 rfl rfl)
 have h4k:=h4
 obtain⟨pg,im,ba,en,fu,sl,ar,oa,l,ca,hv4,harg4,hb4,he4⟩:=open_setup ⟨cs4,rfl,hcs4⟩ h4
 injection hv4 with hv4
 subst hv4
 obtain⟨cs5,rfl,hcs5⟩:=okWide_struct Tryz.underlying25 (hval 5 25 v5 rfl rfl)
 have h5k:=h5
 obtain⟨pg2,im2,ba2,en2,fu2,sl2,ar2,oa2,l2,ca2,hv5,harg5,hb5,he5⟩:=open_setup ⟨cs5,rfl,hcs5⟩ h5
 injection hv5 with hv5
 subst hv5
 simp only[List.append_nil,List.nil_append]at hW'
 have hlt4:∀x∈p4,x.block<W.heap.size:=fun x hx=>by simpa using hW'.lt x (by simp[hx])
 have hlt5:∀x∈p5,x.block<W.heap.size:=fun x hx=>by simpa using hW'.lt x (by simp[hx])
 have k0:=bounds_u32 w0
 have k2:=bounds_u32 w2
 have k3:=bounds_u32 w3
 refine(all_any a0 a1 a2 a3 k0.1 k0.2 k2.1 k2.2 k3.1 k3.2 pg im ba en fu sl ar oa l ca pg2 im2 ba2 en2 fu2 sl2 ar2 oa2 l2 ca2 W hb4.1 hb4.2 he4.1 he4.2 harg4 hb5.1 hb5.2 he5.1 he5.2 harg5 (fun w' x hbel=>(tabs_of_laid hL x).below hbel (tabs_of_laid hL x).1)).mono fun e W' ⟨he,bel⟩=> ?_
 subst he
 exact⟨_,rfl,_,_,_,[],_,[],hW',trodAll_mk1 (shut_bool Tryz.underlying4 _),(trodAll_cons_mk (shut_int Tryz.underlying22 w0) (trodAll_cons_mk (shut_int Tryz.underlying3 w1) (trodAll_cons_mk (shut_int Tryz.underlying22 w2) (trodAll_cons_mk (shut_int Tryz.underlying22 w3) (trodAll_cons_mk (Below.trod laidOut kR (of_decide_eq_true kR) h4k bel hlt4) (trodAll_cons_mk (Below.trod laidOut kR (of_decide_eq_true kR) h5k bel hlt5) trodAll_mk0)))))),rfl,bel.frame _,fun h=>by cases h⟩
def laidCells:List (Nat × Nat × Int):=[(0,0,4),(0,1,5),(0,2,-1),(0,3,-1),(0,4,6),(0,5,7),(0,6,8),(0,7,9),(1,0,10),(1,1,11),(1,2,12),(1,3,-1),(1,4,13),(1,5,14),(1,6,-1),(1,7,-1),(2,0,15),(2,1,16),(2,2,17),(2,3,-1),(2,4,-1),(2,5,-1),(2,6,-1),(2,7,-1),(3,0,18),(3,1,-1),(3,2,19),(3,3,20),(3,4,21),(3,5,-1),(3,6,22),(3,7,23),(4,0,27),(4,1,29),(4,2,30),(4,3,31),(4,4,32),(4,5,33),(4,6,35),(4,7,36),(5,0,28),(5,1,-1),(5,2,-1),(5,3,-1),(5,4,-1),(5,5,34),(5,6,-1),(5,7,-1),(6,0,37),(6,1,38),(6,2,39),(6,3,40),(6,4,41),(6,5,42),(6,6,43),(6,7,44)]
theorem start(os:Os):∃w0:World,w0.os=os/\(w0.forCall (fun _ _=>0) ⟨#[],#[Value.int .u32 0,.int .i64 0,.int .u32 0,.int .u32 0,.agg #[.int .i64 0,.string ⟨#[]⟩,.int .u32 0,.int .u32 0,.slice none 0 0,.int .i64 0,.int .i64 0,.int .i64 0],.agg #[.int .i64 0,.string ⟨#[]⟩,.int .u32 0,.int .u32 0,.slice none 0 0,.int .i64 0,.int .i64 0,.int .i64 0]],[]⟩).variablesB Tryz.prog=true/\
  ((w0.forCall (fun _ _=>0) ⟨#[],#[Value.int .u32 0,.int .i64 0,.int .u32 0,.int .u32 0,.agg #[.int .i64 0,.string ⟨#[]⟩,.int .u32 0,.int .u32 0,.slice none 0 0,.int .i64 0,.int .i64 0,.int .i64 0],.agg #[.int .i64 0,.string ⟨#[]⟩,.int .u32 0,.int .u32 0,.slice none 0 0,.int .i64 0,.int .i64 0,.int .i64 0]],[]⟩).heap.toList.drop Tryz.prog.globals.size).take ((begin Tryz.prog (fun _ _=>0) default).world.heap.size-Tryz.prog.globals.size)=(begin Tryz.prog (fun _ _=>0) default).world.heap.toList.drop Tryz.prog.globals.size/\
  Input.okWideB Tryz.prog (w0.forCall (fun _ _=>0) ⟨#[],#[Value.int .u32 0,.int .i64 0,.int .u32 0,.int .u32 0,.agg #[.int .i64 0,.string ⟨#[]⟩,.int .u32 0,.int .u32 0,.slice none 0 0,.int .i64 0,.int .i64 0,.int .i64 0],.agg #[.int .i64 0,.string ⟨#[]⟩,.int .u32 0,.int .u32 0,.slice none 0 0,.int .i64 0,.int .i64 0,.int .i64 0]],[]⟩) 6 ⟨#[],#[Value.int .u32 0,.int .i64 0,.int .u32 0,.int .u32 0,.agg #[.int .i64 0,.string ⟨#[]⟩,.int .u32 0,.int .u32 0,.slice none 0 0,.int .i64 0,.int .i64 0,.int .i64 0],.agg #[.int .i64 0,.string ⟨#[]⟩,.int .u32 0,.int .u32 0,.slice none 0 0,.int .i64 0,.int .i64 0,.int .i64 0]],[]⟩=true/\laidMet Tryz.prog Rows.allRow.laid (w0.forCall (fun _ _=>0) ⟨#[],#[Value.int .u32 0,.int .i64 0,.int .u32 0,.int .u32 0,.agg #[.int .i64 0,.string ⟨#[]⟩,.int .u32 0,.int .u32 0,.slice none 0 0,.int .i64 0,.int .i64 0,.int .i64 0],.agg #[.int .i64 0,.string ⟨#[]⟩,.int .u32 0,.int .u32 0,.slice none 0 0,.int .i64 0,.int .i64 0,.int .i64 0]],[]⟩).memory/\
  (∀(H:Type) (enc:TypeId × Value->H),DataW.whole enc Tryz.prog (w0.forCall (fun _ _=>0) ⟨#[],#[Value.int .u32 0,.int .i64 0,.int .u32 0,.int .u32 0,.agg #[.int .i64 0,.string ⟨#[]⟩,.int .u32 0,.int .u32 0,.slice none 0 0,.int .i64 0,.int .i64 0,.int .i64 0],.agg #[.int .i64 0,.string ⟨#[]⟩,.int .u32 0,.int .u32 0,.slice none 0 0,.int .i64 0,.int .i64 0,.int .i64 0]],[]⟩).memory Tryz.f6.params.toList Rows.allSpec.vars false #[Value.int .u32 0,.int .i64 0,.int .u32 0,.int .u32 0,.agg #[.int .i64 0,.string ⟨#[]⟩,.int .u32 0,.int .u32 0,.slice none 0 0,.int .i64 0,.int .i64 0,.int .i64 0],.agg #[.int .i64 0,.string ⟨#[]⟩,.int .u32 0,.int .u32 0,.slice none 0 0,.int .i64 0,.int .i64 0,.int .i64 0]].toList 8=some ([.lit (.int .u32 0),.lit (.int .i64 0),.lit (.int .u32 0),.lit (.int .u32 0),.agg [.lit (.int .i64 0),.lit (.string []),.lit (.int .u32 0),.lit (.int .u32 0),.nil,.lit (.int .i64 0),.lit (.int .i64 0),.lit (.int .i64 0)],.agg [.lit (.int .i64 0),.lit (.string []),.lit (.int .u32 0),.lit (.int .u32 0),.nil,.lit (.int .i64 0),.lit (.int .i64 0),.lit (.int .i64 0)]],[],[]))/\
  (∀(H:Type) (enc:TypeId × Value->H),(OpenSpec.ofChange Rows.allSpec).bare.sizedB enc Tryz.prog Tryz.f6 false (w0.forCall (fun _ _=>0) ⟨#[],#[Value.int .u32 0,.int .i64 0,.int .u32 0,.int .u32 0,.agg #[.int .i64 0,.string ⟨#[]⟩,.int .u32 0,.int .u32 0,.slice none 0 0,.int .i64 0,.int .i64 0,.int .i64 0],.agg #[.int .i64 0,.string ⟨#[]⟩,.int .u32 0,.int .u32 0,.slice none 0 0,.int .i64 0,.int .i64 0,.int .i64 0]],[]⟩).memory #[Value.int .u32 0,.int .i64 0,.int .u32 0,.int .u32 0,.agg #[.int .i64 0,.string ⟨#[]⟩,.int .u32 0,.int .u32 0,.slice none 0 0,.int .i64 0,.int .i64 0,.int .i64 0],.agg #[.int .i64 0,.string ⟨#[]⟩,.int .u32 0,.int .u32 0,.slice none 0 0,.int .i64 0,.int .i64 0,.int .i64 0]] 8=true):=
 ⟨(laidCells.foldl (fun w t=>w.setCell ⟨t.1,t.2.1,none⟩ (.int .i64 t.2.2)) (World.holding Tryz.prog os ⟨#[],#[],[]⟩)),rfl,by kernel_rfl,by kernel_rfl,by kernel_rfl,laidMet_of_run' 8 kR kR,fun _ _=>by kernel_rfl,fun _ _=>by kernel_rfl⟩

set_option maxRecDepth 100000 in
theorem lifted(os:Os)(started:os.Started)(H:Type)(enc:TypeId × Value->H)(F:Stop.Interp):
  ReturnsInHanded {} Tryz.checked os 6 .any ((OpenSpec.ofChange Rows.allSpec).preRow enc Tryz.prog Tryz.f6 Rows.allRow.domain false Rows.allRow.laid) (((OpenSpec.ofChange Rows.allSpec).at F).post enc Tryz.prog Tryz.f6 false true false false):=by
 obtain⟨w0,q1,q2,q3,q4,q5,q6,q7⟩:=start os
 refine returnsInHanded_of_row (C:=Tryz.checked) (s:=OpenSpec.ofChange Rows.allSpec) own started kR Tryz.func6
  (witness_row_at (enc:=enc) (C:=Tryz.checked) false w0 #[Value.int .u32 0,.int .i64 0,.int .u32 0,.int .u32 0,.agg #[.int .i64 0,.string ⟨#[]⟩,.int .u32 0,.int .u32 0,.slice none 0 0,.int .i64 0,.int .i64 0,.int .i64 0],.agg #[.int .i64 0,.string ⟨#[]⟩,.int .u32 0,.int .u32 0,.slice none 0 0,.int .i64 0,.int .i64 0,.int .i64 0]] q1 q2 q3 q4
   (OpenSpec.preRow_of_cond 8 (q6 H enc) kR (fun k hk=>by cases hk) (q7 H enc) (by rw[MakeChecks.laidMetH_plain _ _ _ kR];exact q5))) ?_
 intro W base args ds gs before hval hW _ _ _ hL _ _
 exact contract H enc W base args ds gs before hval hW hL

theorem said:Rows.AllSaid:=
 OpenClaim.holds_of_cond 6 Tryz.f6 rfl rfl rfl rfl rfl rfl rfl ⟨rfl,rfl,rfl,rfl,rfl⟩ rfl rfl rfl rfl rfl kR Tryz.func6 kR
  (of_decide_eq_true kR) (by unfold Func.isWrapper;first|(rw[if_pos (by decide +kernel)];kernel_rfl)|(rw[if_neg (by decide +kernel)];exact⟨rfl,rfl⟩))
  (fun os started H enc _ F=>by rw[OpenClaim.pre_eq_preRow];exact lifted os started H enc F)

theorem plain(f:FuncId)(fn:Func)(hf:Tryz.pinned.checked.prog.funcNamed "chains/chainslaw.All" =some f)(hfn:Tryz.pinned.checked.prog.funcs[f]?=some fn):
  true=Tryz.pinned.checked.prog.looks []/\∀(j:Nat) t,fn.params[j]?=some t->Tryz.pinned.checked.prog.wantsStandIn t=false:=by
 obtain rfl:f=6:=Option.some.inj ((show Tryz.prog.funcNamed "chains/chainslaw.All" =some 6 by kernel_rfl).symm.trans hf) |>.symm
 obtain rfl:fn=Tryz.f6:=(Option.some.inj (Tryz.func6.symm.trans hfn)).symm
 refine⟨by kernel_rfl,fun j t ht=> ?_⟩
 rw[Tryz.params6]at ht
 have hm:=Array.mem_of_getElem? ht
 simp at hm
 rcases hm with rfl|rfl|rfl|rfl
 ·exact X01
 ·exact(show Tryz.prog.wantsStandIn 3=false by kernel_rfl)
 ·exact X01
 ·exact(show Tryz.prog.wantsStandIn 25=false by kernel_rfl)

theorem card:Rows.AllCardSaid:=
 Claim7.holds_tied_plain_at .later [] _ _ _ _ said (fun _ h=>by cases h) kR (fun _ h=>by cases h) all_row_tie rfl ⟨rfl,rfl⟩ kR rfl plain kR
end law.all
theorem all_holds:Rows.AllCardSaid:=law.all.card
#print axioms all_holds
end Go.Proofs.YtjikimpejlmdiaaGreatDoor

import Derived.Test.YtjikimpejlmdiaaGreatDoorZGs
set_option maxHeartbeats 4000000
set_option linter.unusedVariables false
set_option linter.unusedSimpArgs false
set_option maxRecDepth 10000
namespace Go.Proofs.YtjikimpejlmdiaaGreatDoor
theorem Xk0{p:Prop}(h:p:=by
 rcases h.2 with⟨h1,_⟩|⟨g',cap',cur,hv,hb,hg,hn,hm,hs,ht⟩
 ·cases h1
 ·injection hv with e1 e2 e3;omega):p:=h
theorem Xk1{p:Prop}(h:p:=by
 go_ret
 exact⟨rfl,(ref.Touch.refl _ _).alloc _⟩):p:=h
theorem Xk2{p:Prop}(h:p:=by rw[World.cell?_alloc_past _ _ _ fS,World.cell?_alloc_past _ _ _ fS,World.cell?_alloc_at _ _ _ _ rfl];rfl):p:=h
theorem Xk3{p:Prop}(h:p:=by rw[World.frozen?_alloc_past _ _ _ fS];exact World.frozen?_alloc_at _ _ _ _ fS):p:=h
theorem Xk4{p:Prop}(h:p:=by rw[World.cell?_alloc_past _ _ _ fS,World.cell?_alloc_at _ _ _ _ fS];rfl):p:=h
namespace law
open ChangeShapes WideShapes ChangeAt RowKit nums dnums mach
attribute [local go_sem ↓] Go.wp_at_zero Go.wp_at_succ
def RowAt (l:List ByteArray) (ad:Addr) (w:World):Prop:=∀k s,l[k]?=some s->w.cell? (ad.add k)=some (.string s)
def Few (im:ByteArray) (l:List ByteArray):Prop:=im.size<=1048576/\l.length<=4096/\∀s,s∈l->s.size<=1048576
def FewQ (l:List ByteArray) (w:World) (e:Ending) (w':World):Prop:=∃y:Bool,e=.returned (.bool y)/\(y=true ↔ ∀s,s∈l->s.size<=1048576)/\ref.Touch [] w w'
theorem block_add(ad:Addr)(k:Nat):(ad.add k).block=ad.block:=by unfold Addr.add;by_cases z:k=0<;>simp[z]
theorem few_im(pg:Int)(im:ByteArray)(ba en fu sl ar:Int)(v:Value)(w:World)(h:¬im.size<=1048576):Calls Tryz.prog 12 #[.agg #[.int .i64 pg,.string im,.int .u32 ba,.int .u32 en,v,.int .i64 fu,.int .i64 sl,.int .i64 ar]] w fun e w'=>e=.returned (.bool false)/\ref.Touch [] w w':=by
 have d:decide (1048576<(im.size:Int))=true:=by simp;omega
 go_enter Tryz.func12,Tryz.ntmps12
 go_wp2
 exact Xk1
theorem few_ln(pg:Int)(im:ByteArray)(ba en fu sl ar:Int)(oa:Option Addr)(na ca:Nat)(w:World)(h:im.size<=1048576)(h2:¬na<=4096):Calls Tryz.prog 12 #[.agg #[.int .i64 pg,.string im,.int .u32 ba,.int .u32 en,.slice oa na ca,.int .i64 fu,.int .i64 sl,.int .i64 ar]] w fun e w'=>e=.returned (.bool false)/\ref.Touch [] w w':=by
 have d:decide (1048576<(im.size:Int))=false:=by simp;omega
 have d2:decide (4096<(na:Int))=true:=by simp;omega
 go_enter Tryz.func12,Tryz.ntmps12
 go_wp2
 exact Xk1
theorem few_row(pg:Int)(im:ByteArray)(ba en fu sl ar:Int)(ad:Addr)(l:List ByteArray)(ca:Nat)(w:World)(h:im.size<=1048576)(h2:l.length<=4096)(hr:RowAt l ad w)(lad:0<l.length->ad.block<w.heap.size):
  Calls Tryz.prog 12 #[.agg #[.int .i64 pg,.string im,.int .u32 ba,.int .u32 en,.slice (some ad) l.length ca,.int .i64 fu,.int .i64 sl,.int .i64 ar]] w (FewQ l w):=by
 have d:decide (1048576<(im.size:Int))=false:=by simp;omega
 have d2:decide (4096<(l.length:Int))=false:=by simp;omega
 have HR:Hid (RowAt l ad w):=hr
 clear hr
 go_enter Tryz.func12,Tryz.ntmps12
 go_wp2_with fail
 go_loopw [3] (fun i wr=>∃k:Nat,k<=l.length/\i=.int .i64 k/\(∀s,s∈l.take k->s.size<=1048576)/\wr=(w.alloc (.cells #[.int .i64 pg,.string im,.int .u32 ba,.int .u32 en,.slice (some ad) l.length ca,.int .i64 fu,.int .i64 sl,.int .i64 ar] 25))) (fun i _=>l.length-(intOf i).toNat)
 case atStart=>exact⟨0,by omega,rfl,by simp,rfl⟩
 case round=>
  obtain⟨k,hk,rfl,hs,rfl⟩:=hrel
  by_cases hlt:k<l.length
  ·obtain⟨s,hsk⟩:∃s,l[k]?=some s:=⟨_,List.getElem?_eq_getElem hlt⟩
   have hc:=HR.out k s hsk
   have lb:ad.block<w.heap.size:=lad oM
   have hc2:(w.alloc (.cells #[.int .i64 pg,.string im,.int .u32 ba,.int .u32 en,.slice (some ad) l.length ca,.int .i64 fu,.int .i64 sl,.int .i64 ar] 25)).cell? (ad.add k)=some (.string s):=(((ref.Touch.refl [] w).alloc _).cell (p:=ad.add k) (by rw[block_add];exact lb) sP).trans hc
   have q1:(k:Int)<(l.length:Int):=by omega
   by_cases hz:s.size<=1048576
   ·have d3:decide (1048576<(s.size:Int))=false:=by simp;omega
    go_wp2_with fail
    go_roundw
    case rel=>
     refine⟨k+1,by omega,by simp,fun t ht=> ?_,by first|trivial|rfl⟩
     rw[List.take_add_one,hsk]at ht
     simp at ht
     rcases ht with ht|rfl
     ·exact hs t ht
     ·exact hz
    case measure=>simp[intOf];omega
   ·have d3:decide (1048576<(s.size:Int))=true:=by simp;omega
    go_wp2_with fail
    go_ret
    exact⟨false,rfl,⟨fun hf=>(by cases hf),fun hf=>absurd (hf s (List.mem_of_getElem? hsk)) hz⟩,(ref.Touch.refl _ _).alloc _⟩
  ·have q1:(l.length:Int)<=(k:Int):=by omega
   have e:k=l.length:=by omega
   go_wp2_with fail
   go_ret
   refine⟨true,rfl,⟨fun _ s hs2=>hs s (by rw[e,List.take_length];exact hs2),fun _=>rfl⟩,(ref.Touch.refl _ _).alloc _⟩
theorem few_nil(pg:Int)(im:ByteArray)(ba en fu sl ar:Int)(oa:Option Addr)(ca:Nat)(w:World)(h:im.size<=1048576):Calls Tryz.prog 12 #[.agg #[.int .i64 pg,.string im,.int .u32 ba,.int .u32 en,.slice oa 0 ca,.int .i64 fu,.int .i64 sl,.int .i64 ar]] w fun e w'=>e=.returned (.bool true)/\ref.Touch [] w w':=by
 have d:decide (1048576<(im.size:Int))=false:=by simp;omega
 go_enter Tryz.func12,Tryz.ntmps12
 go_wp2_with fail
 go_loopw [3] (fun i wr=>i=.int .i64 0/\wr=(w.alloc (.cells #[.int .i64 pg,.string im,.int .u32 ba,.int .u32 en,.slice oa 0 ca,.int .i64 fu,.int .i64 sl,.int .i64 ar] 25))) (fun i _=>0)
 case atStart=>exact⟨rfl,rfl⟩
 case round=>
  obtain⟨rfl,rfl⟩:=hrel
  go_wp2_with fail
  exact Xk1
theorem run_append_zero(w:World)(g ca:Nat)(oa:Option Addr)(ty:TypeId):(Builtin.append_ #[23,23] ty #[.slice (some ⟨g,0,none⟩) 0 0,.slice oa 0 ca]).run Tryz.prog w=.ok (.slice (some ⟨g,0,none⟩) 0 0) w:=by
 have hz:∀w,(Go.sizeOf 9).run Tryz.prog w=.ok 1 w:=fun w=>by kernel_rfl
 have hu:=fun w=>run_underlying Tryz.underlying23 w
 cases oa with
 |none=>simp[Builtin.append_,hu,hz,Builtin.lenOf,Builtin.firstCells,storeCells,Sem.run_bind,Result.andThen]
 |some a=>simp[Builtin.append_,hu,hz,Builtin.lenOf,Builtin.firstCells,storeCells,Sem.run_bind,Result.andThen,loadCells,loadCellsFrom]
theorem wpList_append_zero{ops:Array Oper}{rest:List Oper}{o:Oper}{a:Act}{w:World}{Q:Exit->Act->World->Prop}(hgd:o.guard=none)(s x:Operand)
  (ho:o.op=.call {callee:=.builtin .append,args:=#[s,x],argTypes:=#[23,23] }) (g ca:Nat) (oa:Option Addr) (hs:a.eval s=.slice (some ⟨g,0,none⟩) 0 0) (hx:a.eval x=.slice oa 0 ca)
  (h:wpList Tryz.prog ops Q rest (a.put o.dst (.slice (some ⟨g,0,none⟩) 0 0)) w):wpList Tryz.prog ops Q (o::rest) a w:=
 wpList_plain hgd fun _ hK=>by
  have hr:=run_append_zero w g ca oa o.type
  unfold Oper.wp execOp
  simp only[ho,resolve,invoke,builtin,Sem.run_bind,Sem.run_pure,Result.andThen_ok,List.map_toArray,List.map_cons,List.map_nil,hs,hx,hr]
  exact hK _ _ h
theorem info_str:(Tryz.prog.info? 9).map (fun i=>(i.zero,i.size,i.bytes))=some (some (.string ByteArray.empty),1,16):=by kernel_rfl
def CopQ (pg:Int) (im:ByteArray) (ba en fu sl ar:Int) (l:List ByteArray) (w:World) (e:Ending) (w':World):Prop:=
 ∃g ca,e=.returned (.agg #[.int .i64 pg,.string im,.int .u32 ba,.int .u32 en,.slice (some ⟨g,0,none⟩) l.length ca,.int .i64 fu,.int .i64 sl,.int .i64 ar])/\RowAt l ⟨g,0,none⟩ w'/\l.length<=ca/\ca<=maxLen/\w.heap.size<=g/\g<w'.heap.size/\ref.Touch [] w w'
theorem touchL8{u v:World}{a:Addr}(x:Value)(h:ref.Touch [] u v)(ha:u.heap.size<=a.block):ref.Touch [] u (v.setCell a x):=
 ⟨h.os,h.tape,h.output,by simpa [World.setCell]using h.size,fun k hk hn=>(Below.heap_setCell v a x k oM).trans (h.block k hk hn)⟩
theorem add_mk(g k:Nat):(⟨g,0,none⟩:Addr).add k=⟨g,k,none⟩:=by unfold Addr.add;by_cases z:k=0<;>simp[z]
theorem row_cap{w:World}{base e n g cap:Nat}{xs:List Value}(h:w.ownsRow base e 1 (.slice (some ⟨g,0,none⟩) n cap) n xs):n<=cap:=by
 exact Xk0
theorem row_max{w:World}{base e n g cap:Nat}{xs:List Value}(h:w.ownsRow base e 1 (.slice (some ⟨g,0,none⟩) n cap) n xs):cap<=maxLen:=by
 exact Xk0
theorem row_cell{w:World}{base e g cap:Nat}{l:List ByteArray}(h:w.ownsRow base e 1 (.slice (some ⟨g,0,none⟩) l.length cap) l.length (l.map Value.string))(k:Nat)(s:ByteArray)(hk:l[k]?=some s):w.cell? ⟨g,k,none⟩=some (.string s):=by
 rcases h.2 with⟨h1,_⟩|⟨g',cap',cur,hv,hb,hg,hn,hm,hs,ht⟩
 ·cases h1
 ·injection hv with e1 e2 e3
  injection e1 with e1
  injection e1 with e1
  subst e1
  have hl:k<l.length:=(List.getElem?_eq_some_iff.1 hk).1
  rw[cell_of_row w g k cur e (0,0) hg]
  have h2:(cur.toList.take (l.length*1))[k]?=some (.string s):=by rw[ht,List.getElem?_map,hk];rfl
  rw[List.getElem?_take]at h2
  simp[hl]at h2
  simpa using h2
theorem copq_of(pg:Int)(im:ByteArray)(ba en fu sl ar:Int)(l:List ByteArray)(w w1 w9:World)(g cap:Nat)(hgb:w.heap.size+1+1<=g)(hg2:g<w1.heap.size)(ho:w1.ownsRow w.heap.size 9 1 (.slice (some ⟨g,0,none⟩) l.length cap) l.length (l.map Value.string))(t1:ref.Touch [] w w1)(t9:ref.Touch [w.heap.size,w.heap.size+1] w1 w9):
  CopQ pg im ba en fu sl ar l w (.returned (.agg #[.int .i64 pg,.string im,.int .u32 ba,.int .u32 en,.slice (some ⟨g,0,none⟩) l.length cap,.int .i64 fu,.int .i64 sl,.int .i64 ar])) w9:=by
 refine⟨g,cap,rfl,fun k s hk=> ?_,row_cap ho,row_max ho,by omega,Nat.lt_of_lt_of_le hg2 t9.size,prog.touchNew t1 t9 sP⟩
 rw[add_mk,t9.cell (p:=⟨g,k,none⟩) hg2 (by simp;omega)]
 exact row_cell ho k s hk
theorem copied_nil(pg:Int)(im:ByteArray)(ba en fu sl ar:Int)(oa:Option Addr)(ca:Nat)(w:World):Calls Tryz.prog 13 #[.agg #[.int .i64 pg,.string im,.int .u32 ba,.int .u32 en,.slice oa 0 ca,.int .i64 fu,.int .i64 sl,.int .i64 ar]] w (CopQ pg im ba en fu sl ar [] w):=by
 go_enter Tryz.func13,Tryz.ntmps13
 go_wp2_with (first|(at_builtin;refine wpList_append_zero rF _ _ rF (w.heap.size+1+1) ca oa rF rF ?_))
 refine bodyPost_ret (v:=.agg #[.int .i64 pg,.string im,.int .u32 ba,.int .u32 en,.slice (some ⟨w.heap.size+1+1,0,none⟩) 0 0,.int .i64 fu,.int .i64 sl,.int .i64 ar]) ?_ rfl ⟨w.heap.size+1+1,0,rfl,fun k s hk=>by simp at hk,Nat.le_refl _,by unfold maxLen;omega,by omega, ?_, ?_⟩
 ·simp[results,Tryz.results13,go_sem]
 ·simp
 ·(repeat' (first|with_reducible exact ref.Touch.refl _ _|with_reducible apply ref.Touch.alloc|with_reducible apply touchL8))<;>(first|(simp;done)|(simp;omega))
theorem copied_row(pg:Int)(im:ByteArray)(ba en fu sl ar:Int)(ad:Addr)(l:List ByteArray)(ca:Nat)(w:World)(hp:0<l.length)(h2:l.length<=4096)(hr:RowAt l ad w)(lad:ad.block<w.heap.size):
  Calls Tryz.prog 13 #[.agg #[.int .i64 pg,.string im,.int .u32 ba,.int .u32 en,.slice (some ad) l.length ca,.int .i64 fu,.int .i64 sl,.int .i64 ar]] w (CopQ pg im ba en fu sl ar l w):=by
 obtain⟨i0,hi,hz0,hz1,hz2⟩:=info_parts info_str
 have HNW:Hid (∀j u,(l.map Value.string)[j]?=some u->(((w.alloc (.cells #[.int .i64 pg,.string im,.int .u32 ba,.int .u32 en,.slice (some ad) l.length ca,.int .i64 fu,.int .i64 sl,.int .i64 ar] 25)).alloc (.cells #[.int .i64 0,.string ⟨#[]⟩,.int .u32 0,.int .u32 0,.slice none 0 0,.int .i64 0,.int .i64 0,.int .i64 0] 25)).alloc (.cells #[] 9)).cell? (ad.add j)=some u):=fun j u hu=>by
  rw[List.getElem?_map]at hu
  obtain⟨s,hs,rfl⟩:=Option.map_eq_some_iff.1 hu
  have t:ref.Touch [] w (((w.alloc (.cells #[.int .i64 pg,.string im,.int .u32 ba,.int .u32 en,.slice (some ad) l.length ca,.int .i64 fu,.int .i64 sl,.int .i64 ar] 25)).alloc (.cells #[.int .i64 0,.string ⟨#[]⟩,.int .u32 0,.int .u32 0,.slice none 0 0,.int .i64 0,.int .i64 0,.int .i64 0] 25)).alloc (.cells #[] 9)):=(((ref.Touch.refl _ _).alloc _).alloc _).alloc _
  exact(t.cell (p:=ad.add j) (by rw[block_add];exact lad) sP).trans (hr j s hs)
 have HOW:Hid ((((w.alloc (.cells #[.int .i64 pg,.string im,.int .u32 ba,.int .u32 en,.slice (some ad) l.length ca,.int .i64 fu,.int .i64 sl,.int .i64 ar] 25)).alloc (.cells #[.int .i64 0,.string ⟨#[]⟩,.int .u32 0,.int .u32 0,.slice none 0 0,.int .i64 0,.int .i64 0,.int .i64 0] 25)).alloc (.cells #[] 9)).ownsRow w.heap.size 9 1 (.slice (some ⟨w.heap.size+1+1,0,none⟩) 0 0) 0 []):=
  ⟨rfl,.inr ⟨w.heap.size+1+1,0,#[],rfl,by omega,by have:=heap_alloc_new ((w.alloc (.cells #[.int .i64 pg,.string im,.int .u32 ba,.int .u32 en,.slice (some ad) l.length ca,.int .i64 fu,.int .i64 sl,.int .i64 ar] 25)).alloc (.cells #[.int .i64 0,.string ⟨#[]⟩,.int .u32 0,.int .u32 0,.slice none 0 0,.int .i64 0,.int .i64 0,.int .i64 0] 25)) (.cells #[] 9);simpa using this,Nat.le_refl _,by unfold maxLen;omega,rfl,rfl⟩⟩
 clear hr
 go_enter Tryz.func13,Tryz.ntmps13
 go_wp2_with (first|(at_builtin;refine wpList_append_lies _ rF _ _ _ rF w.heap.size 9 i0 _ 1 16 Tryz.underlying23 hi hz0 hz1 hz2 rF dC (.slice (some ⟨w.heap.size+1+1,0,none⟩) 0 0) 0 [] rF HOW.out ad l.length ca (l.map Value.string) rF sP HNW.out oC hp mL oM (by simp;omega) (w.heap.size+1+1+1) sP ?_;intro g cap w1 hown hgrow hat hlt2;have ht:ref.Touch [w.heap.size+1+1] (((w.alloc (.cells #[.int .i64 pg,.string im,.int .u32 ba,.int .u32 en,.slice (some ad) l.length ca,.int .i64 fu,.int .i64 sl,.int .i64 ar] 25)).alloc (.cells #[.int .i64 0,.string ⟨#[]⟩,.int .u32 0,.int .u32 0,.slice none 0 0,.int .i64 0,.int .i64 0,.int .i64 0] 25)).alloc (.cells #[] 9)) w1:=ref.touch_grown hgrow;have HO:Hid (w1.ownsRow w.heap.size 9 1 (.slice (some ⟨g,0,none⟩) (0+l.length) cap) (0+l.length) ([]++l.map Value.string)):=hown;have HT:Hid (ref.Touch [w.heap.size+1+1] (((w.alloc (.cells #[.int .i64 pg,.string im,.int .u32 ba,.int .u32 en,.slice (some ad) l.length ca,.int .i64 fu,.int .i64 sl,.int .i64 ar] 25)).alloc (.cells #[.int .i64 0,.string ⟨#[]⟩,.int .u32 0,.int .u32 0,.slice none 0 0,.int .i64 0,.int .i64 0,.int .i64 0] 25)).alloc (.cells #[] 9)) w1):=ht;have HGA:Hid ((Value.slice (some ⟨w.heap.size+1+1,0,none⟩) 0 0).ownBlock=some g\/g=w.heap.size+1+1+1):=hat;have HG2:Hid (g<w1.heap.size):=hlt2;have c0:w1.cell? ⟨w.heap.size,0,none⟩=some (.int .i64 pg):=(ht.cell (p:=⟨w.heap.size,0,none⟩) fS fS).trans Xk2;have c1:w1.cell? ⟨w.heap.size,1,none⟩=some (.string im):=(ht.cell (p:=⟨w.heap.size,1,none⟩) fS fS).trans Xk2;have c2:w1.cell? ⟨w.heap.size,2,none⟩=some (.int .u32 ba):=(ht.cell (p:=⟨w.heap.size,2,none⟩) fS fS).trans Xk2;have c3:w1.cell? ⟨w.heap.size,3,none⟩=some (.int .u32 en):=(ht.cell (p:=⟨w.heap.size,3,none⟩) fS fS).trans Xk2;have c4:w1.cell? ⟨w.heap.size,4,none⟩=some (.slice (some ad) l.length ca):=(ht.cell (p:=⟨w.heap.size,4,none⟩) fS fS).trans Xk2;have c5:w1.cell? ⟨w.heap.size,5,none⟩=some (.int .i64 fu):=(ht.cell (p:=⟨w.heap.size,5,none⟩) fS fS).trans Xk2;have c6:w1.cell? ⟨w.heap.size,6,none⟩=some (.int .i64 sl):=(ht.cell (p:=⟨w.heap.size,6,none⟩) fS fS).trans Xk2;have c7:w1.cell? ⟨w.heap.size,7,none⟩=some (.int .i64 ar):=(ht.cell (p:=⟨w.heap.size,7,none⟩) fS fS).trans Xk2;have f4:w1.frozen? ⟨w.heap.size,4,none⟩=false:=(ht.frozen (p:=⟨w.heap.size,4,none⟩) fS fS).trans (by rw[World.frozen?_alloc_past _ _ _ fS,World.frozen?_alloc_past _ _ _ fS];exact World.frozen?_alloc_at _ _ _ _ rfl);have z0:w1.cell? ⟨w.heap.size+1,0,none⟩=some (.int .i64 0):=(ht.cell (p:=⟨w.heap.size+1,0,none⟩) fS fS).trans Xk4;have y0:w1.frozen? ⟨w.heap.size+1,0,none⟩=false:=(ht.frozen (p:=⟨w.heap.size+1,0,none⟩) fS fS).trans Xk3;have z1:w1.cell? ⟨w.heap.size+1,1,none⟩=some (.string ⟨#[]⟩):=(ht.cell (p:=⟨w.heap.size+1,1,none⟩) fS fS).trans Xk4;have y1:w1.frozen? ⟨w.heap.size+1,1,none⟩=false:=(ht.frozen (p:=⟨w.heap.size+1,1,none⟩) fS fS).trans Xk3;have z2:w1.cell? ⟨w.heap.size+1,2,none⟩=some (.int .u32 0):=(ht.cell (p:=⟨w.heap.size+1,2,none⟩) fS fS).trans Xk4;have y2:w1.frozen? ⟨w.heap.size+1,2,none⟩=false:=(ht.frozen (p:=⟨w.heap.size+1,2,none⟩) fS fS).trans Xk3;have z3:w1.cell? ⟨w.heap.size+1,3,none⟩=some (.int .u32 0):=(ht.cell (p:=⟨w.heap.size+1,3,none⟩) fS fS).trans Xk4;have y3:w1.frozen? ⟨w.heap.size+1,3,none⟩=false:=(ht.frozen (p:=⟨w.heap.size+1,3,none⟩) fS fS).trans Xk3;have z4:w1.cell? ⟨w.heap.size+1,4,none⟩=some (.slice none 0 0):=(ht.cell (p:=⟨w.heap.size+1,4,none⟩) fS fS).trans Xk4;have y4:w1.frozen? ⟨w.heap.size+1,4,none⟩=false:=(ht.frozen (p:=⟨w.heap.size+1,4,none⟩) fS fS).trans Xk3;have z5:w1.cell? ⟨w.heap.size+1,5,none⟩=some (.int .i64 0):=(ht.cell (p:=⟨w.heap.size+1,5,none⟩) fS fS).trans Xk4;have y5:w1.frozen? ⟨w.heap.size+1,5,none⟩=false:=(ht.frozen (p:=⟨w.heap.size+1,5,none⟩) fS fS).trans Xk3;have z6:w1.cell? ⟨w.heap.size+1,6,none⟩=some (.int .i64 0):=(ht.cell (p:=⟨w.heap.size+1,6,none⟩) fS fS).trans Xk4;have y6:w1.frozen? ⟨w.heap.size+1,6,none⟩=false:=(ht.frozen (p:=⟨w.heap.size+1,6,none⟩) fS fS).trans Xk3;have z7:w1.cell? ⟨w.heap.size+1,7,none⟩=some (.int .i64 0):=(ht.cell (p:=⟨w.heap.size+1,7,none⟩) fS fS).trans Xk4;have y7:w1.frozen? ⟨w.heap.size+1,7,none⟩=false:=(ht.frozen (p:=⟨w.heap.size+1,7,none⟩) fS fS).trans Xk3;have l1:w.heap.size+1+1+1<=w1.heap.size:=(by have:=ht.size;simp at this;omega);rw[Nat.zero_add];clear ht hown hgrow hat hlt2))
 refine bodyPost_ret (v:=.agg #[.int .i64 pg,.string im,.int .u32 ba,.int .u32 en,.slice (some ⟨g,0,none⟩) l.length cap,.int .i64 fu,.int .i64 sl,.int .i64 ar]) ?_ rfl ?_
 ·simp[results,Tryz.results13,go_sem,c0,c1,c2,c3,c4,c5,c6,c7,f4,z0,z1,z2,z3,z4,z5,z6,z7,y0,y1,y2,y3,y4,y5,y6,y7]
 ·have ho:=HO.out
  rw[Nat.zero_add,List.nil_append]at ho
  have hgb:w.heap.size+1+1<=g:=by
   rcases HGA.out with h|h
   ·simp[Value.ownBlock]at h;omega
   ·omega
  have t1:ref.Touch [] w w1:=prog.touchNew ((((ref.Touch.refl _ _).alloc _).alloc _).alloc _) HT.out (by simp;omega)
  refine copq_of pg im ba en fu sl ar l w w1 _ g cap oM HG2.out ho t1 ?_
  (repeat' (first|with_reducible exact ref.Touch.refl _ _|with_reducible apply ref.Touch.setCell))<;>(first|(simp;done))
end law
end Go.Proofs.YtjikimpejlmdiaaGreatDoor

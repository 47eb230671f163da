import Derived.Test.YtjikimpejlmdiaaGreatDoorZHj
import Derived.Deep.Cut
import Derived.Deep.CutRange
import Derived.BigRegion
import Derived.BigQuiet
import Derived.Deep.DrawnRows
import Derived.Lib.BitFns
import Derived.Lib.ItoaNum
set_option maxHeartbeats 4000000
set_option linter.unusedVariables false
set_option linter.unusedSimpArgs false
set_option maxRecDepth 10000
namespace Go.Proofs.YtjikimpejlmdiaaGreatDoor
theorem Xz0{p:Prop}(h:p:=by
 have HE:Hid (ref.Touch [] w w4):=⟨HU4.out.os,HU4.out.tape,HU4.out.output,by have:=HU4.out.size;simp at this;omega,fun q hq _=>(HU4.out.block q (by simp;omega) (by simp;omega)).trans (Below.heap_alloc _ _ q hq)⟩
 clear hs1 ht1
 go_wp2
 all_goals go_ret2
 all_goals exact⟨x,_,rfl,xl,xh,HS4.out.row,HE.out⟩):p:=h
theorem Xz1{p:Prop}(h:p:=by
 go_enter Tryz.func169,Tryz.ntmps169
 go_wp2
 go_ret
 exact⟨congrArg Ending.returned (congrArg (Value.int IntKind.i64) E.out),rfl⟩):p:=h
theorem Xz2{p:Prop}(h:p:=by have:=HX.out;have:=HY.out;rw[show j-1=jm by omega];omega):p:=h
namespace so
open ChangeShapes WideShapes ChangeAt RowKit Proofs.YtjikimpejlmdiaaGreatDoor
attribute [local go_sem ↓] Go.wp_at_zero Go.wp_at_succ
theorem rev_any(g n cap a b:Nat)(d:Nat->Int)(w:World)(h:RowU g n d w)(hn:n<=5000)(hab:a<b)(hb:b<=n):
  Calls Tryz.prog 163 #[.slice (some ⟨g,0,none⟩) n cap,.int .i64 a,.int .i64 b] w fun e w'=>e=.returned (.tuple #[])/\∃d',RowU g n d' w'/\Rr n a b d d'/\ref.Touch [g] w w':=by
 have HR:Hid (RowU g n d w):=h
 obtain⟨j0,hj0⟩:∃j0:Nat,(b:Int)-1=(j0:Int):=⟨b-1,by omega⟩
 clear h
 go_enter Tryz.func163,Tryz.ntmps163
 go_wp2
 go_loopw [6,7] (fun s t wr=>∃(i j:Nat) (e:Nat->Int),s=.int .i64 i/\t=.int .i64 j/\a<=i/\i<=j+1/\j<b/\RowU g n e wr/\Rr n a b d e/\ref.Touch [g] w wr) (fun s t _=>(intOf t+1-intOf s).toNat)
 case atStart=>exact⟨a,j0,d,by go_num,by go_num,by omega,by omega,by omega,HR.out,Rr.refl _ _ _ _,ref.Touch.refl _ _⟩
 case round=>
  obtain⟨i,j,e,rfl,rfl,g1,g2,g3,hr,hrr,ht⟩:=hrel
  have HR5:Hid (RowU g n e wr):=hr
  have HRR5:Hid (Rr n a b d e):=hrr
  have HT5:Hid (ref.Touch [g] w wr):=ht
  clear hr hrr ht
  by_cases hij:i<j
  ·have dg:decide ((i:Int)<(j:Int))=true:=by simp;omega
   obtain⟨x,hx⟩:∃x,x=e i:=⟨_,rfl⟩
   obtain⟨y,hy⟩:∃y,y=e j:=⟨_,rfl⟩
   have cx:wr.cell? ⟨g,i,none⟩=some (.int .u32 x):=by rw[hx];exact HR5.out.at' _ oM
   have cy:wr.cell? ⟨g,j,none⟩=some (.int .u32 y):=by rw[hy];exact HR5.out.at' _ oM
   have HSW:Hid (∀m,RowU g n (sw e i j) (((wr.drewN m).setCell ⟨g,i,none⟩ (.int .u32 y)).setCell ⟨g,j,none⟩ (.int .u32 x))/\ref.Touch [g] w (((wr.drewN m).setCell ⟨g,i,none⟩ (.int .u32 y)).setCell ⟨g,j,none⟩ (.int .u32 x))):=fun m=>by rw[hx,hy];exact HR5.out.swq HT5.out i j oM oM m
   obtain⟨u4,c4⟩:∃u,(wr.setCell ⟨g,i,none⟩ (.int .u32 y)).cell? ⟨g,j,none⟩=some u:=⟨_,(HR5.out.set i oM y).at' j oM⟩
   have f1:=HR5.out.free
   clear hx hy
   go_wp2
   go_region
   refine then_w (fun Y=>RowU g n (sw e i j) Y/\ref.Touch [g] w Y) (HSW.out _) (fun Y8 hY=> ?_)
   have HRY8:Hid (RowU g n (sw e i j) Y8):=hY.1
   have HTY8:Hid (ref.Touch [g] w Y8):=hY.2
   clear hY cx cy c4 f1 HSW
   go_wp2
   go_roundw
   case rel=>exact⟨i+1,j-1,sw e i j,by go_num,by go_num,by omega,by omega,by omega,HRY8.out,HRR5.out.trans (Rr.sw n a b e i j ⟨by omega,by omega⟩ ⟨by omega,by omega⟩ hb),HTY8.out⟩
   case measure=>simp[intOf];omega
  ·have dg:decide ((i:Int)<(j:Int))=false:=by simp;omega
   go_wp2
   go_end0
   exact⟨rfl,e,HR5.out,HRR5.out,HT5.out⟩
structure Sc (sb g n:Nat) (d:Nat->Int) (w:World):Prop where
 row:RowU g n d w
 ct:∃v,w.cell? ⟨sb,0,none⟩=some (.int .i64 v)
 fr:w.frozen? ⟨sb,0,none⟩=false
 ne:g≠sb
theorem Sc.dn {sb g n:Nat}{d:Nat->Int}{w:World}(h:Sc sb g n d w)(q:Nat):Sc sb g n d (w.drewN q):=⟨h.row.dn q,h.ct,h.fr,h.ne⟩
theorem Sc.set {sb g n:Nat}{d:Nat->Int}{w:World}(h:Sc sb g n d w)(hn:0<n)(q:Nat)(v:Int):Sc sb g n d ((w.drewN q).setCell ⟨sb,0,none⟩ (.int .i64 v)):=by
 obtain⟨u,hu⟩:=h.ct
 refine⟨(h.row.dn q).other hn ((ref.Touch.refl [sb] _).setCell sP _) (by simpa using h.ne),⟨v,World.cell?_setCell_same _ _ _ hu⟩,by rw[World.frozen?_setCell];exact h.fr,h.ne⟩
theorem or2_any(sb g n cap lo hi a b:Nat)(d:Nat->Int)(w:World)(h:Sc sb g n d w)(hn:n<=5000)(hb:hi<=n)(a1:lo<=a)(a2:a<hi)(b1:lo<=b)(b2:b<hi):
  Calls Tryz.prog 183 #[.slice (some ⟨g,0,none⟩) n cap,.int .i64 a,.int .i64 b,.pointer (some ⟨sb,0,none⟩)] w fun e w'=>∃x y:Nat,e=.returned (.tuple #[.int .i64 x,.int .i64 y])/\(lo<=x/\x<hi)/\(lo<=y/\y<hi)/\Sc sb g n d w'/\ref.Touch [sb] w w':=by
 have HS:Hid (Sc sb g n d w):=h
 obtain⟨v,cv⟩:=h.ct
 have fv:=h.fr
 obtain⟨x,hx⟩:∃x,x=d b:=⟨_,rfl⟩
 obtain⟨y,hy⟩:∃y,y=d a:=⟨_,rfl⟩
 have cx:w.cell? ⟨g,b,none⟩=some (.int .u32 x):=by rw[hx];exact h.row.at' _ oM
 have cy:w.cell? ⟨g,a,none⟩=some (.int .u32 y):=by rw[hy];exact h.row.at' _ oM
 clear h hx hy
 by_cases hl:x<y
 ·go_enter Tryz.func183,Tryz.ntmps183
  go_wp2_with fail
  go_quiet (first|(go_at_call 165;refine Calls.quiet_of_same (less_any _ _ _)))
  go_wp2
  go_ret2
  exact⟨b,a,rfl,⟨b1,b2⟩,⟨a1,a2⟩,HS.out.set oM _ _,((ref.Touch.refl _ _).drewN _).setCell sP _⟩
 ·go_enter Tryz.func183,Tryz.ntmps183
  go_wp2_with fail
  go_quiet (first|(go_at_call 165;refine Calls.quiet_of_same (less_any _ _ _)))
  go_wp2
  go_ret2
  exact⟨a,b,rfl,⟨a1,a2⟩,⟨b1,b2⟩,HS.out.dn _,(ref.Touch.refl _ _).drewN _⟩
theorem med_any(sb g n cap lo hi a b c:Nat)(d:Nat->Int)(w:World)(h:Sc sb g n d w)(hn:n<=5000)(hb:hi<=n)(a1:lo<=a)(a2:a<hi)(b1:lo<=b)(b2:b<hi)(c1:lo<=c)(c2:c<hi):
  Calls Tryz.prog 180 #[.slice (some ⟨g,0,none⟩) n cap,.int .i64 a,.int .i64 b,.int .i64 c,.pointer (some ⟨sb,0,none⟩)] w fun e w'=>∃x:Nat,e=.returned (.int .i64 x)/\(lo<=x/\x<hi)/\Sc sb g n d w'/\ref.Touch [sb] w w':=by
 have HS:Hid (Sc sb g n d w):=h
 clear h
 go_enter Tryz.func180,Tryz.ntmps180
 go_wp2_with fail
 refine(Calls.mono (or2_any sb g n cap lo hi a b d _ HS.out hn hb a1 a2 b1 b2) ?_)
 rintro e9 w1 ⟨x1,y1,rfl,⟨p1,p2⟩,⟨p3,p4⟩,hs1,ht1⟩
 have HS1:Hid (Sc sb g n d w1):=hs1
 have HU1:Hid (ref.Touch [sb] w w1):=ht1
 clear hs1 ht1
 go_wp2_with fail
 refine(Calls.mono (or2_any sb g n cap lo hi y1 c d _ HS1.out hn hb p3 p4 c1 c2) ?_)
 rintro e9 w2 ⟨x2,y2,rfl,⟨q1,q2⟩,⟨q3,q4⟩,hs1,ht1⟩
 have HS2:Hid (Sc sb g n d w2):=hs1
 have HU2:Hid (ref.Touch [sb] w w2):=HU1.out.trans ht1
 clear hs1 ht1
 go_wp2_with fail
 refine(Calls.mono (or2_any sb g n cap lo hi x1 x2 d _ HS2.out hn hb p1 p2 q1 q2) ?_)
 rintro e9 w3 ⟨x3,y3,rfl,⟨r1,r2⟩,⟨r3,r4⟩,hs1,ht1⟩
 have HS3:Hid (Sc sb g n d w3):=hs1
 have HU3:Hid (ref.Touch [sb] w w3):=HU2.out.trans ht1
 clear hs1 ht1
 go_wp2
 go_ret
 exact⟨y3,rfl,⟨r3,r4⟩,HS3.out,HU3.out⟩
theorem adj_any(sb g n cap lo hi a:Nat)(d:Nat->Int)(w:World)(h:Sc sb g n d w)(hn:n<=5000)(hb:hi<=n)(a1:lo+1<=a)(a2:a+1<hi):
  Calls Tryz.prog 179 #[.slice (some ⟨g,0,none⟩) n cap,.int .i64 a,.pointer (some ⟨sb,0,none⟩)] w fun e w'=>∃x:Nat,e=.returned (.int .i64 x)/\(lo<=x/\x<hi)/\Sc sb g n d w'/\ref.Touch [sb] w w':=by
 obtain⟨p,hp⟩:∃p:Nat,(a:Int)-1=(p:Int):=⟨a-1,by omega⟩
 obtain⟨q,hq⟩:∃q:Nat,(a:Int)+1=(q:Int):=⟨a+1,by omega⟩
 have HM:=med_any sb g n cap lo hi p a q d w h hn hb oM oM oM oM oM oM
 have HM2:Hid (Calls Tryz.prog 180 _ w _):=HM
 clear h HM
 go_enter Tryz.func179,Tryz.ntmps179
 go_wp2_with fail
 refine(Calls.mono HM2.out ?_)
 rintro e9 w1 ⟨x1,rfl,hx,hs1,ht1⟩
 have K:Hid ((lo<=x1/\x1<hi)/\Sc sb g n d w1/\ref.Touch [sb] w w1):=⟨hx,hs1,ht1⟩
 clear hx hs1 ht1
 go_wp2
 go_ret
 exact⟨x1,rfl,K.out⟩
theorem chp_b(g n cap a b:Nat)(d:Nat->Int)(w:World)(h:RowU g n d w)(hn:n<=5000)(hab:a+12<b)(hb:b<=n)(hl:50<=b-a):
  Calls Tryz.prog 162 #[.slice (some ⟨g,0,none⟩) n cap,.int .i64 a,.int .i64 b] w fun e w'=>∃(p:Nat) (hint:Int),e=.returned (.tuple #[.int .i64 p,.int .i64 hint])/\a<=p/\p<b/\RowU g n d w'/\ref.Touch [] w w':=by
 have lg:=h.lt oM
 have HS:Hid (Sc w.heap.size g n d (w.alloc (.cells #[.int .i64 0] 3))):=⟨h.other oM ((ref.Touch.refl [] _).alloc _) sP,⟨0,World.cell?_alloc_at _ _ _ _ rfl⟩,World.frozen?_alloc_at _ _ _ _ rfl,by omega⟩
 obtain⟨l,hl1⟩:∃l:Nat,(b:Int)-(a:Int)=(l:Int):=⟨b-a,by omega⟩
 obtain⟨t,ht1⟩:∃t:Nat,(l:Int)/4=(t:Int):=⟨l/4,by omega⟩
 obtain⟨i,hi1⟩:∃i:Nat,(a:Int)+(t:Int)=(i:Int):=⟨a+t,by omega⟩
 obtain⟨j,hj1⟩:∃j:Nat,(a:Int)+(t:Int)*2=(j:Int):=⟨a+t*2,by omega⟩
 obtain⟨k,hk1⟩:∃k:Nat,(a:Int)+(t:Int)*3=(k:Int):=⟨a+t*3,by omega⟩
 have h8:decide ((8:Int)<=(l:Int))=true:=by simp;omega
 have h50:decide ((50:Int)<=(l:Int))=true:=by simp;omega
 clear h
 go_enter Tryz.func162,Tryz.ntmps162
 go_wp2_with fail
 refine(Calls.mono (adj_any w.heap.size g n cap a b i d _ HS.out hn hb oM oM) ?_)
 rintro e9 w1 ⟨i1,rfl,⟨i1l,i1h⟩,hs1,ht1⟩
 have HS1:Hid (Sc w.heap.size g n d w1):=hs1
 have HU1:Hid (ref.Touch [w.heap.size] (w.alloc (.cells #[.int .i64 0] 3)) w1):=ht1
 clear hs1 ht1
 go_wp2_with fail
 refine(Calls.mono (adj_any w.heap.size g n cap a b j d _ HS1.out hn hb oM oM) ?_)
 rintro e9 w2 ⟨j1,rfl,⟨j1l,j1h⟩,hs1,ht1⟩
 have HS2:Hid (Sc w.heap.size g n d w2):=hs1
 have HU2:Hid (ref.Touch [w.heap.size] (w.alloc (.cells #[.int .i64 0] 3)) w2):=HU1.out.trans ht1
 clear hs1 ht1
 go_wp2_with fail
 refine(Calls.mono (adj_any w.heap.size g n cap a b k d _ HS2.out hn hb oM oM) ?_)
 rintro e9 w3 ⟨k1,rfl,⟨k1l,k1h⟩,hs1,ht1⟩
 have HS3:Hid (Sc w.heap.size g n d w3):=hs1
 have HU3:Hid (ref.Touch [w.heap.size] (w.alloc (.cells #[.int .i64 0] 3)) w3):=HU2.out.trans ht1
 clear hs1 ht1
 go_wp2_with fail
 refine(Calls.mono (med_any w.heap.size g n cap a b i1 j1 k1 d _ HS3.out hn hb i1l i1h j1l j1h k1l k1h) ?_)
 rintro e9 w4 ⟨x,rfl,⟨xl,xh⟩,hs1,ht1⟩
 obtain⟨v,cv⟩:=hs1.ct
 have HS4:Hid (Sc w.heap.size g n d w4):=hs1
 have HU4:Hid (ref.Touch [w.heap.size] (w.alloc (.cells #[.int .i64 0] 3)) w4):=HU3.out.trans ht1
 exact Xz0
theorem chp_s(g n cap a b:Nat)(d:Nat->Int)(w:World)(h:RowU g n d w)(hn:n<=5000)(hab:a+12<b)(hb:b<=n)(hl:¬50<=b-a):
  Calls Tryz.prog 162 #[.slice (some ⟨g,0,none⟩) n cap,.int .i64 a,.int .i64 b] w fun e w'=>∃(p:Nat) (hint:Int),e=.returned (.tuple #[.int .i64 p,.int .i64 hint])/\a<=p/\p<b/\RowU g n d w'/\ref.Touch [] w w':=by
 have lg:=h.lt oM
 have HS:Hid (Sc w.heap.size g n d (w.alloc (.cells #[.int .i64 0] 3))):=⟨h.other oM ((ref.Touch.refl [] _).alloc _) sP,⟨0,World.cell?_alloc_at _ _ _ _ rfl⟩,World.frozen?_alloc_at _ _ _ _ rfl,by omega⟩
 obtain⟨l,hl1⟩:∃l:Nat,(b:Int)-(a:Int)=(l:Int):=⟨b-a,by omega⟩
 obtain⟨t,ht1⟩:∃t:Nat,(l:Int)/4=(t:Int):=⟨l/4,by omega⟩
 obtain⟨i,hi1⟩:∃i:Nat,(a:Int)+(t:Int)=(i:Int):=⟨a+t,by omega⟩
 obtain⟨j,hj1⟩:∃j:Nat,(a:Int)+(t:Int)*2=(j:Int):=⟨a+t*2,by omega⟩
 obtain⟨k,hk1⟩:∃k:Nat,(a:Int)+(t:Int)*3=(k:Int):=⟨a+t*3,by omega⟩
 have h8:decide ((8:Int)<=(l:Int))=true:=by simp;omega
 have h50:decide ((50:Int)<=(l:Int))=false:=by simp;omega
 clear h
 go_enter Tryz.func162,Tryz.ntmps162
 go_wp2_with fail
 refine(Calls.mono (med_any w.heap.size g n cap a b i j k d _ HS.out hn hb oM oM oM oM oM oM) ?_)
 rintro e9 w4 ⟨x,rfl,⟨xl,xh⟩,hs1,ht1⟩
 obtain⟨v,cv⟩:=hs1.ct
 have HS4:Hid (Sc w.heap.size g n d w4):=hs1
 have HU4:Hid (ref.Touch [w.heap.size] (w.alloc (.cells #[.int .i64 0] 3)) w4):=ht1
 exact Xz0
theorem Ins.of {a i:Nat}{d:Nat->Int}(h:Sd a i d)(hi:a<i):Ins a (i-1) (i-1) (sw d i (i-1)):=by
 refine⟨fun p q h1 h2 h3 h4 h5=> ?_,fun q h1 h2=>by omega⟩
 rw[sw_o _ _ _ _ oM oM,sw_o _ _ _ _ oM oM]
 exact h p q h1 h2 oM
theorem Sd.of {a i:Nat}{d:Nat->Int}(h:Sd a i d)(hi:i=a+1):Sd a i (sw d i (i-1)):=fun p q h1 h2 h3=>by omega
def PinQ (g n a b:Nat) (d:Nat->Int) (w:World) (e:Ending) (w':World):Prop:=∃(r:Bool) (d':Nat->Int),e=.returned (.bool r)/\RowU g n d' w'/\Rr n a b d d'/\(r=true->Sd a b d')/\ref.Touch [g] w w'
theorem pin_any(g n cap a b:Nat)(d:Nat->Int)(w:World)(h:RowU g n d w)(hn:n<=5000)(hab:a+12<b)(hb:b<=n)(hlo:Lo a b d):
  Calls Tryz.prog 164 #[.slice (some ⟨g,0,none⟩) n cap,.int .i64 a,.int .i64 b] w (PinQ g n a b d w):=by
 have HR:Hid (RowU g n d w):=h
 have HLo:Hid (∀e,Rr n a b d e->0<a->∀k,a<=k->k<b->e (a-1)<=e k):=fun e r=>hlo.rr r
 clear h hlo
 go_enter Tryz.func164,Tryz.ntmps164
 go_wp2
 go_loopw [7,8] (fun s t wr=>∃(i j:Nat) (e:Nat->Int),s=.int .i64 i/\t=.int .i64 j/\a+1<=i/\i<=b/\j<=5/\RowU g n e wr/\Rr n a b d e/\Sd a i e/\ref.Touch [g] w wr) (fun s t _=>5-(intOf t).toNat)
 case atStart=>exact⟨a+1,0,d,by go_num,by go_num,by omega,by omega,by omega,HR.out,Rr.refl _ _ _ _,fun p q h1 h2 h3=>by omega,ref.Touch.refl _ _⟩
 case round=>
  obtain⟨i0,j0,e1,rfl,rfl,g1,g2,g3,hr,hrr,hsd,ht⟩:=hrel
  have HR1:Hid (RowU g n e1 wr):=hr
  have HRR1:Hid (Rr n a b d e1):=hrr
  have HS1:Hid (Sd a i0 e1):=hsd
  have HT1:Hid (ref.Touch [g] w wr):=ht
  clear hr hrr hsd ht
  by_cases h5:j0<5
  rotate_left
  ·have d5:decide ((j0:Int)<5)=false:=by simp;omega
   go_wp2
   go_ret
   exact⟨false,e1,rfl,HR1.out,HRR1.out,(fun h=>by cases h),HT1.out⟩
  have d5:decide ((j0:Int)<5)=true:=by simp;omega
  go_wp2
  go_loopw [7] (fun s wr=>∃i:Nat,s=.int .i64 i/\a+1<=i/\i<=b/\RowU g n e1 wr/\Sd a i e1/\ref.Touch [g] w wr) (fun s _=>b-(intOf s).toNat)
  case atStart=>exact⟨i0,rfl,g1,g2,HR1.out,HS1.out,HT1.out⟩
  case round=>
   clear HR1 HS1 HT1
   obtain⟨i,rfl,k1,k2,hr,hsd,ht⟩:=hrel
   have HR1:Hid (RowU g n e1 wr):=hr
   have HS1:Hid (Sd a i e1):=hsd
   have HT1:Hid (ref.Touch [g] w wr):=ht
   clear hr hsd ht
   obtain⟨im,him⟩:∃im:Nat,(i:Int)-1=(im:Int):=⟨i-1,by omega⟩
   go_upto_region 5 with fail
   go_cut [32]from 17 to 32 (fun s wx=>∃bb:Bool,s=.bool bb/\RowU g n e1 wx/\ref.Touch [g] w wx/\bb=decide (i<b/\¬e1 i<e1 im))
   case first=>
    by_cases hle:i<b
    ·have dq:decide ((i:Int)<(b:Int))=true:=by simp;omega
     obtain⟨x,hx⟩:∃x,x=e1 i:=⟨_,rfl⟩
     obtain⟨y,hy⟩:∃y,y=e1 im:=⟨_,rfl⟩
     have cx:wr.cell? ⟨g,i,none⟩=some (.int .u32 x):=by rw[hx];exact HR1.out.at' _ oM
     have cy:wr.cell? ⟨g,im,none⟩=some (.int .u32 y):=by rw[hy];exact HR1.out.at' _ oM
     have HX:Hid (x=e1 i):=hx
     have HY:Hid (y=e1 im):=hy
     clear hx hy
     go_wp2_with fail
     go_quiet (first|(go_at_call 165;refine Calls.quiet_of_same (less_any _ _ _)))
     go_wp2
     go_meet
     exact⟨_,rfl,HR1.out.dn _,HT1.out.drewN _,by rw[<-HX.out,<-HY.out];by_cases q:x<y<;>simp[hle,q]<;>omega⟩
    ·have dq:decide ((i:Int)<(b:Int))=false:=by simp;omega
     go_wp2_with fail
     go_quiet (first|(go_at_call 165;refine Calls.quiet_of_same (less_any _ _ _)))
     go_wp2
     go_meet
     exact⟨_,rfl,HR1.out.dn _,HT1.out.drewN _,by simp[hle]⟩
   case rest=>
   obtain⟨bb,rfl,hr,ht,hbb⟩:=hcut
   obtain⟨Z,hZ⟩:∃Z,Z=wc:=⟨_,rfl⟩
   subst hZ
   have HRz:Hid (RowU g n e1 Z):=hr
   have HTz:Hid (ref.Touch [g] w Z):=ht
   have HBB:Hid (bb=decide (i<b/\¬e1 i<e1 im)):=hbb
   clear hr ht hbb HR1 HT1
   cases bb with
   |true=>
    have hq:=of_decide_eq_true HBB.out.symm
    have HBt:Hid (i<b/\¬e1 i<e1 im):=hq
    have hib:i<b:=hq.1
    clear HBB hq
    go_wp2
    go_roundw
    case rel=>exact⟨i+1,by go_num,by omega,by omega,HRz.out,fun p q h1 h2 h3=>by
     by_cases c:q=i
     ·subst c
      by_cases c2:p=im
      ·subst c2;have:=HBt.out.2;omega
      ·have:=HS1.out p im h1 oM oM;have:=HBt.out.2;omega
     ·exact HS1.out p q h1 h2 oM,HTz.out⟩
    case measure=>simp[intOf];omega
   |false=>
    have hq:=of_decide_eq_false HBB.out.symm
    have HBf:Hid (¬(i<b/\¬e1 i<e1 im)):=hq
    clear HBB hq
    by_cases hib:i=b
    ·have db:((i:Int)==(b:Int))=true:=by simp;omega
     go_wp2
     go_ret
     exact⟨true,e1,rfl,HRz.out,HRR1.out,(fun _=>by rw[<-hib];exact HS1.out),HTz.out⟩
    ·have db:((i:Int)==(b:Int))=false:=by simp;omega
     obtain⟨l,hl⟩:∃l:Nat,(b:Int)-(a:Int)=(l:Int):=⟨b-a,by omega⟩
     by_cases h50:l<50
     ·have d50:decide ((l:Int)<50)=true:=by simp;omega
      go_wp2
      go_ret
      exact⟨false,e1,rfl,HRz.out,HRR1.out,(fun h=>by cases h),HTz.out⟩
     have d50:decide ((l:Int)<50)=false:=by simp;omega
     have hfl:e1 i<e1 im:=by have:=HBf.out;exact Classical.byContradiction fun q=>this ⟨by omega,q⟩
     have HS3:Hid (∀m,RowU g n (sw e1 i im) (((Z.drewN m).setCell ⟨g,i,none⟩ (.int .u32 (e1 im))).setCell ⟨g,im,none⟩ (.int .u32 (e1 i)))/\ref.Touch [g] w (((Z.drewN m).setCell ⟨g,i,none⟩ (.int .u32 (e1 im))).setCell ⟨g,im,none⟩ (.int .u32 (e1 i)))):=fun m=>HRz.out.swq HTz.out i im oM oM m
     have cx:Z.cell? ⟨g,i,none⟩=some (.int .u32 (e1 i)):=HRz.out.at' _ oM
     have cy:Z.cell? ⟨g,im,none⟩=some (.int .u32 (e1 im)):=HRz.out.at' _ oM
     have f1:=HRz.out.free
     have HRR3:Hid (Rr n a b d (sw e1 i im)):=HRR1.out.trans (Rr.sw n a b e1 i im ⟨by omega,by omega⟩ ⟨by omega,by omega⟩ hb)
     have HI3:Hid (Ins a (i-1) (i-1) (sw e1 i im)):=(by have:=Ins.of HS1.out oM;rwa [show i-1=im by omega]at this ⊢)
     have HS3z:Hid (i=a+1->Sd a i (sw e1 i im)):=fun hq=>(by have:=HS1.out.of hq;rwa [show i-1=im by omega]at this)
     go_wp2
     go_region
     refine then_w (fun Y=>RowU g n (sw e1 i im) Y/\ref.Touch [g] w Y) (HS3.out _) (fun Y3 hY=> ?_)
     have HR3:Hid (RowU g n (sw e1 i im) Y3):=hY.1
     have HT3:Hid (ref.Touch [g] w Y3):=hY.2
     clear hY cx cy f1 HS3 hfl HBf
     obtain⟨e3,he3⟩:∃e3,e3=sw e1 i im:=⟨_,rfl⟩
     rw[<-he3]at HR3 HRR3 HI3 HS3z
     clear he3
     obtain⟨ia,hia⟩:∃ia:Nat,(i:Int)-(a:Int)=(ia:Int):=⟨i-a,by omega⟩
     obtain⟨bi,hbi⟩:∃bi:Nat,(b:Int)-(i:Int)=(bi:Int):=⟨b-i,by omega⟩
     obtain⟨b2,hb2⟩:∃b2,decide ((2:Int)<=(ia:Int))=b2:=⟨_,rfl⟩
     obtain⟨b3,hb3⟩:∃b3,decide ((2:Int)<=(bi:Int))=b3:=⟨_,rfl⟩
     go_upto_if 61 with fail
     go_cut [9]from 62 (fun s wx=>∃e,RowU g n e wx/\Rr n a b d e/\Sd a i e/\ref.Touch [g] w wx)
     case first=>
      cases b2 with
      |true=>
       have h2:(2:Int)<=(ia:Int):=of_decide_eq_true hb2
       go_wp2
       go_loopw [9] (fun s wr=>∃(j:Nat) (e:Nat->Int),s=.int .i64 j/\a<=j/\j<i/\RowU g n e wr/\Rr n a b d e/\Ins a (i-1) j e/\ref.Touch [g] w wr) (fun s _=>(intOf s).toNat)
       case atStart=>exact⟨i-1,e3,by go_num,by omega,by omega,HR3.out,HRR3.out,HI3.out,HT3.out⟩
       case round=>
        obtain⟨j,e6,rfl,hj1,hj2,hr,hrr,hk,ht⟩:=hrel
        have HR6:Hid (RowU g n e6 wr):=hr
        have HRR6:Hid (Rr n a b d e6):=hrr
        have HK6:Hid (Ins a (i-1) j e6):=hk
        have HT6:Hid (ref.Touch [g] w wr):=ht
        clear hr hrr hk ht
        by_cases hgo:1<=j
        rotate_left
        ·have dgo:decide ((1:Int)<=(j:Int))=false:=by simp;omega
         go_wp2
         go_meet
         exact⟨e6,HR6.out,HRR6.out,by have q:=HK6.out.done oM oM (Or.inl oM);rwa [show i-1+1=i by omega]at q,HT6.out⟩
        ·have dgo:decide ((1:Int)<=(j:Int))=true:=by simp;omega
         obtain⟨jm,hjm⟩:∃jm:Nat,(j:Int)-1=(jm:Int):=⟨j-1,by omega⟩
         obtain⟨x,hx⟩:∃x,x=e6 j:=⟨_,rfl⟩
         obtain⟨y,hy⟩:∃y,y=e6 jm:=⟨_,rfl⟩
         have cx:wr.cell? ⟨g,j,none⟩=some (.int .u32 x):=by rw[hx];exact HR6.out.at' _ oM
         have cy:wr.cell? ⟨g,jm,none⟩=some (.int .u32 y):=by rw[hy];exact HR6.out.at' _ oM
         have HX:Hid (x=e6 j):=hx
         have HY:Hid (y=e6 jm):=hy
         clear hx hy
         by_cases hl:x<y
         rotate_left
         ·have dl:(!decide (x<y))=true:=by simp;omega
          go_wp2_with fail
          go_quiet (first|(go_at_call 165;refine Calls.quiet_of_same (less_any _ _ _)))
          go_wp2
          all_goals first|(exfalso;have q9:(!decide (x<y))=false:=aS;simp at q9;omega)|skip
          go_meet
          exact⟨e6,HR6.out.dn _,HRR6.out,by have q:=HK6.out.done oM oM (Or.inr Xz2);rwa [show i-1+1=i by omega]at q,HT6.out.drewN _⟩
         ·have hja:a<j:=by
           rcases Nat.lt_or_ge a j with q|q
           ·exact q
           ·exfalso
            obtain rfl:j=a:=by omega
            have:=HLo.out e6 HRR6.out oM j oM oM
            rw[show j-1=jm by omega]at this
            have:=HX.out
            have:=HY.out
            omega
          have HS6:Hid (∀m,RowU g n (sw e6 j jm) (((wr.drewN m).setCell ⟨g,j,none⟩ (.int .u32 y)).setCell ⟨g,jm,none⟩ (.int .u32 x))/\ref.Touch [g] w (((wr.drewN m).setCell ⟨g,j,none⟩ (.int .u32 y)).setCell ⟨g,jm,none⟩ (.int .u32 x))):=fun m=>by rw[HX.out,HY.out];exact HR6.out.swq HT6.out j jm oM oM m
          have f1:=HR6.out.free
          go_wp2_with fail
          go_quiet (first|(go_at_call 165;refine Calls.quiet_of_same (less_any _ _ _)))
          go_wp2
          all_goals first|(exfalso;have q9:(!decide (x<y))=true:=aS;simp at q9;omega)|skip
          go_region
          go_wp2
          go_roundw
          case rel=>exact⟨j-1,sw e6 j jm,by go_num,by omega,by omega,(HS6.out _).1,HRR6.out.trans (Rr.sw n a b e6 j jm ⟨by omega,by omega⟩ ⟨by omega,by omega⟩ hb),by have q:=HK6.out.step hja oM Xz2;rw[show j-1=jm by omega]at q ⊢;exact q,(HS6.out _).2⟩
          case measure=>simp[intOf];omega
      |false=>
       have h2:¬(2:Int)<=(ia:Int):=of_decide_eq_false hb2
       go_wp2
       go_meet
       exact⟨e3,HR3.out,HRR3.out,HS3z.out oM,HT3.out⟩
     case rest=>
     obtain⟨e4,hr,hrr,hsd,ht⟩:=hcut
     obtain⟨Y4,hY4⟩:∃Y4,Y4=wc:=⟨_,rfl⟩
     subst hY4
     have HR4:Hid (RowU g n e4 Y4):=hr
     have HRR4:Hid (Rr n a b d e4):=hrr
     have HS4:Hid (Sd a i e4):=hsd
     have HT4:Hid (ref.Touch [g] w Y4):=ht
     clear hr hrr hsd ht HR3 HRR3 HI3 HS3z HT3
     cases b3 with
     |true=>
      have h2:(2:Int)<=(bi:Int):=of_decide_eq_true hb3
      go_wp2
      go_loopw [10] (fun s wr=>∃(j:Nat) (e:Nat->Int),s=.int .i64 j/\i<j/\j<=b/\RowU g n e wr/\Rr n a b d e/\Sd a i e/\ref.Touch [g] w wr) (fun s _=>b-(intOf s).toNat)
      case atStart=>exact⟨i+1,e4,by go_num,by omega,by omega,HR4.out,HRR4.out,HS4.out,HT4.out⟩
      case round=>
       obtain⟨j,e6,rfl,hj1,hj2,hr,hrr,hk,ht⟩:=hrel
       have HR6:Hid (RowU g n e6 wr):=hr
       have HRR6:Hid (Rr n a b d e6):=hrr
       have HK6:Hid (Sd a i e6):=hk
       have HT6:Hid (ref.Touch [g] w wr):=ht
       clear hr hrr hk ht
       by_cases hgo:j<b
       rotate_left
       ·have dgo:decide ((j:Int)<(b:Int))=false:=by simp;omega
        go_wp2
        go_roundw
        case rel=>exact⟨i,j0+1,e6,rfl,by go_num,by omega,by omega,by omega,HR6.out,HRR6.out,HK6.out,HT6.out⟩
        case measure=>simp[intOf];omega
       ·have dgo:decide ((j:Int)<(b:Int))=true:=by simp;omega
        obtain⟨jm,hjm⟩:∃jm:Nat,(j:Int)-1=(jm:Int):=⟨j-1,by omega⟩
        obtain⟨x,hx⟩:∃x,x=e6 j:=⟨_,rfl⟩
        obtain⟨y,hy⟩:∃y,y=e6 jm:=⟨_,rfl⟩
        have cx:wr.cell? ⟨g,j,none⟩=some (.int .u32 x):=by rw[hx];exact HR6.out.at' _ oM
        have cy:wr.cell? ⟨g,jm,none⟩=some (.int .u32 y):=by rw[hy];exact HR6.out.at' _ oM
        have HX:Hid (x=e6 j):=hx
        have HY:Hid (y=e6 jm):=hy
        clear hx hy
        by_cases hl:x<y
        rotate_left
        ·have dl:(!decide (x<y))=true:=by simp;omega
         go_wp2_with fail
         go_quiet (first|(go_at_call 165;refine Calls.quiet_of_same (less_any _ _ _)))
         go_wp2
         all_goals first|(exfalso;have q9:(!decide (x<y))=false:=aS;simp at q9;omega)|skip
         go_roundw
         case rel=>exact⟨i,j0+1,e6,rfl,by go_num,by omega,by omega,by omega,HR6.out.dn _,HRR6.out,HK6.out,HT6.out.drewN _⟩
         case measure=>simp[intOf];omega
        ·have hja:True:=by
          trivial
         have HS6:Hid (∀m,RowU g n (sw e6 j jm) (((wr.drewN m).setCell ⟨g,j,none⟩ (.int .u32 y)).setCell ⟨g,jm,none⟩ (.int .u32 x))/\ref.Touch [g] w (((wr.drewN m).setCell ⟨g,j,none⟩ (.int .u32 y)).setCell ⟨g,jm,none⟩ (.int .u32 x))):=fun m=>by rw[HX.out,HY.out];exact HR6.out.swq HT6.out j jm oM oM m
         have f1:=HR6.out.free
         go_wp2_with fail
         go_quiet (first|(go_at_call 165;refine Calls.quiet_of_same (less_any _ _ _)))
         go_wp2
         all_goals first|(exfalso;have q9:(!decide (x<y))=true:=aS;simp at q9;omega)|skip
         go_region
         go_wp2
         go_roundw
         case rel=>exact⟨j+1,sw e6 j jm,by go_num,by omega,by omega,(HS6.out _).1,HRR6.out.trans (Rr.sw n a b e6 j jm ⟨by omega,by omega⟩ ⟨by omega,by omega⟩ hb),fun p q h1 h2 h3=>by rw[sw_o _ _ _ _ oM oM,sw_o _ _ _ _ oM oM];exact HK6.out p q h1 h2 h3,(HS6.out _).2⟩
         case measure=>simp[intOf];omega
     |false=>
      go_wp2
      go_roundw
      case rel=>exact⟨i,j0+1,e4,rfl,by go_num,by omega,by omega,by omega,HR4.out,HRR4.out,HS4.out,HT4.out⟩
      case measure=>simp[intOf];omega
theorem nx_any(xb:Nat)(X:Int)(w:World)(c:w.cell? ⟨xb,0,none⟩=some (.int .u64 X))(f:w.frozen? ⟨xb,0,none⟩=false):
  Calls Tryz.prog 178 #[.pointer (some ⟨xb,0,none⟩)] w fun e w'=>∃v,e=.returned (.int .u64 v)/\w'.cell? ⟨xb,0,none⟩=some (.int .u64 v)/\w'.frozen? ⟨xb,0,none⟩=false/\ref.Touch [xb] w w':=by
 go_enter Tryz.func178,Tryz.ntmps178
 go_wp2
 go_region
 refine then_w (fun Y=>∃v,Y.cell? ⟨xb,0,none⟩=some (.int .u64 v)/\Y.frozen? ⟨xb,0,none⟩=false/\ref.Touch [xb] w Y) ⟨_,World.cell?_setCell_same _ _ _ c,by simpa using f,((ref.Touch.setCell (ref.Touch.refl _ _) sP _).drew)⟩ (fun Y1 hY=> ?_)
 obtain⟨v1,c1,f1,t1⟩:=hY
 have T1:Hid (ref.Touch [xb] w Y1):=t1
 clear t1
 go_wp2
 go_region
 refine then_w (fun Y=>∃v,Y.cell? ⟨xb,0,none⟩=some (.int .u64 v)/\Y.frozen? ⟨xb,0,none⟩=false/\ref.Touch [xb] w Y) ⟨_,World.cell?_setCell_same _ _ _ c1,by simpa using f1,((ref.Touch.setCell T1.out sP _).drew)⟩ (fun Y2 hY=> ?_)
 obtain⟨v2,c2,f2,t2⟩:=hY
 have T2:Hid (ref.Touch [xb] w Y2):=t2
 clear t2
 go_wp2
 go_region
 refine then_w (fun Y=>∃v,Y.cell? ⟨xb,0,none⟩=some (.int .u64 v)/\Y.frozen? ⟨xb,0,none⟩=false/\ref.Touch [xb] w Y) ⟨_,World.cell?_setCell_same _ _ _ c2,by simpa using f2,((ref.Touch.setCell T2.out sP _).drew)⟩ (fun Y3 hY=> ?_)
 obtain⟨v3,c3,f3,t3⟩:=hY
 have T3:Hid (ref.Touch [xb] w Y3):=t3
 clear t3
 go_wp2
 go_ret
 exact⟨v3,rfl,c3,f3,T3.out⟩
set_option maxRecDepth 100000 in
theorem l64_any(x:Int)(w:World)(h0:0<=x)(h1:x<=5000):Calls Tryz.prog 169 #[.int .u64 x] w fun e w'=>e=.returned (.int .i64 (Lib.bitLen x.toNat))/\w'=w:=by
 by_cases h2:x<=255
 ·have a1:¬4294967296<=x:=by omega
  have a2:¬65536<=x:=by omega
  have a3:¬256<=x:=by omega
  have E:Hid (wrap64 (wrap64 (Lib.len8 x))=(Lib.bitLen x.toNat:Int)):=by
   have l:=Lib.bitLen_le8' x h0 h2
   show wrap64 (wrap64 (Lib.len8 x))=_
   rw[Lib.len8_of x h0 h2];unfold wrap64;omega
  exact Xz1
 ·have a1:¬4294967296<=x:=by omega
  have a2:¬65536<=x:=by omega
  have a3:256<=x:=by omega
  have a4:0<=x/256:=by omega
  have a5:x/256<=255:=by omega
  have E:Hid (wrap64 (8+wrap64 (Lib.len8 (x/256)))=(Lib.bitLen x.toNat:Int)):=by
   have l:=Lib.bitLen_le8' (x/256) a4 a5
   have s:=Lib.bitLen_shift8 x.toNat oM oM
   have q:(x/256).toNat=x.toNat/256:=by omega
   show wrap64 (8+wrap64 (Lib.len8 (x/256)))=_
   rw[Lib.len8_of _ a4 a5]
   rw[q]at l ⊢
   rw[s];unfold wrap64;omega
  exact Xz1
theorem len_any(x:Nat)(hx:x<=5000)(w:World):Calls Tryz.prog 143 #[.int .u64 x] w fun e w'=>e=.returned (.int .i64 ((Lib.bitLen x:Nat):Int))/\w'=w:=by
 have e:((x:Int)).toNat=x:=by omega
 have HL:=l64_any (x:Int) w oM oM
 rw[e]at HL
 clear e
 have HLL:Hid (Calls Tryz.prog 169 #[.int .u64 (x:Int)] w fun e w'=>e=.returned (.int .i64 ((Lib.bitLen x:Nat):Int))/\w'=w):=HL
 clear HL
 go_enter Tryz.func143,Tryz.ntmps143
 go_wp2_with (first|(go_at_call 169;refine(Calls.mono HLL.out ?_);rintro e9 w9 ⟨rfl,hw9⟩;subst w9))
 go_ret
 exact⟨rfl,rfl⟩
theorem bl_bd(x:Nat)(h0:0<x)(hx:x<=5000):x<2^Lib.bitLen x/\2^Lib.bitLen x<=2*x:=by
 obtain⟨h1,h2,h3⟩:=Lib.bitLenAux_bounds 64 x oM oM
 refine⟨h3, ?_⟩
 have:2^Lib.bitLen x=2*2^(Lib.bitLen x-1):=by
  rw[show Lib.bitLen x=Lib.bitLen x-1+1 by unfold Lib.bitLen;omega,Nat.pow_succ];simp;omega
 unfold Lib.bitLen at*
 omega
theorem npt_any(x:Nat)(h0:0<x)(hx:x<=5000)(w:World):Calls Tryz.prog 177 #[.int .i64 x] w fun e w'=>∃M:Nat,e=.returned (.int .u64 M)/\w'=w/\x<M/\M<=2*x:=by
 obtain⟨L,hL⟩:∃L,L=Lib.bitLen x:=⟨_,rfl⟩
 obtain⟨b1,b2⟩:=bl_bd x h0 hx
 have HL:=len_any x hx w
 rw[<-hL]at HL b1 b2
 have hL2:L<=13:=by
  rcases Nat.lt_or_ge 13 L with q|q
  ·have:=Nat.pow_le_pow_right (n:=2) dC q
   omega
  ·exact q
 have HLL:Hid (Calls Tryz.prog 143 #[.int .u64 (x:Int)] w fun e w'=>e=.returned (.int .i64 ((L:Nat):Int))/\w'=w):=HL
 clear HL hL
 go_enter Tryz.func177,Tryz.ntmps177
 go_wp2_with (first|(go_at_call 143;refine(Calls.mono HLL.out ?_);rintro e9 w9 ⟨rfl,hw9⟩;subst w9))
 have hw:IntKind.u64.wrap (2^L)=((2^L:Nat):Int):=by
  have e:((2:Int)^L)=((2^L:Nat):Int):=by simp
  rw[e];simp only[IntKind.wrap,IntKind.bits,IntKind.signed];simp;omega
 rw[hw]
 go_ret
 exact⟨2^L,rfl,rfl,b1,b2⟩
theorem and_bd(V:Int)(M:Nat)(h0:0<M)(h:M<=10000):∃o:Nat,wrap64 (bits BinOp.and IntKind.u64 V ((M:Int)-1))=(o:Int)/\o<M:=by
 have hy:(BitVec.ofInt 64 ((M:Int)-1)).toNat=M-1:=by
  rw[BitVec.toNat_ofInt];omega
 have hle:(BitVec.ofInt 64 V&&&BitVec.ofInt 64 ((M:Int)-1)).toNat<=M-1:=by
  rw[BitVec.toNat_and,hy];exact Nat.and_le_right
 obtain⟨o,ho⟩:∃o,o=(BitVec.ofInt 64 V&&&BitVec.ofInt 64 ((M:Int)-1)).toNat:=⟨_,rfl⟩
 rw[<-ho]at hle
 refine⟨o, ?_,by omega⟩
 show wrap64 (IntKind.u64.wrap ((BitVec.ofInt 64 V&&&BitVec.ofInt 64 ((M:Int)-1)).toNat:Int))=_
 rw[<-ho]
 simp[IntKind.wrap,IntKind.bits,IntKind.signed,wrap64];omega
theorem tch_new{g xb:Nat}{w u v:World}(h:ref.Touch [g] w u)(k:ref.Touch [xb] u v)(hx:w.heap.size<=xb):ref.Touch [g] w v:=
 ⟨k.os.trans h.os,k.tape.trans h.tape,k.output.trans h.output,Nat.le_trans h.size k.size,fun q hq hn=>(k.block q (Nat.lt_of_lt_of_le hq h.size) (by simp;omega)).trans (h.block q hq hn)⟩
theorem brk_any(g n cap a b:Nat)(d:Nat->Int)(w:World)(h:RowU g n d w)(hn:n<=5000)(hab:a+12<b)(hb:b<=n):
  Calls Tryz.prog 161 #[.slice (some ⟨g,0,none⟩) n cap,.int .i64 a,.int .i64 b] w fun e w'=>e=.returned (.tuple #[])/\∃d',RowU g n d' w'/\Rr n a b d d'/\ref.Touch [g] w w':=by
 have HR:Hid (RowU g n d w):=h
 obtain⟨l,hl⟩:∃l:Nat,(b:Int)-(a:Int)=(l:Int):=⟨b-a,by omega⟩
 have hl8:8<=l:=by omega
 clear h
 go_enter Tryz.func161,Tryz.ntmps161
 go_wp2_with (first|(go_at_call 177;refine(Calls.mono (npt_any l oM oM _) ?_);rintro e9 w9 ⟨M,rfl,hw9,hM1,hM2⟩;subst w9))
 obtain⟨q4,hq4⟩:∃q4:Nat,(l:Int)/4=(q4:Int):=⟨l/4,by omega⟩
 rw[hq4]
 have HR0:Hid (RowU g n d (w.alloc (Obj.cells #[Value.int IntKind.u64 ↑l] 174))):=HR.out.other oM (T:=[]) ((ref.Touch.refl [] w).alloc _) sP
 have gs:g<w.heap.size:=HR.out.lt oM
 go_loopw [9] (fun s wr=>∃(k:Nat) (e:Nat->Int) (X:Int),s=.int .i64 k/\a+q4*2<=k+1/\k<=a+q4*2+2/\RowU g n e wr/\Rr n a b d e/\wr.cell? ⟨w.heap.size,0,none⟩=some (.int .u64 X)/\wr.frozen? ⟨w.heap.size,0,none⟩=false/\ref.Touch [g] w wr) (fun s _=>a+q4*2+3-(intOf s).toNat)
 case atStart=>exact⟨a+q4*2-1,d,l,by go_num,by omega,by omega,HR0.out,Rr.refl _ _ _ _,by simp,by simp,ref.Touch.alloc (ref.Touch.refl _ _) _⟩
 case round=>
  obtain⟨k,e,X,rfl,hk1,hk2,hr,hrr,hc,hf,ht⟩:=hrel
  have HR1:Hid (RowU g n e wr):=hr
  have HRR:Hid (Rr n a b d e):=hrr
  have HT:Hid (ref.Touch [g] w wr):=ht
  have HC:Hid (wr.cell? ⟨w.heap.size,0,none⟩=some (.int .u64 X)):=hc
  have HF:Hid (wr.frozen? ⟨w.heap.size,0,none⟩=false):=hf
  clear hr hrr ht hc hf
  by_cases hle:k<=a+q4*2+1
  rotate_left
  ·have d1:decide ((k:Int)<=(a:Int)+(q4:Int)*2+1)=false:=by simp;omega
   go_wp2
   go_end0
   exact⟨rfl,e,HR1.out,HRR.out,HT.out⟩
  ·have d1:decide ((k:Int)<=(a:Int)+(q4:Int)*2+1)=true:=by simp;omega
   go_upto_if 43 with(first|(go_at_call 178;refine(Calls.mono (nx_any _ X _ HC.out HF.out) ?_);rintro e9 w9 ⟨V,rfl,k1,k3,k2⟩;have HF9:Hid (w9.frozen? ⟨w.heap.size,0,none⟩=false):=k3;clear k3;obtain⟨o,ho,hoM⟩:=and_bd V M oM oM;have K1:Hid (w9.cell? ⟨w.heap.size,0,none⟩=some (.int .u64 V)):=k1;have K2:Hid (ref.Touch [w.heap.size] wr w9):=k2;clear k1 k2))
   go_cut [10]from 44 to 46 (fun s wx=>∃o2:Nat,s=.int .i64 o2/\o2<l/\wx=w9)
   case first=>
    by_cases hlo:l<=o
    ·have d2:decide ((l:Int)<=(o:Int))=true:=by simp;omega
     go_wp2
     go_meet
     exact⟨o-l,by go_num,by omega,rfl⟩
    ·have d2:decide ((l:Int)<=(o:Int))=false:=by simp;omega
     go_wp2
     go_meet
     exact⟨o,by rw[ho],by omega,rfl⟩
   case rest=>
   obtain⟨o2,rfl,hol,hwc⟩:=hcut
   replace hwc:=hwc.symm
   subst hwc
   obtain⟨p2,hp2⟩:∃p2:Nat,(a:Int)+(o2:Int)=(p2:Int):=⟨a+o2,by omega⟩
   have HT9:Hid (ref.Touch [g] w w9):=tch_new HT.out K2.out (Nat.le_refl _)
   have HR9:Hid (RowU g n e w9):=HR1.out.other oM K2.out (by simp;omega)
   clear hoM ho
   obtain⟨x,hx⟩:∃x,x=e k:=⟨_,rfl⟩
   obtain⟨y,hy⟩:∃y,y=e p2:=⟨_,rfl⟩
   have cx:w9.cell? ⟨g,k,none⟩=some (.int .u32 x):=by rw[hx];exact HR9.out.at' _ oM
   have cy:w9.cell? ⟨g,p2,none⟩=some (.int .u32 y):=by rw[hy];exact HR9.out.at' _ oM
   have HX:Hid (x=e k):=hx
   have HY:Hid (y=e p2):=hy
   clear hx hy
   have HS9:Hid (∀m,RowU g n (sw e k p2) (((w9.drewN m).setCell ⟨g,k,none⟩ (.int .u32 y)).setCell ⟨g,p2,none⟩ (.int .u32 x))/\ref.Touch [g] w (((w9.drewN m).setCell ⟨g,k,none⟩ (.int .u32 y)).setCell ⟨g,p2,none⟩ (.int .u32 x))):=fun m=>by rw[HX.out,HY.out];exact HR9.out.swq HT9.out k p2 oM oM m
   have HK9:Hid (((w9.setCell ⟨g,k,none⟩ (.int .u32 y)).setCell ⟨g,p2,none⟩ (.int .u32 x)).cell? ⟨w.heap.size,0,none⟩=some (.int .u64 V)):=(by show _=_;rw[World.cell?_setCell_other _ _ _ _ (by intro q;injection q;omega),World.cell?_setCell_other _ _ _ _ (by intro q;injection q;omega)];exact K1.out)
   have f1:=HR9.out.free
   obtain⟨u4,c4⟩:∃u,(w9.setCell ⟨g,k,none⟩ (.int .u32 y)).cell? ⟨g,p2,none⟩=some u:=⟨_,(HR9.out.set k oM y).at' p2 oM⟩
   go_wp2
   go_region
   go_wp2
   go_roundw
   case rel=>exact⟨k+1,sw e k p2,V,by go_num,by omega,by omega,(HS9.out _).1,HRR.out.trans (Rr.sw n a b e k p2 ⟨by omega,by omega⟩ ⟨by omega,by omega⟩ hb),HK9.out,by simpa using HF9.out,(HS9.out _).2⟩
   case measure=>simp[intOf];omega
end so
end Go.Proofs.YtjikimpejlmdiaaGreatDoor

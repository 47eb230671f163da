import Derived.WalkKit
import Derived.Test.YtjikimpejlmdiaaGreatDoorZGb
import Derived.Deep.DrawnRows
import Derived.BigRegion
import Derived.BigQuiet
import Derived.Deep.RegionHeld3
import Derived.Deep.Cut
import Derived.Deep.CutRange
set_option maxHeartbeats 4000000
set_option linter.unusedVariables false
set_option linter.unusedSimpArgs false
set_option maxRecDepth 10000
namespace Go.Proofs.YtjikimpejlmdiaaGreatDoor
theorem Xy0{p:Prop}(h:p:=by
 go_wp2_with fail
 go_quiet (first|(go_at_call 165;refine Calls.quiet_of_same (less_any _ _ _)))
 go_wp2
 go_meet
 exact⟨_,rfl,HRa.out.dn _,HTa.out.drewN _,by rw[<-HX.out,<-HY.out];by_cases q:x<y<;>simp[hle,q]<;>omega⟩):p:=h
theorem Xy1{p:Prop}(h:p:=by
 go_wp2_with fail
 go_quiet (first|(go_at_call 165;refine Calls.quiet_of_same (less_any _ _ _)))
 go_wp2
 go_meet
 exact⟨_,rfl,HRa.out.dn _,HTa.out.drewN _,by simp[hle]⟩):p:=h
theorem Xy2{p:Prop}(h:p:=by
 have hzj:i<=z:=hq.1
 clear HBB hq
 go_wp2
 go_roundw
 case rel=>exact⟨z-1,by go_num,by omega,by omega,HRz.out,HPa.out.right (fun k h1 h2=>by obtain rfl:k=z:=oM;have:=HBt.out.2;omega),HTz.out⟩
 case measure=>simp[intOf];omega):p:=h
theorem Xy3{p:Prop}(h:p:=by
 go_wp2
 go_roundw
 case rel=>exact⟨z+1,by go_num,by omega,by omega,HRz.out,HPa.out.left (fun k h1 h2=>by obtain rfl:k=z:=oM;have:=HBt.out.2;omega),HTz.out⟩
 case measure=>simp[intOf];omega):p:=h
theorem Xy4{p:Prop}(h:p:=by
 rcases Nat.lt_or_ge i j with q|q
 ·exact q
 ·obtain rfl:i=j:=by omega
  omega):p:=h
theorem Xy5{p:Prop}(h:p:=by
 obtain⟨x,hx⟩:∃x,x=d1 z:=⟨_,rfl⟩
 obtain⟨y,hy⟩:∃y,y=d1 a:=⟨_,rfl⟩
 have cx:wr.cell? ⟨g,z,none⟩=some (.int .u32 x):=by rw[hx];exact HRa.out.at' _ oM
 have cy:wr.cell? ⟨g,a,none⟩=some (.int .u32 y):=by rw[hy];exact HRa.out.at' _ oM
 have HX:Hid (x=d1 z):=hx
 have HY:Hid (y=d1 a):=hy
 clear hx hy
 exact Xy0):p:=h
theorem Xy6{p:Prop}(h:p:=by
 obtain⟨x,hx⟩:∃x,x=e5 z:=⟨_,rfl⟩
 obtain⟨y,hy⟩:∃y,y=e5 a:=⟨_,rfl⟩
 have cx:wr.cell? ⟨g,z,none⟩=some (.int .u32 x):=by rw[hx];exact HRa.out.at' _ oM
 have cy:wr.cell? ⟨g,a,none⟩=some (.int .u32 y):=by rw[hy];exact HRa.out.at' _ oM
 have HX:Hid (x=e5 z):=hx
 have HY:Hid (y=e5 a):=hy
 clear hx hy
 exact Xy0):p:=h
theorem Xy7{p:Prop}(h:p:=by
 have dq:decide ((i:Int)<=(z:Int))=false:=by simp;omega
 exact Xy1):p:=h
namespace so
def Inj (n:Nat) (d:Nat->Int):Prop:=∀i j,i<n->j<n->d i=d j->i=j
def sw (d:Nat->Int) (i j:Nat):Nat->Int:=fun k=>if k=i then d j else if k=j then d i else d k
structure Rr (n a b:Nat) (d e:Nat->Int):Prop where
 out:∀i,¬(a<=i/\i<b)->e i=d i
 fw:∀i,a<=i->i<b->∃j,a<=j/\j<b/\e i=d j
 bw:∀i,a<=i->i<b->∃j,a<=j/\j<b/\d i=e j
 inj:Inj n d->Inj n e
theorem Rr.refl (n a b:Nat)(d:Nat->Int):Rr n a b d d:=⟨fun _ _=>rfl,fun i h1 h2=>⟨i,h1,h2,rfl⟩,fun i h1 h2=>⟨i,h1,h2,rfl⟩,fun h=>h⟩
theorem Rr.trans {n a b:Nat}{d e f:Nat->Int}(h:Rr n a b d e)(k:Rr n a b e f):Rr n a b d f:=
 ⟨fun i hi=>(k.out i hi).trans (h.out i hi),fun i h1 h2=>by
  obtain⟨j,j1,j2,j3⟩:=k.fw i h1 h2
  obtain⟨l,l1,l2,l3⟩:=h.fw j j1 j2
  exact⟨l,l1,l2,j3.trans l3⟩,fun i h1 h2=>by
  obtain⟨j,j1,j2,j3⟩:=h.bw i h1 h2
  obtain⟨l,l1,l2,l3⟩:=k.bw j j1 j2
  exact⟨l,l1,l2,j3.trans l3⟩,fun q=>k.inj (h.inj q)⟩
theorem Rr.wide {n a b a' b':Nat}{d e:Nat->Int}(h:Rr n a b d e)(ha:a'<=a)(hb:b<=b'):Rr n a' b' d e:=
 ⟨fun i hi=>h.out i oM,fun i h1 h2=>by
  by_cases c:a<=i/\i<b
  ·obtain⟨j,j1,j2,j3⟩:=h.fw i c.1 c.2
   exact⟨j,by omega,by omega,j3⟩
  ·exact⟨i,h1,h2,h.out i c⟩,fun i h1 h2=>by
  by_cases c:a<=i/\i<b
  ·obtain⟨j,j1,j2,j3⟩:=h.bw i c.1 c.2
   exact⟨j,by omega,by omega,j3⟩
  ·exact⟨i,h1,h2,(h.out i c).symm⟩,h.inj⟩
theorem sw_i(d:Nat->Int)(i j:Nat):sw d i j i=d j:=by simp[sw]
theorem sw_j(d:Nat->Int)(i j:Nat):sw d i j j=d i:=by
 by_cases c:j=i
 ·subst c;simp[sw]
 ·simp[sw,c]
theorem sw_o(d:Nat->Int)(i j k:Nat)(h1:k≠i)(h2:k≠j):sw d i j k=d k:=by simp[sw,h1,h2]
theorem Rr.sw (n a b:Nat)(d:Nat->Int)(i j:Nat)(hi:a<=i/\i<b)(hj:a<=j/\j<b)(hn:b<=n):Rr n a b d (so.sw d i j):=by
 have key:∀k,a<=k->k<b->∃l,a<=l/\l<b/\so.sw d i j k=d l/\d k=so.sw d i j l:=fun k h1 h2=>by
  by_cases c1:k=i
  ·subst c1;exact⟨j,hj.1,hj.2,sw_i _ _ _,(sw_j _ _ _).symm⟩
  ·by_cases c2:k=j
   ·subst c2;exact⟨i,hi.1,hi.2,sw_j _ _ _,(sw_i _ _ _).symm⟩
   ·exact⟨k,h1,h2,sw_o _ _ _ _ c1 c2,(sw_o _ _ _ _ c1 c2).symm⟩
 refine⟨fun k hk=>sw_o _ _ _ _ oM oM,fun k h1 h2=> ?_,fun k h1 h2=> ?_,fun q x y hx hy e=> ?_⟩
 ·obtain⟨l,l1,l2,l3,_⟩:=key k h1 h2;exact⟨l,l1,l2,l3⟩
 ·obtain⟨l,l1,l2,_,l3⟩:=key k h1 h2;exact⟨l,l1,l2,l3⟩
 ·have f:∀z,z<n->∃z',z'<n/\so.sw d i j z=d z'/\(z=i->z'=j)/\(z=j->z'=i)/\(z≠i->z≠j->z'=z):=fun z hz=>by
   by_cases c1:z=i
   ·subst c1;exact⟨j,by omega,sw_i _ _ _,fun _=>rfl,fun h=>by omega,fun h=>absurd rfl h⟩
   ·by_cases c2:z=j
    ·subst c2;exact⟨i,by omega,sw_j _ _ _,fun h=>absurd h c1,fun _=>rfl,fun _ h=>absurd rfl h⟩
    ·exact⟨z,hz,sw_o _ _ _ _ c1 c2,fun h=>absurd h c1,fun h=>absurd h c2,fun _ _=>rfl⟩
  obtain⟨x',x1,x2,x3,x4,x5⟩:=f x hx
  obtain⟨y',y1,y2,y3,y4,y5⟩:=f y hy
  have e':=q x' y' x1 y1 (by rw[<-x2,<-y2];exact e)
  by_cases a1:x=i<;>by_cases a2:x=j<;>by_cases a3:y=i<;>by_cases a4:y=j<;>simp_all
def Sd (a b:Nat) (d:Nat->Int):Prop:=∀i j,a<=i->i<j->j<b->d i<=d j
structure Ins (a i j:Nat) (d:Nat->Int):Prop where
 srt:∀p q,a<=p->p<q->q<=i->p≠j->q≠j->d p<=d q
 low:∀q,j<q->q<=i->d j<=d q
theorem Ins.start {a i:Nat}{d:Nat->Int}(h:Sd a i d):Ins a i i d:=⟨fun p q h1 h2 h3 h4 h5=>h p q h1 h2 oM,fun q h1 h2=>by omega⟩
theorem Ins.step {a i j:Nat}{d:Nat->Int}(h:Ins a i j d)(ha:a<j)(hj:j<=i)(hl:d j<d (j-1)):Ins a i (j-1) (sw d j (j-1)):=by
 have v:∀k,sw d j (j-1) k=if k=j then d (j-1)else if k=j-1 then d j else d k:=fun k=>rfl
 refine⟨fun p q h1 h2 h3 h4 h5=> ?_,fun q h1 h2=> ?_⟩
 ·rw[v p,v q]
  by_cases c1:p=j
  ·have:=h.srt (j-1) q oM oM h3 oM oM
   rw[if_pos c1,if_neg oM,if_neg h5];exact this
  ·rw[if_neg c1,if_neg h4]
   by_cases c2:q=j
   ·have:=h.srt p (j-1) h1 oM oM c1 oM
    rw[if_pos c2];exact this
   ·rw[if_neg c2,if_neg h5];exact h.srt p q h1 h2 h3 c1 c2
 ·rw[v (j-1),if_neg oM,if_pos rfl,v q]
  by_cases c2:q=j
  ·rw[if_pos c2];omega
  ·rw[if_neg c2,if_neg oM];exact h.low q oM h2
theorem Ins.done {a i j:Nat}{d:Nat->Int}(h:Ins a i j d)(ha:a<=j)(hj:j<=i)(hl:j=a\/d (j-1)<=d j):Sd a (i+1) d:=fun p q h1 h2 h3=>by
 by_cases c1:p=j
 ·subst c1;exact h.low q h2 oM
 ·by_cases c2:q=j
  ·subst c2
   rcases hl with e|e
   ·omega
   ·by_cases c3:p=q-1
    ·subst c3;exact e
    ·have:=h.srt p (q-1) h1 oM oM c1 oM;omega
  ·exact h.srt p q h1 h2 oM c1 c2
def Ch (r c:Nat):Prop:=c=2*r+1\/c=2*r+2
def Hp (lo hi f:Nat) (d:Nat->Int):Prop:=∀r c,lo<=r->Ch r c->c<hi->d (f+c)<=d (f+r)
structure Sf (lo hi f r:Nat) (d:Nat->Int):Prop where
 hp:∀p c,lo<=p->p≠r->Ch p c->c<hi->d (f+c)<=d (f+p)
 up:∀p c,lo<=p->Ch p r->Ch r c->c<hi->d (f+c)<=d (f+p)
theorem Sf.start {lo hi f:Nat}{d:Nat->Int}(h:Hp (lo+1) hi f d):Sf lo hi f lo d:=
 ⟨fun p c h1 h2 h3 h4=>h p c oM h3 h4,fun p c h1 h2 h3 h4=>by unfold Ch at h2;omega⟩
theorem Sf.step {lo hi f r c:Nat}{d:Nat->Int}(h:Sf lo hi f r d)(hr:lo<=r)(hc:Ch r c)(hh:c<hi)(hm:∀x,Ch r x->x<hi->d (f+x)<=d (f+c))(hl:d (f+r)<d (f+c)):Sf lo hi f c (sw d (f+r) (f+c)):=by
 have rc:r<c:=by unfold Ch at hc;omega
 have er:sw d (f+r) (f+c) (f+r)=d (f+c):=sw_i _ _ _
 have ec:sw d (f+r) (f+c) (f+c)=d (f+r):=sw_j _ _ _
 have eo:∀x,x≠r->x≠c->sw d (f+r) (f+c) (f+x)=d (f+x):=fun x h1 h2=>sw_o _ _ _ _ oM oM
 refine⟨fun p x h1 h2 h3 h4=> ?_,fun p x h1 h2 h3 h4=> ?_⟩
 ·by_cases c1:p=r
  ·subst c1
   rw[er]
   by_cases c2:x=c
   ·subst c2;rw[ec];omega
   ·rw[eo x (by unfold Ch at h3;omega) c2];exact hm x h3 h4
  ·rw[eo p c1 h2]
   by_cases c2:x=r
   ·subst c2;rw[er];exact h.up p c h1 h3 hc hh
   ·by_cases c3:x=c
    ·subst c3;exfalso;unfold Ch at h3 hc;omega
    ·rw[eo x c2 c3];exact h.hp p x h1 c1 h3 h4
 ·have e:p=r:=by unfold Ch at h2 hc;omega
  subst e
  rw[er,eo x (by unfold Ch at h3 hc;omega) (by unfold Ch at h3;omega)]
  exact h.hp c x oM oM h3 h4
theorem Sf.done {lo hi f r:Nat}{d:Nat->Int}(h:Sf lo hi f r d)(hm:∀x,Ch r x->x<hi->d (f+x)<=d (f+r)):Hp lo hi f d:=fun p c h1 h2 h3=>by
 by_cases e:p=r
 ·subst e;exact hm c h2 h3
 ·exact h.hp p c h1 e h2 h3
theorem Hp.top {hi f:Nat}{d:Nat->Int}(h:Hp 0 hi f d):∀c,c<hi->d (f+c)<=d f:=by
 intro c
 induction c using Nat.strongRecOn with
 |ind c ih=>
  intro hc
  by_cases e:c=0
  ·subst e;exact Int.le_refl _
  ·have h1:=h ((c-1)/2) c (Nat.zero_le _) (by unfold Ch;omega) hc
   have h2:=ih ((c-1)/2) oM oM
   omega
structure Hs (f i hi:Nat) (d:Nat->Int):Prop where
 hp:Hp 0 i f d
 tl:∀p q,i<=p->p<q->q<hi->d (f+p)<=d (f+q)
 le:∀p q,p<i->i<=q->q<hi->d (f+p)<=d (f+q)
theorem Hs.step {n f i hi:Nat}{d e:Nat->Int}(h:Hs f (i+1) hi d)(hi':i<hi)(he:Rr n f (f+i) (sw d f (f+i)) e)(hp:Hp 0 i f e):Hs f i hi e:=by
 have ei:∀q,i<=q->e (f+q)=sw d f (f+i) (f+q):=fun q hq=>he.out _ oM
 have top:=h.hp.top
 have sv:∀p,p<i+1->∃p',p'<i+1/\sw d f (f+i) (f+p)=d (f+p'):=fun p hp=>by
  by_cases c1:p=0
  ·subst c1;exact⟨i,by omega,sw_i _ _ _⟩
  ·by_cases c2:p=i
   ·subst c2;exact⟨0,by omega,sw_j _ _ _⟩
   ·exact⟨p,hp,sw_o _ _ _ _ oM oM⟩
 have low:∀p,p<i->∃p',p'<i+1/\e (f+p)=d (f+p'):=fun p hp=>by
  obtain⟨j,j1,j2,j3⟩:=he.fw (f+p) oM oM
  obtain⟨p',p1,p2⟩:=sv (j-f) oM
  rw[show f+(j-f)=j by omega]at p2
  exact⟨p',p1,j3.trans p2⟩
 have at_i:e (f+i)=d f:=(ei i (Nat.le_refl _)).trans (sw_j _ _ _)
 have hiq:∀q,i<q->e (f+q)=d (f+q):=fun q hq=>(ei q oM).trans (sw_o _ _ _ _ oM oM)
 refine⟨hp,fun p q h1 h2 h3=> ?_,fun p q h1 h2 h3=> ?_⟩
 ·rw[hiq q oM]
  by_cases c:p=i
  ·subst c;rw[at_i];exact h.le 0 q oM oM h3
  ·rw[hiq p oM];exact h.tl p q oM h2 h3
 ·obtain⟨p',p1,p2⟩:=low p h1
  rw[p2]
  by_cases c:q=i
  ·subst c;rw[at_i];exact top p' p1
  ·rw[hiq q oM];exact h.le p' q p1 oM h3
theorem Hs.done {f hi:Nat}{d:Nat->Int}(h:Hs f 0 hi d):Sd f (f+hi) d:=fun i j h1 h2 h3=>by
 have:=h.tl (i-f) (j-f) (Nat.zero_le _) oM oM
 rwa [show f+(i-f)=i by omega,show f+(j-f)=j by omega]at this
structure Pt (a b i j:Nat) (d:Nat->Int):Prop where
 lo:∀k,a<k->k<i->d k<d a
 hi:∀k,j<k->k<b->d a<=d k
theorem Pt.left {a b i i' j:Nat}{d:Nat->Int}(h:Pt a b i j d)(q:∀k,i<=k->k<i'->d k<d a):Pt a b i' j d:=
 ⟨fun k h1 h2=>by by_cases c:k<i;(· exact h.lo k h1 c);exact q k oM h2,h.hi⟩
theorem Pt.right {a b i j j':Nat}{d:Nat->Int}(h:Pt a b i j d)(q:∀k,j'<k->k<=j->d a<=d k):Pt a b i j' d:=
 ⟨h.lo,fun k h1 h2=>by by_cases c:j<k;(· exact h.hi k c h2);exact q k h1 oM⟩
theorem Pt.swap {a b i j:Nat}{d:Nat->Int}(h:Pt a b i j d)(ha:a<i)(hij:i<j)(hb:j<b)(h1:d a<=d i)(h2:d j<d a):Pt a b (i+1) (j-1) (sw d i j):=by
 have e:sw d i j a=d a:=sw_o _ _ _ _ oM oM
 refine⟨fun k k1 k2=> ?_,fun k k1 k2=> ?_⟩<;>rw[e]
 ·by_cases c:k=i
  ·subst c;rw[sw_i];exact h2
  ·rw[sw_o _ _ _ _ c oM];exact h.lo k k1 oM
 ·by_cases c:k=j
  ·subst c;rw[sw_j];exact h1
  ·rw[sw_o _ _ _ _ oM c];exact h.hi k oM k2
structure Pd (a b m:Nat) (d:Nat->Int):Prop where
 lo:∀k,a<=k->k<m->d k<d m
 hi:∀k,m<k->k<b->d m<=d k
theorem Pt.done {a b j:Nat}{d:Nat->Int}(h:Pt a b (j+1) j d)(ha:a<=j):Pd a b j (sw d j a):=by
 refine⟨fun k k1 k2=> ?_,fun k k1 k2=> ?_⟩<;>rw[sw_i]
 ·by_cases c:k=a
  ·subst c;rw[sw_j];exact h.lo j oM oM
  ·rw[sw_o _ _ _ _ oM c];exact h.lo k oM oM
 ·rw[sw_o _ _ _ _ oM oM];exact h.hi k k1 k2
def Lo (a b:Nat) (d:Nat->Int):Prop:=0<a->∀k,a<=k->k<b->d (a-1)<=d k
theorem Lo.rr {n a b:Nat}{d e:Nat->Int}(h:Lo a b d)(r:Rr n a b d e):Lo a b e:=fun h0 k h1 h2=>by
 obtain⟨j,j1,j2,j3⟩:=r.fw k h1 h2
 rw[j3,r.out (a-1) oM]
 exact h h0 j j1 j2
def Qd (a x y b:Nat) (e:Nat->Int):Prop:=∀i j,a<=i->i<j->j<b->¬(x<=i/\j<y)->e i<=e j
theorem Qd.rr {n a x y b:Nat}{e f:Nat->Int}(h:Qd a x y b e)(hx:a<=x)(hy:y<=b)(r:Rr n x y e f):Qd a x y b f:=fun i j h1 h2 h3 h4=>by
 by_cases ci:x<=i/\i<y
 ·obtain⟨k,k1,k2,k3⟩:=r.fw i ci.1 ci.2
  rw[k3,r.out j oM]
  exact h k j oM oM h3 oM
 ·rw[r.out i ci]
  by_cases cj:x<=j/\j<y
  ·obtain⟨k,k1,k2,k3⟩:=r.fw j cj.1 cj.2
   rw[k3]
   exact h i k h1 oM oM oM
  ·rw[r.out j cj];exact h i j h1 h2 h3 h4
theorem Qd.done {a x y b:Nat}{e:Nat->Int}(h:Qd a x y b e)(s:Sd x y e):Sd a b e:=fun i j h1 h2 h3=>by
 by_cases c:x<=i/\j<y
 ·exact s i j c.1 h2 c.2
 ·exact h i j h1 h2 h3 c
theorem Qd.lo {a x y b:Nat}{e:Nat->Int}(h:Qd a x y b e)(hx:a<=x)(hy:y<=b)(l:Lo a b e):Lo x y e:=fun h0 k h1 h2=>by
 by_cases c:x=a
 ·subst c;exact l h0 k h1 oM
 ·exact h (x-1) k oM oM oM oM
theorem Qd.left {n a x y b m:Nat}{e f:Nat->Int}(h:Qd a x y b e)(hx:a<=x)(hy:y<=b)(hm:x<=m)(hm':m<y)(p:Pd x y m e)(r:Rr n x m e f)(s:Sd x m f):Qd a (m+1) y b f:=fun i j h1 h2 h3 h4=>by
 by_cases c:x<=i/\j<y
 ·have fm:∀k,m<=k->f k=e k:=fun k hk=>r.out k oM
  by_cases cj:j<m
  ·exact s i j c.1 h2 cj
  ·rw[fm j oM]
   by_cases ci:i<m
   ·obtain⟨k,k1,k2,k3⟩:=r.fw i c.1 ci
    rw[k3]
    have:=p.lo k k1 k2
    by_cases q:j=m
    ·subst q;omega
    ·have:=p.hi j oM c.2;omega
   ·have:i=m:=by omega
    subst this
    rw[fm i oM];exact p.hi j oM c.2
 ·exact(h.rr hx hy (r.wide (Nat.le_refl _) oM)) i j h1 h2 h3 c
theorem Qd.right {n a x y b m:Nat}{e f:Nat->Int}(h:Qd a x y b e)(hx:a<=x)(hy:y<=b)(hm:x<=m)(hm':m<y)(p:Pd x y m e)(r:Rr n (m+1) y e f)(s:Sd (m+1) y f):Qd a x m b f:=fun i j h1 h2 h3 h4=>by
 by_cases c:x<=i/\j<y
 ·have fm:∀k,k<=m->f k=e k:=fun k hk=>r.out k oM
  by_cases ci:m<i
  ·exact s i j oM h2 c.2
  ·rw[fm i oM]
   by_cases cj:m<j
   ·obtain⟨k,k1,k2,k3⟩:=r.fw j oM c.2
    rw[k3]
    have:=p.hi k oM k2
    by_cases q:i=m
    ·subst q;omega
    ·have:=p.lo i c.1 oM;omega
   ·have:j=m:=by omega
    subst this
    rw[fm j oM]
    have:=p.lo i c.1 oM;omega
 ·exact(h.rr hx hy (r.wide oM (Nat.le_refl _))) i j h1 h2 h3 c
end so
namespace so
open ChangeShapes WideShapes ChangeAt RowKit Proofs.YtjikimpejlmdiaaGreatDoor
attribute [local go_sem ↓] Go.wp_at_zero Go.wp_at_succ
theorem wr64(i:Nat)(h:i<=100000):IntKind.i64.wrap (i:Int)=(i:Int):=by
 simp[IntKind.wrap,IntKind.bits,IntKind.signed];omega
theorem wrI(x:Int)(h0:-1000000<=x)(h1:x<=1000000):IntKind.i64.wrap x=x:=by
 simp[IntKind.wrap,IntKind.bits,IntKind.signed];omega
theorem then_w{K:Act->World->Prop}{Q:Exit->Act->World->Prop}{a:Act}{W:World}(R:World->Prop)(hr:R W)(h:∀Y,R Y->Exit.then K Q .normal a Y):Exit.then K Q .normal a W:=h W hr
theorem nan_any(x:Int)(w:World):Calls Tryz.prog 181 #[.int .u32 x] w fun e w'=>e=.returned (.bool false)/\w'=w:=by
 go_enter Tryz.func181,Tryz.ntmps181
 go_wp2
 go_ret
 exact⟨rfl,rfl⟩
theorem less_any(x y:Int)(w:World):Calls Tryz.prog 165 #[.int .u32 x,.int .u32 y] w fun e w'=>e=.returned (.bool (decide (x<y)))/\w'=w:=by
 go_enter Tryz.func165,Tryz.ntmps165
 go_wp2_with (first|(go_at_call 181;refine(Calls.mono (nan_any _ _) ?_);rintro e w' ⟨rfl,hw'⟩;subst w'))
 go_ret
 exact⟨rfl,rfl⟩
structure RowU (g n:Nat) (d:Nat->Int) (w:World):Prop where
 at':∀i,i<n->w.cell? ⟨g,i,none⟩=some (.int .u32 (d i))
 free:∀j,w.frozen? ⟨g,j,none⟩=false
theorem RowU.lt {g n:Nat}{d:Nat->Int}{w:World}(h:RowU g n d w)(hn:0<n):g<w.heap.size:=World.block_lt_of_cell? _ _ (h.at' 0 hn)
theorem RowU.other {g n:Nat}{d:Nat->Int}{w w':World}(h:RowU g n d w)(hn:0<n){T:List Nat}(t:ref.Touch T w w')(e:g∉T):RowU g n d w':=
 ⟨fun i hi=>(t.cell (p:=⟨g,i,none⟩) (h.lt hn) e).trans (h.at' i hi),fun j=>(t.frozen (p:=⟨g,j,none⟩) (h.lt hn) e).trans (h.free j)⟩
theorem RowU.dn {g n:Nat}{d:Nat->Int}{w:World}(h:RowU g n d w)(q:Nat):RowU g n d (w.drewN q):=⟨h.at',h.free⟩
theorem RowU.set {g n:Nat}{d:Nat->Int}{w:World}(h:RowU g n d w)(i:Nat)(hi:i<n)(v:Int):RowU g n (fun k=>if k=i then v else d k) (w.setCell ⟨g,i,none⟩ (.int .u32 v)):=by
 refine⟨fun k hk=> ?_,fun j=>by rw[World.frozen?_setCell];exact h.free j⟩
 by_cases c:k=i
 ·subst c;rw[World.cell?_setCell_same _ _ _ (h.at' k hk),if_pos rfl]
 ·rw[World.cell?_setCell_other _ _ _ _ (by intro e;injection e with _ e;omega),if_neg c];exact h.at' k hk
theorem RowU.swap {g n:Nat}{d:Nat->Int}{w:World}(h:RowU g n d w)(i j:Nat)(hi:i<n)(hj:j<n):RowU g n (sw d i j) ((w.setCell ⟨g,i,none⟩ (.int .u32 (d j))).setCell ⟨g,j,none⟩ (.int .u32 (d i))):=by
 have q:=(h.set i hi (d j)).set j hj (d i)
 refine⟨fun k hk=>(q.at' k hk).trans ?_,q.free⟩
 by_cases c2:k=j
 ·subst c2;rw[if_pos rfl,sw_j]
 ·rw[if_neg c2];unfold sw;rw[if_neg c2]
theorem RowU.swq {g n:Nat}{d:Nat->Int}{u w:World}(h:RowU g n d w)(t:ref.Touch [g] u w)(i j:Nat)(hi:i<n)(hj:j<n)(q:Nat):RowU g n (sw d i j) (((w.drewN q).setCell ⟨g,i,none⟩ (.int .u32 (d j))).setCell ⟨g,j,none⟩ (.int .u32 (d i)))/\ref.Touch [g] u (((w.drewN q).setCell ⟨g,i,none⟩ (.int .u32 (d j))).setCell ⟨g,j,none⟩ (.int .u32 (d i))):=
 ⟨(h.dn q).swap i j hi hj,((t.drewN q).setCell sP _).setCell sP _⟩
theorem ins_any(g n cap a b:Nat)(d:Nat->Int)(w:World)(h:RowU g n d w)(hn:n<=5000)(hab:a<=b)(hb:b<=n):
  Calls Tryz.prog 159 #[.slice (some ⟨g,0,none⟩) n cap,.int .i64 a,.int .i64 b] w fun e w'=>e=.returned (.tuple #[])/\∃d',RowU g n d' w'/\Rr n a b d d'/\Sd a b d'/\ref.Touch [g] w w':=by
 have HR:Hid (RowU g n d w):=h
 clear h
 go_enter Tryz.func159,Tryz.ntmps159
 go_wp2
 go_loopw [6] (fun i wr=>∃(k:Nat) (d':Nat->Int),i=.int .i64 k/\a+1<=k/\(k<=b\/k=a+1)/\RowU g n d' wr/\Rr n a b d d'/\Sd a k d'/\ref.Touch [g] w wr) (fun i _=>b+1-(intOf i).toNat)
 case atStart=>exact⟨a+1,d,by go_num,by omega,by omega,HR.out,Rr.refl _ _ _ _,fun i j h1 h2 h3=>by omega,ref.Touch.refl _ _⟩
 case round=>
  obtain⟨k,d',rfl,hk1,hk2,hr,hrr,hsd,ht⟩:=hrel
  have HR1:Hid (RowU g n d' wr):=hr
  have HRR:Hid (Rr n a b d d'):=hrr
  have HSD:Hid (Sd a k d'):=hsd
  have HT:Hid (ref.Touch [g] w wr):=ht
  clear hr hrr hsd ht
  by_cases hlt:k<b
  rotate_left
  ·go_wp2
   go_end0
   exact⟨rfl,d',HR1.out,HRR.out,fun i j h1 h2 h3=>HSD.out i j h1 h2 oM,HT.out⟩
  ·go_wp2_with fail
   go_loopw [7] (fun i Y=>∃(j:Nat) (e:Nat->Int),i=.int .i64 j/\a<=j/\j<=k/\RowU g n e Y/\Rr n a b d e/\Ins a k j e/\ref.Touch [g] w Y) (fun i _=>(intOf i).toNat)
   case atStart=>exact⟨k,d',rfl,by omega,by omega,HR1.out,HRR.out,Ins.start HSD.out,HT.out⟩
   case round=>
    obtain⟨j,e,rfl,hj1,hj2,hr,hrr,hin,ht⟩:=hrel
    have HR2:Hid (RowU g n e wr):=hr
    have HRR2:Hid (Rr n a b d e):=hrr
    have HIN:Hid (Ins a k j e):=hin
    have HT2:Hid (ref.Touch [g] w wr):=ht
    have f1:=hr.free
    by_cases hja:a<j
    rotate_left
    ·clear hr hrr hin ht
     go_wp2_with fail
     go_quiet (first|(go_at_call 165;refine Calls.quiet_of_same (less_any _ _ _)))
     go_wp2
     go_roundw
     case rel=>exact⟨k+1,e,by go_num,by omega,by omega,HR2.out.dn _,HRR2.out,HIN.out.done hj1 hj2 (Or.inl oM),HT2.out.drewN _⟩
     case measure=>simp[intOf];omega
    ·obtain⟨x,hx⟩:∃x,x=e j:=⟨_,rfl⟩
     obtain⟨y,hy⟩:∃y,y=e (j-1):=⟨_,rfl⟩
     obtain⟨i,rfl⟩:∃i,j=i+1:=⟨j-1,by omega⟩
     have cx:wr.cell? ⟨g,i+1,none⟩=some (.int .u32 x):=by rw[hx];exact hr.at' _ oM
     have cy:wr.cell? ⟨g,i,none⟩=some (.int .u32 y):=by rw[hy];exact hr.at' _ oM
     have HX:Hid (x=e (i+1)):=hx
     have HY:Hid (y=e i):=hy
     clear hr hrr hin ht hx hy
     have d1:decide ((a:Int)<(i:Int)+1)=true:=by simp;omega
     have i1:(i:Int)+1<(n:Int):=by omega
     have i2:(0:Int)<=(i:Int)+1:=by omega
     have i3:(i:Int)<(n:Int):=by omega
     have i4:((i:Int)+1).toNat=i+1:=by omega
     have i5:IntKind.i64.wrap (i:Int)=(i:Int):=wr64 i oM
     by_cases hl:x<y
     ·go_wp2_with fail
      go_quiet (first|(go_at_call 165;refine Calls.quiet_of_same (less_any _ _ _)))
      go_wp2
      go_region
      go_wp2
      go_roundw
      case rel=>
       obtain⟨z1,z2⟩:=HR2.out.swq HT2.out (i+1) i oM oM (nq+1)
       rw[<-HX.out,<-HY.out]at z1 z2
       exact⟨i,sw e (i+1) i,by go_num,by omega,by omega,z1,HRR2.out.trans (Rr.sw n a b e (i+1) i ⟨by omega,by omega⟩ ⟨by omega,by omega⟩ hb),HIN.out.step oM hj2 (by have:=HX.out;have:=HY.out;simp;omega),z2⟩
      case measure=>simp[intOf]
     ·go_wp2_with fail
      go_quiet (first|(go_at_call 165;refine Calls.quiet_of_same (less_any _ _ _)))
      go_wp2
      go_roundw
      case rel=>exact⟨k+1,e,by go_num,by omega,by omega,HR2.out.dn _,HRR2.out,HIN.out.done oM hj2 (Or.inr (by have:=HX.out;have:=HY.out;simp;omega)),HT2.out.drewN _⟩
      case measure=>simp[intOf];omega
theorem sift_any(g n cap lo hi f:Nat)(d:Nat->Int)(w:World)(h:RowU g n d w)(hn:n<=5000)(hlo:lo<=5000)(hb:f+hi<=n)(hh:Hp (lo+1) hi f d):
  Calls Tryz.prog 176 #[.slice (some ⟨g,0,none⟩) n cap,.int .i64 lo,.int .i64 hi,.int .i64 f] w fun e w'=>e=.returned (.tuple #[])/\∃d',RowU g n d' w'/\Rr n (f+lo) (f+hi) d d'/\Hp lo hi f d'/\ref.Touch [g] w w':=by
 have HR:Hid (RowU g n d w):=h
 have HS0:Hid (Sf lo hi f lo d):=Sf.start hh
 clear h hh
 go_enter Tryz.func176,Tryz.ntmps176
 go_wp2
 go_loopw [8] (fun i wr=>∃(r:Nat) (e:Nat->Int),i=.int .i64 r/\lo<=r/\(r<hi\/r=lo)/\RowU g n e wr/\Rr n (f+lo) (f+hi) d e/\Sf lo hi f r e/\ref.Touch [g] w wr) (fun i _=>hi-(intOf i).toNat)
 case atStart=>exact⟨lo,d,rfl,by omega,by omega,HR.out,Rr.refl _ _ _ _,HS0.out,ref.Touch.refl _ _⟩
 case round=>
  obtain⟨r,e,rfl,hr1,hr2,hr,hrr,hsf,ht⟩:=hrel
  have HR1:Hid (RowU g n e wr):=hr
  have HRR:Hid (Rr n (f+lo) (f+hi) d e):=hrr
  have HSF:Hid (Sf lo hi f r e):=hsf
  have HT:Hid (ref.Touch [g] w wr):=ht
  clear hr hrr hsf ht
  by_cases hc:hi<=2*r+1
  ·have hc2:(hi:Int)<=2*(r:Int)+1:=by omega
   go_wp2
   go_end0
   exact⟨rfl,e,HR1.out,HRR.out,HSF.out.done (fun x h1 h2=>by unfold Ch at h1;omega),HT.out⟩
  ·have hc2:¬(hi:Int)<=2*(r:Int)+1:=by omega
   go_upto_region 3 with fail
   go_cut [36]from 17 to 36 (fun s wx=>∃(bb:Bool),s=.bool bb/\RowU g n e wx/\ref.Touch [g] w wx/\bb=decide (2*r+1+1<hi/\e (f+(2*r+1))<e (f+(2*r+1)+1)))
   case first=>
    by_cases h2:2*r+1+1<hi
    ·have d1:decide (2*(r:Int)+1+1<(hi:Int))=true:=by simp;omega
     obtain⟨x,hx⟩:∃x,x=e (f+(2*r+1)):=⟨_,rfl⟩
     obtain⟨y,hy⟩:∃y,y=e (f+(2*r+1)+1):=⟨_,rfl⟩
     have cx:wr.cell? ⟨g,f+(2*r+1),none⟩=some (.int .u32 x):=by rw[hx];exact HR1.out.at' _ oM
     have cy:wr.cell? ⟨g,f+(2*r+1)+1,none⟩=some (.int .u32 y):=by rw[hy];exact HR1.out.at' _ oM
     have HX:Hid (x=e (f+(2*r+1))):=hx
     have HY:Hid (y=e (f+(2*r+1)+1)):=hy
     have i1:((f:Int)+(2*(r:Int)+1)).toNat=f+(2*r+1):=by omega
     have i2:((f:Int)+(2*(r:Int)+1)+1).toNat=f+(2*r+1)+1:=by omega
     clear hx hy
     go_wp2_with fail
     go_quiet (first|(go_at_call 165;refine Calls.quiet_of_same (less_any _ _ _)))
     go_wp2
     go_meet
     exact⟨_,rfl,HR1.out.dn _,HT.out.drewN _,by rw[<-HX.out,<-HY.out];simp[h2]⟩
    ·have d1:decide (2*(r:Int)+1+1<(hi:Int))=false:=by simp;omega
     go_wp2_with fail
     go_quiet (first|(go_at_call 165;refine Calls.quiet_of_same (less_any _ _ _)))
     go_wp2
     go_meet
     exact⟨_,rfl,HR1.out.dn _,HT.out.drewN _,by simp[h2]⟩
   case rest=>
   obtain⟨bb,rfl,hr5,ht5,hbb⟩:=hcut
   obtain⟨Y,hY⟩:∃Y,Y=wc:=⟨_,rfl⟩
   subst hY
   have HR5:Hid (RowU g n e Y):=hr5
   have HT5:Hid (ref.Touch [g] w Y):=ht5
   clear hr5 ht5
   have HBB:Hid (bb=decide (2*r+1+1<hi/\e (f+(2*r+1))<e (f+(2*r+1)+1))):=hbb
   clear hbb
   go_upto_if 36 with fail
   go_cut [9]from 37 (fun s wx=>∃c:Nat,s=.int .i64 c/\wx=Y/\Ch r c/\c<hi/\∀x,Ch r x->x<hi->e (f+x)<=e (f+c))
   case first=>
    cases bb with
    |true=>
     go_wp2
     go_meet
     have h3:=of_decide_eq_true HBB.out.symm
     exact⟨2*r+1+1,by go_num,rfl,by unfold Ch;omega,h3.1,fun x h1 h2=>by rcases h1 with rfl|rfl;(· have:=h3.2;rw[show f+(2*r+1+1)=f+(2*r+1)+1 by omega];omega);exact Int.le_refl _⟩
    |false=>
     go_wp2
     go_meet
     have h3:=of_decide_eq_false HBB.out.symm
     exact⟨2*r+1,by go_num,rfl,by unfold Ch;omega,by omega,fun x h1 h2=>by rcases h1 with rfl|rfl;(· exact Int.le_refl _);have h4:¬e (f+(2*r+1))<e (f+(2*r+1)+1):=fun h5=>h3 ⟨by omega,h5⟩;rw[show f+(2*r+2)=f+(2*r+1)+1 by omega];omega⟩
   case rest=>
   obtain⟨c,rfl,hwc,hch,hlt,hmx⟩:=hcut
   replace hwc:=hwc.symm
   subst hwc
   have HCH:Hid (Ch r c):=hch
   have HMX:Hid (∀x,Ch r x->x<hi->e (f+x)<=e (f+c)):=hmx
   have hrc:r<c:=by unfold Ch at hch;omega
   obtain⟨x,hx⟩:∃x,x=e (f+r):=⟨_,rfl⟩
   obtain⟨y,hy⟩:∃y,y=e (f+c):=⟨_,rfl⟩
   have cx:Y.cell? ⟨g,f+r,none⟩=some (.int .u32 x):=by rw[hx];exact HR5.out.at' _ oM
   have cy:Y.cell? ⟨g,f+c,none⟩=some (.int .u32 y):=by rw[hy];exact HR5.out.at' _ oM
   have HX:Hid (x=e (f+r)):=hx
   have HY:Hid (y=e (f+c)):=hy
   have i1:((f:Int)+(r:Int)).toNat=f+r:=by omega
   have i2:((f:Int)+(c:Int)).toNat=f+c:=by omega
   have w1:=wrI ((f:Int)+(r:Int)) oM oM
   have w2:=wrI ((f:Int)+(c:Int)) oM oM
   have b1:(f:Int)+(r:Int)<(n:Int):=by omega
   have b2:(f:Int)+(c:Int)<(n:Int):=by omega
   have b3:0<=(f:Int)+(r:Int):=by omega
   have b4:0<=(f:Int)+(c:Int):=by omega
   have f1:=HR5.out.free
   clear hx hy hch hmx
   by_cases hl:x<y
   ·go_wp2_with fail
    go_quiet (first|(go_at_call 165;refine Calls.quiet_of_same (less_any _ _ _)))
    go_wp2
    go_region
    go_wp2
    go_roundw
    case rel=>
     obtain⟨z1,z2⟩:=HR5.out.swq HT5.out (f+r) (f+c) oM oM (nq+1)
     rw[<-HX.out,<-HY.out]at z1 z2
     exact⟨c,sw e (f+r) (f+c),rfl,by omega,by omega,z1,HRR.out.trans (Rr.sw n _ _ e (f+r) (f+c) ⟨by omega,by omega⟩ ⟨by omega,by omega⟩ oM),HSF.out.step oM HCH.out hlt HMX.out (by have:=HX.out;have:=HY.out;omega),z2⟩
    case measure=>simp[intOf];omega
   ·go_wp2_with fail
    go_quiet (first|(go_at_call 165;refine Calls.quiet_of_same (less_any _ _ _)))
    go_wp2
    rotate_left
    ·exfalso;have q9:(!decide (x<y))=false:=by assumption
     simp at q9;omega
    refine bodyPost_ret (results_none rfl _ _ _) rfl ?_
    refine⟨rfl,e,HR5.out.dn _,HRR.out,HSF.out.done (fun z h1 h2=> ?_), ?_⟩
    ·have:=HMX.out z h1 h2;have:=HX.out;have:=HY.out;omega
    ·exact HT5.out.drewN _
theorem heap_any(g n cap a b:Nat)(d:Nat->Int)(w:World)(h:RowU g n d w)(hn:n<=5000)(hab:a<b)(hb:b<=n):
  Calls Tryz.prog 160 #[.slice (some ⟨g,0,none⟩) n cap,.int .i64 a,.int .i64 b] w fun e w'=>e=.returned (.tuple #[])/\∃d',RowU g n d' w'/\Rr n a b d d'/\Sd a b d'/\ref.Touch [g] w w':=by
 have HR:Hid (RowU g n d w):=h
 obtain⟨hi,hhi⟩:∃hi,b=a+hi:=⟨b-a,by omega⟩
 have q1:(b:Int)-(a:Int)=(hi:Int):=by omega
 clear hhi
 clear h
 go_enter Tryz.func160,Tryz.ntmps160
 go_wp2
 go_loopw [9] (fun i wr=>∃(k:Int) (e:Nat->Int),i=.int .i64 k/\-1<=k/\2*k+1<=hi/\RowU g n e wr/\Rr n a b d e/\(∀r c:Nat,k<(r:Int)->Ch r c->c<hi->e (a+c)<=e (a+r))/\ref.Touch [g] w wr) (fun i _=>(intOf i+1).toNat)
 case atStart=>exact⟨_,d,rfl,by omega,by omega,HR.out,Rr.refl _ _ _ _,fun r c h1 h2 h3=>by unfold Ch at h2;omega,ref.Touch.refl _ _⟩
 case round=>
  obtain⟨k,e,rfl,hk1,hk2,hr,hrr,hhp,ht⟩:=hrel
  have HR1:Hid (RowU g n e wr):=hr
  have HRR:Hid (Rr n a b d e):=hrr
  have HHP:Hid (∀r c:Nat,k<(r:Int)->Ch r c->c<hi->e (a+c)<=e (a+r)):=hhp
  have HT:Hid (ref.Touch [g] w wr):=ht
  clear hr hrr hhp ht
  by_cases hk:0<=k
  ·obtain⟨lo,rfl⟩:∃lo:Nat,k=lo:=⟨k.toNat,(Int.toNat_of_nonneg hk).symm⟩
   go_wp2_with (first|(go_at_call 176;refine(Calls.mono (sift_any g n cap lo hi a e wr HR1.out hn oM oM (fun r c h1 h2 h3=>HHP.out r c oM h2 h3)) ?_);rintro e9 w9 ⟨rfl,d9,k1,k2,k3,k4⟩;have K1:Hid (RowU g n d9 w9/\Rr n (a+lo) (a+hi) e d9/\Hp lo hi a d9/\ref.Touch [g] wr w9):=⟨k1,k2,k3,k4⟩;clear k1 k2 k3 k4))
   go_roundw
   case rel=>
    obtain⟨k1,k2,k3,k4⟩:=K1.out
    exact⟨(lo:Int)-1,d9,by go_num,by omega,by omega,k1,HRR.out.trans (k2.wide oM oM),fun r c h1 h2 h3=>k3 r c oM h2 h3,HT.out.trans k4⟩
   case measure=>simp[intOf]
  ·have HH0:Hid (Hs a hi hi e):=⟨fun r c h1 h2 h3=>HHP.out r c oM h2 h3,fun p q h1 h2 h3=>by omega,fun p q h1 h2 h3=>by omega⟩
   obtain⟨e0,he0⟩:∃e0,e0=e:=⟨_,rfl⟩
   rw[<-he0]at HR1 HRR HH0
   clear he0 HHP hk1 hk2
   go_wp2
   go_loopw [10] (fun i wr=>∃(j:Int) (e:Nat->Int),i=.int .i64 j/\-1<=j/\j<hi/\RowU g n e wr/\Rr n a b d e/\Hs a (j+1).toNat hi e/\ref.Touch [g] w wr) (fun i _=>(intOf i+1).toNat)
   case atStart=>exact⟨_,e0,rfl,by omega,by omega,HR1.out,HRR.out,by rw[show((hi:Int)-1+1).toNat=hi by omega];exact HH0.out,HT.out⟩
   case round=>
    obtain⟨j,e1,rfl,hj1,hj2,hr,hrr,hhs,ht⟩:=hrel
    have HR2:Hid (RowU g n e1 wr):=hr
    have HRR2:Hid (Rr n a b d e1):=hrr
    have HHS:Hid (Hs a (j+1).toNat hi e1):=hhs
    have HT2:Hid (ref.Touch [g] w wr):=ht
    have f1:=hr.free
    clear hrr hhs ht
    by_cases hj:0<=j
    ·obtain⟨i,rfl⟩:∃i:Nat,j=i:=⟨j.toNat,(Int.toNat_of_nonneg hj).symm⟩
     obtain⟨x,hx⟩:∃x,x=e1 a:=⟨_,rfl⟩
     obtain⟨y,hy⟩:∃y,y=e1 (a+i):=⟨_,rfl⟩
     have cx:wr.cell? ⟨g,a,none⟩=some (.int .u32 x):=by rw[hx];exact hr.at' _ oM
     have cy:wr.cell? ⟨g,a+i,none⟩=some (.int .u32 y):=by rw[hy];exact hr.at' _ oM
     have HX:Hid (x=e1 a):=hx
     have HY:Hid (y=e1 (a+i)):=hy
     have i2:((a:Int)+(i:Int)).toNat=a+i:=by omega
     have b2:(a:Int)+(i:Int)<(n:Int):=by omega
     clear hx hy hr
     have HS2:Hid (∀q,RowU g n (sw e1 a (a+i)) (((wr.drewN q).setCell ⟨g,a,none⟩ (.int .u32 y)).setCell ⟨g,a+i,none⟩ (.int .u32 x))/\ref.Touch [g] w (((wr.drewN q).setCell ⟨g,a,none⟩ (.int .u32 y)).setCell ⟨g,a+i,none⟩ (.int .u32 x))):=fun q=>by rw[HX.out,HY.out];exact HR2.out.swq HT2.out a (a+i) oM oM q
     have HP0:Hid (Hp (0+1) i a (sw e1 a (a+i))):=fun r c h1 h2 h3=>by
      have q:=HHS.out.hp r c (Nat.zero_le _) h2 oM
      unfold Ch at h2
      rw[sw_o _ _ _ _ oM oM,sw_o _ _ _ _ oM oM]
      exact q
     obtain⟨u4,c4⟩:∃u,(wr.setCell ⟨g,a,none⟩ (.int .u32 y)).cell? ⟨g,a+i,none⟩=some u:=⟨_,(HR2.out.set a oM y).at' (a+i) oM⟩
     go_wp2
     go_region
     go_wp2_with (first|(go_at_call 176;refine(Calls.mono (sift_any g n cap 0 i a (sw e1 a (a+i)) _ (HS2.out 1).1 hn oM oM HP0.out) ?_);(rintro e9 w9 ⟨rfl,d9,k1,k2,k3,k4⟩;have K1:Hid (RowU g n d9 w9/\Rr n (a+0) (a+i) (sw e1 a (a+i)) d9/\Hp 0 i a d9/\ref.Touch [g] w w9):=⟨k1,k2,k3,(HS2.out 1).2.trans k4⟩;clear k1 k2 k3 k4)))
     go_roundw
     case rel=>
      obtain⟨k1,k2,k3,k4⟩:=K1.out
      have hs:=HHS.out
      rw[show((i:Int)+1).toNat=i+1 by omega]at hs
      rw[Nat.add_zero]at k2
      exact⟨(i:Int)-1,d9,by go_num,by omega,by omega,k1,(HRR2.out.trans (Rr.sw n a b e1 a (a+i) ⟨by omega,by omega⟩ ⟨by omega,by omega⟩ hb)).trans (k2.wide oM oM),by rw[show((i:Int)-1+1).toNat=i by omega];exact hs.step oM k2 k3,k4⟩
     case measure=>simp[intOf]
    ·clear hr
     go_wp2
     go_end0
     exact⟨rfl,e1,HR2.out,HRR2.out,by have:=HHS.out;rw[show(j+1).toNat=0 by omega]at this;rw[show b=a+hi by omega];exact this.done,HT2.out⟩
theorem part_any(g n cap a b pv:Nat)(d:Nat->Int)(w:World)(h:RowU g n d w)(hn:n<=5000)(hab:a+1<b)(hb:b<=n)(hp1:a<=pv)(hp2:pv<b):
  Calls Tryz.prog 167 #[.slice (some ⟨g,0,none⟩) n cap,.int .i64 a,.int .i64 b,.int .i64 pv] w fun e w'=>∃(m:Nat) (al:Bool) (d':Nat->Int),e=.returned (.tuple #[.int .i64 m,.bool al])/\a<=m/\m<b/\RowU g n d' w'/\Rr n a b d d'/\Pd a b m d'/\ref.Touch [g] w w':=by
 have HR:Hid (RowU g n d w):=h
 have HT0:Hid (ref.Touch [g] w w):=ref.Touch.refl _ _
 obtain⟨j0,hj0⟩:∃j0:Nat,(b:Int)-1=(j0:Int):=⟨b-1,by omega⟩
 have HRR0:Hid (Rr n a b d (sw d a pv)):=Rr.sw n a b d a pv ⟨by omega,by omega⟩ ⟨by omega,by omega⟩ hb
 clear h
 obtain⟨x,hx⟩:∃x,x=d a:=⟨_,rfl⟩
 obtain⟨y,hy⟩:∃y,y=d pv:=⟨_,rfl⟩
 have cx:w.cell? ⟨g,a,none⟩=some (.int .u32 x):=by rw[hx];exact HR.out.at' _ oM
 have cy:w.cell? ⟨g,pv,none⟩=some (.int .u32 y):=by rw[hy];exact HR.out.at' _ oM
 have HSW:Hid (∀m,RowU g n (sw d a pv) (((w.drewN m).setCell ⟨g,a,none⟩ (.int .u32 y)).setCell ⟨g,pv,none⟩ (.int .u32 x))/\ref.Touch [g] w (((w.drewN m).setCell ⟨g,a,none⟩ (.int .u32 y)).setCell ⟨g,pv,none⟩ (.int .u32 x))):=fun m=>by rw[hx,hy];exact HR.out.swq HT0.out a pv oM oM m
 obtain⟨u4,c4⟩:∃u,(w.setCell ⟨g,a,none⟩ (.int .u32 y)).cell? ⟨g,pv,none⟩=some u:=⟨_,(HR.out.set a oM y).at' pv oM⟩
 have f1:=HR.out.free
 clear hx hy
 go_enter Tryz.func167,Tryz.ntmps167
 go_wp2
 go_region
 refine then_w (fun Y=>RowU g n (sw d a pv) Y/\ref.Touch [g] w Y) (HSW.out _) (fun Y1 hY=> ?_)
 have HRY1:Hid (RowU g n (sw d a pv) Y1):=hY.1
 have HTY1:Hid (ref.Touch [g] w Y1):=hY.2
 clear hY cx cy c4 f1 HSW
 obtain⟨d1,hd1⟩:∃d1,d1=sw d a pv:=⟨_,rfl⟩
 rw[<-hd1]at HRY1 HRR0
 clear hd1
 go_wp2
 go_loopw [10] (fun s wr=>∃z:Nat,s=.int .i64 z/\(a+1)<=z/\z<=j0+1/\RowU g n d1 wr/\Pt a b z j0 d1/\ref.Touch [g] w wr) (fun s _=>j0+1-(intOf s).toNat)
 case atStart=>exact⟨(a+1),by go_num,by omega,by omega,HRY1.out,⟨fun k h1 h2=>by omega,fun k h1 h2=>by omega⟩,HTY1.out⟩
 case round=>
  obtain⟨z,rfl,hz1,hz2,hr,hpt,ht⟩:=hrel
  have HRa:Hid (RowU g n d1 wr):=hr
  have HPa:Hid (Pt a b z j0 d1):=hpt
  have HTa:Hid (ref.Touch [g] w wr):=ht
  clear hr hpt ht
  go_upto_region 3 with fail
  go_cut [43]from 30 to 43 (fun s wx=>∃bb:Bool,s=.bool bb/\RowU g n d1 wx/\ref.Touch [g] w wx/\bb=decide (z<=j0/\d1 z<d1 a))
  case first=>
   by_cases hle:z<=j0
   ·have dq:decide ((z:Int)<=(j0:Int))=true:=by simp;omega
    exact Xy5
   ·have dq:decide ((z:Int)<=(j0:Int))=false:=by simp;omega
    exact Xy1
  case rest=>
  obtain⟨bb,rfl,hr,ht,hbb⟩:=hcut
  obtain⟨Z,hZ⟩:∃Z,Z=wc:=⟨_,rfl⟩
  subst hZ
  have HRz:Hid (RowU g n d1 Z):=hr
  have HTz:Hid (ref.Touch [g] w Z):=ht
  have HBB:Hid (bb=decide (z<=j0/\d1 z<d1 a)):=hbb
  clear hr ht hbb HRa HTa
  cases bb with
  |true=>
   have hq:=of_decide_eq_true HBB.out.symm
   have HBt:Hid (z<=j0/\d1 z<d1 a):=hq
   have hzj:z<=j0:=hq.1
   clear HBB hq
   exact Xy3
  |false=>
   have hq:=of_decide_eq_false HBB.out.symm
   have HBf:Hid (¬(z<=j0/\d1 z<d1 a)):=hq
   clear HBB hq
   obtain⟨i,hi⟩:∃i,i=z:=⟨_,rfl⟩
   subst hi
   obtain⟨Z1,hZ1⟩:∃Z1,Z1=Z:=⟨_,rfl⟩
   subst hZ1
   have HB1:Hid (¬(i<=j0/\d1 i<d1 a)):=HBf
   clear HBf
   go_wp2
   go_loopw [11] (fun s wr=>∃z:Nat,s=.int .i64 z/\i<=z+1/\z<=j0/\RowU g n d1 wr/\Pt a b i z d1/\ref.Touch [g] w wr) (fun s _=>(intOf s).toNat)
   case atStart=>exact⟨j0,by go_num,by omega,by omega,HRz.out,HPa.out,HTz.out⟩
   case round=>
    obtain⟨z,rfl,hz1,hz2,hr,hpt,ht⟩:=hrel
    have HRa:Hid (RowU g n d1 wr):=hr
    have HPa:Hid (Pt a b i z d1):=hpt
    have HTa:Hid (ref.Touch [g] w wr):=ht
    clear hr hpt ht
    go_upto_region 5 with fail
    go_cut [60]from 46 to 60 (fun s wx=>∃bb:Bool,s=.bool bb/\RowU g n d1 wx/\ref.Touch [g] w wx/\bb=decide (i<=z/\¬d1 z<d1 a))
    case first=>
     by_cases hle:i<=z
     ·have dq:decide ((i:Int)<=(z:Int))=true:=by simp;omega
      exact Xy5
     ·exact Xy7
    case rest=>
    obtain⟨bb,rfl,hr,ht,hbb⟩:=hcut
    obtain⟨Z,hZ⟩:∃Z,Z=wc:=⟨_,rfl⟩
    subst hZ
    have HRz:Hid (RowU g n d1 Z):=hr
    have HTz:Hid (ref.Touch [g] w Z):=ht
    have HBB:Hid (bb=decide (i<=z/\¬d1 z<d1 a)):=hbb
    clear hr ht hbb HRa HTa
    cases bb with
    |true=>
     have hq:=of_decide_eq_true HBB.out.symm
     have HBt:Hid (i<=z/\¬d1 z<d1 a):=hq
     exact Xy2
    |false=>
     have hq:=of_decide_eq_false HBB.out.symm
     have HBf:Hid (¬(i<=z/\¬d1 z<d1 a)):=hq
     clear HBB hq
     obtain⟨j,hj⟩:∃j,j=z:=⟨_,rfl⟩
     subst hj
     obtain⟨Z2,hZ2⟩:∃Z2,Z2=Z:=⟨_,rfl⟩
     subst hZ2
     have HRz2:Hid (RowU g n d1 Z2):=HRz
     have HTz2:Hid (ref.Touch [g] w Z2):=HTz
     have HPb:Hid (Pt a b i j d1):=HPa
     have HB2:Hid (¬(i<=j/\¬d1 j<d1 a)):=HBf
     clear HRz HTz HPa HBf
     by_cases hgt:j<i
     ·have dg:decide ((j:Int)<(i:Int))=true:=by simp;omega
      obtain⟨x,hx⟩:∃x,x=d1 j:=⟨_,rfl⟩
      obtain⟨y,hy⟩:∃y,y=d1 a:=⟨_,rfl⟩
      have cx:Z2.cell? ⟨g,j,none⟩=some (.int .u32 x):=by rw[hx];exact HRz2.out.at' _ oM
      have cy:Z2.cell? ⟨g,a,none⟩=some (.int .u32 y):=by rw[hy];exact HRz2.out.at' _ oM
      have HSW:Hid (∀m,RowU g n (sw d1 j a) (((Z2.drewN m).setCell ⟨g,j,none⟩ (.int .u32 y)).setCell ⟨g,a,none⟩ (.int .u32 x))/\ref.Touch [g] w (((Z2.drewN m).setCell ⟨g,j,none⟩ (.int .u32 y)).setCell ⟨g,a,none⟩ (.int .u32 x))):=fun m=>by rw[hx,hy];exact HRz2.out.swq HTz2.out j a oM oM m
      obtain⟨u4,c4⟩:∃u,(Z2.setCell ⟨g,j,none⟩ (.int .u32 y)).cell? ⟨g,a,none⟩=some u:=⟨_,(HRz2.out.set j oM y).at' a oM⟩
      have f1:=HRz2.out.free
      clear hx hy
      go_wp2
      go_region
      refine then_w (fun Y=>RowU g n (sw d1 j a) Y/\ref.Touch [g] w Y) (HSW.out _) (fun Y9 hY=> ?_)
      have HRY9:Hid (RowU g n (sw d1 j a) Y9):=hY.1
      have HTY9:Hid (ref.Touch [g] w Y9):=hY.2
      clear hY cx cy c4 f1 HSW
      go_wp2
      go_ret2
      obtain rfl:i=j+1:=by omega
      exact⟨j,true,sw d1 j a,rfl,by omega,by omega,HRY9.out,HRR0.out.trans (Rr.sw n a b d1 j a ⟨by omega,by omega⟩ ⟨by omega,by omega⟩ hb),HPb.out.done oM,HTY9.out⟩
     ·have dg:decide ((j:Int)<(i:Int))=false:=by simp;omega
      have l1:d1 a<=d1 i:=by have:=HB1.out;have h2:¬d1 i<d1 a:=fun h3=>this ⟨by omega,h3⟩;omega
      have l2:d1 j<d1 a:=by have:=HB2.out;exact Classical.byContradiction fun h3=>this ⟨by omega,h3⟩
      have hij:i<j:=by
       exact Xy4
      have HPc:Hid (Pt a b (i+1) (j-1) (sw d1 i j)):=HPb.out.swap oM hij oM l1 l2
      clear l1 l2
      have HRR2:Hid (Rr n a b d (sw d1 i j)):=HRR0.out.trans (Rr.sw n a b d1 i j ⟨by omega,by omega⟩ ⟨by omega,by omega⟩ hb)
      obtain⟨x,hx⟩:∃x,x=d1 i:=⟨_,rfl⟩
      obtain⟨y,hy⟩:∃y,y=d1 j:=⟨_,rfl⟩
      have cx:Z2.cell? ⟨g,i,none⟩=some (.int .u32 x):=by rw[hx];exact HRz2.out.at' _ oM
      have cy:Z2.cell? ⟨g,j,none⟩=some (.int .u32 y):=by rw[hy];exact HRz2.out.at' _ oM
      have HSW:Hid (∀m,RowU g n (sw d1 i j) (((Z2.drewN m).setCell ⟨g,i,none⟩ (.int .u32 y)).setCell ⟨g,j,none⟩ (.int .u32 x))/\ref.Touch [g] w (((Z2.drewN m).setCell ⟨g,i,none⟩ (.int .u32 y)).setCell ⟨g,j,none⟩ (.int .u32 x))):=fun m=>by rw[hx,hy];exact HRz2.out.swq HTz2.out i j oM oM m
      obtain⟨u4,c4⟩:∃u,(Z2.setCell ⟨g,i,none⟩ (.int .u32 y)).cell? ⟨g,j,none⟩=some u:=⟨_,(HRz2.out.set i oM y).at' j oM⟩
      have f1:=HRz2.out.free
      clear hx hy
      go_wp2
      go_region
      refine then_w (fun Y=>RowU g n (sw d1 i j) Y/\ref.Touch [g] w Y) (HSW.out _) (fun Y2 hY=> ?_)
      have HRY2:Hid (RowU g n (sw d1 i j) Y2):=hY.1
      have HTY2:Hid (ref.Touch [g] w Y2):=hY.2
      clear hY cx cy c4 f1 HSW
      go_wp2
      go_loopw [10,11] (fun s t wr=>∃(i j:Nat) (e5:Nat->Int),s=.int .i64 i/\t=.int .i64 j/\a+1<=i/\i<=j+1/\j<b/\RowU g n e5 wr/\Rr n a b d e5/\Pt a b i j e5/\ref.Touch [g] w wr) (fun s t _=>(intOf t+1-intOf s).toNat)
      case atStart=>exact⟨i+1,j-1,sw d1 i j,by go_num,by go_num,by omega,by omega,by omega,HRY2.out,HRR2.out,HPc.out,HTY2.out⟩
      case round=>
       clear HRY2 HRR2 HPc HTY2
       obtain⟨i5,j5,e5,rfl,rfl,g1,g2,g3,hr,hrr,hpt,ht⟩:=hrel
       have HR5:Hid (RowU g n e5 wr):=hr
       have HRR5:Hid (Rr n a b d e5):=hrr
       have HP5:Hid (Pt a b i5 j5 e5):=hpt
       have HT5:Hid (ref.Touch [g] w wr):=ht
       clear hr hrr hpt ht
       go_wp2
       go_loopw [10] (fun s wr=>∃z:Nat,s=.int .i64 z/\i5<=z/\z<=j5+1/\RowU g n e5 wr/\Pt a b z j5 e5/\ref.Touch [g] w wr) (fun s _=>j5+1-(intOf s).toNat)
       case atStart=>exact⟨i5,by go_num,by omega,by omega,HR5.out,HP5.out,HT5.out⟩
       case round=>
        obtain⟨z,rfl,hz1,hz2,hr,hpt,ht⟩:=hrel
        have HRa:Hid (RowU g n e5 wr):=hr
        have HPa:Hid (Pt a b z j5 e5):=hpt
        have HTa:Hid (ref.Touch [g] w wr):=ht
        clear hr hpt ht
        go_upto_region 13 with fail
        go_cut [112]from 99 to 112 (fun s wx=>∃bb:Bool,s=.bool bb/\RowU g n e5 wx/\ref.Touch [g] w wx/\bb=decide (z<=j5/\e5 z<e5 a))
        case first=>
         by_cases hle:z<=j5
         ·have dq:decide ((z:Int)<=(j5:Int))=true:=by simp;omega
          exact Xy6
         ·have dq:decide ((z:Int)<=(j5:Int))=false:=by simp;omega
          exact Xy1
        case rest=>
        obtain⟨bb,rfl,hr,ht,hbb⟩:=hcut
        obtain⟨Z,hZ⟩:∃Z,Z=wc:=⟨_,rfl⟩
        subst hZ
        have HRz:Hid (RowU g n e5 Z):=hr
        have HTz:Hid (ref.Touch [g] w Z):=ht
        have HBB:Hid (bb=decide (z<=j5/\e5 z<e5 a)):=hbb
        clear hr ht hbb HRa HTa
        cases bb with
        |true=>
         have hq:=of_decide_eq_true HBB.out.symm
         have HBt:Hid (z<=j5/\e5 z<e5 a):=hq
         have hzj:z<=j5:=hq.1
         clear HBB hq
         exact Xy3
        |false=>
         have hq:=of_decide_eq_false HBB.out.symm
         have HBf:Hid (¬(z<=j5/\e5 z<e5 a)):=hq
         clear HBB hq
         obtain⟨i,hi⟩:∃i,i=z:=⟨_,rfl⟩
         subst hi
         obtain⟨Z1,hZ1⟩:∃Z1,Z1=Z:=⟨_,rfl⟩
         subst hZ1
         have HB1:Hid (¬(i<=j5/\e5 i<e5 a)):=HBf
         clear HBf
         go_wp2
         go_loopw [11] (fun s wr=>∃z:Nat,s=.int .i64 z/\i<=z+1/\z<=j5/\RowU g n e5 wr/\Pt a b i z e5/\ref.Touch [g] w wr) (fun s _=>(intOf s).toNat)
         case atStart=>exact⟨j5,by go_num,by omega,by omega,HRz.out,HPa.out,HTz.out⟩
         case round=>
          obtain⟨z,rfl,hz1,hz2,hr,hpt,ht⟩:=hrel
          have HRa:Hid (RowU g n e5 wr):=hr
          have HPa:Hid (Pt a b i z e5):=hpt
          have HTa:Hid (ref.Touch [g] w wr):=ht
          clear hr hpt ht
          go_upto_region 15 with fail
          go_cut [129]from 115 to 129 (fun s wx=>∃bb:Bool,s=.bool bb/\RowU g n e5 wx/\ref.Touch [g] w wx/\bb=decide (i<=z/\¬e5 z<e5 a))
          case first=>
           by_cases hle:i<=z
           ·have dq:decide ((i:Int)<=(z:Int))=true:=by simp;omega
            exact Xy6
           ·exact Xy7
          case rest=>
          obtain⟨bb,rfl,hr,ht,hbb⟩:=hcut
          obtain⟨Z,hZ⟩:∃Z,Z=wc:=⟨_,rfl⟩
          subst hZ
          have HRz:Hid (RowU g n e5 Z):=hr
          have HTz:Hid (ref.Touch [g] w Z):=ht
          have HBB:Hid (bb=decide (i<=z/\¬e5 z<e5 a)):=hbb
          clear hr ht hbb HRa HTa
          cases bb with
          |true=>
           have hq:=of_decide_eq_true HBB.out.symm
           have HBt:Hid (i<=z/\¬e5 z<e5 a):=hq
           exact Xy2
          |false=>
           have hq:=of_decide_eq_false HBB.out.symm
           have HBf:Hid (¬(i<=z/\¬e5 z<e5 a)):=hq
           clear HBB hq
           obtain⟨j,hj⟩:∃j,j=z:=⟨_,rfl⟩
           subst hj
           obtain⟨Z2,hZ2⟩:∃Z2,Z2=Z:=⟨_,rfl⟩
           subst hZ2
           have HRz2:Hid (RowU g n e5 Z2):=HRz
           have HTz2:Hid (ref.Touch [g] w Z2):=HTz
           have HPb:Hid (Pt a b i j e5):=HPa
           have HB2:Hid (¬(i<=j/\¬e5 j<e5 a)):=HBf
           clear HRz HTz HPa HBf
           by_cases hgt:j<i
           ·have dg:decide ((j:Int)<(i:Int))=true:=by simp;omega
            obtain⟨x,hx⟩:∃x,x=e5 j:=⟨_,rfl⟩
            obtain⟨y,hy⟩:∃y,y=e5 a:=⟨_,rfl⟩
            have cx:Z2.cell? ⟨g,j,none⟩=some (.int .u32 x):=by rw[hx];exact HRz2.out.at' _ oM
            have cy:Z2.cell? ⟨g,a,none⟩=some (.int .u32 y):=by rw[hy];exact HRz2.out.at' _ oM
            have HSW:Hid (∀m,RowU g n (sw e5 j a) (((Z2.drewN m).setCell ⟨g,j,none⟩ (.int .u32 y)).setCell ⟨g,a,none⟩ (.int .u32 x))/\ref.Touch [g] w (((Z2.drewN m).setCell ⟨g,j,none⟩ (.int .u32 y)).setCell ⟨g,a,none⟩ (.int .u32 x))):=fun m=>by rw[hx,hy];exact HRz2.out.swq HTz2.out j a oM oM m
            obtain⟨u4,c4⟩:∃u,(Z2.setCell ⟨g,j,none⟩ (.int .u32 y)).cell? ⟨g,a,none⟩=some u:=⟨_,(HRz2.out.set j oM y).at' a oM⟩
            have f1:=HRz2.out.free
            clear hx hy
            go_wp2
            go_region
            refine then_w (fun Y=>RowU g n (sw e5 j a) Y/\ref.Touch [g] w Y) (HSW.out _) (fun Y9 hY=> ?_)
            have HRY9:Hid (RowU g n (sw e5 j a) Y9):=hY.1
            have HTY9:Hid (ref.Touch [g] w Y9):=hY.2
            clear hY cx cy c4 f1 HSW
            go_wp2
            go_ret2
            obtain rfl:i=j+1:=by omega
            exact⟨j,false,sw e5 j a,rfl,by omega,by omega,HRY9.out,HRR5.out.trans (Rr.sw n a b e5 j a ⟨by omega,by omega⟩ ⟨by omega,by omega⟩ hb),HPb.out.done oM,HTY9.out⟩
           ·have dg:decide ((j:Int)<(i:Int))=false:=by simp;omega
            have l1:e5 a<=e5 i:=by have:=HB1.out;have h2:¬e5 i<e5 a:=fun h3=>this ⟨by omega,h3⟩;omega
            have l2:e5 j<e5 a:=by have:=HB2.out;exact Classical.byContradiction fun h3=>this ⟨by omega,h3⟩
            have hij:i<j:=by
             exact Xy4
            have HPc:Hid (Pt a b (i+1) (j-1) (sw e5 i j)):=HPb.out.swap oM hij oM l1 l2
            clear l1 l2
            obtain⟨x,hx⟩:∃x,x=e5 i:=⟨_,rfl⟩
            obtain⟨y,hy⟩:∃y,y=e5 j:=⟨_,rfl⟩
            have cx:Z2.cell? ⟨g,i,none⟩=some (.int .u32 x):=by rw[hx];exact HRz2.out.at' _ oM
            have cy:Z2.cell? ⟨g,j,none⟩=some (.int .u32 y):=by rw[hy];exact HRz2.out.at' _ oM
            have HSW:Hid (∀m,RowU g n (sw e5 i j) (((Z2.drewN m).setCell ⟨g,i,none⟩ (.int .u32 y)).setCell ⟨g,j,none⟩ (.int .u32 x))/\ref.Touch [g] w (((Z2.drewN m).setCell ⟨g,i,none⟩ (.int .u32 y)).setCell ⟨g,j,none⟩ (.int .u32 x))):=fun m=>by rw[hx,hy];exact HRz2.out.swq HTz2.out i j oM oM m
            obtain⟨u4,c4⟩:∃u,(Z2.setCell ⟨g,i,none⟩ (.int .u32 y)).cell? ⟨g,j,none⟩=some u:=⟨_,(HRz2.out.set i oM y).at' j oM⟩
            have f1:=HRz2.out.free
            clear hx hy
            go_wp2
            go_region
            refine then_w (fun Y=>RowU g n (sw e5 i j) Y/\ref.Touch [g] w Y) (HSW.out _) (fun Y8 hY=> ?_)
            have HRY8:Hid (RowU g n (sw e5 i j) Y8):=hY.1
            have HTY8:Hid (ref.Touch [g] w Y8):=hY.2
            clear hY cx cy c4 f1 HSW
            go_wp2
            go_roundw
            case rel=>exact⟨i+1,j-1,sw e5 i j,by go_num,by go_num,by omega,by omega,by omega,HRY8.out,HRR5.out.trans (Rr.sw n a b e5 i j ⟨by omega,by omega⟩ ⟨by omega,by omega⟩ hb),HPc.out,HTY8.out⟩
            case measure=>simp[intOf];omega
end so
end Go.Proofs.YtjikimpejlmdiaaGreatDoor

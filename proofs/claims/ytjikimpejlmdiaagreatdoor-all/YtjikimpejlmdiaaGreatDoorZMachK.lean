import Derived.Test.YtjikimpejlmdiaaGreatDoorZGa
set_option maxHeartbeats 4000000
set_option linter.unusedVariables false
set_option linter.unusedSimpArgs false
namespace Go.Proofs.YtjikimpejlmdiaaGreatDoor
namespace mach
open RowKit IntWalk nums dnums
structure Pend (m0 q:M) (a n:Int) (j:Nat):Prop where
 inb:InB q a n j
 blk:BlkOK q ((a/4).toNat%q.nslots) (a,n)
 sinv:SInv q
 good:MGood q
 en:q.ended=false
 lt:(j:Int)<n
 ns:q.nslots=m0.nslots
 pos:0<q.nslots
 fuel:q.fuel=m0.fuel
 stp:q.steps<q.fuel->∃m,BRun m0 m/\m.ended=false/\mach.step m=exec {q with done:=q.done+1 } (ld q.mem q.pc.toNat 4)
theorem Pend.find {m0 m:M}(h:BRun m0 m)(he:m.ended=false)(hl:lost m=true)(p4:m.pc%4=0)(pl:m.pc+4<=m.size)(hx:¬opn (ld m.mem m.pc.toNat 4)=-1):Pend m0 (mach.find m) m.pc (blockLen m.mem 8 m.pc) 0:=by
 obtain⟨s1,s2,s3⟩:=find_in h.sinv h.pos h.good.fine.pc.1 p4 pl hx
 obtain⟨f1,f2,f3,f4,f5,f6,f7,f8,f9,f10,f11,f12,f13,f14⟩:=find_f m
 refine⟨s2,by rw[f12];exact s3.congr f6 f7 f12,s1,h.good.find h.sinv h.pos,f11.trans he,s3.pos,f12.trans h.ns,by rw[f12];exact h.pos,f10.trans h.fuel,fun hlt=>⟨m,h,he, ?_⟩⟩
 have e:=step_ready m (by rw[f5,f10]at hlt;omega) p4 (by simp[lies];omega) hx
 have er:ready m=mach.find m:=by unfold ready;rw[hl,if_pos rfl]
 rw[er]at e
 refine e.trans (congrArg _ ?_)
 rw[f6,f2]
theorem Pend.word {m0 q:M}{a n:Int}{j:Nat}(h:Pend m0 q a n j):¬opn (ld q.mem q.pc.toNat 4)=-1/\q.pc=a+4*j/\q.pc%4=0/\q.pc+4<=q.size:=by
 obtain⟨b1,b2,b3⟩:=h.blk.at h.sinv.s64 j h.lt
 have hp:=h.inb.pc
 have:=h.blk.a4
 simp only at b1 b2 this
 rw[hp]
 exact⟨b1,rfl,by omega,by omega⟩
theorem Pend.go {m0 q:M}{a n:Int}{j:Nat}(h:Pend m0 q a n j)(hlt:q.steps<q.fuel)(m':M)(hm:m'=exec {q with done:=q.done+1 } (ld q.mem q.pc.toNat 4)):
  BRun m0 m'/\(m'.ended=true\/(m'.ended=false/\m'.steps=q.steps+1/\((m'.slots ((a/4).toNat%q.nslots)=(0,0)/\lost m'=true)\/(m'.slots ((a/4).toNat%q.nslots)=(a,n)/\(∀i:Nat,(i:Int)/64=a/64->m'.mem i=q.mem i)/\((j:Int)+1<n->Pend m0 m' a n (j+1))/\((j:Int)+1=n->lost m'=true))))):=by
 obtain⟨m,hb,he,hs⟩:=h.stp hlt
 have hst:=hb.step he
 rw[hs,<-hm]at hst
 refine⟨hst.1, ?_⟩
 cases hen:m'.ended with
 |true=>exact Or.inl rfl
 |false=>
  refine Or.inr ⟨rfl, ?_, ?_⟩
  ·have:=(Fx.exec {q with done:=q.done+1 } (ld q.mem q.pc.toNat 4)).2.2.2.2
   rw[<-hm]at this
   rcases this with u|u
   ·rw[hen]at u;cases u
   ·exact u
  ·obtain⟨f,hk,hnx⟩:=kx_exec {q with done:=q.done+1 } (ld q.mem q.pc.toNat 4) (good_done' h.good _).fine
   rw[<-hm]at hk
   have hss:=hk.slots ((a/4).toNat%q.nslots)
   have e1:({q with done:=q.done+1 }:M).slots ((a/4).toNat%q.nslots)=(a,n):=h.inb.slot
   rw[e1]at hss
   have hns:m'.nslots=q.nslots:=hk.ns
   rcases in_exec h.inb h.blk h.sinv.s64 h.good.fine.size h.pos h.good.fine h.lt m' hm hen with u|⟨u1,u2,u3⟩
   ·exact Or.inl u
   ·refine Or.inr ⟨u1,fun i hi=> ?_,fun h1=> ?_,u3⟩
    ·have hfa:f a=false:=by
      cases hfa:f a with
      |false=>rfl
      |true=>
       simp only[hfa,if_true]at hss
       rw[hss]at u1
       have:=congrArg Prod.snd u1
       simp only at this
       have:=h.blk.pos
       simp only at this
       omega
     exact hk.mem a i hfa hi
    ·have hi:=u2 h1
     have hsi:=hst.1.sinv
     have hblk:BlkOK m' ((a/4).toNat%m'.nslots) (a,n):=by
      have:=hsi.slot ((a/4).toNat%m'.nslots) (Nat.mod_lt _ (by rw[hns];exact h.pos))
      rw[hns]at this ⊢
      rw[u1]at this
      rcases this with v|v
      ·have:=congrArg Prod.snd v
       have:=h.blk.pos
       simp only at*
       omega
      ·exact v
     obtain⟨b1,b2,b3⟩:=hblk.at hsi.s64 (j+1) (by push_cast;omega)
     have ha4:=hblk.a4
     have ha0:=hblk.a0
     have hz5:=hst.1.good.fine.size
     simp only at b1 b2 ha4 ha0
     have hpc:=hi.pc
     have hlo:lost m'=false:=by
      unfold lost
      rw[hi.cur,hi.done,hpc]
      have e2:¬n=0:=by omega
      have e3:¬n<=((j+1:Nat):Int):=by push_cast;omega
      have e4:(a+4*((j+1:Nat):Int))%4294967296=a+4*((j+1:Nat):Int):=by omega
      simp[e2,e3,e4]
      intro _
      omega
     refine⟨hi,hblk,hsi,hst.1.good,hen,by push_cast;omega,hst.1.ns,by rw[hns];exact h.pos,hst.1.fuel,fun hlt2=>⟨m',hst.1,hen, ?_⟩⟩
     rw[step_ready m' oM (by rw[hpc];omega) (by simp[lies];omega) (by rw[hpc];exact b1)]
     unfold ready
     rw[hlo,if_neg dC]
end mach
end Go.Proofs.YtjikimpejlmdiaaGreatDoor

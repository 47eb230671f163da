import Derived.Test.YtjikimpejlmdiaaGreatDoorZHo
import Derived.Test.YtjikimpejlmdiaaGreatDoorZGa
import Derived.BigQuiet
import Derived.BigRegion
import Derived.Deep.OwnRows
import Derived.Deep.Cut
import Derived.Deep.CutRange
set_option maxHeartbeats 4000000
set_option linter.unusedVariables false
set_option linter.unusedSimpArgs false
set_option maxRecDepth 10000
namespace Go.Proofs.YtjikimpejlmdiaaGreatDoor
theorem Xs0{p:Prop}(h:p:=by
 rcases h.slots with⟨q,_⟩|⟨q1,q2,q3,sb,q4,q5,q6,q7⟩
 ·omega
 ·exact⟨sb,q4,q2,q3,q5,q6,q7⟩):p:=h
theorem Xs1{p:Prop}(h:p:=by
 rw[<-hk]
 have:((m.pc/4).toNat:Int)=m.pc/4:=by omega
 rw[Int.natCast_emod,this]):p:=h
theorem Xs2{p:Prop}(h:p:=by
 injection q4 with q4 _ _
 injection q4 with q4
 injection q4 with q4
 subst q4
 exact q7):p:=h
theorem Xs3{p:Prop}(h:p:=by
 go_end0
 exact⟨rfl,_,vB9,H9.out.1,H9.out.2.1,H9.out.2.2⟩):p:=h
theorem Xs4{p:Prop}(h:p:=by simp at hi ⊢;rcases hi with q|q;exact Or.inl q;exact Or.inr (Or.inr q)):p:=h
namespace ref
open ChangeShapes WideShapes ChangeAt RowKit nums dnums mach
attribute [local go_sem ↓] Go.wp_at_zero Go.wp_at_succ
theorem at_curv{B b mb:Nat}{m:M}{vE vA vS vB:Value}{w:World}(h:RefAt B b mb m vE vA vS vB w)(p:Int × Int):RefAt B b mb {m with cur:=p } vE vA vS vB ((w.setCell ⟨b,47,none⟩ (.int .u32 p.1)).setCell ⟨b,48,none⟩ (.int .i64 p.2)):=
 (h.upd (m':={m with cur:=(p.1,m.cur.2) }) (vE':=vE) (vA':=vA) (vS':=vS) (vB':=vB) 47 dC dC _ rfl rfl (fun i hi h39=>Or.elim (Decidable.em (i=47)) (fun e=>by subst e;simp[lay]) (fun e=>by simp[lay,e]))).upd (m':={m with cur:=p }) (vE':=vE) (vA':=vA) (vS':=vS) (vB':=vB) 48 dC dC _ rfl rfl (fun i hi h39=>Or.elim (Decidable.em (i=48)) (fun e=>by subst e;simp[lay]) (fun e=>by simp[lay,e]))
theorem at_donev{B b mb:Nat}{m:M}{vE vA vS vB:Value}{w:World}(h:RefAt B b mb m vE vA vS vB w)(d:Int):RefAt B b mb {m with done:=d } vE vA vS vB (w.setCell ⟨b,49,none⟩ (.int .i64 d)):=
 h.upd (m':={m with done:=d }) (vE':=vE) (vA':=vA) (vS':=vS) (vB':=vB) 49 dC dC _ rfl rfl (fun i hi h39=>Or.elim (Decidable.em (i=49)) (fun e=>by subst e;simp[lay]) (fun e=>by simp[lay,e]))
theorem at_used{B b mb:Nat}{m:M}{vE vA vS vB:Value}{w:World}(h:RefAt B b mb m vE vA vS vB w)(d:Int):RefAt B b mb {m with used:=d } vE vA vS vB (w.setCell ⟨b,46,none⟩ (.int .i64 d)):=
 h.upd (m':={m with used:=d }) (vE':=vE) (vA':=vA) (vS':=vS) (vB':=vB) 46 dC dC _ rfl rfl (fun i hi h39=>Or.elim (Decidable.em (i=46)) (fun e=>by subst e;simp[lay]) (fun e=>by simp[lay,e]))
theorem at_builtv{B b mb:Nat}{m:M}{vE vA vS vB:Value}{w:World}(h:RefAt B b mb m vE vA vS vB w)(d:Int):RefAt B b mb {m with built:=d } vE vA vS vB (w.setCell ⟨b,38,none⟩ (.int .i64 d)):=
 h.upd (m':={m with built:=d }) (vE':=vE) (vA':=vA) (vS':=vS) (vB':=vB) 38 dC dC _ rfl rfl (fun i hi h39=>Or.elim (Decidable.em (i=38)) (fun e=>by subst e;simp[lay]) (fun e=>by simp[lay,e]))
theorem Whole.nums {B b mb:Nat}{m m':M}{vE vA vS vB:Value}{w w':World}(h:Whole B b mb m vE vA vS vB w)(hr:RefAt B b mb m' vE vA vS vB w')(t:Touch [b] w w')(e1:m'.evs=m.evs)(e2:m'.ans=m.ans)(e3:m'.blocks=m.blocks)(e4:m'.nslots=m.nslots)(e5:m'.slots=m.slots):Whole B b mb m' vE vA vS vB w'/\Below B w w':=
 h.step hr (h.slots.other (t.mono sP) e4 e5) (t.mono sP) e1 e2 e3
theorem Whole.entered {B b mb:Nat}{m:M}{vE vA vS vB:Value}{w:World}(h:Whole B b mb m vE vA vS vB w)(p:Int × Int):Whole B b mb {m with cur:=p,done:=0 } vE vA vS vB (((w.setCell ⟨b,47,none⟩ (.int .u32 p.1)).setCell ⟨b,48,none⟩ (.int .i64 p.2)).setCell ⟨b,49,none⟩ (.int .i64 0))/\Below B w (((w.setCell ⟨b,47,none⟩ (.int .u32 p.1)).setCell ⟨b,48,none⟩ (.int .i64 p.2)).setCell ⟨b,49,none⟩ (.int .i64 0)):=
 h.nums (@at_donev B b mb {m with cur:=p } vE vA vS vB _ (at_curv h.ref p) 0) ((((Touch.refl _ _).setCell sP _).setCell sP _).setCell sP _) rfl rfl rfl rfl rfl
def FindQ (B b mb:Nat) (m:M) (vE vA:Value) (S:List Nat) (w:World) (e:Ending) (w':World):Prop:=e=.returned (.tuple #[])/\∃vS' vB',Whole B b mb m vE vA vS' vB' w'/\Below B w w'/\Touch S w w'
theorem find_old{B b mb:Nat}{m:M}{vE vA vS vB:Value}{w:World}(h:Whole B b mb m vE vA vS vB w)(hz:0<m.size)(hf:Fine m)(hn:0<m.nslots)(N:Nat)(hN:N<=4000)(hbg:BG m.blocks N)(k:Nat)(hk:(m.pc/4).toNat%m.nslots=k)(hp:¬((m.slots k).2=0\/(m.slots k).1≠m.pc)):Calls Tryz.prog 53 #[.pointer (some ⟨b,0,none⟩)] w (FindQ B b mb (enter m (m.slots k)) vE vA (b::(sblk vS++sblk vB)) w):=by
 obtain⟨sb,hvS,hns,hpcs,hb1,hb2,hsl⟩:∃sb,vS=.slice (some ⟨sb,0,none⟩) m.nslots m.nslots/\m.nslots<=64/\(∀i,0<=(m.slots i).1/\(m.slots i).1<=4294967295)/\b≠sb/\mb≠sb/\SlotsIn sb m.nslots m.slots w:=by
  exact Xs0
 subst hvS
 have hkn:k<m.nslots:=by rw[<-hk];exact Nat.mod_lt _ hn
 have pc0:=hf.pc.1
 have pc1:=hf.pc.2
 have hk2:m.pc/4%(m.nslots:Int)=(k:Int):=by
  exact Xs1
 have lb:b<w.heap.size:=World.block_lt_of_cell? _ _ h.ref.data
 have c1:w.cell? ⟨b,1,none⟩=some (.int .u32 m.pc):=h.ref.cells 1 dC dC
 have c44:w.cell? ⟨b,44,none⟩=some (.slice (some ⟨sb,0,none⟩) m.nslots m.nslots):=h.ref.cells 44 dC dC
 have s0:w.cell? ⟨sb,k*2,none⟩=some (.int .u32 (m.slots k).1):=hsl.pcs k hkn
 have s1:w.cell? ⟨sb,k*2+1,none⟩=some (.int .i64 (m.slots k).2):=hsl.lens k hkn
 have ls:sb<w.heap.size:=World.block_lt_of_cell? _ _ s0
 obtain⟨u47,c47⟩:=h.ref.there 47 dC
 obtain⟨u48,c48⟩:=h.ref.there 48 dC
 obtain⟨u49,c49⟩:=h.ref.there 49 dC
 have f47:=h.ref.free 47
 have f48:=h.ref.free 48
 have f49:=h.ref.free 49
 have nbs:¬b=sb:=hb1
 have nsb:¬sb=b:=fun e=>hb1 e.symm
 have k0:(0:Int)<=(k:Int):=by omega
 have k1:(k:Int)<(m.nslots:Int):=by omega
 have n0:(0:Int)<(m.nslots:Int):=by omega
 have n1:¬(m.nslots:Int)=0:=by omega
 have d1:((m.slots k).2==0)=false:=by simp;exact fun e=>hp (Or.inl e)
 have d2:(m.slots k).1=m.pc:=Classical.byContradiction (fun e=>hp (Or.inr e))
 have HWq:Hid (∀X,Touch [] w X->Whole B b mb m vE vA (.slice (some ⟨sb,0,none⟩) m.nslots m.nslots) vB X/\Below B w X):=fun X t=>h.quiet hz t
 have HG:Hid (BG m.blocks N):=hbg
 have P0:Hid (0<=(m.slots k).1/\(m.slots k).1<=4294967295):=hpcs k
 obtain⟨q,hq⟩:∃q,m.slots k=(m.pc,q):=⟨(m.slots k).2,Prod.ext d2 rfl⟩
 rw[hq]at s0 s1 d1 P0 ⊢
 clear h hf hsl hpcs hbg d2 hp hq
 go_enter Tryz.func53,Tryz.ntmps53
 go_wp2_with fail
 go_quiet (fail)
 go_wp2_with fail
 go_quiet (fail)
 generalize hX:(w.drewN _).drewN _=X
 have TX:Touch [] w X:=by rw[<-hX];exact((Touch.refl _ _).drewN _).drewN _
 have HX:Hid (Whole B b mb m vE vA (.slice (some ⟨sb,0,none⟩) m.nslots m.nslots) vB X):=(HWq.out X TX).1
 have HBX:Hid (Below B w X):=(HWq.out X TX).2
 have HTX:Hid (Touch (b::(sblk (.slice (some ⟨sb,0,none⟩) m.nslots m.nslots)++sblk vB)) w X):=TX.mono sP
 have lbX:b<X.heap.size:=Nat.lt_of_lt_of_le lb TX.size
 have lsX:sb<X.heap.size:=Nat.lt_of_lt_of_le ls TX.size
 have c44X:=(TX.cell (p:=⟨b,44,none⟩) lb sP).trans c44
 have c47X:=(TX.cell (p:=⟨b,47,none⟩) lb sP).trans c47
 have c48X:=(TX.cell (p:=⟨b,48,none⟩) lb sP).trans c48
 have c49X:=(TX.cell (p:=⟨b,49,none⟩) lb sP).trans c49
 have s0X:=(TX.cell (p:=⟨sb,k*2,none⟩) ls sP).trans s0
 have s1X:=(TX.cell (p:=⟨sb,k*2+1,none⟩) ls sP).trans s1
 have f47X:=(TX.frozen (p:=⟨b,47,none⟩) lb sP).trans f47
 have f48X:=(TX.frozen (p:=⟨b,48,none⟩) lb sP).trans f48
 have f49X:=(TX.frozen (p:=⟨b,49,none⟩) lb sP).trans f49
 clear hX TX c44 s0 s1 c47 c48 c49 f47 f48 f49
 go_wp2_with (first|(go_at_call 78;refine(Calls.mono (count_01 (HX.out.entered (m.pc,q)).1 hz (m.pc,q).1 (m.pc,q).2 P0.out.1 P0.out.2 (Nat.le_trans HG.out.len oM) HG.out.sorted (fun x hx=>by have:=HG.out.bd x hx;omega)) ?_);rintro e w9 ⟨rfl,vB9,q1,q2,q3,q4⟩;have H9:Hid (Whole B b mb (enter m (m.pc,q)) vE vA (.slice (some ⟨sb,0,none⟩) m.nslots m.nslots) vB9 w9/\Below B w w9/\Touch (b::(sblk (.slice (some ⟨sb,0,none⟩) m.nslots m.nslots)++sblk vB)) w w9):=⟨q1,HBX.out.trans ((HX.out.entered (m.pc,q)).2.trans q2),tnew2 (((HTX.out.setCell sP _).setCell sP _).setCell sP _) q3 (fun i hi=>Or.inl Xs4)⟩;clear q1 q2 q3 q4))
 exact Xs3
end ref
namespace ref
open ChangeShapes WideShapes ChangeAt RowKit nums dnums mach
attribute [local go_sem ↓] Go.wp_at_zero Go.wp_at_succ
theorem then_world{K:Act->World->Prop}{Q:Exit->Act->World->Prop}{a:Act}{W:World}(R:World->Prop)(hr:R W)(h:∀Y,R Y->Exit.then K Q .normal a Y):Exit.then K Q .normal a W:=h W hr
theorem wp_world{P:Program}{c:Code}{Q:Exit->Act->World->Prop}{a:Act}{W:World}(R:World->Prop)(hr:R W)(h:∀Y,R Y->Code.wp P c Q a Y):Code.wp P c Q a W:=h W hr
structure FAt (S:List Nat) (B b mb sb g k:Nat) (m:M) (vE vA vB:Value) (pc n:Int) (w w':World):Prop where
 wh:Whole B b mb m vE vA (.slice (some ⟨sb,0,none⟩) m.nslots m.nslots) vB w'
 be:Below B w w'
 g0:w'.cell? ⟨g,0,none⟩=some (.int .u32 pc)
 g1:w'.cell? ⟨g,1,none⟩=some (.int .i64 n)
 ng:g≠b/\g≠mb/\g≠sb
 tt:Touch S w w'
 bS:b∈S
 sS:sb∈S\/w.heap.size<=sb
theorem FAt.quiet {S:List Nat}{B b mb sb g k:Nat}{m:M}{vE vA vB:Value}{pc n:Int}{w w' w2:World}(h:FAt S B b mb sb g k m vE vA vB pc n w w')(hz:0<m.size)(t:Touch [] w' w2):FAt S B b mb sb g k m vE vA vB pc n w w2:=by
 have q:=h.wh.quiet hz t
 have lg:=World.block_lt_of_cell? _ _ h.g0
 exact⟨q.1,h.be.trans q.2,(t.cell (p:=⟨g,0,none⟩) lg sP).trans h.g0,(t.cell (p:=⟨g,1,none⟩) lg sP).trans h.g1,h.ng,h.tt.trans (t.mono sP),h.bS,h.sS⟩
theorem FAt.nums {S:List Nat}{B b mb sb g k:Nat}{m m':M}{vE vA vB:Value}{pc n:Int}{w w' w2:World}(h:FAt S B b mb sb g k m vE vA vB pc n w w')(hr:RefAt B b mb m' vE vA (.slice (some ⟨sb,0,none⟩) m.nslots m.nslots) vB w2)(t:Touch [b] w' w2)(e1:m'.evs=m.evs)(e2:m'.ans=m.ans)(e3:m'.blocks=m.blocks)(e4:m'.nslots=m.nslots)(e5:m'.slots=m.slots):FAt S B b mb sb g k m' vE vA vB pc n w w2:=by
 have q:=h.wh.nums hr t e1 e2 e3 e4 e5
 have lg:=World.block_lt_of_cell? _ _ h.g0
 exact⟨by rw[e4];exact q.1,h.be.trans q.2,(t.cell (p:=⟨g,0,none⟩) lg (by simp;exact h.ng.1)).trans h.g0,(t.cell (p:=⟨g,1,none⟩) lg (by simp;exact h.ng.1)).trans h.g1,h.ng,tnew2 h.tt t (fun i hi=>Or.inl (by simp at hi;subst hi;exact h.bS)),h.bS,h.sS⟩
theorem FAt.slot {S:List Nat}{B b mb sb g k:Nat}{m:M}{vE vA vB:Value}{pc n:Int}{w w':World}(h:FAt S B b mb sb g k m vE vA vB pc n w w')(hz:0<m.size)(hn:0<m.nslots)(hkn:k<m.nslots)(p0:0<=pc)(p1:pc<=4294967295):FAt S B b mb sb g k {m with slots:=fun i=>if i=k then(pc,n)else m.slots i } vE vA vB pc n w ((w'.setCell ⟨sb,k*2,none⟩ (.int .u32 pc)).setCell ⟨sb,k*2+1,none⟩ (.int .i64 n)):=by
 obtain⟨sb',hvS,hns,hpcs,hb1,hb2,hsl⟩:∃sb',(Value.slice (some ⟨sb,0,none⟩) m.nslots m.nslots)=.slice (some ⟨sb',0,none⟩) m.nslots m.nslots/\m.nslots<=64/\(∀i,0<=(m.slots i).1/\(m.slots i).1<=4294967295)/\b≠sb'/\mb≠sb'/\SlotsIn sb' m.nslots m.slots w':=by
  rcases h.wh.slots with⟨q,_⟩|⟨q1,q2,q3,sb,q4,q5,q6,q7⟩
  ·omega
  ·exact⟨sb,q4,q2,q3,q5,q6,q7⟩
 injection hvS with hvS _ _
 injection hvS with hvS
 injection hvS with hvS
 subst hvS
 have t:Touch [sb] w' ((w'.setCell ⟨sb,k*2,none⟩ (.int .u32 pc)).setCell ⟨sb,k*2+1,none⟩ (.int .i64 n)):=((Touch.refl _ _).setCell sP _).setCell sP _
 have lg:=World.block_lt_of_cell? _ _ h.g0
 have hr:=h.wh.ref.other t (by simp;exact hb1) (by simp;exact hb2) hz
 have q:=h.wh.step (m':={m with slots:=fun i=>if i=k then(pc,n)else m.slots i }) ⟨hr.hb,hr.hmb,hr.ne,hr.cells,hr.data,hr.free,hr.bytes,hr.freem⟩ (Or.inr ⟨hn,hns,fun i=>by
   show 0<=(if i=k then(pc,n)else m.slots i).1/\(if i=k then(pc,n)else m.slots i).1<=4294967295
   by_cases e:i=k
   ·rw[if_pos e];exact⟨p0,p1⟩
   ·rw[if_neg e];exact hpcs i,sb,rfl,hb1,hb2,hsl.upd hkn pc n⟩) (t.mono (by simp[sblk])) rfl rfl rfl
 exact⟨q.1,h.be.trans q.2,(t.cell (p:=⟨g,0,none⟩) lg (by simp;exact h.ng.2.2)).trans h.g0,(t.cell (p:=⟨g,1,none⟩) lg (by simp;exact h.ng.2.2)).trans h.g1,h.ng,tnew2 h.tt t (fun i hi=>by simp at hi;subst hi;exact h.sS),h.bS,h.sS⟩
end ref
namespace ref
open ChangeShapes WideShapes ChangeAt RowKit nums dnums mach
attribute [local go_sem ↓] Go.wp_at_zero Go.wp_at_succ
theorem FAt.s {S:List Nat}{B b mb sb g k:Nat}{m:M}{vE vA vB:Value}{pc n:Int}{w w':World}(h:FAt S B b mb sb g k m vE vA vB pc n w w')(hn:0<m.nslots):SlotsIn sb m.nslots m.slots w':=by
 rcases h.wh.slots with⟨q,_⟩|⟨q1,q2,q3,sb',q4,q5,q6,q7⟩
 ·omega
 ·exact Xs2
theorem built_nf(m:M)(k:Nat)(N8:Int)(hk:(m.pc/4).toNat%m.nslots=k)(hN:blockLen m.mem 8 m.pc=N8)(hfull:¬m.arena<m.used+N8):
  built m={m with slots:=fun i=>if i=k then(m.pc,N8)else m.slots i,used:=m.used+N8,built:=m.built+1,blocks:=count m.blocks m.pc N8 1 0 }:=by
 unfold built
 dsimp only
 rw[hk,hN,decide_eq_false hfull]
 rfl
theorem slots_of{B b mb sb:Nat}{m:M}{vE vA vB:Value}{w:World}(h:Whole B b mb m vE vA (.slice (some ⟨sb,0,none⟩) m.nslots m.nslots) vB w)(hn:0<m.nslots):SlotsIn sb m.nslots m.slots w:=by
 rcases h.slots with⟨q,_⟩|⟨q1,q2,q3,sb',q4,q5,q6,q7⟩
 ·omega
 ·exact Xs2
theorem find_new{B b mb:Nat}{m:M}{vE vA vS vB:Value}{w:World}(h:Whole B b mb m vE vA vS vB w)(hz:0<m.size)(hf:Fine m)(hn:0<m.nslots)(N:Nat)(hN:N<=4000)(hbg:BG m.blocks N)(k:Nat)(hk:(m.pc/4).toNat%m.nslots=k)(hp:(m.slots k).2=0\/¬(m.slots k).1=m.pc)(h64:m.size%64=0)(kk:Nat)(hkk:m.pc=kk)(ha4:kk%4=0)(hk4:kk+4<=m.size)(N8:Int)(hN8:blockLen m.mem 8 m.pc=N8)(u0:0<=m.used)(u1:m.used<=5000)(bt0:0<=m.built)(bt1:m.built<=5000)(hfull:¬m.arena<m.used+N8):
  Calls Tryz.prog 53 #[.pointer (some ⟨b,0,none⟩)] w (FindQ B b mb (enter {m with used:=m.used+N8,slots:=fun i=>if i=k then((kk:Int),N8)else m.slots i,built:=m.built+1,blocks:=count m.blocks (kk:Int) N8 1 0 } ((kk:Int),N8)) vE vA (b::(sblk vS++sblk vB)) w):=by
 obtain⟨sb,hvS,hns,hpcs,hb1,hb2,hsl⟩:∃sb,vS=.slice (some ⟨sb,0,none⟩) m.nslots m.nslots/\m.nslots<=64/\(∀i,0<=(m.slots i).1/\(m.slots i).1<=4294967295)/\b≠sb/\mb≠sb/\SlotsIn sb m.nslots m.slots w:=by
  exact Xs0
 subst hvS
 have hkn:k<m.nslots:=by rw[<-hk];exact Nat.mod_lt _ hn
 have pc0:=hf.pc.1
 have pc1:=hf.pc.2
 have hk2:m.pc/4%(m.nslots:Int)=(k:Int):=by
  exact Xs1
 have lb:b<w.heap.size:=World.block_lt_of_cell? _ _ h.ref.data
 have c1:w.cell? ⟨b,1,none⟩=some (.int .u32 (kk:Int)):=(h.ref.cells 1 dC dC).trans (by rw[<-hkk];rfl)
 have c44:w.cell? ⟨b,44,none⟩=some (.slice (some ⟨sb,0,none⟩) m.nslots m.nslots):=h.ref.cells 44 dC dC
 have s0:w.cell? ⟨sb,k*2,none⟩=some (.int .u32 (m.slots k).1):=hsl.pcs k hkn
 have s1:w.cell? ⟨sb,k*2+1,none⟩=some (.int .i64 (m.slots k).2):=hsl.lens k hkn
 have ls:sb<w.heap.size:=World.block_lt_of_cell? _ _ s0
 obtain⟨u47,c47⟩:=h.ref.there 47 dC
 obtain⟨u48,c48⟩:=h.ref.there 48 dC
 obtain⟨u49,c49⟩:=h.ref.there 49 dC
 have f47:=h.ref.free 47
 have f48:=h.ref.free 48
 have f49:=h.ref.free 49
 have nbs:¬b=sb:=hb1
 have nsb:¬sb=b:=fun e=>hb1 e.symm
 have k0:(0:Int)<=(k:Int):=by omega
 have k1:(k:Int)<(m.nslots:Int):=by omega
 have n0:(0:Int)<(m.nslots:Int):=by omega
 have n1:¬(m.nslots:Int)=0:=by omega
 have HP:Hid ((m.slots k).2=0\/¬(m.slots k).1=(kk:Int)):=(by rw[<-hkk];exact hp:(m.slots k).2=0\/¬(m.slots k).1=(kk:Int))
 have n8:=blockLen_bd m.mem 8 m.pc
 rw[hN8]at n8
 have c46:w.cell? ⟨b,46,none⟩=some (.int .i64 m.used):=h.ref.cells 46 dC dC
 have c45:w.cell? ⟨b,45,none⟩=some (.int .i64 m.arena):=h.ref.cells 45 dC dC
 have d3:decide (m.arena<m.used+N8)=false:=by simp;omega
 have z5:=hf.size
 have lm:mb<w.heap.size:=World.block_lt_of_cell? _ _ (h.ref.bytes 0 hz)
 have HWq:Hid (∀X,Touch [] w X->Whole B b mb m vE vA (.slice (some ⟨sb,0,none⟩) m.nslots m.nslots) vB X/\Below B w X):=fun X t=>h.quiet hz t
 have HBL:Hid (∀X,Whole B b mb m vE vA (.slice (some ⟨sb,0,none⟩) m.nslots m.nslots) vB X->Calls Tryz.prog 77 #[.pointer (some ⟨b,0,none⟩),.int .u32 (kk:Int)] X fun e w'=>e=.returned (.agg #[.int .u32 (kk:Int),.int .i64 N8])/\Touch [] X w'):=fun X hX=>by
  have:=block_any hX.ref hz hf h64 kk ha4 hk4
  rw[show blockLen m.mem 8 (kk:Int)=N8 from by rw[<-hkk];exact hN8]at this
  exact this
 have HG:Hid (BG m.blocks N):=hbg
 have HG5:Hid (BG (count m.blocks (kk:Int) N8 1 0) (N+1)):=hbg.count (kk:Int) N8 1 0 dC dC dC dC
 have P0:Hid (0<=((kk:Int),N8).1/\((kk:Int),N8).1<=4294967295):=⟨by show(0:Int)<=kk;omega,by show(kk:Int)<=4294967295;omega⟩
 have w8:IntKind.i64.wrap (m.used+N8)=m.used+N8:=by rw[IntKind.wrap_i64];omega
 have w9:IntKind.i64.wrap (m.built+1)=m.built+1:=by rw[IntKind.wrap_i64];omega
 rw[hkk]at hk2
 have fs0:=hsl.free (k*2)
 have fs1:=hsl.free (k*2+1)
 clear h hf hsl hpcs hbg hN8 hkk hp
 go_enter Tryz.func53,Tryz.ntmps53
 go_wp2_with fail
 go_quiet (fail)
 go_upto_region 1 with fail
 go_cut [41]from 17 to 41 (fun s wx=>s=.bool true/\Touch [] w wx)
 case first=>
  by_cases hp0:(m.slots k).2=0
  ·have d1:((m.slots k).2==0)=true:=by simpa using hp0
   go_quiet (fail)
   go_wp2_with fail
   go_meet
   exact⟨rfl,((Touch.refl _ _).drewN _).drewN _⟩
  ·have d1:((m.slots k).2==0)=false:=by simpa using hp0
   have d2:((m.slots k).1==(kk:Int))=false:=by simpa using HP.out.resolve_left hp0
   go_quiet (fail)
   go_wp2_with fail
   go_meet
   exact⟨by simp only[bne,d2];rfl,((Touch.refl _ _).drewN _).drewN _⟩
 case rest=>
 obtain⟨rfl,TX⟩:=hcut
 obtain⟨X,hXw⟩:∃X,X=wc:=⟨_,rfl⟩
 subst hXw
 have TXh:Hid (Touch [] w X):=TX
 have HWX:Hid (Whole B b mb m vE vA (.slice (some ⟨sb,0,none⟩) m.nslots m.nslots) vB X):=(HWq.out X TX).1
 have c1X:=(TX.cell (p:=⟨b,1,none⟩) lb sP).trans c1
 clear TX
 go_wp2_with (first|(go_at_call 77;refine(Calls.mono (HBL.out X HWX.out) ?_);rintro e w1 ⟨rfl,ht1⟩;have T1:Hid (Touch [] w w1):=TXh.out.trans ht1;have lw1:w.heap.size<=w1.heap.size:=T1.out.size;have FA0:Hid (FAt (b::(sblk (.slice (some ⟨sb,0,none⟩) m.nslots m.nslots)++sblk vB)) B b mb sb w1.heap.size k m vE vA vB (kk:Int) N8 w (w1.alloc (.cells #[.int .u32 (kk:Int),.int .i64 N8] 77))):=⟨(HWq.out _ (T1.out.alloc _)).1,(HWq.out _ (T1.out.alloc _)).2,World.cell?_alloc_at _ _ _ _ rfl,World.cell?_alloc_at _ _ _ _ rfl,⟨by omega,by omega,by omega⟩,(T1.out.alloc _).mono sP,by simp,Or.inl (by simp[sblk])⟩;have y46:w1.cell? ⟨b,46,none⟩=some (.int .i64 m.used):=(T1.out.cell (p:=⟨b,46,none⟩) lb sP).trans c46;have y45:w1.cell? ⟨b,45,none⟩=some (.int .i64 m.arena):=(T1.out.cell (p:=⟨b,45,none⟩) lb sP).trans c45;have lb1:b<w1.heap.size:=Nat.lt_of_lt_of_le lb lw1;clear ht1))
 go_quiet (fail)
 refine then_world (fun Y=>FAt (b::(sblk (.slice (some ⟨sb,0,none⟩) m.nslots m.nslots)++sblk vB)) B b mb sb w1.heap.size k m vE vA vB (kk:Int) N8 w Y) (FA0.out.quiet hz ((Touch.refl _ _).drewN _)) (fun Y1 HY1=> ?_)
 have lb1:b<Y1.heap.size:=World.block_lt_of_cell? _ _ HY1.wh.ref.data
 have g01:=HY1.g0
 have g11:=HY1.g1
 have lg1:=World.block_lt_of_cell? _ _ g01
 have y461:Y1.cell? ⟨b,46,none⟩=some (.int .i64 m.used):=HY1.wh.ref.cells 46 dC dC
 have x461:=HY1.wh.ref.free 46
 have FA1:Hid (FAt (b::(sblk (.slice (some ⟨sb,0,none⟩) m.nslots m.nslots)++sblk vB)) B b mb sb w1.heap.size k m vE vA vB (kk:Int) N8 w Y1):=HY1
 clear HY1
 go_wp2_with fail
 go_region
 refine then_world (fun Y=>FAt (b::(sblk (.slice (some ⟨sb,0,none⟩) m.nslots m.nslots)++sblk vB)) B b mb sb w1.heap.size k {m with used:=m.used+N8 } vE vA vB (kk:Int) N8 w Y) ((FA1.out.nums (at_used FA1.out.wh.ref (m.used+N8)) ((Touch.refl _ _).setCell sP _) rfl rfl rfl rfl rfl).quiet hz ((Touch.refl _ _).drew)) (fun Y2 HY2=> ?_)
 have lb2:b<Y2.heap.size:=World.block_lt_of_cell? _ _ HY2.wh.ref.data
 have g02:=HY2.g0
 have g12:=HY2.g1
 have lg2:=World.block_lt_of_cell? _ _ g02
 have y442:Y2.cell? ⟨b,44,none⟩=some ((.slice (some ⟨sb,0,none⟩) m.nslots m.nslots)):=HY2.wh.ref.cells 44 dC dC
 have x442:=HY2.wh.ref.free 44
 have r0:=(HY2.s hn).pcs k hkn
 have r1:=(HY2.s hn).lens k hkn
 have rf0:=(HY2.s hn).free (k*2)
 have rf1:=(HY2.s hn).free (k*2+1)
 have ls2:sb<Y2.heap.size:=World.block_lt_of_cell? _ _ r0
 have FA2:Hid (FAt (b::(sblk (.slice (some ⟨sb,0,none⟩) m.nslots m.nslots)++sblk vB)) B b mb sb w1.heap.size k {m with used:=m.used+N8 } vE vA vB (kk:Int) N8 w Y2):=HY2
 clear HY2
 go_wp2_with fail
 go_region
 refine then_world (fun Y=>FAt (b::(sblk (.slice (some ⟨sb,0,none⟩) m.nslots m.nslots)++sblk vB)) B b mb sb w1.heap.size k {m with used:=m.used+N8,slots:=fun i=>if i=k then((kk:Int),N8)else m.slots i } vE vA vB (kk:Int) N8 w Y) ((FA2.out.slot hz hn hkn oM oM).quiet hz ((Touch.refl _ _).drew)) (fun Y3 HY3=> ?_)
 have lb3:b<Y3.heap.size:=World.block_lt_of_cell? _ _ HY3.wh.ref.data
 have g03:=HY3.g0
 have g13:=HY3.g1
 have lg3:=World.block_lt_of_cell? _ _ g03
 have y383:Y3.cell? ⟨b,38,none⟩=some (.int .i64 m.built):=HY3.wh.ref.cells 38 dC dC
 have x383:=HY3.wh.ref.free 38
 have HW3:Hid (FAt (b::(sblk (.slice (some ⟨sb,0,none⟩) m.nslots m.nslots)++sblk vB)) B b mb sb w1.heap.size k {m with used:=m.used+N8,slots:=fun i=>if i=k then((kk:Int),N8)else m.slots i,built:=m.built+1 } vE vA vB (kk:Int) N8 w (Y3.setCell ⟨b,38,none⟩ (.int .i64 (m.built+1)))):=HY3.nums (at_builtv HY3.wh.ref (m.built+1)) ((Touch.refl _ _).setCell sP _) rfl rfl rfl rfl rfl
 have ngb3:¬w1.heap.size=b:=HY3.ng.1
 have nbg3:¬b=w1.heap.size:=fun e=>ngb3 e.symm
 clear HY3
 go_wp2_with (first|(go_at_call 78;refine(Calls.mono (count_01 (HX5.out.entered ((kk:Int),N8)).1 hz ((kk:Int),N8).1 ((kk:Int),N8).2 P0.out.1 P0.out.2 (Nat.le_trans HG5.out.len oM) HG5.out.sorted (fun x hx=>by have:=HG5.out.bd x hx;omega)) ?_);rintro e w9 ⟨rfl,vB9,q1,q2,q3,q4⟩;have H9:Hid (Whole B b mb (enter {m with used:=m.used+N8,slots:=fun i=>if i=k then((kk:Int),N8)else m.slots i,built:=m.built+1,blocks:=count m.blocks (kk:Int) N8 1 0 } ((kk:Int),N8)) vE vA (.slice (some ⟨sb,0,none⟩) m.nslots m.nslots) vB9 w9/\Below B w w9/\Touch (b::(sblk (.slice (some ⟨sb,0,none⟩) m.nslots m.nslots)++sblk vB)) w w9):=⟨q1,HB5.out.trans ((HX5.out.entered ((kk:Int),N8)).2.trans q2),tnew2 (((HT5.out.setCell sP _).setCell sP _).setCell sP _) q3 HV5.out⟩;clear q1 q2 q3 q4)|(go_at_call 78;refine(Calls.mono (count_10 HW3.out.wh hz (kk:Int) N8 oM oM (Nat.le_trans HG.out.len oM) HG.out.sorted (fun x hx=>by have:=HG.out.bd x hx;omega)) ?_);rintro e w5 ⟨rfl,vB5,q1,q2,q3,q4⟩;have HT5:Hid (Touch (b::(sblk (.slice (some ⟨sb,0,none⟩) m.nslots m.nslots)++sblk vB)) w w5):=tnew2 HW3.out.tt q3 (fun i hi=>Or.inl Xs4);have HV5:Hid (∀i,i∈b::sblk vB5->i∈b::(sblk (.slice (some ⟨sb,0,none⟩) m.nslots m.nslots)++sblk vB)\/w.heap.size<=i):=(fun i hi=>by rcases List.mem_cons.1 hi with q|q;exact Or.inl (by simp[q]);rcases q4 i q with r|r;exact Or.inl (by simp[r]);exact Or.inr (Nat.le_trans HW3.out.tt.size r));have HX5:Hid (Whole B b mb {m with used:=m.used+N8,slots:=fun i=>if i=k then((kk:Int),N8)else m.slots i,built:=m.built+1,blocks:=count m.blocks (kk:Int) N8 1 0 } vE vA (.slice (some ⟨sb,0,none⟩) m.nslots m.nslots) vB5 w5):=q1;have HB5:Hid (Below B w w5):=HW3.out.be.trans q2;have s5:=slots_of q1 hn;have z44:w5.cell? ⟨b,44,none⟩=some (.slice (some ⟨sb,0,none⟩) m.nslots m.nslots):=q1.ref.cells 44 dC dC;have z0:w5.cell? ⟨sb,k*2,none⟩=some (.int .u32 (kk:Int)):=(s5.pcs k hkn).trans sP;have z1:w5.cell? ⟨sb,k*2+1,none⟩=some (.int .i64 N8):=(s5.lens k hkn).trans sP;obtain⟨u7,z47⟩:=q1.ref.there 47 dC;obtain⟨u8,z48⟩:=q1.ref.there 48 dC;obtain⟨u9,z49⟩:=q1.ref.there 49 dC;have v47:=q1.ref.free 47;have v48:=q1.ref.free 48;have v49:=q1.ref.free 49;have lb5:b<w5.heap.size:=World.block_lt_of_cell? _ _ q1.ref.data;have ls5:sb<w5.heap.size:=World.block_lt_of_cell? _ _ z0;clear q1 q2 q3 q4 s5))
 exact Xs3
end ref
end Go.Proofs.YtjikimpejlmdiaaGreatDoor

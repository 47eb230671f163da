import Derived.Test.YtjikimpejlmdiaaGreatDoorZHd
import Derived.BigQuiet
import Derived.BigRegion
import Derived.Deep.OwnRows
import Derived.Deep.Cut
import Derived.Deep.CutRange
set_option maxHeartbeats 4000000
set_option linter.unusedVariables false
set_option linter.unusedSimpArgs false
set_option maxRecDepth 10000
namespace Go.Proofs.YtjikimpejlmdiaaGreatDoor
theorem XP0{p:Prop}(h:p:=by intro e;injection e with e _;omega):p:=h
namespace ref
open ChangeShapes WideShapes ChangeAt RowKit nums dnums mach
attribute [local go_sem ↓] Go.wp_at_zero Go.wp_at_succ
theorem info_slt:(Tryz.prog.info? 77).map (fun i=>(i.zero,i.size,i.bytes))=some (some (.agg #[.int .u32 0,.int .i64 0]),2,16):=by kernel_rfl
theorem make_slots(n:Nat)(hn:n<=64)(w:World):(Instr.makeSlice 75 (.int .i64 (n:Int)) (.int .i64 (n:Int))).run Tryz.prog w=.ok (.slice (some ⟨w.heap.size,0,none⟩) n n) (w.alloc (.cells (madeCells #[.int .u32 0,.int .i64 0] (n*2)) 77)):=by
 obtain⟨i0,hi,hz0,hz1,hz2⟩:=info_parts info_slt
 have:=run_make (P:=Tryz.prog) w 75 77 i0 _ Tryz.underlying75 hi hz0 .i64 .i64 (n:Int) (n:Int) oM oM (by rw[hz2];omega) oM
 simp only[Int.toNat_natCast]at this
 rw[hz1]at this
 exact this
theorem made2(a c:Value)(n i:Nat)(hi:i<n):(madeCells #[a,c] (n*2))[i*2]?=some a/\(madeCells #[a,c] (n*2))[i*2+1]?=some c:=by
 have h1:i*2<n*2:=by omega
 have h2:i*2+1<n*2:=by omega
 constructor
 ·simp[madeCells,h1]
 ·simp[madeCells,h2,show(i*2+1)%2=1 by omega]
theorem at_slotv{B b mb:Nat}{m:M}{vE vA vS vB:Value}{w:World}(h:RefAt B b mb m vE vA vS vB w)(s:Nat->Int × Int)(v:Value):RefAt B b mb {m with slots:=s } vE vA v vB (w.setCell ⟨b,44,none⟩ v):=
 h.upd (m':={m with slots:=s }) (vE':=vE) (vA':=vA) (vS':=v) (vB':=vB) 44 dC dC _ rfl rfl (fun i hi h39=>Or.elim (Decidable.em (i=44)) (fun e=>by subst e;simp[lay]) (fun e=>by simp[lay,e]))
theorem FAt.clear {S:List Nat}{B b mb sb g k:Nat}{m:M}{vE vA vB:Value}{pc n:Int}{w w':World}(h:FAt S B b mb sb g k m vE vA vB pc n w w')(hz:0<m.size)(hn:0<m.nslots)(hns:m.nslots<=64):
  FAt S B b mb w'.heap.size g k {m with slots:=fun _=>(0,0),used:=0 } vE vA vB pc n w (((w'.alloc (.cells (madeCells #[.int .u32 0,.int .i64 0] (m.nslots*2)) 77)).setCell ⟨b,44,none⟩ (.slice (some ⟨w'.heap.size,0,none⟩) m.nslots m.nslots)).setCell ⟨b,46,none⟩ (.int .i64 0)):=by
 have lb:b<w'.heap.size:=World.block_lt_of_cell? _ _ h.wh.ref.data
 have lm:mb<w'.heap.size:=World.block_lt_of_cell? _ _ (h.wh.ref.bytes 0 hz)
 have lg:=World.block_lt_of_cell? _ _ h.g0
 have lg2:g<w'.heap.size:=lg
 have hr1:=h.wh.ref.other ((Touch.refl [] w').alloc (.cells (madeCells #[.int .u32 0,.int .i64 0] (m.nslots*2)) 77)) sP sP hz
 have hr2:=@at_used B b mb _ _ _ _ _ _ (at_slotv hr1 (fun _=>(0,0)) (.slice (some ⟨w'.heap.size,0,none⟩) m.nslots m.nslots)) 0
 have t:Touch [b] w' (((w'.alloc (.cells (madeCells #[.int .u32 0,.int .i64 0] (m.nslots*2)) 77)).setCell ⟨b,44,none⟩ (.slice (some ⟨w'.heap.size,0,none⟩) m.nslots m.nslots)).setCell ⟨b,46,none⟩ (.int .i64 0)):=(((Touch.refl _ _).alloc _).setCell sP _).setCell sP _
 have hlt:B<=w'.heap.size:=Nat.le_trans h.wh.ref.hb (Nat.le_of_lt lb)
 have hbel:Below B w' (((w'.alloc (.cells (madeCells #[.int .u32 0,.int .i64 0] (m.nslots*2)) 77)).setCell ⟨b,44,none⟩ (.slice (some ⟨w'.heap.size,0,none⟩) m.nslots m.nslots)).setCell ⟨b,46,none⟩ (.int .i64 0)):=t.below hlt (by intro i hi;simp at hi;subst hi;exact h.wh.ref.hb)
 have hsl:SlotsIn w'.heap.size m.nslots (fun _=>(0,0)) (((w'.alloc (.cells (madeCells #[.int .u32 0,.int .i64 0] (m.nslots*2)) 77)).setCell ⟨b,44,none⟩ (.slice (some ⟨w'.heap.size,0,none⟩) m.nslots m.nslots)).setCell ⟨b,46,none⟩ (.int .i64 0)):=by
  refine⟨fun i hi=> ?_,fun i hi=> ?_,fun j=> ?_⟩
  ·rw[World.cell?_setCell_other _ _ _ _ XP0,World.cell?_setCell_other _ _ _ _ XP0,World.cell?_alloc_at _ _ _ _ rfl]
   exact(made2 _ _ _ _ hi).1
  ·rw[World.cell?_setCell_other _ _ _ _ XP0,World.cell?_setCell_other _ _ _ _ XP0,World.cell?_alloc_at _ _ _ _ rfl]
   exact(made2 _ _ _ _ hi).2
  ·rw[World.frozen?_setCell,World.frozen?_setCell];exact World.frozen?_alloc_at _ _ _ _ rfl
 refine⟨⟨hr2,Or.inr ⟨hn,hns,fun i=>by show(0:Int)<=0/\(0:Int)<=4294967295;omega,w'.heap.size,rfl,by omega,by omega,hsl⟩,own_touch h.wh.evs t (fun i hi=>by simpa using(h.wh.dE i hi).1),h.wh.ans.below hbel,own_touch h.wh.blks t (fun i hi=>by simpa using(h.wh.dB i hi).1),fun i hi=>⟨(h.wh.dE i hi).1,(h.wh.dE i hi).2.1, ?_,(h.wh.dE i hi).2.2.2⟩,fun i hi=>⟨(h.wh.dB i hi).1,(h.wh.dB i hi).2.1, ?_⟩, ?_⟩,h.be.trans hbel,(t.cell (p:=⟨g,0,none⟩) lg (by simp;exact h.ng.1)).trans h.g0,(t.cell (p:=⟨g,1,none⟩) lg (by simp;exact h.ng.1)).trans h.g1,⟨h.ng.1,h.ng.2.1,by omega⟩,tnew2 h.tt t (fun i hi=>Or.inl (by simp at hi;subst hi;exact h.bS)),h.bS,Or.inr h.tt.size⟩
 ·have:=(own_lt h.wh.evs i hi).2;simp[sblk];omega
 ·have:=(own_lt h.wh.blks i hi).2;simp[sblk];omega
 ·intro i hi;simp[sblk]at hi;subst hi;exact hlt
theorem built_fu(m:M)(k:Nat)(N8:Int)(hk:(m.pc/4).toNat%m.nslots=k)(hN:blockLen m.mem 8 m.pc=N8)(hfull:m.arena<m.used+N8):
  built m={m with slots:=fun i=>if i=k then(m.pc,N8)else(0,0),used:=N8,built:=m.built+1,blocks:=count m.blocks m.pc N8 1 0 }:=by
 unfold built
 dsimp only
 rw[hk,hN,decide_eq_true hfull]
 simp only[if_true,Int.zero_add]
theorem find_clr{B b mb:Nat}{m:M}{vE vA vS vB:Value}{w:World}(h:Whole B b mb m vE vA vS vB w)(hz:0<m.size)(hf:Fine m)(hn:0<m.nslots)(N:Nat)(hN:N<=4000)(hbg:BG m.blocks N)(k:Nat)(hk:(m.pc/4).toNat%m.nslots=k)(hp:(m.slots k).2=0\/¬(m.slots k).1=m.pc)(h64:m.size%64=0)(kk:Nat)(hkk:m.pc=kk)(ha4:kk%4=0)(hk4:kk+4<=m.size)(N8:Int)(hN8:blockLen m.mem 8 m.pc=N8)(u0:0<=m.used)(u1:m.used<=5000)(bt0:0<=m.built)(bt1:m.built<=5000)(hfull:m.arena<m.used+N8):
  Calls Tryz.prog 53 #[.pointer (some ⟨b,0,none⟩)] w (FindQ B b mb (enter {m with used:=N8,slots:=fun i=>if i=k then((kk:Int),N8)else((0:Int),(0:Int)),built:=m.built+1,blocks:=count m.blocks (kk:Int) N8 1 0 } ((kk:Int),N8)) vE vA (b::(sblk vS++sblk vB)) w):=by
 obtain⟨sb,hvS,hns,hpcs,hb1,hb2,hsl⟩:∃sb,vS=.slice (some ⟨sb,0,none⟩) m.nslots m.nslots/\m.nslots<=64/\(∀i,0<=(m.slots i).1/\(m.slots i).1<=4294967295)/\b≠sb/\mb≠sb/\SlotsIn sb m.nslots m.slots w:=by
  rcases h.slots with⟨q,_⟩|⟨q1,q2,q3,sb,q4,q5,q6,q7⟩
  ·omega
  ·exact⟨sb,q4,q2,q3,q5,q6,q7⟩
 subst hvS
 have hkn:k<m.nslots:=by rw[<-hk];exact Nat.mod_lt _ hn
 have pc0:=hf.pc.1
 have pc1:=hf.pc.2
 have hk2:m.pc/4%(m.nslots:Int)=(k:Int):=by
  rw[<-hk]
  have:((m.pc/4).toNat:Int)=m.pc/4:=by omega
  rw[Int.natCast_emod,this]
 have lb:b<w.heap.size:=World.block_lt_of_cell? _ _ h.ref.data
 have c1:w.cell? ⟨b,1,none⟩=some (.int .u32 (kk:Int)):=(h.ref.cells 1 dC dC).trans (by rw[<-hkk];rfl)
 have c44:w.cell? ⟨b,44,none⟩=some (.slice (some ⟨sb,0,none⟩) m.nslots m.nslots):=h.ref.cells 44 dC dC
 have s0:w.cell? ⟨sb,k*2,none⟩=some (.int .u32 (m.slots k).1):=hsl.pcs k hkn
 have s1:w.cell? ⟨sb,k*2+1,none⟩=some (.int .i64 (m.slots k).2):=hsl.lens k hkn
 have ls:sb<w.heap.size:=World.block_lt_of_cell? _ _ s0
 obtain⟨u47,c47⟩:=h.ref.there 47 dC
 obtain⟨u48,c48⟩:=h.ref.there 48 dC
 obtain⟨u49,c49⟩:=h.ref.there 49 dC
 have f47:=h.ref.free 47
 have f48:=h.ref.free 48
 have f49:=h.ref.free 49
 have nbs:¬b=sb:=hb1
 have nsb:¬sb=b:=fun e=>hb1 e.symm
 have k0:(0:Int)<=(k:Int):=by omega
 have k1:(k:Int)<(m.nslots:Int):=by omega
 have n0:(0:Int)<(m.nslots:Int):=by omega
 have n1:¬(m.nslots:Int)=0:=by omega
 have HP:Hid ((m.slots k).2=0\/¬(m.slots k).1=(kk:Int)):=(by rw[<-hkk];exact hp:(m.slots k).2=0\/¬(m.slots k).1=(kk:Int))
 have n8:=blockLen_bd m.mem 8 m.pc
 rw[hN8]at n8
 have c46:w.cell? ⟨b,46,none⟩=some (.int .i64 m.used):=h.ref.cells 46 dC dC
 have c45:w.cell? ⟨b,45,none⟩=some (.int .i64 m.arena):=h.ref.cells 45 dC dC
 have d3:decide (m.arena<m.used+N8)=true:=by simp;omega
 have z5:=hf.size
 have lm:mb<w.heap.size:=World.block_lt_of_cell? _ _ (h.ref.bytes 0 hz)
 have HWq:Hid (∀X,Touch [] w X->Whole B b mb m vE vA (.slice (some ⟨sb,0,none⟩) m.nslots m.nslots) vB X/\Below B w X):=fun X t=>h.quiet hz t
 have HBL:Hid (∀X,Whole B b mb m vE vA (.slice (some ⟨sb,0,none⟩) m.nslots m.nslots) vB X->Calls Tryz.prog 77 #[.pointer (some ⟨b,0,none⟩),.int .u32 (kk:Int)] X fun e w'=>e=.returned (.agg #[.int .u32 (kk:Int),.int .i64 N8])/\Touch [] X w'):=fun X hX=>by
  have:=block_any hX.ref hz hf h64 kk ha4 hk4
  rw[show blockLen m.mem 8 (kk:Int)=N8 from by rw[<-hkk];exact hN8]at this
  exact this
 have HG:Hid (BG m.blocks N):=hbg
 have HG5:Hid (BG (count m.blocks (kk:Int) N8 1 0) (N+1)):=hbg.count (kk:Int) N8 1 0 dC dC dC dC
 have P0:Hid (0<=((kk:Int),N8).1/\((kk:Int),N8).1<=4294967295):=⟨by show(0:Int)<=kk;omega,by show(kk:Int)<=4294967295;omega⟩
 have w8:IntKind.i64.wrap (m.used+N8)=m.used+N8:=by rw[IntKind.wrap_i64];omega
 have w9:IntKind.i64.wrap (m.built+1)=m.built+1:=by rw[IntKind.wrap_i64];omega
 rw[hkk]at hk2
 have fs0:=hsl.free (k*2)
 have fs1:=hsl.free (k*2+1)
 clear h hf hsl hpcs hbg hN8 hkk hp
 go_enter Tryz.func53,Tryz.ntmps53
 go_wp2_with fail
 go_quiet (fail)
 go_upto_region 1 with fail
 go_cut [41]from 17 to 41 (fun s wx=>s=.bool true/\Touch [] w wx)
 case first=>
  by_cases hp0:(m.slots k).2=0
  ·have d1:((m.slots k).2==0)=true:=by simpa using hp0
   go_quiet (fail)
   go_wp2_with fail
   go_meet
   exact⟨rfl,((Touch.refl _ _).drewN _).drewN _⟩
  ·have d1:((m.slots k).2==0)=false:=by simpa using hp0
   have d2:((m.slots k).1==(kk:Int))=false:=by simpa using HP.out.resolve_left hp0
   go_quiet (fail)
   go_wp2_with fail
   go_meet
   exact⟨by simp only[bne,d2];rfl,((Touch.refl _ _).drewN _).drewN _⟩
 case rest=>
 obtain⟨rfl,TX⟩:=hcut
 obtain⟨X,hXw⟩:∃X,X=wc:=⟨_,rfl⟩
 subst hXw
 have TXh:Hid (Touch [] w X):=TX
 have HWX:Hid (Whole B b mb m vE vA (.slice (some ⟨sb,0,none⟩) m.nslots m.nslots) vB X):=(HWq.out X TX).1
 have c1X:=(TX.cell (p:=⟨b,1,none⟩) lb sP).trans c1
 clear TX
 go_wp2_with (first|(go_at_call 77;refine(Calls.mono (HBL.out X HWX.out) ?_);rintro e w1 ⟨rfl,ht1⟩;have T1:Hid (Touch [] w w1):=TXh.out.trans ht1;have lw1:w.heap.size<=w1.heap.size:=T1.out.size;have FA0:Hid (FAt (b::(sblk (.slice (some ⟨sb,0,none⟩) m.nslots m.nslots)++sblk vB)) B b mb sb w1.heap.size k m vE vA vB (kk:Int) N8 w (w1.alloc (.cells #[.int .u32 (kk:Int),.int .i64 N8] 77))):=⟨(HWq.out _ (T1.out.alloc _)).1,(HWq.out _ (T1.out.alloc _)).2,World.cell?_alloc_at _ _ _ _ rfl,World.cell?_alloc_at _ _ _ _ rfl,⟨by omega,by omega,by omega⟩,(T1.out.alloc _).mono sP,by simp,Or.inl (by simp[sblk])⟩;have y46:w1.cell? ⟨b,46,none⟩=some (.int .i64 m.used):=(T1.out.cell (p:=⟨b,46,none⟩) lb sP).trans c46;have y45:w1.cell? ⟨b,45,none⟩=some (.int .i64 m.arena):=(T1.out.cell (p:=⟨b,45,none⟩) lb sP).trans c45;have lb1:b<w1.heap.size:=Nat.lt_of_lt_of_le lb lw1;clear ht1))
 go_quiet (fail)
 refine then_world (fun Y=>FAt (b::(sblk (.slice (some ⟨sb,0,none⟩) m.nslots m.nslots)++sblk vB)) B b mb sb w1.heap.size k m vE vA vB (kk:Int) N8 w Y) (FA0.out.quiet hz ((Touch.refl _ _).drewN _)) (fun Y1 HY1=> ?_)
 have lb1:b<Y1.heap.size:=World.block_lt_of_cell? _ _ HY1.wh.ref.data
 have g01:=HY1.g0
 have g11:=HY1.g1
 have lg1:=World.block_lt_of_cell? _ _ g01
 have y461:Y1.cell? ⟨b,46,none⟩=some (.int .i64 m.used):=HY1.wh.ref.cells 46 dC dC
 have x461:=HY1.wh.ref.free 46
 have y441:Y1.cell? ⟨b,44,none⟩=some (.slice (some ⟨sb,0,none⟩) m.nslots m.nslots):=HY1.wh.ref.cells 44 dC dC
 have x441:=HY1.wh.ref.free 44
 have FAq:Hid (FAt (b::(sblk (.slice (some ⟨sb,0,none⟩) m.nslots m.nslots)++sblk vB)) B b mb sb w1.heap.size k m vE vA vB (kk:Int) N8 w Y1):=HY1
 have hmk:=make_slots m.nslots hns
 have w8n:IntKind.i64.wrap N8=N8:=by rw[IntKind.wrap_i64];omega
 clear HY1
 go_wp2_with fail
 obtain⟨sb2,hsb2⟩:∃s,s=Y1.heap.size:=⟨_,rfl⟩
 refine wp_world (fun Y=>FAt (b::(sblk (.slice (some ⟨sb,0,none⟩) m.nslots m.nslots)++sblk vB)) B b mb sb2 w1.heap.size k {m with slots:=fun _=>(0,0),used:=0 } vE vA vB (kk:Int) N8 w Y) (by rw[hsb2];have q:=FAq.out.clear hz hn hns;rw[World.setCell_alloc_past _ _ _ _ lb1,World.setCell_alloc_past _ _ _ _ (by simpa using lb1)]at q;exact q) (fun Yc HYc=> ?_)
 have lbc:b<Yc.heap.size:=World.block_lt_of_cell? _ _ HYc.wh.ref.data
 have g0c:=HYc.g0
 have g1c:=HYc.g1
 have lgc:=World.block_lt_of_cell? _ _ g0c
 have y46c:Yc.cell? ⟨b,46,none⟩=some (.int .i64 0):=HYc.wh.ref.cells 46 dC dC
 have x46c:=HYc.wh.ref.free 46
 have FA1:Hid (FAt (b::(sblk (.slice (some ⟨sb,0,none⟩) m.nslots m.nslots)++sblk vB)) B b mb sb2 w1.heap.size k {m with slots:=fun _=>(0,0),used:=0 } vE vA vB (kk:Int) N8 w Yc):=HYc
 clear HYc hsb2 hmk
 go_region
 refine then_world (fun Y=>FAt (b::(sblk (.slice (some ⟨sb,0,none⟩) m.nslots m.nslots)++sblk vB)) B b mb sb2 w1.heap.size k {m with slots:=fun _=>(0,0),used:=N8 } vE vA vB (kk:Int) N8 w Y) ((FA1.out.nums (at_used FA1.out.wh.ref (N8)) ((Touch.refl _ _).setCell sP _) rfl rfl rfl rfl rfl).quiet hz ((Touch.refl _ _).drew)) (fun Y2 HY2=> ?_)
 have lb2:b<Y2.heap.size:=World.block_lt_of_cell? _ _ HY2.wh.ref.data
 have g02:=HY2.g0
 have g12:=HY2.g1
 have lg2:=World.block_lt_of_cell? _ _ g02
 have y442:Y2.cell? ⟨b,44,none⟩=some ((.slice (some ⟨sb2,0,none⟩) m.nslots m.nslots)):=HY2.wh.ref.cells 44 dC dC
 have x442:=HY2.wh.ref.free 44
 have r0:=(HY2.s hn).pcs k hkn
 have r1:=(HY2.s hn).lens k hkn
 have rf0:=(HY2.s hn).free (k*2)
 have rf1:=(HY2.s hn).free (k*2+1)
 have ls2:sb2<Y2.heap.size:=World.block_lt_of_cell? _ _ r0
 have FA2:Hid (FAt (b::(sblk (.slice (some ⟨sb,0,none⟩) m.nslots m.nslots)++sblk vB)) B b mb sb2 w1.heap.size k {m with slots:=fun _=>(0,0),used:=N8 } vE vA vB (kk:Int) N8 w Y2):=HY2
 clear HY2
 go_wp2_with fail
 go_region
 refine then_world (fun Y=>FAt (b::(sblk (.slice (some ⟨sb,0,none⟩) m.nslots m.nslots)++sblk vB)) B b mb sb2 w1.heap.size k {m with used:=N8,slots:=fun i=>if i=k then((kk:Int),N8)else((0:Int),(0:Int)) } vE vA vB (kk:Int) N8 w Y) ((FA2.out.slot hz hn hkn oM oM).quiet hz ((Touch.refl _ _).drew)) (fun Y3 HY3=> ?_)
 have lb3:b<Y3.heap.size:=World.block_lt_of_cell? _ _ HY3.wh.ref.data
 have g03:=HY3.g0
 have g13:=HY3.g1
 have lg3:=World.block_lt_of_cell? _ _ g03
 have y383:Y3.cell? ⟨b,38,none⟩=some (.int .i64 m.built):=HY3.wh.ref.cells 38 dC dC
 have x383:=HY3.wh.ref.free 38
 have HW3:Hid (FAt (b::(sblk (.slice (some ⟨sb,0,none⟩) m.nslots m.nslots)++sblk vB)) B b mb sb2 w1.heap.size k {m with used:=N8,slots:=fun i=>if i=k then((kk:Int),N8)else((0:Int),(0:Int)),built:=m.built+1 } vE vA vB (kk:Int) N8 w (Y3.setCell ⟨b,38,none⟩ (.int .i64 (m.built+1)))):=HY3.nums (at_builtv HY3.wh.ref (m.built+1)) ((Touch.refl _ _).setCell sP _) rfl rfl rfl rfl rfl
 have ngb3:¬w1.heap.size=b:=HY3.ng.1
 have nbg3:¬b=w1.heap.size:=fun e=>ngb3 e.symm
 clear HY3
 go_wp2_with (first|(go_at_call 78;refine(Calls.mono (count_01 (HX5.out.entered ((kk:Int),N8)).1 hz ((kk:Int),N8).1 ((kk:Int),N8).2 P0.out.1 P0.out.2 (Nat.le_trans HG5.out.len oM) HG5.out.sorted (fun x hx=>by have:=HG5.out.bd x hx;omega)) ?_);rintro e w9 ⟨rfl,vB9,q1,q2,q3,q4⟩;have H9:Hid (Whole B b mb (enter {m with used:=N8,slots:=fun i=>if i=k then((kk:Int),N8)else((0:Int),(0:Int)),built:=m.built+1,blocks:=count m.blocks (kk:Int) N8 1 0 } ((kk:Int),N8)) vE vA (.slice (some ⟨sb2,0,none⟩) m.nslots m.nslots) vB9 w9/\Below B w w9/\Touch (b::(sblk (.slice (some ⟨sb,0,none⟩) m.nslots m.nslots)++sblk vB)) w w9):=⟨q1,HB5.out.trans ((HX5.out.entered ((kk:Int),N8)).2.trans q2),tnew2 (((HT5.out.setCell sP _).setCell sP _).setCell sP _) q3 HV5.out⟩;clear q1 q2 q3 q4)|(go_at_call 78;refine(Calls.mono (count_10 HW3.out.wh hz (kk:Int) N8 oM oM (Nat.le_trans HG.out.len oM) HG.out.sorted (fun x hx=>by have:=HG.out.bd x hx;omega)) ?_);rintro e w5 ⟨rfl,vB5,q1,q2,q3,q4⟩;have HT5:Hid (Touch (b::(sblk (.slice (some ⟨sb,0,none⟩) m.nslots m.nslots)++sblk vB)) w w5):=tnew2 HW3.out.tt q3 (fun i hi=>Or.inl (by simp at hi ⊢;rcases hi with q|q;exact Or.inl q;exact Or.inr (Or.inr q)));have HV5:Hid (∀i,i∈b::sblk vB5->i∈b::(sblk (.slice (some ⟨sb,0,none⟩) m.nslots m.nslots)++sblk vB)\/w.heap.size<=i):=(fun i hi=>by rcases List.mem_cons.1 hi with q|q;exact Or.inl (by simp[q]);rcases q4 i q with r|r;exact Or.inl (by simp[r]);exact Or.inr (Nat.le_trans HW3.out.tt.size r));have HX5:Hid (Whole B b mb {m with used:=N8,slots:=fun i=>if i=k then((kk:Int),N8)else((0:Int),(0:Int)),built:=m.built+1,blocks:=count m.blocks (kk:Int) N8 1 0 } vE vA (.slice (some ⟨sb2,0,none⟩) m.nslots m.nslots) vB5 w5):=q1;have HB5:Hid (Below B w w5):=HW3.out.be.trans q2;have s5:=slots_of q1 hn;have z44:w5.cell? ⟨b,44,none⟩=some (.slice (some ⟨sb2,0,none⟩) m.nslots m.nslots):=q1.ref.cells 44 dC dC;have z0:w5.cell? ⟨sb2,k*2,none⟩=some (.int .u32 (kk:Int)):=(s5.pcs k hkn).trans sP;have z1:w5.cell? ⟨sb2,k*2+1,none⟩=some (.int .i64 N8):=(s5.lens k hkn).trans sP;obtain⟨u7,z47⟩:=q1.ref.there 47 dC;obtain⟨u8,z48⟩:=q1.ref.there 48 dC;obtain⟨u9,z49⟩:=q1.ref.there 49 dC;have v47:=q1.ref.free 47;have v48:=q1.ref.free 48;have v49:=q1.ref.free 49;have lb5:b<w5.heap.size:=World.block_lt_of_cell? _ _ q1.ref.data;have ls5:sb2<w5.heap.size:=World.block_lt_of_cell? _ _ z0;clear q1 q2 q3 q4 s5))
 go_end0
 exact⟨rfl,_,vB9,H9.out.1,H9.out.2.1,H9.out.2.2⟩
end ref
end Go.Proofs.YtjikimpejlmdiaaGreatDoor

import Derived.Test.YtjikimpejlmdiaaGreatDoorZRefBI
import Derived.BigQuiet
import Derived.Deep.Cut
import Derived.Deep.CutRange
set_option maxHeartbeats 4000000
set_option linter.unusedVariables false
set_option linter.unusedSimpArgs false
set_option maxRecDepth 10000
namespace Go.Proofs.YtjikimpejlmdiaaGreatDoor
theorem Xt0{p:Prop}(h:p:=by
 go_quiet (fail)
 go_wp2_with fail
 go_meet
 exact⟨by first|rfl|(simp only[bne,d3];rfl),_,rfl⟩):p:=h
theorem Xt1{p:Prop}(h:p:=by
 rcases h.slots with⟨q,_⟩|⟨q1,q2,q3,sb,q4,q5,q6,q7⟩
 ·omega
 ·exact⟨sb,q4,q2,World.block_lt_of_cell? _ _ (q7.pcs 0 q1)⟩):p:=h
namespace ref
open ChangeShapes WideShapes ChangeAt RowKit nums dnums mach
attribute [local go_sem ↓] Go.wp_at_zero Go.wp_at_succ
theorem find_any{B b mb:Nat}{m:M}{vE vA vS vB:Value}{w:World}(h:Whole B b mb m vE vA vS vB w)(hz:0<m.size)(hf:Fine m)(hn:0<m.nslots)(N:Nat)(hN:N<=4000)(hbg:BG m.blocks N)(h64:m.size%64=0)(kk:Nat)(hkk:m.pc=kk)(ha4:kk%4=0)(hk4:kk+4<=m.size)(u0:0<=m.used)(u1:m.used<=5000)(bt0:0<=m.built)(bt1:m.built<=5000):
  Calls Tryz.prog 53 #[.pointer (some ⟨b,0,none⟩)] w (FindQ B b mb (find m) vE vA (b::(sblk vS++sblk vB)) w):=by
 obtain⟨k,hk⟩:∃k,(m.pc/4).toNat%m.nslots=k:=⟨_,rfl⟩
 obtain⟨N8,hN8⟩:∃N8,blockLen m.mem 8 m.pc=N8:=⟨_,rfl⟩
 by_cases hp:(m.slots k).2=0\/(m.slots k).1≠m.pc
 ·have e1:=find_build m (by rw[hk];exact hp)
  by_cases hfull:m.arena<m.used+N8
  ·have e2:find m=enter {m with used:=N8,slots:=fun i=>if i=k then((kk:Int),N8)else((0:Int),(0:Int)),built:=m.built+1,blocks:=count m.blocks (kk:Int) N8 1 0 } ((kk:Int),N8):=by
    rw[e1,built_fu m k N8 hk hN8 hfull,hN8]
    simp only[hkk]
   rw[e2]
   by_cases hp0:(m.slots k).2=0
   ·exact find_clr h hz hf hn N hN hbg k hk (Or.inl hp0) h64 kk hkk ha4 hk4 N8 hN8 u0 u1 bt0 bt1 hfull
   ·exact find_clr h hz hf hn N hN hbg k hk hp h64 kk hkk ha4 hk4 N8 hN8 u0 u1 bt0 bt1 hfull
  ·have e2:find m=enter {m with used:=m.used+N8,slots:=fun i=>if i=k then((kk:Int),N8)else m.slots i,built:=m.built+1,blocks:=count m.blocks (kk:Int) N8 1 0 } ((kk:Int),N8):=by
    rw[e1,built_nf m k N8 hk hN8 hfull,hN8]
    simp only[hkk]
   rw[e2]
   by_cases hp0:(m.slots k).2=0
   ·exact find_new h hz hf hn N hN hbg k hk (Or.inl hp0) h64 kk hkk ha4 hk4 N8 hN8 u0 u1 bt0 bt1 hfull
   ·exact find_new h hz hf hn N hN hbg k hk hp h64 kk hkk ha4 hk4 N8 hN8 u0 u1 bt0 bt1 hfull
 ·have e1:=find_enter m (by rw[hk];exact hp)
  rw[e1,hk]
  exact find_old h hz hf hn N hN hbg k hk hp
end ref
namespace ref
open ChangeShapes WideShapes ChangeAt RowKit nums dnums mach
attribute [local go_sem ↓] Go.wp_at_zero Go.wp_at_succ
theorem find_fs(m:M):(find m).steps=m.steps/\(find m).fuel=m.fuel/\(find m).ended=m.ended/\(find m).done=0/\(find m).nslots=m.nslots/\(find m).size=m.size/\(find m).cur.1=m.pc/\(find m).mem=m.mem:=by
 by_cases h:(m.slots ((m.pc/4).toNat%m.nslots)).2=0\/(m.slots ((m.pc/4).toNat%m.nslots)).1≠m.pc
 ·rw[find_build m h];exact⟨rfl,rfl,rfl,rfl,rfl,rfl,rfl,rfl⟩
 ·rw[find_enter m h];exact⟨rfl,rfl,rfl,rfl,rfl,rfl,Classical.byContradiction (fun e=>h (Or.inr e)),rfl⟩
theorem good_find{m:M}(h:MGood m):MGood (find m):=by
 by_cases c:(m.slots ((m.pc/4).toNat%m.nslots)).2=0\/(m.slots ((m.pc/4).toNat%m.nslots)).1≠m.pc
 ·rw[find_build m c]
  exact⟨⟨h.fine.regs,h.fine.zero,h.fine.mem,h.fine.size,h.fine.pc,h.fine.brk,h.fine.low,h.fine.steps,h.fine.fuel,h.fine.within⟩,h.pos,h.evs,h.fine.pc⟩
 ·have e:(m.slots ((m.pc/4).toNat%m.nslots)).1=m.pc:=Classical.byContradiction (fun e=>c (Or.inr e))
  rw[find_enter m c]
  refine⟨⟨h.fine.regs,h.fine.zero,h.fine.mem,h.fine.size,h.fine.pc,h.fine.brk,h.fine.low,h.fine.steps,h.fine.fuel,h.fine.within⟩,h.pos,h.evs, ?_⟩
  show 0<=(m.slots ((m.pc/4).toNat%m.nslots)).1/\(m.slots ((m.pc/4).toNat%m.nslots)).1<=4294967295
  rw[e];exact h.fine.pc
def StepQ (B b mb:Nat) (m:M) (w:World) (e:Ending) (w':World):Prop:=e=.returned (.tuple #[])/\∃vE' vA' vS' vB',Whole B b mb m vE' vA' vS' vB' w'/\Below B w w'
theorem step_l{B b mb:Nat}{m:M}{vE vA vS vB:Value}{w:World}(h:Whole B b mb m vE vA vS vB w)(hg:MGood m)(hs:m.steps<m.fuel)(hen:m.ended=false)(hd0:0<=m.done)(hd1:m.done<=5000)(hns:0<m.nslots)(N:Nat)(hN:N<=4000)(hbg:BG m.blocks N)(h64:m.size%64=0)(u0:0<=m.used)(u1:m.used<=5000)(bt0:0<=m.built)(bt1:m.built<=5000)(k:Nat)(hk:m.pc=k)(ha:(k:Int)%4=0)(hl:lies m m.pc 4=true)(hn:¬opn (ld m.mem k 4)=-1)(hc:m.cur.2=0\/m.cur.2<=m.done\/¬(m.cur.1+4*m.done)%4294967296=m.pc):
  Calls Tryz.prog 34 #[.pointer (some ⟨b,0,none⟩)] w (StepQ B b mb (exec {(find m)with done:=(find m).done+1 } (ld m.mem k 4)) w):=by
 obtain⟨sb,hvS,hns64,lsb⟩:∃sb,vS=.slice (some ⟨sb,0,none⟩) m.nslots m.nslots/\m.nslots<=64/\sb<w.heap.size:=by
  exact Xt1
 subst hvS
 have HLB:Hid (∀i,i∈sblk vB->i<w.heap.size):=fun i hi=>(own_lt h.blks i hi).2
 have HWn:Hid (∀n,Whole B b mb m vE vA (.slice (some ⟨sb,0,none⟩) m.nslots m.nslots) vB (w.drewN n)/\Below B w (w.drewN n)):=fun n=>h.quiet hg.pos ((Touch.refl _ _).drewN n)
 have HG:Hid (MGood m):=hg
 have HBG:Hid (BG m.blocks N):=hbg
 have c37:w.cell? ⟨b,37,none⟩=some (.int .i64 m.steps):=h.ref.cells 37 dC dC
 have c42:w.cell? ⟨b,42,none⟩=some (.int .i64 m.fuel):=h.ref.cells 42 dC dC
 have cpc:w.cell? ⟨b,1,none⟩=some (.int .u32 (k:Int)):=(h.ref.cells 1 dC dC).trans (by rw[<-hk];rfl)
 have hk4:k+4<=m.size:=by simp[lies,hk]at hl;omega
 have hz5:=hg.fine.size
 have x0:0<=ld m.mem k 4:=(ld4 m.mem hg.fine.mem k).1
 have x1:ld m.mem k 4<=4294967295:=(ld4 m.mem hg.fine.mem k).2
 have cu0:=hg.cur.1
 have cu1:=hg.cur.2
 have n0:(0:Int)<(m.nslots:Int):=by omega
 have HC:Hid (m.cur.2=0\/m.cur.2<=m.done\/¬(m.cur.1+4*m.done)%4294967296=(k:Int)):=(by rw[<-hk];exact hc:m.cur.2=0\/m.cur.2<=m.done\/¬(m.cur.1+4*m.done)%4294967296=(k:Int))
 clear hc
 have wd:IntKind.u32.wrap m.done=m.done:=by rw[IntKind.wrap_u32];omega
 have wd4:IntKind.u32.wrap (4*m.done)=4*m.done:=by rw[IntKind.wrap_u32];omega
 have wdc:IntKind.u32.wrap (m.cur.1+4*m.done)=(m.cur.1+4*m.done)%4294967296:=IntKind.wrap_u32 _
 have wd1:IntKind.i64.wrap (m.done+1)=m.done+1:=by rw[IntKind.wrap_i64];omega
 have hkp:m.pc=(k:Int):=hk
 have HK:Hid (m.pc=(k:Int)):=hk
 rw[hk]at hl
 have HE:Hid (m.ended=false):=hen
 have HN:Hid (¬opn (ld m.mem k 4)=-1):=hn
 have HX:Hid (0<=ld m.mem k 4/\ld m.mem k 4<=4294967295):=⟨x0,x1⟩
 clear h hg hbg hk hkp hen
 go_enter Tryz.func34,Tryz.ntmps34
 go_wp2_with fail
 go_quiet (fail)
 go_upto_region 12 with(first|(go_at_call 51;refine(lies_any (HWn.out _).1.ref (k:Int) 4 oM oM dC dC HG.out.fine.size).mono ?_;rintro e w' ⟨rfl,hw'⟩;subst w')|(go_at_call 52;refine(load_4 (HWn.out _).1.ref k hk4 HG.out.fine.size HG.out.fine.mem).mono ?_;rintro e w' ⟨rfl,hw'⟩;subst w')|(go_at_call 38;refine(decodes.dref_any (ld m.mem k 4) x0 x1 _).mono ?_;rintro e w1 ⟨rfl,hbel⟩;have HD:Hid (∀o,Whole B b mb m vE vA (.slice (some ⟨sb,0,none⟩) m.nslots m.nslots) vB (w1.alloc o)/\Below B w (w1.alloc o)):=fun o=>(fun q=>⟨q.1,(HWn.out _).2.trans q.2⟩) ((HWn.out _).1.quiet HG.out.pos ((Touch.of_below hbel).alloc o));have lw1:w.heap.size<=w1.heap.size:=hbel.size;have hw1:=(HWn.out _).1.ref.other (Touch.of_below (S:=[]) hbel) sP sP HG.out.pos;have lb1:b<w1.heap.size:=World.block_lt_of_cell? _ _ hw1.data;have e44:w1.cell? ⟨b,44,none⟩=some (.slice (some ⟨sb,0,none⟩) m.nslots m.nslots):=hw1.cells 44 dC dC;have e47:w1.cell? ⟨b,47,none⟩=some (.int .u32 m.cur.1):=hw1.cells 47 dC dC;have e48:w1.cell? ⟨b,48,none⟩=some (.int .i64 m.cur.2):=hw1.cells 48 dC dC;have e49:w1.cell? ⟨b,49,none⟩=some (.int .i64 m.done):=hw1.cells 49 dC dC;have f49:=hw1.free 49;rw[dec_raw _ hn];unfold ins;clear hw1;clear hbel))
 go_cut [89]from 48 to 89 (fun s wx=>s=.bool true/\∃n,wx=(w1.alloc (.cells #[.int .i64 (opn (ld m.mem k 4)),.int .i64 (qRd (ld m.mem k 4)),.int .i64 (qR1 (ld m.mem k 4)),.int .i64 (qR2 (ld m.mem k 4)),.int .i32 (imm (ld m.mem k 4))] 61)).drewN n)
 case first=>
  by_cases hc0:m.cur.2=0
  ·have d1:(m.cur.2==0)=true:=by simpa using hc0
   exact Xt0
  have d1:(m.cur.2==0)=false:=by simpa using hc0
  by_cases hc1:m.cur.2<=m.done
  ·have d2:decide (m.cur.2<=m.done)=true:=by simpa using hc1
   exact Xt0
  ·have d2:decide (m.cur.2<=m.done)=false:=by simpa using hc1
   have d3:((m.cur.1+4*m.done)%4294967296==(k:Int))=false:=by simpa using(HC.out.resolve_left hc0).resolve_left hc1
   exact Xt0
 case rest=>
 obtain⟨rfl,nq,hwc⟩:=hcut
 subst hwc
 have HDn:Hid (∀o n,Whole B b mb m vE vA (.slice (some ⟨sb,0,none⟩) m.nslots m.nslots) vB ((w1.alloc o).drewN n)/\Below B w ((w1.alloc o).drewN n)):=fun o n=>(fun q=>⟨q.1,(HD.out o).2.trans q.2⟩) ((HD.out o).1.quiet HG.out.pos ((Touch.refl _ _).drewN n))
 go_wp2_with fail
 refine(Calls.mono (find_any (HDn.out _ _).1 HG.out.pos HG.out.fine hns N hN HBG.out h64 k HK.out oM hk4 u0 u1 bt0 bt1) ?_)
 rintro e w3 ⟨rfl,vS3,vB3,q1,q2,q3⟩
 have HF3:Hid (Whole B b mb (find m) vE vA vS3 vB3 w3/\Below B w w3):=⟨q1,(HDn.out _ _).2.trans q2⟩
 have z49:w3.cell? ⟨b,49,none⟩=some (.int .i64 0):=(q1.ref.cells 49 dC dC).trans (by rw[<-(find_fs m).2.2.2.1];rfl)
 have v49:=q1.ref.free 49
 have lb3:b<w3.heap.size:=World.block_lt_of_cell? _ _ q1.ref.data
 have nm:w1.heap.size∉b::(sblk (.slice (some ⟨sb,0,none⟩) m.nslots m.nslots)++sblk vB):=by
  intro hc
  simp[sblk]at hc
  rcases hc with q|q|q
  ·omega
  ·omega
  ·have:=HLB.out _ q;omega
 have bx0:w3.cell? ⟨w1.heap.size,0,none⟩=some (.int .i64 (opn (ld m.mem k 4))):=(q3.cell (p:=⟨w1.heap.size,0,none⟩) sP nm).trans (World.cell?_alloc_at _ _ _ _ rfl)
 have bx1:w3.cell? ⟨w1.heap.size,1,none⟩=some (.int .i64 (qRd (ld m.mem k 4))):=(q3.cell (p:=⟨w1.heap.size,1,none⟩) sP nm).trans (World.cell?_alloc_at _ _ _ _ rfl)
 have bx2:w3.cell? ⟨w1.heap.size,2,none⟩=some (.int .i64 (qR1 (ld m.mem k 4))):=(q3.cell (p:=⟨w1.heap.size,2,none⟩) sP nm).trans (World.cell?_alloc_at _ _ _ _ rfl)
 have bx3:w3.cell? ⟨w1.heap.size,3,none⟩=some (.int .i64 (qR2 (ld m.mem k 4))):=(q3.cell (p:=⟨w1.heap.size,3,none⟩) sP nm).trans (World.cell?_alloc_at _ _ _ _ rfl)
 have bx4:w3.cell? ⟨w1.heap.size,4,none⟩=some (.int .i32 (imm (ld m.mem k 4))):=(q3.cell (p:=⟨w1.heap.size,4,none⟩) sP nm).trans (World.cell?_alloc_at _ _ _ _ rfl)
 have lw3:w1.heap.size<w3.heap.size:=World.block_lt_of_cell? _ _ bx0
 clear q1 q2 q3 nm
 go_wp2_with fail
 have HF4:Hid (Whole B b mb {(find m)with done:=(find m).done+1 } vE vA vS3 vB3 (w3.setCell ⟨b,49,none⟩ (.int .i64 1))/\Below B w (w3.setCell ⟨b,49,none⟩ (.int .i64 1))):=(by
  have q:=whole_done HF3.out.1 ((find m).done+1)
  rw[(find_fs m).2.2.2.1]at q
  rw[(find_fs m).2.2.2.1]
  exact⟨q.1,HF3.out.2.trans q.2⟩)
 refine(Calls.mono (exec_all HF4.out.1 (good_done (good_find HG.out) _) (by show(find m).steps<(find m).fuel;rw[(find_fs m).1,(find_fs m).2.1];exact hs) (by show(find m).ended=false;rw[(find_fs m).2.2.1];exact HE.out) (ld m.mem k 4) HX.out.1 HX.out.2 HN.out) ?_)
 rintro e w9 ⟨rfl,vE9,vA9,q1,q2⟩
 have HQ:Hid (Whole B b mb (exec {(find m)with done:=(find m).done+1 } (ld m.mem k 4)) vE9 vA9 vS3 vB3 w9/\Below B w w9):=⟨q1,HF4.out.2.trans q2⟩
 clear q1 q2
 go_wp2_with fail
 go_end0
 exact⟨rfl,vE9,vA9,vS3,vB3,HQ.out.1,HQ.out.2⟩
theorem step_k{B b mb:Nat}{m:M}{vE vA vS vB:Value}{w:World}(h:Whole B b mb m vE vA vS vB w)(hg:MGood m)(hs:m.steps<m.fuel)(hen:m.ended=false)(hd0:0<=m.done)(hd1:m.done<=5000)(hns:0<m.nslots)(N:Nat)(hN:N<=4000)(hbg:BG m.blocks N)(h64:m.size%64=0)(u0:0<=m.used)(u1:m.used<=5000)(bt0:0<=m.built)(bt1:m.built<=5000)(k:Nat)(hk:m.pc=k)(ha:(k:Int)%4=0)(hl:lies m m.pc 4=true)(hn:¬opn (ld m.mem k 4)=-1)(hc0:¬m.cur.2=0)(hc1:¬m.cur.2<=m.done)(hc:(m.cur.1+4*m.done)%4294967296=m.pc):
  Calls Tryz.prog 34 #[.pointer (some ⟨b,0,none⟩)] w (StepQ B b mb (exec {m with done:=m.done+1 } (ld m.mem k 4)) w):=by
 obtain⟨sb,hvS,hns64,lsb⟩:∃sb,vS=.slice (some ⟨sb,0,none⟩) m.nslots m.nslots/\m.nslots<=64/\sb<w.heap.size:=by
  exact Xt1
 subst hvS
 have HLB:Hid (∀i,i∈sblk vB->i<w.heap.size):=fun i hi=>(own_lt h.blks i hi).2
 have HWn:Hid (∀n,Whole B b mb m vE vA (.slice (some ⟨sb,0,none⟩) m.nslots m.nslots) vB (w.drewN n)/\Below B w (w.drewN n)):=fun n=>h.quiet hg.pos ((Touch.refl _ _).drewN n)
 have HG:Hid (MGood m):=hg
 have HBG:Hid (BG m.blocks N):=hbg
 have c37:w.cell? ⟨b,37,none⟩=some (.int .i64 m.steps):=h.ref.cells 37 dC dC
 have c42:w.cell? ⟨b,42,none⟩=some (.int .i64 m.fuel):=h.ref.cells 42 dC dC
 have cpc:w.cell? ⟨b,1,none⟩=some (.int .u32 (k:Int)):=(h.ref.cells 1 dC dC).trans (by rw[<-hk];rfl)
 have hk4:k+4<=m.size:=by simp[lies,hk]at hl;omega
 have hz5:=hg.fine.size
 have x0:0<=ld m.mem k 4:=(ld4 m.mem hg.fine.mem k).1
 have x1:ld m.mem k 4<=4294967295:=(ld4 m.mem hg.fine.mem k).2
 have cu0:=hg.cur.1
 have cu1:=hg.cur.2
 have n0:(0:Int)<(m.nslots:Int):=by omega
 have d1:(m.cur.2==0)=false:=by simpa using hc0
 have d2:decide (m.cur.2<=m.done)=false:=by simpa using hc1
 have d3:((m.cur.1+4*m.done)%4294967296==(k:Int))=true:=by simp;rw[<-hk];exact hc
 have wd:IntKind.u32.wrap m.done=m.done:=by rw[IntKind.wrap_u32];omega
 have wd4:IntKind.u32.wrap (4*m.done)=4*m.done:=by rw[IntKind.wrap_u32];omega
 have wdc:IntKind.u32.wrap (m.cur.1+4*m.done)=(m.cur.1+4*m.done)%4294967296:=IntKind.wrap_u32 _
 have wd1:IntKind.i64.wrap (m.done+1)=m.done+1:=by rw[IntKind.wrap_i64];omega
 have hkp:m.pc=(k:Int):=hk
 have HK:Hid (m.pc=(k:Int)):=hk
 rw[hk]at hl
 have HE:Hid (m.ended=false):=hen
 have HN:Hid (¬opn (ld m.mem k 4)=-1):=hn
 have HX:Hid (0<=ld m.mem k 4/\ld m.mem k 4<=4294967295):=⟨x0,x1⟩
 clear h hg hbg hk hkp hen
 go_enter Tryz.func34,Tryz.ntmps34
 go_wp2_with fail
 go_quiet (fail)
 go_wp2_with (first|(go_at_call 51;refine(lies_any (HWn.out _).1.ref (k:Int) 4 oM oM dC dC HG.out.fine.size).mono ?_;rintro e w' ⟨rfl,hw'⟩;subst w')|(go_at_call 52;refine(load_4 (HWn.out _).1.ref k hk4 HG.out.fine.size HG.out.fine.mem).mono ?_;rintro e w' ⟨rfl,hw'⟩;subst w')|(go_at_call 38;refine(decodes.dref_any (ld m.mem k 4) x0 x1 _).mono ?_;rintro e w1 ⟨rfl,hbel⟩;have HD:Hid (∀o,Whole B b mb m vE vA (.slice (some ⟨sb,0,none⟩) m.nslots m.nslots) vB (w1.alloc o)/\Below B w (w1.alloc o)):=fun o=>(fun q=>⟨q.1,(HWn.out _).2.trans q.2⟩) ((HWn.out _).1.quiet HG.out.pos ((Touch.of_below hbel).alloc o));have lw1:w.heap.size<=w1.heap.size:=hbel.size;have hw1:=(HWn.out _).1.ref.other (Touch.of_below (S:=[]) hbel) sP sP HG.out.pos;have lb1:b<w1.heap.size:=World.block_lt_of_cell? _ _ hw1.data;have e44:w1.cell? ⟨b,44,none⟩=some (.slice (some ⟨sb,0,none⟩) m.nslots m.nslots):=hw1.cells 44 dC dC;have e47:w1.cell? ⟨b,47,none⟩=some (.int .u32 m.cur.1):=hw1.cells 47 dC dC;have e48:w1.cell? ⟨b,48,none⟩=some (.int .i64 m.cur.2):=hw1.cells 48 dC dC;have e49:w1.cell? ⟨b,49,none⟩=some (.int .i64 m.done):=hw1.cells 49 dC dC;have f49:=hw1.free 49;rw[dec_raw _ hn];unfold ins;clear hw1;clear hbel))
 go_quiet (fail)
 have HDn:Hid (∀o n,Whole B b mb m vE vA (.slice (some ⟨sb,0,none⟩) m.nslots m.nslots) vB ((w1.alloc o).drewN n)/\Below B w ((w1.alloc o).drewN n)):=fun o n=>(fun q=>⟨q.1,(HD.out o).2.trans q.2⟩) ((HD.out o).1.quiet HG.out.pos ((Touch.refl _ _).drewN n))
 go_wp2_with fail
 have HD2:Hid (∀o n,Whole B b mb {m with done:=m.done+1 } vE vA (.slice (some ⟨sb,0,none⟩) m.nslots m.nslots) vB (((w1.alloc o).drewN n).setCell ⟨b,49,none⟩ (.int .i64 (m.done+1)))/\Below B w (((w1.alloc o).drewN n).setCell ⟨b,49,none⟩ (.int .i64 (m.done+1)))):=fun o n=>(fun r=>⟨r.1,(HDn.out o n).2.trans r.2⟩) (whole_done (HDn.out o n).1 (m.done+1))
 refine(Calls.mono (exec_all (HD2.out _ _).1 (good_done HG.out _) hs HE.out (ld m.mem k 4) HX.out.1 HX.out.2 HN.out) ?_)
 rintro e w9 ⟨rfl,vE9,vA9,q1,q2⟩
 have HQ:Hid (Whole B b mb (exec {m with done:=m.done+1 } (ld m.mem k 4)) vE9 vA9 (.slice (some ⟨sb,0,none⟩) m.nslots m.nslots) vB w9/\Below B w w9):=⟨q1,(HD2.out _ _).2.trans q2⟩
 clear q1 q2
 go_wp2_with fail
 go_end0
 exact⟨rfl,vE9,vA9,_,vB,HQ.out.1,HQ.out.2⟩
end ref
namespace ref
open ChangeShapes WideShapes ChangeAt RowKit nums dnums mach
attribute [local go_sem ↓] Go.wp_at_zero Go.wp_at_succ
theorem step_q(B b mb:Nat)(m:M)(vS vB:Value)(w:World)(e:Ending)(w':World)(h:DoPost B b mb m vS vB w e w'):StepQ B b mb m w e w':=by
 obtain⟨h1,vE',vA',h2,h3⟩:=h
 exact⟨h1,vE',vA',vS,vB,h2,h3⟩
theorem stepb_any{B b mb:Nat}{m:M}{vE vA vS vB:Value}{w:World}(h:Whole B b mb m vE vA vS vB w)(hg:MGood m)(hen:m.ended=false)(hd0:0<=m.done)(hd1:m.done<=5000)(hns:0<m.nslots)(N:Nat)(hN:N<=4000)(hbg:BG m.blocks N)(h64:m.size%64=0)(u0:0<=m.used)(u1:m.used<=5000)(bt0:0<=m.built)(bt1:m.built<=5000):
  Calls Tryz.prog 34 #[.pointer (some ⟨b,0,none⟩)] w (StepQ B b mb (mach.step m) w):=by
 obtain⟨k,hk⟩:∃k:Nat,m.pc=k:=⟨m.pc.toNat,by have:=hg.fine.pc.1;omega⟩
 unfold mach.step
 dsimp only
 by_cases c1:m.fuel<=m.steps
 ·rw[if_pos c1];exact(step_fuel h hg c1).mono (step_q B b mb _ vS vB w)
 rw[if_neg c1]
 by_cases c2:m.pc%4≠0
 ·rw[if_pos c2];exact(step_align h hg oM c2).mono (step_q B b mb _ vS vB w)
 rw[if_neg c2]
 by_cases c3:(!lies m m.pc 4)=true
 ·rw[if_pos c3];exact(step_fault h hg oM oM (by simpa using c3)).mono (step_q B b mb _ vS vB w)
 rw[if_neg c3]
 have hl:lies m m.pc 4=true:=by simpa using c3
 have ek:m.pc.toNat=k:=by omega
 rw[ek]
 by_cases c4:opn (ld m.mem k 4)=-1
 ·rw[if_pos c4];exact(step_none h hg oM k hk oM hl c4).mono (step_q B b mb _ vS vB w)
 rw[if_neg c4]
 by_cases l1:m.cur.2=0
 ·rw[if_pos (show lost m=true by simp[lost,hns,l1])]
  exact step_l h hg oM hen hd0 hd1 hns N hN hbg h64 u0 u1 bt0 bt1 k hk oM hl c4 (Or.inl l1)
 by_cases l2:m.cur.2<=m.done
 ·rw[if_pos (show lost m=true by simp[lost,hns,l2])]
  exact step_l h hg oM hen hd0 hd1 hns N hN hbg h64 u0 u1 bt0 bt1 k hk oM hl c4 (Or.inr (Or.inl l2))
 by_cases l3:(m.cur.1+4*m.done)%4294967296=m.pc
 ·rw[if_neg (show ¬lost m=true by simp[lost,l1,l2,l3])]
  exact step_k h hg oM hen hd0 hd1 hns N hN hbg h64 u0 u1 bt0 bt1 k hk oM hl c4 l1 l2 l3
 ·rw[if_pos (show lost m=true by simp[lost,hns,l3])]
  exact step_l h hg oM hen hd0 hd1 hns N hN hbg h64 u0 u1 bt0 bt1 k hk oM hl c4 (Or.inr (Or.inr l3))
end ref
end Go.Proofs.YtjikimpejlmdiaaGreatDoor

import Derived.Test.YtjikimpejlmdiaaGreatDoorZGi
import Derived.Test.YtjikimpejlmdiaaGreatDoorZGa
import Derived.Test.YtjikimpejlmdiaaGreatDoorZGe
set_option maxHeartbeats 4000000
set_option linter.unusedVariables false
set_option linter.unusedSimpArgs false
set_option maxRecDepth 10000
namespace Go.Proofs.YtjikimpejlmdiaaGreatDoor
theorem Xa0{p:Prop}(h:p:=by
 refine bodyPost_ret (results_none rfl _ _ _) rfl ?_
 exact⟨rfl,vE,vA,HA.out.1,HB.out⟩):p:=h
theorem Xa1{p:Prop}(h:p:=by rw[if_neg h3];exact⟨setReg_pc _ _ _,setReg_st _ _ _,setReg_en _ _ _⟩):p:=h
namespace ref
open ChangeShapes WideShapes ChangeAt RowKit nums dnums mach
def ecd (m:M):M:=
 let a:=m.regs 10
 let p:=m.regs 11
 let n:=m.regs 12
 let c:=m.regs 17
 if c=93 then stop {m with evs:=m.evs++[⟨93,a,ByteArray.empty⟩],steps:=m.steps+1 } 1 else
 if c=64 then(if lies m p n then setReg {m with evs:=m.evs++[⟨64,n,memD m.mem p.toNat n.toNat⟩] } 10 n else setReg m 10 4294967282)else
 if c=63 then
  (if lies m p n then
   let s:=m.ans.headD ByteArray.empty
   let t:=s.extract 0 (min s.size n.toNat)
   setReg {wrote {m with mem:=put m.mem p.toNat t,ans:=m.ans.tail } p t.size with evs:=m.evs++[⟨63,t.size,t⟩] } 10 t.size
  else setReg m 10 4294967282)else
 if c=214 then
  (let k:=if m.low<=a/\a<=m.size then a else m.brk
   setReg {m with brk:=k } 10 k)else
 setReg m 10 4294967258
theorem ecall_ecd(m:M):ecall m=if m.regs 17=93 then ecd m else next (ecd m):=by
 unfold ecall ecd
 dsimp only
 by_cases h1:m.regs 17=93
 ·simp only[h1,if_true]
 ·rw[if_neg h1,if_neg h1,if_neg h1]
  by_cases h2:m.regs 17=64
  ·rw[if_pos h2,if_pos h2]
   by_cases h3:lies m (m.regs 11) (m.regs 12)=true
   ·rw[if_pos h3,if_pos h3];rfl
   ·rw[if_neg h3,if_neg h3]
  ·rw[if_neg h2,if_neg h2]
   by_cases h4:m.regs 17=63
   ·rw[if_pos h4,if_pos h4]
    by_cases h3:lies m (m.regs 11) (m.regs 12)=true
    ·rw[if_pos h3,if_pos h3]
    ·rw[if_neg h3,if_neg h3]
   ·rw[if_neg h4,if_neg h4]
    by_cases h5:m.regs 17=214
    ·rw[if_pos h5,if_pos h5]
    ·rw[if_neg h5,if_neg h5]
def CallPost (B b mb:Nat) (m:M) (vS vB:Value) (w:World) (e:Ending) (w':World):Prop:=e=.returned (.tuple #[])/\∃vE' vA',Whole B b mb m vE' vA' vS vB w'/\Below B w w'
theorem post_reg10(B b mb:Nat)(m m':M)(vE vA vS vB:Value)(w:World)(h:Whole B b mb m vE vA vS vB w)(e1:m'.evs=m.evs)(e2:m'.ans=m.ans)(e3:m'.blocks=m.blocks)(e4:m'.nslots=m.nslots)(e5:m'.slots=m.slots)(e:Ending)(w':World)(h1:e=.returned (.tuple #[])/\RefAt B b mb m' vE vA vS vB w'/\Touch [b] w w'):CallPost B b mb m' vS vB w e w':=by
 obtain⟨g1,g2⟩:=Whole.step h h1.2.1 (h.slots.other (h1.2.2.mono sP) e4 e5) (h1.2.2.mono sP) e1 e2 e3
 exact⟨h1.1,_,_,g1,g2⟩
theorem call_any{B b mb:Nat}{m:M}{vE vA vS vB:Value}{w:World}(h:Whole B b mb m vE vA vS vB w)(hz:0<m.size)(hf:Fine m)(hlt:m.steps<m.fuel)(hev:m.evs.length<=m.steps)(hc0:0<=m.cur.1)(hc1:m.cur.1<=4294967295):
  Calls Tryz.prog 81 #[.pointer (some ⟨b,0,none⟩)] w (CallPost B b mb (ecd m) vS vB w):=by
 have p0:=(hf.regs 11).1
 have n0:=(hf.regs 12).1
 obtain⟨k,hk⟩:∃k:Nat,m.regs 11=k:=⟨(m.regs 11).toNat,by omega⟩
 obtain⟨j,hj⟩:∃j:Nat,m.regs 12=j:=⟨(m.regs 12).toNat,by omega⟩
 unfold ecd
 dsimp only
 by_cases c93:m.regs 17=93
 ·rw[if_pos c93]
  exact call_93 h hz hf hlt hev c93
 rw[if_neg c93]
 by_cases c64:m.regs 17=64
 ·rw[if_pos c64]
  cases hl:lies m (m.regs 11) (m.regs 12)with
  |false=>
   rw[if_neg dC]
   exact(call_f64 h.ref hz hf c64 hl).mono (post_reg10 B b mb m _ vE vA vS vB w h (setReg_ev _ _ _).1 (setReg_ev _ _ _).2.1 (setReg_ev _ _ _).2.2 (setReg_ns _ _ _) (setReg_sl _ _ _))
  |true=>
   rw[if_pos rfl]
   have hkj:k+j<=m.size:=by simp[lies,hk,hj]at hl;omega
   rw[hk,hj,Int.toNat_natCast,Int.toNat_natCast]
   by_cases hks:m.size=k
   ·obtain rfl:j=0:=by omega
    exact call_64e h hz hf hlt hev k hk hj c64 hks
   ·exact call_64 h hz hf hlt hev k j hk hj hkj c64 oM
 rw[if_neg c64]
 by_cases c63:m.regs 17=63
 ·rw[if_pos c63]
  cases hl:lies m (m.regs 11) (m.regs 12)with
  |false=>
   rw[if_neg dC]
   exact(call_f63 h.ref hz hf c63 hl).mono (post_reg10 B b mb m _ vE vA vS vB w h (setReg_ev _ _ _).1 (setReg_ev _ _ _).2.1 (setReg_ev _ _ _).2.2 (setReg_ns _ _ _) (setReg_sl _ _ _))
  |true=>
   rw[if_pos rfl]
   have hkj:k+j<=m.size:=by simp[lies,hk,hj]at hl;omega
   rw[hk,hj,Int.toNat_natCast,Int.toNat_natCast]
   exact c63_all h hz hf hlt hev k j hk hj hkj c63 hc0 hc1 _ _ rfl rfl
 rw[if_neg c63]
 by_cases c214:m.regs 17=214
 ·rw[if_pos c214]
  by_cases hb:m.low<=m.regs 10/\m.regs 10<=m.size
  ·rw[if_pos hb]
   exact(call_brk_y h.ref hz hf c214 hb.1 hb.2).mono (post_reg10 B b mb m _ vE vA vS vB w h (setReg_ev _ _ _).1 (setReg_ev _ _ _).2.1 (setReg_ev _ _ _).2.2 (setReg_ns _ _ _) (setReg_sl _ _ _))
  ·rw[if_neg hb]
   exact(call_brk_n h.ref hz hf c214 hb).mono (post_reg10 B b mb m _ vE vA vS vB w h (setReg_ev _ _ _).1 (setReg_ev _ _ _).2.1 (setReg_ev _ _ _).2.2 (setReg_ns _ _ _) (setReg_sl _ _ _))
 rw[if_neg c214]
 exact(call_nosys h.ref hz hf c93 c64 c63 c214).mono (post_reg10 B b mb m _ vE vA vS vB w h (setReg_ev _ _ _).1 (setReg_ev _ _ _).2.1 (setReg_ev _ _ _).2.2 (setReg_ns _ _ _) (setReg_sl _ _ _))
end ref
namespace ref
open ChangeShapes WideShapes ChangeAt RowKit nums dnums mach
theorem Whole.quiet {B b mb:Nat}{m:M}{vE vA vS vB:Value}{w w':World}(h:Whole B b mb m vE vA vS vB w)(hz:0<m.size)(t:Touch [] w w'):Whole B b mb m vE vA vS vB w'/\Below B w w':=
 h.step (h.ref.other t sP sP hz) (h.slots.other (t.mono sP) rfl rfl) (t.mono sP) rfl rfl rfl
theorem setReg_en(m:M)(r v:Int):(setReg m r v).ended=m.ended:=by unfold setReg;by_cases e:r=0<;>simp[e]
theorem sw_pc(X:M)(p n v:Int)(E:List Ev):(setReg {wrote X p n with evs:=E } 10 v).pc=X.pc/\(setReg {wrote X p n with evs:=E } 10 v).steps=X.steps/\(setReg {wrote X p n with evs:=E } 10 v).ended=X.ended:=by
 unfold wrote
 by_cases e:n=0<;>simp[e,setReg]
theorem ecd_93(m:M)(h:m.regs 17=93):ecd m=stop {m with evs:=m.evs++[⟨93,m.regs 10,ByteArray.empty⟩],steps:=m.steps+1 } 1:=by unfold ecd;dsimp only;rw[if_pos h]
theorem ecd_pc(m:M)(h:¬m.regs 17=93):(ecd m).pc=m.pc/\(ecd m).steps=m.steps/\(ecd m).ended=m.ended:=by
 unfold ecd
 dsimp only
 rw[if_neg h]
 by_cases h2:m.regs 17=64
 ·rw[if_pos h2]
  by_cases h3:lies m (m.regs 11) (m.regs 12)=true
  ·rw[if_pos h3];exact⟨setReg_pc _ _ _,setReg_st _ _ _,setReg_en _ _ _⟩
  ·exact Xa1
 ·rw[if_neg h2]
  by_cases h4:m.regs 17=63
  ·rw[if_pos h4]
   by_cases h3:lies m (m.regs 11) (m.regs 12)=true
   ·rw[if_pos h3];exact sw_pc {m with mem:=put m.mem (m.regs 11).toNat _,ans:=m.ans.tail } _ _ _ _
   ·exact Xa1
  ·rw[if_neg h4]
   by_cases h5:m.regs 17=214
   ·rw[if_pos h5];exact⟨setReg_pc _ _ _,setReg_st _ _ _,setReg_en _ _ _⟩
   ·rw[if_neg h5];exact⟨setReg_pc _ _ _,setReg_st _ _ _,setReg_en _ _ _⟩
def DoPost (B b mb:Nat) (m:M) (vS vB:Value) (w:World) (e:Ending) (w':World):Prop:=e=.returned (.tuple #[])/\∃vE' vA',Whole B b mb m vE' vA' vS vB w'/\Below B w w'
theorem do_ecall_y{B b mb:Nat}{m:M}{vE vA vS vB:Value}{w:World}(h:Whole B b mb m vE vA vS vB w)(hz:0<m.size)(hf:Fine m)(hlt:m.steps<m.fuel)(hev:m.evs.length<=m.steps)(hc0:0<=m.cur.1)(hc1:m.cur.1<=4294967295)(hen:m.ended=false)(k1:m.regs 17=93):
  Calls Tryz.prog 54 #[.pointer (some ⟨b,0,none⟩),.agg #[.int .i64 46,.int .i64 0,.int .i64 0,.int .i64 0,.int .i32 0]] w (DoPost B b mb (ecall m) vS vB w):=by
 have HWh:Hid (∀n,Whole B b mb m vE vA vS vB ((w.alloc (.cells #[.int .i64 46,.int .i64 0,.int .i64 0,.int .i64 0,.int .i32 0] 61)).drewN n)/\Below B w ((w.alloc (.cells #[.int .i64 46,.int .i64 0,.int .i64 0,.int .i64 0,.int .i32 0] 61)).drewN n)):=fun n=>h.quiet hz (((Touch.refl _ _).alloc _).drewN n)
 have HF:Hid (Fine m):=hf
 have hh:=(HWh.out 0).1.ref
 have cpc:(w.alloc (.cells #[.int .i64 46,.int .i64 0,.int .i64 0,.int .i64 0,.int .i32 0] 61)).cell? ⟨b,1,none⟩=some (.int .u32 m.pc):=hh.cells 1 dC dC
 have ca:(w.alloc (.cells #[.int .i64 46,.int .i64 0,.int .i64 0,.int .i64 0,.int .i32 0] 61)).cell? ⟨b,2,none⟩=some (.int .u32 (m.regs 0)):=hh.reg 0 dC
 have pc0:=hf.pc.1
 have pc1:=hf.pc.2
 have ra0:=(hf.regs 0).1
 have ra1:=(hf.regs 0).2
 have st0:=hf.steps
 have st1:m.steps<2000:=by have:=hf.fuel.2;omega
 clear hh h hf
 go_enter Tryz.func54,Tryz.ntmps54
 go_wp2_with fail
 go_quiet (fail)
 go_wp2_with fail
 go_quiet (fail)
 go_wp2_with fail
 refine(call_any (HWh.out _).1 hz HF.out hlt hev hc0 hc1).mono ?_
 rintro e w1 ⟨rfl,vE',vA',hw1,hb1⟩
 have HA:Hid (Whole B b mb (ecd m) vE' vA' vS vB w1):=hw1
 have HB:Hid (Below B w w1):=(HWh.out _).2.trans hb1
 have c43:w1.cell? ⟨b,43,none⟩=some (.bool (ecd m).ended):=hw1.ref.cells 43 dC dC
 have e43:(ecd m).ended=true:=by rw[ecd_93 m k1];rfl
 rw[e43]at c43
 have HM:Hid (ecall m=ecd m):=(show ecall m=ecd m by rw[ecall_ecd,if_pos k1])
 clear hw1 hb1 e43
 go_wp2_with fail
 refine bodyPost_ret (results_none rfl _ _ _) rfl ?_
 refine⟨rfl,vE',vA', ?_,HB.out⟩
 rw[HM.out];exact HA.out
theorem do_ecall_n{B b mb:Nat}{m:M}{vE vA vS vB:Value}{w:World}(h:Whole B b mb m vE vA vS vB w)(hz:0<m.size)(hf:Fine m)(hlt:m.steps<m.fuel)(hev:m.evs.length<=m.steps)(hc0:0<=m.cur.1)(hc1:m.cur.1<=4294967295)(hen:m.ended=false)(k1:¬m.regs 17=93):
  Calls Tryz.prog 54 #[.pointer (some ⟨b,0,none⟩),.agg #[.int .i64 46,.int .i64 0,.int .i64 0,.int .i64 0,.int .i32 0]] w (DoPost B b mb (ecall m) vS vB w):=by
 have HWh:Hid (∀n,Whole B b mb m vE vA vS vB ((w.alloc (.cells #[.int .i64 46,.int .i64 0,.int .i64 0,.int .i64 0,.int .i32 0] 61)).drewN n)/\Below B w ((w.alloc (.cells #[.int .i64 46,.int .i64 0,.int .i64 0,.int .i64 0,.int .i32 0] 61)).drewN n)):=fun n=>h.quiet hz (((Touch.refl _ _).alloc _).drewN n)
 have HF:Hid (Fine m):=hf
 have hh:=(HWh.out 0).1.ref
 have cpc:(w.alloc (.cells #[.int .i64 46,.int .i64 0,.int .i64 0,.int .i64 0,.int .i32 0] 61)).cell? ⟨b,1,none⟩=some (.int .u32 m.pc):=hh.cells 1 dC dC
 have ca:(w.alloc (.cells #[.int .i64 46,.int .i64 0,.int .i64 0,.int .i64 0,.int .i32 0] 61)).cell? ⟨b,2,none⟩=some (.int .u32 (m.regs 0)):=hh.reg 0 dC
 have pc0:=hf.pc.1
 have pc1:=hf.pc.2
 have ra0:=(hf.regs 0).1
 have ra1:=(hf.regs 0).2
 have st0:=hf.steps
 have st1:m.steps<2000:=by have:=hf.fuel.2;omega
 clear hh h hf
 go_enter Tryz.func54,Tryz.ntmps54
 go_wp2_with fail
 go_quiet (fail)
 go_wp2_with fail
 go_quiet (fail)
 go_wp2_with fail
 refine(call_any (HWh.out _).1 hz HF.out hlt hev hc0 hc1).mono ?_
 rintro e w1 ⟨rfl,vE',vA',hw1,hb1⟩
 have HA:Hid (Whole B b mb (ecd m) vE' vA' vS vB w1):=hw1
 have HB:Hid (Below B w w1):=(HWh.out _).2.trans hb1
 have c43:w1.cell? ⟨b,43,none⟩=some (.bool (ecd m).ended):=hw1.ref.cells 43 dC dC
 have e43:(ecd m).ended=false:=(ecd_pc m k1).2.2.trans hen
 rw[e43]at c43
 have HM:Hid (ecall m=next (ecd m)):=(show ecall m=next (ecd m)by rw[ecall_ecd,if_neg k1])
 obtain⟨us,cu⟩:=hw1.ref.there 1 dC
 have ct:w1.cell? ⟨b,37,none⟩=some (.int .i64 m.steps):=(hw1.ref.cells 37 dC dC).trans (by rw[show lay (ecd m) vE' vA' vS vB 37=.int .i64 (ecd m).steps from rfl,(ecd_pc m k1).2.1])
 have fs:=hw1.ref.free 1
 have ft:=hw1.ref.free 37
 have HE:Hid ((ecd m).pc=m.pc/\(ecd m).steps=m.steps/\(ecd m).ended=m.ended):=ecd_pc m k1
 clear hw1 hb1 e43
 go_wp2_with fail
 go_end0
 obtain⟨g1,g2,g3⟩:=next_end2 B b mb vE' vA' vS vB w1 w1 (ecd m) HA.out.slots HA.out.ref (Touch.refl _ _) ((m.pc+4)%4294967296) (m.steps+1) (by rw[HE.out.1]) (by rw[HE.out.2.1])
 obtain⟨q1,q2⟩:=HA.out.step g1 g2 g3 rfl rfl rfl
 refine⟨rfl,vE',vA', ?_,HB.out.trans q2⟩
 rw[HM.out];exact q1
theorem ex_call(m:M)(x:Int)(h0:opn x=46):exec m x=ecall m:=by
 unfold exec
 dsimp only
 rw[if_neg (by omega:¬(opn x=2)),if_neg (by omega:¬(opn x=3)),if_neg (by omega:¬(4<=opn x/\opn x<=9)),if_neg (by omega:¬(opn x=47)),if_pos (by omega:opn x=46)]
theorem exec_all{B b mb:Nat}{m:M}{vE vA vS vB:Value}{w:World}(h:Whole B b mb m vE vA vS vB w)(hg:MGood m)(hlt:m.steps<m.fuel)(hen:m.ended=false)(x:Int)(x0:0<=x)(x1:x<=4294967295)(hx:¬opn x=-1):
  Calls Tryz.prog 54 #[.pointer (some ⟨b,0,none⟩),.agg #[.int .i64 (opn x),.int .i64 (qRd x),.int .i64 (qR1 x),.int .i64 (qR2 x),.int .i32 (imm x)]] w (DoPost B b mb (exec m x) vS vB w):=by
 by_cases c:opn x=46
 ·rw[ex_call m x c]
  obtain rfl:=opn_46 x c
  rw[show opn 115=46 by decide,show qRd 115=0 by decide,show qR1 115=0 by decide,show qR2 115=0 by decide,show imm 115=0 by decide]
  by_cases k:m.regs 17=93
  ·exact do_ecall_y h hg.pos hg.fine hlt hg.evs hg.cur.1 hg.cur.2 hen k
  ·exact do_ecall_n h hg.pos hg.fine hlt hg.evs hg.cur.1 hg.cur.2 hen k
 ·refine(exec_any h.ref h.slots hg.pos hg.fine hlt hg.cur.1 hg.cur.2 x x0 x1 hx c).mono ?_
  rintro e w' ⟨rfl,h1,h2,h3⟩
  obtain⟨r1,r2,r3,r4⟩:=Rows.exec m x c
  obtain⟨g1,g2⟩:=h.step h1 h2 h3 r1 r2 r3
  exact⟨rfl,vE,vA,g1,g2⟩
theorem at_done{B b mb:Nat}{m:M}{vE vA vS vB:Value}{w:World}(h:RefAt B b mb m vE vA vS vB w)(d:Int):RefAt B b mb {m with done:=d } vE vA vS vB (w.setCell ⟨b,49,none⟩ (.int .i64 d)):=
 h.upd (m':={m with done:=d }) (vE':=vE) (vA':=vA) (vS':=vS) (vB':=vB) 49 dC dC _ rfl rfl (fun i hi h39=>Or.elim (Decidable.em (i=49)) (fun e=>by subst e;simp[lay]) (fun e=>by simp[lay,e]))
theorem whole_done{B b mb:Nat}{m:M}{vE vA vS vB:Value}{w:World}(h:Whole B b mb m vE vA vS vB w)(d:Int):Whole B b mb {m with done:=d } vE vA vS vB (w.setCell ⟨b,49,none⟩ (.int .i64 d))/\Below B w (w.setCell ⟨b,49,none⟩ (.int .i64 d)):=by
 have t:Touch (b::mb::sblk vS) w (w.setCell ⟨b,49,none⟩ (.int .i64 d)):=(Touch.refl _ _).setCell sP _
 have t2:Touch [b,mb] w (w.setCell ⟨b,49,none⟩ (.int .i64 d)):=(Touch.refl _ _).setCell sP _
 exact h.step (at_done h.ref d) (h.slots.other t2 rfl rfl) t rfl rfl rfl
theorem good_done{m:M}(h:MGood m)(d:Int):MGood {m with done:=d }:=
 ⟨⟨h.fine.regs,h.fine.zero,h.fine.mem,h.fine.size,h.fine.pc,h.fine.brk,h.fine.low,h.fine.steps,h.fine.fuel,h.fine.within⟩,h.pos,h.evs,h.cur⟩
theorem step_fuel{B b mb:Nat}{m:M}{vE vA vS vB:Value}{w:World}(h:Whole B b mb m vE vA vS vB w)(hg:MGood m)(hs:m.fuel<=m.steps):
  Calls Tryz.prog 34 #[.pointer (some ⟨b,0,none⟩)] w (DoPost B b mb (stop m 0) vS vB w):=by
 have HWn:Hid (∀n,Whole B b mb m vE vA vS vB (w.drewN n)/\Below B w (w.drewN n)):=fun n=>h.quiet hg.pos ((Touch.refl _ _).drewN n)
 have HG:Hid (MGood m):=hg
 have c37:w.cell? ⟨b,37,none⟩=some (.int .i64 m.steps):=h.ref.cells 37 dC dC
 have c42:w.cell? ⟨b,42,none⟩=some (.int .i64 m.fuel):=h.ref.cells 42 dC dC
 clear h hg
 go_enter Tryz.func34,Tryz.ntmps34
 go_wp2_with fail
 go_quiet (fail)
 go_wp2_with (first|(go_at_call 50;refine(stop_any (HWn.out _).1.ref 0).mono ?_;rintro e w9 ⟨rfl,hat,hto⟩;have HA:Hid (Whole B b mb (stop m 0) vE vA vS vB w9/\Below B _ w9):=(HWn.out _).1.step hat ((HWn.out _).1.slots.other (hto.mono sP) rfl rfl) (hto.mono sP) rfl rfl rfl;have HB:Hid (Below B w w9):=(HWn.out _).2.trans HA.out.2;clear hat hto))
 exact Xa0
theorem step_align{B b mb:Nat}{m:M}{vE vA vS vB:Value}{w:World}(h:Whole B b mb m vE vA vS vB w)(hg:MGood m)(hs:m.steps<m.fuel)(ha:¬m.pc%4=0):
  Calls Tryz.prog 34 #[.pointer (some ⟨b,0,none⟩)] w (DoPost B b mb (stop m 3) vS vB w):=by
 have HWn:Hid (∀n,Whole B b mb m vE vA vS vB (w.drewN n)/\Below B w (w.drewN n)):=fun n=>h.quiet hg.pos ((Touch.refl _ _).drewN n)
 have HG:Hid (MGood m):=hg
 have c37:w.cell? ⟨b,37,none⟩=some (.int .i64 m.steps):=h.ref.cells 37 dC dC
 have c42:w.cell? ⟨b,42,none⟩=some (.int .i64 m.fuel):=h.ref.cells 42 dC dC
 have pc0:=hg.fine.pc.1
 have pc1:=hg.fine.pc.2
 have cpc:w.cell? ⟨b,1,none⟩=some (.int .u32 m.pc):=h.ref.cells 1 dC dC
 clear h hg
 go_enter Tryz.func34,Tryz.ntmps34
 go_wp2_with fail
 go_quiet (fail)
 go_wp2_with (first|(go_at_call 50;refine(stop_any (HWn.out _).1.ref 3).mono ?_;rintro e w9 ⟨rfl,hat,hto⟩;have HA:Hid (Whole B b mb (stop m 3) vE vA vS vB w9/\Below B _ w9):=(HWn.out _).1.step hat ((HWn.out _).1.slots.other (hto.mono sP) rfl rfl) (hto.mono sP) rfl rfl rfl;have HB:Hid (Below B w w9):=(HWn.out _).2.trans HA.out.2;clear hat hto))
 exact Xa0
theorem step_fault{B b mb:Nat}{m:M}{vE vA vS vB:Value}{w:World}(h:Whole B b mb m vE vA vS vB w)(hg:MGood m)(hs:m.steps<m.fuel)(ha:m.pc%4=0)(hl:lies m m.pc 4=false):
  Calls Tryz.prog 34 #[.pointer (some ⟨b,0,none⟩)] w (DoPost B b mb (stop m 4) vS vB w):=by
 have HWn:Hid (∀n,Whole B b mb m vE vA vS vB (w.drewN n)/\Below B w (w.drewN n)):=fun n=>h.quiet hg.pos ((Touch.refl _ _).drewN n)
 have HG:Hid (MGood m):=hg
 have c37:w.cell? ⟨b,37,none⟩=some (.int .i64 m.steps):=h.ref.cells 37 dC dC
 have c42:w.cell? ⟨b,42,none⟩=some (.int .i64 m.fuel):=h.ref.cells 42 dC dC
 have pc0:=hg.fine.pc.1
 have pc1:=hg.fine.pc.2
 have cpc:w.cell? ⟨b,1,none⟩=some (.int .u32 m.pc):=h.ref.cells 1 dC dC
 clear h hg
 go_enter Tryz.func34,Tryz.ntmps34
 go_wp2_with fail
 go_quiet (fail)
 go_wp2_with (first|(go_at_call 51;refine(lies_any (HWn.out _).1.ref m.pc 4 pc0 pc1 dC dC HG.out.fine.size).mono ?_;rintro e w' ⟨rfl,hw'⟩;subst w')|(go_at_call 50;refine(stop_any (HWn.out _).1.ref 4).mono ?_;rintro e w9 ⟨rfl,hat,hto⟩;have HA:Hid (Whole B b mb (stop m 4) vE vA vS vB w9/\Below B _ w9):=(HWn.out _).1.step hat ((HWn.out _).1.slots.other (hto.mono sP) rfl rfl) (hto.mono sP) rfl rfl rfl;have HB:Hid (Below B w w9):=(HWn.out _).2.trans HA.out.2;clear hat hto))
 exact Xa0
theorem step_none{B b mb:Nat}{m:M}{vE vA vS vB:Value}{w:World}(h:Whole B b mb m vE vA vS vB w)(hg:MGood m)(hs:m.steps<m.fuel)(k:Nat)(hk:m.pc=k)(ha:(k:Int)%4=0)(hl:lies m m.pc 4=true)(hn:opn (ld m.mem k 4)=-1):
  Calls Tryz.prog 34 #[.pointer (some ⟨b,0,none⟩)] w (DoPost B b mb (stop m 2) vS vB w):=by
 have HWn:Hid (∀n,Whole B b mb m vE vA vS vB (w.drewN n)/\Below B w (w.drewN n)):=fun n=>h.quiet hg.pos ((Touch.refl _ _).drewN n)
 have HG:Hid (MGood m):=hg
 have c37:w.cell? ⟨b,37,none⟩=some (.int .i64 m.steps):=h.ref.cells 37 dC dC
 have c42:w.cell? ⟨b,42,none⟩=some (.int .i64 m.fuel):=h.ref.cells 42 dC dC
 have cpc:w.cell? ⟨b,1,none⟩=some (.int .u32 (k:Int)):=(h.ref.cells 1 dC dC).trans (by rw[<-hk];rfl)
 have hk4:k+4<=m.size:=by simp[lies,hk]at hl;omega
 have hz5:=hg.fine.size
 have x0:0<=ld m.mem k 4:=(ld4 m.mem hg.fine.mem k).1
 have x1:ld m.mem k 4<=4294967295:=(ld4 m.mem hg.fine.mem k).2
 rw[hk]at hl
 clear h hg
 go_enter Tryz.func34,Tryz.ntmps34
 go_wp2_with fail
 go_quiet (fail)
 go_wp2_with (first|(go_at_call 51;refine(lies_any (HWn.out _).1.ref (k:Int) 4 oM oM dC dC HG.out.fine.size).mono ?_;rintro e w' ⟨rfl,hw'⟩;subst w')|(go_at_call 52;refine(load_4 (HWn.out _).1.ref k hk4 HG.out.fine.size HG.out.fine.mem).mono ?_;rintro e w' ⟨rfl,hw'⟩;subst w')|(go_at_call 38;refine(decodes.dref_any (ld m.mem k 4) x0 x1 _).mono ?_;rintro e w1 ⟨rfl,hbel⟩;have HD:Hid (∀o,Whole B b mb m vE vA vS vB (w1.alloc o)/\Below B w (w1.alloc o)):=fun o=>(fun q=>⟨q.1,(HWn.out _).2.trans q.2⟩) ((HWn.out _).1.quiet HG.out.pos ((Touch.of_below hbel).alloc o));rw[dec_no _ hn];unfold no;clear hbel)|(go_at_call 50;refine(stop_any (HD.out _).1.ref 2).mono ?_;rintro e w9 ⟨rfl,hat,hto⟩;have HA:Hid (Whole B b mb (stop m 2) vE vA vS vB w9/\Below B _ w9):=(HD.out _).1.step hat ((HD.out _).1.slots.other (hto.mono sP) rfl rfl) (hto.mono sP) rfl rfl rfl;have HB:Hid (Below B w w9):=(HD.out _).2.trans HA.out.2;clear hat hto))
 exact Xa0
theorem step_one{B b mb:Nat}{m:M}{vE vA vS vB:Value}{w:World}(h:Whole B b mb m vE vA vS vB w)(hg:MGood m)(hs:m.steps<m.fuel)(hen:m.ended=false)(hd0:0<=m.done)(hd1:m.done<=m.steps)(hns:vS=.slice none 0 0)(k:Nat)(hk:m.pc=k)(ha:(k:Int)%4=0)(hl:lies m m.pc 4=true)(hn:¬opn (ld m.mem k 4)=-1):
  Calls Tryz.prog 34 #[.pointer (some ⟨b,0,none⟩)] w (DoPost B b mb (exec {m with done:=m.done+1 } (ld m.mem k 4)) vS vB w):=by
 have HWn:Hid (∀n,Whole B b mb m vE vA vS vB (w.drewN n)/\Below B w (w.drewN n)):=fun n=>h.quiet hg.pos ((Touch.refl _ _).drewN n)
 have HG:Hid (MGood m):=hg
 have c37:w.cell? ⟨b,37,none⟩=some (.int .i64 m.steps):=h.ref.cells 37 dC dC
 have c42:w.cell? ⟨b,42,none⟩=some (.int .i64 m.fuel):=h.ref.cells 42 dC dC
 have cpc:w.cell? ⟨b,1,none⟩=some (.int .u32 (k:Int)):=(h.ref.cells 1 dC dC).trans (by rw[<-hk];rfl)
 have hk4:k+4<=m.size:=by simp[lies,hk]at hl;omega
 have hz5:=hg.fine.size
 have x0:0<=ld m.mem k 4:=(ld4 m.mem hg.fine.mem k).1
 have x1:ld m.mem k 4<=4294967295:=(ld4 m.mem hg.fine.mem k).2
 rw[hk]at hl
 have fl:=hg.fine.fuel.2
 have HE:Hid (m.ended=false):=hen
 have HN:Hid (¬opn (ld m.mem k 4)=-1):=hn
 have HX:Hid (0<=ld m.mem k 4/\ld m.mem k 4<=4294967295):=⟨x0,x1⟩
 subst hns
 clear h hg
 go_enter Tryz.func34,Tryz.ntmps34
 go_wp2_with fail
 go_quiet (fail)
 go_wp2_with (first|(go_at_call 51;refine(lies_any (HWn.out _).1.ref (k:Int) 4 oM oM dC dC HG.out.fine.size).mono ?_;rintro e w' ⟨rfl,hw'⟩;subst w')|(go_at_call 52;refine(load_4 (HWn.out _).1.ref k hk4 HG.out.fine.size HG.out.fine.mem).mono ?_;rintro e w' ⟨rfl,hw'⟩;subst w')|(go_at_call 38;refine(decodes.dref_any (ld m.mem k 4) x0 x1 _).mono ?_;rintro e w1 ⟨rfl,hbel⟩;have HD:Hid (∀o,Whole B b mb m vE vA (.slice none 0 0) vB (w1.alloc o)/\Below B w (w1.alloc o)):=fun o=>(fun q=>⟨q.1,(HWn.out _).2.trans q.2⟩) ((HWn.out _).1.quiet HG.out.pos ((Touch.of_below hbel).alloc o));have hw1:=(HWn.out _).1.ref.other (Touch.of_below (S:=[]) hbel) sP sP HG.out.pos;have lb1:b<w1.heap.size:=World.block_lt_of_cell? _ _ hw1.data;have e44:w1.cell? ⟨b,44,none⟩=some (.slice none 0 0):=hw1.cells 44 dC dC;have e47:w1.cell? ⟨b,47,none⟩=some (.int .u32 m.cur.1):=hw1.cells 47 dC dC;have e48:w1.cell? ⟨b,48,none⟩=some (.int .i64 m.cur.2):=hw1.cells 48 dC dC;have e49:w1.cell? ⟨b,49,none⟩=some (.int .i64 m.done):=hw1.cells 49 dC dC;have f49:=hw1.free 49;rw[dec_raw _ hn];unfold ins;clear hw1;clear hbel))
 go_quiet (fail)
 go_wp2_with fail
 have HD2:Hid (∀o n,Whole B b mb {m with done:=m.done+1 } vE vA (.slice none 0 0) vB (((w1.alloc o).drewN n).setCell ⟨b,49,none⟩ (.int .i64 (m.done+1)))/\Below B w (((w1.alloc o).drewN n).setCell ⟨b,49,none⟩ (.int .i64 (m.done+1)))):=fun o n=>(fun q=>(fun r=>⟨r.1,(HD.out o).2.trans (q.2.trans r.2)⟩) (whole_done q.1 (m.done+1))) ((HD.out o).1.quiet HG.out.pos ((Touch.refl _ _).drewN n))
 refine(exec_all (HD2.out _ _).1 (good_done HG.out _) hs HE.out (ld m.mem k 4) HX.out.1 HX.out.2 HN.out).mono ?_
 rintro e w9 ⟨rfl,vE',vA',q1,q2⟩
 have HQ:Hid (Whole B b mb (exec {m with done:=m.done+1 } (ld m.mem k 4)) vE' vA' (.slice none 0 0) vB w9/\Below B w w9):=⟨q1,(HD2.out _ _).2.trans q2⟩
 clear q1 q2
 go_wp2_with fail
 go_end0
 exact⟨rfl,vE',vA',HQ.out.1,HQ.out.2⟩
end ref
namespace ref
open ChangeShapes WideShapes ChangeAt RowKit nums dnums mach
theorem lost_0(m:M)(h:m.nslots=0):lost m=false:=by simp[lost,h]
theorem step1_any{B b mb:Nat}{m:M}{vE vA vS vB:Value}{w:World}(h:Whole B b mb m vE vA vS vB w)(hg:MGood m)(hen:m.ended=false)(hd0:0<=m.done)(hd1:m.done<=m.steps)(hns:m.nslots=0):
  Calls Tryz.prog 34 #[.pointer (some ⟨b,0,none⟩)] w (DoPost B b mb (mach.step m) vS vB w):=by
 have hv:vS=.slice none 0 0:=by
  rcases h.slots with⟨_,q⟩|⟨q,_⟩
  ·exact q
  ·omega
 obtain⟨k,hk⟩:∃k:Nat,m.pc=k:=⟨m.pc.toNat,by have:=hg.fine.pc.1;omega⟩
 unfold mach.step
 dsimp only
 by_cases c1:m.fuel<=m.steps
 ·rw[if_pos c1];exact step_fuel h hg c1
 rw[if_neg c1]
 by_cases c2:m.pc%4≠0
 ·rw[if_pos c2];exact step_align h hg oM c2
 rw[if_neg c2]
 by_cases c3:(!lies m m.pc 4)=true
 ·rw[if_pos c3];exact step_fault h hg oM oM (by simpa using c3)
 rw[if_neg c3]
 have hl:lies m m.pc 4=true:=by simpa using c3
 have ek:m.pc.toNat=k:=by omega
 rw[ek]
 by_cases c4:opn (ld m.mem k 4)=-1
 ·rw[if_pos c4];exact step_none h hg oM k hk oM hl c4
 rw[if_neg c4,lost_0 m hns,if_neg dC]
 exact step_one h hg oM hen hd0 hd1 hv k hk oM hl c4
end ref
end Go.Proofs.YtjikimpejlmdiaaGreatDoor

import Derived.Test.YtjikimpejlmdiaaGreatDoorZGf
import Derived.Test.YtjikimpejlmdiaaGreatDoorZHh
set_option maxHeartbeats 4000000
set_option linter.unusedVariables false
set_option linter.unusedSimpArgs false
set_option maxRecDepth 10000
namespace Go.Proofs.YtjikimpejlmdiaaGreatDoor
theorem Xo0{p:Prop}(h:p:=by
 go_enter Tryz.func54,Tryz.ntmps54
 go_wp2_with fail
 go_quiet (fail)
 go_wp2_with fail
 go_quiet (fail)
 go_wp2_with (first|(go_at_call 79;refine(goes_any (HWa.out _ _) ((m.pc+im)%4294967296) oM oM st0 oM).mono ?_;rintro e w1 ⟨rfl,hat,hto⟩;have HA:Hid (RefAt B b mb (goes m ((m.pc+im)%4294967296)) vE vA vS vB w1):=hat;have HB:Hid (Touch [b] w w1):=((HTa.out _ _).mono sP).trans hto;clear hat hto))
 refine bodyPost_ret (results_none rfl _ _ _) rfl ?_
 exact⟨rfl,HA.out,HS.out.other (HB.out.mono sP) (goes_ns _ _) (goes_sl _ _),HB.out.mono sP⟩):p:=h
theorem Xo1{p:Prop}(h:p:=by
 go_enter Tryz.func54,Tryz.ntmps54
 go_wp2_with fail
 go_quiet (fail)
 go_wp2_with fail
 go_quiet (fail)
 go_wp2_with fail
 go_end0
 obtain⟨g1,g2,g3⟩:=next_end B b mb m vE vA vS vB w _ HS.out m (HW.out _) ((HT.out _).mono sP) rfl rfl ((m.pc+4)%4294967296) (m.steps+1) rfl rfl
 exact⟨rfl,g1.other ((Touch.refl [] _).alloc _) sP sP hz,g2.other ((Touch.refl _ _).alloc _) rfl rfl,g3.alloc _⟩):p:=h
theorem Xo2{p:Prop}(h:p:=by exact⟨rfl,g1,g2,g3⟩):p:=h
theorem Xo3{p:Prop}(h:p:=by rw[setReg_pc]):p:=h
theorem Xo4{p:Prop}(h:p:=by rw[setReg_st]):p:=h
namespace ref
open ChangeShapes WideShapes ChangeAt RowKit nums dnums mach
theorem RefAt.draws {B b mb:Nat}{m:M}{vE vA vS vB:Value}{w:World}(h:RefAt B b mb m vE vA vS vB w)(n:Nat):RefAt B b mb m vE vA vS vB (w.drewN n):=
 ⟨h.hb,h.hmb,h.ne,h.cells,h.data,h.free,h.bytes,h.freem⟩
theorem RefAt.reg {B b mb:Nat}{m:M}{vE vA vS vB:Value}{w:World}(h:RefAt B b mb m vE vA vS vB w)(r:Nat)(hr:r<32):w.cell? ⟨b,2+r,none⟩=some (.int .u32 (m.regs r)):=by
 have:=h.cells (2+r) oM oM
 rwa [show lay m vE vA vS vB (2+r)=.int .u32 (m.regs r)from by simp[lay,show ¬(2+r=0)by omega,show ¬(2+r=1)by omega,show 2+r<34 by omega]]at this
theorem setReg_st(m:M)(r v:Int):(setReg m r v).steps=m.steps:=by unfold setReg;by_cases e:r=0<;>simp[e]
theorem setReg_pc(m:M)(r v:Int):(setReg m r v).pc=m.pc:=by unfold setReg;by_cases e:r=0<;>simp[e]
theorem next_end(B b mb:Nat)(m:M)(vE vA vS vB:Value)(w w1:World)(hs:SlotsAt b mb m vS w)(m1:M)(h:RefAt B b mb m1 vE vA vS vB w1)(t:Touch [b] w w1)(e1:m1.nslots=m.nslots)(e2:m1.slots=m.slots)(p s:Int)(hp:p=(m1.pc+4)%4294967296)(hs2:s=m1.steps+1):
  RefAt B b mb (next m1) vE vA vS vB ((w1.setCell ⟨b,1,none⟩ (.int .u32 p)).setCell ⟨b,37,none⟩ (.int .i64 s))/\SlotsAt b mb (next m1) vS ((w1.setCell ⟨b,1,none⟩ (.int .u32 p)).setCell ⟨b,37,none⟩ (.int .i64 s))/\Touch (b::mb::sblk vS) w ((w1.setCell ⟨b,1,none⟩ (.int .u32 p)).setCell ⟨b,37,none⟩ (.int .i64 s)):=by
 subst hp hs2
 have t2:Touch [b] w ((w1.setCell ⟨b,1,none⟩ (.int .u32 ((m1.pc+4)%4294967296))).setCell ⟨b,37,none⟩ (.int .i64 (m1.steps+1))):=(t.setCell sP _).setCell sP _
 exact⟨at_next h,hs.other (t2.mono sP) e1 e2,t2.mono sP⟩
theorem dpre{B b mb:Nat}{m:M}{vE vA vS vB:Value}{w:World}(h:RefAt B b mb m vE vA vS vB w)(hs:SlotsAt b mb m vS w)(hz:0<m.size)(hf:Fine m)(hlt:m.steps<m.fuel)(op rd q1 q2 im:Int)(q10:0<=q1)(q11:q1<=31)(q20:0<=q2)(q21:q2<=31):
  (Hid (∀n,Touch [] w ((w.alloc (.cells #[.int .i64 op,.int .i64 rd,.int .i64 q1,.int .i64 q2,.int .i32 im] 61)).drewN n)))/\(Hid (∀n,RefAt B b mb m vE vA vS vB ((w.alloc (.cells #[.int .i64 op,.int .i64 rd,.int .i64 q1,.int .i64 q2,.int .i32 im] 61)).drewN n)))/\(Hid (SlotsAt b mb m vS w))/\(b<w.heap.size)/\(b<w.heap.size+1)/\(Hid (∀n o,Touch [] w (((w.alloc (.cells #[.int .i64 op,.int .i64 rd,.int .i64 q1,.int .i64 q2,.int .i32 im] 61)).drewN n).alloc o)))/\(Hid (∀n o,RefAt B b mb m vE vA vS vB (((w.alloc (.cells #[.int .i64 op,.int .i64 rd,.int .i64 q1,.int .i64 q2,.int .i32 im] 61)).drewN n).alloc o)))/\(Hid (Fine m))/\((w.alloc (.cells #[.int .i64 op,.int .i64 rd,.int .i64 q1,.int .i64 q2,.int .i32 im] 61)).cell? ⟨b,1,none⟩=some (.int .u32 m.pc))/\((w.alloc (.cells #[.int .i64 op,.int .i64 rd,.int .i64 q1,.int .i64 q2,.int .i32 im] 61)).cell? ⟨b,2+q1.toNat,none⟩=some (.int .u32 (m.regs q1.toNat)))/\((w.alloc (.cells #[.int .i64 op,.int .i64 rd,.int .i64 q1,.int .i64 q2,.int .i32 im] 61)).cell? ⟨b,2+q2.toNat,none⟩=some (.int .u32 (m.regs q2.toNat)))/\(0<=m.pc)/\(m.pc<=4294967295)/\(q1<32)/\(q2<32)/\(0<=m.regs q1.toNat)/\(m.regs q1.toNat<=4294967295)/\(0<=m.regs q2.toNat)/\(m.regs q2.toNat<=4294967295)/\(0<=m.steps)/\(m.steps<2000):=by
 have HT:Hid (∀n,Touch [] w ((w.alloc (.cells #[.int .i64 op,.int .i64 rd,.int .i64 q1,.int .i64 q2,.int .i32 im] 61)).drewN n)):=fun n=>((Touch.refl _ _).alloc _).drewN n
 have HW:Hid (∀n,RefAt B b mb m vE vA vS vB ((w.alloc (.cells #[.int .i64 op,.int .i64 rd,.int .i64 q1,.int .i64 q2,.int .i32 im] 61)).drewN n)):=fun n=>(h.other ((Touch.refl [] _).alloc _) sP sP hz).draws n
 have HS:Hid (SlotsAt b mb m vS w):=hs
 have hbs:b<w.heap.size:=World.block_lt_of_cell? _ _ h.data
 have hbs2:b<w.heap.size+1:=by omega
 have HTa:Hid (∀n o,Touch [] w (((w.alloc (.cells #[.int .i64 op,.int .i64 rd,.int .i64 q1,.int .i64 q2,.int .i32 im] 61)).drewN n).alloc o)):=fun n o=>(HT.out n).alloc o
 have HWa:Hid (∀n o,RefAt B b mb m vE vA vS vB (((w.alloc (.cells #[.int .i64 op,.int .i64 rd,.int .i64 q1,.int .i64 q2,.int .i32 im] 61)).drewN n).alloc o)):=fun n o=>(HW.out n).other ((Touch.refl [] _).alloc _) sP sP hz
 have HF:Hid (Fine m):=hf
 have hh:=HW.out 0
 have cpc:(w.alloc (.cells #[.int .i64 op,.int .i64 rd,.int .i64 q1,.int .i64 q2,.int .i32 im] 61)).cell? ⟨b,1,none⟩=some (.int .u32 m.pc):=hh.cells 1 dC dC
 have ca:(w.alloc (.cells #[.int .i64 op,.int .i64 rd,.int .i64 q1,.int .i64 q2,.int .i32 im] 61)).cell? ⟨b,2+q1.toNat,none⟩=some (.int .u32 (m.regs q1.toNat)):=hh.reg q1.toNat oM
 have cb:(w.alloc (.cells #[.int .i64 op,.int .i64 rd,.int .i64 q1,.int .i64 q2,.int .i32 im] 61)).cell? ⟨b,2+q2.toNat,none⟩=some (.int .u32 (m.regs q2.toNat)):=hh.reg q2.toNat oM
 have pc0:=hf.pc.1
 have pc1:=hf.pc.2
 have q12:q1<32:=by omega
 have q22:q2<32:=by omega
 have ra0:=(hf.regs q1.toNat).1
 have ra1:=(hf.regs q1.toNat).2
 have rb0:=(hf.regs q2.toNat).1
 have rb1:=(hf.regs q2.toNat).2
 have st0:=hf.steps
 have st1:m.steps<2000:=by have:=hf.fuel.2;omega
 exact⟨HT,HW,HS,hbs,hbs2,HTa,HWa,HF,cpc,ca,cb,pc0,pc1,q12,q22,ra0,ra1,rb0,rb1,st0,st1⟩
theorem do_rr{B b mb:Nat}{m:M}{vE vA vS vB:Value}{w:World}(h:RefAt B b mb m vE vA vS vB w)(hs:SlotsAt b mb m vS w)(hz:0<m.size)(hf:Fine m)(hlt:m.steps<m.fuel)(op rd q1 q2 im:Int)(rd0:0<=rd)(rd1:rd<=31)(q10:0<=q1)(q11:q1<=31)(q20:0<=q2)(q21:q2<=31)(i0:-2147483648<=im)(i1:im<=2147483647)(o0:27<=op)(o1:op<=44):
  Calls Tryz.prog 54 #[.pointer (some ⟨b,0,none⟩),.agg #[.int .i64 op,.int .i64 rd,.int .i64 q1,.int .i64 q2,.int .i32 im]] w fun e w'=>e=.returned (.tuple #[])/\RefAt B b mb (next (setReg m rd (comp op (m.regs q1.toNat) (m.regs q2.toNat)))) vE vA vS vB w'/\SlotsAt b mb (next (setReg m rd (comp op (m.regs q1.toNat) (m.regs q2.toNat)))) vS w'/\Touch (b::mb::sblk vS) w w':=by
 obtain⟨HT,HW,HS,hbs,hbs2,HTa,HWa,HF,cpc,ca,cb,pc0,pc1,q12,q22,ra0,ra1,rb0,rb1,st0,st1⟩:=dpre h hs hz hf hlt op rd q1 q2 im q10 q11 q20 q21
 clear h hs hf
 have bf0:(op==2)=false:=by simp;omega
 have bf1:(op==3)=false:=by simp;omega
 have bf2:(decide (op<=9))=false:=by simp;omega
 have bf3:(decide (op<18))=false:=by simp;omega
 have bf4:(decide (op<=26))=false:=by simp;omega
 have bf5:(decide (op<=44))=true:=by simp;omega
 have bf6:(decide (27<=op))=true:=by simp;omega
 go_enter Tryz.func54,Tryz.ntmps54
 go_wp2_with fail
 go_quiet (fail)
 go_wp2_with fail
 go_quiet (fail)
 go_wp2_with (first|(go_at_call 39;refine(computes.ref_any op (m.regs q1.toNat) (m.regs q2.toNat) ra0 ra1 rb0 rb1 _).mono ?_;rintro e w' ⟨rfl,nc,rfl⟩)|(go_at_call 80;refine(set_any (HW.out _) rd (comp op (m.regs q1.toNat) (m.regs q2.toNat)) rd0 rd1).mono ?_;rintro e w1 ⟨rfl,hat,hto⟩;have HA:Hid (RefAt B b mb (setReg m rd (comp op (m.regs q1.toNat) (m.regs q2.toNat))) vE vA vS vB w1):=hat;have HB:Hid (Touch [b] w w1):=((HT.out _).mono sP).trans hto;have cs:=hat.there 1 dC;have ct:w1.cell? ⟨b,37,none⟩=some (.int .i64 (setReg m rd (comp op (m.regs q1.toNat) (m.regs q2.toNat))).steps):=hat.cells 37 dC dC;have fs:=hat.free 1;have ft:=hat.free 37;have es:=setReg_st m rd (comp op (m.regs q1.toNat) (m.regs q2.toNat));obtain⟨us,cu⟩:=cs;clear hat hto))
 go_end0
 obtain⟨g1,g2,g3⟩:=next_end B b mb m vE vA vS vB w w1 HS.out (setReg m rd (comp op (m.regs q1.toNat) (m.regs q2.toNat))) HA.out HB.out (setReg_ns _ _ _) (setReg_sl _ _ _) ((m.pc+4)%4294967296) (m.steps+1) Xo3 Xo4
 exact Xo2
theorem do_ri{B b mb:Nat}{m:M}{vE vA vS vB:Value}{w:World}(h:RefAt B b mb m vE vA vS vB w)(hs:SlotsAt b mb m vS w)(hz:0<m.size)(hf:Fine m)(hlt:m.steps<m.fuel)(op rd q1 q2 im:Int)(rd0:0<=rd)(rd1:rd<=31)(q10:0<=q1)(q11:q1<=31)(q20:0<=q2)(q21:q2<=31)(i0:-2147483648<=im)(i1:im<=2147483647)(o0:18<=op)(o1:op<=26):
  Calls Tryz.prog 54 #[.pointer (some ⟨b,0,none⟩),.agg #[.int .i64 op,.int .i64 rd,.int .i64 q1,.int .i64 q2,.int .i32 im]] w fun e w'=>e=.returned (.tuple #[])/\RefAt B b mb (next (setReg m rd (comp op (m.regs q1.toNat) (im%4294967296)))) vE vA vS vB w'/\SlotsAt b mb (next (setReg m rd (comp op (m.regs q1.toNat) (im%4294967296)))) vS w'/\Touch (b::mb::sblk vS) w w':=by
 obtain⟨HT,HW,HS,hbs,hbs2,HTa,HWa,HF,cpc,ca,cb,pc0,pc1,q12,q22,ra0,ra1,rb0,rb1,st0,st1⟩:=dpre h hs hz hf hlt op rd q1 q2 im q10 q11 q20 q21
 clear h hs hf
 have bf0:(op==2)=false:=by simp;omega
 have bf1:(op==3)=false:=by simp;omega
 have bf2:(decide (op<=9))=false:=by simp;omega
 have bf3:(decide (op<18))=false:=by simp;omega
 have bf4:(decide (op<=26))=true:=by simp;omega
 have bf5:(decide (18<=op))=true:=by simp;omega
 have im0:0<=im%4294967296:=by omega
 have im1:im%4294967296<=4294967295:=by omega
 go_enter Tryz.func54,Tryz.ntmps54
 go_wp2_with fail
 go_quiet (fail)
 go_wp2_with fail
 go_quiet (fail)
 go_wp2_with (first|(go_at_call 39;refine(computes.ref_any op (m.regs q1.toNat) (im%4294967296) ra0 ra1 im0 im1 _).mono ?_;rintro e w' ⟨rfl,nc,rfl⟩)|(go_at_call 80;refine(set_any (HW.out _) rd (comp op (m.regs q1.toNat) (im%4294967296)) rd0 rd1).mono ?_;rintro e w1 ⟨rfl,hat,hto⟩;have HA:Hid (RefAt B b mb (setReg m rd (comp op (m.regs q1.toNat) (im%4294967296))) vE vA vS vB w1):=hat;have HB:Hid (Touch [b] w w1):=((HT.out _).mono sP).trans hto;have cs:=hat.there 1 dC;have ct:w1.cell? ⟨b,37,none⟩=some (.int .i64 (setReg m rd (comp op (m.regs q1.toNat) (im%4294967296))).steps):=hat.cells 37 dC dC;have fs:=hat.free 1;have ft:=hat.free 37;have es:=setReg_st m rd (comp op (m.regs q1.toNat) (im%4294967296));obtain⟨us,cu⟩:=cs;clear hat hto))
 go_end0
 obtain⟨g1,g2,g3⟩:=next_end B b mb m vE vA vS vB w w1 HS.out (setReg m rd (comp op (m.regs q1.toNat) (im%4294967296))) HA.out HB.out (setReg_ns _ _ _) (setReg_sl _ _ _) ((m.pc+4)%4294967296) (m.steps+1) Xo3 Xo4
 exact Xo2
theorem do_lui{B b mb:Nat}{m:M}{vE vA vS vB:Value}{w:World}(h:RefAt B b mb m vE vA vS vB w)(hs:SlotsAt b mb m vS w)(hz:0<m.size)(hf:Fine m)(hlt:m.steps<m.fuel)(op rd q1 q2 im:Int)(rd0:0<=rd)(rd1:rd<=31)(q10:0<=q1)(q11:q1<=31)(q20:0<=q2)(q21:q2<=31)(i0:-2147483648<=im)(i1:im<=2147483647)(ho:op=0):
  Calls Tryz.prog 54 #[.pointer (some ⟨b,0,none⟩),.agg #[.int .i64 op,.int .i64 rd,.int .i64 q1,.int .i64 q2,.int .i32 im]] w fun e w'=>e=.returned (.tuple #[])/\RefAt B b mb (next (setReg m rd (im%4294967296))) vE vA vS vB w'/\SlotsAt b mb (next (setReg m rd (im%4294967296))) vS w'/\Touch (b::mb::sblk vS) w w':=by
 subst ho
 obtain⟨HT,HW,HS,hbs,hbs2,HTa,HWa,HF,cpc,ca,cb,pc0,pc1,q12,q22,ra0,ra1,rb0,rb1,st0,st1⟩:=dpre h hs hz hf hlt 0 rd q1 q2 im q10 q11 q20 q21
 clear h hs hf
 go_enter Tryz.func54,Tryz.ntmps54
 go_wp2_with fail
 go_quiet (fail)
 go_wp2_with fail
 go_quiet (fail)
 go_wp2_with (first|(go_at_call 80;refine(set_any (HW.out _) rd (im%4294967296) rd0 rd1).mono ?_;rintro e w1 ⟨rfl,hat,hto⟩;have HA:Hid (RefAt B b mb (setReg m rd (im%4294967296)) vE vA vS vB w1):=hat;have HB:Hid (Touch [b] w w1):=((HT.out _).mono sP).trans hto;have cs:=hat.there 1 dC;have ct:w1.cell? ⟨b,37,none⟩=some (.int .i64 (setReg m rd (im%4294967296)).steps):=hat.cells 37 dC dC;have fs:=hat.free 1;have ft:=hat.free 37;have es:=setReg_st m rd (im%4294967296);obtain⟨us,cu⟩:=cs;clear hat hto))
 go_end0
 obtain⟨g1,g2,g3⟩:=next_end B b mb m vE vA vS vB w w1 HS.out (setReg m rd (im%4294967296)) HA.out HB.out (setReg_ns _ _ _) (setReg_sl _ _ _) ((m.pc+4)%4294967296) (m.steps+1) Xo3 Xo4
 exact Xo2
theorem do_auipc{B b mb:Nat}{m:M}{vE vA vS vB:Value}{w:World}(h:RefAt B b mb m vE vA vS vB w)(hs:SlotsAt b mb m vS w)(hz:0<m.size)(hf:Fine m)(hlt:m.steps<m.fuel)(op rd q1 q2 im:Int)(rd0:0<=rd)(rd1:rd<=31)(q10:0<=q1)(q11:q1<=31)(q20:0<=q2)(q21:q2<=31)(i0:-2147483648<=im)(i1:im<=2147483647)(ho:op=1):
  Calls Tryz.prog 54 #[.pointer (some ⟨b,0,none⟩),.agg #[.int .i64 op,.int .i64 rd,.int .i64 q1,.int .i64 q2,.int .i32 im]] w fun e w'=>e=.returned (.tuple #[])/\RefAt B b mb (next (setReg m rd ((m.pc+im)%4294967296))) vE vA vS vB w'/\SlotsAt b mb (next (setReg m rd ((m.pc+im)%4294967296))) vS w'/\Touch (b::mb::sblk vS) w w':=by
 subst ho
 obtain⟨HT,HW,HS,hbs,hbs2,HTa,HWa,HF,cpc,ca,cb,pc0,pc1,q12,q22,ra0,ra1,rb0,rb1,st0,st1⟩:=dpre h hs hz hf hlt 1 rd q1 q2 im q10 q11 q20 q21
 clear h hs hf
 go_enter Tryz.func54,Tryz.ntmps54
 go_wp2_with fail
 go_quiet (fail)
 go_wp2_with fail
 go_quiet (fail)
 go_wp2_with (first|(go_at_call 80;refine(set_any (HW.out _) rd ((m.pc+im)%4294967296) rd0 rd1).mono ?_;rintro e w1 ⟨rfl,hat,hto⟩;have HA:Hid (RefAt B b mb (setReg m rd ((m.pc+im)%4294967296)) vE vA vS vB w1):=hat;have HB:Hid (Touch [b] w w1):=((HT.out _).mono sP).trans hto;have cs:=hat.there 1 dC;have ct:w1.cell? ⟨b,37,none⟩=some (.int .i64 (setReg m rd ((m.pc+im)%4294967296)).steps):=hat.cells 37 dC dC;have fs:=hat.free 1;have ft:=hat.free 37;have es:=setReg_st m rd ((m.pc+im)%4294967296);obtain⟨us,cu⟩:=cs;clear hat hto))
 go_end0
 obtain⟨g1,g2,g3⟩:=next_end B b mb m vE vA vS vB w w1 HS.out (setReg m rd ((m.pc+im)%4294967296)) HA.out HB.out (setReg_ns _ _ _) (setReg_sl _ _ _) ((m.pc+4)%4294967296) (m.steps+1) Xo3 Xo4
 exact Xo2
theorem do_fence{B b mb:Nat}{m:M}{vE vA vS vB:Value}{w:World}(h:RefAt B b mb m vE vA vS vB w)(hs:SlotsAt b mb m vS w)(hz:0<m.size)(hf:Fine m)(hlt:m.steps<m.fuel)(op rd q1 q2 im:Int)(rd0:0<=rd)(rd1:rd<=31)(q10:0<=q1)(q11:q1<=31)(q20:0<=q2)(q21:q2<=31)(i0:-2147483648<=im)(i1:im<=2147483647)(ho:op=45):
  Calls Tryz.prog 54 #[.pointer (some ⟨b,0,none⟩),.agg #[.int .i64 op,.int .i64 rd,.int .i64 q1,.int .i64 q2,.int .i32 im]] w fun e w'=>e=.returned (.tuple #[])/\RefAt B b mb (next m) vE vA vS vB w'/\SlotsAt b mb (next m) vS w'/\Touch (b::mb::sblk vS) w w':=by
 subst ho
 obtain⟨HT,HW,HS,hbs,hbs2,HTa,HWa,HF,cpc,ca,cb,pc0,pc1,q12,q22,ra0,ra1,rb0,rb1,st0,st1⟩:=dpre h hs hz hf hlt 45 rd q1 q2 im q10 q11 q20 q21
 clear h hs hf
 have c37:(w.alloc (.cells #[.int .i64 45,.int .i64 rd,.int .i64 q1,.int .i64 q2,.int .i32 im] 61)).cell? ⟨b,37,none⟩=some (.int .i64 m.steps):=(HW.out 0).cells 37 dC dC
 have f1:(w.alloc (.cells #[.int .i64 45,.int .i64 rd,.int .i64 q1,.int .i64 q2,.int .i32 im] 61)).frozen? ⟨b,1,none⟩=false:=(HW.out 0).free 1
 have f37:(w.alloc (.cells #[.int .i64 45,.int .i64 rd,.int .i64 q1,.int .i64 q2,.int .i32 im] 61)).frozen? ⟨b,37,none⟩=false:=(HW.out 0).free 37
 go_enter Tryz.func54,Tryz.ntmps54
 go_wp2_with fail
 go_quiet (fail)
 go_wp2_with fail
 go_quiet (fail)
 go_wp2_with fail
 go_end0
 obtain⟨g1,g2,g3⟩:=next_end B b mb m vE vA vS vB w _ HS.out m (HW.out _) ((HT.out _).mono sP) rfl rfl ((m.pc+4)%4294967296) (m.steps+1) rfl rfl
 exact Xo2
theorem goes_any{B b mb:Nat}{m:M}{vE vA vS vB:Value}{w:World}(h:RefAt B b mb m vE vA vS vB w)(to:Int)(t0:0<=to)(t1:to<=4294967295)(s0:0<=m.steps)(s1:m.steps<=2000):
  Calls Tryz.prog 79 #[.pointer (some ⟨b,0,none⟩),.int .u32 to] w fun e w'=>e=.returned (.bool (to%4==0))/\RefAt B b mb (goes m to) vE vA vS vB w'/\Touch [b] w w':=by
 by_cases e:to%4=0
 ·rw[show(to%4==0)=true from by simpa using e];exact goes_y h to t0 t1 e s0 s1
 ·rw[show(to%4==0)=false from by simpa using e];exact goes_n h to t0 t1 e
theorem goes_ns(m:M)(to:Int):(goes m to).nslots=m.nslots:=by unfold goes;by_cases e:to%4=0<;>simp[e,stop]
theorem goes_sl(m:M)(to:Int):(goes m to).slots=m.slots:=by unfold goes;by_cases e:to%4=0<;>simp[e,stop]
theorem br4_y{B b mb:Nat}{m:M}{vE vA vS vB:Value}{w:World}(h:RefAt B b mb m vE vA vS vB w)(hs:SlotsAt b mb m vS w)(hz:0<m.size)(hf:Fine m)(hlt:m.steps<m.fuel)(op rd q1 q2 im:Int)(rd0:0<=rd)(rd1:rd<=31)(q10:0<=q1)(q11:q1<=31)(q20:0<=q2)(q21:q2<=31)(i0:-2147483648<=im)(i1:im<=2147483647)(ho:op=4)(hc:(m.regs q1.toNat==m.regs q2.toNat)=true):
  Calls Tryz.prog 54 #[.pointer (some ⟨b,0,none⟩),.agg #[.int .i64 op,.int .i64 rd,.int .i64 q1,.int .i64 q2,.int .i32 im]] w fun e w'=>e=.returned (.tuple #[])/\RefAt B b mb (goes m ((m.pc+im)%4294967296)) vE vA vS vB w'/\SlotsAt b mb (goes m ((m.pc+im)%4294967296)) vS w'/\Touch (b::mb::sblk vS) w w':=by
 subst ho
 obtain⟨HT,HW,HS,hbs,hbs2,HTa,HWa,HF,cpc,ca,cb,pc0,pc1,q12,q22,ra0,ra1,rb0,rb1,st0,st1⟩:=dpre h hs hz hf hlt 4 rd q1 q2 im q10 q11 q20 q21
 clear h hs hf
 exact Xo0
theorem br4_n{B b mb:Nat}{m:M}{vE vA vS vB:Value}{w:World}(h:RefAt B b mb m vE vA vS vB w)(hs:SlotsAt b mb m vS w)(hz:0<m.size)(hf:Fine m)(hlt:m.steps<m.fuel)(op rd q1 q2 im:Int)(rd0:0<=rd)(rd1:rd<=31)(q10:0<=q1)(q11:q1<=31)(q20:0<=q2)(q21:q2<=31)(i0:-2147483648<=im)(i1:im<=2147483647)(ho:op=4)(hc:(m.regs q1.toNat==m.regs q2.toNat)=false):
  Calls Tryz.prog 54 #[.pointer (some ⟨b,0,none⟩),.agg #[.int .i64 op,.int .i64 rd,.int .i64 q1,.int .i64 q2,.int .i32 im]] w fun e w'=>e=.returned (.tuple #[])/\RefAt B b mb (next m) vE vA vS vB w'/\SlotsAt b mb (next m) vS w'/\Touch (b::mb::sblk vS) w w':=by
 subst ho
 obtain⟨HT,HW,HS,hbs,hbs2,HTa,HWa,HF,cpc,ca,cb,pc0,pc1,q12,q22,ra0,ra1,rb0,rb1,st0,st1⟩:=dpre h hs hz hf hlt 4 rd q1 q2 im q10 q11 q20 q21
 clear h hs hf
 have c37:(w.alloc (.cells #[.int .i64 4,.int .i64 rd,.int .i64 q1,.int .i64 q2,.int .i32 im] 61)).cell? ⟨b,37,none⟩=some (.int .i64 m.steps):=(HW.out 0).cells 37 dC dC
 have f1:(w.alloc (.cells #[.int .i64 4,.int .i64 rd,.int .i64 q1,.int .i64 q2,.int .i32 im] 61)).frozen? ⟨b,1,none⟩=false:=(HW.out 0).free 1
 have f37:(w.alloc (.cells #[.int .i64 4,.int .i64 rd,.int .i64 q1,.int .i64 q2,.int .i32 im] 61)).frozen? ⟨b,37,none⟩=false:=(HW.out 0).free 37
 exact Xo1
theorem br5_y{B b mb:Nat}{m:M}{vE vA vS vB:Value}{w:World}(h:RefAt B b mb m vE vA vS vB w)(hs:SlotsAt b mb m vS w)(hz:0<m.size)(hf:Fine m)(hlt:m.steps<m.fuel)(op rd q1 q2 im:Int)(rd0:0<=rd)(rd1:rd<=31)(q10:0<=q1)(q11:q1<=31)(q20:0<=q2)(q21:q2<=31)(i0:-2147483648<=im)(i1:im<=2147483647)(ho:op=5)(hc:(m.regs q1.toNat !=m.regs q2.toNat)=true):
  Calls Tryz.prog 54 #[.pointer (some ⟨b,0,none⟩),.agg #[.int .i64 op,.int .i64 rd,.int .i64 q1,.int .i64 q2,.int .i32 im]] w fun e w'=>e=.returned (.tuple #[])/\RefAt B b mb (goes m ((m.pc+im)%4294967296)) vE vA vS vB w'/\SlotsAt b mb (goes m ((m.pc+im)%4294967296)) vS w'/\Touch (b::mb::sblk vS) w w':=by
 subst ho
 obtain⟨HT,HW,HS,hbs,hbs2,HTa,HWa,HF,cpc,ca,cb,pc0,pc1,q12,q22,ra0,ra1,rb0,rb1,st0,st1⟩:=dpre h hs hz hf hlt 5 rd q1 q2 im q10 q11 q20 q21
 clear h hs hf
 exact Xo0
theorem br5_n{B b mb:Nat}{m:M}{vE vA vS vB:Value}{w:World}(h:RefAt B b mb m vE vA vS vB w)(hs:SlotsAt b mb m vS w)(hz:0<m.size)(hf:Fine m)(hlt:m.steps<m.fuel)(op rd q1 q2 im:Int)(rd0:0<=rd)(rd1:rd<=31)(q10:0<=q1)(q11:q1<=31)(q20:0<=q2)(q21:q2<=31)(i0:-2147483648<=im)(i1:im<=2147483647)(ho:op=5)(hc:(m.regs q1.toNat !=m.regs q2.toNat)=false):
  Calls Tryz.prog 54 #[.pointer (some ⟨b,0,none⟩),.agg #[.int .i64 op,.int .i64 rd,.int .i64 q1,.int .i64 q2,.int .i32 im]] w fun e w'=>e=.returned (.tuple #[])/\RefAt B b mb (next m) vE vA vS vB w'/\SlotsAt b mb (next m) vS w'/\Touch (b::mb::sblk vS) w w':=by
 subst ho
 obtain⟨HT,HW,HS,hbs,hbs2,HTa,HWa,HF,cpc,ca,cb,pc0,pc1,q12,q22,ra0,ra1,rb0,rb1,st0,st1⟩:=dpre h hs hz hf hlt 5 rd q1 q2 im q10 q11 q20 q21
 clear h hs hf
 have c37:(w.alloc (.cells #[.int .i64 5,.int .i64 rd,.int .i64 q1,.int .i64 q2,.int .i32 im] 61)).cell? ⟨b,37,none⟩=some (.int .i64 m.steps):=(HW.out 0).cells 37 dC dC
 have f1:(w.alloc (.cells #[.int .i64 5,.int .i64 rd,.int .i64 q1,.int .i64 q2,.int .i32 im] 61)).frozen? ⟨b,1,none⟩=false:=(HW.out 0).free 1
 have f37:(w.alloc (.cells #[.int .i64 5,.int .i64 rd,.int .i64 q1,.int .i64 q2,.int .i32 im] 61)).frozen? ⟨b,37,none⟩=false:=(HW.out 0).free 37
 exact Xo1
theorem br6_y{B b mb:Nat}{m:M}{vE vA vS vB:Value}{w:World}(h:RefAt B b mb m vE vA vS vB w)(hs:SlotsAt b mb m vS w)(hz:0<m.size)(hf:Fine m)(hlt:m.steps<m.fuel)(op rd q1 q2 im:Int)(rd0:0<=rd)(rd1:rd<=31)(q10:0<=q1)(q11:q1<=31)(q20:0<=q2)(q21:q2<=31)(i0:-2147483648<=im)(i1:im<=2147483647)(ho:op=6)(hc:decide (wrap32 (m.regs q1.toNat)<wrap32 (m.regs q2.toNat))=true):
  Calls Tryz.prog 54 #[.pointer (some ⟨b,0,none⟩),.agg #[.int .i64 op,.int .i64 rd,.int .i64 q1,.int .i64 q2,.int .i32 im]] w fun e w'=>e=.returned (.tuple #[])/\RefAt B b mb (goes m ((m.pc+im)%4294967296)) vE vA vS vB w'/\SlotsAt b mb (goes m ((m.pc+im)%4294967296)) vS w'/\Touch (b::mb::sblk vS) w w':=by
 subst ho
 obtain⟨HT,HW,HS,hbs,hbs2,HTa,HWa,HF,cpc,ca,cb,pc0,pc1,q12,q22,ra0,ra1,rb0,rb1,st0,st1⟩:=dpre h hs hz hf hlt 6 rd q1 q2 im q10 q11 q20 q21
 clear h hs hf
 exact Xo0
theorem br6_n{B b mb:Nat}{m:M}{vE vA vS vB:Value}{w:World}(h:RefAt B b mb m vE vA vS vB w)(hs:SlotsAt b mb m vS w)(hz:0<m.size)(hf:Fine m)(hlt:m.steps<m.fuel)(op rd q1 q2 im:Int)(rd0:0<=rd)(rd1:rd<=31)(q10:0<=q1)(q11:q1<=31)(q20:0<=q2)(q21:q2<=31)(i0:-2147483648<=im)(i1:im<=2147483647)(ho:op=6)(hc:decide (wrap32 (m.regs q1.toNat)<wrap32 (m.regs q2.toNat))=false):
  Calls Tryz.prog 54 #[.pointer (some ⟨b,0,none⟩),.agg #[.int .i64 op,.int .i64 rd,.int .i64 q1,.int .i64 q2,.int .i32 im]] w fun e w'=>e=.returned (.tuple #[])/\RefAt B b mb (next m) vE vA vS vB w'/\SlotsAt b mb (next m) vS w'/\Touch (b::mb::sblk vS) w w':=by
 subst ho
 obtain⟨HT,HW,HS,hbs,hbs2,HTa,HWa,HF,cpc,ca,cb,pc0,pc1,q12,q22,ra0,ra1,rb0,rb1,st0,st1⟩:=dpre h hs hz hf hlt 6 rd q1 q2 im q10 q11 q20 q21
 clear h hs hf
 have c37:(w.alloc (.cells #[.int .i64 6,.int .i64 rd,.int .i64 q1,.int .i64 q2,.int .i32 im] 61)).cell? ⟨b,37,none⟩=some (.int .i64 m.steps):=(HW.out 0).cells 37 dC dC
 have f1:(w.alloc (.cells #[.int .i64 6,.int .i64 rd,.int .i64 q1,.int .i64 q2,.int .i32 im] 61)).frozen? ⟨b,1,none⟩=false:=(HW.out 0).free 1
 have f37:(w.alloc (.cells #[.int .i64 6,.int .i64 rd,.int .i64 q1,.int .i64 q2,.int .i32 im] 61)).frozen? ⟨b,37,none⟩=false:=(HW.out 0).free 37
 exact Xo1
theorem do_break{B b mb:Nat}{m:M}{vE vA vS vB:Value}{w:World}(h:RefAt B b mb m vE vA vS vB w)(hs:SlotsAt b mb m vS w)(hz:0<m.size)(hf:Fine m)(hlt:m.steps<m.fuel)(op rd q1 q2 im:Int)(rd0:0<=rd)(rd1:rd<=31)(q10:0<=q1)(q11:q1<=31)(q20:0<=q2)(q21:q2<=31)(i0:-2147483648<=im)(i1:im<=2147483647)(ho:op=47):
  Calls Tryz.prog 54 #[.pointer (some ⟨b,0,none⟩),.agg #[.int .i64 op,.int .i64 rd,.int .i64 q1,.int .i64 q2,.int .i32 im]] w fun e w'=>e=.returned (.tuple #[])/\RefAt B b mb (stop m 9) vE vA vS vB w'/\SlotsAt b mb (stop m 9) vS w'/\Touch (b::mb::sblk vS) w w':=by
 subst ho
 obtain⟨HT,HW,HS,hbs,hbs2,HTa,HWa,HF,cpc,ca,cb,pc0,pc1,q12,q22,ra0,ra1,rb0,rb1,st0,st1⟩:=dpre h hs hz hf hlt 47 rd q1 q2 im q10 q11 q20 q21
 clear h hs hf
 go_enter Tryz.func54,Tryz.ntmps54
 go_wp2_with fail
 go_quiet (fail)
 go_wp2_with fail
 go_quiet (fail)
 go_wp2_with (first|(go_at_call 50;refine(stop_any (HW.out _) 9).mono ?_;rintro e w1 ⟨rfl,hat,hto⟩;have HA:Hid (RefAt B b mb (stop m 9) vE vA vS vB w1):=hat;have HB:Hid (Touch [b] w w1):=((HT.out _).mono sP).trans hto;clear hat hto))
 refine bodyPost_ret (results_none rfl _ _ _) rfl ?_
 exact⟨rfl,HA.out,HS.out.other (HB.out.mono sP) rfl rfl,HB.out.mono sP⟩
end ref
end Go.Proofs.YtjikimpejlmdiaaGreatDoor

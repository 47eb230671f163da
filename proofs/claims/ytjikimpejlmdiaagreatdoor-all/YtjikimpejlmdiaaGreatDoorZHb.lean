import Derived.Test.YtjikimpejlmdiaaGreatDoorZGy
set_option maxHeartbeats 4000000
set_option linter.unusedVariables false
set_option linter.unusedSimpArgs false
set_option maxRecDepth 10000
namespace Go.Proofs.YtjikimpejlmdiaaGreatDoor
theorem Xq0{p:Prop}(h:p:=by
 go_enter Tryz.func54,Tryz.ntmps54
 go_wp2_with fail
 go_quiet (fail)
 go_wp2_with fail
 go_quiet (fail)
 go_wp2_with (first|(go_at_call 79;refine(goes_any (HWa.out _ _) ((m.pc+im)%4294967296) oM oM st0 oM).mono ?_;rintro e w1 ⟨rfl,hat,hto⟩;have HA:Hid (RefAt B b mb (goes m ((m.pc+im)%4294967296)) vE vA vS vB w1):=hat;have HB:Hid (Touch [b] w w1):=((HTa.out _ _).mono sP).trans hto;clear hat hto))
 refine bodyPost_ret (results_none rfl _ _ _) rfl ?_
 exact⟨rfl,HA.out,HS.out.other (HB.out.mono sP) (goes_ns _ _) (goes_sl _ _),HB.out.mono sP⟩):p:=h
theorem Xq1{p:Prop}(h:p:=by
 go_enter Tryz.func54,Tryz.ntmps54
 go_wp2_with fail
 go_quiet (fail)
 go_wp2_with fail
 go_quiet (fail)
 go_wp2_with fail
 go_end0
 obtain⟨g1,g2,g3⟩:=next_end B b mb m vE vA vS vB w _ HS.out m (HW.out _) ((HT.out _).mono sP) rfl rfl ((m.pc+4)%4294967296) (m.steps+1) rfl rfl
 exact⟨rfl,g1.other ((Touch.refl [] _).alloc _) sP sP hz,g2.other ((Touch.refl _ _).alloc _) rfl rfl,g3.alloc _⟩):p:=h
theorem Xq2{p:Prop}(h:p:=by
 refine bodyPost_ret (results_none rfl _ _ _) rfl ?_
 exact⟨rfl,HA.out,HS.out.other (HB.out.mono sP) (goes_ns _ _) (goes_sl _ _),HB.out.mono sP⟩):p:=h
theorem Xq3{p:Prop}(h:p:=by
 refine bodyPost_ret (results_none rfl _ _ _) rfl ?_
 exact⟨rfl,HA2.out,HS.out.other (HB2.out.mono sP) ((setReg_ns _ _ _).trans (goes_ns _ _)) ((setReg_sl _ _ _).trans (goes_sl _ _)),HB2.out.mono sP⟩):p:=h
namespace ref
open ChangeShapes WideShapes ChangeAt RowKit nums dnums mach
theorem br7_y{B b mb:Nat}{m:M}{vE vA vS vB:Value}{w:World}(h:RefAt B b mb m vE vA vS vB w)(hs:SlotsAt b mb m vS w)(hz:0<m.size)(hf:Fine m)(hlt:m.steps<m.fuel)(op rd q1 q2 im:Int)(rd0:0<=rd)(rd1:rd<=31)(q10:0<=q1)(q11:q1<=31)(q20:0<=q2)(q21:q2<=31)(i0:-2147483648<=im)(i1:im<=2147483647)(ho:op=7)(hc:decide (wrap32 (m.regs q2.toNat)<=wrap32 (m.regs q1.toNat))=true):
  Calls Tryz.prog 54 #[.pointer (some ⟨b,0,none⟩),.agg #[.int .i64 op,.int .i64 rd,.int .i64 q1,.int .i64 q2,.int .i32 im]] w fun e w'=>e=.returned (.tuple #[])/\RefAt B b mb (goes m ((m.pc+im)%4294967296)) vE vA vS vB w'/\SlotsAt b mb (goes m ((m.pc+im)%4294967296)) vS w'/\Touch (b::mb::sblk vS) w w':=by
 subst ho
 obtain⟨HT,HW,HS,hbs,hbs2,HTa,HWa,HF,cpc,ca,cb,pc0,pc1,q12,q22,ra0,ra1,rb0,rb1,st0,st1⟩:=dpre h hs hz hf hlt 7 rd q1 q2 im q10 q11 q20 q21
 clear h hs hf
 exact Xq0
theorem br7_n{B b mb:Nat}{m:M}{vE vA vS vB:Value}{w:World}(h:RefAt B b mb m vE vA vS vB w)(hs:SlotsAt b mb m vS w)(hz:0<m.size)(hf:Fine m)(hlt:m.steps<m.fuel)(op rd q1 q2 im:Int)(rd0:0<=rd)(rd1:rd<=31)(q10:0<=q1)(q11:q1<=31)(q20:0<=q2)(q21:q2<=31)(i0:-2147483648<=im)(i1:im<=2147483647)(ho:op=7)(hc:decide (wrap32 (m.regs q2.toNat)<=wrap32 (m.regs q1.toNat))=false):
  Calls Tryz.prog 54 #[.pointer (some ⟨b,0,none⟩),.agg #[.int .i64 op,.int .i64 rd,.int .i64 q1,.int .i64 q2,.int .i32 im]] w fun e w'=>e=.returned (.tuple #[])/\RefAt B b mb (next m) vE vA vS vB w'/\SlotsAt b mb (next m) vS w'/\Touch (b::mb::sblk vS) w w':=by
 subst ho
 obtain⟨HT,HW,HS,hbs,hbs2,HTa,HWa,HF,cpc,ca,cb,pc0,pc1,q12,q22,ra0,ra1,rb0,rb1,st0,st1⟩:=dpre h hs hz hf hlt 7 rd q1 q2 im q10 q11 q20 q21
 clear h hs hf
 have c37:(w.alloc (.cells #[.int .i64 7,.int .i64 rd,.int .i64 q1,.int .i64 q2,.int .i32 im] 61)).cell? ⟨b,37,none⟩=some (.int .i64 m.steps):=(HW.out 0).cells 37 dC dC
 have f1:(w.alloc (.cells #[.int .i64 7,.int .i64 rd,.int .i64 q1,.int .i64 q2,.int .i32 im] 61)).frozen? ⟨b,1,none⟩=false:=(HW.out 0).free 1
 have f37:(w.alloc (.cells #[.int .i64 7,.int .i64 rd,.int .i64 q1,.int .i64 q2,.int .i32 im] 61)).frozen? ⟨b,37,none⟩=false:=(HW.out 0).free 37
 exact Xq1
theorem br8_y{B b mb:Nat}{m:M}{vE vA vS vB:Value}{w:World}(h:RefAt B b mb m vE vA vS vB w)(hs:SlotsAt b mb m vS w)(hz:0<m.size)(hf:Fine m)(hlt:m.steps<m.fuel)(op rd q1 q2 im:Int)(rd0:0<=rd)(rd1:rd<=31)(q10:0<=q1)(q11:q1<=31)(q20:0<=q2)(q21:q2<=31)(i0:-2147483648<=im)(i1:im<=2147483647)(ho:op=8)(hc:decide (m.regs q1.toNat<m.regs q2.toNat)=true):
  Calls Tryz.prog 54 #[.pointer (some ⟨b,0,none⟩),.agg #[.int .i64 op,.int .i64 rd,.int .i64 q1,.int .i64 q2,.int .i32 im]] w fun e w'=>e=.returned (.tuple #[])/\RefAt B b mb (goes m ((m.pc+im)%4294967296)) vE vA vS vB w'/\SlotsAt b mb (goes m ((m.pc+im)%4294967296)) vS w'/\Touch (b::mb::sblk vS) w w':=by
 subst ho
 obtain⟨HT,HW,HS,hbs,hbs2,HTa,HWa,HF,cpc,ca,cb,pc0,pc1,q12,q22,ra0,ra1,rb0,rb1,st0,st1⟩:=dpre h hs hz hf hlt 8 rd q1 q2 im q10 q11 q20 q21
 clear h hs hf
 exact Xq0
theorem br8_n{B b mb:Nat}{m:M}{vE vA vS vB:Value}{w:World}(h:RefAt B b mb m vE vA vS vB w)(hs:SlotsAt b mb m vS w)(hz:0<m.size)(hf:Fine m)(hlt:m.steps<m.fuel)(op rd q1 q2 im:Int)(rd0:0<=rd)(rd1:rd<=31)(q10:0<=q1)(q11:q1<=31)(q20:0<=q2)(q21:q2<=31)(i0:-2147483648<=im)(i1:im<=2147483647)(ho:op=8)(hc:decide (m.regs q1.toNat<m.regs q2.toNat)=false):
  Calls Tryz.prog 54 #[.pointer (some ⟨b,0,none⟩),.agg #[.int .i64 op,.int .i64 rd,.int .i64 q1,.int .i64 q2,.int .i32 im]] w fun e w'=>e=.returned (.tuple #[])/\RefAt B b mb (next m) vE vA vS vB w'/\SlotsAt b mb (next m) vS w'/\Touch (b::mb::sblk vS) w w':=by
 subst ho
 obtain⟨HT,HW,HS,hbs,hbs2,HTa,HWa,HF,cpc,ca,cb,pc0,pc1,q12,q22,ra0,ra1,rb0,rb1,st0,st1⟩:=dpre h hs hz hf hlt 8 rd q1 q2 im q10 q11 q20 q21
 clear h hs hf
 have c37:(w.alloc (.cells #[.int .i64 8,.int .i64 rd,.int .i64 q1,.int .i64 q2,.int .i32 im] 61)).cell? ⟨b,37,none⟩=some (.int .i64 m.steps):=(HW.out 0).cells 37 dC dC
 have f1:(w.alloc (.cells #[.int .i64 8,.int .i64 rd,.int .i64 q1,.int .i64 q2,.int .i32 im] 61)).frozen? ⟨b,1,none⟩=false:=(HW.out 0).free 1
 have f37:(w.alloc (.cells #[.int .i64 8,.int .i64 rd,.int .i64 q1,.int .i64 q2,.int .i32 im] 61)).frozen? ⟨b,37,none⟩=false:=(HW.out 0).free 37
 exact Xq1
theorem br9_y{B b mb:Nat}{m:M}{vE vA vS vB:Value}{w:World}(h:RefAt B b mb m vE vA vS vB w)(hs:SlotsAt b mb m vS w)(hz:0<m.size)(hf:Fine m)(hlt:m.steps<m.fuel)(op rd q1 q2 im:Int)(rd0:0<=rd)(rd1:rd<=31)(q10:0<=q1)(q11:q1<=31)(q20:0<=q2)(q21:q2<=31)(i0:-2147483648<=im)(i1:im<=2147483647)(ho:op=9)(hc:decide (m.regs q2.toNat<=m.regs q1.toNat)=true):
  Calls Tryz.prog 54 #[.pointer (some ⟨b,0,none⟩),.agg #[.int .i64 op,.int .i64 rd,.int .i64 q1,.int .i64 q2,.int .i32 im]] w fun e w'=>e=.returned (.tuple #[])/\RefAt B b mb (goes m ((m.pc+im)%4294967296)) vE vA vS vB w'/\SlotsAt b mb (goes m ((m.pc+im)%4294967296)) vS w'/\Touch (b::mb::sblk vS) w w':=by
 subst ho
 obtain⟨HT,HW,HS,hbs,hbs2,HTa,HWa,HF,cpc,ca,cb,pc0,pc1,q12,q22,ra0,ra1,rb0,rb1,st0,st1⟩:=dpre h hs hz hf hlt 9 rd q1 q2 im q10 q11 q20 q21
 clear h hs hf
 exact Xq0
theorem br9_n{B b mb:Nat}{m:M}{vE vA vS vB:Value}{w:World}(h:RefAt B b mb m vE vA vS vB w)(hs:SlotsAt b mb m vS w)(hz:0<m.size)(hf:Fine m)(hlt:m.steps<m.fuel)(op rd q1 q2 im:Int)(rd0:0<=rd)(rd1:rd<=31)(q10:0<=q1)(q11:q1<=31)(q20:0<=q2)(q21:q2<=31)(i0:-2147483648<=im)(i1:im<=2147483647)(ho:op=9)(hc:decide (m.regs q2.toNat<=m.regs q1.toNat)=false):
  Calls Tryz.prog 54 #[.pointer (some ⟨b,0,none⟩),.agg #[.int .i64 op,.int .i64 rd,.int .i64 q1,.int .i64 q2,.int .i32 im]] w fun e w'=>e=.returned (.tuple #[])/\RefAt B b mb (next m) vE vA vS vB w'/\SlotsAt b mb (next m) vS w'/\Touch (b::mb::sblk vS) w w':=by
 subst ho
 obtain⟨HT,HW,HS,hbs,hbs2,HTa,HWa,HF,cpc,ca,cb,pc0,pc1,q12,q22,ra0,ra1,rb0,rb1,st0,st1⟩:=dpre h hs hz hf hlt 9 rd q1 q2 im q10 q11 q20 q21
 clear h hs hf
 have c37:(w.alloc (.cells #[.int .i64 9,.int .i64 rd,.int .i64 q1,.int .i64 q2,.int .i32 im] 61)).cell? ⟨b,37,none⟩=some (.int .i64 m.steps):=(HW.out 0).cells 37 dC dC
 have f1:(w.alloc (.cells #[.int .i64 9,.int .i64 rd,.int .i64 q1,.int .i64 q2,.int .i32 im] 61)).frozen? ⟨b,1,none⟩=false:=(HW.out 0).free 1
 have f37:(w.alloc (.cells #[.int .i64 9,.int .i64 rd,.int .i64 q1,.int .i64 q2,.int .i32 im] 61)).frozen? ⟨b,37,none⟩=false:=(HW.out 0).free 37
 exact Xq1
theorem do_jal_y{B b mb:Nat}{m:M}{vE vA vS vB:Value}{w:World}(h:RefAt B b mb m vE vA vS vB w)(hs:SlotsAt b mb m vS w)(hz:0<m.size)(hf:Fine m)(hlt:m.steps<m.fuel)(op rd q1 q2 im:Int)(rd0:0<=rd)(rd1:rd<=31)(q10:0<=q1)(q11:q1<=31)(q20:0<=q2)(q21:q2<=31)(i0:-2147483648<=im)(i1:im<=2147483647)(ho:op=2)(hc:((m.pc+im)%4294967296)%4=0):
  Calls Tryz.prog 54 #[.pointer (some ⟨b,0,none⟩),.agg #[.int .i64 op,.int .i64 rd,.int .i64 q1,.int .i64 q2,.int .i32 im]] w fun e w'=>e=.returned (.tuple #[])/\RefAt B b mb (setReg (goes m ((m.pc+im)%4294967296)) rd ((m.pc+4)%4294967296)) vE vA vS vB w'/\SlotsAt b mb (setReg (goes m ((m.pc+im)%4294967296)) rd ((m.pc+4)%4294967296)) vS w'/\Touch (b::mb::sblk vS) w w':=by
 subst ho
 obtain⟨HT,HW,HS,hbs,hbs2,HTa,HWa,HF,cpc,ca,cb,pc0,pc1,q12,q22,ra0,ra1,rb0,rb1,st0,st1⟩:=dpre h hs hz hf hlt 2 rd q1 q2 im q10 q11 q20 q21
 clear h hs hf
 have hc2:(((m.pc+im)%4294967296)%4==0)=true:=by simpa using hc
 go_enter Tryz.func54,Tryz.ntmps54
 go_wp2_with fail
 go_quiet (fail)
 go_wp2_with fail
 go_quiet (fail)
 go_wp2_with (first|(go_at_call 79;refine(goes_any (HW.out _) ((m.pc+im)%4294967296) oM oM st0 oM).mono ?_;rintro e w1 ⟨rfl,hat,hto⟩;have HA:Hid (RefAt B b mb (goes m ((m.pc+im)%4294967296)) vE vA vS vB w1):=hat;have HB:Hid (Touch [b] w w1):=((HT.out _).mono sP).trans hto;have cr:w1.cell? ⟨w.heap.size,1,none⟩=some (.int .i64 rd):=(hto.cell (p:=⟨w.heap.size,1,none⟩) sP (by simp;omega)).trans sP;clear hat hto)|(go_at_call 80;refine(set_any HA.out rd ((m.pc+4)%4294967296) rd0 rd1).mono ?_;rintro e w2 ⟨rfl,hat,hto⟩;have HA2:Hid (RefAt B b mb (setReg (goes m ((m.pc+im)%4294967296)) rd ((m.pc+4)%4294967296)) vE vA vS vB w2):=hat;have HB2:Hid (Touch [b] w w2):=HB.out.trans hto;clear hat hto))
 exact Xq3
theorem do_jal_n{B b mb:Nat}{m:M}{vE vA vS vB:Value}{w:World}(h:RefAt B b mb m vE vA vS vB w)(hs:SlotsAt b mb m vS w)(hz:0<m.size)(hf:Fine m)(hlt:m.steps<m.fuel)(op rd q1 q2 im:Int)(rd0:0<=rd)(rd1:rd<=31)(q10:0<=q1)(q11:q1<=31)(q20:0<=q2)(q21:q2<=31)(i0:-2147483648<=im)(i1:im<=2147483647)(ho:op=2)(hc:¬((m.pc+im)%4294967296)%4=0):
  Calls Tryz.prog 54 #[.pointer (some ⟨b,0,none⟩),.agg #[.int .i64 op,.int .i64 rd,.int .i64 q1,.int .i64 q2,.int .i32 im]] w fun e w'=>e=.returned (.tuple #[])/\RefAt B b mb (goes m ((m.pc+im)%4294967296)) vE vA vS vB w'/\SlotsAt b mb (goes m ((m.pc+im)%4294967296)) vS w'/\Touch (b::mb::sblk vS) w w':=by
 subst ho
 obtain⟨HT,HW,HS,hbs,hbs2,HTa,HWa,HF,cpc,ca,cb,pc0,pc1,q12,q22,ra0,ra1,rb0,rb1,st0,st1⟩:=dpre h hs hz hf hlt 2 rd q1 q2 im q10 q11 q20 q21
 clear h hs hf
 have hc2:(((m.pc+im)%4294967296)%4==0)=false:=by simpa using hc
 go_enter Tryz.func54,Tryz.ntmps54
 go_wp2_with fail
 go_quiet (fail)
 go_wp2_with fail
 go_quiet (fail)
 go_wp2_with (first|(go_at_call 79;refine(goes_any (HW.out _) ((m.pc+im)%4294967296) oM oM st0 oM).mono ?_;rintro e w1 ⟨rfl,hat,hto⟩;have HA:Hid (RefAt B b mb (goes m ((m.pc+im)%4294967296)) vE vA vS vB w1):=hat;have HB:Hid (Touch [b] w w1):=((HT.out _).mono sP).trans hto;clear hat hto))
 exact Xq2
theorem nat_andNot1(a:Nat)(h:a<4294967296):a&&&4294967294=a/2*2:=by
 have e1:(4294967294:Nat)=(2^31-1)<<<1:=by decide
 have e2:a/2*2=(a>>>1)<<<1:=by rw[Nat.shiftRight_eq_div_pow,Nat.shiftLeft_eq]
 rw[e1,e2]
 apply Nat.eq_of_testBit_eq
 intro i
 rw[Nat.testBit_and,Nat.testBit_shiftLeft,Nat.testBit_shiftLeft,Nat.testBit_shiftRight,Nat.testBit_two_pow_sub_one]
 by_cases hi:i<1
 ·simp[show ¬i≥1 by omega]
 ·by_cases hj:i<32
  ·simp[show i≥1 by omega,show i-1<31 by omega,show 1+(i-1)=i by omega]
  ·have:a.testBit i=false:=Nat.testBit_lt_two_pow (Nat.lt_of_lt_of_le h (by rw[show(4294967296:Nat)=2^32 by decide];exact Nat.pow_le_pow_right oM oM))
   simp[this,show 1+(i-1)=i by omega]
def jt (a im:Int):Int:=(a+im)%4294967296/2*2
theorem jt_eq(a im:Int):bits BinOp.andNot IntKind.u32 ((a+im)%4294967296) 1=jt a im:=by
 rw[u32_andNot _ 1 oM oM oM oM]
 rw[show(4294967295-(1:Int).toNat)=4294967294 by decide,nat_andNot1 _ oM]
 unfold jt;omega
theorem jt_bd(a im:Int):0<=jt a im/\jt a im<=4294967295:=by unfold jt;omega
theorem do_jalr_y{B b mb:Nat}{m:M}{vE vA vS vB:Value}{w:World}(h:RefAt B b mb m vE vA vS vB w)(hs:SlotsAt b mb m vS w)(hz:0<m.size)(hf:Fine m)(hlt:m.steps<m.fuel)(op rd q1 q2 im:Int)(rd0:0<=rd)(rd1:rd<=31)(q10:0<=q1)(q11:q1<=31)(q20:0<=q2)(q21:q2<=31)(i0:-2147483648<=im)(i1:im<=2147483647)(ho:op=3)(hc:(jt (m.regs q1.toNat) im)%4=0):
  Calls Tryz.prog 54 #[.pointer (some ⟨b,0,none⟩),.agg #[.int .i64 op,.int .i64 rd,.int .i64 q1,.int .i64 q2,.int .i32 im]] w fun e w'=>e=.returned (.tuple #[])/\RefAt B b mb (setReg (goes m (jt (m.regs q1.toNat) im)) rd ((m.pc+4)%4294967296)) vE vA vS vB w'/\SlotsAt b mb (setReg (goes m (jt (m.regs q1.toNat) im)) rd ((m.pc+4)%4294967296)) vS w'/\Touch (b::mb::sblk vS) w w':=by
 subst ho
 obtain⟨HT,HW,HS,hbs,hbs2,HTa,HWa,HF,cpc,ca,cb,pc0,pc1,q12,q22,ra0,ra1,rb0,rb1,st0,st1⟩:=dpre h hs hz hf hlt 3 rd q1 q2 im q10 q11 q20 q21
 clear h hs hf
 have oj:=jt_eq (m.regs q1.toNat) im
 have ob0:=(jt_bd (m.regs q1.toNat) im).1
 have ob1:=(jt_bd (m.regs q1.toNat) im).2
 have hc2:((jt (m.regs q1.toNat) im)%4==0)=true:=by simpa using hc
 go_enter Tryz.func54,Tryz.ntmps54
 go_wp2_with fail
 go_quiet (fail)
 go_wp2_with fail
 go_quiet (fail)
 go_wp2_with (first|(go_at_call 79;refine(goes_any (HW.out _) (jt (m.regs q1.toNat) im) oM oM st0 oM).mono ?_;rintro e w1 ⟨rfl,hat,hto⟩;have HA:Hid (RefAt B b mb (goes m (jt (m.regs q1.toNat) im)) vE vA vS vB w1):=hat;have HB:Hid (Touch [b] w w1):=((HT.out _).mono sP).trans hto;have cr:w1.cell? ⟨w.heap.size,1,none⟩=some (.int .i64 rd):=(hto.cell (p:=⟨w.heap.size,1,none⟩) sP (by simp;omega)).trans sP;clear hat hto)|(go_at_call 80;refine(set_any HA.out rd ((m.pc+4)%4294967296) rd0 rd1).mono ?_;rintro e w2 ⟨rfl,hat,hto⟩;have HA2:Hid (RefAt B b mb (setReg (goes m (jt (m.regs q1.toNat) im)) rd ((m.pc+4)%4294967296)) vE vA vS vB w2):=hat;have HB2:Hid (Touch [b] w w2):=HB.out.trans hto;clear hat hto))
 exact Xq3
theorem do_jalr_n{B b mb:Nat}{m:M}{vE vA vS vB:Value}{w:World}(h:RefAt B b mb m vE vA vS vB w)(hs:SlotsAt b mb m vS w)(hz:0<m.size)(hf:Fine m)(hlt:m.steps<m.fuel)(op rd q1 q2 im:Int)(rd0:0<=rd)(rd1:rd<=31)(q10:0<=q1)(q11:q1<=31)(q20:0<=q2)(q21:q2<=31)(i0:-2147483648<=im)(i1:im<=2147483647)(ho:op=3)(hc:¬(jt (m.regs q1.toNat) im)%4=0):
  Calls Tryz.prog 54 #[.pointer (some ⟨b,0,none⟩),.agg #[.int .i64 op,.int .i64 rd,.int .i64 q1,.int .i64 q2,.int .i32 im]] w fun e w'=>e=.returned (.tuple #[])/\RefAt B b mb (goes m (jt (m.regs q1.toNat) im)) vE vA vS vB w'/\SlotsAt b mb (goes m (jt (m.regs q1.toNat) im)) vS w'/\Touch (b::mb::sblk vS) w w':=by
 subst ho
 obtain⟨HT,HW,HS,hbs,hbs2,HTa,HWa,HF,cpc,ca,cb,pc0,pc1,q12,q22,ra0,ra1,rb0,rb1,st0,st1⟩:=dpre h hs hz hf hlt 3 rd q1 q2 im q10 q11 q20 q21
 clear h hs hf
 have oj:=jt_eq (m.regs q1.toNat) im
 have ob0:=(jt_bd (m.regs q1.toNat) im).1
 have ob1:=(jt_bd (m.regs q1.toNat) im).2
 have hc2:((jt (m.regs q1.toNat) im)%4==0)=false:=by simpa using hc
 go_enter Tryz.func54,Tryz.ntmps54
 go_wp2_with fail
 go_quiet (fail)
 go_wp2_with fail
 go_quiet (fail)
 go_wp2_with (first|(go_at_call 79;refine(goes_any (HW.out _) (jt (m.regs q1.toNat) im) oM oM st0 oM).mono ?_;rintro e w1 ⟨rfl,hat,hto⟩;have HA:Hid (RefAt B b mb (goes m (jt (m.regs q1.toNat) im)) vE vA vS vB w1):=hat;have HB:Hid (Touch [b] w w1):=((HT.out _).mono sP).trans hto;clear hat hto))
 exact Xq2
theorem do_memn{B b mb:Nat}{m:M}{vE vA vS vB:Value}{w:World}(h:RefAt B b mb m vE vA vS vB w)(hs:SlotsAt b mb m vS w)(hz:0<m.size)(hf:Fine m)(hlt:m.steps<m.fuel)(op rd q1 q2 im:Int)(rd0:0<=rd)(rd1:rd<=31)(q10:0<=q1)(q11:q1<=31)(q20:0<=q2)(q21:q2<=31)(i0:-2147483648<=im)(i1:im<=2147483647)(o0:10<=op)(o1:op<=17)(hc0:0<=m.cur.1)(hc1:m.cur.1<=4294967295)(hd:(memd m op rd ((m.regs q1.toNat+im)%4294967296) (m.regs q2.toNat)).2=false):
  Calls Tryz.prog 54 #[.pointer (some ⟨b,0,none⟩),.agg #[.int .i64 op,.int .i64 rd,.int .i64 q1,.int .i64 q2,.int .i32 im]] w fun e w'=>e=.returned (.tuple #[])/\RefAt B b mb (memd m op rd ((m.regs q1.toNat+im)%4294967296) (m.regs q2.toNat)).1 vE vA vS vB w'/\SlotsAt b mb (memd m op rd ((m.regs q1.toNat+im)%4294967296) (m.regs q2.toNat)).1 vS w'/\Touch (b::mb::sblk vS) w w':=by
 obtain⟨HT,HW,HS,hbs,hbs2,HTa,HWa,HF,cpc,ca,cb,pc0,pc1,q12,q22,ra0,ra1,rb0,rb1,st0,st1⟩:=dpre h hs hz hf hlt op rd q1 q2 im q10 q11 q20 q21
 clear h hs hf
 have bf0:(op==2)=false:=by simp;omega
 have bf1:(op==3)=false:=by simp;omega
 have bf2:(decide (op<=9))=false:=by simp;omega
 have bf3:(decide (op<18))=true:=by simp;omega
 have bf4:(decide (10<=op))=true:=by simp;omega
 have HSn:Hid (∀n,SlotsAt b mb m vS ((w.alloc (.cells #[.int .i64 op,.int .i64 rd,.int .i64 q1,.int .i64 q2,.int .i32 im] 61)).drewN n)):=fun n=>HS.out.other ((HT.out n).mono sP) rfl rfl
 have HD:Hid ((memd m op rd ((m.regs q1.toNat+im)%4294967296) (m.regs q2.toNat)).2=false):=hd
 clear hd
 go_enter Tryz.func54,Tryz.ntmps54
 go_wp2_with fail
 go_quiet (fail)
 go_wp2_with fail
 go_quiet (fail)
 go_wp2_with fail
 refine(mem_any (HW.out _) (HSn.out _) hz HF.out.size hc0 hc1 HF.out.mem rd q1 q2 im rd0 rd1 ((m.regs q1.toNat+im)%4294967296) (m.regs q2.toNat) oM oM rb0 rb1 op o0 o1).mono ?_
 rintro e w1 ⟨rfl,hat,hsl,hto⟩
 rw[HD.out]
 have HA:Hid (RefAt B b mb (memd m op rd ((m.regs q1.toNat+im)%4294967296) (m.regs q2.toNat)).1 vE vA vS vB w1):=hat
 have HB:Hid (SlotsAt b mb (memd m op rd ((m.regs q1.toNat+im)%4294967296) (m.regs q2.toNat)).1 vS w1):=hsl
 have HC:Hid (Touch (b::mb::sblk vS) w w1):=((HT.out _).mono sP).trans hto
 clear hat hsl hto
 go_wp2_with fail
 refine bodyPost_ret (results_none rfl _ _ _) rfl ?_
 exact⟨rfl,HA.out,HB.out,HC.out⟩
theorem wrote_pc(m:M)(a n:Int):(wrote m a n).pc=m.pc/\(wrote m a n).steps=m.steps/\(wrote m a n).size=m.size:=by unfold wrote;by_cases e:n=0<;>simp[e]
theorem memd_pc(m:M)(op rd a b:Int):(memd m op rd a b).1.pc=m.pc/\(memd m op rd a b).1.steps=m.steps:=by
 unfold memd
 dsimp only
 by_cases h1:a%(width op)≠0
 ·rw[if_pos h1];exact⟨rfl,rfl⟩
 ·rw[if_neg h1]
  by_cases h2:(!lies m a (width op))=true
  ·rw[if_pos h2];exact⟨rfl,rfl⟩
  ·rw[if_neg h2]
   by_cases h3:15<=op
   ·rw[if_pos h3];exact⟨(wrote_pc _ _ _).1,(wrote_pc _ _ _).2.1⟩
   ·rw[if_neg h3];exact⟨setReg_pc _ _ _,setReg_st _ _ _⟩
theorem next_end2(B b mb:Nat)(vE vA vS vB:Value)(w w1:World)(m1:M)(hs:SlotsAt b mb m1 vS w1)(h:RefAt B b mb m1 vE vA vS vB w1)(t:Touch (b::mb::sblk vS) w w1)(p s:Int)(hp:p=(m1.pc+4)%4294967296)(hs2:s=m1.steps+1):
  RefAt B b mb (next m1) vE vA vS vB ((w1.setCell ⟨b,1,none⟩ (.int .u32 p)).setCell ⟨b,37,none⟩ (.int .i64 s))/\SlotsAt b mb (next m1) vS ((w1.setCell ⟨b,1,none⟩ (.int .u32 p)).setCell ⟨b,37,none⟩ (.int .i64 s))/\Touch (b::mb::sblk vS) w ((w1.setCell ⟨b,1,none⟩ (.int .u32 p)).setCell ⟨b,37,none⟩ (.int .i64 s)):=by
 subst hp hs2
 exact⟨at_next h,hs.other (((Touch.refl [b,mb] w1).setCell sP _).setCell sP _) rfl rfl,(t.setCell sP _).setCell sP _⟩
theorem do_memy{B b mb:Nat}{m:M}{vE vA vS vB:Value}{w:World}(h:RefAt B b mb m vE vA vS vB w)(hs:SlotsAt b mb m vS w)(hz:0<m.size)(hf:Fine m)(hlt:m.steps<m.fuel)(op rd q1 q2 im:Int)(rd0:0<=rd)(rd1:rd<=31)(q10:0<=q1)(q11:q1<=31)(q20:0<=q2)(q21:q2<=31)(i0:-2147483648<=im)(i1:im<=2147483647)(o0:10<=op)(o1:op<=17)(hc0:0<=m.cur.1)(hc1:m.cur.1<=4294967295)(hd:(memd m op rd ((m.regs q1.toNat+im)%4294967296) (m.regs q2.toNat)).2=true):
  Calls Tryz.prog 54 #[.pointer (some ⟨b,0,none⟩),.agg #[.int .i64 op,.int .i64 rd,.int .i64 q1,.int .i64 q2,.int .i32 im]] w fun e w'=>e=.returned (.tuple #[])/\RefAt B b mb (next (memd m op rd ((m.regs q1.toNat+im)%4294967296) (m.regs q2.toNat)).1) vE vA vS vB w'/\SlotsAt b mb (next (memd m op rd ((m.regs q1.toNat+im)%4294967296) (m.regs q2.toNat)).1) vS w'/\Touch (b::mb::sblk vS) w w':=by
 obtain⟨HT,HW,HS,hbs,hbs2,HTa,HWa,HF,cpc,ca,cb,pc0,pc1,q12,q22,ra0,ra1,rb0,rb1,st0,st1⟩:=dpre h hs hz hf hlt op rd q1 q2 im q10 q11 q20 q21
 clear h hs hf
 have bf0:(op==2)=false:=by simp;omega
 have bf1:(op==3)=false:=by simp;omega
 have bf2:(decide (op<=9))=false:=by simp;omega
 have bf3:(decide (op<18))=true:=by simp;omega
 have bf4:(decide (10<=op))=true:=by simp;omega
 have HSn:Hid (∀n,SlotsAt b mb m vS ((w.alloc (.cells #[.int .i64 op,.int .i64 rd,.int .i64 q1,.int .i64 q2,.int .i32 im] 61)).drewN n)):=fun n=>HS.out.other ((HT.out n).mono sP) rfl rfl
 have HD:Hid ((memd m op rd ((m.regs q1.toNat+im)%4294967296) (m.regs q2.toNat)).2=true):=hd
 clear hd
 go_enter Tryz.func54,Tryz.ntmps54
 go_wp2_with fail
 go_quiet (fail)
 go_wp2_with fail
 go_quiet (fail)
 go_wp2_with fail
 refine(mem_any (HW.out _) (HSn.out _) hz HF.out.size hc0 hc1 HF.out.mem rd q1 q2 im rd0 rd1 ((m.regs q1.toNat+im)%4294967296) (m.regs q2.toNat) oM oM rb0 rb1 op o0 o1).mono ?_
 rintro e w1 ⟨rfl,hat,hsl,hto⟩
 rw[HD.out]
 have HA:Hid (RefAt B b mb (memd m op rd ((m.regs q1.toNat+im)%4294967296) (m.regs q2.toNat)).1 vE vA vS vB w1):=hat
 have HB:Hid (SlotsAt b mb (memd m op rd ((m.regs q1.toNat+im)%4294967296) (m.regs q2.toNat)).1 vS w1):=hsl
 have HC:Hid (Touch (b::mb::sblk vS) w w1):=((HT.out _).mono sP).trans hto
 have ep:=memd_pc m op rd ((m.regs q1.toNat+im)%4294967296) (m.regs q2.toNat)
 obtain⟨us,cu⟩:=hat.there 1 dC
 have ct:w1.cell? ⟨b,37,none⟩=some (.int .i64 m.steps):=(hat.cells 37 dC dC).trans (by rw[show lay (memd m op rd ((m.regs q1.toNat+im)%4294967296) (m.regs q2.toNat)).1 vE vA vS vB 37=.int .i64 (memd m op rd ((m.regs q1.toNat+im)%4294967296) (m.regs q2.toNat)).1.steps from rfl,ep.2])
 have fs:=hat.free 1
 have ft:=hat.free 37
 have HE:Hid ((memd m op rd ((m.regs q1.toNat+im)%4294967296) (m.regs q2.toNat)).1.pc=m.pc/\(memd m op rd ((m.regs q1.toNat+im)%4294967296) (m.regs q2.toNat)).1.steps=m.steps):=ep
 clear hat hsl hto ep
 go_wp2_with fail
 go_end0
 obtain⟨g1,g2,g3⟩:=next_end2 B b mb vE vA vS vB w w1 (memd m op rd ((m.regs q1.toNat+im)%4294967296) (m.regs q2.toNat)).1 HB.out HA.out HC.out ((m.pc+4)%4294967296) (m.steps+1) (by rw[HE.out.1]) (by rw[HE.out.2])
 exact⟨rfl,g1,g2,g3⟩
end ref
end Go.Proofs.YtjikimpejlmdiaaGreatDoor

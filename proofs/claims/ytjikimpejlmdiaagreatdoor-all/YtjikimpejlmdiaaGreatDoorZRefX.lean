import Derived.Test.YtjikimpejlmdiaaGreatDoorZHb
set_option maxHeartbeats 4000000
set_option linter.unusedVariables false
set_option linter.unusedSimpArgs false
namespace Go.Proofs.YtjikimpejlmdiaaGreatDoor
namespace ref
open ChangeShapes WideShapes ChangeAt RowKit nums dnums mach
theorem qRd_bd(x:Int):0<=qRd x/\qRd x<=31:=by unfold qRd rdf;by_cases h:hasRd x=true<;>simp only[h,if_true,if_false,Bool.false_eq_true]<;>omega
theorem qR1_bd(x:Int):0<=qR1 x/\qR1 x<=31:=by unfold qR1 r1;by_cases h:hasR1 x=true<;>simp only[h,if_true,if_false,Bool.false_eq_true]<;>omega
theorem qR2_bd(x:Int):0<=qR2 x/\qR2 x<=31:=by unfold qR2 r2;by_cases h:hasR2 x=true<;>simp only[h,if_true,if_false,Bool.false_eq_true]<;>omega
theorem imm_bd(x:Int)(h0:0<=x)(h1:x<=4294967295):-2147483648<=imm x/\imm x<=2147483647:=by
 have a1:-2147483648<=immU x/\immU x<=2147483647:=by unfold immU wrap32;omega
 have a2:-2147483648<=immJ x/\immJ x<=2147483647:=by unfold immJ wrap32;omega
 have a3:-2147483648<=immI x/\immI x<=2147483647:=by unfold immI wrap32;omega
 have a4:-2147483648<=immB x/\immB x<=2147483647:=by unfold immB wrap32;omega
 have a5:-2147483648<=immS x/\immS x<=2147483647:=by unfold immS wrap32;omega
 have a6:-2147483648<=r2 x/\r2 x<=2147483647:=by unfold r2;omega
 unfold imm
 by_cases c1:opc x=55\/opc x=23
 ·rw[if_pos c1];exact a1
 rw[if_neg c1]
 by_cases c2:opc x=111
 ·rw[if_pos c2];exact a2
 rw[if_neg c2]
 by_cases c3:opc x=103\/opc x=3
 ·rw[if_pos c3];exact a3
 rw[if_neg c3]
 by_cases c4:opc x=99
 ·rw[if_pos c4];exact a4
 rw[if_neg c4]
 by_cases c5:opc x=35
 ·rw[if_pos c5];exact a5
 rw[if_neg c5]
 by_cases c6:opc x=19
 ·rw[if_pos c6]
  by_cases c7:f3 x=1\/f3 x=5
  ·rw[if_pos c7];exact a6
  ·rw[if_neg c7];exact a3
 ·rw[if_neg c6];omega
theorem at8_bd(t:List Int)(x:Int)(h:∀k,k<8->-1<=t.getD k (-1)/\t.getD k (-1)<=47):-1<=at8 t x/\at8 t x<=47:=h _ (by have:=f3_bd x;omega)
theorem opn_bd(x:Int):-1<=opn x/\opn x<=47:=by
 have b67:=at8_bd T67 x dC
 have b63:=at8_bd T63 x dC
 have b03:=at8_bd T03 x dC
 have b23:=at8_bd T23 x dC
 have b13:=at8_bd T13 x dC
 have b330:=at8_bd T330 x dC
 have b331:=at8_bd T331 x dC
 have b3320:=at8_bd T3320 x dC
 have b0F:=at8_bd T0F x dC
 have bs:-1<=sh x/\sh x<=47:=by
  unfold sh
  by_cases c:f3 x=1
  ·rw[if_pos c];by_cases d:f7 x=0<;>simp[d]
  ·rw[if_neg c]
   by_cases d:f7 x=0
   ·simp[d]
   ·rw[if_neg d];by_cases e:f7 x=32<;>simp[e]
 unfold opn
 by_cases c1:opc x=55
 ·rw[if_pos c1];omega
 rw[if_neg c1]
 by_cases c2:opc x=23
 ·rw[if_pos c2];omega
 rw[if_neg c2]
 by_cases c3:opc x=111
 ·rw[if_pos c3];omega
 rw[if_neg c3]
 by_cases c4:opc x=103
 ·rw[if_pos c4];exact b67
 rw[if_neg c4]
 by_cases c5:opc x=99
 ·rw[if_pos c5];exact b63
 rw[if_neg c5]
 by_cases c6:opc x=3
 ·rw[if_pos c6];exact b03
 rw[if_neg c6]
 by_cases c7:opc x=35
 ·rw[if_pos c7];exact b23
 rw[if_neg c7]
 by_cases c8:opc x=19
 ·rw[if_pos c8]
  by_cases d:f3 x=1\/f3 x=5
  ·rw[if_pos d];exact bs
  ·rw[if_neg d];exact b13
 rw[if_neg c8]
 by_cases c9:opc x=51
 ·rw[if_pos c9]
  by_cases d:f7 x=0
  ·rw[if_pos d];exact b330
  rw[if_neg d]
  by_cases e:f7 x=1
  ·rw[if_pos e];exact b331
  rw[if_neg e]
  by_cases g:f7 x=32
  ·rw[if_pos g];exact b3320
  rw[if_neg g];omega
 rw[if_neg c9]
 by_cases c10:opc x=15
 ·rw[if_pos c10];exact b0F
 rw[if_neg c10]
 by_cases c11:opc x=115
 ·rw[if_pos c11]
  by_cases d:x=115
  ·rw[if_pos d];omega
  rw[if_neg d]
  by_cases e:x=1048691
  ·rw[if_pos e];omega
  rw[if_neg e];omega
 rw[if_neg c11];omega
theorem addmod(a i:Int):(a+i%4294967296)%4294967296=(a+i)%4294967296:=by omega
theorem ex_rr(m:M)(x:Int)(h0:27<=opn x)(h1:opn x<=44):exec m x=next (setReg m (qRd x) (comp (opn x) (m.regs (qR1 x).toNat) (m.regs (qR2 x).toNat))):=by
 unfold exec
 dsimp only
 rw[if_neg (by omega:¬(opn x=2)),if_neg (by omega:¬(opn x=3)),if_neg (by omega:¬((4<=opn x/\opn x<=9))),if_neg (by omega:¬(opn x=47)),if_neg (by omega:¬(opn x=46)),if_neg (by omega:¬((10<=opn x/\opn x<18))),if_neg (by omega:¬(opn x=0)),if_neg (by omega:¬(opn x=1)),if_neg (by omega:¬((18<=opn x/\opn x<=26))),if_pos (by omega:(27<=opn x/\opn x<=44))]
theorem ex_ri(m:M)(x:Int)(h0:18<=opn x)(h1:opn x<=26):exec m x=next (setReg m (qRd x) (comp (opn x) (m.regs (qR1 x).toNat) (imm x%4294967296))):=by
 unfold exec
 dsimp only
 rw[if_neg (by omega:¬(opn x=2)),if_neg (by omega:¬(opn x=3)),if_neg (by omega:¬((4<=opn x/\opn x<=9))),if_neg (by omega:¬(opn x=47)),if_neg (by omega:¬(opn x=46)),if_neg (by omega:¬((10<=opn x/\opn x<18))),if_neg (by omega:¬(opn x=0)),if_neg (by omega:¬(opn x=1)),if_pos (by omega:(18<=opn x/\opn x<=26))]
theorem ex_auipc(m:M)(x:Int)(h0:opn x=1):exec m x=next (setReg m (qRd x) ((m.pc+imm x)%4294967296)):=by
 unfold exec
 dsimp only
 rw[if_neg (by omega:¬(opn x=2)),if_neg (by omega:¬(opn x=3)),if_neg (by omega:¬((4<=opn x/\opn x<=9))),if_neg (by omega:¬(opn x=47)),if_neg (by omega:¬(opn x=46)),if_neg (by omega:¬((10<=opn x/\opn x<18))),if_neg (by omega:¬(opn x=0)),if_pos (by omega:opn x=1)]
 rw[addmod]
theorem ex_lui(m:M)(x:Int)(h0:opn x=0):exec m x=next (setReg m (qRd x) (imm x%4294967296)):=by
 unfold exec
 dsimp only
 rw[if_neg (by omega:¬(opn x=2)),if_neg (by omega:¬(opn x=3)),if_neg (by omega:¬((4<=opn x/\opn x<=9))),if_neg (by omega:¬(opn x=47)),if_neg (by omega:¬(opn x=46)),if_neg (by omega:¬((10<=opn x/\opn x<18))),if_pos (by omega:opn x=0)]
theorem ex_mem(m:M)(x:Int)(h0:10<=opn x)(h1:opn x<18):exec m x=memop m (opn x) (qRd x) (((m.regs (qR1 x).toNat)+imm x)%4294967296) (m.regs (qR2 x).toNat):=by
 unfold exec
 dsimp only
 rw[if_neg (by omega:¬(opn x=2)),if_neg (by omega:¬(opn x=3)),if_neg (by omega:¬((4<=opn x/\opn x<=9))),if_neg (by omega:¬(opn x=47)),if_neg (by omega:¬(opn x=46)),if_pos (by omega:(10<=opn x/\opn x<18))]
 rw[addmod]
theorem ex_break(m:M)(x:Int)(h0:opn x=47):exec m x=stop m 9:=by
 unfold exec
 dsimp only
 rw[if_neg (by omega:¬(opn x=2)),if_neg (by omega:¬(opn x=3)),if_neg (by omega:¬((4<=opn x/\opn x<=9))),if_pos (by omega:opn x=47)]
theorem ex_other(m:M)(x:Int)(h0:44<opn x)(h1:¬opn x=46)(h2:¬opn x=47):exec m x=next m:=by
 unfold exec
 dsimp only
 rw[if_neg (by omega:¬(opn x=2)),if_neg (by omega:¬(opn x=3)),if_neg (by omega:¬((4<=opn x/\opn x<=9))),if_neg (by omega:¬(opn x=47)),if_neg (by omega:¬(opn x=46)),if_neg (by omega:¬((10<=opn x/\opn x<18))),if_neg (by omega:¬(opn x=0)),if_neg (by omega:¬(opn x=1)),if_neg (by omega:¬((18<=opn x/\opn x<=26))),if_neg (by omega:¬((27<=opn x/\opn x<=44)))]
theorem ex_br(m:M)(x:Int)(h0:4<=opn x)(h1:opn x<=9):exec m x=if taken (opn x) (m.regs (qR1 x).toNat) (m.regs (qR2 x).toNat)=true then goes m ((m.pc+imm x)%4294967296)else next m:=by
 unfold exec
 dsimp only
 rw[if_neg (by omega:¬(opn x=2)),if_neg (by omega:¬(opn x=3)),if_pos (by omega:(4<=opn x/\opn x<=9))]
 rw[addmod]
theorem ex_jal(m:M)(x:Int)(h0:opn x=2):exec m x=if((m.pc+imm x)%4294967296)%4=0 then setReg (goes m ((m.pc+imm x)%4294967296)) (qRd x) ((m.pc+4)%4294967296)else stop m 3:=by
 unfold exec
 dsimp only
 rw[if_pos (by omega:opn x=2)]
 rw[addmod]
theorem ex_jalr(m:M)(x:Int)(h0:opn x=3):exec m x=if jt (m.regs (qR1 x).toNat) (imm x)%4=0 then setReg (goes m (jt (m.regs (qR1 x).toNat) (imm x))) (qRd x) ((m.pc+4)%4294967296)else stop m 3:=by
 unfold exec
 dsimp only
 rw[if_neg (by omega:¬(opn x=2)),if_pos (by omega:opn x=3)]
 rw[addmod];rfl
theorem goes_stop(m:M)(to:Int)(h:¬to%4=0):goes m to=stop m 3:=if_neg h
theorem exec_any{B b mb:Nat}{m:M}{vE vA vS vB:Value}{w:World}(h:RefAt B b mb m vE vA vS vB w)(hs:SlotsAt b mb m vS w)(hz:0<m.size)(hf:Fine m)(hlt:m.steps<m.fuel)(hc0:0<=m.cur.1)(hc1:m.cur.1<=4294967295)(x:Int)(x0:0<=x)(x1:x<=4294967295)(hx:¬opn x=-1)(h46:¬opn x=46):
  Calls Tryz.prog 54 #[.pointer (some ⟨b,0,none⟩),.agg #[.int .i64 (opn x),.int .i64 (qRd x),.int .i64 (qR1 x),.int .i64 (qR2 x),.int .i32 (imm x)]] w fun e w'=>e=.returned (.tuple #[])/\RefAt B b mb (exec m x) vE vA vS vB w'/\SlotsAt b mb (exec m x) vS w'/\Touch (b::mb::sblk vS) w w':=by
 have r0:=(qRd_bd x).1
 have r1':=(qRd_bd x).2
 have a0:=(qR1_bd x).1
 have a1:=(qR1_bd x).2
 have b0:=(qR2_bd x).1
 have b1:=(qR2_bd x).2
 have i0:=(imm_bd x x0 x1).1
 have i1:=(imm_bd x x0 x1).2
 have ob:=opn_bd x
 by_cases c0:opn x=0
 ·rw[ex_lui m x c0];exact do_lui h hs hz hf hlt (opn x) (qRd x) (qR1 x) (qR2 x) (imm x) r0 r1' a0 a1 b0 b1 i0 i1 c0
 by_cases c1:opn x=1
 ·rw[ex_auipc m x c1];exact do_auipc h hs hz hf hlt (opn x) (qRd x) (qR1 x) (qR2 x) (imm x) r0 r1' a0 a1 b0 b1 i0 i1 c1
 by_cases c2:opn x=2
 ·rw[ex_jal m x c2]
  by_cases k:((m.pc+imm x)%4294967296)%4=0
  ·rw[if_pos k];exact do_jal_y h hs hz hf hlt (opn x) (qRd x) (qR1 x) (qR2 x) (imm x) r0 r1' a0 a1 b0 b1 i0 i1 c2 k
  ·rw[if_neg k,<-goes_stop m ((m.pc+imm x)%4294967296) k];exact do_jal_n h hs hz hf hlt (opn x) (qRd x) (qR1 x) (qR2 x) (imm x) r0 r1' a0 a1 b0 b1 i0 i1 c2 k
 by_cases c3:opn x=3
 ·rw[ex_jalr m x c3]
  by_cases k:jt (m.regs (qR1 x).toNat) (imm x)%4=0
  ·rw[if_pos k];exact do_jalr_y h hs hz hf hlt (opn x) (qRd x) (qR1 x) (qR2 x) (imm x) r0 r1' a0 a1 b0 b1 i0 i1 c3 k
  ·rw[if_neg k,<-goes_stop m _ k];exact do_jalr_n h hs hz hf hlt (opn x) (qRd x) (qR1 x) (qR2 x) (imm x) r0 r1' a0 a1 b0 b1 i0 i1 c3 k
 by_cases c4:opn x=4
 ·rw[ex_br m x oM oM,show taken (opn x) (m.regs (qR1 x).toNat) (m.regs (qR2 x).toNat)=(m.regs (qR1 x).toNat==m.regs (qR2 x).toNat)from by rw[c4];simp[taken,bne]]
  cases k:(m.regs (qR1 x).toNat==m.regs (qR2 x).toNat)with
  |true=>rw[if_pos rfl];exact br4_y h hs hz hf hlt (opn x) (qRd x) (qR1 x) (qR2 x) (imm x) r0 r1' a0 a1 b0 b1 i0 i1 c4 k
  |false=>rw[if_neg dC];exact br4_n h hs hz hf hlt (opn x) (qRd x) (qR1 x) (qR2 x) (imm x) r0 r1' a0 a1 b0 b1 i0 i1 c4 k
 by_cases c5:opn x=5
 ·rw[ex_br m x oM oM,show taken (opn x) (m.regs (qR1 x).toNat) (m.regs (qR2 x).toNat)=(m.regs (qR1 x).toNat !=m.regs (qR2 x).toNat)from by rw[c5];simp[taken,bne]]
  cases k:(m.regs (qR1 x).toNat !=m.regs (qR2 x).toNat)with
  |true=>rw[if_pos rfl];exact br5_y h hs hz hf hlt (opn x) (qRd x) (qR1 x) (qR2 x) (imm x) r0 r1' a0 a1 b0 b1 i0 i1 c5 k
  |false=>rw[if_neg dC];exact br5_n h hs hz hf hlt (opn x) (qRd x) (qR1 x) (qR2 x) (imm x) r0 r1' a0 a1 b0 b1 i0 i1 c5 k
 by_cases c6:opn x=6
 ·rw[ex_br m x oM oM,show taken (opn x) (m.regs (qR1 x).toNat) (m.regs (qR2 x).toNat)=decide (wrap32 (m.regs (qR1 x).toNat)<wrap32 (m.regs (qR2 x).toNat))from by rw[c6];simp[taken,bne]]
  cases k:decide (wrap32 (m.regs (qR1 x).toNat)<wrap32 (m.regs (qR2 x).toNat))with
  |true=>rw[if_pos rfl];exact br6_y h hs hz hf hlt (opn x) (qRd x) (qR1 x) (qR2 x) (imm x) r0 r1' a0 a1 b0 b1 i0 i1 c6 k
  |false=>rw[if_neg dC];exact br6_n h hs hz hf hlt (opn x) (qRd x) (qR1 x) (qR2 x) (imm x) r0 r1' a0 a1 b0 b1 i0 i1 c6 k
 by_cases c7:opn x=7
 ·rw[ex_br m x oM oM,show taken (opn x) (m.regs (qR1 x).toNat) (m.regs (qR2 x).toNat)=decide (wrap32 (m.regs (qR2 x).toNat)<=wrap32 (m.regs (qR1 x).toNat))from by rw[c7];simp[taken,bne]]
  cases k:decide (wrap32 (m.regs (qR2 x).toNat)<=wrap32 (m.regs (qR1 x).toNat))with
  |true=>rw[if_pos rfl];exact br7_y h hs hz hf hlt (opn x) (qRd x) (qR1 x) (qR2 x) (imm x) r0 r1' a0 a1 b0 b1 i0 i1 c7 k
  |false=>rw[if_neg dC];exact br7_n h hs hz hf hlt (opn x) (qRd x) (qR1 x) (qR2 x) (imm x) r0 r1' a0 a1 b0 b1 i0 i1 c7 k
 by_cases c8:opn x=8
 ·rw[ex_br m x oM oM,show taken (opn x) (m.regs (qR1 x).toNat) (m.regs (qR2 x).toNat)=decide (m.regs (qR1 x).toNat<m.regs (qR2 x).toNat)from by rw[c8];simp[taken,bne]]
  cases k:decide (m.regs (qR1 x).toNat<m.regs (qR2 x).toNat)with
  |true=>rw[if_pos rfl];exact br8_y h hs hz hf hlt (opn x) (qRd x) (qR1 x) (qR2 x) (imm x) r0 r1' a0 a1 b0 b1 i0 i1 c8 k
  |false=>rw[if_neg dC];exact br8_n h hs hz hf hlt (opn x) (qRd x) (qR1 x) (qR2 x) (imm x) r0 r1' a0 a1 b0 b1 i0 i1 c8 k
 by_cases c9:opn x=9
 ·rw[ex_br m x oM oM,show taken (opn x) (m.regs (qR1 x).toNat) (m.regs (qR2 x).toNat)=decide (m.regs (qR2 x).toNat<=m.regs (qR1 x).toNat)from by rw[c9];simp[taken,bne]]
  cases k:decide (m.regs (qR2 x).toNat<=m.regs (qR1 x).toNat)with
  |true=>rw[if_pos rfl];exact br9_y h hs hz hf hlt (opn x) (qRd x) (qR1 x) (qR2 x) (imm x) r0 r1' a0 a1 b0 b1 i0 i1 c9 k
  |false=>rw[if_neg dC];exact br9_n h hs hz hf hlt (opn x) (qRd x) (qR1 x) (qR2 x) (imm x) r0 r1' a0 a1 b0 b1 i0 i1 c9 k
 by_cases cm:opn x<18
 ·rw[ex_mem m x oM cm,memop_d]
  cases k:(memd m (opn x) (qRd x) (((m.regs (qR1 x).toNat)+imm x)%4294967296) (m.regs (qR2 x).toNat)).2 with
  |true=>rw[if_pos rfl];exact do_memy h hs hz hf hlt (opn x) (qRd x) (qR1 x) (qR2 x) (imm x) r0 r1' a0 a1 b0 b1 i0 i1 oM oM hc0 hc1 k
  |false=>rw[if_neg dC];exact do_memn h hs hz hf hlt (opn x) (qRd x) (qR1 x) (qR2 x) (imm x) r0 r1' a0 a1 b0 b1 i0 i1 oM oM hc0 hc1 k
 by_cases ci:opn x<=26
 ·rw[ex_ri m x oM ci];exact do_ri h hs hz hf hlt (opn x) (qRd x) (qR1 x) (qR2 x) (imm x) r0 r1' a0 a1 b0 b1 i0 i1 oM ci
 by_cases cr:opn x<=44
 ·rw[ex_rr m x oM cr];exact do_rr h hs hz hf hlt (opn x) (qRd x) (qR1 x) (qR2 x) (imm x) r0 r1' a0 a1 b0 b1 i0 i1 oM cr
 by_cases cb:opn x=47
 ·rw[ex_break m x cb];exact do_break h hs hz hf hlt (opn x) (qRd x) (qR1 x) (qR2 x) (imm x) r0 r1' a0 a1 b0 b1 i0 i1 cb
 rw[ex_other m x oM h46 cb];exact do_fence h hs hz hf hlt (opn x) (qRd x) (qR1 x) (qR2 x) (imm x) r0 r1' a0 a1 b0 b1 i0 i1 oM
end ref
end Go.Proofs.YtjikimpejlmdiaaGreatDoor

import Derived.Test.YtjikimpejlmdiaaGreatDoorZPrJ
import Derived.Test.YtjikimpejlmdiaaGreatDoorZRefX
set_option maxHeartbeats 4000000
set_option linter.unusedVariables false
set_option linter.unusedSimpArgs false
namespace Go.Proofs.YtjikimpejlmdiaaGreatDoor
theorem Xc0{p:Prop}(h:p:=by rw[ref.ex_br m x oM oM,et,if_pos rfl];exact same_goes m _ ht hen):p:=h
theorem Xc1{p:Prop}(h:p:=by rw[ref.ex_br m x oM oM,et,if_neg dC];exact same_next m _ rfl hen):p:=h
theorem Xc2{p:Prop}(h:p:=by rw[ref.ex_br m x oM oM,et,if_pos rfl];exact if_neg ht):p:=h
theorem Xc3{p:Prop}(h:p:=by rw[(wrote_g _ _ _).2.2.2.2.2.2.1];exact hst0):p:=h
theorem Xc4{p:Prop}(h:p:=by rw[(wrote_g _ _ _).2.2.2.2.2.2.1];exact hst1):p:=h
theorem Xc5{p:Prop}(h:p:=by rw[setReg_st];exact hst0):p:=h
theorem Xc6{p:Prop}(h:p:=by rw[setReg_st];exact hst1):p:=h
namespace prog
open ChangeShapes WideShapes ChangeAt RowKit nums dnums mach
theorem a_nothing{B b mb:Nat}{m:M}{nx:Int}{vX:Nat->Value}{w:World}(h:PAt B b mb m nx vX w)(op rd q1 q2 im:Int)(hI:IB rd q1 q2 im)(hz:0<m.size)(hf:Fine m):Calls Tryz.prog 135 #[.pointer (some ⟨b,0,none⟩),.agg #[.int .i64 op,.int .i64 rd,.int .i64 q1,.int .i64 q2,.int .i32 im]] w fun e w'=>e=.returned (.tuple #[])/\PAt B b mb m nx vX w'/\ref.Touch [b,mb] w w':=by
 have⟨rd0,rd1,q10,q11,q20,q21,i0,i1⟩:=hI
 have HH:Hid (PAt B b mb m nx vX (bx w op rd q1 q2 im)):=h.other ((ref.Touch.refl [] _).alloc _) sP sP hz
 clear h
 go_enter Tryz.func135,Tryz.ntmps135
 go_wp2
 go_end0
 exact⟨rfl,HH.out,(ref.Touch.refl _ _).alloc _⟩
theorem a_stop{B b mb:Nat}{m:M}{nx:Int}{vX:Nat->Value}{w:World}(h:PAt B b mb m nx vX w)(op rd q1 q2 im:Int)(hI:IB rd q1 q2 im)(hz:0<m.size)(hf:Fine m):Calls Tryz.prog 137 #[.pointer (some ⟨b,0,none⟩),.agg #[.int .i64 op,.int .i64 rd,.int .i64 q1,.int .i64 q2,.int .i32 im]] w fun e w'=>e=.panicked (trapV 9)/\ref.Touch [] w w':=by
 have⟨rd0,rd1,q10,q11,q20,q21,i0,i1⟩:=hI
 clear h
 go_enter Tryz.func137,Tryz.ntmps137
 go_wp2_with (first|(go_at_call 76;refine(end_any 9 _).mono ?_;rintro e w' ⟨rfl,hw'⟩;subst w'))
 exact⟨rfl,rfl,(ref.Touch.refl _ _).alloc _⟩
structure Same (m2:M) (nx2:Int) (m3:M):Prop where
 regs:m3.regs=m2.regs
 pc:m3.pc=nx2
 brk:m3.brk=m2.brk
 steps:m3.steps=m2.steps+1
 mem:m3.mem=m2.mem
 size:m3.size=m2.size
 ended:m3.ended=false
 ns:m3.nslots=m2.nslots
 sl:m3.slots=m2.slots
 bl:m3.blocks=m2.blocks
theorem PCt.same {B b mb sb:Nat}{X:List Nat}{m2 m3:M}{nx2:Int}{vX:Nat->Value}{w:World}(h:PCt B b mb sb X {m2 with pc:=nx2,steps:=m2.steps+1 } nx2 vX w)(s:Same m2 nx2 m3):PCt B b mb sb X m3 nx2 vX w:=
 h.lift (h.p.cong s.regs s.pc s.brk s.steps s.mem s.size) (ref.Touch.refl _ _) s.ns s.sl s.mem s.bl
def DoP (B b mb sb:Nat) (X:List Nat) (m:M) (vX:Nat->Value) (x:Int) (w:World) (e:Ending) (w':World):Prop:=
 ((exec m x).ended=false/\e=.returned (.tuple #[])/\∃nx',PCt B b mb sb X (exec m x) nx' vX w'/\ref.Touch [b,mb,sb] w w')\/
 ((exec m x).ended=true/\e=.panicked (trapV (exec m x).out)/\∃nx',PCt B b mb sb X (exec m x) nx' vX w'/\ref.Touch [b,mb,sb] w w')
theorem up{B b mb sb K:Nat}{X:List Nat}{m m2:M}{nx nx2:Int}{vX:Nat->Value}{w:World}{args:Array Value}(h:PCt B b mb sb X m nx vX w)(e1:m2.nslots=m.nslots)(e2:m2.slots=m.slots)(e3:m2.mem=m.mem)(e4:m2.blocks=m.blocks)
  (hc:Calls Tryz.prog K args w fun e w'=>e=.returned (.tuple #[])/\PAt B b mb m2 nx2 vX w'/\ref.Touch [b,mb] w w'):Calls Tryz.prog K args w fun e w'=>e=.returned (.tuple #[])/\PCt B b mb sb X m2 nx2 vX w'/\ref.Touch [b,mb,sb] w w':=
 hc.mono (by rintro e w' ⟨h1,h2,h3⟩;exact⟨h1,h.lift h2 h3 e1 e2 e3 e4,h3.mono sP⟩)
theorem do_r{B b mb sb:Nat}{X:List Nat}{m:M}{nx:Int}{vX:Nat->Value}{w:World}(h:PCt B b mb sb X m nx vX w)(hz:0<m.size)(hf:Fine m)(x:Int)(K:Nat)(hcf:∀(args:Array Value) (w:World),(callFunc K args).run Tryz.prog w=.ok (.enter K args) w)(m2:M)(nx2:Int)(s0:0<=m2.steps)(s1:m2.steps<=2000)(hs:Same m2 nx2 (exec m x))
  (hK:∀w',PCt B b mb sb X m ((m.pc+4)%4294967296) vX w'->Calls Tryz.prog K #[.pointer (some ⟨b,0,none⟩),.agg #[.int .i64 (opn x),.int .i64 (qRd x),.int .i64 (qR1 x),.int .i64 (qR2 x),.int .i32 (imm x)]] w' fun e w''=>e=.returned (.tuple #[])/\PCt B b mb sb X m2 nx2 vX w''/\ref.Touch [b,mb,sb] w' w''):
  Calls Tryz.prog 47 #[.pointer (some ⟨b,0,none⟩),.agg #[(.func (.func K) #[] #[]),.int .i64 (opn x),.int .i64 (qRd x),.int .i64 (qR1 x),.int .i64 (qR2 x),.int .i32 (imm x)]] w (DoP B b mb sb X m vX x w):=by
 refine(do_ret h (opn x) (qRd x) (qR1 x) (qR2 x) (imm x) hz hf K hcf m2 nx2 s0 s1 hK).mono ?_
 rintro e w' ⟨rfl,h1,h2⟩
 exact Or.inl ⟨hs.ended,rfl,nx2,h1.same hs,h2⟩
theorem do_p{B b mb sb:Nat}{X:List Nat}{m:M}{nx:Int}{vX:Nat->Value}{w:World}(h:PCt B b mb sb X m nx vX w)(hz:0<m.size)(hf:Fine m)(x:Int)(K:Nat)(hcf:∀(args:Array Value) (w:World),(callFunc K args).run Tryz.prog w=.ok (.enter K args) w)(o:Int)(he:exec m x=stop m o)
  (hK:∀w',PCt B b mb sb X m ((m.pc+4)%4294967296) vX w'->Calls Tryz.prog K #[.pointer (some ⟨b,0,none⟩),.agg #[.int .i64 (opn x),.int .i64 (qRd x),.int .i64 (qR1 x),.int .i64 (qR2 x),.int .i32 (imm x)]] w' fun e w''=>e=.panicked (trapV o)/\ref.Touch [] w' w''):
  Calls Tryz.prog 47 #[.pointer (some ⟨b,0,none⟩),.agg #[(.func (.func K) #[] #[]),.int .i64 (opn x),.int .i64 (qRd x),.int .i64 (qR1 x),.int .i64 (qR2 x),.int .i32 (imm x)]] w (DoP B b mb sb X m vX x w):=by
 refine(do_pan h (opn x) (qRd x) (qR1 x) (qR2 x) (imm x) hz hf K hcf o hK).mono ?_
 rintro e w' ⟨rfl,h1,h2⟩
 refine Or.inr ⟨by rw[he];rfl,by rw[he];rfl,(m.pc+4)%4294967296, ?_,h2⟩
 rw[he]
 exact h1.lift (h1.p.cong rfl rfl rfl rfl rfl rfl) (ref.Touch.refl _ _) rfl rfl rfl
theorem same_next(m m2:M)(e1:m2.pc=m.pc)(e2:m2.ended=false):Same m2 ((m.pc+4)%4294967296) (next m2):=
 ⟨rfl,by show(m2.pc+4)%4294967296=_;rw[e1],rfl,rfl,rfl,rfl,e2,rfl,rfl,rfl⟩
theorem setReg_en(m:M)(r v:Int):(setReg m r v).ended=m.ended:=by unfold setReg;by_cases e:r=0<;>simp[e]
theorem setReg_st(m:M)(r v:Int):(setReg m r v).steps=m.steps:=by unfold setReg;by_cases e:r=0<;>simp[e]
theorem same_jump(m:M)(tq r v:Int)(ht:tq%4=0)(he:m.ended=false):Same (setReg m r v) tq (setReg (goes m tq) r v):=by
 rw[show goes m tq={m with pc:=tq,steps:=m.steps+1,cur:=(0,0) } from if_pos ht]
 unfold setReg
 by_cases e:r=0
 ·rw[if_pos e,if_pos e];exact⟨rfl,rfl,rfl,rfl,rfl,rfl,he,rfl,rfl,rfl⟩
 ·rw[if_neg e,if_neg e];exact⟨rfl,rfl,rfl,rfl,rfl,rfl,he,rfl,rfl,rfl⟩
theorem same_goes(m:M)(tq:Int)(ht:tq%4=0)(he:m.ended=false):Same m tq (goes m tq):=by
 rw[show goes m tq={m with pc:=tq,steps:=m.steps+1,cur:=(0,0) } from if_pos ht]
 exact⟨rfl,rfl,rfl,rfl,rfl,rfl,he,rfl,rfl,rfl⟩
theorem kofx_ri(op:Int)(h0:18<=op)(h1:op<=26):kofx op=157:=by
 unfold kofx
 rw[if_neg (by omega:¬op=0),if_neg (by omega:¬op=1),if_neg (by omega:¬op=2),if_neg (by omega:¬op=3),if_neg (by omega:¬op=4),if_neg (by omega:¬op=5),if_neg (by omega:¬op=6),if_neg (by omega:¬op=7),if_neg (by omega:¬op=8),if_neg (by omega:¬op=9),if_neg (by omega:¬op=10),if_neg (by omega:¬op=11),if_neg (by omega:¬op=12),if_neg (by omega:¬op=13),if_neg (by omega:¬op=14),if_neg (by omega:¬op=15),if_neg (by omega:¬op=16),if_neg (by omega:¬op=17),if_pos h1]
theorem kofx_rr(op:Int)(h0:27<=op)(h1:op<=44):kofx op=158:=by
 unfold kofx
 rw[if_neg (by omega:¬op=0),if_neg (by omega:¬op=1),if_neg (by omega:¬op=2),if_neg (by omega:¬op=3),if_neg (by omega:¬op=4),if_neg (by omega:¬op=5),if_neg (by omega:¬op=6),if_neg (by omega:¬op=7),if_neg (by omega:¬op=8),if_neg (by omega:¬op=9),if_neg (by omega:¬op=10),if_neg (by omega:¬op=11),if_neg (by omega:¬op=12),if_neg (by omega:¬op=13),if_neg (by omega:¬op=14),if_neg (by omega:¬op=15),if_neg (by omega:¬op=16),if_neg (by omega:¬op=17),if_neg (by omega:¬op<=26),if_pos h1]
theorem memop_al(m:M)(op rd a b:Int)(n:Nat)(hw:width op=n)(h:¬a%n=0):memop m op rd a b=stop m (if 15<=op then 7 else 5):=by
 unfold memop;dsimp only;rw[hw,if_pos h]
theorem memop_fa(m:M)(op rd a b:Int)(n:Nat)(hw:width op=n)(h:a%n=0)(hl:lies m a n=false):memop m op rd a b=stop m (if 15<=op then 8 else 6):=by
 unfold memop;dsimp only;rw[hw,if_neg (by simpa using h),if_pos (by simpa using hl)]
theorem memop_st(m:M)(op rd b:Int)(k n:Nat)(hw:width op=n)(h:(k:Int)%n=0)(hl:lies m k n=true)(ho:15<=op):memop m op rd k b=next (wrote {m with mem:=st m.mem k n b } k n):=by
 unfold memop;dsimp only;rw[hw,if_neg (by simpa using h),if_neg (by simp[hl]),if_pos ho,Int.toNat_natCast]
theorem memop_ld(m:M)(op rd b:Int)(k n:Nat)(hw:width op=n)(h:(k:Int)%n=0)(hl:lies m k n=true)(ho:¬15<=op):memop m op rd k b=next (setReg m rd (if op<12 then sext (ld m.mem k n) n else ld m.mem k n)):=by
 unfold memop;dsimp only;rw[hw,if_neg (by simpa using h),if_neg (by simp[hl]),if_neg ho,Int.toNat_natCast]
theorem do_exec{B b mb sb:Nat}{X:List Nat}{m:M}{nx:Int}{vX:Nat->Value}{w:World}(h:PCt B b mb sb X m nx vX w)(hz:0<m.size)(hf:Fine m)(hlt:m.steps<m.fuel)(hen:m.ended=false)(x:Int)(x0:0<=x)(x1:x<=4294967295)(hx:¬opn x=-1)(h46:¬opn x=46):
  Calls Tryz.prog 47 #[.pointer (some ⟨b,0,none⟩),.agg #[(.func (.func (kofx (opn x))) #[] #[]),.int .i64 (opn x),.int .i64 (qRd x),.int .i64 (qR1 x),.int .i64 (qR2 x),.int .i32 (imm x)]] w (DoP B b mb sb X m vX x w):=by
 have r0:=(ref.qRd_bd x).1
 have r1:=(ref.qRd_bd x).2
 have a0:=(ref.qR1_bd x).1
 have a1:=(ref.qR1_bd x).2
 have b0:=(ref.qR2_bd x).1
 have b1:=(ref.qR2_bd x).2
 have i0:=(ref.imm_bd x x0 x1).1
 have i1:=(ref.imm_bd x x0 x1).2
 have ob:=ref.opn_bd x
 have hst0:=hf.steps
 have hst1:m.steps<=2000:=by have:=hf.fuel.2;omega
 by_cases c:opn x=0
 ·rw[show kofx (opn x)=117 from by simp[kofx,c]]
  exact do_r h hz hf x 117 cf_117 (setReg m (qRd x) (imm x%4294967296)) ((m.pc+4)%4294967296) Xc5 Xc6 (by rw[ref.ex_lui m x c];exact same_next m _ (setReg_pc _ _ _) ((setReg_en _ _ _).trans hen)) (fun w' h'=>up h' (setReg_k _ _ _).2.2.2.1 (setReg_k _ _ _).1 (setReg_k _ _ _).2.1 (setReg_k _ _ _).2.2.2.2.2.2.2.1 (a_upper h'.p (opn x) (qRd x) (qR1 x) (qR2 x) (imm x) ⟨r0,r1,a0,a1,b0,b1,i0,i1⟩ hz hf))
 by_cases c:opn x=1
 ·rw[show kofx (opn x)=118 from by simp[kofx,c]]
  exact do_r h hz hf x 118 cf_118 (setReg m (qRd x) ((m.pc+imm x)%4294967296)) ((m.pc+4)%4294967296) Xc5 Xc6 (by rw[ref.ex_auipc m x c];exact same_next m _ (setReg_pc _ _ _) ((setReg_en _ _ _).trans hen)) (fun w' h'=>up h' (setReg_k _ _ _).2.2.2.1 (setReg_k _ _ _).1 (setReg_k _ _ _).2.1 (setReg_k _ _ _).2.2.2.2.2.2.2.1 (a_upperFromHere h'.p (opn x) (qRd x) (qR1 x) (qR2 x) (imm x) ⟨r0,r1,a0,a1,b0,b1,i0,i1⟩ hz hf))
 by_cases c:opn x=2
 ·rw[show kofx (opn x)=119 from by simp[kofx,c]]
  by_cases ht:((m.pc+imm x)%4294967296)%4=0
  ·exact do_r h hz hf x 119 cf_119 (setReg m (qRd x) ((m.pc+4)%4294967296)) ((m.pc+imm x)%4294967296) Xc5 Xc6 (by rw[ref.ex_jal m x c,if_pos ht];exact same_jump m _ _ _ ht hen) (fun w' h'=>up h' (setReg_k _ _ _).2.2.2.1 (setReg_k _ _ _).1 (setReg_k _ _ _).2.1 (setReg_k _ _ _).2.2.2.2.2.2.2.1 (jal_y h'.p (opn x) (qRd x) (qR1 x) (qR2 x) (imm x) ⟨r0,r1,a0,a1,b0,b1,i0,i1⟩ hz hf ht))
  ·exact do_p h hz hf x 119 cf_119 3 (by rw[ref.ex_jal m x c,if_neg ht]) (fun w' h'=>jal_n h'.p (opn x) (qRd x) (qR1 x) (qR2 x) (imm x) ⟨r0,r1,a0,a1,b0,b1,i0,i1⟩ hz hf ht)
 by_cases c:opn x=3
 ·rw[show kofx (opn x)=120 from by simp[kofx,c]]
  by_cases ht:ref.jt (m.regs (qR1 x).toNat) (imm x)%4=0
  ·exact do_r h hz hf x 120 cf_120 (setReg m (qRd x) ((m.pc+4)%4294967296)) (ref.jt (m.regs (qR1 x).toNat) (imm x)) Xc5 Xc6 (by rw[ref.ex_jalr m x c,if_pos ht];exact same_jump m _ _ _ ht hen) (fun w' h'=>up h' (setReg_k _ _ _).2.2.2.1 (setReg_k _ _ _).1 (setReg_k _ _ _).2.1 (setReg_k _ _ _).2.2.2.2.2.2.2.1 (jalr_y h'.p (opn x) (qRd x) (qR1 x) (qR2 x) (imm x) ⟨r0,r1,a0,a1,b0,b1,i0,i1⟩ hz hf ht))
  ·exact do_p h hz hf x 120 cf_120 3 (by rw[ref.ex_jalr m x c,if_neg ht]) (fun w' h'=>jalr_n h'.p (opn x) (qRd x) (qR1 x) (qR2 x) (imm x) ⟨r0,r1,a0,a1,b0,b1,i0,i1⟩ hz hf ht)
 by_cases c:opn x=4
 ·rw[show kofx (opn x)=121 from by simp[kofx,c]]
  have et:taken (opn x) (m.regs (qR1 x).toNat) (m.regs (qR2 x).toNat)=(m.regs (qR1 x).toNat==m.regs (qR2 x).toNat):=by rw[c];simp[taken,bne]
  cases hc:(m.regs (qR1 x).toNat==m.regs (qR2 x).toNat)with
  |true=>
   rw[hc]at et
   by_cases ht:((m.pc+imm x)%4294967296)%4=0
   ·exact do_r h hz hf x 121 cf_121 m ((m.pc+imm x)%4294967296) (hst0) (hst1) Xc0 (fun w' h'=>up h' rfl rfl rfl rfl (branchEqual_y h'.p (opn x) (qRd x) (qR1 x) (qR2 x) (imm x) ⟨r0,r1,a0,a1,b0,b1,i0,i1⟩ hz hf hc ht))
   ·exact do_p h hz hf x 121 cf_121 3 Xc2 (fun w' h'=>branchEqual_n h'.p (opn x) (qRd x) (qR1 x) (qR2 x) (imm x) ⟨r0,r1,a0,a1,b0,b1,i0,i1⟩ hz hf hc ht)
  |false=>
   rw[hc]at et
   exact do_r h hz hf x 121 cf_121 m ((m.pc+4)%4294967296) (hst0) (hst1) Xc1 (fun w' h'=>up h' rfl rfl rfl rfl (branchEqual_no h'.p (opn x) (qRd x) (qR1 x) (qR2 x) (imm x) ⟨r0,r1,a0,a1,b0,b1,i0,i1⟩ hz hf hc))
 by_cases c:opn x=5
 ·rw[show kofx (opn x)=122 from by simp[kofx,c]]
  have et:taken (opn x) (m.regs (qR1 x).toNat) (m.regs (qR2 x).toNat)=(m.regs (qR1 x).toNat !=m.regs (qR2 x).toNat):=by rw[c];simp[taken,bne]
  cases hc:(m.regs (qR1 x).toNat !=m.regs (qR2 x).toNat)with
  |true=>
   rw[hc]at et
   by_cases ht:((m.pc+imm x)%4294967296)%4=0
   ·exact do_r h hz hf x 122 cf_122 m ((m.pc+imm x)%4294967296) (hst0) (hst1) Xc0 (fun w' h'=>up h' rfl rfl rfl rfl (branchNotEqual_y h'.p (opn x) (qRd x) (qR1 x) (qR2 x) (imm x) ⟨r0,r1,a0,a1,b0,b1,i0,i1⟩ hz hf hc ht))
   ·exact do_p h hz hf x 122 cf_122 3 Xc2 (fun w' h'=>branchNotEqual_n h'.p (opn x) (qRd x) (qR1 x) (qR2 x) (imm x) ⟨r0,r1,a0,a1,b0,b1,i0,i1⟩ hz hf hc ht)
  |false=>
   rw[hc]at et
   exact do_r h hz hf x 122 cf_122 m ((m.pc+4)%4294967296) (hst0) (hst1) Xc1 (fun w' h'=>up h' rfl rfl rfl rfl (branchNotEqual_no h'.p (opn x) (qRd x) (qR1 x) (qR2 x) (imm x) ⟨r0,r1,a0,a1,b0,b1,i0,i1⟩ hz hf hc))
 by_cases c:opn x=6
 ·rw[show kofx (opn x)=123 from by simp[kofx,c]]
  have et:taken (opn x) (m.regs (qR1 x).toNat) (m.regs (qR2 x).toNat)=decide (wrap32 (m.regs (qR1 x).toNat)<wrap32 (m.regs (qR2 x).toNat)):=by rw[c];simp[taken,bne]
  cases hc:decide (wrap32 (m.regs (qR1 x).toNat)<wrap32 (m.regs (qR2 x).toNat))with
  |true=>
   rw[hc]at et
   by_cases ht:((m.pc+imm x)%4294967296)%4=0
   ·exact do_r h hz hf x 123 cf_123 m ((m.pc+imm x)%4294967296) (hst0) (hst1) Xc0 (fun w' h'=>up h' rfl rfl rfl rfl (branchLess_y h'.p (opn x) (qRd x) (qR1 x) (qR2 x) (imm x) ⟨r0,r1,a0,a1,b0,b1,i0,i1⟩ hz hf hc ht))
   ·exact do_p h hz hf x 123 cf_123 3 Xc2 (fun w' h'=>branchLess_n h'.p (opn x) (qRd x) (qR1 x) (qR2 x) (imm x) ⟨r0,r1,a0,a1,b0,b1,i0,i1⟩ hz hf hc ht)
  |false=>
   rw[hc]at et
   exact do_r h hz hf x 123 cf_123 m ((m.pc+4)%4294967296) (hst0) (hst1) Xc1 (fun w' h'=>up h' rfl rfl rfl rfl (branchLess_no h'.p (opn x) (qRd x) (qR1 x) (qR2 x) (imm x) ⟨r0,r1,a0,a1,b0,b1,i0,i1⟩ hz hf hc))
 by_cases c:opn x=7
 ·rw[show kofx (opn x)=124 from by simp[kofx,c]]
  have et:taken (opn x) (m.regs (qR1 x).toNat) (m.regs (qR2 x).toNat)=decide (wrap32 (m.regs (qR2 x).toNat)<=wrap32 (m.regs (qR1 x).toNat)):=by rw[c];simp[taken,bne]
  cases hc:decide (wrap32 (m.regs (qR2 x).toNat)<=wrap32 (m.regs (qR1 x).toNat))with
  |true=>
   have hc2:(decide (wrap32 (m.regs (qR1 x).toNat)<wrap32 (m.regs (qR2 x).toNat)))=false:=by simp at hc ⊢;omega
   rw[hc]at et
   by_cases ht:((m.pc+imm x)%4294967296)%4=0
   ·exact do_r h hz hf x 124 cf_124 m ((m.pc+imm x)%4294967296) (hst0) (hst1) Xc0 (fun w' h'=>up h' rfl rfl rfl rfl (branchNotLess_y h'.p (opn x) (qRd x) (qR1 x) (qR2 x) (imm x) ⟨r0,r1,a0,a1,b0,b1,i0,i1⟩ hz hf hc2 ht))
   ·exact do_p h hz hf x 124 cf_124 3 Xc2 (fun w' h'=>branchNotLess_n h'.p (opn x) (qRd x) (qR1 x) (qR2 x) (imm x) ⟨r0,r1,a0,a1,b0,b1,i0,i1⟩ hz hf hc2 ht)
  |false=>
   have hc2:(decide (wrap32 (m.regs (qR1 x).toNat)<wrap32 (m.regs (qR2 x).toNat)))=true:=by simp at hc ⊢;omega
   rw[hc]at et
   exact do_r h hz hf x 124 cf_124 m ((m.pc+4)%4294967296) (hst0) (hst1) Xc1 (fun w' h'=>up h' rfl rfl rfl rfl (branchNotLess_no h'.p (opn x) (qRd x) (qR1 x) (qR2 x) (imm x) ⟨r0,r1,a0,a1,b0,b1,i0,i1⟩ hz hf hc2))
 by_cases c:opn x=8
 ·rw[show kofx (opn x)=125 from by simp[kofx,c]]
  have et:taken (opn x) (m.regs (qR1 x).toNat) (m.regs (qR2 x).toNat)=decide (m.regs (qR1 x).toNat<m.regs (qR2 x).toNat):=by rw[c];simp[taken,bne]
  cases hc:decide (m.regs (qR1 x).toNat<m.regs (qR2 x).toNat)with
  |true=>
   rw[hc]at et
   by_cases ht:((m.pc+imm x)%4294967296)%4=0
   ·exact do_r h hz hf x 125 cf_125 m ((m.pc+imm x)%4294967296) (hst0) (hst1) Xc0 (fun w' h'=>up h' rfl rfl rfl rfl (branchLessUnsigned_y h'.p (opn x) (qRd x) (qR1 x) (qR2 x) (imm x) ⟨r0,r1,a0,a1,b0,b1,i0,i1⟩ hz hf hc ht))
   ·exact do_p h hz hf x 125 cf_125 3 Xc2 (fun w' h'=>branchLessUnsigned_n h'.p (opn x) (qRd x) (qR1 x) (qR2 x) (imm x) ⟨r0,r1,a0,a1,b0,b1,i0,i1⟩ hz hf hc ht)
  |false=>
   rw[hc]at et
   exact do_r h hz hf x 125 cf_125 m ((m.pc+4)%4294967296) (hst0) (hst1) Xc1 (fun w' h'=>up h' rfl rfl rfl rfl (branchLessUnsigned_no h'.p (opn x) (qRd x) (qR1 x) (qR2 x) (imm x) ⟨r0,r1,a0,a1,b0,b1,i0,i1⟩ hz hf hc))
 by_cases c:opn x=9
 ·rw[show kofx (opn x)=126 from by simp[kofx,c]]
  have et:taken (opn x) (m.regs (qR1 x).toNat) (m.regs (qR2 x).toNat)=decide (m.regs (qR2 x).toNat<=m.regs (qR1 x).toNat):=by rw[c];simp[taken,bne]
  cases hc:decide (m.regs (qR2 x).toNat<=m.regs (qR1 x).toNat)with
  |true=>
   have hc2:(decide ((m.regs (qR1 x).toNat)<(m.regs (qR2 x).toNat)))=false:=by simp at hc ⊢;omega
   rw[hc]at et
   by_cases ht:((m.pc+imm x)%4294967296)%4=0
   ·exact do_r h hz hf x 126 cf_126 m ((m.pc+imm x)%4294967296) (hst0) (hst1) Xc0 (fun w' h'=>up h' rfl rfl rfl rfl (branchNotLessUnsigned_y h'.p (opn x) (qRd x) (qR1 x) (qR2 x) (imm x) ⟨r0,r1,a0,a1,b0,b1,i0,i1⟩ hz hf hc2 ht))
   ·exact do_p h hz hf x 126 cf_126 3 Xc2 (fun w' h'=>branchNotLessUnsigned_n h'.p (opn x) (qRd x) (qR1 x) (qR2 x) (imm x) ⟨r0,r1,a0,a1,b0,b1,i0,i1⟩ hz hf hc2 ht)
  |false=>
   have hc2:(decide ((m.regs (qR1 x).toNat)<(m.regs (qR2 x).toNat)))=true:=by simp at hc ⊢;omega
   rw[hc]at et
   exact do_r h hz hf x 126 cf_126 m ((m.pc+4)%4294967296) (hst0) (hst1) Xc1 (fun w' h'=>up h' rfl rfl rfl rfl (branchNotLessUnsigned_no h'.p (opn x) (qRd x) (qR1 x) (qR2 x) (imm x) ⟨r0,r1,a0,a1,b0,b1,i0,i1⟩ hz hf hc2))
 obtain⟨k,hk⟩:∃k:Nat,((m.regs (qR1 x).toNat+imm x)%4294967296)=k:=⟨(((m.regs (qR1 x).toNat+imm x)%4294967296)).toNat,by omega⟩
 by_cases c:opn x=10
 ·rw[show kofx (opn x)=127 from by simp[kofx,c]]
  have em:exec m x=memop m 10 (qRd x) k (m.regs (qR2 x).toNat):=by rw[ref.ex_mem m x oM oM,hk,c]
  have ha:(k:Int)%((1:Nat):Int)=0:=by omega
  cases hl:lies m k 1 with
  |false=>exact do_p h hz hf x 127 cf_127 6 (em.trans (memop_fa m 10 _ _ _ 1 dC ha hl)) (fun w' h'=>loadByte_fa h'.p (opn x) (qRd x) (qR1 x) (qR2 x) (imm x) ⟨r0,r1,a0,a1,b0,b1,i0,i1⟩ hz hf k hk hl)
  |true=>exact do_r h hz hf x 127 cf_127 (setReg m (qRd x) (sext (ld m.mem k 1) 1)) ((m.pc+4)%4294967296) Xc5 Xc6 (by rw[em,memop_ld m 10 _ _ k 1 dC ha hl dC];exact same_next m _ (setReg_pc _ _ _) ((setReg_en _ _ _).trans hen)) (fun w' h'=>up h' (setReg_k _ _ _).2.2.2.1 (setReg_k _ _ _).1 (setReg_k _ _ _).2.1 (setReg_k _ _ _).2.2.2.2.2.2.2.1 (loadByte_ok h'.p (opn x) (qRd x) (qR1 x) (qR2 x) (imm x) ⟨r0,r1,a0,a1,b0,b1,i0,i1⟩ hz hf k hk hl))
 by_cases c:opn x=11
 ·rw[show kofx (opn x)=128 from by simp[kofx,c]]
  have em:exec m x=memop m 11 (qRd x) k (m.regs (qR2 x).toNat):=by rw[ref.ex_mem m x oM oM,hk,c]
  by_cases ha:(k:Int)%2=0
  rotate_left
  ·exact do_p h hz hf x 128 cf_128 5 (em.trans (memop_al m 11 _ _ _ 2 dC ha)) (fun w' h'=>loadHalf_al h'.p (opn x) (qRd x) (qR1 x) (qR2 x) (imm x) ⟨r0,r1,a0,a1,b0,b1,i0,i1⟩ hz hf k hk ha)
  cases hl:lies m k 2 with
  |false=>exact do_p h hz hf x 128 cf_128 6 (em.trans (memop_fa m 11 _ _ _ 2 dC ha hl)) (fun w' h'=>loadHalf_fa h'.p (opn x) (qRd x) (qR1 x) (qR2 x) (imm x) ⟨r0,r1,a0,a1,b0,b1,i0,i1⟩ hz hf k hk ha hl)
  |true=>exact do_r h hz hf x 128 cf_128 (setReg m (qRd x) (sext (ld m.mem k 2) 2)) ((m.pc+4)%4294967296) Xc5 Xc6 (by rw[em,memop_ld m 11 _ _ k 2 dC ha hl dC];exact same_next m _ (setReg_pc _ _ _) ((setReg_en _ _ _).trans hen)) (fun w' h'=>up h' (setReg_k _ _ _).2.2.2.1 (setReg_k _ _ _).1 (setReg_k _ _ _).2.1 (setReg_k _ _ _).2.2.2.2.2.2.2.1 (loadHalf_ok h'.p (opn x) (qRd x) (qR1 x) (qR2 x) (imm x) ⟨r0,r1,a0,a1,b0,b1,i0,i1⟩ hz hf k hk ha hl))
 by_cases c:opn x=12
 ·rw[show kofx (opn x)=129 from by simp[kofx,c]]
  have em:exec m x=memop m 12 (qRd x) k (m.regs (qR2 x).toNat):=by rw[ref.ex_mem m x oM oM,hk,c]
  by_cases ha:(k:Int)%4=0
  rotate_left
  ·exact do_p h hz hf x 129 cf_129 5 (em.trans (memop_al m 12 _ _ _ 4 dC ha)) (fun w' h'=>loadWord_al h'.p (opn x) (qRd x) (qR1 x) (qR2 x) (imm x) ⟨r0,r1,a0,a1,b0,b1,i0,i1⟩ hz hf k hk ha)
  cases hl:lies m k 4 with
  |false=>exact do_p h hz hf x 129 cf_129 6 (em.trans (memop_fa m 12 _ _ _ 4 dC ha hl)) (fun w' h'=>loadWord_fa h'.p (opn x) (qRd x) (qR1 x) (qR2 x) (imm x) ⟨r0,r1,a0,a1,b0,b1,i0,i1⟩ hz hf k hk ha hl)
  |true=>exact do_r h hz hf x 129 cf_129 (setReg m (qRd x) (ld m.mem k 4)) ((m.pc+4)%4294967296) Xc5 Xc6 (by rw[em,memop_ld m 12 _ _ k 4 dC ha hl dC];exact same_next m _ (setReg_pc _ _ _) ((setReg_en _ _ _).trans hen)) (fun w' h'=>up h' (setReg_k _ _ _).2.2.2.1 (setReg_k _ _ _).1 (setReg_k _ _ _).2.1 (setReg_k _ _ _).2.2.2.2.2.2.2.1 (loadWord_ok h'.p (opn x) (qRd x) (qR1 x) (qR2 x) (imm x) ⟨r0,r1,a0,a1,b0,b1,i0,i1⟩ hz hf k hk ha hl))
 by_cases c:opn x=13
 ·rw[show kofx (opn x)=130 from by simp[kofx,c]]
  have em:exec m x=memop m 13 (qRd x) k (m.regs (qR2 x).toNat):=by rw[ref.ex_mem m x oM oM,hk,c]
  have ha:(k:Int)%((1:Nat):Int)=0:=by omega
  cases hl:lies m k 1 with
  |false=>exact do_p h hz hf x 130 cf_130 6 (em.trans (memop_fa m 13 _ _ _ 1 dC ha hl)) (fun w' h'=>loadByteUnsigned_fa h'.p (opn x) (qRd x) (qR1 x) (qR2 x) (imm x) ⟨r0,r1,a0,a1,b0,b1,i0,i1⟩ hz hf k hk hl)
  |true=>exact do_r h hz hf x 130 cf_130 (setReg m (qRd x) (ld m.mem k 1)) ((m.pc+4)%4294967296) Xc5 Xc6 (by rw[em,memop_ld m 13 _ _ k 1 dC ha hl dC];exact same_next m _ (setReg_pc _ _ _) ((setReg_en _ _ _).trans hen)) (fun w' h'=>up h' (setReg_k _ _ _).2.2.2.1 (setReg_k _ _ _).1 (setReg_k _ _ _).2.1 (setReg_k _ _ _).2.2.2.2.2.2.2.1 (loadByteUnsigned_ok h'.p (opn x) (qRd x) (qR1 x) (qR2 x) (imm x) ⟨r0,r1,a0,a1,b0,b1,i0,i1⟩ hz hf k hk hl))
 by_cases c:opn x=14
 ·rw[show kofx (opn x)=131 from by simp[kofx,c]]
  have em:exec m x=memop m 14 (qRd x) k (m.regs (qR2 x).toNat):=by rw[ref.ex_mem m x oM oM,hk,c]
  by_cases ha:(k:Int)%2=0
  rotate_left
  ·exact do_p h hz hf x 131 cf_131 5 (em.trans (memop_al m 14 _ _ _ 2 dC ha)) (fun w' h'=>loadHalfUnsigned_al h'.p (opn x) (qRd x) (qR1 x) (qR2 x) (imm x) ⟨r0,r1,a0,a1,b0,b1,i0,i1⟩ hz hf k hk ha)
  cases hl:lies m k 2 with
  |false=>exact do_p h hz hf x 131 cf_131 6 (em.trans (memop_fa m 14 _ _ _ 2 dC ha hl)) (fun w' h'=>loadHalfUnsigned_fa h'.p (opn x) (qRd x) (qR1 x) (qR2 x) (imm x) ⟨r0,r1,a0,a1,b0,b1,i0,i1⟩ hz hf k hk ha hl)
  |true=>exact do_r h hz hf x 131 cf_131 (setReg m (qRd x) (ld m.mem k 2)) ((m.pc+4)%4294967296) Xc5 Xc6 (by rw[em,memop_ld m 14 _ _ k 2 dC ha hl dC];exact same_next m _ (setReg_pc _ _ _) ((setReg_en _ _ _).trans hen)) (fun w' h'=>up h' (setReg_k _ _ _).2.2.2.1 (setReg_k _ _ _).1 (setReg_k _ _ _).2.1 (setReg_k _ _ _).2.2.2.2.2.2.2.1 (loadHalfUnsigned_ok h'.p (opn x) (qRd x) (qR1 x) (qR2 x) (imm x) ⟨r0,r1,a0,a1,b0,b1,i0,i1⟩ hz hf k hk ha hl))
 by_cases c:opn x=15
 ·rw[show kofx (opn x)=132 from by simp[kofx,c]]
  have em:exec m x=memop m 15 (qRd x) k (m.regs (qR2 x).toNat):=by rw[ref.ex_mem m x oM oM,hk,c]
  have ha:(k:Int)%((1:Nat):Int)=0:=by omega
  cases hl:lies m k 1 with
  |false=>exact do_p h hz hf x 132 cf_132 8 (em.trans (memop_fa m 15 _ _ _ 1 dC ha hl)) (fun w' h'=>storeByte_fa h'.p (opn x) (qRd x) (qR1 x) (qR2 x) (imm x) ⟨r0,r1,a0,a1,b0,b1,i0,i1⟩ hz hf k hk hl)
  |true=>exact do_r h hz hf x 132 cf_132 (wrote {m with mem:=st m.mem k 1 (m.regs (qR2 x).toNat) } k 1) ((m.pc+4)%4294967296) Xc3 Xc4 (by rw[em,memop_st m 15 _ _ k 1 dC ha hl dC];exact same_next m _ (wrote_g _ _ _).2.2.2.2.1 ((wrote_g _ _ _).2.2.2.2.2.2.2.1.trans hen)) (fun w' h'=>(storeByte_ok B b mb sb X m ((m.pc+4)%4294967296) vX w' h' (opn x) (qRd x) (qR1 x) (qR2 x) (imm x) ⟨r0,r1,a0,a1,b0,b1,i0,i1⟩ hz hf k hk hl))
 by_cases c:opn x=16
 ·rw[show kofx (opn x)=133 from by simp[kofx,c]]
  have em:exec m x=memop m 16 (qRd x) k (m.regs (qR2 x).toNat):=by rw[ref.ex_mem m x oM oM,hk,c]
  by_cases ha:(k:Int)%2=0
  rotate_left
  ·exact do_p h hz hf x 133 cf_133 7 (em.trans (memop_al m 16 _ _ _ 2 dC ha)) (fun w' h'=>storeHalf_al h'.p (opn x) (qRd x) (qR1 x) (qR2 x) (imm x) ⟨r0,r1,a0,a1,b0,b1,i0,i1⟩ hz hf k hk ha)
  cases hl:lies m k 2 with
  |false=>exact do_p h hz hf x 133 cf_133 8 (em.trans (memop_fa m 16 _ _ _ 2 dC ha hl)) (fun w' h'=>storeHalf_fa h'.p (opn x) (qRd x) (qR1 x) (qR2 x) (imm x) ⟨r0,r1,a0,a1,b0,b1,i0,i1⟩ hz hf k hk ha hl)
  |true=>exact do_r h hz hf x 133 cf_133 (wrote {m with mem:=st m.mem k 2 (m.regs (qR2 x).toNat) } k 2) ((m.pc+4)%4294967296) Xc3 Xc4 (by rw[em,memop_st m 16 _ _ k 2 dC ha hl dC];exact same_next m _ (wrote_g _ _ _).2.2.2.2.1 ((wrote_g _ _ _).2.2.2.2.2.2.2.1.trans hen)) (fun w' h'=>(storeHalf_ok B b mb sb X m ((m.pc+4)%4294967296) vX w' h' (opn x) (qRd x) (qR1 x) (qR2 x) (imm x) ⟨r0,r1,a0,a1,b0,b1,i0,i1⟩ hz hf k hk ha hl))
 by_cases c:opn x=17
 ·rw[show kofx (opn x)=134 from by simp[kofx,c]]
  have em:exec m x=memop m 17 (qRd x) k (m.regs (qR2 x).toNat):=by rw[ref.ex_mem m x oM oM,hk,c]
  by_cases ha:(k:Int)%4=0
  rotate_left
  ·exact do_p h hz hf x 134 cf_134 7 (em.trans (memop_al m 17 _ _ _ 4 dC ha)) (fun w' h'=>storeWord_al h'.p (opn x) (qRd x) (qR1 x) (qR2 x) (imm x) ⟨r0,r1,a0,a1,b0,b1,i0,i1⟩ hz hf k hk ha)
  cases hl:lies m k 4 with
  |false=>exact do_p h hz hf x 134 cf_134 8 (em.trans (memop_fa m 17 _ _ _ 4 dC ha hl)) (fun w' h'=>storeWord_fa h'.p (opn x) (qRd x) (qR1 x) (qR2 x) (imm x) ⟨r0,r1,a0,a1,b0,b1,i0,i1⟩ hz hf k hk ha hl)
  |true=>exact do_r h hz hf x 134 cf_134 (wrote {m with mem:=st m.mem k 4 (m.regs (qR2 x).toNat) } k 4) ((m.pc+4)%4294967296) Xc3 Xc4 (by rw[em,memop_st m 17 _ _ k 4 dC ha hl dC];exact same_next m _ (wrote_g _ _ _).2.2.2.2.1 ((wrote_g _ _ _).2.2.2.2.2.2.2.1.trans hen)) (fun w' h'=>(storeWord_ok B b mb sb X m ((m.pc+4)%4294967296) vX w' h' (opn x) (qRd x) (qR1 x) (qR2 x) (imm x) ⟨r0,r1,a0,a1,b0,b1,i0,i1⟩ hz hf k hk ha hl))
 by_cases ci:opn x<=26
 ·rw[kofx_ri (opn x) oM ci]
  exact do_r h hz hf x 157 cf_157 (setReg m (qRd x) (comp (opn x) (m.regs (qR1 x).toNat) (imm x%4294967296))) ((m.pc+4)%4294967296) Xc5 Xc6 (by rw[ref.ex_ri m x oM ci];exact same_next m _ (setReg_pc _ _ _) ((setReg_en _ _ _).trans hen)) (fun w' h'=>up h' (setReg_k _ _ _).2.2.2.1 (setReg_k _ _ _).1 (setReg_k _ _ _).2.1 (setReg_k _ _ _).2.2.2.2.2.2.2.1 (a_reckonImmediate h'.p (opn x) (qRd x) (qR1 x) (qR2 x) (imm x) ⟨r0,r1,a0,a1,b0,b1,i0,i1⟩ hz hf))
 by_cases cr:opn x<=44
 ·rw[kofx_rr (opn x) oM cr]
  exact do_r h hz hf x 158 cf_158 (setReg m (qRd x) (comp (opn x) (m.regs (qR1 x).toNat) (m.regs (qR2 x).toNat))) ((m.pc+4)%4294967296) Xc5 Xc6 (by rw[ref.ex_rr m x oM cr];exact same_next m _ (setReg_pc _ _ _) ((setReg_en _ _ _).trans hen)) (fun w' h'=>up h' (setReg_k _ _ _).2.2.2.1 (setReg_k _ _ _).1 (setReg_k _ _ _).2.1 (setReg_k _ _ _).2.2.2.2.2.2.2.1 (a_reckon h'.p (opn x) (qRd x) (qR1 x) (qR2 x) (imm x) ⟨r0,r1,a0,a1,b0,b1,i0,i1⟩ hz hf))
 by_cases c:opn x=45
 ·rw[show kofx (opn x)=135 from by simp[kofx,c]]
  exact do_r h hz hf x 135 cf_135 m ((m.pc+4)%4294967296) (hst0) (hst1) (by rw[ref.ex_other m x oM h46 oM];exact same_next m _ rfl hen) (fun w' h'=>up h' rfl rfl rfl rfl (a_nothing h'.p (opn x) (qRd x) (qR1 x) (qR2 x) (imm x) ⟨r0,r1,a0,a1,b0,b1,i0,i1⟩ hz hf))
 have c:opn x=47:=by omega
 rw[show kofx (opn x)=137 from by simp[kofx,c]]
 exact do_p h hz hf x 137 cf_137 9 (ref.ex_break m x c) (fun w' h'=>a_stop h'.p (opn x) (qRd x) (qR1 x) (qR2 x) (imm x) ⟨r0,r1,a0,a1,b0,b1,i0,i1⟩ hz hf)
theorem ao_all(op:Int)(h0:0<=op)(h1:op<=47)(w:World):Calls Tryz.prog 103 #[.int .i64 op] w fun e w'=>e=.returned (.func (.func (kofx op)) #[] #[])/\w'=w:=by
 by_cases c:op=0
 ·subst c;exact ao_0 w
 by_cases c:op=1
 ·subst c;exact ao_1 w
 by_cases c:op=2
 ·subst c;exact ao_2 w
 by_cases c:op=3
 ·subst c;exact ao_3 w
 by_cases c:op=4
 ·subst c;exact ao_4 w
 by_cases c:op=5
 ·subst c;exact ao_5 w
 by_cases c:op=6
 ·subst c;exact ao_6 w
 by_cases c:op=7
 ·subst c;exact ao_7 w
 by_cases c:op=8
 ·subst c;exact ao_8 w
 by_cases c:op=9
 ·subst c;exact ao_9 w
 by_cases c:op=10
 ·subst c;exact ao_10 w
 by_cases c:op=11
 ·subst c;exact ao_11 w
 by_cases c:op=12
 ·subst c;exact ao_12 w
 by_cases c:op=13
 ·subst c;exact ao_13 w
 by_cases c:op=14
 ·subst c;exact ao_14 w
 by_cases c:op=15
 ·subst c;exact ao_15 w
 by_cases c:op=16
 ·subst c;exact ao_16 w
 by_cases c:op=17
 ·subst c;exact ao_17 w
 by_cases c:op=45
 ·subst c;exact ao_45 w
 by_cases c:op=46
 ·subst c;exact ao_46 w
 by_cases c:op=47
 ·subst c;exact ao_47 w
 by_cases ci:op<=26
 ·rw[kofx_ri op oM ci];exact ao_ri op oM ci w
 rw[kofx_rr op oM oM];exact ao_rr op oM oM w
end prog
end Go.Proofs.YtjikimpejlmdiaaGreatDoor

import Derived.Test.YtjikimpejlmdiaaGreatDoorZPrF
set_option maxHeartbeats 4000000
set_option linter.unusedVariables false
set_option linter.unusedSimpArgs false
set_option maxRecDepth 10000
namespace Go.Proofs.YtjikimpejlmdiaaGreatDoor
theorem Xb0{p:Prop}(h:p:=by
 have t9:ref.Touch [b] (bx w op rd q1 q2 im) w9:=ref.Touch.trans (ref.Touch.mono (S:=[]) tch sP) hto
 have p9:w9.cell? ⟨b,33,none⟩=some (.int .u32 m.pc):=set_pc hat
 have HT:Hid (ref.Touch [b] (bx w op rd q1 q2 im) w9):=t9
 clear hat hto
 refine hK.out _ _ (HSk.out _ t9 p9) (fun hHeld=> ?_)
 clear hK K
 try go_frame
 refine wpAnyH_done kR ?_ _
 go_wp2_with fail
 go_end0
 exact⟨rfl,HA.out,(((ref.Touch.refl _ _).alloc _).trans HT.out).mono sP⟩):p:=h
theorem Xb1{p:Prop}(h:p:=by
 rintro e w9 ⟨rfl,ht9⟩
 exact⟨rfl,rfl,ref.Touch.trans tcb ht9⟩):p:=h
theorem Xb2{p:Prop}(h:p:=by exact⟨rfl,rfl,((ref.Touch.refl _ _).alloc _).trans HT.out⟩):p:=h
theorem Xb3{p:Prop}(h:p:=by
 go_end0
 exact⟨rfl,HA.out,((ref.Touch.refl _ _).alloc _).trans HT.out⟩):p:=h
theorem Xb4{p:Prop}(h:p:=by rw[if_pos z];simp[IntKind.wrap,IntKind.bits,IntKind.signed];omega):p:=h
theorem Xb5{p:Prop}(h:p:=by rw[if_neg z];simp[IntKind.wrap,IntKind.bits,IntKind.signed];omega):p:=h
theorem Xb6{p:Prop}(h:p:=by
 go_wp2_with fail
 refine rgh HSk cpc (fun hHeld=> ?_)
 refine tkk 0 4 ?_
 refine tkk 1 5 ?_
 refine tkk 2 6 ?_
 refine tkk 3 7 ?_
 refine tkk 4 8 ?_
 try go_frame
 refine rdy 5 (fun K hK=> ?_)
 go_simp
 refine(Calls.mono (load2_fa (HHt.out _ tch) op rd q1 q2 im hI HZ.out HF.out k hk ha hl) ?_)
 exact Xb1):p:=h
theorem Xb7{p:Prop}(h:p:=by
 go_wp2_with fail
 refine rgh HSk cpc (fun hHeld=> ?_)
 refine tkk 0 4 ?_
 refine tkk 1 5 ?_
 refine tkk 2 6 ?_
 refine tkk 3 7 ?_
 refine tkk 4 8 ?_
 try go_frame
 refine rdy 5 (fun K hK=> ?_)
 go_simp
 refine(Calls.mono (load2_al (HHt.out _ tch) op rd q1 q2 im hI HZ.out HF.out k hk ha) ?_)
 exact Xb1):p:=h
theorem Xb8{p:Prop}(h:p:=by
 go_wp2_with fail
 refine rgh HSk cpc (fun hHeld=> ?_)
 refine tkk 0 4 ?_
 refine tkk 1 5 ?_
 refine tkk 2 6 ?_
 refine tkk 3 7 ?_
 refine tkk 4 8 ?_
 try go_frame
 refine rdy 5 (fun K hK=> ?_)
 go_simp
 refine(Calls.mono (load1_fa (HHt.out _ tch) op rd q1 q2 im hI HZ.out HF.out k hk hl) ?_)
 exact Xb1):p:=h
namespace prog
open ChangeShapes WideShapes ChangeAt RowKit nums dnums mach
attribute [local go_sem ↓] Go.wp_at_zero Go.wp_at_succ
theorem loadByte_fa{B b mb:Nat}{m:M}{nx:Int}{vX:Nat->Value}{w:World}(h:PAt B b mb m nx vX w)(op rd q1 q2 im:Int)(hI:IB rd q1 q2 im)(hz:0<m.size)(hf:Fine m)(k:Nat)(hk:((m.regs q1.toNat+im)%4294967296)=k)(hl:lies m k 1=false):
  Calls Tryz.prog 127 #[.pointer (some ⟨b,0,none⟩),.agg #[.int .i64 op,.int .i64 rd,.int .i64 q1,.int .i64 q2,.int .i32 im]] w fun e w'=>e=.panicked (trapV 6)/\ref.Touch [] w w':=by
 have⟨rd0,rd1,q10,q11,q20,q21,i0,i1⟩:=hI
 obtain⟨lb,HH,HHt,HZ,HF,HSk,cpc,ra0,ra1,rb0,rb1,pc0,pc1,wi⟩:=pre_any h op rd q1 q2 im hz hf
 clear h
 clear hz hf
 go_enter Tryz.func127,Tryz.ntmps127
 exact Xb8
theorem loadByte_ok{B b mb:Nat}{m:M}{nx:Int}{vX:Nat->Value}{w:World}(h:PAt B b mb m nx vX w)(op rd q1 q2 im:Int)(hI:IB rd q1 q2 im)(hz:0<m.size)(hf:Fine m)(k:Nat)(hk:((m.regs q1.toNat+im)%4294967296)=k)(hl:lies m k 1=true):
  Calls Tryz.prog 127 #[.pointer (some ⟨b,0,none⟩),.agg #[.int .i64 op,.int .i64 rd,.int .i64 q1,.int .i64 q2,.int .i32 im]] w fun e w'=>e=.returned (.tuple #[])/\PAt B b mb (setReg m rd (sext (ld m.mem k 1) 1)) nx vX w'/\ref.Touch [b,mb] w w':=by
 have⟨rd0,rd1,q10,q11,q20,q21,i0,i1⟩:=hI
 obtain⟨lb,HH,HHt,HZ,HF,HSk,cpc,ra0,ra1,rb0,rb1,pc0,pc1,wi⟩:=pre_any h op rd q1 q2 im hz hf
 clear h
 have lb0:=(ld_bd m.mem hf.mem k 1).1
 have lb1:=(ld_bd m.mem hf.mem k 1).2
 have wl:IntKind.u32.wrap (IntKind.i8.wrap (ld m.mem k 1))=sext (ld m.mem k 1) 1:=by
  rw[ref.sext_1 _ (ld_bd m.mem hf.mem k 1),IntKind.wrap_u32]
  simp at lb1
  unfold ref.sx8
  by_cases z:128<=ld m.mem k 1
  ·exact Xb4
  ·exact Xb5
 clear hz hf
 go_enter Tryz.func127,Tryz.ntmps127
 go_wp2_with fail
 refine rgh HSk cpc (fun hHeld=> ?_)
 refine tkk 0 4 ?_
 refine tkk 1 5 ?_
 refine tkk 2 6 ?_
 refine tkk 3 7 ?_
 refine tkk 4 8 ?_
 try go_frame
 refine rdy 5 (fun K hK=> ?_)
 go_simp
 refine(Calls.mono (load1_ok (HHt.out _ tch) op rd q1 q2 im hI HZ.out HF.out k hk hl) ?_)
 rintro e w1 ⟨rfl,ht'⟩
 obtain⟨t1,p1⟩:=tpp HHt ht'
 clear ht'
 refine hK.out _ _ (HSk.out _ (t1.mono sP) p1) (fun hHeld=> ?_)
 clear hK K
 try go_frame
 refine tkk 6 10 ?_
 refine tkk 7 11 ?_
 try go_frame
 refine rdy 8 (fun K hK=> ?_)
 go_simp
 refine(Calls.mono (set_any (HHt.out _ tch) rd (sext (ld m.mem k 1) 1) rd0 rd1) ?_)
 rintro e w9 ⟨rfl,hat,hto⟩
 have HA:Hid (PAt B b mb (setReg m rd (sext (ld m.mem k 1) 1)) nx vX w9):=hat
 exact Xb0
theorem loadHalf_al{B b mb:Nat}{m:M}{nx:Int}{vX:Nat->Value}{w:World}(h:PAt B b mb m nx vX w)(op rd q1 q2 im:Int)(hI:IB rd q1 q2 im)(hz:0<m.size)(hf:Fine m)(k:Nat)(hk:((m.regs q1.toNat+im)%4294967296)=k)(ha:¬(k:Int)%2=0):
  Calls Tryz.prog 128 #[.pointer (some ⟨b,0,none⟩),.agg #[.int .i64 op,.int .i64 rd,.int .i64 q1,.int .i64 q2,.int .i32 im]] w fun e w'=>e=.panicked (trapV 5)/\ref.Touch [] w w':=by
 have⟨rd0,rd1,q10,q11,q20,q21,i0,i1⟩:=hI
 obtain⟨lb,HH,HHt,HZ,HF,HSk,cpc,ra0,ra1,rb0,rb1,pc0,pc1,wi⟩:=pre_any h op rd q1 q2 im hz hf
 clear h
 clear hz hf
 go_enter Tryz.func128,Tryz.ntmps128
 exact Xb7
theorem loadHalf_fa{B b mb:Nat}{m:M}{nx:Int}{vX:Nat->Value}{w:World}(h:PAt B b mb m nx vX w)(op rd q1 q2 im:Int)(hI:IB rd q1 q2 im)(hz:0<m.size)(hf:Fine m)(k:Nat)(hk:((m.regs q1.toNat+im)%4294967296)=k)(ha:(k:Int)%2=0)(hl:lies m k 2=false):
  Calls Tryz.prog 128 #[.pointer (some ⟨b,0,none⟩),.agg #[.int .i64 op,.int .i64 rd,.int .i64 q1,.int .i64 q2,.int .i32 im]] w fun e w'=>e=.panicked (trapV 6)/\ref.Touch [] w w':=by
 have⟨rd0,rd1,q10,q11,q20,q21,i0,i1⟩:=hI
 obtain⟨lb,HH,HHt,HZ,HF,HSk,cpc,ra0,ra1,rb0,rb1,pc0,pc1,wi⟩:=pre_any h op rd q1 q2 im hz hf
 clear h
 clear hz hf
 go_enter Tryz.func128,Tryz.ntmps128
 exact Xb6
theorem loadHalf_ok{B b mb:Nat}{m:M}{nx:Int}{vX:Nat->Value}{w:World}(h:PAt B b mb m nx vX w)(op rd q1 q2 im:Int)(hI:IB rd q1 q2 im)(hz:0<m.size)(hf:Fine m)(k:Nat)(hk:((m.regs q1.toNat+im)%4294967296)=k)(ha:(k:Int)%2=0)(hl:lies m k 2=true):
  Calls Tryz.prog 128 #[.pointer (some ⟨b,0,none⟩),.agg #[.int .i64 op,.int .i64 rd,.int .i64 q1,.int .i64 q2,.int .i32 im]] w fun e w'=>e=.returned (.tuple #[])/\PAt B b mb (setReg m rd (sext (ld m.mem k 2) 2)) nx vX w'/\ref.Touch [b,mb] w w':=by
 have⟨rd0,rd1,q10,q11,q20,q21,i0,i1⟩:=hI
 obtain⟨lb,HH,HHt,HZ,HF,HSk,cpc,ra0,ra1,rb0,rb1,pc0,pc1,wi⟩:=pre_any h op rd q1 q2 im hz hf
 clear h
 have lb0:=(ld_bd m.mem hf.mem k 2).1
 have lb1:=(ld_bd m.mem hf.mem k 2).2
 have wl:IntKind.u32.wrap (IntKind.i16.wrap (ld m.mem k 2))=sext (ld m.mem k 2) 2:=by
  rw[ref.sext_2 _ (ld_bd m.mem hf.mem k 2),IntKind.wrap_u32]
  simp at lb1
  unfold ref.sx16
  by_cases z:32768<=ld m.mem k 2
  ·exact Xb4
  ·exact Xb5
 clear hz hf
 go_enter Tryz.func128,Tryz.ntmps128
 go_wp2_with fail
 refine rgh HSk cpc (fun hHeld=> ?_)
 refine tkk 0 4 ?_
 refine tkk 1 5 ?_
 refine tkk 2 6 ?_
 refine tkk 3 7 ?_
 refine tkk 4 8 ?_
 try go_frame
 refine rdy 5 (fun K hK=> ?_)
 go_simp
 refine(Calls.mono (load2_ok (HHt.out _ tch) op rd q1 q2 im hI HZ.out HF.out k hk ha hl) ?_)
 rintro e w1 ⟨rfl,ht'⟩
 obtain⟨t1,p1⟩:=tpp HHt ht'
 clear ht'
 refine hK.out _ _ (HSk.out _ (t1.mono sP) p1) (fun hHeld=> ?_)
 clear hK K
 try go_frame
 refine tkk 6 10 ?_
 refine tkk 7 11 ?_
 try go_frame
 refine rdy 8 (fun K hK=> ?_)
 go_simp
 refine(Calls.mono (set_any (HHt.out _ tch) rd (sext (ld m.mem k 2) 2) rd0 rd1) ?_)
 rintro e w9 ⟨rfl,hat,hto⟩
 have HA:Hid (PAt B b mb (setReg m rd (sext (ld m.mem k 2) 2)) nx vX w9):=hat
 exact Xb0
theorem loadWord_al{B b mb:Nat}{m:M}{nx:Int}{vX:Nat->Value}{w:World}(h:PAt B b mb m nx vX w)(op rd q1 q2 im:Int)(hI:IB rd q1 q2 im)(hz:0<m.size)(hf:Fine m)(k:Nat)(hk:((m.regs q1.toNat+im)%4294967296)=k)(ha:¬(k:Int)%4=0):
  Calls Tryz.prog 129 #[.pointer (some ⟨b,0,none⟩),.agg #[.int .i64 op,.int .i64 rd,.int .i64 q1,.int .i64 q2,.int .i32 im]] w fun e w'=>e=.panicked (trapV 5)/\ref.Touch [] w w':=by
 have⟨rd0,rd1,q10,q11,q20,q21,i0,i1⟩:=hI
 obtain⟨lb,HH,HHt,HZ,HF,HSk,cpc,ra0,ra1,rb0,rb1,pc0,pc1,wi⟩:=pre_any h op rd q1 q2 im hz hf
 clear h
 clear hz hf
 go_enter Tryz.func129,Tryz.ntmps129
 go_wp2_with fail
 refine rgh HSk cpc (fun hHeld=> ?_)
 refine tkk 0 4 ?_
 refine tkk 1 5 ?_
 refine tkk 2 6 ?_
 refine tkk 3 7 ?_
 refine tkk 4 8 ?_
 try go_frame
 refine rdy 5 (fun K hK=> ?_)
 go_simp
 refine(Calls.mono (load4_al (HHt.out _ tch) op rd q1 q2 im hI HZ.out HF.out k hk ha) ?_)
 exact Xb1
theorem loadWord_fa{B b mb:Nat}{m:M}{nx:Int}{vX:Nat->Value}{w:World}(h:PAt B b mb m nx vX w)(op rd q1 q2 im:Int)(hI:IB rd q1 q2 im)(hz:0<m.size)(hf:Fine m)(k:Nat)(hk:((m.regs q1.toNat+im)%4294967296)=k)(ha:(k:Int)%4=0)(hl:lies m k 4=false):
  Calls Tryz.prog 129 #[.pointer (some ⟨b,0,none⟩),.agg #[.int .i64 op,.int .i64 rd,.int .i64 q1,.int .i64 q2,.int .i32 im]] w fun e w'=>e=.panicked (trapV 6)/\ref.Touch [] w w':=by
 have⟨rd0,rd1,q10,q11,q20,q21,i0,i1⟩:=hI
 obtain⟨lb,HH,HHt,HZ,HF,HSk,cpc,ra0,ra1,rb0,rb1,pc0,pc1,wi⟩:=pre_any h op rd q1 q2 im hz hf
 clear h
 clear hz hf
 go_enter Tryz.func129,Tryz.ntmps129
 go_wp2_with fail
 refine rgh HSk cpc (fun hHeld=> ?_)
 refine tkk 0 4 ?_
 refine tkk 1 5 ?_
 refine tkk 2 6 ?_
 refine tkk 3 7 ?_
 refine tkk 4 8 ?_
 try go_frame
 refine rdy 5 (fun K hK=> ?_)
 go_simp
 refine(Calls.mono (load4_fa (HHt.out _ tch) op rd q1 q2 im hI HZ.out HF.out k hk ha hl) ?_)
 exact Xb1
theorem loadWord_ok{B b mb:Nat}{m:M}{nx:Int}{vX:Nat->Value}{w:World}(h:PAt B b mb m nx vX w)(op rd q1 q2 im:Int)(hI:IB rd q1 q2 im)(hz:0<m.size)(hf:Fine m)(k:Nat)(hk:((m.regs q1.toNat+im)%4294967296)=k)(ha:(k:Int)%4=0)(hl:lies m k 4=true):
  Calls Tryz.prog 129 #[.pointer (some ⟨b,0,none⟩),.agg #[.int .i64 op,.int .i64 rd,.int .i64 q1,.int .i64 q2,.int .i32 im]] w fun e w'=>e=.returned (.tuple #[])/\PAt B b mb (setReg m rd (ld m.mem k 4)) nx vX w'/\ref.Touch [b,mb] w w':=by
 have⟨rd0,rd1,q10,q11,q20,q21,i0,i1⟩:=hI
 obtain⟨lb,HH,HHt,HZ,HF,HSk,cpc,ra0,ra1,rb0,rb1,pc0,pc1,wi⟩:=pre_any h op rd q1 q2 im hz hf
 clear h
 clear hz hf
 go_enter Tryz.func129,Tryz.ntmps129
 go_wp2_with fail
 refine rgh HSk cpc (fun hHeld=> ?_)
 refine tkk 0 4 ?_
 refine tkk 1 5 ?_
 refine tkk 2 6 ?_
 refine tkk 3 7 ?_
 refine tkk 4 8 ?_
 try go_frame
 refine rdy 5 (fun K hK=> ?_)
 go_simp
 refine(Calls.mono (load4_ok (HHt.out _ tch) op rd q1 q2 im hI HZ.out HF.out k hk ha hl) ?_)
 rintro e w1 ⟨rfl,ht'⟩
 obtain⟨t1,p1⟩:=tpp HHt ht'
 clear ht'
 refine hK.out _ _ (HSk.out _ (t1.mono sP) p1) (fun hHeld=> ?_)
 clear hK K
 try go_frame
 refine rdy 6 (fun K hK=> ?_)
 go_simp
 refine(Calls.mono (set_any (HHt.out _ tch) rd (ld m.mem k 4) rd0 rd1) ?_)
 rintro e w9 ⟨rfl,hat,hto⟩
 have HA:Hid (PAt B b mb (setReg m rd (ld m.mem k 4)) nx vX w9):=hat
 exact Xb0
theorem loadByteUnsigned_fa{B b mb:Nat}{m:M}{nx:Int}{vX:Nat->Value}{w:World}(h:PAt B b mb m nx vX w)(op rd q1 q2 im:Int)(hI:IB rd q1 q2 im)(hz:0<m.size)(hf:Fine m)(k:Nat)(hk:((m.regs q1.toNat+im)%4294967296)=k)(hl:lies m k 1=false):
  Calls Tryz.prog 130 #[.pointer (some ⟨b,0,none⟩),.agg #[.int .i64 op,.int .i64 rd,.int .i64 q1,.int .i64 q2,.int .i32 im]] w fun e w'=>e=.panicked (trapV 6)/\ref.Touch [] w w':=by
 have⟨rd0,rd1,q10,q11,q20,q21,i0,i1⟩:=hI
 obtain⟨lb,HH,HHt,HZ,HF,HSk,cpc,ra0,ra1,rb0,rb1,pc0,pc1,wi⟩:=pre_any h op rd q1 q2 im hz hf
 clear h
 clear hz hf
 go_enter Tryz.func130,Tryz.ntmps130
 exact Xb8
theorem loadByteUnsigned_ok{B b mb:Nat}{m:M}{nx:Int}{vX:Nat->Value}{w:World}(h:PAt B b mb m nx vX w)(op rd q1 q2 im:Int)(hI:IB rd q1 q2 im)(hz:0<m.size)(hf:Fine m)(k:Nat)(hk:((m.regs q1.toNat+im)%4294967296)=k)(hl:lies m k 1=true):
  Calls Tryz.prog 130 #[.pointer (some ⟨b,0,none⟩),.agg #[.int .i64 op,.int .i64 rd,.int .i64 q1,.int .i64 q2,.int .i32 im]] w fun e w'=>e=.returned (.tuple #[])/\PAt B b mb (setReg m rd (ld m.mem k 1)) nx vX w'/\ref.Touch [b,mb] w w':=by
 have⟨rd0,rd1,q10,q11,q20,q21,i0,i1⟩:=hI
 obtain⟨lb,HH,HHt,HZ,HF,HSk,cpc,ra0,ra1,rb0,rb1,pc0,pc1,wi⟩:=pre_any h op rd q1 q2 im hz hf
 clear h
 clear hz hf
 go_enter Tryz.func130,Tryz.ntmps130
 go_wp2_with fail
 refine rgh HSk cpc (fun hHeld=> ?_)
 refine tkk 0 4 ?_
 refine tkk 1 5 ?_
 refine tkk 2 6 ?_
 refine tkk 3 7 ?_
 refine tkk 4 8 ?_
 try go_frame
 refine rdy 5 (fun K hK=> ?_)
 go_simp
 refine(Calls.mono (load1_ok (HHt.out _ tch) op rd q1 q2 im hI HZ.out HF.out k hk hl) ?_)
 rintro e w1 ⟨rfl,ht'⟩
 obtain⟨t1,p1⟩:=tpp HHt ht'
 clear ht'
 refine hK.out _ _ (HSk.out _ (t1.mono sP) p1) (fun hHeld=> ?_)
 clear hK K
 try go_frame
 refine rdy 6 (fun K hK=> ?_)
 go_simp
 refine(Calls.mono (set_any (HHt.out _ tch) rd (ld m.mem k 1) rd0 rd1) ?_)
 rintro e w9 ⟨rfl,hat,hto⟩
 have HA:Hid (PAt B b mb (setReg m rd (ld m.mem k 1)) nx vX w9):=hat
 exact Xb0
theorem loadHalfUnsigned_al{B b mb:Nat}{m:M}{nx:Int}{vX:Nat->Value}{w:World}(h:PAt B b mb m nx vX w)(op rd q1 q2 im:Int)(hI:IB rd q1 q2 im)(hz:0<m.size)(hf:Fine m)(k:Nat)(hk:((m.regs q1.toNat+im)%4294967296)=k)(ha:¬(k:Int)%2=0):
  Calls Tryz.prog 131 #[.pointer (some ⟨b,0,none⟩),.agg #[.int .i64 op,.int .i64 rd,.int .i64 q1,.int .i64 q2,.int .i32 im]] w fun e w'=>e=.panicked (trapV 5)/\ref.Touch [] w w':=by
 have⟨rd0,rd1,q10,q11,q20,q21,i0,i1⟩:=hI
 obtain⟨lb,HH,HHt,HZ,HF,HSk,cpc,ra0,ra1,rb0,rb1,pc0,pc1,wi⟩:=pre_any h op rd q1 q2 im hz hf
 clear h
 clear hz hf
 go_enter Tryz.func131,Tryz.ntmps131
 exact Xb7
theorem loadHalfUnsigned_fa{B b mb:Nat}{m:M}{nx:Int}{vX:Nat->Value}{w:World}(h:PAt B b mb m nx vX w)(op rd q1 q2 im:Int)(hI:IB rd q1 q2 im)(hz:0<m.size)(hf:Fine m)(k:Nat)(hk:((m.regs q1.toNat+im)%4294967296)=k)(ha:(k:Int)%2=0)(hl:lies m k 2=false):
  Calls Tryz.prog 131 #[.pointer (some ⟨b,0,none⟩),.agg #[.int .i64 op,.int .i64 rd,.int .i64 q1,.int .i64 q2,.int .i32 im]] w fun e w'=>e=.panicked (trapV 6)/\ref.Touch [] w w':=by
 have⟨rd0,rd1,q10,q11,q20,q21,i0,i1⟩:=hI
 obtain⟨lb,HH,HHt,HZ,HF,HSk,cpc,ra0,ra1,rb0,rb1,pc0,pc1,wi⟩:=pre_any h op rd q1 q2 im hz hf
 clear h
 clear hz hf
 go_enter Tryz.func131,Tryz.ntmps131
 exact Xb6
theorem loadHalfUnsigned_ok{B b mb:Nat}{m:M}{nx:Int}{vX:Nat->Value}{w:World}(h:PAt B b mb m nx vX w)(op rd q1 q2 im:Int)(hI:IB rd q1 q2 im)(hz:0<m.size)(hf:Fine m)(k:Nat)(hk:((m.regs q1.toNat+im)%4294967296)=k)(ha:(k:Int)%2=0)(hl:lies m k 2=true):
  Calls Tryz.prog 131 #[.pointer (some ⟨b,0,none⟩),.agg #[.int .i64 op,.int .i64 rd,.int .i64 q1,.int .i64 q2,.int .i32 im]] w fun e w'=>e=.returned (.tuple #[])/\PAt B b mb (setReg m rd (ld m.mem k 2)) nx vX w'/\ref.Touch [b,mb] w w':=by
 have⟨rd0,rd1,q10,q11,q20,q21,i0,i1⟩:=hI
 obtain⟨lb,HH,HHt,HZ,HF,HSk,cpc,ra0,ra1,rb0,rb1,pc0,pc1,wi⟩:=pre_any h op rd q1 q2 im hz hf
 clear h
 clear hz hf
 go_enter Tryz.func131,Tryz.ntmps131
 go_wp2_with fail
 refine rgh HSk cpc (fun hHeld=> ?_)
 refine tkk 0 4 ?_
 refine tkk 1 5 ?_
 refine tkk 2 6 ?_
 refine tkk 3 7 ?_
 refine tkk 4 8 ?_
 try go_frame
 refine rdy 5 (fun K hK=> ?_)
 go_simp
 refine(Calls.mono (load2_ok (HHt.out _ tch) op rd q1 q2 im hI HZ.out HF.out k hk ha hl) ?_)
 rintro e w1 ⟨rfl,ht'⟩
 obtain⟨t1,p1⟩:=tpp HHt ht'
 clear ht'
 refine hK.out _ _ (HSk.out _ (t1.mono sP) p1) (fun hHeld=> ?_)
 clear hK K
 try go_frame
 refine rdy 6 (fun K hK=> ?_)
 go_simp
 refine(Calls.mono (set_any (HHt.out _ tch) rd (ld m.mem k 2) rd0 rd1) ?_)
 rintro e w9 ⟨rfl,hat,hto⟩
 have HA:Hid (PAt B b mb (setReg m rd (ld m.mem k 2)) nx vX w9):=hat
 exact Xb0
theorem storeByte_fa{B b mb:Nat}{m:M}{nx:Int}{vX:Nat->Value}{w:World}(h:PAt B b mb m nx vX w)(op rd q1 q2 im:Int)(hI:IB rd q1 q2 im)(hz:0<m.size)(hf:Fine m)(k:Nat)(hk:((m.regs q1.toNat+im)%4294967296)=k)(hl:lies m k 1=false):
  Calls Tryz.prog 132 #[.pointer (some ⟨b,0,none⟩),.agg #[.int .i64 op,.int .i64 rd,.int .i64 q1,.int .i64 q2,.int .i32 im]] w fun e w'=>e=.panicked (trapV 8)/\ref.Touch [] w w':=by
 have⟨rd0,rd1,q10,q11,q20,q21,i0,i1⟩:=hI
 obtain⟨lb,HH,HHt,HZ,HF,HSk,cpc,ra0,ra1,rb0,rb1,pc0,pc1,wi⟩:=pre_any h op rd q1 q2 im hz hf
 clear h
 clear hz hf
 go_enter Tryz.func132,Tryz.ntmps132
 go_wp2_with (first|(go_at_call 152;refine(Calls.mono (store1_fa (HHt.out _ tch) op rd q1 q2 im hI HZ.out HF.out k hk hl) ?_);rintro e w9 ⟨rfl,ht9⟩;have HT:Hid (ref.Touch [] (bx w op rd q1 q2 im) w9):=ref.Touch.trans tch ht9;clear ht9))
 exact Xb2
theorem storeByte_ok(B b mb sb:Nat)(X:List Nat)(m:M)(nx:Int)(vX:Nat->Value)(w:World)(hc0:PCt B b mb sb X m nx vX w)(op rd q1 q2 im:Int)(hI:IB rd q1 q2 im)(hz:0<m.size)(hf:Fine m)(k:Nat)(hk:((m.regs q1.toNat+im)%4294967296)=k)(hl:lies m k 1=true):
  Calls Tryz.prog 132 #[.pointer (some ⟨b,0,none⟩),.agg #[.int .i64 op,.int .i64 rd,.int .i64 q1,.int .i64 q2,.int .i32 im]] w fun e w'=>e=.returned (.tuple #[])/\PCt B b mb sb X (wrote {m with mem:=st m.mem k 1 (m.regs q2.toNat) } k 1) nx vX w'/\ref.Touch [b,mb,sb] w w':=by
 have⟨rd0,rd1,q10,q11,q20,q21,i0,i1⟩:=hI
 have h:=hc0.p
 have HC:Hid (∀w',ref.Touch [] (bx w op rd q1 q2 im) w'->PCt B b mb sb X m nx vX w'):=fun w' t=>hc0.quiet hz (((ref.Touch.refl _ _).alloc _).trans t)
 clear hc0
 obtain⟨lb,HH,HHt,HZ,HF,HSk,cpc,ra0,ra1,rb0,rb1,pc0,pc1,wi⟩:=pre_any h op rd q1 q2 im hz hf
 clear h
 clear hz hf
 go_enter Tryz.func132,Tryz.ntmps132
 go_wp2_with (first|(go_at_call 152;refine(Calls.mono (store1_ok B b mb sb X m nx vX _ (HC.out _ tch) op rd q1 q2 im hI HZ.out HF.out k hk hl) ?_);rintro e w9 ⟨rfl,hat,ht9⟩;have HA:Hid (PCt B b mb sb X (wrote {m with mem:=st m.mem k 1 (m.regs q2.toNat) } k 1) nx vX w9):=hat;have HT:Hid (ref.Touch [b,mb,sb] (bx w op rd q1 q2 im) w9):=ref.Touch.trans (ref.Touch.mono (S:=[]) tch sP) ht9;clear hat ht9))
 exact Xb3
theorem storeHalf_al{B b mb:Nat}{m:M}{nx:Int}{vX:Nat->Value}{w:World}(h:PAt B b mb m nx vX w)(op rd q1 q2 im:Int)(hI:IB rd q1 q2 im)(hz:0<m.size)(hf:Fine m)(k:Nat)(hk:((m.regs q1.toNat+im)%4294967296)=k)(ha:¬(k:Int)%2=0):
  Calls Tryz.prog 133 #[.pointer (some ⟨b,0,none⟩),.agg #[.int .i64 op,.int .i64 rd,.int .i64 q1,.int .i64 q2,.int .i32 im]] w fun e w'=>e=.panicked (trapV 7)/\ref.Touch [] w w':=by
 have⟨rd0,rd1,q10,q11,q20,q21,i0,i1⟩:=hI
 obtain⟨lb,HH,HHt,HZ,HF,HSk,cpc,ra0,ra1,rb0,rb1,pc0,pc1,wi⟩:=pre_any h op rd q1 q2 im hz hf
 clear h
 clear hz hf
 go_enter Tryz.func133,Tryz.ntmps133
 go_wp2_with (first|(go_at_call 152;refine(Calls.mono (store2_al (HHt.out _ tch) op rd q1 q2 im hI HZ.out HF.out k hk ha) ?_);rintro e w9 ⟨rfl,ht9⟩;have HT:Hid (ref.Touch [] (bx w op rd q1 q2 im) w9):=ref.Touch.trans tch ht9;clear ht9))
 exact Xb2
theorem storeHalf_fa{B b mb:Nat}{m:M}{nx:Int}{vX:Nat->Value}{w:World}(h:PAt B b mb m nx vX w)(op rd q1 q2 im:Int)(hI:IB rd q1 q2 im)(hz:0<m.size)(hf:Fine m)(k:Nat)(hk:((m.regs q1.toNat+im)%4294967296)=k)(ha:(k:Int)%2=0)(hl:lies m k 2=false):
  Calls Tryz.prog 133 #[.pointer (some ⟨b,0,none⟩),.agg #[.int .i64 op,.int .i64 rd,.int .i64 q1,.int .i64 q2,.int .i32 im]] w fun e w'=>e=.panicked (trapV 8)/\ref.Touch [] w w':=by
 have⟨rd0,rd1,q10,q11,q20,q21,i0,i1⟩:=hI
 obtain⟨lb,HH,HHt,HZ,HF,HSk,cpc,ra0,ra1,rb0,rb1,pc0,pc1,wi⟩:=pre_any h op rd q1 q2 im hz hf
 clear h
 clear hz hf
 go_enter Tryz.func133,Tryz.ntmps133
 go_wp2_with (first|(go_at_call 152;refine(Calls.mono (store2_fa (HHt.out _ tch) op rd q1 q2 im hI HZ.out HF.out k hk ha hl) ?_);rintro e w9 ⟨rfl,ht9⟩;have HT:Hid (ref.Touch [] (bx w op rd q1 q2 im) w9):=ref.Touch.trans tch ht9;clear ht9))
 exact Xb2
theorem storeHalf_ok(B b mb sb:Nat)(X:List Nat)(m:M)(nx:Int)(vX:Nat->Value)(w:World)(hc0:PCt B b mb sb X m nx vX w)(op rd q1 q2 im:Int)(hI:IB rd q1 q2 im)(hz:0<m.size)(hf:Fine m)(k:Nat)(hk:((m.regs q1.toNat+im)%4294967296)=k)(ha:(k:Int)%2=0)(hl:lies m k 2=true):
  Calls Tryz.prog 133 #[.pointer (some ⟨b,0,none⟩),.agg #[.int .i64 op,.int .i64 rd,.int .i64 q1,.int .i64 q2,.int .i32 im]] w fun e w'=>e=.returned (.tuple #[])/\PCt B b mb sb X (wrote {m with mem:=st m.mem k 2 (m.regs q2.toNat) } k 2) nx vX w'/\ref.Touch [b,mb,sb] w w':=by
 have⟨rd0,rd1,q10,q11,q20,q21,i0,i1⟩:=hI
 have h:=hc0.p
 have HC:Hid (∀w',ref.Touch [] (bx w op rd q1 q2 im) w'->PCt B b mb sb X m nx vX w'):=fun w' t=>hc0.quiet hz (((ref.Touch.refl _ _).alloc _).trans t)
 clear hc0
 obtain⟨lb,HH,HHt,HZ,HF,HSk,cpc,ra0,ra1,rb0,rb1,pc0,pc1,wi⟩:=pre_any h op rd q1 q2 im hz hf
 clear h
 clear hz hf
 go_enter Tryz.func133,Tryz.ntmps133
 go_wp2_with (first|(go_at_call 152;refine(Calls.mono (store2_ok B b mb sb X m nx vX _ (HC.out _ tch) op rd q1 q2 im hI HZ.out HF.out k hk ha hl) ?_);rintro e w9 ⟨rfl,hat,ht9⟩;have HA:Hid (PCt B b mb sb X (wrote {m with mem:=st m.mem k 2 (m.regs q2.toNat) } k 2) nx vX w9):=hat;have HT:Hid (ref.Touch [b,mb,sb] (bx w op rd q1 q2 im) w9):=ref.Touch.trans (ref.Touch.mono (S:=[]) tch sP) ht9;clear hat ht9))
 exact Xb3
theorem storeWord_al{B b mb:Nat}{m:M}{nx:Int}{vX:Nat->Value}{w:World}(h:PAt B b mb m nx vX w)(op rd q1 q2 im:Int)(hI:IB rd q1 q2 im)(hz:0<m.size)(hf:Fine m)(k:Nat)(hk:((m.regs q1.toNat+im)%4294967296)=k)(ha:¬(k:Int)%4=0):
  Calls Tryz.prog 134 #[.pointer (some ⟨b,0,none⟩),.agg #[.int .i64 op,.int .i64 rd,.int .i64 q1,.int .i64 q2,.int .i32 im]] w fun e w'=>e=.panicked (trapV 7)/\ref.Touch [] w w':=by
 have⟨rd0,rd1,q10,q11,q20,q21,i0,i1⟩:=hI
 obtain⟨lb,HH,HHt,HZ,HF,HSk,cpc,ra0,ra1,rb0,rb1,pc0,pc1,wi⟩:=pre_any h op rd q1 q2 im hz hf
 clear h
 clear hz hf
 go_enter Tryz.func134,Tryz.ntmps134
 go_wp2_with (first|(go_at_call 152;refine(Calls.mono (store4_al (HHt.out _ tch) op rd q1 q2 im hI HZ.out HF.out k hk ha) ?_);rintro e w9 ⟨rfl,ht9⟩;have HT:Hid (ref.Touch [] (bx w op rd q1 q2 im) w9):=ref.Touch.trans tch ht9;clear ht9))
 exact Xb2
theorem storeWord_fa{B b mb:Nat}{m:M}{nx:Int}{vX:Nat->Value}{w:World}(h:PAt B b mb m nx vX w)(op rd q1 q2 im:Int)(hI:IB rd q1 q2 im)(hz:0<m.size)(hf:Fine m)(k:Nat)(hk:((m.regs q1.toNat+im)%4294967296)=k)(ha:(k:Int)%4=0)(hl:lies m k 4=false):
  Calls Tryz.prog 134 #[.pointer (some ⟨b,0,none⟩),.agg #[.int .i64 op,.int .i64 rd,.int .i64 q1,.int .i64 q2,.int .i32 im]] w fun e w'=>e=.panicked (trapV 8)/\ref.Touch [] w w':=by
 have⟨rd0,rd1,q10,q11,q20,q21,i0,i1⟩:=hI
 obtain⟨lb,HH,HHt,HZ,HF,HSk,cpc,ra0,ra1,rb0,rb1,pc0,pc1,wi⟩:=pre_any h op rd q1 q2 im hz hf
 clear h
 clear hz hf
 go_enter Tryz.func134,Tryz.ntmps134
 go_wp2_with (first|(go_at_call 152;refine(Calls.mono (store4_fa (HHt.out _ tch) op rd q1 q2 im hI HZ.out HF.out k hk ha hl) ?_);rintro e w9 ⟨rfl,ht9⟩;have HT:Hid (ref.Touch [] (bx w op rd q1 q2 im) w9):=ref.Touch.trans tch ht9;clear ht9))
 exact Xb2
theorem storeWord_ok(B b mb sb:Nat)(X:List Nat)(m:M)(nx:Int)(vX:Nat->Value)(w:World)(hc0:PCt B b mb sb X m nx vX w)(op rd q1 q2 im:Int)(hI:IB rd q1 q2 im)(hz:0<m.size)(hf:Fine m)(k:Nat)(hk:((m.regs q1.toNat+im)%4294967296)=k)(ha:(k:Int)%4=0)(hl:lies m k 4=true):
  Calls Tryz.prog 134 #[.pointer (some ⟨b,0,none⟩),.agg #[.int .i64 op,.int .i64 rd,.int .i64 q1,.int .i64 q2,.int .i32 im]] w fun e w'=>e=.returned (.tuple #[])/\PCt B b mb sb X (wrote {m with mem:=st m.mem k 4 (m.regs q2.toNat) } k 4) nx vX w'/\ref.Touch [b,mb,sb] w w':=by
 have⟨rd0,rd1,q10,q11,q20,q21,i0,i1⟩:=hI
 have h:=hc0.p
 have HC:Hid (∀w',ref.Touch [] (bx w op rd q1 q2 im) w'->PCt B b mb sb X m nx vX w'):=fun w' t=>hc0.quiet hz (((ref.Touch.refl _ _).alloc _).trans t)
 clear hc0
 obtain⟨lb,HH,HHt,HZ,HF,HSk,cpc,ra0,ra1,rb0,rb1,pc0,pc1,wi⟩:=pre_any h op rd q1 q2 im hz hf
 clear h
 clear hz hf
 go_enter Tryz.func134,Tryz.ntmps134
 go_wp2_with (first|(go_at_call 152;refine(Calls.mono (store4_ok B b mb sb X m nx vX _ (HC.out _ tch) op rd q1 q2 im hI HZ.out HF.out k hk ha hl) ?_);rintro e w9 ⟨rfl,hat,ht9⟩;have HA:Hid (PCt B b mb sb X (wrote {m with mem:=st m.mem k 4 (m.regs q2.toNat) } k 4) nx vX w9):=hat;have HT:Hid (ref.Touch [b,mb,sb] (bx w op rd q1 q2 im) w9):=ref.Touch.trans (ref.Touch.mono (S:=[]) tch sP) ht9;clear hat ht9))
 exact Xb3
end prog
namespace prog
open ChangeShapes WideShapes ChangeAt RowKit nums dnums mach
theorem do_pan{B b mb sb:Nat}{X:List Nat}{m:M}{nx:Int}{vX:Nat->Value}{w:World}(h:PCt B b mb sb X m nx vX w)(op rd q1 q2 im:Int)(hz:0<m.size)(hf:Fine m)(K:Nat)(hcf:∀(args:Array Value) (w:World),(callFunc K args).run Tryz.prog w=.ok (.enter K args) w)(o:Int)
  (hK:∀w',PCt B b mb sb X m ((m.pc+4)%4294967296) vX w'->Calls Tryz.prog K #[.pointer (some ⟨b,0,none⟩),.agg #[.int .i64 op,.int .i64 rd,.int .i64 q1,.int .i64 q2,.int .i32 im]] w' fun e w''=>e=.panicked (trapV o)/\ref.Touch [] w' w''):
  Calls Tryz.prog 47 #[.pointer (some ⟨b,0,none⟩),.agg #[(.func (.func K) #[] #[]),.int .i64 op,.int .i64 rd,.int .i64 q1,.int .i64 q2,.int .i32 im]] w fun e w'=>e=.panicked (trapV o)/\PCt B b mb sb X m ((m.pc+4)%4294967296) vX w'/\ref.Touch [b,mb,sb] w w':=by
 have lb:b<w.heap.size:=World.block_lt_of_cell? _ _ h.p.data
 have HN:Hid (PCt B b mb sb X m ((m.pc+4)%4294967296) vX ((w.setCell ⟨b,34,none⟩ (.int .u32 ((m.pc+4)%4294967296))).alloc (.cells #[(.func (.func K) #[] #[]),.int .i64 op,.int .i64 rd,.int .i64 q1,.int .i64 q2,.int .i32 im] 96))):=h.lift ((at_next h.p _).other ((ref.Touch.refl [] _).alloc _) sP sP hz) (((ref.Touch.refl _ _).setCell sP _).alloc _) rfl rfl rfl
 have HT0:Hid (ref.Touch [b] w ((w.setCell ⟨b,34,none⟩ (.int .u32 ((m.pc+4)%4294967296))).alloc (.cells #[(.func (.func K) #[] #[]),.int .i64 op,.int .i64 rd,.int .i64 q1,.int .i64 q2,.int .i32 im] 96))):=((ref.Touch.refl _ _).setCell sP _).alloc _
 have cpc:w.cell? ⟨b,33,none⟩=some (.int .u32 m.pc):=h.p.cells 33 dC dC
 obtain⟨u,cn⟩:=h.p.there 34 dC
 have fn_:=h.p.free 34
 have HZ:Hid (0<m.size):=hz
 have HK:Hid (∀w',PCt B b mb sb X m ((m.pc+4)%4294967296) vX w'->Calls Tryz.prog K #[.pointer (some ⟨b,0,none⟩),.agg #[.int .i64 op,.int .i64 rd,.int .i64 q1,.int .i64 q2,.int .i32 im]] w' fun e w''=>e=.panicked (trapV o)/\ref.Touch [] w' w''):=hK
 clear h hK hf hz
 go_enter Tryz.func47,Tryz.ntmps47
 go_wp2_with fail
 refine(Calls.mono (HK.out _ HN.out) ?_)
 rintro e w9 ⟨rfl,ht9⟩
 exact⟨rfl,rfl,HN.out.quiet HZ.out ht9,(HT0.out.mono sP).trans (ht9.mono sP)⟩
theorem do_ret{B b mb sb:Nat}{X:List Nat}{m:M}{nx:Int}{vX:Nat->Value}{w:World}(h:PCt B b mb sb X m nx vX w)(op rd q1 q2 im:Int)(hz:0<m.size)(hf:Fine m)(K:Nat)(hcf:∀(args:Array Value) (w:World),(callFunc K args).run Tryz.prog w=.ok (.enter K args) w)(m2:M)(nx2:Int)(s0:0<=m2.steps)(s1:m2.steps<=2000)
  (hK:∀w',PCt B b mb sb X m ((m.pc+4)%4294967296) vX w'->Calls Tryz.prog K #[.pointer (some ⟨b,0,none⟩),.agg #[.int .i64 op,.int .i64 rd,.int .i64 q1,.int .i64 q2,.int .i32 im]] w' fun e w''=>e=.returned (.tuple #[])/\PCt B b mb sb X m2 nx2 vX w''/\ref.Touch [b,mb,sb] w' w''):
  Calls Tryz.prog 47 #[.pointer (some ⟨b,0,none⟩),.agg #[(.func (.func K) #[] #[]),.int .i64 op,.int .i64 rd,.int .i64 q1,.int .i64 q2,.int .i32 im]] w fun e w'=>e=.returned (.tuple #[])/\PCt B b mb sb X {m2 with pc:=nx2,steps:=m2.steps+1 } nx2 vX w'/\ref.Touch [b,mb,sb] w w':=by
 have lb:b<w.heap.size:=World.block_lt_of_cell? _ _ h.p.data
 have HN:Hid (PCt B b mb sb X m ((m.pc+4)%4294967296) vX ((w.setCell ⟨b,34,none⟩ (.int .u32 ((m.pc+4)%4294967296))).alloc (.cells #[(.func (.func K) #[] #[]),.int .i64 op,.int .i64 rd,.int .i64 q1,.int .i64 q2,.int .i32 im] 96))):=h.lift ((at_next h.p _).other ((ref.Touch.refl [] _).alloc _) sP sP hz) (((ref.Touch.refl _ _).setCell sP _).alloc _) rfl rfl rfl
 have HT0:Hid (ref.Touch [b] w ((w.setCell ⟨b,34,none⟩ (.int .u32 ((m.pc+4)%4294967296))).alloc (.cells #[(.func (.func K) #[] #[]),.int .i64 op,.int .i64 rd,.int .i64 q1,.int .i64 q2,.int .i32 im] 96))):=((ref.Touch.refl _ _).setCell sP _).alloc _
 have cpc:w.cell? ⟨b,33,none⟩=some (.int .u32 m.pc):=h.p.cells 33 dC dC
 obtain⟨u,cn⟩:=h.p.there 34 dC
 have fn_:=h.p.free 34
 have HZ:Hid (0<m.size):=hz
 have HK:Hid (∀w',PCt B b mb sb X m ((m.pc+4)%4294967296) vX w'->Calls Tryz.prog K #[.pointer (some ⟨b,0,none⟩),.agg #[.int .i64 op,.int .i64 rd,.int .i64 q1,.int .i64 q2,.int .i32 im]] w' fun e w''=>e=.returned (.tuple #[])/\PCt B b mb sb X m2 nx2 vX w''/\ref.Touch [b,mb,sb] w' w''):=hK
 clear h hK hf hz
 go_enter Tryz.func47,Tryz.ntmps47
 go_wp2_with fail
 refine(Calls.mono (HK.out _ HN.out) ?_)
 rintro e w9 ⟨rfl,hat,ht9⟩
 have HA:Hid (PCt B b mb sb X {m2 with pc:=nx2,steps:=m2.steps+1 } nx2 vX ((w9.setCell ⟨b,33,none⟩ (.int .u32 nx2)).setCell ⟨b,39,none⟩ (.int .i64 (m2.steps+1)))):=hat.lift (@at_steps B b mb {m2 with pc:=nx2 } nx2 vX _ (at_pc hat.p nx2) _) (((ref.Touch.refl _ _).setCell sP _).setCell sP _) rfl rfl rfl
 have HT:Hid (ref.Touch [b,mb,sb] w ((w9.setCell ⟨b,33,none⟩ (.int .u32 nx2)).setCell ⟨b,39,none⟩ (.int .i64 (m2.steps+1)))):=(((HT0.out.mono sP).trans ht9).setCell sP _).setCell sP _
 have c1:w9.cell? ⟨b,34,none⟩=some (.int .u32 nx2):=hat.p.cells 34 dC dC
 have c2:w9.cell? ⟨b,39,none⟩=some (.int .i64 m2.steps):=hat.p.cells 39 dC dC
 obtain⟨u3,c3⟩:=hat.p.there 33 dC
 have g1:=hat.p.free 33
 have g2:=hat.p.free 39
 clear hat ht9
 go_wp2_with fail
 go_end0
 exact⟨rfl,HA.out,HT.out⟩
theorem run_callFunc_enter{P:Program}{f:FuncId}{fn:Func}(hf:P.funcs[f]?=some fn)(hname:(fn.name== "runtime.NumGoroutine")=false)(hb:fn.body.isNone=false)(args:Array Value)(w:World):(callFunc f args).run P w=.ok (.enter f args) w:=by
 have h1:¬fn.name= "runtime.NumGoroutine" :=ne_of_beq_false hname
 have h2:¬fn.body=none:=fun e=>by rw[e]at hb;exact Bool.noConfusion hb
 simp[callFunc,go_sem,hf,h1,h2]
theorem cf_117(args:Array Value)(w:World):(callFunc 117 args).run Tryz.prog w=.ok (.enter 117 args) w:=run_callFunc_enter Tryz.func117 kR kR args w
theorem cf_118(args:Array Value)(w:World):(callFunc 118 args).run Tryz.prog w=.ok (.enter 118 args) w:=run_callFunc_enter Tryz.func118 kR kR args w
theorem cf_119(args:Array Value)(w:World):(callFunc 119 args).run Tryz.prog w=.ok (.enter 119 args) w:=run_callFunc_enter Tryz.func119 kR kR args w
theorem cf_120(args:Array Value)(w:World):(callFunc 120 args).run Tryz.prog w=.ok (.enter 120 args) w:=run_callFunc_enter Tryz.func120 kR kR args w
theorem cf_121(args:Array Value)(w:World):(callFunc 121 args).run Tryz.prog w=.ok (.enter 121 args) w:=run_callFunc_enter Tryz.func121 kR kR args w
theorem cf_122(args:Array Value)(w:World):(callFunc 122 args).run Tryz.prog w=.ok (.enter 122 args) w:=run_callFunc_enter Tryz.func122 kR kR args w
theorem cf_123(args:Array Value)(w:World):(callFunc 123 args).run Tryz.prog w=.ok (.enter 123 args) w:=run_callFunc_enter Tryz.func123 kR kR args w
theorem cf_124(args:Array Value)(w:World):(callFunc 124 args).run Tryz.prog w=.ok (.enter 124 args) w:=run_callFunc_enter Tryz.func124 kR kR args w
theorem cf_125(args:Array Value)(w:World):(callFunc 125 args).run Tryz.prog w=.ok (.enter 125 args) w:=run_callFunc_enter Tryz.func125 kR kR args w
theorem cf_126(args:Array Value)(w:World):(callFunc 126 args).run Tryz.prog w=.ok (.enter 126 args) w:=run_callFunc_enter Tryz.func126 kR kR args w
theorem cf_127(args:Array Value)(w:World):(callFunc 127 args).run Tryz.prog w=.ok (.enter 127 args) w:=run_callFunc_enter Tryz.func127 kR kR args w
theorem cf_128(args:Array Value)(w:World):(callFunc 128 args).run Tryz.prog w=.ok (.enter 128 args) w:=run_callFunc_enter Tryz.func128 kR kR args w
theorem cf_129(args:Array Value)(w:World):(callFunc 129 args).run Tryz.prog w=.ok (.enter 129 args) w:=run_callFunc_enter Tryz.func129 kR kR args w
theorem cf_130(args:Array Value)(w:World):(callFunc 130 args).run Tryz.prog w=.ok (.enter 130 args) w:=run_callFunc_enter Tryz.func130 kR kR args w
theorem cf_131(args:Array Value)(w:World):(callFunc 131 args).run Tryz.prog w=.ok (.enter 131 args) w:=run_callFunc_enter Tryz.func131 kR kR args w
theorem cf_132(args:Array Value)(w:World):(callFunc 132 args).run Tryz.prog w=.ok (.enter 132 args) w:=run_callFunc_enter Tryz.func132 kR kR args w
theorem cf_133(args:Array Value)(w:World):(callFunc 133 args).run Tryz.prog w=.ok (.enter 133 args) w:=run_callFunc_enter Tryz.func133 kR kR args w
theorem cf_134(args:Array Value)(w:World):(callFunc 134 args).run Tryz.prog w=.ok (.enter 134 args) w:=run_callFunc_enter Tryz.func134 kR kR args w
theorem cf_135(args:Array Value)(w:World):(callFunc 135 args).run Tryz.prog w=.ok (.enter 135 args) w:=run_callFunc_enter Tryz.func135 kR kR args w
theorem cf_136(args:Array Value)(w:World):(callFunc 136 args).run Tryz.prog w=.ok (.enter 136 args) w:=run_callFunc_enter Tryz.func136 kR kR args w
theorem cf_137(args:Array Value)(w:World):(callFunc 137 args).run Tryz.prog w=.ok (.enter 137 args) w:=run_callFunc_enter Tryz.func137 kR kR args w
theorem cf_157(args:Array Value)(w:World):(callFunc 157 args).run Tryz.prog w=.ok (.enter 157 args) w:=run_callFunc_enter Tryz.func157 kR kR args w
theorem cf_158(args:Array Value)(w:World):(callFunc 158 args).run Tryz.prog w=.ok (.enter 158 args) w:=run_callFunc_enter Tryz.func158 kR kR args w
end prog
end Go.Proofs.YtjikimpejlmdiaaGreatDoor

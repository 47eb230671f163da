import Derived.Test.YtjikimpejlmdiaaGreatDoorZHa
set_option maxHeartbeats 4000000
set_option linter.unusedVariables false
set_option linter.unusedSimpArgs false
set_option maxRecDepth 10000
namespace Go.Proofs.YtjikimpejlmdiaaGreatDoor
theorem XJ0{p:Prop}(h:p:=by
 have HT:Hid (ref.Touch [b,mb] (bx w op rd q1 q2 im) w9):=ref.Touch.trans (ref.Touch.mono (S:=[]) tch sP) hto
 have t9:ref.Touch [b,mb] (bx w op rd q1 q2 im) w9:=HT.out
 have p9:w9.cell? ⟨b,33,none⟩=some (.int .u32 m.pc):=hat.cells 33 dC dC
 clear hat hto
 refine hK.out _ _ (HSk2.out _ t9 p9) (fun hHeld=> ?_)
 clear hK K
 try go_frame
 refine wpAnyH_done kR ?_ _
 go_wp2_with fail
 go_end0
 exact⟨rfl,HA.out,((ref.Touch.refl _ _).alloc _).trans HT.out⟩):p:=h
theorem XJ1{p:Prop}(h:p:=by
 go_wp2_with fail
 refine rgh HSk cpc (fun hHeld=> ?_)
 refine tkk 0 4 ?_
 refine tkk 1 5 ?_
 refine tkk 2 6 ?_
 refine tkk 3 7 ?_
 refine tkk 5 9 ?_
 refine tkk 6 10 ?_
 try go_frame
 refine rdy 4 (fun K hK=> ?_)
 go_simp
 refine(Calls.mono (first_any (HHt.out _ tch) op rd q1 q2 im hI HZ.out) ?_)
 rintro e w1 ⟨rfl,ht'⟩
 obtain⟨t1,p1⟩:=tpp HHt ht'
 clear ht'
 refine hK.out _ _ (HSk.out _ (t1.mono sP) p1) (fun hHeld=> ?_)
 clear hK K
 try go_frame
 refine rdy 7 (fun K hK=> ?_)
 go_simp
 refine(Calls.mono (second_any (HHt.out _ tch) op rd q1 q2 im hI HZ.out) ?_)
 rintro e w2 ⟨rfl,ht'⟩
 obtain⟨t2,p2⟩:=tpp HHt ht'
 clear ht'
 refine hK.out _ _ (HSk.out _ (t2.mono sP) p2) (fun hHeld=> ?_)
 clear hK K
 try go_frame
 refine tkk 8 12 ?_
 try go_frame
 refine rdy 9 (fun K hK=> ?_)
 go_simp
 refine(Calls.mono (br_n (HHt.out _ tch) op rd q1 q2 im hI HZ.out HF.out ht) ?_)
 rintro e w9 ⟨rfl,ht9⟩
 exact⟨rfl,rfl,ref.Touch.trans tcb ht9⟩):p:=h
theorem XJ2{p:Prop}(h:p:=by
 go_simp
 refine(Calls.mono (br_n (HHt.out _ tch) op rd q1 q2 im hI HZ.out HF.out ht) ?_)
 rintro e w9 ⟨rfl,ht9⟩
 exact⟨rfl,rfl,ref.Touch.trans tcb ht9⟩):p:=h
theorem XJ3{p:Prop}(h:p:=by
 go_simp
 refine(Calls.mono (br_y (HHt.out _ tch) op rd q1 q2 im hI HZ.out HF.out ht) ?_)
 rintro e w9 ⟨rfl,hat,hto⟩
 have HA:Hid (PAt B b mb m ((m.pc+im)%4294967296) vX w9):=hat
 exact XJ0):p:=h
theorem XJ4{p:Prop}(h:p:=by
 go_wp2_with fail
 refine rgh HSk cpc (fun hHeld=> ?_)
 refine tkk 0 4 ?_
 refine tkk 1 5 ?_
 refine tkk 2 6 ?_
 refine tkk 3 7 ?_
 refine tkk 5 9 ?_
 refine tkk 6 10 ?_
 try go_frame
 refine rdy 4 (fun K hK=> ?_)
 go_simp
 refine(Calls.mono (first_any (HHt.out _ tch) op rd q1 q2 im hI HZ.out) ?_)
 rintro e w1 ⟨rfl,ht'⟩
 obtain⟨t1,p1⟩:=tpp HHt ht'
 clear ht'
 refine hK.out _ _ (HSk.out _ (t1.mono sP) p1) (fun hHeld=> ?_)
 clear hK K
 try go_frame
 refine rdy 7 (fun K hK=> ?_)
 go_simp
 refine(Calls.mono (second_any (HHt.out _ tch) op rd q1 q2 im hI HZ.out) ?_)
 rintro e w2 ⟨rfl,ht'⟩
 obtain⟨t2,p2⟩:=tpp HHt ht'
 clear ht'
 refine hK.out _ _ (HSk.out _ (t2.mono sP) p2) (fun hHeld=> ?_)
 clear hK K
 try go_frame
 refine tkk 8 12 ?_
 try go_frame
 refine rdy 9 (fun K hK=> ?_)
 go_simp
 refine(Calls.mono (br_no (HHt.out _ tch) op rd q1 q2 im hI HZ.out HF.out) ?_)
 rintro e w9 ⟨rfl,hat,hto⟩
 have HA:Hid (PAt B b mb m nx vX w9):=hat
 exact XJ0):p:=h
theorem XJ5{p:Prop}(h:p:=by
 go_simp
 refine(Calls.mono (br_no (HHt.out _ tch) op rd q1 q2 im hI HZ.out HF.out) ?_)
 rintro e w9 ⟨rfl,hat,hto⟩
 have HA:Hid (PAt B b mb m nx vX w9):=hat
 exact XJ0):p:=h
theorem XJ6{p:Prop}(h:p:=by
 rintro e w1 ⟨rfl,ht'⟩
 obtain⟨t1,p1⟩:=tpp HHt ht'
 clear ht'
 refine hK.out _ _ (HSk.out _ (t1.mono sP) p1) (fun hHeld=> ?_)
 clear hK K
 try go_frame
 refine tkk 5 9 ?_
 try go_frame
 refine rdy 6 (fun K hK=> ?_)
 exact XJ2):p:=h
theorem XJ7{p:Prop}(h:p:=by
 rintro e w1 ⟨rfl,ht'⟩
 obtain⟨t1,p1⟩:=tpp HHt ht'
 clear ht'
 refine hK.out _ _ (HSk.out _ (t1.mono sP) p1) (fun hHeld=> ?_)
 clear hK K
 try go_frame
 refine rdy 5 (fun K hK=> ?_)
 exact XJ2):p:=h
theorem XJ8{p:Prop}(h:p:=by
 go_wp2_with fail
 refine rgh HSk cpc (fun hHeld=> ?_)
 refine tkk 0 4 ?_
 refine tkk 1 5 ?_
 refine tkk 2 6 ?_
 refine tkk 3 7 ?_
 refine tkk 5 9 ?_
 refine tkk 6 10 ?_
 try go_frame
 refine rdy 4 (fun K hK=> ?_)
 go_simp
 refine(Calls.mono (first_any (HHt.out _ tch) op rd q1 q2 im hI HZ.out) ?_)
 rintro e w1 ⟨rfl,ht'⟩
 obtain⟨t1,p1⟩:=tpp HHt ht'
 clear ht'
 refine hK.out _ _ (HSk.out _ (t1.mono sP) p1) (fun hHeld=> ?_)
 clear hK K
 try go_frame
 refine rdy 7 (fun K hK=> ?_)
 go_simp
 refine(Calls.mono (second_any (HHt.out _ tch) op rd q1 q2 im hI HZ.out) ?_)
 rintro e w2 ⟨rfl,ht'⟩
 obtain⟨t2,p2⟩:=tpp HHt ht'
 clear ht'
 refine hK.out _ _ (HSk.out _ (t2.mono sP) p2) (fun hHeld=> ?_)
 clear hK K
 try go_frame
 refine tkk 8 12 ?_
 try go_frame
 refine rdy 9 (fun K hK=> ?_)
 exact XJ3):p:=h
theorem XJ9{p:Prop}(h:p:=by
 rintro e w1 ⟨rfl,ht'⟩
 obtain⟨t1,p1⟩:=tpp HHt ht'
 clear ht'
 refine hK.out _ _ (HSk.out _ (t1.mono sP) p1) (fun hHeld=> ?_)
 clear hK K
 try go_frame
 refine tkk 5 9 ?_
 try go_frame
 refine rdy 6 (fun K hK=> ?_)
 exact XJ3):p:=h
theorem XJa{p:Prop}(h:p:=by
 rintro e w1 ⟨rfl,ht'⟩
 obtain⟨t1,p1⟩:=tpp HHt ht'
 clear ht'
 refine hK.out _ _ (HSk.out _ (t1.mono sP) p1) (fun hHeld=> ?_)
 clear hK K
 try go_frame
 refine tkk 5 9 ?_
 try go_frame
 refine rdy 6 (fun K hK=> ?_)
 exact XJ5):p:=h
theorem XJb{p:Prop}(h:p:=by
 rintro e w1 ⟨rfl,ht'⟩
 obtain⟨t1,p1⟩:=tpp HHt ht'
 clear ht'
 refine hK.out _ _ (HSk.out _ (t1.mono sP) p1) (fun hHeld=> ?_)
 clear hK K
 try go_frame
 refine rdy 5 (fun K hK=> ?_)
 exact XJ3):p:=h
theorem XJc{p:Prop}(h:p:=by
 rintro e w1 ⟨rfl,ht'⟩
 obtain⟨t1,p1⟩:=tpp HHt ht'
 clear ht'
 refine hK.out _ _ (HSk.out _ (t1.mono sP) p1) (fun hHeld=> ?_)
 clear hK K
 try go_frame
 refine rdy 5 (fun K hK=> ?_)
 exact XJ5):p:=h
namespace prog
open ChangeShapes WideShapes ChangeAt RowKit nums dnums mach
attribute [local go_sem ↓] Go.wp_at_zero Go.wp_at_succ
theorem branchEqual_n{B b mb:Nat}{m:M}{nx:Int}{vX:Nat->Value}{w:World}(h:PAt B b mb m nx vX w)(op rd q1 q2 im:Int)(hI:IB rd q1 q2 im)(hz:0<m.size)(hf:Fine m)(hc:(m.regs q1.toNat==m.regs q2.toNat)=true)(ht:¬((m.pc+im)%4294967296)%4=0):
  Calls Tryz.prog 121 #[.pointer (some ⟨b,0,none⟩),.agg #[.int .i64 op,.int .i64 rd,.int .i64 q1,.int .i64 q2,.int .i32 im]] w fun e w'=>e=.panicked (trapV 3)/\ref.Touch [] w w':=by
 have⟨rd0,rd1,q10,q11,q20,q21,i0,i1⟩:=hI
 obtain⟨lb,HH,HHt,HZ,HF,HSk,cpc,ra0,ra1,rb0,rb1,pc0,pc1,wi⟩:=pre_any h op rd q1 q2 im hz hf
 obtain⟨lmb,HSk2⟩:=pre2_any h op rd q1 q2 im hz
 clear h
 clear hz hf
 go_enter Tryz.func121,Tryz.ntmps121
 exact XJ1
theorem branchEqual_y{B b mb:Nat}{m:M}{nx:Int}{vX:Nat->Value}{w:World}(h:PAt B b mb m nx vX w)(op rd q1 q2 im:Int)(hI:IB rd q1 q2 im)(hz:0<m.size)(hf:Fine m)(hc:(m.regs q1.toNat==m.regs q2.toNat)=true)(ht:((m.pc+im)%4294967296)%4=0):
  Calls Tryz.prog 121 #[.pointer (some ⟨b,0,none⟩),.agg #[.int .i64 op,.int .i64 rd,.int .i64 q1,.int .i64 q2,.int .i32 im]] w fun e w'=>e=.returned (.tuple #[])/\PAt B b mb m ((m.pc+im)%4294967296) vX w'/\ref.Touch [b,mb] w w':=by
 have⟨rd0,rd1,q10,q11,q20,q21,i0,i1⟩:=hI
 obtain⟨lb,HH,HHt,HZ,HF,HSk,cpc,ra0,ra1,rb0,rb1,pc0,pc1,wi⟩:=pre_any h op rd q1 q2 im hz hf
 obtain⟨lmb,HSk2⟩:=pre2_any h op rd q1 q2 im hz
 clear h
 have lm:=lmb
 clear hz hf
 go_enter Tryz.func121,Tryz.ntmps121
 exact XJ8
theorem branchEqual_no{B b mb:Nat}{m:M}{nx:Int}{vX:Nat->Value}{w:World}(h:PAt B b mb m nx vX w)(op rd q1 q2 im:Int)(hI:IB rd q1 q2 im)(hz:0<m.size)(hf:Fine m)(hc:(m.regs q1.toNat==m.regs q2.toNat)=false):
  Calls Tryz.prog 121 #[.pointer (some ⟨b,0,none⟩),.agg #[.int .i64 op,.int .i64 rd,.int .i64 q1,.int .i64 q2,.int .i32 im]] w fun e w'=>e=.returned (.tuple #[])/\PAt B b mb m nx vX w'/\ref.Touch [b,mb] w w':=by
 have⟨rd0,rd1,q10,q11,q20,q21,i0,i1⟩:=hI
 obtain⟨lb,HH,HHt,HZ,HF,HSk,cpc,ra0,ra1,rb0,rb1,pc0,pc1,wi⟩:=pre_any h op rd q1 q2 im hz hf
 obtain⟨lmb,HSk2⟩:=pre2_any h op rd q1 q2 im hz
 clear h
 have lm:=lmb
 clear hz hf
 go_enter Tryz.func121,Tryz.ntmps121
 exact XJ4
theorem branchNotEqual_n{B b mb:Nat}{m:M}{nx:Int}{vX:Nat->Value}{w:World}(h:PAt B b mb m nx vX w)(op rd q1 q2 im:Int)(hI:IB rd q1 q2 im)(hz:0<m.size)(hf:Fine m)(hc:(m.regs q1.toNat !=m.regs q2.toNat)=true)(ht:¬((m.pc+im)%4294967296)%4=0):
  Calls Tryz.prog 122 #[.pointer (some ⟨b,0,none⟩),.agg #[.int .i64 op,.int .i64 rd,.int .i64 q1,.int .i64 q2,.int .i32 im]] w fun e w'=>e=.panicked (trapV 3)/\ref.Touch [] w w':=by
 have⟨rd0,rd1,q10,q11,q20,q21,i0,i1⟩:=hI
 obtain⟨lb,HH,HHt,HZ,HF,HSk,cpc,ra0,ra1,rb0,rb1,pc0,pc1,wi⟩:=pre_any h op rd q1 q2 im hz hf
 obtain⟨lmb,HSk2⟩:=pre2_any h op rd q1 q2 im hz
 clear h
 clear hz hf
 go_enter Tryz.func122,Tryz.ntmps122
 exact XJ1
theorem branchNotEqual_y{B b mb:Nat}{m:M}{nx:Int}{vX:Nat->Value}{w:World}(h:PAt B b mb m nx vX w)(op rd q1 q2 im:Int)(hI:IB rd q1 q2 im)(hz:0<m.size)(hf:Fine m)(hc:(m.regs q1.toNat !=m.regs q2.toNat)=true)(ht:((m.pc+im)%4294967296)%4=0):
  Calls Tryz.prog 122 #[.pointer (some ⟨b,0,none⟩),.agg #[.int .i64 op,.int .i64 rd,.int .i64 q1,.int .i64 q2,.int .i32 im]] w fun e w'=>e=.returned (.tuple #[])/\PAt B b mb m ((m.pc+im)%4294967296) vX w'/\ref.Touch [b,mb] w w':=by
 have⟨rd0,rd1,q10,q11,q20,q21,i0,i1⟩:=hI
 obtain⟨lb,HH,HHt,HZ,HF,HSk,cpc,ra0,ra1,rb0,rb1,pc0,pc1,wi⟩:=pre_any h op rd q1 q2 im hz hf
 obtain⟨lmb,HSk2⟩:=pre2_any h op rd q1 q2 im hz
 clear h
 have lm:=lmb
 clear hz hf
 go_enter Tryz.func122,Tryz.ntmps122
 exact XJ8
theorem branchNotEqual_no{B b mb:Nat}{m:M}{nx:Int}{vX:Nat->Value}{w:World}(h:PAt B b mb m nx vX w)(op rd q1 q2 im:Int)(hI:IB rd q1 q2 im)(hz:0<m.size)(hf:Fine m)(hc:(m.regs q1.toNat !=m.regs q2.toNat)=false):
  Calls Tryz.prog 122 #[.pointer (some ⟨b,0,none⟩),.agg #[.int .i64 op,.int .i64 rd,.int .i64 q1,.int .i64 q2,.int .i32 im]] w fun e w'=>e=.returned (.tuple #[])/\PAt B b mb m nx vX w'/\ref.Touch [b,mb] w w':=by
 have⟨rd0,rd1,q10,q11,q20,q21,i0,i1⟩:=hI
 obtain⟨lb,HH,HHt,HZ,HF,HSk,cpc,ra0,ra1,rb0,rb1,pc0,pc1,wi⟩:=pre_any h op rd q1 q2 im hz hf
 obtain⟨lmb,HSk2⟩:=pre2_any h op rd q1 q2 im hz
 clear h
 have lm:=lmb
 clear hz hf
 go_enter Tryz.func122,Tryz.ntmps122
 exact XJ4
theorem branchLess_n{B b mb:Nat}{m:M}{nx:Int}{vX:Nat->Value}{w:World}(h:PAt B b mb m nx vX w)(op rd q1 q2 im:Int)(hI:IB rd q1 q2 im)(hz:0<m.size)(hf:Fine m)(hc:decide (wrap32 (m.regs q1.toNat)<wrap32 (m.regs q2.toNat))=true)(ht:¬((m.pc+im)%4294967296)%4=0):
  Calls Tryz.prog 123 #[.pointer (some ⟨b,0,none⟩),.agg #[.int .i64 op,.int .i64 rd,.int .i64 q1,.int .i64 q2,.int .i32 im]] w fun e w'=>e=.panicked (trapV 3)/\ref.Touch [] w w':=by
 have⟨rd0,rd1,q10,q11,q20,q21,i0,i1⟩:=hI
 obtain⟨lb,HH,HHt,HZ,HF,HSk,cpc,ra0,ra1,rb0,rb1,pc0,pc1,wi⟩:=pre_any h op rd q1 q2 im hz hf
 obtain⟨lmb,HSk2⟩:=pre2_any h op rd q1 q2 im hz
 clear h
 clear hz hf
 go_enter Tryz.func123,Tryz.ntmps123
 go_wp2_with fail
 refine rgh HSk cpc (fun hHeld=> ?_)
 refine tkk 0 4 ?_
 refine tkk 1 5 ?_
 refine tkk 2 6 ?_
 refine tkk 3 7 ?_
 try go_frame
 refine rdy 4 (fun K hK=> ?_)
 go_simp
 refine(Calls.mono (less_any (HHt.out _ tch) op rd q1 q2 im hI HZ.out HF.out) ?_)
 exact XJ7
theorem branchLess_y{B b mb:Nat}{m:M}{nx:Int}{vX:Nat->Value}{w:World}(h:PAt B b mb m nx vX w)(op rd q1 q2 im:Int)(hI:IB rd q1 q2 im)(hz:0<m.size)(hf:Fine m)(hc:decide (wrap32 (m.regs q1.toNat)<wrap32 (m.regs q2.toNat))=true)(ht:((m.pc+im)%4294967296)%4=0):
  Calls Tryz.prog 123 #[.pointer (some ⟨b,0,none⟩),.agg #[.int .i64 op,.int .i64 rd,.int .i64 q1,.int .i64 q2,.int .i32 im]] w fun e w'=>e=.returned (.tuple #[])/\PAt B b mb m ((m.pc+im)%4294967296) vX w'/\ref.Touch [b,mb] w w':=by
 have⟨rd0,rd1,q10,q11,q20,q21,i0,i1⟩:=hI
 obtain⟨lb,HH,HHt,HZ,HF,HSk,cpc,ra0,ra1,rb0,rb1,pc0,pc1,wi⟩:=pre_any h op rd q1 q2 im hz hf
 obtain⟨lmb,HSk2⟩:=pre2_any h op rd q1 q2 im hz
 clear h
 have lm:=lmb
 clear hz hf
 go_enter Tryz.func123,Tryz.ntmps123
 go_wp2_with fail
 refine rgh HSk cpc (fun hHeld=> ?_)
 refine tkk 0 4 ?_
 refine tkk 1 5 ?_
 refine tkk 2 6 ?_
 refine tkk 3 7 ?_
 try go_frame
 refine rdy 4 (fun K hK=> ?_)
 go_simp
 refine(Calls.mono (less_any (HHt.out _ tch) op rd q1 q2 im hI HZ.out HF.out) ?_)
 exact XJb
theorem branchLess_no{B b mb:Nat}{m:M}{nx:Int}{vX:Nat->Value}{w:World}(h:PAt B b mb m nx vX w)(op rd q1 q2 im:Int)(hI:IB rd q1 q2 im)(hz:0<m.size)(hf:Fine m)(hc:decide (wrap32 (m.regs q1.toNat)<wrap32 (m.regs q2.toNat))=false):
  Calls Tryz.prog 123 #[.pointer (some ⟨b,0,none⟩),.agg #[.int .i64 op,.int .i64 rd,.int .i64 q1,.int .i64 q2,.int .i32 im]] w fun e w'=>e=.returned (.tuple #[])/\PAt B b mb m nx vX w'/\ref.Touch [b,mb] w w':=by
 have⟨rd0,rd1,q10,q11,q20,q21,i0,i1⟩:=hI
 obtain⟨lb,HH,HHt,HZ,HF,HSk,cpc,ra0,ra1,rb0,rb1,pc0,pc1,wi⟩:=pre_any h op rd q1 q2 im hz hf
 obtain⟨lmb,HSk2⟩:=pre2_any h op rd q1 q2 im hz
 clear h
 have lm:=lmb
 clear hz hf
 go_enter Tryz.func123,Tryz.ntmps123
 go_wp2_with fail
 refine rgh HSk cpc (fun hHeld=> ?_)
 refine tkk 0 4 ?_
 refine tkk 1 5 ?_
 refine tkk 2 6 ?_
 refine tkk 3 7 ?_
 try go_frame
 refine rdy 4 (fun K hK=> ?_)
 go_simp
 refine(Calls.mono (less_any (HHt.out _ tch) op rd q1 q2 im hI HZ.out HF.out) ?_)
 exact XJc
theorem branchNotLess_n{B b mb:Nat}{m:M}{nx:Int}{vX:Nat->Value}{w:World}(h:PAt B b mb m nx vX w)(op rd q1 q2 im:Int)(hI:IB rd q1 q2 im)(hz:0<m.size)(hf:Fine m)(hc:decide (wrap32 (m.regs q1.toNat)<wrap32 (m.regs q2.toNat))=false)(ht:¬((m.pc+im)%4294967296)%4=0):
  Calls Tryz.prog 124 #[.pointer (some ⟨b,0,none⟩),.agg #[.int .i64 op,.int .i64 rd,.int .i64 q1,.int .i64 q2,.int .i32 im]] w fun e w'=>e=.panicked (trapV 3)/\ref.Touch [] w w':=by
 have⟨rd0,rd1,q10,q11,q20,q21,i0,i1⟩:=hI
 obtain⟨lb,HH,HHt,HZ,HF,HSk,cpc,ra0,ra1,rb0,rb1,pc0,pc1,wi⟩:=pre_any h op rd q1 q2 im hz hf
 obtain⟨lmb,HSk2⟩:=pre2_any h op rd q1 q2 im hz
 clear h
 clear hz hf
 go_enter Tryz.func124,Tryz.ntmps124
 go_wp2_with fail
 refine rgh HSk cpc (fun hHeld=> ?_)
 refine tkk 0 4 ?_
 refine tkk 1 5 ?_
 refine tkk 2 6 ?_
 refine tkk 3 7 ?_
 try go_frame
 refine rdy 4 (fun K hK=> ?_)
 go_simp
 refine(Calls.mono (less_any (HHt.out _ tch) op rd q1 q2 im hI HZ.out HF.out) ?_)
 exact XJ6
theorem branchNotLess_y{B b mb:Nat}{m:M}{nx:Int}{vX:Nat->Value}{w:World}(h:PAt B b mb m nx vX w)(op rd q1 q2 im:Int)(hI:IB rd q1 q2 im)(hz:0<m.size)(hf:Fine m)(hc:decide (wrap32 (m.regs q1.toNat)<wrap32 (m.regs q2.toNat))=false)(ht:((m.pc+im)%4294967296)%4=0):
  Calls Tryz.prog 124 #[.pointer (some ⟨b,0,none⟩),.agg #[.int .i64 op,.int .i64 rd,.int .i64 q1,.int .i64 q2,.int .i32 im]] w fun e w'=>e=.returned (.tuple #[])/\PAt B b mb m ((m.pc+im)%4294967296) vX w'/\ref.Touch [b,mb] w w':=by
 have⟨rd0,rd1,q10,q11,q20,q21,i0,i1⟩:=hI
 obtain⟨lb,HH,HHt,HZ,HF,HSk,cpc,ra0,ra1,rb0,rb1,pc0,pc1,wi⟩:=pre_any h op rd q1 q2 im hz hf
 obtain⟨lmb,HSk2⟩:=pre2_any h op rd q1 q2 im hz
 clear h
 have lm:=lmb
 clear hz hf
 go_enter Tryz.func124,Tryz.ntmps124
 go_wp2_with fail
 refine rgh HSk cpc (fun hHeld=> ?_)
 refine tkk 0 4 ?_
 refine tkk 1 5 ?_
 refine tkk 2 6 ?_
 refine tkk 3 7 ?_
 try go_frame
 refine rdy 4 (fun K hK=> ?_)
 go_simp
 refine(Calls.mono (less_any (HHt.out _ tch) op rd q1 q2 im hI HZ.out HF.out) ?_)
 exact XJ9
theorem branchNotLess_no{B b mb:Nat}{m:M}{nx:Int}{vX:Nat->Value}{w:World}(h:PAt B b mb m nx vX w)(op rd q1 q2 im:Int)(hI:IB rd q1 q2 im)(hz:0<m.size)(hf:Fine m)(hc:decide (wrap32 (m.regs q1.toNat)<wrap32 (m.regs q2.toNat))=true):
  Calls Tryz.prog 124 #[.pointer (some ⟨b,0,none⟩),.agg #[.int .i64 op,.int .i64 rd,.int .i64 q1,.int .i64 q2,.int .i32 im]] w fun e w'=>e=.returned (.tuple #[])/\PAt B b mb m nx vX w'/\ref.Touch [b,mb] w w':=by
 have⟨rd0,rd1,q10,q11,q20,q21,i0,i1⟩:=hI
 obtain⟨lb,HH,HHt,HZ,HF,HSk,cpc,ra0,ra1,rb0,rb1,pc0,pc1,wi⟩:=pre_any h op rd q1 q2 im hz hf
 obtain⟨lmb,HSk2⟩:=pre2_any h op rd q1 q2 im hz
 clear h
 have lm:=lmb
 clear hz hf
 go_enter Tryz.func124,Tryz.ntmps124
 go_wp2_with fail
 refine rgh HSk cpc (fun hHeld=> ?_)
 refine tkk 0 4 ?_
 refine tkk 1 5 ?_
 refine tkk 2 6 ?_
 refine tkk 3 7 ?_
 try go_frame
 refine rdy 4 (fun K hK=> ?_)
 go_simp
 refine(Calls.mono (less_any (HHt.out _ tch) op rd q1 q2 im hI HZ.out HF.out) ?_)
 exact XJa
theorem branchLessUnsigned_n{B b mb:Nat}{m:M}{nx:Int}{vX:Nat->Value}{w:World}(h:PAt B b mb m nx vX w)(op rd q1 q2 im:Int)(hI:IB rd q1 q2 im)(hz:0<m.size)(hf:Fine m)(hc:decide (m.regs q1.toNat<m.regs q2.toNat)=true)(ht:¬((m.pc+im)%4294967296)%4=0):
  Calls Tryz.prog 125 #[.pointer (some ⟨b,0,none⟩),.agg #[.int .i64 op,.int .i64 rd,.int .i64 q1,.int .i64 q2,.int .i32 im]] w fun e w'=>e=.panicked (trapV 3)/\ref.Touch [] w w':=by
 have⟨rd0,rd1,q10,q11,q20,q21,i0,i1⟩:=hI
 obtain⟨lb,HH,HHt,HZ,HF,HSk,cpc,ra0,ra1,rb0,rb1,pc0,pc1,wi⟩:=pre_any h op rd q1 q2 im hz hf
 obtain⟨lmb,HSk2⟩:=pre2_any h op rd q1 q2 im hz
 clear h
 clear hz hf
 go_enter Tryz.func125,Tryz.ntmps125
 go_wp2_with fail
 refine rgh HSk cpc (fun hHeld=> ?_)
 refine tkk 0 4 ?_
 refine tkk 1 5 ?_
 refine tkk 2 6 ?_
 refine tkk 3 7 ?_
 try go_frame
 refine rdy 4 (fun K hK=> ?_)
 go_simp
 refine(Calls.mono (lessUnsigned_any (HHt.out _ tch) op rd q1 q2 im hI HZ.out HF.out) ?_)
 exact XJ7
theorem branchLessUnsigned_y{B b mb:Nat}{m:M}{nx:Int}{vX:Nat->Value}{w:World}(h:PAt B b mb m nx vX w)(op rd q1 q2 im:Int)(hI:IB rd q1 q2 im)(hz:0<m.size)(hf:Fine m)(hc:decide (m.regs q1.toNat<m.regs q2.toNat)=true)(ht:((m.pc+im)%4294967296)%4=0):
  Calls Tryz.prog 125 #[.pointer (some ⟨b,0,none⟩),.agg #[.int .i64 op,.int .i64 rd,.int .i64 q1,.int .i64 q2,.int .i32 im]] w fun e w'=>e=.returned (.tuple #[])/\PAt B b mb m ((m.pc+im)%4294967296) vX w'/\ref.Touch [b,mb] w w':=by
 have⟨rd0,rd1,q10,q11,q20,q21,i0,i1⟩:=hI
 obtain⟨lb,HH,HHt,HZ,HF,HSk,cpc,ra0,ra1,rb0,rb1,pc0,pc1,wi⟩:=pre_any h op rd q1 q2 im hz hf
 obtain⟨lmb,HSk2⟩:=pre2_any h op rd q1 q2 im hz
 clear h
 have lm:=lmb
 clear hz hf
 go_enter Tryz.func125,Tryz.ntmps125
 go_wp2_with fail
 refine rgh HSk cpc (fun hHeld=> ?_)
 refine tkk 0 4 ?_
 refine tkk 1 5 ?_
 refine tkk 2 6 ?_
 refine tkk 3 7 ?_
 try go_frame
 refine rdy 4 (fun K hK=> ?_)
 go_simp
 refine(Calls.mono (lessUnsigned_any (HHt.out _ tch) op rd q1 q2 im hI HZ.out HF.out) ?_)
 exact XJb
theorem branchLessUnsigned_no{B b mb:Nat}{m:M}{nx:Int}{vX:Nat->Value}{w:World}(h:PAt B b mb m nx vX w)(op rd q1 q2 im:Int)(hI:IB rd q1 q2 im)(hz:0<m.size)(hf:Fine m)(hc:decide (m.regs q1.toNat<m.regs q2.toNat)=false):
  Calls Tryz.prog 125 #[.pointer (some ⟨b,0,none⟩),.agg #[.int .i64 op,.int .i64 rd,.int .i64 q1,.int .i64 q2,.int .i32 im]] w fun e w'=>e=.returned (.tuple #[])/\PAt B b mb m nx vX w'/\ref.Touch [b,mb] w w':=by
 have⟨rd0,rd1,q10,q11,q20,q21,i0,i1⟩:=hI
 obtain⟨lb,HH,HHt,HZ,HF,HSk,cpc,ra0,ra1,rb0,rb1,pc0,pc1,wi⟩:=pre_any h op rd q1 q2 im hz hf
 obtain⟨lmb,HSk2⟩:=pre2_any h op rd q1 q2 im hz
 clear h
 have lm:=lmb
 clear hz hf
 go_enter Tryz.func125,Tryz.ntmps125
 go_wp2_with fail
 refine rgh HSk cpc (fun hHeld=> ?_)
 refine tkk 0 4 ?_
 refine tkk 1 5 ?_
 refine tkk 2 6 ?_
 refine tkk 3 7 ?_
 try go_frame
 refine rdy 4 (fun K hK=> ?_)
 go_simp
 refine(Calls.mono (lessUnsigned_any (HHt.out _ tch) op rd q1 q2 im hI HZ.out HF.out) ?_)
 exact XJc
theorem branchNotLessUnsigned_n{B b mb:Nat}{m:M}{nx:Int}{vX:Nat->Value}{w:World}(h:PAt B b mb m nx vX w)(op rd q1 q2 im:Int)(hI:IB rd q1 q2 im)(hz:0<m.size)(hf:Fine m)(hc:decide (m.regs q1.toNat<m.regs q2.toNat)=false)(ht:¬((m.pc+im)%4294967296)%4=0):
  Calls Tryz.prog 126 #[.pointer (some ⟨b,0,none⟩),.agg #[.int .i64 op,.int .i64 rd,.int .i64 q1,.int .i64 q2,.int .i32 im]] w fun e w'=>e=.panicked (trapV 3)/\ref.Touch [] w w':=by
 have⟨rd0,rd1,q10,q11,q20,q21,i0,i1⟩:=hI
 obtain⟨lb,HH,HHt,HZ,HF,HSk,cpc,ra0,ra1,rb0,rb1,pc0,pc1,wi⟩:=pre_any h op rd q1 q2 im hz hf
 obtain⟨lmb,HSk2⟩:=pre2_any h op rd q1 q2 im hz
 clear h
 clear hz hf
 go_enter Tryz.func126,Tryz.ntmps126
 go_wp2_with fail
 refine rgh HSk cpc (fun hHeld=> ?_)
 refine tkk 0 4 ?_
 refine tkk 1 5 ?_
 refine tkk 2 6 ?_
 refine tkk 3 7 ?_
 try go_frame
 refine rdy 4 (fun K hK=> ?_)
 go_simp
 refine(Calls.mono (lessUnsigned_any (HHt.out _ tch) op rd q1 q2 im hI HZ.out HF.out) ?_)
 exact XJ6
theorem branchNotLessUnsigned_y{B b mb:Nat}{m:M}{nx:Int}{vX:Nat->Value}{w:World}(h:PAt B b mb m nx vX w)(op rd q1 q2 im:Int)(hI:IB rd q1 q2 im)(hz:0<m.size)(hf:Fine m)(hc:decide (m.regs q1.toNat<m.regs q2.toNat)=false)(ht:((m.pc+im)%4294967296)%4=0):
  Calls Tryz.prog 126 #[.pointer (some ⟨b,0,none⟩),.agg #[.int .i64 op,.int .i64 rd,.int .i64 q1,.int .i64 q2,.int .i32 im]] w fun e w'=>e=.returned (.tuple #[])/\PAt B b mb m ((m.pc+im)%4294967296) vX w'/\ref.Touch [b,mb] w w':=by
 have⟨rd0,rd1,q10,q11,q20,q21,i0,i1⟩:=hI
 obtain⟨lb,HH,HHt,HZ,HF,HSk,cpc,ra0,ra1,rb0,rb1,pc0,pc1,wi⟩:=pre_any h op rd q1 q2 im hz hf
 obtain⟨lmb,HSk2⟩:=pre2_any h op rd q1 q2 im hz
 clear h
 have lm:=lmb
 clear hz hf
 go_enter Tryz.func126,Tryz.ntmps126
 go_wp2_with fail
 refine rgh HSk cpc (fun hHeld=> ?_)
 refine tkk 0 4 ?_
 refine tkk 1 5 ?_
 refine tkk 2 6 ?_
 refine tkk 3 7 ?_
 try go_frame
 refine rdy 4 (fun K hK=> ?_)
 go_simp
 refine(Calls.mono (lessUnsigned_any (HHt.out _ tch) op rd q1 q2 im hI HZ.out HF.out) ?_)
 exact XJ9
theorem branchNotLessUnsigned_no{B b mb:Nat}{m:M}{nx:Int}{vX:Nat->Value}{w:World}(h:PAt B b mb m nx vX w)(op rd q1 q2 im:Int)(hI:IB rd q1 q2 im)(hz:0<m.size)(hf:Fine m)(hc:decide (m.regs q1.toNat<m.regs q2.toNat)=true):
  Calls Tryz.prog 126 #[.pointer (some ⟨b,0,none⟩),.agg #[.int .i64 op,.int .i64 rd,.int .i64 q1,.int .i64 q2,.int .i32 im]] w fun e w'=>e=.returned (.tuple #[])/\PAt B b mb m nx vX w'/\ref.Touch [b,mb] w w':=by
 have⟨rd0,rd1,q10,q11,q20,q21,i0,i1⟩:=hI
 obtain⟨lb,HH,HHt,HZ,HF,HSk,cpc,ra0,ra1,rb0,rb1,pc0,pc1,wi⟩:=pre_any h op rd q1 q2 im hz hf
 obtain⟨lmb,HSk2⟩:=pre2_any h op rd q1 q2 im hz
 clear h
 have lm:=lmb
 clear hz hf
 go_enter Tryz.func126,Tryz.ntmps126
 go_wp2_with fail
 refine rgh HSk cpc (fun hHeld=> ?_)
 refine tkk 0 4 ?_
 refine tkk 1 5 ?_
 refine tkk 2 6 ?_
 refine tkk 3 7 ?_
 try go_frame
 refine rdy 4 (fun K hK=> ?_)
 go_simp
 refine(Calls.mono (lessUnsigned_any (HHt.out _ tch) op rd q1 q2 im hI HZ.out HF.out) ?_)
 exact XJa
end prog
end Go.Proofs.YtjikimpejlmdiaaGreatDoor

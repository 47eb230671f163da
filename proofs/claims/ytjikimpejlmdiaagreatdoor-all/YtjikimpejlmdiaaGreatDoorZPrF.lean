import Derived.Test.YtjikimpejlmdiaaGreatDoorZPrE
import Derived.Test.YtjikimpejlmdiaaGreatDoorZGf
set_option maxHeartbeats 4000000
set_option linter.unusedVariables false
set_option linter.unusedSimpArgs false
set_option maxRecDepth 10000
namespace Go.Proofs.YtjikimpejlmdiaaGreatDoor
theorem XK0{p:Prop}(h:p:=by exact⟨rfl,rfl,tcb⟩):p:=h
theorem XK1{p:Prop}(h:p:=by
 go_end0
 exact⟨rfl,HA.out,((ref.Touch.refl _ _).alloc _).trans HT.out⟩):p:=h
theorem XK2{p:Prop}(h:p:=by
 go_ret
 exact⟨rfl,((ref.Touch.refl _ _).alloc _).trans HT.out⟩):p:=h
namespace prog
open ChangeShapes WideShapes ChangeAt RowKit nums dnums mach
attribute [local go_sem ↓] Go.wp_at_zero Go.wp_at_succ
theorem load1_fa{B b mb:Nat}{m:M}{nx:Int}{vX:Nat->Value}{w:World}(h:PAt B b mb m nx vX w)(op rd q1 q2 im:Int)(hI:IB rd q1 q2 im)(hz:0<m.size)(hf:Fine m)(k:Nat)(hk:((m.regs q1.toNat+im)%4294967296)=k)(hl:lies m k 1=false):
  Calls Tryz.prog 151 #[.pointer (some ⟨b,0,none⟩),.agg #[.int .i64 op,.int .i64 rd,.int .i64 q1,.int .i64 q2,.int .i32 im],.int .u32 1] w fun e w'=>e=.panicked (trapV 6)/\ref.Touch [] w w':=by
 have⟨rd0,rd1,q10,q11,q20,q21,i0,i1⟩:=hI
 obtain⟨lb,HH,HHt,HZ,HF,HSk,cpc,ra0,ra1,rb0,rb1,pc0,pc1,wi⟩:=pre_any h op rd q1 q2 im hz hf
 obtain⟨lmb,HSk2⟩:=pre2_any h op rd q1 q2 im hz
 clear h
 have wa:IntKind.u32.wrap (m.regs q1.toNat+im%4294967296)=(k:Int):=by rw[IntKind.wrap_u32,<-hk];omega
 have k1:(k:Int)<=4294967295:=by omega
 have k0:(0:Int)<=(k:Int):=by omega
 have z5:=hf.size
 clear hz hf
 go_enter Tryz.func151,Tryz.ntmps151
 go_wp2_with fail
 refine rgh HSk cpc (fun hHeld=> ?_)
 refine tkk 0 8 ?_
 refine tkk 1 9 ?_
 refine tkk 3 11 ?_
 refine tkk 4 12 ?_
 refine tkk 5 13 ?_
 try go_frame
 refine rdy 2 (fun K hK=> ?_)
 go_simp
 refine(Calls.mono (first_any (HHt.out _ tch) op rd q1 q2 im hI HZ.out) ?_)
 rintro e w1 ⟨rfl,ht'⟩
 obtain⟨t1,p1⟩:=tpp HHt ht'
 clear ht'
 refine hK.out _ _ (HSk.out _ (t1.mono sP) p1) (fun hHeld=> ?_)
 clear hK K
 try go_frame
 refine tkk 6 14 ?_
 refine tkk 7 7 ?_
 try go_frame
 refine wpAnyH_done kR ?_ _
 go_wp2_with (first|(go_at_call 74;refine(Calls.mono (guard1_fa (HHt.out _ tch) (k:Int) 5 6 k0 k1 HF.out.size hl) ?_);rintro e w' ⟨rfl,hw'⟩;subst w'))
 exact XK0
theorem load1_ok{B b mb:Nat}{m:M}{nx:Int}{vX:Nat->Value}{w:World}(h:PAt B b mb m nx vX w)(op rd q1 q2 im:Int)(hI:IB rd q1 q2 im)(hz:0<m.size)(hf:Fine m)(k:Nat)(hk:((m.regs q1.toNat+im)%4294967296)=k)(hl:lies m k 1=true):
  Calls Tryz.prog 151 #[.pointer (some ⟨b,0,none⟩),.agg #[.int .i64 op,.int .i64 rd,.int .i64 q1,.int .i64 q2,.int .i32 im],.int .u32 1] w fun e w'=>e=.returned (.int .u32 (ld m.mem k 1))/\ref.Touch [] w w':=by
 have⟨rd0,rd1,q10,q11,q20,q21,i0,i1⟩:=hI
 obtain⟨lb,HH,HHt,HZ,HF,HSk,cpc,ra0,ra1,rb0,rb1,pc0,pc1,wi⟩:=pre_any h op rd q1 q2 im hz hf
 obtain⟨lmb,HSk2⟩:=pre2_any h op rd q1 q2 im hz
 clear h
 have wa:IntKind.u32.wrap (m.regs q1.toNat+im%4294967296)=(k:Int):=by rw[IntKind.wrap_u32,<-hk];omega
 have k1:(k:Int)<=4294967295:=by omega
 have k0:(0:Int)<=(k:Int):=by omega
 have z5:=hf.size
 have hk4:k+1<=m.size:=by simp[lies]at hl;omega
 clear hz hf
 go_enter Tryz.func151,Tryz.ntmps151
 go_wp2_with fail
 refine rgh HSk cpc (fun hHeld=> ?_)
 refine tkk 0 8 ?_
 refine tkk 1 9 ?_
 refine tkk 3 11 ?_
 refine tkk 4 12 ?_
 refine tkk 5 13 ?_
 try go_frame
 refine rdy 2 (fun K hK=> ?_)
 go_simp
 refine(Calls.mono (first_any (HHt.out _ tch) op rd q1 q2 im hI HZ.out) ?_)
 rintro e w1 ⟨rfl,ht'⟩
 obtain⟨t1,p1⟩:=tpp HHt ht'
 clear ht'
 refine hK.out _ _ (HSk.out _ (t1.mono sP) p1) (fun hHeld=> ?_)
 clear hK K
 try go_frame
 refine tkk 6 14 ?_
 refine tkk 7 7 ?_
 try go_frame
 refine wpAnyH_done kR ?_ _
 go_wp2_with (first|(go_at_call 74;refine(Calls.mono (guard1_ok (HHt.out _ tch) (k:Int) 5 6 k0 k1 HF.out.size hl) ?_);rintro e w' ⟨rfl,hw'⟩;subst w')|(go_at_call 102;refine(Calls.mono (read_1 (HHt.out _ tch) k hk4 HF.out.size HF.out.mem) ?_);rintro e w8 ⟨rfl,ht8⟩;have HT:Hid (ref.Touch [] (bx w op rd q1 q2 im) w8):=ref.Touch.trans tch ht8;clear ht8))
 exact XK2
theorem store1_fa{B b mb:Nat}{m:M}{nx:Int}{vX:Nat->Value}{w:World}(h:PAt B b mb m nx vX w)(op rd q1 q2 im:Int)(hI:IB rd q1 q2 im)(hz:0<m.size)(hf:Fine m)(k:Nat)(hk:((m.regs q1.toNat+im)%4294967296)=k)(hl:lies m k 1=false):
  Calls Tryz.prog 152 #[.pointer (some ⟨b,0,none⟩),.agg #[.int .i64 op,.int .i64 rd,.int .i64 q1,.int .i64 q2,.int .i32 im],.int .u32 1] w fun e w'=>e=.panicked (trapV 8)/\ref.Touch [] w w':=by
 have⟨rd0,rd1,q10,q11,q20,q21,i0,i1⟩:=hI
 obtain⟨lb,HH,HHt,HZ,HF,HSk,cpc,ra0,ra1,rb0,rb1,pc0,pc1,wi⟩:=pre_any h op rd q1 q2 im hz hf
 obtain⟨lmb,HSk2⟩:=pre2_any h op rd q1 q2 im hz
 clear h
 have wa:IntKind.u32.wrap (m.regs q1.toNat+im%4294967296)=(k:Int):=by rw[IntKind.wrap_u32,<-hk];omega
 have k1:(k:Int)<=4294967295:=by omega
 have k0:(0:Int)<=(k:Int):=by omega
 have z5:=hf.size
 clear hz hf
 go_enter Tryz.func152,Tryz.ntmps152
 go_wp2_with fail
 refine rgh HSk cpc (fun hHeld=> ?_)
 refine tkk 0 7 ?_
 refine tkk 1 8 ?_
 refine tkk 3 10 ?_
 refine tkk 4 11 ?_
 refine tkk 5 12 ?_
 try go_frame
 refine rdy 2 (fun K hK=> ?_)
 go_simp
 refine(Calls.mono (first_any (HHt.out _ tch) op rd q1 q2 im hI HZ.out) ?_)
 rintro e w1 ⟨rfl,ht'⟩
 obtain⟨t1,p1⟩:=tpp HHt ht'
 clear ht'
 refine hK.out _ _ (HSk.out _ (t1.mono sP) p1) (fun hHeld=> ?_)
 clear hK K
 try go_frame
 refine tkk 6 13 ?_
 refine tkk 7 6 ?_
 try go_frame
 refine wpAnyH_done kR ?_ _
 go_wp2_with (first|(go_at_call 74;refine(Calls.mono (guard1_fa (HHt.out _ tch) (k:Int) 7 8 k0 k1 HF.out.size hl) ?_);rintro e w' ⟨rfl,hw'⟩;subst w'))
 exact XK0
theorem store1_ok(B b mb sb:Nat)(X:List Nat)(m:M)(nx:Int)(vX:Nat->Value)(w:World)(hc0:PCt B b mb sb X m nx vX w)(op rd q1 q2 im:Int)(hI:IB rd q1 q2 im)(hz:0<m.size)(hf:Fine m)(k:Nat)(hk:((m.regs q1.toNat+im)%4294967296)=k)(hl:lies m k 1=true):
  Calls Tryz.prog 152 #[.pointer (some ⟨b,0,none⟩),.agg #[.int .i64 op,.int .i64 rd,.int .i64 q1,.int .i64 q2,.int .i32 im],.int .u32 1] w fun e w'=>e=.returned (.tuple #[])/\PCt B b mb sb X (wrote {m with mem:=st m.mem k 1 (m.regs q2.toNat) } k 1) nx vX w'/\ref.Touch [b,mb,sb] w w':=by
 have⟨rd0,rd1,q10,q11,q20,q21,i0,i1⟩:=hI
 have h:=hc0.p
 have HC:Hid (∀w',ref.Touch [] (bx w op rd q1 q2 im) w'->PCt B b mb sb X m nx vX w'):=fun w' t=>hc0.quiet hz (((ref.Touch.refl _ _).alloc _).trans t)
 clear hc0
 obtain⟨lb,HH,HHt,HZ,HF,HSk,cpc,ra0,ra1,rb0,rb1,pc0,pc1,wi⟩:=pre_any h op rd q1 q2 im hz hf
 obtain⟨lmb,HSk2⟩:=pre2_any h op rd q1 q2 im hz
 clear h
 have wa:IntKind.u32.wrap (m.regs q1.toNat+im%4294967296)=(k:Int):=by rw[IntKind.wrap_u32,<-hk];omega
 have k1:(k:Int)<=4294967295:=by omega
 have k0:(0:Int)<=(k:Int):=by omega
 have z5:=hf.size
 have hk4:k+1<=m.size:=by simp[lies]at hl;omega
 clear hz hf
 go_enter Tryz.func152,Tryz.ntmps152
 go_wp2_with fail
 refine rgh HSk cpc (fun hHeld=> ?_)
 refine tkk 0 7 ?_
 refine tkk 1 8 ?_
 refine tkk 3 10 ?_
 refine tkk 4 11 ?_
 refine tkk 5 12 ?_
 try go_frame
 refine rdy 2 (fun K hK=> ?_)
 go_simp
 refine(Calls.mono (first_any (HHt.out _ tch) op rd q1 q2 im hI HZ.out) ?_)
 rintro e w1 ⟨rfl,ht'⟩
 obtain⟨t1,p1⟩:=tpp HHt ht'
 clear ht'
 refine hK.out _ _ (HSk.out _ (t1.mono sP) p1) (fun hHeld=> ?_)
 clear hK K
 try go_frame
 refine tkk 6 13 ?_
 refine tkk 7 6 ?_
 try go_frame
 refine wpAnyH_done kR ?_ _
 have c5:w1.cell? ⟨w.heap.size,3,none⟩=some (.int .i64 q2):=hHeld.2.2.2.1
 have hb1:=hHeld
 obtain⟨x0,x1,x2,x3,x4,x5⟩:=hb1
 go_wp2_with (first|(go_at_call 74;refine(Calls.mono (guard1_ok (HHt.out _ tch) (k:Int) 7 8 k0 k1 HF.out.size hl) ?_);rintro e w' ⟨rfl,hw'⟩;subst w')|(go_at_call 148;refine(Calls.mono (second_any (HHt.out _ tch) op rd q1 q2 im hI HZ.out) ?_);rintro e w2 ⟨rfl,ht'⟩;have t2:ref.Touch [] (bx w op rd q1 q2 im) w2:=ref.Touch.trans tch ht';clear ht')|(go_at_call 170;refine(Calls.mono (write_1 (HC.out _ tch) k (m.regs q2.toNat) rb0 rb1 hk4 HF.out.size) ?_);rintro e w8 ⟨rfl,hat,ht8⟩;have HA:Hid (PCt B b mb sb X (wrote {m with mem:=st m.mem k 1 (m.regs q2.toNat) } k 1) nx vX w8):=hat;have HT:Hid (ref.Touch [b,mb,sb] (bx w op rd q1 q2 im) w8):=ref.Touch.trans (ref.Touch.mono (S:=[]) tch sP) ht8;clear hat ht8))
 exact XK1
theorem load2_al{B b mb:Nat}{m:M}{nx:Int}{vX:Nat->Value}{w:World}(h:PAt B b mb m nx vX w)(op rd q1 q2 im:Int)(hI:IB rd q1 q2 im)(hz:0<m.size)(hf:Fine m)(k:Nat)(hk:((m.regs q1.toNat+im)%4294967296)=k)(ha:¬(k:Int)%2=0):
  Calls Tryz.prog 151 #[.pointer (some ⟨b,0,none⟩),.agg #[.int .i64 op,.int .i64 rd,.int .i64 q1,.int .i64 q2,.int .i32 im],.int .u32 2] w fun e w'=>e=.panicked (trapV 5)/\ref.Touch [] w w':=by
 have⟨rd0,rd1,q10,q11,q20,q21,i0,i1⟩:=hI
 obtain⟨lb,HH,HHt,HZ,HF,HSk,cpc,ra0,ra1,rb0,rb1,pc0,pc1,wi⟩:=pre_any h op rd q1 q2 im hz hf
 obtain⟨lmb,HSk2⟩:=pre2_any h op rd q1 q2 im hz
 clear h
 have wa:IntKind.u32.wrap (m.regs q1.toNat+im%4294967296)=(k:Int):=by rw[IntKind.wrap_u32,<-hk];omega
 have k1:(k:Int)<=4294967295:=by omega
 have k0:(0:Int)<=(k:Int):=by omega
 have z5:=hf.size
 clear hz hf
 go_enter Tryz.func151,Tryz.ntmps151
 go_wp2_with fail
 refine rgh HSk cpc (fun hHeld=> ?_)
 refine tkk 0 8 ?_
 refine tkk 1 9 ?_
 refine tkk 3 11 ?_
 refine tkk 4 12 ?_
 refine tkk 5 13 ?_
 try go_frame
 refine rdy 2 (fun K hK=> ?_)
 go_simp
 refine(Calls.mono (first_any (HHt.out _ tch) op rd q1 q2 im hI HZ.out) ?_)
 rintro e w1 ⟨rfl,ht'⟩
 obtain⟨t1,p1⟩:=tpp HHt ht'
 clear ht'
 refine hK.out _ _ (HSk.out _ (t1.mono sP) p1) (fun hHeld=> ?_)
 clear hK K
 try go_frame
 refine tkk 6 14 ?_
 refine tkk 7 7 ?_
 try go_frame
 refine wpAnyH_done kR ?_ _
 go_wp2_with (first|(go_at_call 74;refine(Calls.mono (guard2_al (HHt.out _ tch) (k:Int) 5 6 k0 k1 HF.out.size ha) ?_);rintro e w' ⟨rfl,hw'⟩;subst w'))
 exact XK0
theorem load2_fa{B b mb:Nat}{m:M}{nx:Int}{vX:Nat->Value}{w:World}(h:PAt B b mb m nx vX w)(op rd q1 q2 im:Int)(hI:IB rd q1 q2 im)(hz:0<m.size)(hf:Fine m)(k:Nat)(hk:((m.regs q1.toNat+im)%4294967296)=k)(ha:(k:Int)%2=0)(hl:lies m k 2=false):
  Calls Tryz.prog 151 #[.pointer (some ⟨b,0,none⟩),.agg #[.int .i64 op,.int .i64 rd,.int .i64 q1,.int .i64 q2,.int .i32 im],.int .u32 2] w fun e w'=>e=.panicked (trapV 6)/\ref.Touch [] w w':=by
 have⟨rd0,rd1,q10,q11,q20,q21,i0,i1⟩:=hI
 obtain⟨lb,HH,HHt,HZ,HF,HSk,cpc,ra0,ra1,rb0,rb1,pc0,pc1,wi⟩:=pre_any h op rd q1 q2 im hz hf
 obtain⟨lmb,HSk2⟩:=pre2_any h op rd q1 q2 im hz
 clear h
 have wa:IntKind.u32.wrap (m.regs q1.toNat+im%4294967296)=(k:Int):=by rw[IntKind.wrap_u32,<-hk];omega
 have k1:(k:Int)<=4294967295:=by omega
 have k0:(0:Int)<=(k:Int):=by omega
 have z5:=hf.size
 clear hz hf
 go_enter Tryz.func151,Tryz.ntmps151
 go_wp2_with fail
 refine rgh HSk cpc (fun hHeld=> ?_)
 refine tkk 0 8 ?_
 refine tkk 1 9 ?_
 refine tkk 3 11 ?_
 refine tkk 4 12 ?_
 refine tkk 5 13 ?_
 try go_frame
 refine rdy 2 (fun K hK=> ?_)
 go_simp
 refine(Calls.mono (first_any (HHt.out _ tch) op rd q1 q2 im hI HZ.out) ?_)
 rintro e w1 ⟨rfl,ht'⟩
 obtain⟨t1,p1⟩:=tpp HHt ht'
 clear ht'
 refine hK.out _ _ (HSk.out _ (t1.mono sP) p1) (fun hHeld=> ?_)
 clear hK K
 try go_frame
 refine tkk 6 14 ?_
 refine tkk 7 7 ?_
 try go_frame
 refine wpAnyH_done kR ?_ _
 go_wp2_with (first|(go_at_call 74;refine(Calls.mono (guard2_fa (HHt.out _ tch) (k:Int) 5 6 k0 k1 HF.out.size ha hl) ?_);rintro e w' ⟨rfl,hw'⟩;subst w'))
 exact XK0
theorem load2_ok{B b mb:Nat}{m:M}{nx:Int}{vX:Nat->Value}{w:World}(h:PAt B b mb m nx vX w)(op rd q1 q2 im:Int)(hI:IB rd q1 q2 im)(hz:0<m.size)(hf:Fine m)(k:Nat)(hk:((m.regs q1.toNat+im)%4294967296)=k)(ha:(k:Int)%2=0)(hl:lies m k 2=true):
  Calls Tryz.prog 151 #[.pointer (some ⟨b,0,none⟩),.agg #[.int .i64 op,.int .i64 rd,.int .i64 q1,.int .i64 q2,.int .i32 im],.int .u32 2] w fun e w'=>e=.returned (.int .u32 (ld m.mem k 2))/\ref.Touch [] w w':=by
 have⟨rd0,rd1,q10,q11,q20,q21,i0,i1⟩:=hI
 obtain⟨lb,HH,HHt,HZ,HF,HSk,cpc,ra0,ra1,rb0,rb1,pc0,pc1,wi⟩:=pre_any h op rd q1 q2 im hz hf
 obtain⟨lmb,HSk2⟩:=pre2_any h op rd q1 q2 im hz
 clear h
 have wa:IntKind.u32.wrap (m.regs q1.toNat+im%4294967296)=(k:Int):=by rw[IntKind.wrap_u32,<-hk];omega
 have k1:(k:Int)<=4294967295:=by omega
 have k0:(0:Int)<=(k:Int):=by omega
 have z5:=hf.size
 have hk4:k+2<=m.size:=by simp[lies]at hl;omega
 clear hz hf
 go_enter Tryz.func151,Tryz.ntmps151
 go_wp2_with fail
 refine rgh HSk cpc (fun hHeld=> ?_)
 refine tkk 0 8 ?_
 refine tkk 1 9 ?_
 refine tkk 3 11 ?_
 refine tkk 4 12 ?_
 refine tkk 5 13 ?_
 try go_frame
 refine rdy 2 (fun K hK=> ?_)
 go_simp
 refine(Calls.mono (first_any (HHt.out _ tch) op rd q1 q2 im hI HZ.out) ?_)
 rintro e w1 ⟨rfl,ht'⟩
 obtain⟨t1,p1⟩:=tpp HHt ht'
 clear ht'
 refine hK.out _ _ (HSk.out _ (t1.mono sP) p1) (fun hHeld=> ?_)
 clear hK K
 try go_frame
 refine tkk 6 14 ?_
 refine tkk 7 7 ?_
 try go_frame
 refine wpAnyH_done kR ?_ _
 go_wp2_with (first|(go_at_call 74;refine(Calls.mono (guard2_ok (HHt.out _ tch) (k:Int) 5 6 k0 k1 HF.out.size ha hl) ?_);rintro e w' ⟨rfl,hw'⟩;subst w')|(go_at_call 102;refine(Calls.mono (read_2 (HHt.out _ tch) k hk4 HF.out.size HF.out.mem) ?_);rintro e w8 ⟨rfl,ht8⟩;have HT:Hid (ref.Touch [] (bx w op rd q1 q2 im) w8):=ref.Touch.trans tch ht8;clear ht8))
 exact XK2
theorem store2_al{B b mb:Nat}{m:M}{nx:Int}{vX:Nat->Value}{w:World}(h:PAt B b mb m nx vX w)(op rd q1 q2 im:Int)(hI:IB rd q1 q2 im)(hz:0<m.size)(hf:Fine m)(k:Nat)(hk:((m.regs q1.toNat+im)%4294967296)=k)(ha:¬(k:Int)%2=0):
  Calls Tryz.prog 152 #[.pointer (some ⟨b,0,none⟩),.agg #[.int .i64 op,.int .i64 rd,.int .i64 q1,.int .i64 q2,.int .i32 im],.int .u32 2] w fun e w'=>e=.panicked (trapV 7)/\ref.Touch [] w w':=by
 have⟨rd0,rd1,q10,q11,q20,q21,i0,i1⟩:=hI
 obtain⟨lb,HH,HHt,HZ,HF,HSk,cpc,ra0,ra1,rb0,rb1,pc0,pc1,wi⟩:=pre_any h op rd q1 q2 im hz hf
 obtain⟨lmb,HSk2⟩:=pre2_any h op rd q1 q2 im hz
 clear h
 have wa:IntKind.u32.wrap (m.regs q1.toNat+im%4294967296)=(k:Int):=by rw[IntKind.wrap_u32,<-hk];omega
 have k1:(k:Int)<=4294967295:=by omega
 have k0:(0:Int)<=(k:Int):=by omega
 have z5:=hf.size
 clear hz hf
 go_enter Tryz.func152,Tryz.ntmps152
 go_wp2_with fail
 refine rgh HSk cpc (fun hHeld=> ?_)
 refine tkk 0 7 ?_
 refine tkk 1 8 ?_
 refine tkk 3 10 ?_
 refine tkk 4 11 ?_
 refine tkk 5 12 ?_
 try go_frame
 refine rdy 2 (fun K hK=> ?_)
 go_simp
 refine(Calls.mono (first_any (HHt.out _ tch) op rd q1 q2 im hI HZ.out) ?_)
 rintro e w1 ⟨rfl,ht'⟩
 obtain⟨t1,p1⟩:=tpp HHt ht'
 clear ht'
 refine hK.out _ _ (HSk.out _ (t1.mono sP) p1) (fun hHeld=> ?_)
 clear hK K
 try go_frame
 refine tkk 6 13 ?_
 refine tkk 7 6 ?_
 try go_frame
 refine wpAnyH_done kR ?_ _
 go_wp2_with (first|(go_at_call 74;refine(Calls.mono (guard2_al (HHt.out _ tch) (k:Int) 7 8 k0 k1 HF.out.size ha) ?_);rintro e w' ⟨rfl,hw'⟩;subst w'))
 exact XK0
theorem store2_fa{B b mb:Nat}{m:M}{nx:Int}{vX:Nat->Value}{w:World}(h:PAt B b mb m nx vX w)(op rd q1 q2 im:Int)(hI:IB rd q1 q2 im)(hz:0<m.size)(hf:Fine m)(k:Nat)(hk:((m.regs q1.toNat+im)%4294967296)=k)(ha:(k:Int)%2=0)(hl:lies m k 2=false):
  Calls Tryz.prog 152 #[.pointer (some ⟨b,0,none⟩),.agg #[.int .i64 op,.int .i64 rd,.int .i64 q1,.int .i64 q2,.int .i32 im],.int .u32 2] w fun e w'=>e=.panicked (trapV 8)/\ref.Touch [] w w':=by
 have⟨rd0,rd1,q10,q11,q20,q21,i0,i1⟩:=hI
 obtain⟨lb,HH,HHt,HZ,HF,HSk,cpc,ra0,ra1,rb0,rb1,pc0,pc1,wi⟩:=pre_any h op rd q1 q2 im hz hf
 obtain⟨lmb,HSk2⟩:=pre2_any h op rd q1 q2 im hz
 clear h
 have wa:IntKind.u32.wrap (m.regs q1.toNat+im%4294967296)=(k:Int):=by rw[IntKind.wrap_u32,<-hk];omega
 have k1:(k:Int)<=4294967295:=by omega
 have k0:(0:Int)<=(k:Int):=by omega
 have z5:=hf.size
 clear hz hf
 go_enter Tryz.func152,Tryz.ntmps152
 go_wp2_with fail
 refine rgh HSk cpc (fun hHeld=> ?_)
 refine tkk 0 7 ?_
 refine tkk 1 8 ?_
 refine tkk 3 10 ?_
 refine tkk 4 11 ?_
 refine tkk 5 12 ?_
 try go_frame
 refine rdy 2 (fun K hK=> ?_)
 go_simp
 refine(Calls.mono (first_any (HHt.out _ tch) op rd q1 q2 im hI HZ.out) ?_)
 rintro e w1 ⟨rfl,ht'⟩
 obtain⟨t1,p1⟩:=tpp HHt ht'
 clear ht'
 refine hK.out _ _ (HSk.out _ (t1.mono sP) p1) (fun hHeld=> ?_)
 clear hK K
 try go_frame
 refine tkk 6 13 ?_
 refine tkk 7 6 ?_
 try go_frame
 refine wpAnyH_done kR ?_ _
 go_wp2_with (first|(go_at_call 74;refine(Calls.mono (guard2_fa (HHt.out _ tch) (k:Int) 7 8 k0 k1 HF.out.size ha hl) ?_);rintro e w' ⟨rfl,hw'⟩;subst w'))
 exact XK0
theorem store2_ok(B b mb sb:Nat)(X:List Nat)(m:M)(nx:Int)(vX:Nat->Value)(w:World)(hc0:PCt B b mb sb X m nx vX w)(op rd q1 q2 im:Int)(hI:IB rd q1 q2 im)(hz:0<m.size)(hf:Fine m)(k:Nat)(hk:((m.regs q1.toNat+im)%4294967296)=k)(ha:(k:Int)%2=0)(hl:lies m k 2=true):
  Calls Tryz.prog 152 #[.pointer (some ⟨b,0,none⟩),.agg #[.int .i64 op,.int .i64 rd,.int .i64 q1,.int .i64 q2,.int .i32 im],.int .u32 2] w fun e w'=>e=.returned (.tuple #[])/\PCt B b mb sb X (wrote {m with mem:=st m.mem k 2 (m.regs q2.toNat) } k 2) nx vX w'/\ref.Touch [b,mb,sb] w w':=by
 have⟨rd0,rd1,q10,q11,q20,q21,i0,i1⟩:=hI
 have h:=hc0.p
 have HC:Hid (∀w',ref.Touch [] (bx w op rd q1 q2 im) w'->PCt B b mb sb X m nx vX w'):=fun w' t=>hc0.quiet hz (((ref.Touch.refl _ _).alloc _).trans t)
 clear hc0
 obtain⟨lb,HH,HHt,HZ,HF,HSk,cpc,ra0,ra1,rb0,rb1,pc0,pc1,wi⟩:=pre_any h op rd q1 q2 im hz hf
 obtain⟨lmb,HSk2⟩:=pre2_any h op rd q1 q2 im hz
 clear h
 have wa:IntKind.u32.wrap (m.regs q1.toNat+im%4294967296)=(k:Int):=by rw[IntKind.wrap_u32,<-hk];omega
 have k1:(k:Int)<=4294967295:=by omega
 have k0:(0:Int)<=(k:Int):=by omega
 have z5:=hf.size
 have hk4:k+2<=m.size:=by simp[lies]at hl;omega
 clear hz hf
 go_enter Tryz.func152,Tryz.ntmps152
 go_wp2_with fail
 refine rgh HSk cpc (fun hHeld=> ?_)
 refine tkk 0 7 ?_
 refine tkk 1 8 ?_
 refine tkk 3 10 ?_
 refine tkk 4 11 ?_
 refine tkk 5 12 ?_
 try go_frame
 refine rdy 2 (fun K hK=> ?_)
 go_simp
 refine(Calls.mono (first_any (HHt.out _ tch) op rd q1 q2 im hI HZ.out) ?_)
 rintro e w1 ⟨rfl,ht'⟩
 obtain⟨t1,p1⟩:=tpp HHt ht'
 clear ht'
 refine hK.out _ _ (HSk.out _ (t1.mono sP) p1) (fun hHeld=> ?_)
 clear hK K
 try go_frame
 refine tkk 6 13 ?_
 refine tkk 7 6 ?_
 try go_frame
 refine wpAnyH_done kR ?_ _
 have c5:w1.cell? ⟨w.heap.size,3,none⟩=some (.int .i64 q2):=hHeld.2.2.2.1
 have hb1:=hHeld
 obtain⟨x0,x1,x2,x3,x4,x5⟩:=hb1
 go_wp2_with (first|(go_at_call 74;refine(Calls.mono (guard2_ok (HHt.out _ tch) (k:Int) 7 8 k0 k1 HF.out.size ha hl) ?_);rintro e w' ⟨rfl,hw'⟩;subst w')|(go_at_call 148;refine(Calls.mono (second_any (HHt.out _ tch) op rd q1 q2 im hI HZ.out) ?_);rintro e w2 ⟨rfl,ht'⟩;have t2:ref.Touch [] (bx w op rd q1 q2 im) w2:=ref.Touch.trans tch ht';clear ht')|(go_at_call 170;refine(Calls.mono (write_2 (HC.out _ tch) k (m.regs q2.toNat) rb0 rb1 hk4 HF.out.size) ?_);rintro e w8 ⟨rfl,hat,ht8⟩;have HA:Hid (PCt B b mb sb X (wrote {m with mem:=st m.mem k 2 (m.regs q2.toNat) } k 2) nx vX w8):=hat;have HT:Hid (ref.Touch [b,mb,sb] (bx w op rd q1 q2 im) w8):=ref.Touch.trans (ref.Touch.mono (S:=[]) tch sP) ht8;clear hat ht8))
 exact XK1
theorem load4_al{B b mb:Nat}{m:M}{nx:Int}{vX:Nat->Value}{w:World}(h:PAt B b mb m nx vX w)(op rd q1 q2 im:Int)(hI:IB rd q1 q2 im)(hz:0<m.size)(hf:Fine m)(k:Nat)(hk:((m.regs q1.toNat+im)%4294967296)=k)(ha:¬(k:Int)%4=0):
  Calls Tryz.prog 151 #[.pointer (some ⟨b,0,none⟩),.agg #[.int .i64 op,.int .i64 rd,.int .i64 q1,.int .i64 q2,.int .i32 im],.int .u32 4] w fun e w'=>e=.panicked (trapV 5)/\ref.Touch [] w w':=by
 have⟨rd0,rd1,q10,q11,q20,q21,i0,i1⟩:=hI
 obtain⟨lb,HH,HHt,HZ,HF,HSk,cpc,ra0,ra1,rb0,rb1,pc0,pc1,wi⟩:=pre_any h op rd q1 q2 im hz hf
 obtain⟨lmb,HSk2⟩:=pre2_any h op rd q1 q2 im hz
 clear h
 have wa:IntKind.u32.wrap (m.regs q1.toNat+im%4294967296)=(k:Int):=by rw[IntKind.wrap_u32,<-hk];omega
 have k1:(k:Int)<=4294967295:=by omega
 have k0:(0:Int)<=(k:Int):=by omega
 have z5:=hf.size
 clear hz hf
 go_enter Tryz.func151,Tryz.ntmps151
 go_wp2_with fail
 refine rgh HSk cpc (fun hHeld=> ?_)
 refine tkk 0 8 ?_
 refine tkk 1 9 ?_
 refine tkk 3 11 ?_
 refine tkk 4 12 ?_
 refine tkk 5 13 ?_
 try go_frame
 refine rdy 2 (fun K hK=> ?_)
 go_simp
 refine(Calls.mono (first_any (HHt.out _ tch) op rd q1 q2 im hI HZ.out) ?_)
 rintro e w1 ⟨rfl,ht'⟩
 obtain⟨t1,p1⟩:=tpp HHt ht'
 clear ht'
 refine hK.out _ _ (HSk.out _ (t1.mono sP) p1) (fun hHeld=> ?_)
 clear hK K
 try go_frame
 refine tkk 6 14 ?_
 refine tkk 7 7 ?_
 try go_frame
 refine wpAnyH_done kR ?_ _
 go_wp2_with (first|(go_at_call 74;refine(Calls.mono (guard4_al (HHt.out _ tch) (k:Int) 5 6 k0 k1 HF.out.size ha) ?_);rintro e w' ⟨rfl,hw'⟩;subst w'))
 exact XK0
theorem load4_fa{B b mb:Nat}{m:M}{nx:Int}{vX:Nat->Value}{w:World}(h:PAt B b mb m nx vX w)(op rd q1 q2 im:Int)(hI:IB rd q1 q2 im)(hz:0<m.size)(hf:Fine m)(k:Nat)(hk:((m.regs q1.toNat+im)%4294967296)=k)(ha:(k:Int)%4=0)(hl:lies m k 4=false):
  Calls Tryz.prog 151 #[.pointer (some ⟨b,0,none⟩),.agg #[.int .i64 op,.int .i64 rd,.int .i64 q1,.int .i64 q2,.int .i32 im],.int .u32 4] w fun e w'=>e=.panicked (trapV 6)/\ref.Touch [] w w':=by
 have⟨rd0,rd1,q10,q11,q20,q21,i0,i1⟩:=hI
 obtain⟨lb,HH,HHt,HZ,HF,HSk,cpc,ra0,ra1,rb0,rb1,pc0,pc1,wi⟩:=pre_any h op rd q1 q2 im hz hf
 obtain⟨lmb,HSk2⟩:=pre2_any h op rd q1 q2 im hz
 clear h
 have wa:IntKind.u32.wrap (m.regs q1.toNat+im%4294967296)=(k:Int):=by rw[IntKind.wrap_u32,<-hk];omega
 have k1:(k:Int)<=4294967295:=by omega
 have k0:(0:Int)<=(k:Int):=by omega
 have z5:=hf.size
 clear hz hf
 go_enter Tryz.func151,Tryz.ntmps151
 go_wp2_with fail
 refine rgh HSk cpc (fun hHeld=> ?_)
 refine tkk 0 8 ?_
 refine tkk 1 9 ?_
 refine tkk 3 11 ?_
 refine tkk 4 12 ?_
 refine tkk 5 13 ?_
 try go_frame
 refine rdy 2 (fun K hK=> ?_)
 go_simp
 refine(Calls.mono (first_any (HHt.out _ tch) op rd q1 q2 im hI HZ.out) ?_)
 rintro e w1 ⟨rfl,ht'⟩
 obtain⟨t1,p1⟩:=tpp HHt ht'
 clear ht'
 refine hK.out _ _ (HSk.out _ (t1.mono sP) p1) (fun hHeld=> ?_)
 clear hK K
 try go_frame
 refine tkk 6 14 ?_
 refine tkk 7 7 ?_
 try go_frame
 refine wpAnyH_done kR ?_ _
 go_wp2_with (first|(go_at_call 74;refine(Calls.mono (guard4_fa (HHt.out _ tch) (k:Int) 5 6 k0 k1 HF.out.size ha hl) ?_);rintro e w' ⟨rfl,hw'⟩;subst w'))
 exact XK0
theorem load4_ok{B b mb:Nat}{m:M}{nx:Int}{vX:Nat->Value}{w:World}(h:PAt B b mb m nx vX w)(op rd q1 q2 im:Int)(hI:IB rd q1 q2 im)(hz:0<m.size)(hf:Fine m)(k:Nat)(hk:((m.regs q1.toNat+im)%4294967296)=k)(ha:(k:Int)%4=0)(hl:lies m k 4=true):
  Calls Tryz.prog 151 #[.pointer (some ⟨b,0,none⟩),.agg #[.int .i64 op,.int .i64 rd,.int .i64 q1,.int .i64 q2,.int .i32 im],.int .u32 4] w fun e w'=>e=.returned (.int .u32 (ld m.mem k 4))/\ref.Touch [] w w':=by
 have⟨rd0,rd1,q10,q11,q20,q21,i0,i1⟩:=hI
 obtain⟨lb,HH,HHt,HZ,HF,HSk,cpc,ra0,ra1,rb0,rb1,pc0,pc1,wi⟩:=pre_any h op rd q1 q2 im hz hf
 obtain⟨lmb,HSk2⟩:=pre2_any h op rd q1 q2 im hz
 clear h
 have wa:IntKind.u32.wrap (m.regs q1.toNat+im%4294967296)=(k:Int):=by rw[IntKind.wrap_u32,<-hk];omega
 have k1:(k:Int)<=4294967295:=by omega
 have k0:(0:Int)<=(k:Int):=by omega
 have z5:=hf.size
 have hk4:k+4<=m.size:=by simp[lies]at hl;omega
 clear hz hf
 go_enter Tryz.func151,Tryz.ntmps151
 go_wp2_with fail
 refine rgh HSk cpc (fun hHeld=> ?_)
 refine tkk 0 8 ?_
 refine tkk 1 9 ?_
 refine tkk 3 11 ?_
 refine tkk 4 12 ?_
 refine tkk 5 13 ?_
 try go_frame
 refine rdy 2 (fun K hK=> ?_)
 go_simp
 refine(Calls.mono (first_any (HHt.out _ tch) op rd q1 q2 im hI HZ.out) ?_)
 rintro e w1 ⟨rfl,ht'⟩
 obtain⟨t1,p1⟩:=tpp HHt ht'
 clear ht'
 refine hK.out _ _ (HSk.out _ (t1.mono sP) p1) (fun hHeld=> ?_)
 clear hK K
 try go_frame
 refine tkk 6 14 ?_
 refine tkk 7 7 ?_
 try go_frame
 refine wpAnyH_done kR ?_ _
 go_wp2_with (first|(go_at_call 74;refine(Calls.mono (guard4_ok (HHt.out _ tch) (k:Int) 5 6 k0 k1 HF.out.size ha hl) ?_);rintro e w' ⟨rfl,hw'⟩;subst w')|(go_at_call 102;refine(Calls.mono (read_4 (HHt.out _ tch) k hk4 HF.out.size HF.out.mem) ?_);rintro e w8 ⟨rfl,ht8⟩;have HT:Hid (ref.Touch [] (bx w op rd q1 q2 im) w8):=ref.Touch.trans tch ht8;clear ht8))
 exact XK2
theorem store4_al{B b mb:Nat}{m:M}{nx:Int}{vX:Nat->Value}{w:World}(h:PAt B b mb m nx vX w)(op rd q1 q2 im:Int)(hI:IB rd q1 q2 im)(hz:0<m.size)(hf:Fine m)(k:Nat)(hk:((m.regs q1.toNat+im)%4294967296)=k)(ha:¬(k:Int)%4=0):
  Calls Tryz.prog 152 #[.pointer (some ⟨b,0,none⟩),.agg #[.int .i64 op,.int .i64 rd,.int .i64 q1,.int .i64 q2,.int .i32 im],.int .u32 4] w fun e w'=>e=.panicked (trapV 7)/\ref.Touch [] w w':=by
 have⟨rd0,rd1,q10,q11,q20,q21,i0,i1⟩:=hI
 obtain⟨lb,HH,HHt,HZ,HF,HSk,cpc,ra0,ra1,rb0,rb1,pc0,pc1,wi⟩:=pre_any h op rd q1 q2 im hz hf
 obtain⟨lmb,HSk2⟩:=pre2_any h op rd q1 q2 im hz
 clear h
 have wa:IntKind.u32.wrap (m.regs q1.toNat+im%4294967296)=(k:Int):=by rw[IntKind.wrap_u32,<-hk];omega
 have k1:(k:Int)<=4294967295:=by omega
 have k0:(0:Int)<=(k:Int):=by omega
 have z5:=hf.size
 clear hz hf
 go_enter Tryz.func152,Tryz.ntmps152
 go_wp2_with fail
 refine rgh HSk cpc (fun hHeld=> ?_)
 refine tkk 0 7 ?_
 refine tkk 1 8 ?_
 refine tkk 3 10 ?_
 refine tkk 4 11 ?_
 refine tkk 5 12 ?_
 try go_frame
 refine rdy 2 (fun K hK=> ?_)
 go_simp
 refine(Calls.mono (first_any (HHt.out _ tch) op rd q1 q2 im hI HZ.out) ?_)
 rintro e w1 ⟨rfl,ht'⟩
 obtain⟨t1,p1⟩:=tpp HHt ht'
 clear ht'
 refine hK.out _ _ (HSk.out _ (t1.mono sP) p1) (fun hHeld=> ?_)
 clear hK K
 try go_frame
 refine tkk 6 13 ?_
 refine tkk 7 6 ?_
 try go_frame
 refine wpAnyH_done kR ?_ _
 go_wp2_with (first|(go_at_call 74;refine(Calls.mono (guard4_al (HHt.out _ tch) (k:Int) 7 8 k0 k1 HF.out.size ha) ?_);rintro e w' ⟨rfl,hw'⟩;subst w'))
 exact XK0
theorem store4_fa{B b mb:Nat}{m:M}{nx:Int}{vX:Nat->Value}{w:World}(h:PAt B b mb m nx vX w)(op rd q1 q2 im:Int)(hI:IB rd q1 q2 im)(hz:0<m.size)(hf:Fine m)(k:Nat)(hk:((m.regs q1.toNat+im)%4294967296)=k)(ha:(k:Int)%4=0)(hl:lies m k 4=false):
  Calls Tryz.prog 152 #[.pointer (some ⟨b,0,none⟩),.agg #[.int .i64 op,.int .i64 rd,.int .i64 q1,.int .i64 q2,.int .i32 im],.int .u32 4] w fun e w'=>e=.panicked (trapV 8)/\ref.Touch [] w w':=by
 have⟨rd0,rd1,q10,q11,q20,q21,i0,i1⟩:=hI
 obtain⟨lb,HH,HHt,HZ,HF,HSk,cpc,ra0,ra1,rb0,rb1,pc0,pc1,wi⟩:=pre_any h op rd q1 q2 im hz hf
 obtain⟨lmb,HSk2⟩:=pre2_any h op rd q1 q2 im hz
 clear h
 have wa:IntKind.u32.wrap (m.regs q1.toNat+im%4294967296)=(k:Int):=by rw[IntKind.wrap_u32,<-hk];omega
 have k1:(k:Int)<=4294967295:=by omega
 have k0:(0:Int)<=(k:Int):=by omega
 have z5:=hf.size
 clear hz hf
 go_enter Tryz.func152,Tryz.ntmps152
 go_wp2_with fail
 refine rgh HSk cpc (fun hHeld=> ?_)
 refine tkk 0 7 ?_
 refine tkk 1 8 ?_
 refine tkk 3 10 ?_
 refine tkk 4 11 ?_
 refine tkk 5 12 ?_
 try go_frame
 refine rdy 2 (fun K hK=> ?_)
 go_simp
 refine(Calls.mono (first_any (HHt.out _ tch) op rd q1 q2 im hI HZ.out) ?_)
 rintro e w1 ⟨rfl,ht'⟩
 obtain⟨t1,p1⟩:=tpp HHt ht'
 clear ht'
 refine hK.out _ _ (HSk.out _ (t1.mono sP) p1) (fun hHeld=> ?_)
 clear hK K
 try go_frame
 refine tkk 6 13 ?_
 refine tkk 7 6 ?_
 try go_frame
 refine wpAnyH_done kR ?_ _
 go_wp2_with (first|(go_at_call 74;refine(Calls.mono (guard4_fa (HHt.out _ tch) (k:Int) 7 8 k0 k1 HF.out.size ha hl) ?_);rintro e w' ⟨rfl,hw'⟩;subst w'))
 exact XK0
theorem store4_ok(B b mb sb:Nat)(X:List Nat)(m:M)(nx:Int)(vX:Nat->Value)(w:World)(hc0:PCt B b mb sb X m nx vX w)(op rd q1 q2 im:Int)(hI:IB rd q1 q2 im)(hz:0<m.size)(hf:Fine m)(k:Nat)(hk:((m.regs q1.toNat+im)%4294967296)=k)(ha:(k:Int)%4=0)(hl:lies m k 4=true):
  Calls Tryz.prog 152 #[.pointer (some ⟨b,0,none⟩),.agg #[.int .i64 op,.int .i64 rd,.int .i64 q1,.int .i64 q2,.int .i32 im],.int .u32 4] w fun e w'=>e=.returned (.tuple #[])/\PCt B b mb sb X (wrote {m with mem:=st m.mem k 4 (m.regs q2.toNat) } k 4) nx vX w'/\ref.Touch [b,mb,sb] w w':=by
 have⟨rd0,rd1,q10,q11,q20,q21,i0,i1⟩:=hI
 have h:=hc0.p
 have HC:Hid (∀w',ref.Touch [] (bx w op rd q1 q2 im) w'->PCt B b mb sb X m nx vX w'):=fun w' t=>hc0.quiet hz (((ref.Touch.refl _ _).alloc _).trans t)
 clear hc0
 obtain⟨lb,HH,HHt,HZ,HF,HSk,cpc,ra0,ra1,rb0,rb1,pc0,pc1,wi⟩:=pre_any h op rd q1 q2 im hz hf
 obtain⟨lmb,HSk2⟩:=pre2_any h op rd q1 q2 im hz
 clear h
 have wa:IntKind.u32.wrap (m.regs q1.toNat+im%4294967296)=(k:Int):=by rw[IntKind.wrap_u32,<-hk];omega
 have k1:(k:Int)<=4294967295:=by omega
 have k0:(0:Int)<=(k:Int):=by omega
 have z5:=hf.size
 have hk4:k+4<=m.size:=by simp[lies]at hl;omega
 clear hz hf
 go_enter Tryz.func152,Tryz.ntmps152
 go_wp2_with fail
 refine rgh HSk cpc (fun hHeld=> ?_)
 refine tkk 0 7 ?_
 refine tkk 1 8 ?_
 refine tkk 3 10 ?_
 refine tkk 4 11 ?_
 refine tkk 5 12 ?_
 try go_frame
 refine rdy 2 (fun K hK=> ?_)
 go_simp
 refine(Calls.mono (first_any (HHt.out _ tch) op rd q1 q2 im hI HZ.out) ?_)
 rintro e w1 ⟨rfl,ht'⟩
 obtain⟨t1,p1⟩:=tpp HHt ht'
 clear ht'
 refine hK.out _ _ (HSk.out _ (t1.mono sP) p1) (fun hHeld=> ?_)
 clear hK K
 try go_frame
 refine tkk 6 13 ?_
 refine tkk 7 6 ?_
 try go_frame
 refine wpAnyH_done kR ?_ _
 have c5:w1.cell? ⟨w.heap.size,3,none⟩=some (.int .i64 q2):=hHeld.2.2.2.1
 have hb1:=hHeld
 obtain⟨x0,x1,x2,x3,x4,x5⟩:=hb1
 go_wp2_with (first|(go_at_call 74;refine(Calls.mono (guard4_ok (HHt.out _ tch) (k:Int) 7 8 k0 k1 HF.out.size ha hl) ?_);rintro e w' ⟨rfl,hw'⟩;subst w')|(go_at_call 148;refine(Calls.mono (second_any (HHt.out _ tch) op rd q1 q2 im hI HZ.out) ?_);rintro e w2 ⟨rfl,ht'⟩;have t2:ref.Touch [] (bx w op rd q1 q2 im) w2:=ref.Touch.trans tch ht';clear ht')|(go_at_call 170;refine(Calls.mono (write_4 (HC.out _ tch) k (m.regs q2.toNat) rb0 rb1 hk4 HF.out.size) ?_);rintro e w8 ⟨rfl,hat,ht8⟩;have HA:Hid (PCt B b mb sb X (wrote {m with mem:=st m.mem k 4 (m.regs q2.toNat) } k 4) nx vX w8):=hat;have HT:Hid (ref.Touch [b,mb,sb] (bx w op rd q1 q2 im) w8):=ref.Touch.trans (ref.Touch.mono (S:=[]) tch sP) ht8;clear hat ht8))
 exact XK1
end prog
end Go.Proofs.YtjikimpejlmdiaaGreatDoor

import Derived.WalkSmall
import Derived.Test.YtjikimpejlmdiaaGreatDoorRows
import Derived.WalkKit
import Derived.ProofKit
import Derived.OpenShut
import Derived.BigQuiet
import Derived.Laws.BitsAllLaws
import Derived.Test.YtjikimpejlmdiaaGreatDoorZGa
import Derived.Deep.RegionWith
import Derived.Deep.RegionHeld3
import Derived.Deep.DrawnRows
set_option maxHeartbeats 4000000
set_option linter.unusedVariables false
set_option linter.unusedSimpArgs false
set_option maxRecDepth 10000
namespace Go.Proofs.YtjikimpejlmdiaaGreatDoor
theorem X30{p:Prop}(h:p:=by
 go_enter Tryz.func64,Tryz.ntmps64
 go_wp2_with (first|(go_at_call 87;refine(l_opcode x h0 h1 _).mono ?_;rintro e w' ⟨rfl,rfl⟩)|(go_at_call 88;refine(l_rd x h0 h1 _).mono ?_;rintro e w' ⟨rfl,rfl⟩)|(go_at_call 92;refine(l_rs1 x h0 h1 _).mono ?_;rintro e w' ⟨rfl,rfl⟩)|(go_at_call 95;refine(l_rs2 x h0 h1 _).mono ?_;rintro e w' ⟨rfl,rfl⟩)|(go_at_call 94;refine(l_funct3 x h0 h1 _).mono ?_;rintro e w' ⟨rfl,rfl⟩)|(go_at_call 89;refine(l_immediateU x h0 h1 _).mono ?_;rintro e w' ⟨rfl,rfl⟩)|(go_at_call 93;refine(l_immediateI x h0 h1 _).mono ?_;rintro e w' ⟨rfl,rfl⟩)|(go_at_call 90;refine(l_immediateJ x h0 h1 _).mono ?_;rintro e w' ⟨rfl,rfl⟩)|(go_at_call 96;refine(l_immediateB x h0 h1 _).mono ?_;rintro e w' ⟨rfl,rfl⟩)|(go_at_call 97;refine(l_immediateS x h0 h1 _).mono ?_;rintro e w' ⟨rfl,rfl⟩))
 all_goals
  refine bodyPost_ret (v:=raw x) ?_ rfl ⟨rfl, ?_⟩
  ·rw[HD.out];simp[results,Tryz.results64,go_sem]
  ·exact bW):p:=h
theorem X31{p:Prop}(h:p:=by
 go_wp2_with (first|(go_at_call 94;refine(l_funct3 x h0 h1 _).mono ?_;rintro e w' ⟨rfl,rfl⟩)|(go_at_call 116;refine(l_funct7 x h0 h1 _).mono ?_;rintro e w' ⟨rfl,rfl⟩))
 go_ret
 exact⟨rfl,rfl⟩):p:=h
theorem X32{p:Prop}(h:p:=by
 refine bodyPost_ret (v:=raw x) ?_ rfl ⟨rfl, ?_⟩
 ·rw[HD.out];simp[results,Tryz.results64,go_sem]
 ·exact bW):p:=h
theorem X33{p:Prop}(h:p:=by
 go_enter Tryz.func59,Tryz.ntmps59
 go_wp2
 go_quiet (fail)
 go_wp2
 go_ret
 exact⟨ret_int HF.out,nq,rfl⟩):p:=h
theorem X34{p:Prop}(h:p:=by
 go_ret
 exact⟨rfl,rfl⟩):p:=h
theorem X35{p:Prop}(h:p:=by
 go_enter Tryz.func60,Tryz.ntmps60
 go_wp2
 go_ret
 exact⟨ret_int (by rw[HS.out,or_comm32 v _ h0 oM dC dC,HO.out];unfold wrap32;omega),rfl⟩):p:=h
theorem X36{p:Prop}(h:p:=by
 go_enter Tryz.func60,Tryz.ntmps60
 go_wp2
 go_ret
 exact⟨ret_int (by rw[HS.out]),rfl⟩):p:=h
theorem X37{p:Prop}(h:p:=by
 go_wp2
 go_ret
 exact⟨ret_int HQ.out,rfl⟩):p:=h
theorem X38{p:Prop}(h:p:=by
 go_enter Tryz.func61,Tryz.ntmps61
 go_wp2
 exact bodyPost_ret (v:=no) (by simp[results,Tryz.results61,go_sem,no]) rfl ⟨rfl,rfl⟩):p:=h
theorem X39{p:Prop}(h:p:=by rcases f3_all x with e|e|e|e|e|e|e|e<;>rw[e]at h ⊢<;>revert h<;>simp[T3320]):p:=h
theorem X3a{p:Prop}(h:p:=by rcases f3_all x with e|e|e|e|e|e|e|e<;>rw[e]at h ⊢<;>revert h<;>simp[T63]):p:=h
theorem X3b{p:Prop}(h:p:=by rcases f3_all x with e|e|e|e|e|e|e|e<;>rw[e]at h ⊢<;>revert h<;>simp[T03]):p:=h
theorem X3c{p:Prop}(h:p:=by rcases f3_all x with e|e|e|e|e|e|e|e<;>rw[e]at h ⊢<;>revert h<;>simp[T23]):p:=h
theorem X3d{p:Prop}(h:p:=by rcases f3_all x with e|e|e|e|e|e|e|e<;>rw[e]at h ⊢<;>revert h<;>simp[T13]):p:=h
theorem X3e{p:Prop}(h:p:=by rcases f3_all x with e|e|e|e|e|e|e|e<;>rw[e]at h ⊢<;>revert h<;>simp[T0F]):p:=h
theorem X3f{p:Prop}(h:p:=by rcases f3_all x with e|e|e|e|e|e|e|e<;>rw[e]at h ⊢<;>revert h<;>simp[T67]):p:=h
theorem X3g{p:Prop}(h:p:=by
 rw[and_mask _ 5 31 oM oM dC dC]
 simp[fb]):p:=h
theorem X3h{p:Prop}(h:p:=by
 rw[and_mask _ 1 1 oM oM dC dC]
 simp[fb]):p:=h
theorem X3i{p:Prop}(h:p:=by
 have c3:=(f3_bd x).1
 have c4:=(f3_bd x).2
 go_enter Tryz.func99,Tryz.ntmps99
 exact X31):p:=h
theorem X3j{p:Prop}(h:p:=by
 go_enter Tryz.func115,Tryz.ntmps115
 exact X31):p:=h
theorem X3k{p:Prop}(h:p:=by
 go_wp2
 exact X34):p:=h
theorem X3l{p:Prop}(h:p:=by simp[qRd,hasRd,hop]):p:=h
theorem X3m{p:Prop}(h:p:=by simp[qR1,hasR1,hop]):p:=h
theorem X3n{p:Prop}(h:p:=by simp[qR2,hasR2,hop]):p:=h
theorem X3o{p:Prop}(h:p:=by simp[opn,hop]):p:=h
theorem X3p{p:Prop}(h:p:=by simp[imm,hop]):p:=h
namespace decodes
open ChangeShapes WideShapes ChangeAt RowKit dnums
theorem bW{p:Prop}(h:p:=by(repeat' (first|with_reducible exact Below.refl _ _|with_reducible apply below_drewN|with_reducible apply Below.drew|with_reducible apply Below.alloc|with_reducible apply Below.setCell))<;>(first|(simp;done)|(simp;omega))):p:=h
def fb (x fr to:Int):Int:=x/2^to.toNat%2^(fr-to+1).toNat
theorem ret_int{k:IntKind}{a b:Int}(h:a=b):Ending.returned (.int k a)=.returned (.int k b):=by rw[h]
theorem fb_11_7(x:Int)(h0:0<=x)(h1:x<=4294967295):bits BinOp.and IntKind.u32 (x/128) 31=fb x 11 7:=by
 exact X3g
theorem rb_11_7(x:Int)(h0:0<=x)(h1:x<=4294967295)(w:World):
  Calls Tryz.prog 59 #[.int .u32 x,.int .i64 11,.int .i64 7] w fun e w'=>e=.returned (.int .u32 (fb x 11 7))/\∃n,w'=w.drewN n:=by
 have HF:Hid (_=fb x 11 7):=fb_11_7 x h0 h1
 exact X33
theorem fb_14_12(x:Int)(h0:0<=x)(h1:x<=4294967295):bits BinOp.and IntKind.u32 (x/4096) 7=fb x 14 12:=by
 rw[and_mask _ 3 7 oM oM dC dC]
 simp[fb]
theorem rb_14_12(x:Int)(h0:0<=x)(h1:x<=4294967295)(w:World):
  Calls Tryz.prog 59 #[.int .u32 x,.int .i64 14,.int .i64 12] w fun e w'=>e=.returned (.int .u32 (fb x 14 12))/\∃n,w'=w.drewN n:=by
 have HF:Hid (_=fb x 14 12):=fb_14_12 x h0 h1
 exact X33
theorem fb_19_15(x:Int)(h0:0<=x)(h1:x<=4294967295):bits BinOp.and IntKind.u32 (x/32768) 31=fb x 19 15:=by
 exact X3g
theorem rb_19_15(x:Int)(h0:0<=x)(h1:x<=4294967295)(w:World):
  Calls Tryz.prog 59 #[.int .u32 x,.int .i64 19,.int .i64 15] w fun e w'=>e=.returned (.int .u32 (fb x 19 15))/\∃n,w'=w.drewN n:=by
 have HF:Hid (_=fb x 19 15):=fb_19_15 x h0 h1
 exact X33
theorem fb_24_20(x:Int)(h0:0<=x)(h1:x<=4294967295):bits BinOp.and IntKind.u32 (x/1048576) 31=fb x 24 20:=by
 exact X3g
theorem rb_24_20(x:Int)(h0:0<=x)(h1:x<=4294967295)(w:World):
  Calls Tryz.prog 59 #[.int .u32 x,.int .i64 24,.int .i64 20] w fun e w'=>e=.returned (.int .u32 (fb x 24 20))/\∃n,w'=w.drewN n:=by
 have HF:Hid (_=fb x 24 20):=fb_24_20 x h0 h1
 exact X33
theorem fb_31_25(x:Int)(h0:0<=x)(h1:x<=4294967295):bits BinOp.and IntKind.u32 (x/33554432) 127=fb x 31 25:=by
 rw[and_mask _ 7 127 oM oM dC dC]
 simp[fb]
theorem rb_31_25(x:Int)(h0:0<=x)(h1:x<=4294967295)(w:World):
  Calls Tryz.prog 59 #[.int .u32 x,.int .i64 31,.int .i64 25] w fun e w'=>e=.returned (.int .u32 (fb x 31 25))/\∃n,w'=w.drewN n:=by
 have HF:Hid (_=fb x 31 25):=fb_31_25 x h0 h1
 exact X33
theorem fb_31_20(x:Int)(h0:0<=x)(h1:x<=4294967295):bits BinOp.and IntKind.u32 (x/1048576) 4095=fb x 31 20:=by
 rw[and_mask _ 12 4095 oM oM dC dC]
 simp[fb]
theorem rb_31_20(x:Int)(h0:0<=x)(h1:x<=4294967295)(w:World):
  Calls Tryz.prog 59 #[.int .u32 x,.int .i64 31,.int .i64 20] w fun e w'=>e=.returned (.int .u32 (fb x 31 20))/\∃n,w'=w.drewN n:=by
 have HF:Hid (_=fb x 31 20):=fb_31_20 x h0 h1
 exact X33
theorem fb_6_0(x:Int)(h0:0<=x)(h1:x<=4294967295):bits BinOp.and IntKind.u32 x 127=fb x 6 0:=by
 rw[and_mask _ 7 127 oM oM dC dC]
 simp[fb]
theorem rb_6_0(x:Int)(h0:0<=x)(h1:x<=4294967295)(w:World):
  Calls Tryz.prog 59 #[.int .u32 x,.int .i64 6,.int .i64 0] w fun e w'=>e=.returned (.int .u32 (fb x 6 0))/\∃n,w'=w.drewN n:=by
 have HF:Hid (_=fb x 6 0):=fb_6_0 x h0 h1
 exact X33
theorem fb_31_31(x:Int)(h0:0<=x)(h1:x<=4294967295):bits BinOp.and IntKind.u32 (x/2147483648) 1=fb x 31 31:=by
 exact X3h
theorem rb_31_31(x:Int)(h0:0<=x)(h1:x<=4294967295)(w:World):
  Calls Tryz.prog 59 #[.int .u32 x,.int .i64 31,.int .i64 31] w fun e w'=>e=.returned (.int .u32 (fb x 31 31))/\∃n,w'=w.drewN n:=by
 have HF:Hid (_=fb x 31 31):=fb_31_31 x h0 h1
 exact X33
theorem fb_19_12(x:Int)(h0:0<=x)(h1:x<=4294967295):bits BinOp.and IntKind.u32 (x/4096) 255=fb x 19 12:=by
 rw[and_mask _ 8 255 oM oM dC dC]
 simp[fb]
theorem rb_19_12(x:Int)(h0:0<=x)(h1:x<=4294967295)(w:World):
  Calls Tryz.prog 59 #[.int .u32 x,.int .i64 19,.int .i64 12] w fun e w'=>e=.returned (.int .u32 (fb x 19 12))/\∃n,w'=w.drewN n:=by
 have HF:Hid (_=fb x 19 12):=fb_19_12 x h0 h1
 exact X33
theorem fb_20_20(x:Int)(h0:0<=x)(h1:x<=4294967295):bits BinOp.and IntKind.u32 (x/1048576) 1=fb x 20 20:=by
 exact X3h
theorem rb_20_20(x:Int)(h0:0<=x)(h1:x<=4294967295)(w:World):
  Calls Tryz.prog 59 #[.int .u32 x,.int .i64 20,.int .i64 20] w fun e w'=>e=.returned (.int .u32 (fb x 20 20))/\∃n,w'=w.drewN n:=by
 have HF:Hid (_=fb x 20 20):=fb_20_20 x h0 h1
 exact X33
theorem fb_30_21(x:Int)(h0:0<=x)(h1:x<=4294967295):bits BinOp.and IntKind.u32 (x/2097152) 1023=fb x 30 21:=by
 rw[and_mask _ 10 1023 oM oM dC dC]
 simp[fb]
theorem rb_30_21(x:Int)(h0:0<=x)(h1:x<=4294967295)(w:World):
  Calls Tryz.prog 59 #[.int .u32 x,.int .i64 30,.int .i64 21] w fun e w'=>e=.returned (.int .u32 (fb x 30 21))/\∃n,w'=w.drewN n:=by
 have HF:Hid (_=fb x 30 21):=fb_30_21 x h0 h1
 exact X33
theorem fb_7_7(x:Int)(h0:0<=x)(h1:x<=4294967295):bits BinOp.and IntKind.u32 (x/128) 1=fb x 7 7:=by
 exact X3h
theorem rb_7_7(x:Int)(h0:0<=x)(h1:x<=4294967295)(w:World):
  Calls Tryz.prog 59 #[.int .u32 x,.int .i64 7,.int .i64 7] w fun e w'=>e=.returned (.int .u32 (fb x 7 7))/\∃n,w'=w.drewN n:=by
 have HF:Hid (_=fb x 7 7):=fb_7_7 x h0 h1
 exact X33
theorem fb_30_25(x:Int)(h0:0<=x)(h1:x<=4294967295):bits BinOp.and IntKind.u32 (x/33554432) 63=fb x 30 25:=by
 rw[and_mask _ 6 63 oM oM dC dC]
 simp[fb]
theorem rb_30_25(x:Int)(h0:0<=x)(h1:x<=4294967295)(w:World):
  Calls Tryz.prog 59 #[.int .u32 x,.int .i64 30,.int .i64 25] w fun e w'=>e=.returned (.int .u32 (fb x 30 25))/\∃n,w'=w.drewN n:=by
 have HF:Hid (_=fb x 30 25):=fb_30_25 x h0 h1
 exact X33
theorem fb_11_8(x:Int)(h0:0<=x)(h1:x<=4294967295):bits BinOp.and IntKind.u32 (x/256) 15=fb x 11 8:=by
 rw[and_mask _ 4 15 oM oM dC dC]
 simp[fb]
theorem rb_11_8(x:Int)(h0:0<=x)(h1:x<=4294967295)(w:World):
  Calls Tryz.prog 59 #[.int .u32 x,.int .i64 11,.int .i64 8] w fun e w'=>e=.returned (.int .u32 (fb x 11 8))/\∃n,w'=w.drewN n:=by
 have HF:Hid (_=fb x 11 8):=fb_11_8 x h0 h1
 exact X33
def pairOk (fr to:Int):Bool:=(fr==11&&to==7)||(fr==14&&to==12)||(fr==19&&to==15)||(fr==24&&to==20)||(fr==31&&to==25)||(fr==31&&to==20)||(fr==6&&to==0)||(fr==31&&to==31)||(fr==19&&to==12)||(fr==20&&to==20)||(fr==30&&to==21)||(fr==7&&to==7)||(fr==30&&to==25)||(fr==11&&to==8)
theorem rb_any(x fr to:Int)(h0:0<=x)(h1:x<=4294967295)(h:pairOk fr to=true)(w:World):
  Calls Tryz.prog 59 #[.int .u32 x,.int .i64 fr,.int .i64 to] w fun e w'=>e=.returned (.int .u32 (fb x fr to))/\∃n,w'=w.drewN n:=by
 have h':(fr=11/\to=7)\/(fr=14/\to=12)\/(fr=19/\to=15)\/(fr=24/\to=20)\/(fr=31/\to=25)\/(fr=31/\to=20)\/(fr=6/\to=0)\/(fr=31/\to=31)\/(fr=19/\to=12)\/(fr=20/\to=20)\/(fr=30/\to=21)\/(fr=7/\to=7)\/(fr=30/\to=25)\/(fr=11/\to=8):=by
  simpa [pairOk,Bool.or_eq_true,Bool.and_eq_true,beq_iff_eq,or_assoc]using h
 rcases h' with⟨rfl,rfl⟩|⟨rfl,rfl⟩|⟨rfl,rfl⟩|⟨rfl,rfl⟩|⟨rfl,rfl⟩|⟨rfl,rfl⟩|⟨rfl,rfl⟩|⟨rfl,rfl⟩|⟨rfl,rfl⟩|⟨rfl,rfl⟩|⟨rfl,rfl⟩|⟨rfl,rfl⟩|⟨rfl,rfl⟩|⟨rfl,rfl⟩
 ·exact rb_11_7 x h0 h1 w
 ·exact rb_14_12 x h0 h1 w
 ·exact rb_19_15 x h0 h1 w
 ·exact rb_24_20 x h0 h1 w
 ·exact rb_31_25 x h0 h1 w
 ·exact rb_31_20 x h0 h1 w
 ·exact rb_6_0 x h0 h1 w
 ·exact rb_31_31 x h0 h1 w
 ·exact rb_19_12 x h0 h1 w
 ·exact rb_20_20 x h0 h1 w
 ·exact rb_30_21 x h0 h1 w
 ·exact rb_7_7 x h0 h1 w
 ·exact rb_30_25 x h0 h1 w
 ·exact rb_11_8 x h0 h1 w
def sgn (v n:Int):Int:=if 2^(n-1).toNat<=v then v-2^n.toNat else v
theorem sg_12(v:Int)(h0:0<=v)(h1:v<4096)(w:World):
  Calls Tryz.prog 60 #[.int .u32 v,.int .i64 12] w fun e w'=>e=.returned (.int .i32 (sgn v 12))/\w'=w:=by
 have hb:bits BinOp.and IntKind.u32 (v/2048) 1=v/2048%2:=and_mask _ 1 1 oM oM dC dC
 by_cases hv:2048<=v
 ·have HS:Hid (sgn v 12=v-4096):=if_pos hv
  have HO:Hid (bits BinOp.or IntKind.u32 4294963200 v=4294963200+v):=or_add 4294963200 v 12 dC dC h0 h1 dC dC
  have hq:v/2048%2=1:=by omega
  have hr:bits BinOp.and IntKind.u32 (v/2048) 1=1:=hb.trans hq
  clear hb hq
  exact X35
 ·have HS:Hid (sgn v 12=v):=if_neg hv
  have hq:v/2048%2=0:=by omega
  have hr:bits BinOp.and IntKind.u32 (v/2048) 1=0:=hb.trans hq
  clear hb hq
  exact X36
theorem sg_13(v:Int)(h0:0<=v)(h1:v<8192)(w:World):
  Calls Tryz.prog 60 #[.int .u32 v,.int .i64 13] w fun e w'=>e=.returned (.int .i32 (sgn v 13))/\w'=w:=by
 have hb:bits BinOp.and IntKind.u32 (v/4096) 1=v/4096%2:=and_mask _ 1 1 oM oM dC dC
 by_cases hv:4096<=v
 ·have HS:Hid (sgn v 13=v-8192):=if_pos hv
  have HO:Hid (bits BinOp.or IntKind.u32 4294959104 v=4294959104+v):=or_add 4294959104 v 13 dC dC h0 h1 dC dC
  have hq:v/4096%2=1:=by omega
  have hr:bits BinOp.and IntKind.u32 (v/4096) 1=1:=hb.trans hq
  clear hb hq
  exact X35
 ·have HS:Hid (sgn v 13=v):=if_neg hv
  have hq:v/4096%2=0:=by omega
  have hr:bits BinOp.and IntKind.u32 (v/4096) 1=0:=hb.trans hq
  clear hb hq
  exact X36
theorem sg_21(v:Int)(h0:0<=v)(h1:v<2097152)(w:World):
  Calls Tryz.prog 60 #[.int .u32 v,.int .i64 21] w fun e w'=>e=.returned (.int .i32 (sgn v 21))/\w'=w:=by
 have hb:bits BinOp.and IntKind.u32 (v/1048576) 1=v/1048576%2:=and_mask _ 1 1 oM oM dC dC
 by_cases hv:1048576<=v
 ·have HS:Hid (sgn v 21=v-2097152):=if_pos hv
  have HO:Hid (bits BinOp.or IntKind.u32 4292870144 v=4292870144+v):=or_add 4292870144 v 21 dC dC h0 h1 dC dC
  have hq:v/1048576%2=1:=by omega
  have hr:bits BinOp.and IntKind.u32 (v/1048576) 1=1:=hb.trans hq
  clear hb hq
  exact X35
 ·have HS:Hid (sgn v 21=v):=if_neg hv
  have hq:v/1048576%2=0:=by omega
  have hr:bits BinOp.and IntKind.u32 (v/1048576) 1=0:=hb.trans hq
  clear hb hq
  exact X36
theorem sg_any(v n:Int)(hn:n=12\/n=13\/n=21)(h0:0<=v)(h1:v<2^n.toNat)(w:World):
  Calls Tryz.prog 60 #[.int .u32 v,.int .i64 n] w fun e w'=>e=.returned (.int .i32 (sgn v n))/\w'=w:=by
 rcases hn with rfl|rfl|rfl
 ·exact sg_12 v h0 (by simpa using h1) w
 ·exact sg_13 v h0 (by simpa using h1) w
 ·exact sg_21 v h0 (by simpa using h1) w
theorem one_hit(b len cap:Nat)(k v o d a c i:Int)(hk0:0<=k)(hlt:k<len)(hk7:k<=7)(hv:¬v=99)(w:World)(hb:b<w.heap.size)
  (hc:w.cell? ⟨b,k.toNat,none⟩=some (.int .i64 v)):
  Calls Tryz.prog 61 #[.slice (some ⟨b,0,none⟩) len cap,.int .u32 k,.agg #[.int .i64 o,.int .i64 d,.int .i64 a,.int .i64 c,.int .i32 i]] w fun e w'=>e=.returned (ins v d a c i)/\w'=(w.alloc (.cells #[.int .i64 v,.int .i64 d,.int .i64 a,.int .i64 c,.int .i32 i] 61)).alloc (.cells #[.int .i64 v,.int .i64 d,.int .i64 a,.int .i64 c,.int .i32 i] 61):=by
 have hv2:(v==99)=false:=by simpa using hv
 have hl2:decide ((len:Int)<=k)=false:=by simpa using hlt
 go_enter Tryz.func61,Tryz.ntmps61
 go_wp2
 exact bodyPost_ret (v:=ins v d a c i) (by simp[results,Tryz.results61,go_sem,ins]) rfl ⟨rfl,rfl⟩
theorem one_99(b len cap:Nat)(k o d a c i:Int)(hk0:0<=k)(hlt:k<len)(hk7:k<=7)(w:World)(hb:b<w.heap.size)
  (hc:w.cell? ⟨b,k.toNat,none⟩=some (.int .i64 99)):
  Calls Tryz.prog 61 #[.slice (some ⟨b,0,none⟩) len cap,.int .u32 k,.agg #[.int .i64 o,.int .i64 d,.int .i64 a,.int .i64 c,.int .i32 i]] w fun e w'=>e=.returned no/\w'=(w.alloc (.cells #[.int .i64 o,.int .i64 d,.int .i64 a,.int .i64 c,.int .i32 i] 61)).alloc (.cells #[.int .i64 0,.int .i64 0,.int .i64 0,.int .i64 0,.int .i32 0] 61):=by
 have hl2:decide ((len:Int)<=k)=false:=by simpa using hlt
 exact X38
theorem one_far(b len cap:Nat)(k o d a c i:Int)(hk0:0<=k)(hlt:(len:Int)<=k)(hk7:k<=7)(w:World)(hb:b<w.heap.size):
  Calls Tryz.prog 61 #[.slice (some ⟨b,0,none⟩) len cap,.int .u32 k,.agg #[.int .i64 o,.int .i64 d,.int .i64 a,.int .i64 c,.int .i32 i]] w fun e w'=>e=.returned no/\w'=(w.alloc (.cells #[.int .i64 o,.int .i64 d,.int .i64 a,.int .i64 c,.int .i32 i] 61)).alloc (.cells #[.int .i64 0,.int .i64 0,.int .i64 0,.int .i64 0,.int .i32 0] 61):=by
 have hl2:decide ((len:Int)<=k)=true:=by simpa using hlt
 exact X38
theorem one_no(b len cap:Nat)(k o d a c i:Int)(hk0:0<=k)(hk7:k<=7)(w:World)(hb:b<w.heap.size)
  (hc:(len:Int)<=k\/(k<len/\w.cell? ⟨b,k.toNat,none⟩=some (.int .i64 99))):
  Calls Tryz.prog 61 #[.slice (some ⟨b,0,none⟩) len cap,.int .u32 k,.agg #[.int .i64 o,.int .i64 d,.int .i64 a,.int .i64 c,.int .i32 i]] w fun e w'=>e=.returned no/\w'=(w.alloc (.cells #[.int .i64 o,.int .i64 d,.int .i64 a,.int .i64 c,.int .i32 i] 61)).alloc (.cells #[.int .i64 0,.int .i64 0,.int .i64 0,.int .i64 0,.int .i32 0] 61):=by
 rcases hc with hc|⟨h1,h2⟩
 ·exact one_far b len cap k o d a c i hk0 hc hk7 w hb
 ·exact one_99 b len cap k o d a c i hk0 h1 hk7 w hb h2
theorem fe_11_7(x:Int)(h0:0<=x)(h1:x<=4294967295):fb x 11 7=rdf x:=by simp[fb,rdf]
theorem fe_14_12(x:Int)(h0:0<=x)(h1:x<=4294967295):fb x 14 12=f3 x:=by simp[fb,f3]
theorem fe_19_15(x:Int)(h0:0<=x)(h1:x<=4294967295):fb x 19 15=r1 x:=by simp[fb,r1]
theorem fe_24_20(x:Int)(h0:0<=x)(h1:x<=4294967295):fb x 24 20=r2 x:=by simp[fb,r2]
theorem fe_31_25(x:Int)(h0:0<=x)(h1:x<=4294967295):fb x 31 25=f7 x:=by simp[fb,f7];omega
theorem fe_6_0(x:Int)(h0:0<=x)(h1:x<=4294967295):fb x 6 0=opc x:=by simp[fb,opc]
def i20 (x:Int):Int:=x/1048576
def vJ (x:Int):Int:=x/2147483648*1048576+x/4096%256*4096+x/1048576%2*2048+x/2097152%1024*2
def vB (x:Int):Int:=x/2147483648*4096+x/128%2*2048+x/33554432%64*32+x/256%16*2
def vS (x:Int):Int:=x/33554432*32+x/128%32
theorem fe_31_20(x:Int)(h0:0<=x)(h1:x<=4294967295):fb x 31 20=i20 x:=by simp[fb,i20];omega
theorem sI(x:Int)(h0:0<=x)(h1:x<=4294967295):sgn (i20 x) 12=immI x:=by
 simp[sgn,i20,immI,wrap32];by_cases h:2048<=x/1048576<;>simp only[h,if_true,if_false]<;>omega
theorem sJ(x:Int)(h0:0<=x)(h1:x<=4294967295):sgn (vJ x) 21=immJ x:=by
 simp[sgn,vJ,immJ,wrap32];by_cases h:1048576<=x/2147483648*1048576+x/4096%256*4096+x/1048576%2*2048+x/2097152%1024*2<;>simp only[h,if_true,if_false]<;>omega
theorem sB(x:Int)(h0:0<=x)(h1:x<=4294967295):sgn (vB x) 13=immB x:=by
 simp[sgn,vB,immB,wrap32];by_cases h:4096<=x/2147483648*4096+x/128%2*2048+x/33554432%64*32+x/256%16*2<;>simp only[h,if_true,if_false]<;>omega
theorem sS(x:Int)(h0:0<=x)(h1:x<=4294967295):sgn (vS x) 12=immS x:=by
 simp[sgn,vS,immS,wrap32];by_cases h:2048<=x/33554432*32+x/128%32<;>simp only[h,if_true,if_false]<;>omega
theorem i20_bd(x:Int)(h0:0<=x)(h1:x<=4294967295):0<=i20 x/\i20 x<2^(12:Int).toNat:=by simp[i20];omega
theorem vJ_bd(x:Int)(h0:0<=x)(h1:x<=4294967295):0<=vJ x/\vJ x<2^(21:Int).toNat:=by simp[vJ];omega
theorem vB_bd(x:Int)(h0:0<=x)(h1:x<=4294967295):0<=vB x/\vB x<2^(13:Int).toNat:=by simp[vB];omega
theorem vS_bd(x:Int)(h0:0<=x)(h1:x<=4294967295):0<=vS x/\vS x<2^(12:Int).toNat:=by simp[vS];omega
theorem or4J(p q r s:Int)(hp0:0<=p)(hp:p<=1)(hq0:0<=q)(hq:q<=255)(hr0:0<=r)(hr:r<=1)(hs0:0<=s)(hs:s<=1023):
  bits BinOp.or IntKind.u32 (bits BinOp.or IntKind.u32 (bits BinOp.or IntKind.u32 (p*1048576%4294967296) (q*4096%4294967296)) (r*2048%4294967296)) (s*2%4294967296)=p*1048576+q*4096+r*2048+s*2:=by
 rw[show p*1048576%4294967296=p*1048576 by omega,show q*4096%4294967296=q*4096 by omega,show r*2048%4294967296=r*2048 by omega,show s*2%4294967296=s*2 by omega]
 rw[or_add (p*1048576) (q*4096) 20 oM oM oM oM dC oM,or_add (p*1048576+q*4096) (r*2048) 12 oM oM oM oM dC oM,or_add _ _ 11 oM oM oM oM dC oM]
theorem or4B(p q r s:Int)(hp0:0<=p)(hp:p<=1)(hq0:0<=q)(hq:q<=1)(hr0:0<=r)(hr:r<=63)(hs0:0<=s)(hs:s<=15):
  bits BinOp.or IntKind.u32 (bits BinOp.or IntKind.u32 (bits BinOp.or IntKind.u32 (p*4096%4294967296) (q*2048%4294967296)) (r*32%4294967296)) (s*2%4294967296)=p*4096+q*2048+r*32+s*2:=by
 rw[show p*4096%4294967296=p*4096 by omega,show q*2048%4294967296=q*2048 by omega,show r*32%4294967296=r*32 by omega,show s*2%4294967296=s*2 by omega]
 rw[or_add (p*4096) (q*2048) 12 oM oM oM oM dC oM,or_add (p*4096+q*2048) (r*32) 11 oM oM oM oM dC oM,or_add _ _ 5 oM oM oM oM dC oM]
theorem oJ(x:Int)(h0:0<=x)(h1:x<=4294967295):bits BinOp.or IntKind.u32 (bits BinOp.or IntKind.u32 (bits BinOp.or IntKind.u32 (fb x 31 31*1048576%4294967296) (fb x 19 12*4096%4294967296)) (fb x 20 20*2048%4294967296)) (fb x 30 21*2%4294967296)=vJ x:=by
 simp only[fb,vJ,Int.reduceToNat,Int.reduceSub,Int.reduceAdd,Int.reducePow]
 rw[or4J _ _ _ _ oM oM oM oM oM oM oM oM]
 omega
theorem oB(x:Int)(h0:0<=x)(h1:x<=4294967295):bits BinOp.or IntKind.u32 (bits BinOp.or IntKind.u32 (bits BinOp.or IntKind.u32 (fb x 31 31*4096%4294967296) (fb x 7 7*2048%4294967296)) (fb x 30 25*32%4294967296)) (fb x 11 8*2%4294967296)=vB x:=by
 simp only[fb,vB,Int.reduceToNat,Int.reduceSub,Int.reduceAdd,Int.reducePow]
 rw[or4B _ _ _ _ oM oM oM oM oM oM oM oM]
 omega
theorem oS(x:Int)(h0:0<=x)(h1:x<=4294967295):bits BinOp.or IntKind.u32 (f7 x*32) (rdf x)=vS x:=by
 unfold f7 rdf vS
 rw[or_add _ _ 5 oM oM oM oM dC oM]
theorem oU(x:Int)(h0:0<=x)(h1:x<=4294967295):wrap32 (bits BinOp.andNot IntKind.u32 x 4095)=immU x:=by
 rw[andNot12 x h0 oM];unfold immU wrap32;omega
theorem rdf_bd(x:Int):0<=rdf x/\rdf x<=31:=by unfold rdf;omega
theorem r1_bd(x:Int):0<=r1 x/\r1 x<=31:=by unfold r1;omega
theorem r2_bd(x:Int):0<=r2 x/\r2 x<=31:=by unfold r2;omega
theorem f7_bd(x:Int)(h0:0<=x)(h1:x<=4294967295):0<=f7 x/\f7 x<=127:=by unfold f7;omega
theorem pU(x:Int)(h0:0<=x)(h1:x<=4294967295):wrap32 (wrap32 x/4096%4294967296*4096%4294967296)=immU x:=by unfold immU wrap32;omega
theorem pI(x:Int)(h0:0<=x)(h1:x<=4294967295):wrap32 (wrap32 x/1048576%4294967296)=immI x:=by unfold immI wrap32;omega
theorem or4j(a q r s:Int)(ha0:0<=a)(ha:a<4294967296)(hm:a%1048576=0)(hq0:0<=q)(hq:q<=255)(hr0:0<=r)(hr:r<=1)(hs0:0<=s)(hs:s<=1023):
  bits BinOp.or IntKind.u32 (bits BinOp.or IntKind.u32 (bits BinOp.or IntKind.u32 a (q*4096%4294967296)) (r*2048%4294967296)) (s*2%4294967296)=a+q*4096+r*2048+s*2:=by
 rw[show q*4096%4294967296=q*4096 by omega,show r*2048%4294967296=r*2048 by omega,show s*2%4294967296=s*2 by omega]
 rw[or_add a (q*4096) 20 oM oM oM oM dC oM,or_add (a+q*4096) (r*2048) 12 oM oM oM oM dC oM,or_add _ _ 11 oM oM oM oM dC oM]
theorem or4b(a q r s:Int)(ha0:0<=a)(ha:a<4294967296)(hm:a%4096=0)(hq0:0<=q)(hq:q<=1)(hr0:0<=r)(hr:r<=63)(hs0:0<=s)(hs:s<=15):
  bits BinOp.or IntKind.u32 (bits BinOp.or IntKind.u32 (bits BinOp.or IntKind.u32 a (q*2048%4294967296)) (r*32%4294967296)) (s*2%4294967296)=a+q*2048+r*32+s*2:=by
 rw[show q*2048%4294967296=q*2048 by omega,show r*32%4294967296=r*32 by omega,show s*2%4294967296=s*2 by omega]
 rw[or_add a (q*2048) 12 oM oM oM oM dC oM,or_add (a+q*2048) (r*32) 11 oM oM oM oM dC oM,or_add _ _ 5 oM oM oM oM dC oM]
theorem pJ(x:Int)(h0:0<=x)(h1:x<=4294967295):wrap32 (bits BinOp.or IntKind.u32 (bits BinOp.or IntKind.u32 (bits BinOp.or IntKind.u32 (wrap32 x/2147483648%4294967296*1048576%4294967296) (bits BinOp.and IntKind.u32 (x/4096) 255*4096%4294967296)) (bits BinOp.and IntKind.u32 (x/1048576) 1*2048%4294967296)) (bits BinOp.and IntKind.u32 (x/2097152) 1023*2%4294967296))=immJ x:=by
 rw[and_mask (x/4096) 8 255 oM oM dC dC,and_mask (x/1048576) 1 1 oM oM dC dC,and_mask (x/2097152) 10 1023 oM oM dC dC]
 rw[or4j _ _ _ _ oM oM oM oM oM oM oM oM oM]
 unfold immJ wrap32
 omega
theorem pB(x:Int)(h0:0<=x)(h1:x<=4294967295):wrap32 (bits BinOp.or IntKind.u32 (bits BinOp.or IntKind.u32 (bits BinOp.or IntKind.u32 (wrap32 x/2147483648%4294967296*4096%4294967296) (bits BinOp.and IntKind.u32 (x/128) 1*2048%4294967296)) (bits BinOp.and IntKind.u32 (x/33554432) 63*32%4294967296)) (bits BinOp.and IntKind.u32 (x/256) 15*2%4294967296))=immB x:=by
 rw[and_mask (x/128) 1 1 oM oM dC dC,and_mask (x/33554432) 6 63 oM oM dC dC,and_mask (x/256) 4 15 oM oM dC dC]
 rw[or4b _ _ _ _ oM oM oM oM oM oM oM oM oM]
 unfold immB wrap32
 omega
theorem pS(x:Int)(h0:0<=x)(h1:x<=4294967295):wrap32 (bits BinOp.or IntKind.u32 (wrap32 x/33554432%4294967296*32%4294967296) (bits BinOp.and IntKind.u32 (x/128) 31))=immS x:=by
 rw[and_mask (x/128) 5 31 oM oM dC dC]
 rw[or_add _ _ 5 oM oM oM oM dC oM]
 unfold immS wrap32
 omega
theorem pF(x:Int)(h0:0<=x)(h1:x<=4294967295):bits BinOp.and IntKind.u32 x 127=opc x:=by rw[and_mask x 7 127 h0 oM dC dC];rfl
theorem p3(x:Int)(h0:0<=x)(h1:x<=4294967295):bits BinOp.and IntKind.u32 (x/4096) 7=f3 x:=by rw[and_mask (x/4096) 3 7 oM oM dC dC];rfl
theorem p7(x:Int)(h0:0<=x)(h1:x<=4294967295):bits BinOp.and IntKind.u32 (x/33554432) 127=f7 x:=by rw[and_mask (x/33554432) 7 127 oM oM dC dC];unfold f7;omega
theorem pd(x:Int)(h0:0<=x)(h1:x<=4294967295):bits BinOp.and IntKind.u32 (x/128) 31=rdf x:=by rw[and_mask (x/128) 5 31 oM oM dC dC];rfl
theorem p1(x:Int)(h0:0<=x)(h1:x<=4294967295):bits BinOp.and IntKind.u32 (x/32768) 31=r1 x:=by rw[and_mask (x/32768) 5 31 oM oM dC dC];rfl
theorem p2(x:Int)(h0:0<=x)(h1:x<=4294967295):bits BinOp.and IntKind.u32 (x/1048576) 31=r2 x:=by rw[and_mask (x/1048576) 5 31 oM oM dC dC];rfl
theorem l_opcode(x:Int)(h0:0<=x)(h1:x<=4294967295)(w:World):
  Calls Tryz.prog 87 #[.int .u32 x] w fun e w'=>e=.returned (.int .u32 (opc x))/\w'=w:=by
 have e:=pF x h0 h1
 go_enter Tryz.func87,Tryz.ntmps87
 exact X3k
theorem l_funct3(x:Int)(h0:0<=x)(h1:x<=4294967295)(w:World):
  Calls Tryz.prog 94 #[.int .u32 x] w fun e w'=>e=.returned (.int .u32 (f3 x))/\w'=w:=by
 have e:=p3 x h0 h1
 go_enter Tryz.func94,Tryz.ntmps94
 exact X3k
theorem l_funct7(x:Int)(h0:0<=x)(h1:x<=4294967295)(w:World):
  Calls Tryz.prog 116 #[.int .u32 x] w fun e w'=>e=.returned (.int .u32 (f7 x))/\w'=w:=by
 have e:=p7 x h0 h1
 go_enter Tryz.func116,Tryz.ntmps116
 exact X3k
theorem l_rd(x:Int)(h0:0<=x)(h1:x<=4294967295)(w:World):
  Calls Tryz.prog 88 #[.int .u32 x] w fun e w'=>e=.returned (.int .i64 (rdf x))/\w'=w:=by
 have e:=pd x h0 h1
 have b1:=(rdf_bd x).1
 have b2:=(rdf_bd x).2
 go_enter Tryz.func88,Tryz.ntmps88
 exact X3k
theorem l_rs1(x:Int)(h0:0<=x)(h1:x<=4294967295)(w:World):
  Calls Tryz.prog 92 #[.int .u32 x] w fun e w'=>e=.returned (.int .i64 (r1 x))/\w'=w:=by
 have e:=p1 x h0 h1
 have b1:=(r1_bd x).1
 have b2:=(r1_bd x).2
 go_enter Tryz.func92,Tryz.ntmps92
 exact X3k
theorem l_rs2(x:Int)(h0:0<=x)(h1:x<=4294967295)(w:World):
  Calls Tryz.prog 95 #[.int .u32 x] w fun e w'=>e=.returned (.int .i64 (r2 x))/\w'=w:=by
 have e:=p2 x h0 h1
 have b1:=(r2_bd x).1
 have b2:=(r2_bd x).2
 go_enter Tryz.func95,Tryz.ntmps95
 exact X3k
theorem l_immediateU(x:Int)(h0:0<=x)(h1:x<=4294967295)(w:World):
  Calls Tryz.prog 89 #[.int .u32 x] w fun e w'=>e=.returned (.int .i32 (immU x))/\w'=w:=by
 have HQ:Hid (_=immU x):=pU x h0 h1
 go_enter Tryz.func89,Tryz.ntmps89
 exact X37
theorem l_immediateI(x:Int)(h0:0<=x)(h1:x<=4294967295)(w:World):
  Calls Tryz.prog 93 #[.int .u32 x] w fun e w'=>e=.returned (.int .i32 (immI x))/\w'=w:=by
 have HQ:Hid (_=immI x):=pI x h0 h1
 go_enter Tryz.func93,Tryz.ntmps93
 exact X37
theorem l_immediateJ(x:Int)(h0:0<=x)(h1:x<=4294967295)(w:World):
  Calls Tryz.prog 90 #[.int .u32 x] w fun e w'=>e=.returned (.int .i32 (immJ x))/\w'=w:=by
 have HQ:Hid (_=immJ x):=pJ x h0 h1
 go_enter Tryz.func90,Tryz.ntmps90
 exact X37
theorem l_immediateB(x:Int)(h0:0<=x)(h1:x<=4294967295)(w:World):
  Calls Tryz.prog 96 #[.int .u32 x] w fun e w'=>e=.returned (.int .i32 (immB x))/\w'=w:=by
 have HQ:Hid (_=immB x):=pB x h0 h1
 go_enter Tryz.func96,Tryz.ntmps96
 exact X37
theorem l_immediateS(x:Int)(h0:0<=x)(h1:x<=4294967295)(w:World):
  Calls Tryz.prog 97 #[.int .u32 x] w fun e w'=>e=.returned (.int .i32 (immS x))/\w'=w:=by
 have HQ:Hid (_=immS x):=pS x h0 h1
 go_enter Tryz.func97,Tryz.ntmps97
 exact X37
theorem field20(x:Int)(h0:0<=x)(h1:x<=4294967295)(w:World):
  Calls Tryz.prog 113 #[.int .u32 x,.int .u32 20,.int .u32 5] w fun e w'=>e=.returned (.int .u32 (r2 x))/\w'=w:=by
 have e:=p2 x h0 h1
 go_enter Tryz.func113,Tryz.ntmps113
 exact X3k
theorem b67(x:Int):(f3 x=0->at8 T67 x=3)/\(¬f3 x=0->at8 T67 x=-1):=by
 unfold at8
 rcases f3_all x with e|e|e|e|e|e|e|e<;>rw[e]<;>simp[T67]
theorem b0F(x:Int):(f3 x<=1->at8 T0F x=45)/\(1<f3 x->at8 T0F x=-1):=by
 unfold at8
 rcases f3_all x with e|e|e|e|e|e|e|e<;>rw[e]<;>simp[T0F]
theorem jump_y(x:Int)(h0:0<=x)(h1:x<=4294967295)(h:f3 x=0)(w:World):
  Calls Tryz.prog 91 #[.int .u32 x] w fun e w'=>e=.returned (.int .i64 3)/\w'=w:=by
 go_enter Tryz.func91,Tryz.ntmps91
 exact X31
theorem jump_n(x:Int)(h0:0<=x)(h1:x<=4294967295)(h:¬f3 x=0)(w:World):
  Calls Tryz.prog 91 #[.int .u32 x] w fun e w'=>e=.returned (.int .i64 (-1))/\w'=w:=by
 go_enter Tryz.func91,Tryz.ntmps91
 exact X31
theorem fence_y(x:Int)(h0:0<=x)(h1:x<=4294967295)(h:f3 x<=1)(w:World):
  Calls Tryz.prog 100 #[.int .u32 x] w fun e w'=>e=.returned (.int .i64 45)/\w'=w:=by
 go_enter Tryz.func100,Tryz.ntmps100
 exact X31
theorem fence_n(x:Int)(h0:0<=x)(h1:x<=4294967295)(h:1<f3 x)(w:World):
  Calls Tryz.prog 100 #[.int .u32 x] w fun e w'=>e=.returned (.int .i64 (-1))/\w'=w:=by
 go_enter Tryz.func100,Tryz.ntmps100
 exact X31
theorem system_n(x:Int)(h0:0<=x)(h1:x<=4294967295)(h:¬x=115)(h2:¬x=1048691)(w:World):
  Calls Tryz.prog 101 #[.int .u32 x] w fun e w'=>e=.returned (.int .i64 (-1))/\w'=w:=by
 go_enter Tryz.func101,Tryz.ntmps101
 exact X31
theorem system_115(w:World):
  Calls Tryz.prog 101 #[.int .u32 115] w fun e w'=>e=.returned (.int .i64 46)/\w'=w:=by
 go_enter Tryz.func101,Tryz.ntmps101
 exact X3k
theorem system_1048691(w:World):
  Calls Tryz.prog 101 #[.int .u32 1048691] w fun e w'=>e=.returned (.int .i64 47)/\w'=w:=by
 go_enter Tryz.func101,Tryz.ntmps101
 exact X3k
theorem shift_10(x:Int)(h0:0<=x)(h1:x<=4294967295)(h:f3 x=1)(h2:f7 x=0)(w:World):
  Calls Tryz.prog 115 #[.int .u32 x] w fun e w'=>e=.returned (.int .i64 24)/\w'=w:=by
 exact X3j
theorem shift_1n(x:Int)(h0:0<=x)(h1:x<=4294967295)(h:f3 x=1)(h2:¬f7 x=0)(w:World):
  Calls Tryz.prog 115 #[.int .u32 x] w fun e w'=>e=.returned (.int .i64 (-1))/\w'=w:=by
 have b2:(f7 x==0)=false:=by simpa using h2
 exact X3j
theorem shift_50(x:Int)(h0:0<=x)(h1:x<=4294967295)(h:f3 x=5)(h2:f7 x=0)(w:World):
  Calls Tryz.prog 115 #[.int .u32 x] w fun e w'=>e=.returned (.int .i64 25)/\w'=w:=by
 exact X3j
theorem shift_5t(x:Int)(h0:0<=x)(h1:x<=4294967295)(h:f3 x=5)(h2:f7 x=32)(w:World):
  Calls Tryz.prog 115 #[.int .u32 x] w fun e w'=>e=.returned (.int .i64 26)/\w'=w:=by
 exact X3j
theorem shift_5n(x:Int)(h0:0<=x)(h1:x<=4294967295)(h:f3 x=5)(h2:¬f7 x=0)(h3:¬f7 x=32)(w:World):
  Calls Tryz.prog 115 #[.int .u32 x] w fun e w'=>e=.returned (.int .i64 (-1))/\w'=w:=by
 have b2:(f7 x==0)=false:=by simpa using h2
 have b3:(f7 x==32)=false:=by simpa using h3
 exact X3j
theorem reg_0(x:Int)(h0:0<=x)(h1:x<=4294967295)(h:f7 x=0)(w:World)(hc:w.cell? ⟨4,(f3 x).toNat,none⟩=some (.int .i64 (at8 T330 x))):
  Calls Tryz.prog 99 #[.int .u32 x] w fun e w'=>e=.returned (.int .i64 (at8 T330 x))/\w'=w:=by
 exact X3i
theorem reg_32(x:Int)(h0:0<=x)(h1:x<=4294967295)(h:f7 x=32)(w:World)(hc:w.cell? ⟨5,(f3 x).toNat,none⟩=some (.int .i64 (at8 T3320 x))):
  Calls Tryz.prog 99 #[.int .u32 x] w fun e w'=>e=.returned (.int .i64 (at8 T3320 x))/\w'=w:=by
 exact X3i
theorem reg_1(x:Int)(h0:0<=x)(h1:x<=4294967295)(h:f7 x=1)(w:World)(hc:w.cell? ⟨6,(f3 x).toNat,none⟩=some (.int .i64 (at8 T331 x))):
  Calls Tryz.prog 99 #[.int .u32 x] w fun e w'=>e=.returned (.int .i64 (at8 T331 x))/\w'=w:=by
 exact X3i
theorem reg_n(x:Int)(h0:0<=x)(h1:x<=4294967295)(h:¬f7 x=0)(h2:¬f7 x=1)(h3:¬f7 x=32)(w:World):
  Calls Tryz.prog 99 #[.int .u32 x] w fun e w'=>e=.returned (.int .i64 (-1))/\w'=w:=by
 go_enter Tryz.func99,Tryz.ntmps99
 exact X31
end decodes
namespace decodes
open ChangeShapes WideShapes ChangeAt RowKit dnums
theorem in_37(x:Int)(h0:0<=x)(h1:x<=4294967295)(hop:opc x=55)(w:World):
  Calls Tryz.prog 64 #[.int .u32 x] w fun e w'=>e=.returned (raw x)/\Below w.heap.size w w':=by
 have c3:=(f3_bd x).1
 have c4:=(f3_bd x).2
 have HD:Hid (raw x=.agg #[.int .i64 0,.int .i64 (rdf x),.int .i64 0,.int .i64 0,.int .i32 (immU x)]):=raw_is x _ _ _ _ _ X3o X3l X3m X3n X3p
 exact X30
theorem in_17(x:Int)(h0:0<=x)(h1:x<=4294967295)(hop:opc x=23)(w:World):
  Calls Tryz.prog 64 #[.int .u32 x] w fun e w'=>e=.returned (raw x)/\Below w.heap.size w w':=by
 have c3:=(f3_bd x).1
 have c4:=(f3_bd x).2
 have HD:Hid (raw x=.agg #[.int .i64 1,.int .i64 (rdf x),.int .i64 0,.int .i64 0,.int .i32 (immU x)]):=raw_is x _ _ _ _ _ X3o X3l X3m X3n X3p
 exact X30
theorem in_6F(x:Int)(h0:0<=x)(h1:x<=4294967295)(hop:opc x=111)(w:World):
  Calls Tryz.prog 64 #[.int .u32 x] w fun e w'=>e=.returned (raw x)/\Below w.heap.size w w':=by
 have c3:=(f3_bd x).1
 have c4:=(f3_bd x).2
 have HD:Hid (raw x=.agg #[.int .i64 2,.int .i64 (rdf x),.int .i64 0,.int .i64 0,.int .i32 (immJ x)]):=raw_is x _ _ _ _ _ X3o X3l X3m X3n X3p
 exact X30
theorem in_67y(x:Int)(h0:0<=x)(h1:x<=4294967295)(hop:opc x=103)(h:f3 x=0)(w:World):
  Calls Tryz.prog 64 #[.int .u32 x] w fun e w'=>e=.returned (raw x)/\Below w.heap.size w w':=by
 have c3:=(f3_bd x).1
 have c4:=(f3_bd x).2
 have HD:Hid (raw x=.agg #[.int .i64 3,.int .i64 (rdf x),.int .i64 (r1 x),.int .i64 0,.int .i32 (immI x)]):=raw_is x _ _ _ _ _ (by simp[opn,hop,(b67 x).1 h]) X3l X3m X3n (by simp[imm,hop,(b67 x).1 h])
 go_enter Tryz.func64,Tryz.ntmps64
 go_wp2_with (first|(go_at_call 87;refine(l_opcode x h0 h1 _).mono ?_;rintro e w' ⟨rfl,rfl⟩)|(go_at_call 88;refine(l_rd x h0 h1 _).mono ?_;rintro e w' ⟨rfl,rfl⟩)|(go_at_call 92;refine(l_rs1 x h0 h1 _).mono ?_;rintro e w' ⟨rfl,rfl⟩)|(go_at_call 95;refine(l_rs2 x h0 h1 _).mono ?_;rintro e w' ⟨rfl,rfl⟩)|(go_at_call 94;refine(l_funct3 x h0 h1 _).mono ?_;rintro e w' ⟨rfl,rfl⟩)|(go_at_call 89;refine(l_immediateU x h0 h1 _).mono ?_;rintro e w' ⟨rfl,rfl⟩)|(go_at_call 93;refine(l_immediateI x h0 h1 _).mono ?_;rintro e w' ⟨rfl,rfl⟩)|(go_at_call 90;refine(l_immediateJ x h0 h1 _).mono ?_;rintro e w' ⟨rfl,rfl⟩)|(go_at_call 96;refine(l_immediateB x h0 h1 _).mono ?_;rintro e w' ⟨rfl,rfl⟩)|(go_at_call 97;refine(l_immediateS x h0 h1 _).mono ?_;rintro e w' ⟨rfl,rfl⟩)|(go_at_call 91;refine(jump_y x h0 h1 h _).mono ?_;rintro e w' ⟨rfl,rfl⟩))
 all_goals
  exact X32
theorem in_67n(x:Int)(h0:0<=x)(h1:x<=4294967295)(hop:opc x=103)(h:¬f3 x=0)(w:World):
  Calls Tryz.prog 64 #[.int .u32 x] w fun e w'=>e=.returned (raw x)/\Below w.heap.size w w':=by
 have c3:=(f3_bd x).1
 have c4:=(f3_bd x).2
 have HD:Hid (raw x=.agg #[.int .i64 (-1),.int .i64 (rdf x),.int .i64 (r1 x),.int .i64 0,.int .i32 (immI x)]):=raw_is x _ _ _ _ _ (by simp[opn,hop,(b67 x).2 h]) X3l X3m X3n (by simp[imm,hop,(b67 x).2 h])
 go_enter Tryz.func64,Tryz.ntmps64
 go_wp2_with (first|(go_at_call 87;refine(l_opcode x h0 h1 _).mono ?_;rintro e w' ⟨rfl,rfl⟩)|(go_at_call 88;refine(l_rd x h0 h1 _).mono ?_;rintro e w' ⟨rfl,rfl⟩)|(go_at_call 92;refine(l_rs1 x h0 h1 _).mono ?_;rintro e w' ⟨rfl,rfl⟩)|(go_at_call 95;refine(l_rs2 x h0 h1 _).mono ?_;rintro e w' ⟨rfl,rfl⟩)|(go_at_call 94;refine(l_funct3 x h0 h1 _).mono ?_;rintro e w' ⟨rfl,rfl⟩)|(go_at_call 89;refine(l_immediateU x h0 h1 _).mono ?_;rintro e w' ⟨rfl,rfl⟩)|(go_at_call 93;refine(l_immediateI x h0 h1 _).mono ?_;rintro e w' ⟨rfl,rfl⟩)|(go_at_call 90;refine(l_immediateJ x h0 h1 _).mono ?_;rintro e w' ⟨rfl,rfl⟩)|(go_at_call 96;refine(l_immediateB x h0 h1 _).mono ?_;rintro e w' ⟨rfl,rfl⟩)|(go_at_call 97;refine(l_immediateS x h0 h1 _).mono ?_;rintro e w' ⟨rfl,rfl⟩)|(go_at_call 91;refine(jump_n x h0 h1 h _).mono ?_;rintro e w' ⟨rfl,rfl⟩))
 all_goals
  exact X32
theorem in_0Fy(x:Int)(h0:0<=x)(h1:x<=4294967295)(hop:opc x=15)(h:f3 x<=1)(w:World):
  Calls Tryz.prog 64 #[.int .u32 x] w fun e w'=>e=.returned (raw x)/\Below w.heap.size w w':=by
 have c3:=(f3_bd x).1
 have c4:=(f3_bd x).2
 have HD:Hid (raw x=.agg #[.int .i64 45,.int .i64 0,.int .i64 0,.int .i64 0,.int .i32 0]):=raw_is x _ _ _ _ _ (by simp[opn,hop,(b0F x).1 h]) X3l X3m X3n (by simp[imm,hop,(b0F x).1 h])
 go_enter Tryz.func64,Tryz.ntmps64
 go_wp2_with (first|(go_at_call 87;refine(l_opcode x h0 h1 _).mono ?_;rintro e w' ⟨rfl,rfl⟩)|(go_at_call 88;refine(l_rd x h0 h1 _).mono ?_;rintro e w' ⟨rfl,rfl⟩)|(go_at_call 92;refine(l_rs1 x h0 h1 _).mono ?_;rintro e w' ⟨rfl,rfl⟩)|(go_at_call 95;refine(l_rs2 x h0 h1 _).mono ?_;rintro e w' ⟨rfl,rfl⟩)|(go_at_call 94;refine(l_funct3 x h0 h1 _).mono ?_;rintro e w' ⟨rfl,rfl⟩)|(go_at_call 89;refine(l_immediateU x h0 h1 _).mono ?_;rintro e w' ⟨rfl,rfl⟩)|(go_at_call 93;refine(l_immediateI x h0 h1 _).mono ?_;rintro e w' ⟨rfl,rfl⟩)|(go_at_call 90;refine(l_immediateJ x h0 h1 _).mono ?_;rintro e w' ⟨rfl,rfl⟩)|(go_at_call 96;refine(l_immediateB x h0 h1 _).mono ?_;rintro e w' ⟨rfl,rfl⟩)|(go_at_call 97;refine(l_immediateS x h0 h1 _).mono ?_;rintro e w' ⟨rfl,rfl⟩)|(go_at_call 100;refine(fence_y x h0 h1 h _).mono ?_;rintro e w' ⟨rfl,rfl⟩))
 all_goals
  exact X32
theorem in_0Fn(x:Int)(h0:0<=x)(h1:x<=4294967295)(hop:opc x=15)(h:1<f3 x)(w:World):
  Calls Tryz.prog 64 #[.int .u32 x] w fun e w'=>e=.returned (raw x)/\Below w.heap.size w w':=by
 have c3:=(f3_bd x).1
 have c4:=(f3_bd x).2
 have HD:Hid (raw x=.agg #[.int .i64 (-1),.int .i64 0,.int .i64 0,.int .i64 0,.int .i32 0]):=raw_is x _ _ _ _ _ (by simp[opn,hop,(b0F x).2 h]) X3l X3m X3n (by simp[imm,hop,(b0F x).2 h])
 go_enter Tryz.func64,Tryz.ntmps64
 go_wp2_with (first|(go_at_call 87;refine(l_opcode x h0 h1 _).mono ?_;rintro e w' ⟨rfl,rfl⟩)|(go_at_call 88;refine(l_rd x h0 h1 _).mono ?_;rintro e w' ⟨rfl,rfl⟩)|(go_at_call 92;refine(l_rs1 x h0 h1 _).mono ?_;rintro e w' ⟨rfl,rfl⟩)|(go_at_call 95;refine(l_rs2 x h0 h1 _).mono ?_;rintro e w' ⟨rfl,rfl⟩)|(go_at_call 94;refine(l_funct3 x h0 h1 _).mono ?_;rintro e w' ⟨rfl,rfl⟩)|(go_at_call 89;refine(l_immediateU x h0 h1 _).mono ?_;rintro e w' ⟨rfl,rfl⟩)|(go_at_call 93;refine(l_immediateI x h0 h1 _).mono ?_;rintro e w' ⟨rfl,rfl⟩)|(go_at_call 90;refine(l_immediateJ x h0 h1 _).mono ?_;rintro e w' ⟨rfl,rfl⟩)|(go_at_call 96;refine(l_immediateB x h0 h1 _).mono ?_;rintro e w' ⟨rfl,rfl⟩)|(go_at_call 97;refine(l_immediateS x h0 h1 _).mono ?_;rintro e w' ⟨rfl,rfl⟩)|(go_at_call 100;refine(fence_n x h0 h1 h _).mono ?_;rintro e w' ⟨rfl,rfl⟩))
 all_goals
  exact X32
theorem in_73n(x:Int)(h0:0<=x)(h1:x<=4294967295)(hop:opc x=115)(h:¬x=115)(h2:¬x=1048691)(w:World):
  Calls Tryz.prog 64 #[.int .u32 x] w fun e w'=>e=.returned (raw x)/\Below w.heap.size w w':=by
 have c3:=(f3_bd x).1
 have c4:=(f3_bd x).2
 have HD:Hid (raw x=.agg #[.int .i64 (-1),.int .i64 0,.int .i64 0,.int .i64 0,.int .i32 0]):=raw_is x _ _ _ _ _ (by simp[opn,hop,h,h2]) X3l X3m X3n (by simp[imm,hop,h,h2])
 go_enter Tryz.func64,Tryz.ntmps64
 go_wp2_with (first|(go_at_call 87;refine(l_opcode x h0 h1 _).mono ?_;rintro e w' ⟨rfl,rfl⟩)|(go_at_call 88;refine(l_rd x h0 h1 _).mono ?_;rintro e w' ⟨rfl,rfl⟩)|(go_at_call 92;refine(l_rs1 x h0 h1 _).mono ?_;rintro e w' ⟨rfl,rfl⟩)|(go_at_call 95;refine(l_rs2 x h0 h1 _).mono ?_;rintro e w' ⟨rfl,rfl⟩)|(go_at_call 94;refine(l_funct3 x h0 h1 _).mono ?_;rintro e w' ⟨rfl,rfl⟩)|(go_at_call 89;refine(l_immediateU x h0 h1 _).mono ?_;rintro e w' ⟨rfl,rfl⟩)|(go_at_call 93;refine(l_immediateI x h0 h1 _).mono ?_;rintro e w' ⟨rfl,rfl⟩)|(go_at_call 90;refine(l_immediateJ x h0 h1 _).mono ?_;rintro e w' ⟨rfl,rfl⟩)|(go_at_call 96;refine(l_immediateB x h0 h1 _).mono ?_;rintro e w' ⟨rfl,rfl⟩)|(go_at_call 97;refine(l_immediateS x h0 h1 _).mono ?_;rintro e w' ⟨rfl,rfl⟩)|(go_at_call 101;refine(system_n x h0 h1 h h2 _).mono ?_;rintro e w' ⟨rfl,rfl⟩))
 all_goals
  exact X32
theorem in_ecall(w:World):
  Calls Tryz.prog 64 #[.int .u32 115] w fun e w'=>e=.returned (raw 115)/\Below w.heap.size w w':=by
 have h0:(0:Int)<=115:=by decide
 have h1:(115:Int)<=4294967295:=by decide
 have hop:opc 115=115:=by decide
 have c3:=(f3_bd 115).1
 have c4:=(f3_bd 115).2
 have HD:Hid (raw 115=.agg #[.int .i64 46,.int .i64 0,.int .i64 0,.int .i64 0,.int .i32 0]):=raw_is 115 _ _ _ _ _ X3o X3l X3m X3n X3p
 go_enter Tryz.func64,Tryz.ntmps64
 go_wp2_with (first|(go_at_call 87;refine(l_opcode 115 h0 h1 _).mono ?_;rintro e w' ⟨rfl,rfl⟩)|(go_at_call 88;refine(l_rd 115 h0 h1 _).mono ?_;rintro e w' ⟨rfl,rfl⟩)|(go_at_call 92;refine(l_rs1 115 h0 h1 _).mono ?_;rintro e w' ⟨rfl,rfl⟩)|(go_at_call 95;refine(l_rs2 115 h0 h1 _).mono ?_;rintro e w' ⟨rfl,rfl⟩)|(go_at_call 94;refine(l_funct3 115 h0 h1 _).mono ?_;rintro e w' ⟨rfl,rfl⟩)|(go_at_call 89;refine(l_immediateU 115 h0 h1 _).mono ?_;rintro e w' ⟨rfl,rfl⟩)|(go_at_call 93;refine(l_immediateI 115 h0 h1 _).mono ?_;rintro e w' ⟨rfl,rfl⟩)|(go_at_call 90;refine(l_immediateJ 115 h0 h1 _).mono ?_;rintro e w' ⟨rfl,rfl⟩)|(go_at_call 96;refine(l_immediateB 115 h0 h1 _).mono ?_;rintro e w' ⟨rfl,rfl⟩)|(go_at_call 97;refine(l_immediateS 115 h0 h1 _).mono ?_;rintro e w' ⟨rfl,rfl⟩)|(go_at_call 101;refine(system_115 _).mono ?_;rintro e w' ⟨rfl,rfl⟩))
 all_goals
  refine bodyPost_ret (v:=raw 115) ?_ rfl ⟨rfl, ?_⟩
  ·rw[HD.out];simp[results,Tryz.results64,go_sem]
  ·exact bW
theorem in_ebreak(w:World):
  Calls Tryz.prog 64 #[.int .u32 1048691] w fun e w'=>e=.returned (raw 1048691)/\Below w.heap.size w w':=by
 have h0:(0:Int)<=1048691:=by decide
 have h1:(1048691:Int)<=4294967295:=by decide
 have hop:opc 1048691=115:=by decide
 have c3:=(f3_bd 1048691).1
 have c4:=(f3_bd 1048691).2
 have HD:Hid (raw 1048691=.agg #[.int .i64 47,.int .i64 0,.int .i64 0,.int .i64 0,.int .i32 0]):=raw_is 1048691 _ _ _ _ _ X3o X3l X3m X3n X3p
 go_enter Tryz.func64,Tryz.ntmps64
 go_wp2_with (first|(go_at_call 87;refine(l_opcode 1048691 h0 h1 _).mono ?_;rintro e w' ⟨rfl,rfl⟩)|(go_at_call 88;refine(l_rd 1048691 h0 h1 _).mono ?_;rintro e w' ⟨rfl,rfl⟩)|(go_at_call 92;refine(l_rs1 1048691 h0 h1 _).mono ?_;rintro e w' ⟨rfl,rfl⟩)|(go_at_call 95;refine(l_rs2 1048691 h0 h1 _).mono ?_;rintro e w' ⟨rfl,rfl⟩)|(go_at_call 94;refine(l_funct3 1048691 h0 h1 _).mono ?_;rintro e w' ⟨rfl,rfl⟩)|(go_at_call 89;refine(l_immediateU 1048691 h0 h1 _).mono ?_;rintro e w' ⟨rfl,rfl⟩)|(go_at_call 93;refine(l_immediateI 1048691 h0 h1 _).mono ?_;rintro e w' ⟨rfl,rfl⟩)|(go_at_call 90;refine(l_immediateJ 1048691 h0 h1 _).mono ?_;rintro e w' ⟨rfl,rfl⟩)|(go_at_call 96;refine(l_immediateB 1048691 h0 h1 _).mono ?_;rintro e w' ⟨rfl,rfl⟩)|(go_at_call 97;refine(l_immediateS 1048691 h0 h1 _).mono ?_;rintro e w' ⟨rfl,rfl⟩)|(go_at_call 101;refine(system_1048691 _).mono ?_;rintro e w' ⟨rfl,rfl⟩))
 all_goals
  refine bodyPost_ret (v:=raw 1048691) ?_ rfl ⟨rfl, ?_⟩
  ·rw[HD.out];simp[results,Tryz.results64,go_sem]
  ·exact bW
theorem in_330(x:Int)(h0:0<=x)(h1:x<=4294967295)(hop:opc x=51)(h:f7 x=0)(w:World)(hz:4<w.heap.size)(hc:w.cell? ⟨4,(f3 x).toNat,none⟩=some (.int .i64 (at8 T330 x))):
  Calls Tryz.prog 64 #[.int .u32 x] w fun e w'=>e=.returned (raw x)/\Below w.heap.size w w':=by
 have c3:=(f3_bd x).1
 have c4:=(f3_bd x).2
 have HD:Hid (raw x=.agg #[.int .i64 (at8 T330 x),.int .i64 (rdf x),.int .i64 (r1 x),.int .i64 (r2 x),.int .i32 0]):=raw_is x _ _ _ _ _ (by simp[opn,hop,h]) X3l X3m X3n (by simp[imm,hop,h])
 have hcell:(w.alloc (.cells #[.int .i64 0,.int .i64 0,.int .i64 0,.int .i64 0,.int .i32 0] 61)).cell? ⟨4,(f3 x).toNat,none⟩=some (.int .i64 (at8 T330 x)):=(World.cell?_alloc_lt w _ _ hz).trans hc
 go_enter Tryz.func64,Tryz.ntmps64
 go_wp2_with (first|(go_at_call 87;refine(l_opcode x h0 h1 _).mono ?_;rintro e w' ⟨rfl,rfl⟩)|(go_at_call 88;refine(l_rd x h0 h1 _).mono ?_;rintro e w' ⟨rfl,rfl⟩)|(go_at_call 92;refine(l_rs1 x h0 h1 _).mono ?_;rintro e w' ⟨rfl,rfl⟩)|(go_at_call 95;refine(l_rs2 x h0 h1 _).mono ?_;rintro e w' ⟨rfl,rfl⟩)|(go_at_call 94;refine(l_funct3 x h0 h1 _).mono ?_;rintro e w' ⟨rfl,rfl⟩)|(go_at_call 89;refine(l_immediateU x h0 h1 _).mono ?_;rintro e w' ⟨rfl,rfl⟩)|(go_at_call 93;refine(l_immediateI x h0 h1 _).mono ?_;rintro e w' ⟨rfl,rfl⟩)|(go_at_call 90;refine(l_immediateJ x h0 h1 _).mono ?_;rintro e w' ⟨rfl,rfl⟩)|(go_at_call 96;refine(l_immediateB x h0 h1 _).mono ?_;rintro e w' ⟨rfl,rfl⟩)|(go_at_call 97;refine(l_immediateS x h0 h1 _).mono ?_;rintro e w' ⟨rfl,rfl⟩)|(go_at_call 99;refine(reg_0 x h0 h1 h _ ?hcc).mono ?_;exact hcell;rintro e w' ⟨rfl,rfl⟩))
 all_goals
  exact X32
theorem in_331(x:Int)(h0:0<=x)(h1:x<=4294967295)(hop:opc x=51)(h:f7 x=1)(w:World)(hz:6<w.heap.size)(hc:w.cell? ⟨6,(f3 x).toNat,none⟩=some (.int .i64 (at8 T331 x))):
  Calls Tryz.prog 64 #[.int .u32 x] w fun e w'=>e=.returned (raw x)/\Below w.heap.size w w':=by
 have c3:=(f3_bd x).1
 have c4:=(f3_bd x).2
 have HD:Hid (raw x=.agg #[.int .i64 (at8 T331 x),.int .i64 (rdf x),.int .i64 (r1 x),.int .i64 (r2 x),.int .i32 0]):=raw_is x _ _ _ _ _ (by simp[opn,hop,h]) X3l X3m X3n (by simp[imm,hop,h])
 have hcell:(w.alloc (.cells #[.int .i64 0,.int .i64 0,.int .i64 0,.int .i64 0,.int .i32 0] 61)).cell? ⟨6,(f3 x).toNat,none⟩=some (.int .i64 (at8 T331 x)):=(World.cell?_alloc_lt w _ _ hz).trans hc
 go_enter Tryz.func64,Tryz.ntmps64
 go_wp2_with (first|(go_at_call 87;refine(l_opcode x h0 h1 _).mono ?_;rintro e w' ⟨rfl,rfl⟩)|(go_at_call 88;refine(l_rd x h0 h1 _).mono ?_;rintro e w' ⟨rfl,rfl⟩)|(go_at_call 92;refine(l_rs1 x h0 h1 _).mono ?_;rintro e w' ⟨rfl,rfl⟩)|(go_at_call 95;refine(l_rs2 x h0 h1 _).mono ?_;rintro e w' ⟨rfl,rfl⟩)|(go_at_call 94;refine(l_funct3 x h0 h1 _).mono ?_;rintro e w' ⟨rfl,rfl⟩)|(go_at_call 89;refine(l_immediateU x h0 h1 _).mono ?_;rintro e w' ⟨rfl,rfl⟩)|(go_at_call 93;refine(l_immediateI x h0 h1 _).mono ?_;rintro e w' ⟨rfl,rfl⟩)|(go_at_call 90;refine(l_immediateJ x h0 h1 _).mono ?_;rintro e w' ⟨rfl,rfl⟩)|(go_at_call 96;refine(l_immediateB x h0 h1 _).mono ?_;rintro e w' ⟨rfl,rfl⟩)|(go_at_call 97;refine(l_immediateS x h0 h1 _).mono ?_;rintro e w' ⟨rfl,rfl⟩)|(go_at_call 99;refine(reg_1 x h0 h1 h _ ?hcc).mono ?_;exact hcell;rintro e w' ⟨rfl,rfl⟩))
 all_goals
  exact X32
theorem in_3320(x:Int)(h0:0<=x)(h1:x<=4294967295)(hop:opc x=51)(h:f7 x=32)(w:World)(hz:5<w.heap.size)(hc:w.cell? ⟨5,(f3 x).toNat,none⟩=some (.int .i64 (at8 T3320 x))):
  Calls Tryz.prog 64 #[.int .u32 x] w fun e w'=>e=.returned (raw x)/\Below w.heap.size w w':=by
 have c3:=(f3_bd x).1
 have c4:=(f3_bd x).2
 have HD:Hid (raw x=.agg #[.int .i64 (at8 T3320 x),.int .i64 (rdf x),.int .i64 (r1 x),.int .i64 (r2 x),.int .i32 0]):=raw_is x _ _ _ _ _ (by simp[opn,hop,h]) X3l X3m X3n (by simp[imm,hop,h])
 have hcell:(w.alloc (.cells #[.int .i64 0,.int .i64 0,.int .i64 0,.int .i64 0,.int .i32 0] 61)).cell? ⟨5,(f3 x).toNat,none⟩=some (.int .i64 (at8 T3320 x)):=(World.cell?_alloc_lt w _ _ hz).trans hc
 go_enter Tryz.func64,Tryz.ntmps64
 go_wp2_with (first|(go_at_call 87;refine(l_opcode x h0 h1 _).mono ?_;rintro e w' ⟨rfl,rfl⟩)|(go_at_call 88;refine(l_rd x h0 h1 _).mono ?_;rintro e w' ⟨rfl,rfl⟩)|(go_at_call 92;refine(l_rs1 x h0 h1 _).mono ?_;rintro e w' ⟨rfl,rfl⟩)|(go_at_call 95;refine(l_rs2 x h0 h1 _).mono ?_;rintro e w' ⟨rfl,rfl⟩)|(go_at_call 94;refine(l_funct3 x h0 h1 _).mono ?_;rintro e w' ⟨rfl,rfl⟩)|(go_at_call 89;refine(l_immediateU x h0 h1 _).mono ?_;rintro e w' ⟨rfl,rfl⟩)|(go_at_call 93;refine(l_immediateI x h0 h1 _).mono ?_;rintro e w' ⟨rfl,rfl⟩)|(go_at_call 90;refine(l_immediateJ x h0 h1 _).mono ?_;rintro e w' ⟨rfl,rfl⟩)|(go_at_call 96;refine(l_immediateB x h0 h1 _).mono ?_;rintro e w' ⟨rfl,rfl⟩)|(go_at_call 97;refine(l_immediateS x h0 h1 _).mono ?_;rintro e w' ⟨rfl,rfl⟩)|(go_at_call 99;refine(reg_32 x h0 h1 h _ ?hcc).mono ?_;exact hcell;rintro e w' ⟨rfl,rfl⟩))
 all_goals
  exact X32
theorem in_33n(x:Int)(h0:0<=x)(h1:x<=4294967295)(hop:opc x=51)(h:¬f7 x=0)(h2:¬f7 x=1)(h3:¬f7 x=32)(w:World):
  Calls Tryz.prog 64 #[.int .u32 x] w fun e w'=>e=.returned (raw x)/\Below w.heap.size w w':=by
 have c3:=(f3_bd x).1
 have c4:=(f3_bd x).2
 have HD:Hid (raw x=.agg #[.int .i64 (-1),.int .i64 (rdf x),.int .i64 (r1 x),.int .i64 (r2 x),.int .i32 0]):=raw_is x _ _ _ _ _ (by simp[opn,hop,h,h2,h3]) X3l X3m X3n (by simp[imm,hop,h,h2,h3])
 go_enter Tryz.func64,Tryz.ntmps64
 go_wp2_with (first|(go_at_call 87;refine(l_opcode x h0 h1 _).mono ?_;rintro e w' ⟨rfl,rfl⟩)|(go_at_call 88;refine(l_rd x h0 h1 _).mono ?_;rintro e w' ⟨rfl,rfl⟩)|(go_at_call 92;refine(l_rs1 x h0 h1 _).mono ?_;rintro e w' ⟨rfl,rfl⟩)|(go_at_call 95;refine(l_rs2 x h0 h1 _).mono ?_;rintro e w' ⟨rfl,rfl⟩)|(go_at_call 94;refine(l_funct3 x h0 h1 _).mono ?_;rintro e w' ⟨rfl,rfl⟩)|(go_at_call 89;refine(l_immediateU x h0 h1 _).mono ?_;rintro e w' ⟨rfl,rfl⟩)|(go_at_call 93;refine(l_immediateI x h0 h1 _).mono ?_;rintro e w' ⟨rfl,rfl⟩)|(go_at_call 90;refine(l_immediateJ x h0 h1 _).mono ?_;rintro e w' ⟨rfl,rfl⟩)|(go_at_call 96;refine(l_immediateB x h0 h1 _).mono ?_;rintro e w' ⟨rfl,rfl⟩)|(go_at_call 97;refine(l_immediateS x h0 h1 _).mono ?_;rintro e w' ⟨rfl,rfl⟩)|(go_at_call 99;refine(reg_n x h0 h1 h h2 h3 _).mono ?_;rintro e w' ⟨rfl,rfl⟩))
 all_goals
  exact X32
theorem in_other(x:Int)(h0:0<=x)(h1:x<=4294967295)(n55:¬opc x=55)(n23:¬opc x=23)(n111:¬opc x=111)(n103:¬opc x=103)(n99:¬opc x=99)(n3:¬opc x=3)(n35:¬opc x=35)(n19:¬opc x=19)(n51:¬opc x=51)(n15:¬opc x=15)(n115:¬opc x=115)(w:World):
  Calls Tryz.prog 64 #[.int .u32 x] w fun e w'=>e=.returned (raw x)/\Below w.heap.size w w':=by
 have c3:=(f3_bd x).1
 have c4:=(f3_bd x).2
 have HD:Hid (raw x=.agg #[.int .i64 (-1),.int .i64 0,.int .i64 0,.int .i64 0,.int .i32 0]):=raw_is x _ _ _ _ _ (by simp[opn,n55,n23,n111,n103,n99,n3,n35,n19,n51,n15,n115]) (by simp[qRd,hasRd,n55,n23,n111,n103,n99,n3,n35,n19,n51,n15,n115]) (by simp[qR1,hasR1,n55,n23,n111,n103,n99,n3,n35,n19,n51,n15,n115]) (by simp[qR2,hasR2,n55,n23,n111,n103,n99,n3,n35,n19,n51,n15,n115]) (by simp[imm,n55,n23,n111,n103,n99,n3,n35,n19,n51,n15,n115])
 exact X30
end decodes
namespace decodes
open ChangeShapes WideShapes ChangeAt RowKit dnums
attribute [local go_sem ↓] Go.wp_at_zero Go.wp_at_succ
theorem in_63(x:Int)(h0:0<=x)(h1:x<=4294967295)(hop:opc x=99)(w:World)(hz:0<w.heap.size)(hc:w.cell? ⟨0,(f3 x).toNat,none⟩=some (.int .i64 (at8 T63 x))):
  Calls Tryz.prog 64 #[.int .u32 x] w fun e w'=>e=.returned (raw x)/\Below w.heap.size w w':=by
 have c3:=(f3_bd x).1
 have c4:=(f3_bd x).2
 have HD:Hid (raw x=.agg #[.int .i64 (at8 T63 x),.int .i64 0,.int .i64 (r1 x),.int .i64 (r2 x),.int .i32 (immB x)]):=raw_is x _ _ _ _ _ X3o X3l X3m X3n X3p
 have hne:=World.new_ne w _ hc
 have c5:f3 x<8:=by omega
 go_enter Tryz.func64,Tryz.ntmps64
 go_wp2_with (first|(go_at_call 87;refine(l_opcode x h0 h1 _).mono ?_;rintro e w' ⟨rfl,rfl⟩)|(go_at_call 88;refine(l_rd x h0 h1 _).mono ?_;rintro e w' ⟨rfl,rfl⟩)|(go_at_call 92;refine(l_rs1 x h0 h1 _).mono ?_;rintro e w' ⟨rfl,rfl⟩)|(go_at_call 95;refine(l_rs2 x h0 h1 _).mono ?_;rintro e w' ⟨rfl,rfl⟩)|(go_at_call 94;refine(l_funct3 x h0 h1 _).mono ?_;rintro e w' ⟨rfl,rfl⟩)|(go_at_call 89;refine(l_immediateU x h0 h1 _).mono ?_;rintro e w' ⟨rfl,rfl⟩)|(go_at_call 93;refine(l_immediateI x h0 h1 _).mono ?_;rintro e w' ⟨rfl,rfl⟩)|(go_at_call 90;refine(l_immediateJ x h0 h1 _).mono ?_;rintro e w' ⟨rfl,rfl⟩)|(go_at_call 96;refine(l_immediateB x h0 h1 _).mono ?_;rintro e w' ⟨rfl,rfl⟩)|(go_at_call 97;refine(l_immediateS x h0 h1 _).mono ?_;rintro e w' ⟨rfl,rfl⟩))
 go_region_held3 (fun w'=>w'.cell? ⟨0,(f3 x).toNat,none⟩=some (.int .i64 (at8 T63 x))) (go_keep) (first|(go_at_call 87;refine(l_opcode x h0 h1 _).mono ?_;rintro e w' ⟨rfl,rfl⟩)|(go_at_call 88;refine(l_rd x h0 h1 _).mono ?_;rintro e w' ⟨rfl,rfl⟩)|(go_at_call 92;refine(l_rs1 x h0 h1 _).mono ?_;rintro e w' ⟨rfl,rfl⟩)|(go_at_call 95;refine(l_rs2 x h0 h1 _).mono ?_;rintro e w' ⟨rfl,rfl⟩)|(go_at_call 94;refine(l_funct3 x h0 h1 _).mono ?_;rintro e w' ⟨rfl,rfl⟩)|(go_at_call 89;refine(l_immediateU x h0 h1 _).mono ?_;rintro e w' ⟨rfl,rfl⟩)|(go_at_call 93;refine(l_immediateI x h0 h1 _).mono ?_;rintro e w' ⟨rfl,rfl⟩)|(go_at_call 90;refine(l_immediateJ x h0 h1 _).mono ?_;rintro e w' ⟨rfl,rfl⟩)|(go_at_call 96;refine(l_immediateB x h0 h1 _).mono ?_;rintro e w' ⟨rfl,rfl⟩)|(go_at_call 97;refine(l_immediateS x h0 h1 _).mono ?_;rintro e w' ⟨rfl,rfl⟩))
 all_goals
  go_wp2_with fail
  exact X32
theorem in_03(x:Int)(h0:0<=x)(h1:x<=4294967295)(hop:opc x=3)(w:World)(hz:1<w.heap.size)(hc:w.cell? ⟨1,(f3 x).toNat,none⟩=some (.int .i64 (at8 T03 x))):
  Calls Tryz.prog 64 #[.int .u32 x] w fun e w'=>e=.returned (raw x)/\Below w.heap.size w w':=by
 have c3:=(f3_bd x).1
 have c4:=(f3_bd x).2
 have HD:Hid (raw x=.agg #[.int .i64 (at8 T03 x),.int .i64 (rdf x),.int .i64 (r1 x),.int .i64 0,.int .i32 (immI x)]):=raw_is x _ _ _ _ _ X3o X3l X3m X3n X3p
 have hne:=World.new_ne w _ hc
 have c5:f3 x<8:=by omega
 go_enter Tryz.func64,Tryz.ntmps64
 go_wp2_with (first|(go_at_call 87;refine(l_opcode x h0 h1 _).mono ?_;rintro e w' ⟨rfl,rfl⟩)|(go_at_call 88;refine(l_rd x h0 h1 _).mono ?_;rintro e w' ⟨rfl,rfl⟩)|(go_at_call 92;refine(l_rs1 x h0 h1 _).mono ?_;rintro e w' ⟨rfl,rfl⟩)|(go_at_call 95;refine(l_rs2 x h0 h1 _).mono ?_;rintro e w' ⟨rfl,rfl⟩)|(go_at_call 94;refine(l_funct3 x h0 h1 _).mono ?_;rintro e w' ⟨rfl,rfl⟩)|(go_at_call 89;refine(l_immediateU x h0 h1 _).mono ?_;rintro e w' ⟨rfl,rfl⟩)|(go_at_call 93;refine(l_immediateI x h0 h1 _).mono ?_;rintro e w' ⟨rfl,rfl⟩)|(go_at_call 90;refine(l_immediateJ x h0 h1 _).mono ?_;rintro e w' ⟨rfl,rfl⟩)|(go_at_call 96;refine(l_immediateB x h0 h1 _).mono ?_;rintro e w' ⟨rfl,rfl⟩)|(go_at_call 97;refine(l_immediateS x h0 h1 _).mono ?_;rintro e w' ⟨rfl,rfl⟩))
 go_region_held3 (fun w'=>w'.cell? ⟨1,(f3 x).toNat,none⟩=some (.int .i64 (at8 T03 x))) (go_keep) (first|(go_at_call 87;refine(l_opcode x h0 h1 _).mono ?_;rintro e w' ⟨rfl,rfl⟩)|(go_at_call 88;refine(l_rd x h0 h1 _).mono ?_;rintro e w' ⟨rfl,rfl⟩)|(go_at_call 92;refine(l_rs1 x h0 h1 _).mono ?_;rintro e w' ⟨rfl,rfl⟩)|(go_at_call 95;refine(l_rs2 x h0 h1 _).mono ?_;rintro e w' ⟨rfl,rfl⟩)|(go_at_call 94;refine(l_funct3 x h0 h1 _).mono ?_;rintro e w' ⟨rfl,rfl⟩)|(go_at_call 89;refine(l_immediateU x h0 h1 _).mono ?_;rintro e w' ⟨rfl,rfl⟩)|(go_at_call 93;refine(l_immediateI x h0 h1 _).mono ?_;rintro e w' ⟨rfl,rfl⟩)|(go_at_call 90;refine(l_immediateJ x h0 h1 _).mono ?_;rintro e w' ⟨rfl,rfl⟩)|(go_at_call 96;refine(l_immediateB x h0 h1 _).mono ?_;rintro e w' ⟨rfl,rfl⟩)|(go_at_call 97;refine(l_immediateS x h0 h1 _).mono ?_;rintro e w' ⟨rfl,rfl⟩))
 all_goals
  go_wp2_with fail
  exact X32
theorem in_23(x:Int)(h0:0<=x)(h1:x<=4294967295)(hop:opc x=35)(w:World)(hz:2<w.heap.size)(hc:w.cell? ⟨2,(f3 x).toNat,none⟩=some (.int .i64 (at8 T23 x))):
  Calls Tryz.prog 64 #[.int .u32 x] w fun e w'=>e=.returned (raw x)/\Below w.heap.size w w':=by
 have c3:=(f3_bd x).1
 have c4:=(f3_bd x).2
 have HD:Hid (raw x=.agg #[.int .i64 (at8 T23 x),.int .i64 0,.int .i64 (r1 x),.int .i64 (r2 x),.int .i32 (immS x)]):=raw_is x _ _ _ _ _ X3o X3l X3m X3n X3p
 have hne:=World.new_ne w _ hc
 have c5:f3 x<8:=by omega
 go_enter Tryz.func64,Tryz.ntmps64
 go_wp2_with (first|(go_at_call 87;refine(l_opcode x h0 h1 _).mono ?_;rintro e w' ⟨rfl,rfl⟩)|(go_at_call 88;refine(l_rd x h0 h1 _).mono ?_;rintro e w' ⟨rfl,rfl⟩)|(go_at_call 92;refine(l_rs1 x h0 h1 _).mono ?_;rintro e w' ⟨rfl,rfl⟩)|(go_at_call 95;refine(l_rs2 x h0 h1 _).mono ?_;rintro e w' ⟨rfl,rfl⟩)|(go_at_call 94;refine(l_funct3 x h0 h1 _).mono ?_;rintro e w' ⟨rfl,rfl⟩)|(go_at_call 89;refine(l_immediateU x h0 h1 _).mono ?_;rintro e w' ⟨rfl,rfl⟩)|(go_at_call 93;refine(l_immediateI x h0 h1 _).mono ?_;rintro e w' ⟨rfl,rfl⟩)|(go_at_call 90;refine(l_immediateJ x h0 h1 _).mono ?_;rintro e w' ⟨rfl,rfl⟩)|(go_at_call 96;refine(l_immediateB x h0 h1 _).mono ?_;rintro e w' ⟨rfl,rfl⟩)|(go_at_call 97;refine(l_immediateS x h0 h1 _).mono ?_;rintro e w' ⟨rfl,rfl⟩))
 go_region_held3 (fun w'=>w'.cell? ⟨2,(f3 x).toNat,none⟩=some (.int .i64 (at8 T23 x))) (go_keep) (first|(go_at_call 87;refine(l_opcode x h0 h1 _).mono ?_;rintro e w' ⟨rfl,rfl⟩)|(go_at_call 88;refine(l_rd x h0 h1 _).mono ?_;rintro e w' ⟨rfl,rfl⟩)|(go_at_call 92;refine(l_rs1 x h0 h1 _).mono ?_;rintro e w' ⟨rfl,rfl⟩)|(go_at_call 95;refine(l_rs2 x h0 h1 _).mono ?_;rintro e w' ⟨rfl,rfl⟩)|(go_at_call 94;refine(l_funct3 x h0 h1 _).mono ?_;rintro e w' ⟨rfl,rfl⟩)|(go_at_call 89;refine(l_immediateU x h0 h1 _).mono ?_;rintro e w' ⟨rfl,rfl⟩)|(go_at_call 93;refine(l_immediateI x h0 h1 _).mono ?_;rintro e w' ⟨rfl,rfl⟩)|(go_at_call 90;refine(l_immediateJ x h0 h1 _).mono ?_;rintro e w' ⟨rfl,rfl⟩)|(go_at_call 96;refine(l_immediateB x h0 h1 _).mono ?_;rintro e w' ⟨rfl,rfl⟩)|(go_at_call 97;refine(l_immediateS x h0 h1 _).mono ?_;rintro e w' ⟨rfl,rfl⟩))
 all_goals
  go_wp2_with fail
  exact X32
end decodes
namespace decodes
open ChangeShapes WideShapes ChangeAt RowKit dnums
theorem hit_T63(x:Int)(h:¬at8 T63 x=-1):f3 x<8/\(#[Value.int IntKind.i64 4,Value.int IntKind.i64 5,Value.int IntKind.i64 99,Value.int IntKind.i64 99,Value.int IntKind.i64 6,Value.int IntKind.i64 7,Value.int IntKind.i64 8,Value.int IntKind.i64 9]:Array Value)[(f3 x).toNat]?=some (.int .i64 (at8 T63 x))/\¬at8 T63 x=99:=by
 unfold at8 at h ⊢
 exact X3a
theorem no_T63(x:Int)(h:at8 T63 x=-1):(8:Int)<=f3 x\/(f3 x<8/\(#[Value.int IntKind.i64 4,Value.int IntKind.i64 5,Value.int IntKind.i64 99,Value.int IntKind.i64 99,Value.int IntKind.i64 6,Value.int IntKind.i64 7,Value.int IntKind.i64 8,Value.int IntKind.i64 9]:Array Value)[(f3 x).toNat]?=some (.int .i64 99)):=by
 unfold at8 at h
 exact X3a
theorem hit_T03(x:Int)(h:¬at8 T03 x=-1):f3 x<6/\(#[Value.int IntKind.i64 10,Value.int IntKind.i64 11,Value.int IntKind.i64 12,Value.int IntKind.i64 99,Value.int IntKind.i64 13,Value.int IntKind.i64 14]:Array Value)[(f3 x).toNat]?=some (.int .i64 (at8 T03 x))/\¬at8 T03 x=99:=by
 unfold at8 at h ⊢
 exact X3b
theorem no_T03(x:Int)(h:at8 T03 x=-1):(6:Int)<=f3 x\/(f3 x<6/\(#[Value.int IntKind.i64 10,Value.int IntKind.i64 11,Value.int IntKind.i64 12,Value.int IntKind.i64 99,Value.int IntKind.i64 13,Value.int IntKind.i64 14]:Array Value)[(f3 x).toNat]?=some (.int .i64 99)):=by
 unfold at8 at h
 exact X3b
theorem hit_T23(x:Int)(h:¬at8 T23 x=-1):f3 x<3/\(#[Value.int IntKind.i64 15,Value.int IntKind.i64 16,Value.int IntKind.i64 17]:Array Value)[(f3 x).toNat]?=some (.int .i64 (at8 T23 x))/\¬at8 T23 x=99:=by
 unfold at8 at h ⊢
 exact X3c
theorem no_T23(x:Int)(h:at8 T23 x=-1):(3:Int)<=f3 x\/(f3 x<3/\(#[Value.int IntKind.i64 15,Value.int IntKind.i64 16,Value.int IntKind.i64 17]:Array Value)[(f3 x).toNat]?=some (.int .i64 99)):=by
 unfold at8 at h
 exact X3c
theorem hit_T13(x:Int)(h:¬at8 T13 x=-1):f3 x<8/\(#[Value.int IntKind.i64 18,Value.int IntKind.i64 99,Value.int IntKind.i64 19,Value.int IntKind.i64 20,Value.int IntKind.i64 21,Value.int IntKind.i64 99,Value.int IntKind.i64 22,Value.int IntKind.i64 23]:Array Value)[(f3 x).toNat]?=some (.int .i64 (at8 T13 x))/\¬at8 T13 x=99:=by
 unfold at8 at h ⊢
 exact X3d
theorem no_T13(x:Int)(h:at8 T13 x=-1):(8:Int)<=f3 x\/(f3 x<8/\(#[Value.int IntKind.i64 18,Value.int IntKind.i64 99,Value.int IntKind.i64 19,Value.int IntKind.i64 20,Value.int IntKind.i64 21,Value.int IntKind.i64 99,Value.int IntKind.i64 22,Value.int IntKind.i64 23]:Array Value)[(f3 x).toNat]?=some (.int .i64 99)):=by
 unfold at8 at h
 exact X3d
theorem hit_T330(x:Int)(h:¬at8 T330 x=-1):f3 x<8/\(#[Value.int IntKind.i64 27,Value.int IntKind.i64 29,Value.int IntKind.i64 30,Value.int IntKind.i64 31,Value.int IntKind.i64 32,Value.int IntKind.i64 33,Value.int IntKind.i64 35,Value.int IntKind.i64 36]:Array Value)[(f3 x).toNat]?=some (.int .i64 (at8 T330 x))/\¬at8 T330 x=99:=by
 unfold at8 at h ⊢
 rcases f3_all x with e|e|e|e|e|e|e|e<;>rw[e]at h ⊢<;>revert h<;>simp[T330]
theorem all_T330(x:Int):¬at8 T330 x=-1:=by
 unfold at8
 rcases f3_all x with e|e|e|e|e|e|e|e<;>rw[e]<;>simp[T330]
theorem hit_T331(x:Int)(h:¬at8 T331 x=-1):f3 x<8/\(#[Value.int IntKind.i64 37,Value.int IntKind.i64 38,Value.int IntKind.i64 39,Value.int IntKind.i64 40,Value.int IntKind.i64 41,Value.int IntKind.i64 42,Value.int IntKind.i64 43,Value.int IntKind.i64 44]:Array Value)[(f3 x).toNat]?=some (.int .i64 (at8 T331 x))/\¬at8 T331 x=99:=by
 unfold at8 at h ⊢
 rcases f3_all x with e|e|e|e|e|e|e|e<;>rw[e]at h ⊢<;>revert h<;>simp[T331]
theorem all_T331(x:Int):¬at8 T331 x=-1:=by
 unfold at8
 rcases f3_all x with e|e|e|e|e|e|e|e<;>rw[e]<;>simp[T331]
theorem hit_T3320(x:Int)(h:¬at8 T3320 x=-1):f3 x<6/\(#[Value.int IntKind.i64 28,Value.int IntKind.i64 99,Value.int IntKind.i64 99,Value.int IntKind.i64 99,Value.int IntKind.i64 99,Value.int IntKind.i64 34]:Array Value)[(f3 x).toNat]?=some (.int .i64 (at8 T3320 x))/\¬at8 T3320 x=99:=by
 unfold at8 at h ⊢
 exact X39
theorem no_T3320(x:Int)(h:at8 T3320 x=-1):(6:Int)<=f3 x\/(f3 x<6/\(#[Value.int IntKind.i64 28,Value.int IntKind.i64 99,Value.int IntKind.i64 99,Value.int IntKind.i64 99,Value.int IntKind.i64 99,Value.int IntKind.i64 34]:Array Value)[(f3 x).toNat]?=some (.int .i64 99)):=by
 unfold at8 at h
 exact X39
theorem hit_T0F(x:Int)(h:¬at8 T0F x=-1):f3 x<2/\(#[Value.int IntKind.i64 45,Value.int IntKind.i64 45]:Array Value)[(f3 x).toNat]?=some (.int .i64 (at8 T0F x))/\¬at8 T0F x=99:=by
 unfold at8 at h ⊢
 exact X3e
theorem no_T0F(x:Int)(h:at8 T0F x=-1):(2:Int)<=f3 x\/(f3 x<2/\(#[Value.int IntKind.i64 45,Value.int IntKind.i64 45]:Array Value)[(f3 x).toNat]?=some (.int .i64 99)):=by
 unfold at8 at h
 exact X3e
theorem hit_T67(x:Int)(h:¬at8 T67 x=-1):f3 x<1/\(#[Value.int IntKind.i64 3]:Array Value)[(f3 x).toNat]?=some (.int .i64 (at8 T67 x))/\¬at8 T67 x=99:=by
 unfold at8 at h ⊢
 exact X3f
theorem no_T67(x:Int)(h:at8 T67 x=-1):(1:Int)<=f3 x\/(f3 x<1/\(#[Value.int IntKind.i64 3]:Array Value)[(f3 x).toNat]?=some (.int .i64 99)):=by
 unfold at8 at h
 exact X3f
end decodes
end Go.Proofs.YtjikimpejlmdiaaGreatDoor

import Derived.Test.YtjikimpejlmdiaaGreatDoorZGw
import Derived.BigQuiet
import Derived.Deep.AppendLies
import Derived.Deep.Cut
import Derived.Deep.CutRange
set_option maxHeartbeats 4000000
set_option linter.unusedVariables false
set_option linter.unusedSimpArgs false
set_option maxRecDepth 10000
namespace Go.Proofs.YtjikimpejlmdiaaGreatDoor
theorem Xx0{p:Prop}(h:p:=by
 go_roundw
 case rel=>
  have hl3:=HL.out
  have HRMo:=HRM.out
  refine⟨j+1,q+4,_,by omega,by have:=HQ.out;omega,by simp,HB4.out,fun h0=>by omega,fun h3=> ?_,fun h3=> ?_⟩
  ·rw[if_neg (by have:=HQ.out;omega)]at hl3
   rw[hl3,show 8-(j+1)=n7 by omega,show(((q+4:Nat)):Int)=(q:Int)+4 by simp,show(((j+1:Nat)):Int)=(j:Int)+1 by simp]
   omega
  ·by_cases hp:((q:Int)+4)%64=0
   ·rw[if_pos hp]at hl3;rw[hl3];simp
   ·rw[if_neg hp]at hl3
    obtain rfl:n7=0:=by have:=HQ.out;omega
    rw[hl3];simp[blockLen]
 case measure=>
  show bdm (w.heap.size+1) _<bdm (w.heap.size+1) wr
  rw[bdm_at HB4.out,bdm_at HBj.out];omega):p:=h
theorem Xx1{p:Prop}(h:p:=by
 go_enter Tryz.func140,Tryz.ntmps140
 go_wp2
 go_ret
 exact⟨rfl,rfl⟩):p:=h
theorem Xx2{p:Prop}(h:p:=by
 refine bodyPost_ret (results_c Tryz.results107 _ _ _ w.heap.size (Array.toList #[Value.int .u32 (k:Int),(.slice (some ⟨g,0,none⟩) (j+1) cap)]) rF _ R12.out Tryz.underlying128 rfl info_bl) rfl ?_
 exact Or.inr ⟨g,(j+1),cap,rfl,⟨by rw[HN.out,HL.out];simp,by omega,by omega,HG2.out.2,by have:=HG2.out.1;omega⟩,StepsIn.touch (steps_in HB4.out.ow) oM U12.out (by have:=HG2.out.1;simp;omega),T12.out⟩):p:=h
theorem Xx3{p:Prop}(h:p:=by rcases hat with qq|qq;(· exact(ref.own_lt HB9.out.ow g (ref.sblk_own.2 qq)).1);have:=HB9.out.lt;omega):p:=h
theorem Xx4{p:Prop}(h:p:=by rw[<-hw9];exact World.rangeAt_setCells_same _ _ _ _ (there_new w7 _ _)):p:=h
theorem Xx5{p:Prop}(h:p:=by rw[<-hw12];exact World.rangeAt_setCells_same _ _ _ _ HB4.out.th):p:=h
theorem Xx6{p:Prop}(h:p:=by rw[<-hw12];exact touch_setsP sP _ _ _ _ (ref.Touch.refl _ _)):p:=h
theorem Xx7{p:Prop}(h:p:=by rw[<-hw12];exact touch_newP _ _ _ _ HB4.out.t sP):p:=h
theorem Xx8{p:Prop}(h:p:=by rw[<-hw9];exact touch_newP _ _ _ _ tcb sP):p:=h
theorem Xx9{p:Prop}(h:p:=by show w.heap.size+1<w9.heap.size;omega):p:=h
theorem Xxa{p:Prop}(h:p:=by have:=ref.opn_bd (ld m.mem q 4);omega):p:=h
theorem Xxb{p:Prop}(h:p:=by have:=HB9.out.lt;simp;omega):p:=h
theorem Xxc{p:Prop}(h:p:=by simp[stepL,Value.oneCell']):p:=h
theorem Xxd{p:Prop}(h:p:=by rw[<-HQ.out];exact hown):p:=h
namespace prog
open ChangeShapes WideShapes ChangeAt RowKit nums dnums mach
attribute [local go_sem ↓] Go.wp_at_zero Go.wp_at_succ
theorem eb_2(w:World):Calls Tryz.prog 140 #[.int .i64 2] w fun e w'=>e=.returned (.bool true)/\w'=w:=by
 exact Xx1
theorem eb_3(w:World):Calls Tryz.prog 140 #[.int .i64 3] w fun e w'=>e=.returned (.bool true)/\w'=w:=by
 exact Xx1
theorem eb_4(w:World):Calls Tryz.prog 140 #[.int .i64 4] w fun e w'=>e=.returned (.bool true)/\w'=w:=by
 exact Xx1
theorem eb_5(w:World):Calls Tryz.prog 140 #[.int .i64 5] w fun e w'=>e=.returned (.bool true)/\w'=w:=by
 exact Xx1
theorem eb_6(w:World):Calls Tryz.prog 140 #[.int .i64 6] w fun e w'=>e=.returned (.bool true)/\w'=w:=by
 exact Xx1
theorem eb_7(w:World):Calls Tryz.prog 140 #[.int .i64 7] w fun e w'=>e=.returned (.bool true)/\w'=w:=by
 exact Xx1
theorem eb_8(w:World):Calls Tryz.prog 140 #[.int .i64 8] w fun e w'=>e=.returned (.bool true)/\w'=w:=by
 exact Xx1
theorem eb_9(w:World):Calls Tryz.prog 140 #[.int .i64 9] w fun e w'=>e=.returned (.bool true)/\w'=w:=by
 exact Xx1
theorem eb_46(w:World):Calls Tryz.prog 140 #[.int .i64 46] w fun e w'=>e=.returned (.bool true)/\w'=w:=by
 exact Xx1
theorem eb_47(w:World):Calls Tryz.prog 140 #[.int .i64 47] w fun e w'=>e=.returned (.bool true)/\w'=w:=by
 exact Xx1
theorem eb_lo(op:Int)(h0:0<=op)(h1:op<=1)(w:World):Calls Tryz.prog 140 #[.int .i64 op] w fun e w'=>e=.returned (.bool false)/\w'=w:=by
 exact Xx1
theorem eb_mid(op:Int)(h0:10<=op)(h1:op<=45)(w:World):Calls Tryz.prog 140 #[.int .i64 op] w fun e w'=>e=.returned (.bool false)/\w'=w:=by
 exact Xx1
theorem eb_any(op:Int)(h0:0<=op)(h1:op<=47)(w:World):Calls Tryz.prog 140 #[.int .i64 op] w fun e w'=>e=.returned (.bool (ends op))/\w'=w:=by
 by_cases c:op=2
 ·subst c;exact eb_2 w
 by_cases c:op=3
 ·subst c;exact eb_3 w
 by_cases c:op=4
 ·subst c;exact eb_4 w
 by_cases c:op=5
 ·subst c;exact eb_5 w
 by_cases c:op=6
 ·subst c;exact eb_6 w
 by_cases c:op=7
 ·subst c;exact eb_7 w
 by_cases c:op=8
 ·subst c;exact eb_8 w
 by_cases c:op=9
 ·subst c;exact eb_9 w
 by_cases c:op=46
 ·subst c;exact eb_46 w
 by_cases c:op=47
 ·subst c;exact eb_47 w
 have e:ends op=false:=by simp only[ends];rw[decide_eq_false oM]
 rw[e]
 by_cases c:op<=1
 ·exact eb_lo op h0 c w
 ·exact eb_mid op oM oM w
theorem tnewP{S T:List Nat}{u v w:World}(h:ref.Touch S u v)(k:ref.Touch T v w)(hT:∀i,i∈T->u.heap.size<=i):ref.Touch S u w:=
 ⟨k.os.trans h.os,k.tape.trans h.tape,k.output.trans h.output,Nat.le_trans h.size k.size,fun i hi hn=>(k.block i (Nat.lt_of_lt_of_le hi h.size) (fun hm=>absurd (hT i hm) (Nat.not_le.mpr hi))).trans (h.block i hi hn)⟩
theorem row_getP{w:World}{base e size n g cap:Nat}{xs:List Value}(h:w.ownsRow base e size (.slice (some ⟨g,0,none⟩) n cap) n xs)(i:Nat)(u:Value)(hu:xs[i]?=some u):w.cell? ⟨g,i,none⟩=some u:=by
 rcases h.2 with⟨h1,_⟩|⟨g',cap',cur,hv,hb,hg,hn,hm,hs,ht⟩
 ·cases h1
 ·injection hv with e1 e2 e3
  injection e1 with e1
  injection e1 with e1
  subst e1
  rw[cell_of_row w g i cur e (0,0) hg]
  rw[<-ht,List.getElem?_take]at hu
  by_cases c:i<n*size
  ·rw[if_pos c]at hu;simpa using hu
  ·rw[if_neg c]at hu;cases hu
theorem row_own{w:World}{base e size n:Nat}{v:Value}{xs:List Value}(h:w.ownsRow base e size v n xs):(v=.slice none 0 0/\n=0)\/∃g cap,v=.slice (some ⟨g,0,none⟩) n cap/\base<=g/\n<=cap:=by
 rcases h.2 with h1|⟨g',cap',cur,hv,hb,hg,hn,hm,hs,ht⟩
 ·exact Or.inl h1
 ·exact Or.inr ⟨g',cap',hv,hb,hn⟩
def stepL (x:Int):List Value:=[.func (.func (kofx (opn x))) #[] #[],.int .i64 (opn x),.int .i64 (qRd x),.int .i64 (qR1 x),.int .i64 (qR2 x),.int .i32 (imm x)]
def stepsL (mem:Nat->Int) (a:Nat):Nat->List Value
 |0=>[]
 |j+1=>stepsL mem a j++stepL (ld mem (a+4*j) 4)
theorem stepsL_len(mem:Nat->Int)(a:Nat):∀j,(stepsL mem a j).length=j*6
 |0=>rfl
 |j+1=>by simp[stepsL,stepL,stepsL_len mem a j];omega
theorem stepsL_at(mem:Nat->Int)(a:Nat):∀(n j t:Nat),j<n->t<6->(stepsL mem a n)[j*6+t]?=some (stepC (ld mem (a+4*j) 4) t)
 |0,j,t,h,_=>by omega
 |n+1,j,t,h,ht=>by
  have hl:=stepsL_len mem a n
  unfold stepsL
  by_cases e:j<n
  ·rw[List.getElem?_append_left oM]
   exact stepsL_at mem a n j t e ht
  ·obtain rfl:j=n:=by omega
   rw[List.getElem?_append_right oM,hl,show j*6+t-j*6=t by omega]
   have:t=0\/t=1\/t=2\/t=3\/t=4\/t=5:=by omega
   rcases this with rfl|rfl|rfl|rfl|rfl|rfl<;>rfl
theorem steps_in{w:World}{base g cap n a:Nat}{mem:Nat->Int}(h:w.ownsRow base 96 6 (.slice (some ⟨g,0,none⟩) n cap) n (stepsL mem a n)):StepsIn g n a mem w:=by
 refine⟨?_,fun j hj t ht=> ?_⟩
 ·rcases h.2 with⟨h1,_⟩|⟨g',cap',cur,hv,hb,hg,hn,hm,hs,ht⟩
  ·cases h1
  ·injection hv with e1 e2 e3
   injection e1 with e1
   injection e1 with e1
   subst e1
   exact⟨cur,(0,0),hg⟩
 have:=row_getP h (j*6+t) _ (stepsL_at mem a n j t hj ht)
 rw[this,show((a:Int)+4*(j:Int)).toNat=a+4*j by omega]
structure BdAt (w:World) (k j:Nat) (mem:Nat->Int) (vS:Value) (Y:World):Prop where
 t:ref.Touch [] w Y
 th:Y.there w.heap.size 0 2
 rg:Y.rangeAt (w.heap.size+1) 0 [.int .u32 (k:Int),vS]
 fr:∀i,Y.frozen? ⟨w.heap.size+1,i,none⟩=false
 ow:Y.ownsRow (w.heap.size+1+1) 96 6 vS j (stepsL mem k j)
theorem rangeAt_t{w w':World}{S:List Nat}{g:Nat}{cs:List Value}(h:w.rangeAt g 0 cs)(hg:g<w.heap.size)(t:ref.Touch S w w')(hS:g∉S):w'.rangeAt g 0 cs:=fun j v hv=>by
 rw[t.cell (p:=⟨g,0+j,none⟩) hg hS];exact h j v hv
theorem BdAt.lt {w:World}{k j:Nat}{mem:Nat->Int}{vS:Value}{Y:World}(h:BdAt w k j mem vS Y):w.heap.size+1<Y.heap.size:=World.block_lt_of_cell? _ _ (h.rg 0 _ rfl)
theorem BdAt.step {w:World}{k j:Nat}{mem:Nat->Int}{vS:Value}{Y Y':World}(h:BdAt w k j mem vS Y)(t:ref.Touch [] Y Y'):BdAt w k j mem vS Y':=
 ⟨h.t.trans t,there_t h.th dC t sP,rangeAt_t h.rg h.lt t sP,fun i=>(t.frozen (p:=⟨w.heap.size+1,i,none⟩) h.lt sP).trans (h.fr i),ref.own_touch h.ow t sP⟩
theorem BdAt.b1 {w:World}{k j:Nat}{mem:Nat->Int}{vS:Value}{Y:World}(h:BdAt w k j mem vS Y):Y.cell? ⟨w.heap.size+1,1,none⟩=some vS:=h.rg 1 _ rfl
theorem BdAt.more {w:World}{k j g cap:Nat}{mem:Nat->Int}{vS:Value}{Y Y':World}(h:BdAt w k j mem vS Y)(t:ref.Touch (ref.sblk vS) Y Y')(hg:w.heap.size+1+1<=g)(ho:Y'.ownsRow (w.heap.size+1+1) 96 6 (.slice (some ⟨g,0,none⟩) (j+1) cap) (j+1) (stepsL mem k j++stepL (ld mem (k+4*j) 4))):
  BdAt w k (j+1) mem (.slice (some ⟨g,0,none⟩) (j+1) cap) (Y'.setCell ⟨w.heap.size+1,1,none⟩ (.slice (some ⟨g,0,none⟩) (j+1) cap)):=by
 have hbl:∀i,i∈ref.sblk vS->w.heap.size+1+1<=i:=fun i hi=>(ref.own_lt h.ow i hi).1
 have n1:w.heap.size+1∉ref.sblk vS:=fun hc=>by have:=hbl _ hc;omega
 have n0:w.heap.size∉ref.sblk vS:=fun hc=>by have:=hbl _ hc;omega
 have t2:ref.Touch [w.heap.size+1] Y' (Y'.setCell ⟨w.heap.size+1,1,none⟩ (.slice (some ⟨g,0,none⟩) (j+1) cap)):=(ref.Touch.refl _ _).setCell sP _
 have r':=rangeAt_t h.rg h.lt t n1
 refine⟨tnewP (tnewP h.t t (fun i hi=>by have:=hbl i hi;omega)) t2 sP,there_t (there_t h.th dC t n0) dC t2 sP,fun i v hv=> ?_,fun i=>by rw[World.frozen?_setCell];exact(t.frozen (p:=⟨w.heap.size+1,i,none⟩) h.lt n1).trans (h.fr i),ref.own_touch ho t2 (by simp[ref.sblk];omega)⟩
 rcases i with _|_|i
 ·rw[World.cell?_setCell_other _ _ _ _ (by intro e;injection e with _ e;omega)]
  simp at hv;subst hv;exact r' 0 _ rfl
 ·rw[World.cell?_setCell_same _ _ _ (r' 1 _ rfl)]
  simpa using hv
 ·simp at hv
end prog
namespace prog
open ChangeShapes WideShapes ChangeAt RowKit nums dnums mach
attribute [local go_sem ↓] Go.wp_at_zero Go.wp_at_succ
theorem rowcap{w:World}{base e size n g cap:Nat}{xs:List Value}(h:w.ownsRow base e size (.slice (some ⟨g,0,none⟩) n cap) n xs):n<=cap:=by
 rcases h.2 with⟨h1,_⟩|⟨g',cap',cur,hv,hb,hg,hn,hm,hs,ht⟩
 ·cases h1
 ·injection hv with e1 e2 e3
  omega
theorem info_stp:(Tryz.prog.info? 96).map (fun i=>(i.zero,i.size,i.bytes))=some (some (.agg #[.nilFunc,.int .i64 0,.int .i64 0,.int .i64 0,.int .i64 0,.int .i32 0]),6,48):=by kernel_rfl
def bdm (g:Nat) (w:World):Nat:=match w.cell? ⟨g,1,none⟩with|some (.slice _ n _)=>9-n|_=>9
theorem bdm_at{w Y:World}{k j:Nat}{mem:Nat->Int}{vS:Value}(h:BdAt w k j mem vS Y):bdm (w.heap.size+1) Y=9-j:=by
 unfold bdm
 rw[h.b1]
 rcases row_own h.ow with⟨rfl,rfl⟩|⟨g,cap,rfl,_,_⟩<;>rfl
def BuildQ (k:Nat) (mem:Nat->Int) (w:World) (e:Ending) (w':World):Prop:=
 (blockLen mem 8 k=0/\e=.panicked (trapV 2)/\ref.Touch [] w w')\/
 ∃kb n c:Nat,e=.returned (.agg #[.int .u32 (k:Int),.slice (some ⟨kb,0,none⟩) n c])/\((n:Int)=blockLen mem 8 k/\0<n/\n<=8/\n<=c/\w.heap.size<=kb)/\StepsIn kb n k mem w'/\ref.Touch [] w w'
theorem build_r{B b mb:Nat}{m:M}{nx:Int}{vX:Nat->Value}{w:World}(h:PAt B b mb m nx vX w)(hz:0<m.size)(hf:Fine m)(h64:m.size%64=0)(k:Nat)(hk:m.pc=k)(ha:k%4=0)(hk4:k+4<=m.size)(hT:∀w' x,ref.Touch [] w w'->decodes.Tabs w' x)(rm:Nat)(hrm:(64-(k:Int)%64<32/\64-(k:Int)%64=(rm:Int))\/(¬64-(k:Int)%64<32/\rm=32)):
  Calls Tryz.prog 107 #[.pointer (some ⟨b,0,none⟩)] w (BuildQ k m.mem w):=by
 have HH:Hid (∀w',ref.Touch [] w w'->PAt B b mb m nx vX w'):=fun w' t=>h.other t sP sP hz
 have HF:Hid (Fine m):=hf
 have HZ:Hid (0<m.size):=hz
 have HTb:Hid (∀w' x,ref.Touch [] w w'->decodes.Tabs w' x):=hT
 have z5:=hf.size
 have lb:b<w.heap.size:=World.block_lt_of_cell? _ _ h.data
 obtain⟨i0,hi,hz0,hz1,hz2⟩:=info_parts info_stp
 obtain⟨N,hN⟩:∃N,blockLen m.mem 8 k=N:=⟨_,rfl⟩
 have HN:Hid (blockLen m.mem 8 k=N):=hN
 have HB0:Hid (BdAt w k 0 m.mem (.slice none 0 0) ((w.alloc (.cells #[.int .u32 0,.slice none 0 0] 128)).alloc (.cells #[.int .u32 (k:Int),.slice none 0 0] 128))):=⟨((ref.Touch.refl _ _).alloc _).alloc _,World.there_alloc (there_new w _ _) _,fun i v hv=>by rw[Nat.zero_add,World.cell?_alloc_at _ _ _ _ sP];rcases i with _|_|i;(· simpa using hv);(· simpa using hv);simp at hv,fun i=>World.frozen?_alloc_at _ _ _ _ sP,World.ownsRow_nil _ _ _ _⟩
 have cpc:w.cell? ⟨b,33,none⟩=some (.int .u32 (k:Int)):=(h.cells 33 dC dC).trans (by rw[<-hk];rfl)
 have k5:(k:Int)<=512:=by omega
 have k0:(0:Int)<=(k:Int):=by omega
 have HRM:Hid ((rm:Int)<=32/\(rm:Int)<=64-(k:Int)%64/\4<=rm/\((rm:Int)=32\/(rm:Int)=64-(k:Int)%64)/\rm%4=0):=⟨by omega,by omega,by omega,by omega,by omega⟩
 have HSt:Hid (N=((0:Nat):Int)+blockLen m.mem (8-0) ((k:Nat):Int)):=(by rw[<-hN];simp:N=((0:Nat):Int)+blockLen m.mem (8-0) ((k:Nat):Int))
 have rm32:(rm:Int)<=32:=HRM.out.1
 have HRM2:Hid ((64-(k:Int)%64<32/\64-(k:Int)%64=(rm:Int))\/(¬64-(k:Int)%64<32/\rm=32)):=hrm
 clear h hf hN hk hT hz hrm
 go_enter Tryz.func107,Tryz.ntmps107
 go_upto_region 2 with fail
 go_cut [4]from 13 to 19 (fun s wx=>s=.int .u32 (rm:Int)/\wx=((w.alloc (.cells #[.int .u32 0,.slice none 0 0] 128)).alloc (.cells #[.int .u32 (k:Int),.slice none 0 0] 128)))
 case first=>
  rcases HRM2.out with⟨hr,hrm⟩|⟨hr,hrm⟩
  ·go_wp2_with fail
   go_meet
   exact⟨by first|rfl|(simp[hrm];done)|rw[hrm],rfl⟩
  ·go_wp2_with fail
   go_meet
   exact⟨by first|rfl|(simp[hrm];done)|(rw[hrm];rfl),rfl⟩
 case rest=>
 obtain⟨rfl,hwc⟩:=hcut
 subst hwc
 go_wp2_with fail
 go_loopw [5] (fun i wr=>∃(j q:Nat) (vS:Value),4*j<=rm/\q=k+4*j/\i=.int .u32 (q:Int)/\BdAt w k j m.mem vS wr/\(j=0->vS=.slice none 0 0)/\(4*j<rm->N=(j:Int)+blockLen m.mem (8-j) (q:Int))/\(4*j=rm->N=(j:Int))) (fun _ wr=>bdm (w.heap.size+1) wr)
 case atStart=>exact⟨0,k,_,by omega,by omega,rfl,HB0.out,fun _=>rfl,fun _=>HSt.out,fun hh=>by have:=HRM.out;omega⟩
 case round=>
  obtain⟨j,q,vS,hj,hq,rfl,hb,hv0,hl1,hl2⟩:=hrel
  have HBj:Hid (BdAt w k j m.mem vS wr):=hb
  have cpr:wr.cell? ⟨b,33,none⟩=some (.int .u32 (k:Int)):=(hb.t.cell (p:=⟨b,33,none⟩) lb sP).trans cpc
  have HRMo:=HRM.out
  have q5:(q:Int)<=600:=by omega
  by_cases hlt:4*j<rm
  rotate_left
  ·have HL:Hid (N=(j:Int)):=hl2 oM
   rcases row_own hb.ow with⟨_,hj0⟩|⟨gj,cj,rfl,hgb,hgc⟩
   ·omega
   have b1:=hb.b1
   have hge:¬(q:Int)<(k:Int)+(rm:Int):=by omega
   have hj2:¬(j:Int)=0:=by omega
   clear hb hl1 hl2 HRMo hv0 hq
   go_wp2_with (first|(refine wpList_load_mid rF 128 (.tmp 3) rF (w.heap.size+1) 0 rF (Array.toList #[Value.int .u32 (k:Int),(.slice (some ⟨gj,0,none⟩) j cj)]) _ HBj.out.rg Tryz.underlying128 rfl info_bl ?_)|(refine wpList_store_mid rF 128 (.tmp 2) (.tmp 57) rF w.heap.size 0 #[Value.int .u32 (k:Int),(.slice (some ⟨gj,0,none⟩) j cj)] rF rF HBj.out.th info_bl oC ?_;generalize hw12:World.setCells _ w.heap.size 0 (Array.toList #[Value.int .u32 (k:Int),(.slice (some ⟨gj,0,none⟩) j cj)])=w12;have R12:Hid (w12.rangeAt w.heap.size 0 (Array.toList #[Value.int .u32 (k:Int),(.slice (some ⟨gj,0,none⟩) j cj)])):=(by rw[<-hw12];exact World.rangeAt_setCells_same _ _ _ _ HBj.out.th);have T12:Hid (ref.Touch [] w w12):=(by rw[<-hw12];exact touch_newP _ _ _ _ HBj.out.t sP);have U12:Hid (ref.Touch [w.heap.size] (wr) w12):=Xx6;clear hw12))
   refine bodyPost_ret (results_c Tryz.results107 _ _ _ w.heap.size (Array.toList #[Value.int .u32 (k:Int),(.slice (some ⟨gj,0,none⟩) j cj)]) rF _ R12.out Tryz.underlying128 rfl info_bl) rfl ?_
   exact Or.inr ⟨gj,j,cj,rfl,⟨by rw[HN.out,HL.out],by omega,by omega,hgc,by omega⟩,StepsIn.touch (steps_in HBj.out.ow) oM U12.out (by simp;omega),T12.out⟩
  ·have hlen:=hl1 hlt
   have hq4:q+4<=m.size:=by omega
   have x0:0<=ld m.mem q 4:=(ld4 m.mem HF.out.mem q).1
   have x1:ld m.mem q 4<=4294967295:=(ld4 m.mem HF.out.mem q).2
   obtain⟨n7,hn8⟩:∃n,8-j=n+1:=⟨7-j,by omega⟩
   rw[hn8]at hlen
   simp only[blockLen,Int.toNat_natCast]at hlen
   have HQ:Hid (q=k+4*j):=hq
   have hgt:(q:Int)<(k:Int)+(rm:Int):=by omega
   have j7:j<=7:=by omega
   have w4:IntKind.u32.wrap ((q:Int)+4)=(q:Int)+4:=by rw[IntKind.wrap_u32];omega
   rcases row_own hb.ow with⟨rfl,hj0⟩|⟨gj,cj,rfl,hgb,hgc⟩
   ·have HJ0:Hid (j=0):=hj0
    clear hb hl1 hl2 hq HRMo hj0 hv0
    by_cases hn:opn (ld m.mem q 4)=-1
    ·rw[if_pos hn]at hlen
     have HL:Hid (N=(j:Int)):=(by rw[hlen];simp:N=(j:Int))
     clear hlen
     go_wp2_with (first|(go_at_call 75;refine(Calls.mono (ready_no (HH.out _ HBj.out.t) HZ.out HF.out q hq4 (fun w' t=>HTb.out w' _ (HBj.out.t.trans t)) hn) ?_);rintro e w7 ⟨rfl,ht7⟩;have t7:ref.Touch [] wr w7:=ht7;have HB7:Hid (BdAt w k j m.mem (.slice none 0 0) w7):=HBj.out.step ht7;clear ht7)|(refine wpList_store_mid rF 96 (.tmp 6) (.tmp 38) rF w7.heap.size 0 #[Value.nilFunc,Value.int .i64 0,Value.int .i64 0,Value.int .i64 0,Value.int .i64 0,Value.int .i32 0] rF rF (there_new w7 _ _) info_st oC ?_;generalize hw9:World.setCells _ w7.heap.size 0 (Array.toList #[Value.nilFunc,Value.int .i64 0,Value.int .i64 0,Value.int .i64 0,Value.int .i64 0,Value.int .i32 0])=w9;have R9:Hid (w9.rangeAt w7.heap.size 0 (Array.toList #[Value.nilFunc,Value.int .i64 0,Value.int .i64 0,Value.int .i64 0,Value.int .i64 0,Value.int .i32 0])):=Xx4;have T9:Hid (ref.Touch [] w7 w9):=Xx8;clear hw9;have HB9:Hid (BdAt w k j m.mem (.slice none 0 0) w9):=HB7.out.step T9.out;have c9:w9.cell? ⟨w.heap.size+1,1,none⟩=some (.slice none 0 0):=HB9.out.b1;have l7:w.heap.size+1<w7.heap.size:=HB7.out.lt;have l9:w7.heap.size<w9.heap.size:=World.block_lt_of_cell? _ _ (R9.out 0 _ rfl))|(go_at_call 76;refine(end_any 2 _).mono ?_;rintro e w' ⟨rfl,hw'⟩;subst w'))
     exact⟨rfl,Or.inl ⟨by rw[HN.out,HL.out,HJ0.out];rfl,rfl,HB9.out.t⟩⟩
    ·rw[if_neg hn]at hlen
     cases he:ends (opn (ld m.mem q 4))with
     |true=>
      have HL:Hid (N=(j:Int)+1):=(by rw[hlen];simp[he]:N=(j:Int)+1)
      clear hlen
      go_wp2_with (first|(go_at_call 75;refine(Calls.mono (ready_ok (HH.out _ HBj.out.t) HZ.out HF.out q hq4 (fun w' t=>HTb.out w' _ (HBj.out.t.trans t)) hn (kofx (opn (ld m.mem q 4))) (fun w=>ao_all _ Xxa Xxa w)) ?_);rintro e w7 ⟨rfl,ht7⟩;have t7:ref.Touch [] wr w7:=ht7;have HB7:Hid (BdAt w k j m.mem (.slice none 0 0) w7):=HBj.out.step ht7;clear ht7)|(refine wpList_store_mid rF 96 (.tmp 6) (.tmp 38) rF w7.heap.size 0 #[Value.func (.func (kofx (opn (ld m.mem q 4)))) #[] #[],Value.int .i64 (opn (ld m.mem q 4)),Value.int .i64 (qRd (ld m.mem q 4)),Value.int .i64 (qR1 (ld m.mem q 4)),Value.int .i64 (qR2 (ld m.mem q 4)),Value.int .i32 (imm (ld m.mem q 4))] rF rF (there_new w7 _ _) info_st oC ?_;generalize hw9:World.setCells _ w7.heap.size 0 (Array.toList #[Value.func (.func (kofx (opn (ld m.mem q 4)))) #[] #[],Value.int .i64 (opn (ld m.mem q 4)),Value.int .i64 (qRd (ld m.mem q 4)),Value.int .i64 (qR1 (ld m.mem q 4)),Value.int .i64 (qR2 (ld m.mem q 4)),Value.int .i32 (imm (ld m.mem q 4))])=w9;have R9:Hid (w9.rangeAt w7.heap.size 0 (Array.toList #[Value.func (.func (kofx (opn (ld m.mem q 4)))) #[] #[],Value.int .i64 (opn (ld m.mem q 4)),Value.int .i64 (qRd (ld m.mem q 4)),Value.int .i64 (qR1 (ld m.mem q 4)),Value.int .i64 (qR2 (ld m.mem q 4)),Value.int .i32 (imm (ld m.mem q 4))])):=Xx4;have T9:Hid (ref.Touch [] w7 w9):=Xx8;clear hw9;have HB9:Hid (BdAt w k j m.mem (.slice none 0 0) w9):=HB7.out.step T9.out;have c9:w9.cell? ⟨w.heap.size+1,1,none⟩=some (.slice none 0 0):=HB9.out.b1;have l7:w.heap.size+1<w7.heap.size:=HB7.out.lt;have l9:w7.heap.size<w9.heap.size:=World.block_lt_of_cell? _ _ (R9.out 0 _ rfl))|(refine wpList_load_mid rF 96 (.tmp 6) rF w7.heap.size 0 rF (Array.toList #[Value.func (.func (kofx (opn (ld m.mem q 4)))) #[] #[],Value.int .i64 (opn (ld m.mem q 4)),Value.int .i64 (qRd (ld m.mem q 4)),Value.int .i64 (qR1 (ld m.mem q 4)),Value.int .i64 (qR2 (ld m.mem q 4)),Value.int .i32 (imm (ld m.mem q 4))]) _ R9.out Tryz.underlying96 rfl info_st ?_)|(at_builtin;(refine wpList_append_lies _ rF _ _ _ rF (w.heap.size+1+1) 96 i0 _ 6 48 Tryz.underlying126 hi hz0 hz1 hz2 rF dC (.slice none 0 0) j (stepsL m.mem k j) rF (HB9.out.ow.alloc _) ⟨w9.heap.size,0,none⟩ 1 1 (stepL (ld m.mem q 4)) rF rF (World.news_of_block (cs:=#[Value.func (.func (kofx (opn (ld m.mem q 4)))) #[] #[],Value.int .i64 (opn (ld m.mem q 4)),Value.int .i64 (qRd (ld m.mem q 4)),Value.int .i64 (qR1 (ld m.mem q 4)),Value.int .i64 (qR2 (ld m.mem q 4)),Value.int .i32 (imm (ld m.mem q 4))]) (heap_alloc_new w9 _)) Xxc dC mL oM Xxb (w9.heap.size+1) sP ?_);intro g cap w4 hown hgrow hat hlt2;have hg2:w.heap.size+1+1<=g:=Xx3;have tg:ref.Touch (ref.sblk (.slice none 0 0)) w9 w4:=((ref.Touch.refl _ _).alloc _).trans (ref.touch_grown hgrow);have HB4:Hid (BdAt w k (j+1) m.mem (.slice (some ⟨g,0,none⟩) (j+1) cap) (w4.setCell ⟨w.heap.size+1,1,none⟩ (.slice (some ⟨g,0,none⟩) (j+1) cap))):=HB9.out.more tg hg2 Xxd;obtain⟨u4,c4⟩:∃u,w4.cell? ⟨w.heap.size+1,1,none⟩=some u:=⟨_,(tg.cell (p:=⟨w.heap.size+1,1,none⟩) Xx9 (fun hc=>by have hq:w.heap.size+1+1<=w.heap.size+1:=(ref.own_lt HB9.out.ow _ hc).1;omega)).trans c9⟩;have f4:w4.frozen? ⟨w.heap.size+1,1,none⟩=false:=(tg.frozen (p:=⟨w.heap.size+1,1,none⟩) Xx9 (fun hc=>by have hq:w.heap.size+1+1<=w.heap.size+1:=(ref.own_lt HB9.out.ow _ hc).1;omega)).trans (HB9.out.fr 1);have o4:w4.cell? ⟨w7.heap.size,1,none⟩=some (.int .i64 (opn (ld m.mem q 4))):=(tg.cell (p:=⟨w7.heap.size,1,none⟩) l9 (fun hc=>absurd (ref.own_lt HB7.out.ow _ hc).2 (Nat.lt_irrefl _))).trans (R9.out 1 _ rfl);have HG2:Hid (w.heap.size+1+1<=g/\j+1<=cap):=⟨hg2,rowcap hown⟩;clear hown hgrow hat hlt2 tg hg2)|(go_at_call 140;refine(Calls.mono (eb_any (opn (ld m.mem q 4)) Xxa Xxa _) ?_);rintro e w5 ⟨rfl,hw5⟩;subst w5;rw[he])|(refine wpList_load_mid rF 128 (.tmp 3) rF (w.heap.size+1) 0 rF (Array.toList #[Value.int .u32 (k:Int),(.slice (some ⟨g,0,none⟩) (j+1) cap)]) _ HB4.out.rg Tryz.underlying128 rfl info_bl ?_)|(refine wpList_store_mid rF 128 (.tmp 2) (.tmp 57) rF w.heap.size 0 #[Value.int .u32 (k:Int),(.slice (some ⟨g,0,none⟩) (j+1) cap)] rF rF HB4.out.th info_bl oC ?_;generalize hw12:World.setCells _ w.heap.size 0 (Array.toList #[Value.int .u32 (k:Int),(.slice (some ⟨g,0,none⟩) (j+1) cap)])=w12;have R12:Hid (w12.rangeAt w.heap.size 0 (Array.toList #[Value.int .u32 (k:Int),(.slice (some ⟨g,0,none⟩) (j+1) cap)])):=Xx5;have T12:Hid (ref.Touch [] w w12):=Xx7;have U12:Hid (ref.Touch [w.heap.size] (w4.setCell ⟨w.heap.size+1,1,none⟩ (.slice (some ⟨g,0,none⟩) (j+1) cap)) w12):=Xx6;clear hw12))
      exact Xx2
     |false=>
      have HL:Hid (N=(j:Int)+(if((q:Int)+4)%64=0 then 1 else 1+blockLen m.mem n7 ((q:Int)+4))):=(by rw[hlen];simp[he]:N=(j:Int)+(if((q:Int)+4)%64=0 then 1 else 1+blockLen m.mem n7 ((q:Int)+4)))
      clear hlen
      go_wp2_with (first|(go_at_call 75;refine(Calls.mono (ready_ok (HH.out _ HBj.out.t) HZ.out HF.out q hq4 (fun w' t=>HTb.out w' _ (HBj.out.t.trans t)) hn (kofx (opn (ld m.mem q 4))) (fun w=>ao_all _ Xxa Xxa w)) ?_);rintro e w7 ⟨rfl,ht7⟩;have t7:ref.Touch [] wr w7:=ht7;have HB7:Hid (BdAt w k j m.mem (.slice none 0 0) w7):=HBj.out.step ht7;clear ht7)|(refine wpList_store_mid rF 96 (.tmp 6) (.tmp 38) rF w7.heap.size 0 #[Value.func (.func (kofx (opn (ld m.mem q 4)))) #[] #[],Value.int .i64 (opn (ld m.mem q 4)),Value.int .i64 (qRd (ld m.mem q 4)),Value.int .i64 (qR1 (ld m.mem q 4)),Value.int .i64 (qR2 (ld m.mem q 4)),Value.int .i32 (imm (ld m.mem q 4))] rF rF (there_new w7 _ _) info_st oC ?_;generalize hw9:World.setCells _ w7.heap.size 0 (Array.toList #[Value.func (.func (kofx (opn (ld m.mem q 4)))) #[] #[],Value.int .i64 (opn (ld m.mem q 4)),Value.int .i64 (qRd (ld m.mem q 4)),Value.int .i64 (qR1 (ld m.mem q 4)),Value.int .i64 (qR2 (ld m.mem q 4)),Value.int .i32 (imm (ld m.mem q 4))])=w9;have R9:Hid (w9.rangeAt w7.heap.size 0 (Array.toList #[Value.func (.func (kofx (opn (ld m.mem q 4)))) #[] #[],Value.int .i64 (opn (ld m.mem q 4)),Value.int .i64 (qRd (ld m.mem q 4)),Value.int .i64 (qR1 (ld m.mem q 4)),Value.int .i64 (qR2 (ld m.mem q 4)),Value.int .i32 (imm (ld m.mem q 4))])):=Xx4;have T9:Hid (ref.Touch [] w7 w9):=Xx8;clear hw9;have HB9:Hid (BdAt w k j m.mem (.slice none 0 0) w9):=HB7.out.step T9.out;have c9:w9.cell? ⟨w.heap.size+1,1,none⟩=some (.slice none 0 0):=HB9.out.b1;have l7:w.heap.size+1<w7.heap.size:=HB7.out.lt;have l9:w7.heap.size<w9.heap.size:=World.block_lt_of_cell? _ _ (R9.out 0 _ rfl))|(refine wpList_load_mid rF 96 (.tmp 6) rF w7.heap.size 0 rF (Array.toList #[Value.func (.func (kofx (opn (ld m.mem q 4)))) #[] #[],Value.int .i64 (opn (ld m.mem q 4)),Value.int .i64 (qRd (ld m.mem q 4)),Value.int .i64 (qR1 (ld m.mem q 4)),Value.int .i64 (qR2 (ld m.mem q 4)),Value.int .i32 (imm (ld m.mem q 4))]) _ R9.out Tryz.underlying96 rfl info_st ?_)|(at_builtin;(refine wpList_append_lies _ rF _ _ _ rF (w.heap.size+1+1) 96 i0 _ 6 48 Tryz.underlying126 hi hz0 hz1 hz2 rF dC (.slice none 0 0) j (stepsL m.mem k j) rF (HB9.out.ow.alloc _) ⟨w9.heap.size,0,none⟩ 1 1 (stepL (ld m.mem q 4)) rF rF (World.news_of_block (cs:=#[Value.func (.func (kofx (opn (ld m.mem q 4)))) #[] #[],Value.int .i64 (opn (ld m.mem q 4)),Value.int .i64 (qRd (ld m.mem q 4)),Value.int .i64 (qR1 (ld m.mem q 4)),Value.int .i64 (qR2 (ld m.mem q 4)),Value.int .i32 (imm (ld m.mem q 4))]) (heap_alloc_new w9 _)) Xxc dC mL oM Xxb (w9.heap.size+1) sP ?_);intro g cap w4 hown hgrow hat hlt2;have hg2:w.heap.size+1+1<=g:=Xx3;have tg:ref.Touch (ref.sblk (.slice none 0 0)) w9 w4:=((ref.Touch.refl _ _).alloc _).trans (ref.touch_grown hgrow);have HB4:Hid (BdAt w k (j+1) m.mem (.slice (some ⟨g,0,none⟩) (j+1) cap) (w4.setCell ⟨w.heap.size+1,1,none⟩ (.slice (some ⟨g,0,none⟩) (j+1) cap))):=HB9.out.more tg hg2 Xxd;obtain⟨u4,c4⟩:∃u,w4.cell? ⟨w.heap.size+1,1,none⟩=some u:=⟨_,(tg.cell (p:=⟨w.heap.size+1,1,none⟩) Xx9 (fun hc=>by have hq:w.heap.size+1+1<=w.heap.size+1:=(ref.own_lt HB9.out.ow _ hc).1;omega)).trans c9⟩;have f4:w4.frozen? ⟨w.heap.size+1,1,none⟩=false:=(tg.frozen (p:=⟨w.heap.size+1,1,none⟩) Xx9 (fun hc=>by have hq:w.heap.size+1+1<=w.heap.size+1:=(ref.own_lt HB9.out.ow _ hc).1;omega)).trans (HB9.out.fr 1);have o4:w4.cell? ⟨w7.heap.size,1,none⟩=some (.int .i64 (opn (ld m.mem q 4))):=(tg.cell (p:=⟨w7.heap.size,1,none⟩) l9 (fun hc=>absurd (ref.own_lt HB7.out.ow _ hc).2 (Nat.lt_irrefl _))).trans (R9.out 1 _ rfl);have HG2:Hid (w.heap.size+1+1<=g/\j+1<=cap):=⟨hg2,rowcap hown⟩;clear hown hgrow hat hlt2 tg hg2)|(go_at_call 140;refine(Calls.mono (eb_any (opn (ld m.mem q 4)) Xxa Xxa _) ?_);rintro e w5 ⟨rfl,hw5⟩;subst w5;rw[he]))
      exact Xx0
   ·have hj1:¬j=0:=fun e=>by have:=hv0 e;cases this
    have hj2:¬(j:Int)=0:=by omega
    clear hb hl1 hl2 hq HRMo hv0
    by_cases hn:opn (ld m.mem q 4)=-1
    ·rw[if_pos hn]at hlen
     have HL:Hid (N=(j:Int)):=(by rw[hlen];simp:N=(j:Int))
     clear hlen
     go_wp2_with (first|(go_at_call 75;refine(Calls.mono (ready_no (HH.out _ HBj.out.t) HZ.out HF.out q hq4 (fun w' t=>HTb.out w' _ (HBj.out.t.trans t)) hn) ?_);rintro e w7 ⟨rfl,ht7⟩;have t7:ref.Touch [] wr w7:=ht7;have HB7:Hid (BdAt w k j m.mem (.slice (some ⟨gj,0,none⟩) j cj) w7):=HBj.out.step ht7;clear ht7)|(refine wpList_store_mid rF 96 (.tmp 6) (.tmp 38) rF w7.heap.size 0 #[Value.nilFunc,Value.int .i64 0,Value.int .i64 0,Value.int .i64 0,Value.int .i64 0,Value.int .i32 0] rF rF (there_new w7 _ _) info_st oC ?_;generalize hw9:World.setCells _ w7.heap.size 0 (Array.toList #[Value.nilFunc,Value.int .i64 0,Value.int .i64 0,Value.int .i64 0,Value.int .i64 0,Value.int .i32 0])=w9;have R9:Hid (w9.rangeAt w7.heap.size 0 (Array.toList #[Value.nilFunc,Value.int .i64 0,Value.int .i64 0,Value.int .i64 0,Value.int .i64 0,Value.int .i32 0])):=Xx4;have T9:Hid (ref.Touch [] w7 w9):=Xx8;clear hw9;have HB9:Hid (BdAt w k j m.mem (.slice (some ⟨gj,0,none⟩) j cj) w9):=HB7.out.step T9.out;have c9:w9.cell? ⟨w.heap.size+1,1,none⟩=some (.slice (some ⟨gj,0,none⟩) j cj):=HB9.out.b1;have l7:w.heap.size+1<w7.heap.size:=HB7.out.lt;have l9:w7.heap.size<w9.heap.size:=World.block_lt_of_cell? _ _ (R9.out 0 _ rfl))|(refine wpList_load_mid rF 128 (.tmp 3) rF (w.heap.size+1) 0 rF (Array.toList #[Value.int .u32 (k:Int),(.slice (some ⟨gj,0,none⟩) j cj)]) _ HB9.out.rg Tryz.underlying128 rfl info_bl ?_)|(refine wpList_store_mid rF 128 (.tmp 2) (.tmp 57) rF w.heap.size 0 #[Value.int .u32 (k:Int),(.slice (some ⟨gj,0,none⟩) j cj)] rF rF HB9.out.th info_bl oC ?_;generalize hw12:World.setCells _ w.heap.size 0 (Array.toList #[Value.int .u32 (k:Int),(.slice (some ⟨gj,0,none⟩) j cj)])=w12;have R12:Hid (w12.rangeAt w.heap.size 0 (Array.toList #[Value.int .u32 (k:Int),(.slice (some ⟨gj,0,none⟩) j cj)])):=(by rw[<-hw12];exact World.rangeAt_setCells_same _ _ _ _ HB9.out.th);have T12:Hid (ref.Touch [] w w12):=(by rw[<-hw12];exact touch_newP _ _ _ _ HB9.out.t sP);have U12:Hid (ref.Touch [w.heap.size] (w9) w12):=Xx6;clear hw12))
     refine bodyPost_ret (results_c Tryz.results107 _ _ _ w.heap.size (Array.toList #[Value.int .u32 (k:Int),(.slice (some ⟨gj,0,none⟩) j cj)]) rF _ R12.out Tryz.underlying128 rfl info_bl) rfl ?_
     exact Or.inr ⟨gj,j,cj,rfl,⟨by rw[HN.out,HL.out],by omega,by omega,hgc,by omega⟩,StepsIn.touch (steps_in HB9.out.ow) oM U12.out (by simp;omega),T12.out⟩
    ·rw[if_neg hn]at hlen
     cases he:ends (opn (ld m.mem q 4))with
     |true=>
      have HL:Hid (N=(j:Int)+1):=(by rw[hlen];simp[he]:N=(j:Int)+1)
      clear hlen
      go_wp2_with (first|(go_at_call 75;refine(Calls.mono (ready_ok (HH.out _ HBj.out.t) HZ.out HF.out q hq4 (fun w' t=>HTb.out w' _ (HBj.out.t.trans t)) hn (kofx (opn (ld m.mem q 4))) (fun w=>ao_all _ Xxa Xxa w)) ?_);rintro e w7 ⟨rfl,ht7⟩;have t7:ref.Touch [] wr w7:=ht7;have HB7:Hid (BdAt w k j m.mem (.slice (some ⟨gj,0,none⟩) j cj) w7):=HBj.out.step ht7;clear ht7)|(refine wpList_store_mid rF 96 (.tmp 6) (.tmp 38) rF w7.heap.size 0 #[Value.func (.func (kofx (opn (ld m.mem q 4)))) #[] #[],Value.int .i64 (opn (ld m.mem q 4)),Value.int .i64 (qRd (ld m.mem q 4)),Value.int .i64 (qR1 (ld m.mem q 4)),Value.int .i64 (qR2 (ld m.mem q 4)),Value.int .i32 (imm (ld m.mem q 4))] rF rF (there_new w7 _ _) info_st oC ?_;generalize hw9:World.setCells _ w7.heap.size 0 (Array.toList #[Value.func (.func (kofx (opn (ld m.mem q 4)))) #[] #[],Value.int .i64 (opn (ld m.mem q 4)),Value.int .i64 (qRd (ld m.mem q 4)),Value.int .i64 (qR1 (ld m.mem q 4)),Value.int .i64 (qR2 (ld m.mem q 4)),Value.int .i32 (imm (ld m.mem q 4))])=w9;have R9:Hid (w9.rangeAt w7.heap.size 0 (Array.toList #[Value.func (.func (kofx (opn (ld m.mem q 4)))) #[] #[],Value.int .i64 (opn (ld m.mem q 4)),Value.int .i64 (qRd (ld m.mem q 4)),Value.int .i64 (qR1 (ld m.mem q 4)),Value.int .i64 (qR2 (ld m.mem q 4)),Value.int .i32 (imm (ld m.mem q 4))])):=Xx4;have T9:Hid (ref.Touch [] w7 w9):=Xx8;clear hw9;have HB9:Hid (BdAt w k j m.mem (.slice (some ⟨gj,0,none⟩) j cj) w9):=HB7.out.step T9.out;have c9:w9.cell? ⟨w.heap.size+1,1,none⟩=some (.slice (some ⟨gj,0,none⟩) j cj):=HB9.out.b1;have l7:w.heap.size+1<w7.heap.size:=HB7.out.lt;have l9:w7.heap.size<w9.heap.size:=World.block_lt_of_cell? _ _ (R9.out 0 _ rfl))|(refine wpList_load_mid rF 96 (.tmp 6) rF w7.heap.size 0 rF (Array.toList #[Value.func (.func (kofx (opn (ld m.mem q 4)))) #[] #[],Value.int .i64 (opn (ld m.mem q 4)),Value.int .i64 (qRd (ld m.mem q 4)),Value.int .i64 (qR1 (ld m.mem q 4)),Value.int .i64 (qR2 (ld m.mem q 4)),Value.int .i32 (imm (ld m.mem q 4))]) _ R9.out Tryz.underlying96 rfl info_st ?_)|(at_builtin;(refine wpList_append_lies _ rF _ _ _ rF (w.heap.size+1+1) 96 i0 _ 6 48 Tryz.underlying126 hi hz0 hz1 hz2 rF dC (.slice (some ⟨gj,0,none⟩) j cj) j (stepsL m.mem k j) rF (HB9.out.ow.alloc _) ⟨w9.heap.size,0,none⟩ 1 1 (stepL (ld m.mem q 4)) rF rF (World.news_of_block (cs:=#[Value.func (.func (kofx (opn (ld m.mem q 4)))) #[] #[],Value.int .i64 (opn (ld m.mem q 4)),Value.int .i64 (qRd (ld m.mem q 4)),Value.int .i64 (qR1 (ld m.mem q 4)),Value.int .i64 (qR2 (ld m.mem q 4)),Value.int .i32 (imm (ld m.mem q 4))]) (heap_alloc_new w9 _)) Xxc dC mL oM Xxb (w9.heap.size+1) sP ?_);intro g cap w4 hown hgrow hat hlt2;have hg2:w.heap.size+1+1<=g:=Xx3;have tg:ref.Touch (ref.sblk (.slice (some ⟨gj,0,none⟩) j cj)) w9 w4:=((ref.Touch.refl _ _).alloc _).trans (ref.touch_grown hgrow);have HB4:Hid (BdAt w k (j+1) m.mem (.slice (some ⟨g,0,none⟩) (j+1) cap) (w4.setCell ⟨w.heap.size+1,1,none⟩ (.slice (some ⟨g,0,none⟩) (j+1) cap))):=HB9.out.more tg hg2 Xxd;obtain⟨u4,c4⟩:∃u,w4.cell? ⟨w.heap.size+1,1,none⟩=some u:=⟨_,(tg.cell (p:=⟨w.heap.size+1,1,none⟩) Xx9 (fun hc=>by have hq:w.heap.size+1+1<=w.heap.size+1:=(ref.own_lt HB9.out.ow _ hc).1;omega)).trans c9⟩;have f4:w4.frozen? ⟨w.heap.size+1,1,none⟩=false:=(tg.frozen (p:=⟨w.heap.size+1,1,none⟩) Xx9 (fun hc=>by have hq:w.heap.size+1+1<=w.heap.size+1:=(ref.own_lt HB9.out.ow _ hc).1;omega)).trans (HB9.out.fr 1);have o4:w4.cell? ⟨w7.heap.size,1,none⟩=some (.int .i64 (opn (ld m.mem q 4))):=(tg.cell (p:=⟨w7.heap.size,1,none⟩) l9 (fun hc=>absurd (ref.own_lt HB7.out.ow _ hc).2 (Nat.lt_irrefl _))).trans (R9.out 1 _ rfl);have HG2:Hid (w.heap.size+1+1<=g/\j+1<=cap):=⟨hg2,rowcap hown⟩;clear hown hgrow hat hlt2 tg hg2)|(go_at_call 140;refine(Calls.mono (eb_any (opn (ld m.mem q 4)) Xxa Xxa _) ?_);rintro e w5 ⟨rfl,hw5⟩;subst w5;rw[he])|(refine wpList_load_mid rF 128 (.tmp 3) rF (w.heap.size+1) 0 rF (Array.toList #[Value.int .u32 (k:Int),(.slice (some ⟨g,0,none⟩) (j+1) cap)]) _ HB4.out.rg Tryz.underlying128 rfl info_bl ?_)|(refine wpList_store_mid rF 128 (.tmp 2) (.tmp 57) rF w.heap.size 0 #[Value.int .u32 (k:Int),(.slice (some ⟨g,0,none⟩) (j+1) cap)] rF rF HB4.out.th info_bl oC ?_;generalize hw12:World.setCells _ w.heap.size 0 (Array.toList #[Value.int .u32 (k:Int),(.slice (some ⟨g,0,none⟩) (j+1) cap)])=w12;have R12:Hid (w12.rangeAt w.heap.size 0 (Array.toList #[Value.int .u32 (k:Int),(.slice (some ⟨g,0,none⟩) (j+1) cap)])):=Xx5;have T12:Hid (ref.Touch [] w w12):=Xx7;have U12:Hid (ref.Touch [w.heap.size] (w4.setCell ⟨w.heap.size+1,1,none⟩ (.slice (some ⟨g,0,none⟩) (j+1) cap)) w12):=Xx6;clear hw12))
      exact Xx2
     |false=>
      have HL:Hid (N=(j:Int)+(if((q:Int)+4)%64=0 then 1 else 1+blockLen m.mem n7 ((q:Int)+4))):=(by rw[hlen];simp[he]:N=(j:Int)+(if((q:Int)+4)%64=0 then 1 else 1+blockLen m.mem n7 ((q:Int)+4)))
      clear hlen
      go_wp2_with (first|(go_at_call 75;refine(Calls.mono (ready_ok (HH.out _ HBj.out.t) HZ.out HF.out q hq4 (fun w' t=>HTb.out w' _ (HBj.out.t.trans t)) hn (kofx (opn (ld m.mem q 4))) (fun w=>ao_all _ Xxa Xxa w)) ?_);rintro e w7 ⟨rfl,ht7⟩;have t7:ref.Touch [] wr w7:=ht7;have HB7:Hid (BdAt w k j m.mem (.slice (some ⟨gj,0,none⟩) j cj) w7):=HBj.out.step ht7;clear ht7)|(refine wpList_store_mid rF 96 (.tmp 6) (.tmp 38) rF w7.heap.size 0 #[Value.func (.func (kofx (opn (ld m.mem q 4)))) #[] #[],Value.int .i64 (opn (ld m.mem q 4)),Value.int .i64 (qRd (ld m.mem q 4)),Value.int .i64 (qR1 (ld m.mem q 4)),Value.int .i64 (qR2 (ld m.mem q 4)),Value.int .i32 (imm (ld m.mem q 4))] rF rF (there_new w7 _ _) info_st oC ?_;generalize hw9:World.setCells _ w7.heap.size 0 (Array.toList #[Value.func (.func (kofx (opn (ld m.mem q 4)))) #[] #[],Value.int .i64 (opn (ld m.mem q 4)),Value.int .i64 (qRd (ld m.mem q 4)),Value.int .i64 (qR1 (ld m.mem q 4)),Value.int .i64 (qR2 (ld m.mem q 4)),Value.int .i32 (imm (ld m.mem q 4))])=w9;have R9:Hid (w9.rangeAt w7.heap.size 0 (Array.toList #[Value.func (.func (kofx (opn (ld m.mem q 4)))) #[] #[],Value.int .i64 (opn (ld m.mem q 4)),Value.int .i64 (qRd (ld m.mem q 4)),Value.int .i64 (qR1 (ld m.mem q 4)),Value.int .i64 (qR2 (ld m.mem q 4)),Value.int .i32 (imm (ld m.mem q 4))])):=Xx4;have T9:Hid (ref.Touch [] w7 w9):=Xx8;clear hw9;have HB9:Hid (BdAt w k j m.mem (.slice (some ⟨gj,0,none⟩) j cj) w9):=HB7.out.step T9.out;have c9:w9.cell? ⟨w.heap.size+1,1,none⟩=some (.slice (some ⟨gj,0,none⟩) j cj):=HB9.out.b1;have l7:w.heap.size+1<w7.heap.size:=HB7.out.lt;have l9:w7.heap.size<w9.heap.size:=World.block_lt_of_cell? _ _ (R9.out 0 _ rfl))|(refine wpList_load_mid rF 96 (.tmp 6) rF w7.heap.size 0 rF (Array.toList #[Value.func (.func (kofx (opn (ld m.mem q 4)))) #[] #[],Value.int .i64 (opn (ld m.mem q 4)),Value.int .i64 (qRd (ld m.mem q 4)),Value.int .i64 (qR1 (ld m.mem q 4)),Value.int .i64 (qR2 (ld m.mem q 4)),Value.int .i32 (imm (ld m.mem q 4))]) _ R9.out Tryz.underlying96 rfl info_st ?_)|(at_builtin;(refine wpList_append_lies _ rF _ _ _ rF (w.heap.size+1+1) 96 i0 _ 6 48 Tryz.underlying126 hi hz0 hz1 hz2 rF dC (.slice (some ⟨gj,0,none⟩) j cj) j (stepsL m.mem k j) rF (HB9.out.ow.alloc _) ⟨w9.heap.size,0,none⟩ 1 1 (stepL (ld m.mem q 4)) rF rF (World.news_of_block (cs:=#[Value.func (.func (kofx (opn (ld m.mem q 4)))) #[] #[],Value.int .i64 (opn (ld m.mem q 4)),Value.int .i64 (qRd (ld m.mem q 4)),Value.int .i64 (qR1 (ld m.mem q 4)),Value.int .i64 (qR2 (ld m.mem q 4)),Value.int .i32 (imm (ld m.mem q 4))]) (heap_alloc_new w9 _)) Xxc dC mL oM Xxb (w9.heap.size+1) sP ?_);intro g cap w4 hown hgrow hat hlt2;have hg2:w.heap.size+1+1<=g:=Xx3;have tg:ref.Touch (ref.sblk (.slice (some ⟨gj,0,none⟩) j cj)) w9 w4:=((ref.Touch.refl _ _).alloc _).trans (ref.touch_grown hgrow);have HB4:Hid (BdAt w k (j+1) m.mem (.slice (some ⟨g,0,none⟩) (j+1) cap) (w4.setCell ⟨w.heap.size+1,1,none⟩ (.slice (some ⟨g,0,none⟩) (j+1) cap))):=HB9.out.more tg hg2 Xxd;obtain⟨u4,c4⟩:∃u,w4.cell? ⟨w.heap.size+1,1,none⟩=some u:=⟨_,(tg.cell (p:=⟨w.heap.size+1,1,none⟩) Xx9 (fun hc=>by have hq:w.heap.size+1+1<=w.heap.size+1:=(ref.own_lt HB9.out.ow _ hc).1;omega)).trans c9⟩;have f4:w4.frozen? ⟨w.heap.size+1,1,none⟩=false:=(tg.frozen (p:=⟨w.heap.size+1,1,none⟩) Xx9 (fun hc=>by have hq:w.heap.size+1+1<=w.heap.size+1:=(ref.own_lt HB9.out.ow _ hc).1;omega)).trans (HB9.out.fr 1);have o4:w4.cell? ⟨w7.heap.size,1,none⟩=some (.int .i64 (opn (ld m.mem q 4))):=(tg.cell (p:=⟨w7.heap.size,1,none⟩) l9 (fun hc=>absurd (ref.own_lt HB7.out.ow _ hc).2 (Nat.lt_irrefl _))).trans (R9.out 1 _ rfl);have HG2:Hid (w.heap.size+1+1<=g/\j+1<=cap):=⟨hg2,rowcap hown⟩;clear hown hgrow hat hlt2 tg hg2)|(go_at_call 140;refine(Calls.mono (eb_any (opn (ld m.mem q 4)) Xxa Xxa _) ?_);rintro e w5 ⟨rfl,hw5⟩;subst w5;rw[he]))
      exact Xx0
end prog
end Go.Proofs.YtjikimpejlmdiaaGreatDoor

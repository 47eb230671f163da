import Derived.Test.YtjikimpejlmdiaaGreatDoorRows
import Derived.WalkKit
import Derived.ProofKit
import Derived.OpenShut
import Derived.BigQuiet
import Derived.WalkSmall
import Derived.Handy
import Derived.Laws.BitsAllLaws
import Derived.Test.YtjikimpejlmdiaaGreatDoorZGa
set_option maxHeartbeats 4000000
set_option linter.unusedVariables false
set_option linter.unusedSimpArgs false
set_option maxRecDepth 10000
namespace Go.Proofs.YtjikimpejlmdiaaGreatDoor
theorem X20{p:Prop}(h:p:=by(repeat' (first|with_reducible exact Touch.refl _ _|with_reducible apply Touch.setCell|with_reducible apply Touch.alloc|with_reducible apply Touch.drewN|with_reducible apply Touch.drew))<;>simp):p:=h
theorem X21{p:Prop}(h:p:=by
 go_enter Tryz.func82,Tryz.ntmps82
 go_wp2_with (first|(go_at_call 51;refine(lies_any HW.out a 1 a0 a1 dC dC hz2).mono ?_;rintro e w' ⟨rfl,rfl⟩)|(go_at_call 50;refine(stop_any HW.out 6).mono ?_;rintro e w1 ⟨rfl,hat,hto⟩;have HA:Hid (RefAt B b mb (stop m 6) vE vA vS vB w1):=hat;have HB:Hid (Touch [b] w w1):=(HT.out.mono sP).trans hto;clear hat hto))
 go_ret
 exact⟨rfl,HA.out,HB.out⟩):p:=h
theorem X22{p:Prop}(h:p:=by
 go_enter Tryz.func82,Tryz.ntmps82
 go_wp2_with (first|(go_at_call 51;refine(lies_any HW.out a 2 a0 a1 dC dC hz2).mono ?_;rintro e w' ⟨rfl,rfl⟩)|(go_at_call 50;refine(stop_any HW.out 5).mono ?_;rintro e w1 ⟨rfl,hat,hto⟩;have HA:Hid (RefAt B b mb (stop m 5) vE vA vS vB w1):=hat;have HB:Hid (Touch [b] w w1):=(HT.out.mono sP).trans hto;clear hat hto))
 go_ret
 exact⟨rfl,HA.out,HB.out⟩):p:=h
theorem X23{p:Prop}(h:p:=by
 go_enter Tryz.func82,Tryz.ntmps82
 go_wp2_with (first|(go_at_call 51;refine(lies_any HW.out a 2 a0 a1 dC dC hz2).mono ?_;rintro e w' ⟨rfl,rfl⟩)|(go_at_call 50;refine(stop_any HW.out 6).mono ?_;rintro e w1 ⟨rfl,hat,hto⟩;have HA:Hid (RefAt B b mb (stop m 6) vE vA vS vB w1):=hat;have HB:Hid (Touch [b] w w1):=(HT.out.mono sP).trans hto;clear hat hto))
 go_ret
 exact⟨rfl,HA.out,HB.out⟩):p:=h
theorem X24{p:Prop}(h:p:=by
 go_ret
 exact⟨rfl,HA.out,HB.out⟩):p:=h
theorem X25{p:Prop}(h:p:=by
 go_enter Tryz.func60,Tryz.ntmps60
 go_wp2
 go_ret
 exact⟨ret_int (by rw[HS.out,or_comm32 v _ h0 oM dC dC,HO.out];unfold wrap32;omega),rfl⟩):p:=h
theorem X26{p:Prop}(h:p:=by
 go_wp2
 go_roundw
 case rel=>exact⟨k+1,by omega,by go_num,HN.out,HT.out⟩
 case measure=>simp[intOf];omega):p:=h
theorem X27{p:Prop}(h:p:=by
 by_cases e:j=a
 ·subst e;simp
 ·rw[if_neg e,if_neg oM]):p:=h
theorem X28{p:Prop}(h:p:=by
 go_enter Tryz.func105,Tryz.ntmps105
 go_wp2
 go_rounds 1
 go_end0
 exact⟨rfl,HR.out,Touch.refl _ _⟩):p:=h
theorem X29{p:Prop}(h:p:=by
 go_ret
 exact⟨by rw[<-HR.out];rfl,rfl⟩):p:=h
theorem X2a{p:Prop}(h:p:=by
 go_enter Tryz.func60,Tryz.ntmps60
 go_wp2
 go_ret
 exact⟨ret_int HS.out.symm,rfl⟩):p:=h
theorem X2b{p:Prop}(h:p:=by
 refine⟨rfl,HAT.out, ?_⟩
 exact X20):p:=h
theorem X2c{p:Prop}(h:p:=by intro e;injection e with e _;exact ne e.symm):p:=h
theorem X2d{p:Prop}(h:p:=by intro e;injection e with _ e;omega):p:=h
namespace ref
open ChangeShapes WideShapes ChangeAt RowKit nums dnums mach
structure Touch (S:List Nat) (w w':World):Prop where
 os:w'.os=w.os
 tape:w'.tape=w.tape
 output:w'.output=w.output
 size:w.heap.size<=w'.heap.size
 block:∀k,k<w.heap.size->k∉S->w'.heap[k]?=w.heap[k]?
theorem Touch.refl (S:List Nat)(w:World):Touch S w w:=⟨rfl,rfl,rfl,Nat.le_refl _,fun _ _ _=>rfl⟩
theorem Touch.trans {S:List Nat}{u v w:World}(h:Touch S u v)(k:Touch S v w):Touch S u w:=
 ⟨k.os.trans h.os,k.tape.trans h.tape,k.output.trans h.output,Nat.le_trans h.size k.size,fun i hi hn=>(k.block i (Nat.lt_of_lt_of_le hi h.size) hn).trans (h.block i hi hn)⟩
theorem Touch.mono {S T:List Nat}{u v:World}(h:Touch S u v)(k:∀i,i∈S->i∈T):Touch T u v:=
 ⟨h.os,h.tape,h.output,h.size,fun i hi hn=>h.block i hi (fun hc=>hn (k i hc))⟩
theorem Touch.of_below {S:List Nat}{u v:World}(h:Below u.heap.size u v):Touch S u v:=⟨h.os,h.tape,h.output,h.size,fun k hk _=>h.block k hk⟩
theorem Touch.below {S:List Nat}{u v:World}(h:Touch S u v){B:Nat}(hB:B<=u.heap.size)(hS:∀i,i∈S->B<=i):Below B u v:=
 ⟨h.os,h.tape,h.output,h.size,fun k hk=>h.block k (Nat.lt_of_lt_of_le hk hB) (fun hc=>by have:=hS k hc;omega)⟩
theorem Touch.setCell {S:List Nat}{u v:World}(h:Touch S u v){a:Addr}(ha:a.block∈S)(x:Value):Touch S u (v.setCell a x):=
 h.trans ⟨rfl,rfl,rfl,by simp[World.setCell],fun k _ hn=>Below.heap_setCell _ _ _ _ (fun e=>hn (e ▸ ha))⟩
theorem Touch.alloc {S:List Nat}{u v:World}(h:Touch S u v)(o:Obj):Touch S u (v.alloc o):=
 h.trans ⟨rfl,rfl,rfl,by simp,fun k hk _=>Below.heap_alloc _ _ _ hk⟩
theorem Touch.drew {S:List Nat}{u v:World}(h:Touch S u v):Touch S u v.drew:=⟨h.os,h.tape,h.output,h.size,h.block⟩
theorem Touch.drewN {S:List Nat}{u v:World}(h:Touch S u v)(n:Nat):Touch S u (v.drewN n):=⟨h.os,h.tape,h.output,h.size,h.block⟩
theorem Touch.cell {S:List Nat}{u v:World}(h:Touch S u v){p:Addr}(hp:p.block<u.heap.size)(hn:p.block∉S):v.cell? p=u.cell? p:=World.cell?_of_block (w:=u) (h.block p.block hp hn)
theorem Touch.frozen {S:List Nat}{u v:World}(h:Touch S u v){p:Addr}(hp:p.block<u.heap.size)(hn:p.block∉S):v.frozen? p=u.frozen? p:=World.frozen?_of_block (w:=u) (h.block p.block hp hn)
def lay (m:M) (vE vA vS vB:Value) (i:Nat):Value:=
 if i=0 then .int .i64 m.out else if i=1 then .int .u32 m.pc else if i<34 then .int .u32 (m.regs (i-2))else if i=34 then .int .u32 m.brk else
 if i=35 then .string ByteArray.empty else if i=36 then vE else if i=37 then .int .i64 m.steps else if i=38 then .int .i64 m.built else
 if i=39 then .slice (some ⟨0,0,none⟩) m.size m.size else if i=40 then .int .u32 m.low else if i=41 then vA else if i=42 then .int .i64 m.fuel else
 if i=43 then .bool m.ended else if i=44 then vS else if i=45 then .int .i64 m.arena else if i=46 then .int .i64 m.used else
 if i=47 then .int .u32 m.cur.1 else if i=48 then .int .i64 m.cur.2 else if i=49 then .int .i64 m.done else vB
structure RefAt (B b mb:Nat) (m:M) (vE vA vS vB:Value) (w:World):Prop where
 hb:B<=b
 hmb:B<=mb
 ne:b≠mb
 cells:∀i,i<51->i≠39->w.cell? ⟨b,i,none⟩=some (lay m vE vA vS vB i)
 data:w.cell? ⟨b,39,none⟩=some (.slice (some ⟨mb,0,none⟩) m.size m.size)
 free:∀i,w.frozen? ⟨b,i,none⟩=false
 bytes:∀i,i<m.size->w.cell? ⟨mb,i,none⟩=some (.int .u8 (m.mem i))
 freem:∀i,w.frozen? ⟨mb,i,none⟩=false
theorem RefAt.there {B b mb:Nat}{m:M}{vE vA vS vB:Value}{w:World}(h:RefAt B b mb m vE vA vS vB w)(i:Nat)(hi:i<51):∃u,w.cell? ⟨b,i,none⟩=some u:=by
 by_cases e:i=39
 ·subst e;exact⟨_,h.data⟩
 ·exact⟨_,h.cells i hi e⟩
theorem RefAt.upd {B b mb:Nat}{m m':M}{vE vA vS vB vE' vA' vS' vB':Value}{w:World}(h:RefAt B b mb m vE vA vS vB w)(k:Nat)(hk:k<51)(k39:k≠39)(v:Value)
  (hs:m'.size=m.size) (hm:m'.mem=m.mem) (he:∀i,i<51->i≠39->lay m' vE' vA' vS' vB' i=if i=k then v else lay m vE vA vS vB i):
  RefAt B b mb m' vE' vA' vS' vB' (w.setCell ⟨b,k,none⟩ v):=by
 refine⟨h.hb,h.hmb,h.ne,fun i hi h39=> ?_, ?_,fun i=> ?_,fun i hi=> ?_,fun i=> ?_⟩
 ·rw[he i hi h39]
  by_cases e:i=k
  ·subst e
   obtain⟨u,hu⟩:=h.there i hi
   rw[World.cell?_setCell_same _ _ _ hu,if_pos rfl]
  ·rw[World.cell?_setCell_other _ _ _ _ fS,if_neg e];exact h.cells i hi h39
 ·rw[World.cell?_setCell_other _ _ _ _ fS,hs];exact h.data
 ·rw[World.frozen?_setCell];exact h.free i
 ·rw[World.cell?_setCell_other _ _ _ _ (by have:=h.ne;first|(simp;done)|(simp;omega)),hm];exact h.bytes i oM
 ·rw[World.frozen?_setCell];exact h.freem i
theorem at_stop{B b mb:Nat}{m:M}{vE vA vS vB:Value}{w:World}(h:RefAt B b mb m vE vA vS vB w)(o:Int):RefAt B b mb (stop m o) vE vA vS vB ((w.setCell ⟨b,0,none⟩ (.int .i64 o)).setCell ⟨b,43,none⟩ (.bool true)):=
 (h.upd (m':={m with out:=o }) (vE':=vE) (vA':=vA) (vS':=vS) (vB':=vB) 0 dC dC _ rfl rfl (fun i hi h39=>Or.elim (Decidable.em (i=0)) (fun e=>by subst e;simp[lay]) (fun e=>by simp[lay,e]))).upd 43 dC dC _ rfl rfl (fun i hi h39=>Or.elim (Decidable.em (i=43)) (fun e=>by subst e;simp[lay,stop]) (fun e=>by simp[lay,e,stop]))
theorem stop_any{B b mb:Nat}{m:M}{vE vA vS vB:Value}{w:World}(h:RefAt B b mb m vE vA vS vB w)(o:Int):
  Calls Tryz.prog 50 #[.pointer (some ⟨b,0,none⟩),.int .i64 o] w fun e w'=>e=.returned (.tuple #[])/\RefAt B b mb (stop m o) vE vA vS vB w'/\Touch [b] w w':=by
 have hat:=at_stop h o
 obtain⟨u0,c0⟩:=h.there 0 dC
 obtain⟨u1,c1⟩:=h.there 43 dC
 have f0:=h.free 0
 have f1:=h.free 43
 have hb:=h.hb
 have HAT:Hid (RefAt _ _ _ _ _ _ _ _ _):=hat
 clear hat h
 go_enter Tryz.func50,Tryz.ntmps50
 go_wp2
 go_end0
 exact X2b
theorem at_next{B b mb:Nat}{m:M}{vE vA vS vB:Value}{w:World}(h:RefAt B b mb m vE vA vS vB w):RefAt B b mb (next m) vE vA vS vB ((w.setCell ⟨b,1,none⟩ (.int .u32 ((m.pc+4)%4294967296))).setCell ⟨b,37,none⟩ (.int .i64 (m.steps+1))):=
 (h.upd (m':={m with pc:=(m.pc+4)%4294967296 }) (vE':=vE) (vA':=vA) (vS':=vS) (vB':=vB) 1 dC dC _ rfl rfl (fun i hi h39=>Or.elim (Decidable.em (i=1)) (fun e=>by subst e;simp[lay]) (fun e=>by simp[lay,e]))).upd 37 dC dC _ rfl rfl (fun i hi h39=>Or.elim (Decidable.em (i=37)) (fun e=>by subst e;simp[lay,next]) (fun e=>by simp[lay,e,next]))
theorem at_go{B b mb:Nat}{m:M}{vE vA vS vB:Value}{w:World}(h:RefAt B b mb m vE vA vS vB w)(to:Int)(ht:to%4=0):RefAt B b mb (goes m to) vE vA vS vB ((((w.setCell ⟨b,1,none⟩ (.int .u32 to)).setCell ⟨b,37,none⟩ (.int .i64 (m.steps+1))).setCell ⟨b,47,none⟩ (.int .u32 0)).setCell ⟨b,48,none⟩ (.int .i64 0)):=by
 rw[show goes m to={m with pc:=to,steps:=m.steps+1,cur:=(0,0) } from if_pos ht]
 exact(((h.upd (m':={m with pc:=to }) (vE':=vE) (vA':=vA) (vS':=vS) (vB':=vB) 1 dC dC _ rfl rfl (fun i hi h39=>Or.elim (Decidable.em (i=1)) (fun e=>by subst e;simp[lay]) (fun e=>by simp[lay,e]))).upd (m':={m with pc:=to,steps:=m.steps+1 }) (vE':=vE) (vA':=vA) (vS':=vS) (vB':=vB) 37 dC dC _ rfl rfl (fun i hi h39=>Or.elim (Decidable.em (i=37)) (fun e=>by subst e;simp[lay]) (fun e=>by simp[lay,e]))).upd (m':={m with pc:=to,steps:=m.steps+1,cur:=(0,m.cur.2) }) (vE':=vE) (vA':=vA) (vS':=vS) (vB':=vB) 47 dC dC _ rfl rfl (fun i hi h39=>Or.elim (Decidable.em (i=47)) (fun e=>by subst e;simp[lay]) (fun e=>by simp[lay,e]))).upd 48 dC dC _ rfl rfl (fun i hi h39=>Or.elim (Decidable.em (i=48)) (fun e=>by subst e;simp[lay]) (fun e=>by simp[lay,e]))
theorem at_reg{B b mb:Nat}{m:M}{vE vA vS vB:Value}{w:World}(h:RefAt B b mb m vE vA vS vB w)(r v:Int)(r0:1<=r)(r1:r<=31):RefAt B b mb (setReg m r v) vE vA vS vB (w.setCell ⟨b,2+r.toNat,none⟩ (.int .u32 v)):=by
 rw[show setReg m r v={m with regs:=fun i=>if i=r.toNat then v else m.regs i } from if_neg oM]
 refine h.upd (2+r.toNat) oM oM _ rfl rfl (fun i hi h39=> ?_)
 by_cases e:i=2+r.toNat
 ·subst e
  simp[lay,show ¬(2+r.toNat=0)by omega,show ¬(2+r.toNat=1)by omega,show 2+r.toNat<34 by omega]
 ·rw[if_neg e]
  by_cases k:2<=i/\i<34
  ·simp[lay,show ¬i=0 by omega,show ¬i=1 by omega,k.2,show ¬(i-2=r.toNat)by omega]
  ·by_cases k2:i<34
   ·have:i=0\/i=1:=by omega
    rcases this with rfl|rfl<;>simp[lay]
   ·simp[lay,k2]
theorem set_0{B b mb:Nat}{m:M}{vE vA vS vB:Value}{w:World}(h:RefAt B b mb m vE vA vS vB w)(v:Int):
  Calls Tryz.prog 80 #[.pointer (some ⟨b,0,none⟩),.int .i64 0,.int .u32 v] w fun e w'=>e=.returned (.tuple #[])/\RefAt B b mb (setReg m 0 v) vE vA vS vB w'/\Touch [b] w w':=by
 have HAT:Hid (RefAt B b mb (setReg m 0 v) vE vA vS vB w):=by rw[show setReg m 0 v=m from if_pos rfl];exact h
 clear h
 go_enter Tryz.func80,Tryz.ntmps80
 go_wp2
 go_end0
 exact⟨rfl,HAT.out,Touch.refl _ _⟩
theorem set_n{B b mb:Nat}{m:M}{vE vA vS vB:Value}{w:World}(h:RefAt B b mb m vE vA vS vB w)(r v:Int)(r0:1<=r)(r1:r<=31):
  Calls Tryz.prog 80 #[.pointer (some ⟨b,0,none⟩),.int .i64 r,.int .u32 v] w fun e w'=>e=.returned (.tuple #[])/\RefAt B b mb (setReg m r v) vE vA vS vB w'/\Touch [b] w w':=by
 have HAT:Hid (RefAt _ _ _ _ _ _ _ _ _):=at_reg h r v r0 r1
 obtain⟨u0,c0⟩:=h.there (2+r.toNat) oM
 have f0:=h.free (2+r.toNat)
 have hb:=h.hb
 have r2:r<32:=by omega
 clear h
 go_enter Tryz.func80,Tryz.ntmps80
 go_wp2
 go_end0
 exact X2b
theorem set_any{B b mb:Nat}{m:M}{vE vA vS vB:Value}{w:World}(h:RefAt B b mb m vE vA vS vB w)(r v:Int)(r0:0<=r)(r1:r<=31):
  Calls Tryz.prog 80 #[.pointer (some ⟨b,0,none⟩),.int .i64 r,.int .u32 v] w fun e w'=>e=.returned (.tuple #[])/\RefAt B b mb (setReg m r v) vE vA vS vB w'/\Touch [b] w w':=by
 by_cases e:r=0
 ·subst e;exact set_0 h v
 ·exact set_n h r v oM r1
theorem lies_any{B b mb:Nat}{m:M}{vE vA vS vB:Value}{w:World}(h:RefAt B b mb m vE vA vS vB w)(a n:Int)(a0:0<=a)(a1:a<=4294967295)(n0:0<=n)(n1:n<=4294967295)(hz:m.size<=512):
  Calls Tryz.prog 51 #[.pointer (some ⟨b,0,none⟩),.int .u32 a,.int .u32 n] w fun e w'=>e=.returned (.bool (lies m a n))/\w'=w:=by
 have hd:=h.data
 clear h
 go_enter Tryz.func51,Tryz.ntmps51
 go_wp2
 go_ret
 exact⟨rfl,rfl⟩
theorem goes_n{B b mb:Nat}{m:M}{vE vA vS vB:Value}{w:World}(h:RefAt B b mb m vE vA vS vB w)(to:Int)(t0:0<=to)(t1:to<=4294967295)(ht:¬to%4=0):
  Calls Tryz.prog 79 #[.pointer (some ⟨b,0,none⟩),.int .u32 to] w fun e w'=>e=.returned (.bool false)/\RefAt B b mb (goes m to) vE vA vS vB w'/\Touch [b] w w':=by
 have HG:Hid (goes m to=stop m 3):=if_neg ht
 have HH:Hid (RefAt B b mb m vE vA vS vB w):=h
 clear h
 go_enter Tryz.func79,Tryz.ntmps79
 go_wp2_with (go_at_call 50;refine(stop_any HH.out 3).mono ?_;rintro e w1 ⟨rfl,hat,hbel⟩;have HA:Hid (RefAt B b mb (stop m 3) vE vA vS vB w1):=hat;have HB:Hid (Touch [b] w w1):=hbel;clear hat hbel)
 go_ret
 refine⟨rfl, ?_,HB.out⟩
 rw[HG.out];exact HA.out
theorem goes_y{B b mb:Nat}{m:M}{vE vA vS vB:Value}{w:World}(h:RefAt B b mb m vE vA vS vB w)(to:Int)(t0:0<=to)(t1:to<=4294967295)(ht:to%4=0)(s0:0<=m.steps)(s1:m.steps<=2000):
  Calls Tryz.prog 79 #[.pointer (some ⟨b,0,none⟩),.int .u32 to] w fun e w'=>e=.returned (.bool true)/\RefAt B b mb (goes m to) vE vA vS vB w'/\Touch [b] w w':=by
 have HAT:Hid (RefAt _ _ _ _ _ _ _ _ _):=at_go h to ht
 obtain⟨u1,c1⟩:=h.there 1 dC
 have c37:w.cell? ⟨b,37,none⟩=some (.int .i64 m.steps):=h.cells 37 dC dC
 obtain⟨u47,c47⟩:=h.there 47 dC
 obtain⟨u48,c48⟩:=h.there 48 dC
 have f1:=h.free 1
 have f37:=h.free 37
 have f47:=h.free 47
 have f48:=h.free 48
 have hb:=h.hb
 clear h
 go_enter Tryz.func79,Tryz.ntmps79
 go_wp2
 go_ret
 exact X2b
theorem or_low(v x:Int)(k:Nat)(hk:k<=24)(v0:0<=v)(v1:v<2^k)(x0:0<=x)(x1:x*2^k<4294967296):bits BinOp.or IntKind.u32 v (x*2^k)=v+x*2^k:=by
 have hp:(0:Int)<2^k:=Int.pow_pos dC
 have hp2:(2:Int)^k<=2^24:=by exact_mod_cast Nat.pow_le_pow_right oM hk
 have hx:0<=x*2^k:=Int.mul_nonneg x0 (Int.le_of_lt hp)
 rw[or_comm32 v _ v0 oM hx x1,or_add (x*2^k) v k hx x1 v0 v1 oM (Int.mul_emod_left _ _)]
 omega
theorem or1(a:Int)(a0:0<=a)(a1:a<=255):bits BinOp.or IntKind.u32 0 a=a:=by
 rw[or_add 0 a 8 dC dC a0 oM dC dC];omega
theorem or2(a b:Int)(a0:0<=a)(a1:a<=255)(b0:0<=b)(b1:b<=255):bits BinOp.or IntKind.u32 (bits BinOp.or IntKind.u32 0 a) (b*256)=a+b*256:=by
 rw[or1 a a0 a1];exact or_low a b 8 dC a0 oM b0 oM
theorem or4(a b c d:Int)(a0:0<=a)(a1:a<=255)(b0:0<=b)(b1:b<=255)(c0:0<=c)(c1:c<=255)(d0:0<=d)(d1:d<=255):
  bits BinOp.or IntKind.u32 (bits BinOp.or IntKind.u32 (bits BinOp.or IntKind.u32 (bits BinOp.or IntKind.u32 0 a) (b*256)) (c*65536)) (d*16777216)=a+b*256+c*65536+d*16777216:=by
 rw[or2 a b a0 a1 b0 b1,show c*65536=c*2^16 from rfl,or_low (a+b*256) c 16 dC oM oM c0 oM,show d*16777216=d*2^24 from rfl,or_low (a+b*256+c*2^16) d 24 dC oM oM d0 oM]
theorem ld_1(mem:Nat->Int)(a:Nat):ld mem a 1=mem a:=by simp[ld]
theorem ld_2(mem:Nat->Int)(a:Nat):ld mem a 2=mem a+mem (a+1)*256:=by simp[ld]
theorem ld_4(mem:Nat->Int)(a:Nat):ld mem a 4=mem a+mem (a+1)*256+mem (a+2)*65536+mem (a+3)*16777216:=by simp[ld]
theorem load_1{B b mb:Nat}{m:M}{vE vA vS vB:Value}{w:World}(h:RefAt B b mb m vE vA vS vB w)(a:Nat)(ha:a+1<=m.size)(hz:m.size<=512)(hm:∀i,0<=m.mem i/\m.mem i<=255):
  Calls Tryz.prog 52 #[.pointer (some ⟨b,0,none⟩),.int .u32 a,.int .u32 1] w fun e w'=>e=.returned (.int .u32 (ld m.mem a 1))/\w'=w:=by
 have hd:=h.data
 have b00:=(hm a).1
 have b01:=(hm a).2
 have c0:=h.bytes a oM
 have HR:Hid (_=ld m.mem a 1):=(or1 _ b00 b01).trans (ld_1 m.mem a).symm
 clear h hm
 go_enter Tryz.func52,Tryz.ntmps52
 go_wp2
 go_rounds 2
 exact X29
theorem load_2{B b mb:Nat}{m:M}{vE vA vS vB:Value}{w:World}(h:RefAt B b mb m vE vA vS vB w)(a:Nat)(ha:a+2<=m.size)(hz:m.size<=512)(hm:∀i,0<=m.mem i/\m.mem i<=255):
  Calls Tryz.prog 52 #[.pointer (some ⟨b,0,none⟩),.int .u32 a,.int .u32 2] w fun e w'=>e=.returned (.int .u32 (ld m.mem a 2))/\w'=w:=by
 have hd:=h.data
 have b00:=(hm a).1
 have b01:=(hm a).2
 have c0:=h.bytes a oM
 have b10:=(hm (a+1)).1
 have b11:=(hm (a+1)).2
 have c1:=h.bytes (a+1) oM
 have HR:Hid (_=ld m.mem a 2):=(or2 _ _ b00 b01 b10 b11).trans (ld_2 m.mem a).symm
 clear h hm
 go_enter Tryz.func52,Tryz.ntmps52
 go_wp2
 go_rounds 3
 exact X29
theorem load_4{B b mb:Nat}{m:M}{vE vA vS vB:Value}{w:World}(h:RefAt B b mb m vE vA vS vB w)(a:Nat)(ha:a+4<=m.size)(hz:m.size<=512)(hm:∀i,0<=m.mem i/\m.mem i<=255):
  Calls Tryz.prog 52 #[.pointer (some ⟨b,0,none⟩),.int .u32 a,.int .u32 4] w fun e w'=>e=.returned (.int .u32 (ld m.mem a 4))/\w'=w:=by
 have hd:=h.data
 have b00:=(hm a).1
 have b01:=(hm a).2
 have c0:=h.bytes a oM
 have b10:=(hm (a+1)).1
 have b11:=(hm (a+1)).2
 have c1:=h.bytes (a+1) oM
 have b20:=(hm (a+2)).1
 have b21:=(hm (a+2)).2
 have c2:=h.bytes (a+2) oM
 have b30:=(hm (a+3)).1
 have b31:=(hm (a+3)).2
 have c3:=h.bytes (a+3) oM
 have HR:Hid (_=ld m.mem a 4):=(or4 _ _ _ _ b00 b01 b10 b11 b20 b21 b30 b31).trans (ld_4 m.mem a).symm
 clear h hm
 go_enter Tryz.func52,Tryz.ntmps52
 go_wp2
 go_rounds 5
 exact X29
structure SlotsIn (sb n:Nat) (f:Nat->Int × Int) (w:World):Prop where
 pcs:∀i,i<n->w.cell? ⟨sb,i*2,none⟩=some (.int .u32 (f i).1)
 lens:∀i,i<n->w.cell? ⟨sb,i*2+1,none⟩=some (.int .i64 (f i).2)
 free:∀j,w.frozen? ⟨sb,j,none⟩=false
theorem RefAt.other {B b mb:Nat}{S:List Nat}{m:M}{vE vA vS vB:Value}{w w':World}(h:RefAt B b mb m vE vA vS vB w)(t:Touch S w w')(n1:b∉S)(n2:mb∉S)(hz:0<m.size):RefAt B b mb m vE vA vS vB w':=by
 have l1:b<w.heap.size:=World.block_lt_of_cell? _ _ h.data
 have l2:mb<w.heap.size:=World.block_lt_of_cell? _ _ (h.bytes 0 hz)
 refine⟨h.hb,h.hmb,h.ne,fun i hi h39=> ?_, ?_,fun i=> ?_,fun i hi=> ?_,fun i=> ?_⟩
 ·rw[t.cell (p:=⟨b,i,none⟩) l1 n1];exact h.cells i hi h39
 ·rw[t.cell (p:=⟨b,39,none⟩) l1 n1];exact h.data
 ·rw[t.frozen (p:=⟨b,i,none⟩) l1 n1];exact h.free i
 ·rw[t.cell (p:=⟨mb,i,none⟩) l2 n2];exact h.bytes i hi
 ·rw[t.frozen (p:=⟨mb,i,none⟩) l2 n2];exact h.freem i
theorem SlotsIn.upd {sb n k:Nat}{f:Nat->Int × Int}{w:World}(h:SlotsIn sb n f w)(hk:k<n)(p q:Int):
  SlotsIn sb n (fun i=>if i=k then(p,q)else f i) ((w.setCell ⟨sb,k*2,none⟩ (.int .u32 p)).setCell ⟨sb,k*2+1,none⟩ (.int .i64 q)):=by
 refine⟨fun i hi=> ?_,fun i hi=> ?_,fun j=> ?_⟩
 ·rw[World.cell?_setCell_other _ _ _ _ X2d]
  by_cases e:i=k
  ·subst e
   rw[World.cell?_setCell_same _ _ _ (h.pcs i hi),if_pos rfl]
  ·rw[World.cell?_setCell_other _ _ _ _ X2d,if_neg e];exact h.pcs i hi
 ·by_cases e:i=k
  ·subst e
   rw[World.cell?_setCell_same _ _ _ ((World.cell?_setCell_other _ _ _ _ X2d).trans (h.lens i hi)),if_pos rfl]
  ·rw[World.cell?_setCell_other _ _ _ _ X2d,World.cell?_setCell_other _ _ _ _ X2d,if_neg e];exact h.lens i hi
 ·rw[World.frozen?_setCell,World.frozen?_setCell];exact h.free j
theorem SlotsIn.congr {sb n:Nat}{f g:Nat->Int × Int}{w:World}(h:SlotsIn sb n f w)(e:∀i,i<n->g i=f i):SlotsIn sb n g w:=
 ⟨fun i hi=>by rw[e i hi];exact h.pcs i hi,fun i hi=>by rw[e i hi];exact h.lens i hi,h.free⟩
def part (f:Nat->Int × Int) (a n:Int) (k i:Nat):Int × Int:=if i<k/\hit (f i) a n=true then(0,0)else f i
theorem at_cur{B b mb:Nat}{m:M}{vE vA vS vB:Value}{w:World}(h:RefAt B b mb m vE vA vS vB w):RefAt B b mb {m with cur:=(0,0) } vE vA vS vB ((w.setCell ⟨b,47,none⟩ (.int .u32 0)).setCell ⟨b,48,none⟩ (.int .i64 0)):=
 (h.upd (m':={m with cur:=(0,m.cur.2) }) (vE':=vE) (vA':=vA) (vS':=vS) (vB':=vB) 47 dC dC _ rfl rfl (fun i hi h39=>Or.elim (Decidable.em (i=47)) (fun e=>by subst e;simp[lay]) (fun e=>by simp[lay,e]))).upd 48 dC dC _ rfl rfl (fun i hi h39=>Or.elim (Decidable.em (i=48)) (fun e=>by subst e;simp[lay]) (fun e=>by simp[lay,e]))
theorem part_step(f:Nat->Int × Int)(a n:Int)(k i:Nat)(hh:hit (f k) a n=true):part f a n (k+1) i=if i=k then(0,0)else part f a n k i:=by
 unfold part
 by_cases e:i=k
 ·subst e;simp[hh]
 ·simp[e,show(i<k+1)=(i<k)from by simp;omega]
theorem part_skip(f:Nat->Int × Int)(a n:Int)(k i:Nat)(hh:hit (f k) a n=false):part f a n (k+1) i=part f a n k i:=by
 unfold part
 by_cases e:i=k
 ·subst e;simp[hh]
 ·simp[show(i<k+1)=(i<k)from by simp;omega]
theorem part_at(f:Nat->Int × Int)(a n:Int)(k:Nat):part f a n k k=f k:=by simp[part]
theorem part_0(f:Nat->Int × Int)(a n:Int)(i:Nat):part f a n 0 i=f i:=by simp[part]
theorem part_all(f:Nat->Int × Int)(a n:Int)(k i:Nat)(h:i<k):part f a n k i=if hit (f i) a n then(0,0)else f i:=by simp[part,h]
theorem hit_y(p:Int × Int)(a n:Int)(h:a/64<=p.1/64)(h2:p.1/64<=(a+n-1)/64):hit p a n=true:=by simp[hit,h,h2]
theorem hit_n(p:Int × Int)(a n:Int)(h:¬(a/64<=p.1/64/\p.1/64<=(a+n-1)/64)):hit p a n=false:=by simp only[hit,h,decide_false]
theorem at_wrote(B b mb:Nat)(m:M)(vE vA vS vB:Value)(w:World)(a n:Int)(hn:1<=n)(h:RefAt B b mb {m with cur:=if hit m.cur a n=true then(0,0)else m.cur } vE vA vS vB w):RefAt B b mb (wrote m a n) vE vA vS vB w:=by
 unfold wrote
 rw[if_neg oM]
 exact⟨h.hb,h.hmb,h.ne,h.cells,h.data,h.free,h.bytes,h.freem⟩
theorem SlotsIn.other {sb n:Nat}{f:Nat->Int × Int}{w w':World}(h:SlotsIn sb n f w)(hn:0<n){S:List Nat}(t:Touch S w w')(e:sb∉S):SlotsIn sb n f w':=by
 have l:sb<w.heap.size:=World.block_lt_of_cell? _ _ (h.pcs 0 hn)
 exact⟨fun i hi=>(t.cell (p:=⟨sb,_,none⟩) l e).trans (h.pcs i hi),fun i hi=>(t.cell (p:=⟨sb,_,none⟩) l e).trans (h.lens i hi),fun j=>(t.frozen (p:=⟨sb,j,none⟩) l e).trans (h.free j)⟩
theorem wrote_in{B b mb:Nat}{m:M}{vE vA vS vB:Value}{w:World}(h:RefAt B b mb m vE vA vS vB w)(sb:Nat)(hv:vS=.slice (some ⟨sb,0,none⟩) m.nslots m.nslots)(hs:SlotsIn sb m.nslots m.slots w)(n1:b≠sb)(n2:mb≠sb)(hz:0<m.size)(hn:m.nslots<=64)(hn0:0<m.nslots)
  (hp:∀i,0<=(m.slots i).1/\(m.slots i).1<=4294967295) (hc0:0<=m.cur.1) (hc1:m.cur.1<=4294967295) (a n:Int) (a0:0<=a) (w0:1<=n) (an:a+n<=512):
  Calls Tryz.prog 105 #[.pointer (some ⟨b,0,none⟩),.int .u32 a,.int .u32 n] w fun e w'=>e=.returned (.tuple #[])/\RefAt B b mb (wrote m a n) vE vA vS vB w'/\SlotsIn sb m.nslots (wrote m a n).slots w'/\Touch [b,sb] w w':=by
 have lb:b<w.heap.size:=World.block_lt_of_cell? _ _ h.data
 subst hv
 have cS:w.cell? ⟨b,44,none⟩=some (.slice (some ⟨sb,0,none⟩) m.nslots m.nslots):=h.cells 44 dC dC
 have HH:Hid (RefAt B b mb m vE vA (.slice (some ⟨sb,0,none⟩) m.nslots m.nslots) vB w):=h
 have HS:Hid (SlotsIn sb m.nslots m.slots w):=hs
 have HP:Hid (∀i,0<=(m.slots i).1/\(m.slots i).1<=4294967295):=hp
 clear h hs hp
 go_enter Tryz.func105,Tryz.ntmps105
 go_wp2
 go_loopw [8] (fun i wr=>∃k:Nat,k<=m.nslots/\i=.int .i64 k/\SlotsIn sb m.nslots (part m.slots a n k) wr/\Touch [sb] w wr) (fun i _=>m.nslots-(intOf i).toNat)
 case atStart=>exact⟨0,Nat.zero_le _,rfl,HS.out.congr (fun i _=>part_0 _ _ _ i),Touch.refl _ _⟩
 case round=>
  obtain⟨k,hk,rfl,hsl,ht⟩:=hrel
  have cSr:wr.cell? ⟨b,44,none⟩=some (.slice (some ⟨sb,0,none⟩) m.nslots m.nslots):=(ht.cell (p:=⟨b,44,none⟩) lb (by simpa using n1)).trans cS
  have HT:Hid (Touch [sb] w wr):=ht
  have HL:Hid (SlotsIn sb m.nslots (part m.slots a n k) wr):=hsl
  by_cases hlt:k<m.nslots
  ·have q0:=(HP.out k).1
   have q1:=(HP.out k).2
   have cp:wr.cell? ⟨sb,k*2,none⟩=some (.int .u32 (m.slots k).1):=by have:=hsl.pcs k hlt;rwa [part_at]at this
   have cl:wr.cell? ⟨sb,k*2+1,none⟩=some (.int .i64 (m.slots k).2):=by have:=hsl.lens k hlt;rwa [part_at]at this
   have f1:=hsl.free (k*2)
   have f2:=hsl.free (k*2+1)
   clear hsl ht
   by_cases y1:a/64<=(m.slots k).1/64
   ·by_cases y2:(m.slots k).1/64<=(a+n-1)/64
    ·have HN:Hid (SlotsIn sb m.nslots (part m.slots a n (k+1)) ((wr.setCell ⟨sb,k*2,none⟩ (.int .u32 0)).setCell ⟨sb,k*2+1,none⟩ (.int .i64 0))):=(HL.out.upd hlt 0 0).congr (fun i _=>part_step _ _ _ _ _ (hit_y _ _ _ y1 y2))
     go_wp2
     go_roundw
     case rel=>exact⟨k+1,by omega,by go_num,HN.out,(HT.out.setCell sP _).setCell sP _⟩
     case measure=>simp[intOf];omega
    ·have HN:Hid (SlotsIn sb m.nslots (part m.slots a n (k+1)) wr):=HL.out.congr (fun i _=>part_skip _ _ _ _ _ (hit_n _ _ _ (fun hc=>y2 hc.2)))
     have y3:(a+n-1)/64<(m.slots k).1/64:=by omega
     exact X26
   ·have HN:Hid (SlotsIn sb m.nslots (part m.slots a n (k+1)) wr):=HL.out.congr (fun i _=>part_skip _ _ _ _ _ (hit_n _ _ _ (fun hc=>y1 hc.1)))
    have y3:(m.slots k).1/64<a/64:=by omega
    exact X26
  ·have hr:=HH.out.other ht (by simpa using n1) (by simpa using n2) hz
   have HF:Hid (SlotsIn sb m.nslots (wrote m a n).slots wr):=hsl.congr (fun i hi=>by rw[part_all _ _ _ _ _ oM];unfold wrote;rw[if_neg oM])
   have c47:wr.cell? ⟨b,47,none⟩=some (.int .u32 m.cur.1):=hr.cells 47 dC dC
   have c48:wr.cell? ⟨b,48,none⟩=some (.int .i64 m.cur.2):=hr.cells 48 dC dC
   have f47:=hr.free 47
   have f48:=hr.free 48
   clear hsl ht
   by_cases y:a/64<=m.cur.1/64/\m.cur.1/64<=(a+n-1)/64
   ·obtain⟨y1,y2⟩:=y
    have HR:Hid (RefAt B b mb (wrote m a n) vE vA (.slice (some ⟨sb,0,none⟩) m.nslots m.nslots) vB ((wr.setCell ⟨b,47,none⟩ (.int .u32 0)).setCell ⟨b,48,none⟩ (.int .i64 0))):=at_wrote B b mb m _ _ _ _ _ a n w0 (by rw[if_pos (hit_y _ _ _ y1 y2)];exact at_cur hr)
    have HF2:Hid (SlotsIn sb m.nslots (wrote m a n).slots ((wr.setCell ⟨b,47,none⟩ (.int .u32 0)).setCell ⟨b,48,none⟩ (.int .i64 0))):=HF.out.other hn0 ((Touch.refl [b] wr).setCell sP _ |>.setCell sP _) (by simpa using(fun e=>n1 e.symm:¬sb=b))
    clear hr
    go_wp2
    go_end0
    refine⟨rfl,HR.out,HF2.out, ?_⟩
    exact(((HT.out.mono sP).setCell sP _).setCell sP _)
   ·have HR:Hid (RefAt B b mb (wrote m a n) vE vA (.slice (some ⟨sb,0,none⟩) m.nslots m.nslots) vB wr):=at_wrote B b mb m _ _ _ _ _ a n w0 (by rw[if_neg (by rw[hit_n _ _ _ y];decide)];exact hr)
    clear hr
    by_cases y1:a/64<=m.cur.1/64
    ·have y3:(a+n-1)/64<m.cur.1/64:=by omega
     clear y
     go_wp2
     go_end0
     exact⟨rfl,HR.out,HF.out,HT.out.mono sP⟩
    ·have y3:m.cur.1/64<a/64:=by omega
     clear y
     go_wp2
     go_end0
     exact⟨rfl,HR.out,HF.out,HT.out.mono sP⟩
theorem wrote_0{B b mb:Nat}{m:M}{vE vA vS vB:Value}{w:World}(h:RefAt B b mb m vE vA vS vB w)(a:Int):
  Calls Tryz.prog 105 #[.pointer (some ⟨b,0,none⟩),.int .u32 a,.int .u32 0] w fun e w'=>e=.returned (.tuple #[])/\w'=w:=by
 clear h
 go_enter Tryz.func105,Tryz.ntmps105
 go_wp2
 refine bodyPost_ret (results_none rfl _ _ _) rfl ?_
 exact⟨rfl,rfl⟩
theorem wrote_nil{B b mb:Nat}{m:M}{vE vA vS vB:Value}{w:World}(h:RefAt B b mb m vE vA vS vB w)(hv:vS=.slice none 0 0)(hc0:0<=m.cur.1)(hc1:m.cur.1<=4294967295)(a n:Int)(a0:0<=a)(w0:1<=n)(an:a+n<=512):
  Calls Tryz.prog 105 #[.pointer (some ⟨b,0,none⟩),.int .u32 a,.int .u32 n] w fun e w'=>e=.returned (.tuple #[])/\RefAt B b mb (wrote m a n) vE vA vS vB w'/\Touch [b] w w':=by
 subst hv
 have cS:w.cell? ⟨b,44,none⟩=some (.slice none 0 0):=h.cells 44 dC dC
 have c47:w.cell? ⟨b,47,none⟩=some (.int .u32 m.cur.1):=h.cells 47 dC dC
 have c48:w.cell? ⟨b,48,none⟩=some (.int .i64 m.cur.2):=h.cells 48 dC dC
 have f47:=h.free 47
 have f48:=h.free 48
 by_cases y:a/64<=m.cur.1/64/\m.cur.1/64<=(a+n-1)/64
 ·obtain⟨y1,y2⟩:=y
  have HR:Hid (RefAt B b mb (wrote m a n) vE vA (.slice none 0 0) vB ((w.setCell ⟨b,47,none⟩ (.int .u32 0)).setCell ⟨b,48,none⟩ (.int .i64 0))):=at_wrote B b mb m _ _ _ _ _ a n w0 (by rw[if_pos (hit_y _ _ _ y1 y2)];exact at_cur h)
  clear h
  go_enter Tryz.func105,Tryz.ntmps105
  go_wp2
  go_rounds 1
  go_end0
  refine⟨rfl,HR.out, ?_⟩
  exact X20
 ·have HR:Hid (RefAt B b mb (wrote m a n) vE vA (.slice none 0 0) vB w):=at_wrote B b mb m _ _ _ _ _ a n w0 (by rw[if_neg (by rw[hit_n _ _ _ y];decide)];exact h)
  clear h
  by_cases y1:a/64<=m.cur.1/64
  ·have y3:(a+n-1)/64<m.cur.1/64:=by omega
   clear y
   exact X28
  ·have y3:m.cur.1/64<a/64:=by omega
   clear y
   exact X28
def sblk:Value->List Nat
 | .slice (some a) _ _=>[a.block]
 |_=>[]
def SlotsAt (b mb:Nat) (m:M) (vS:Value) (w:World):Prop:=
 (m.nslots=0/\vS=.slice none 0 0)\/(0<m.nslots/\m.nslots<=64/\(∀i,0<=(m.slots i).1/\(m.slots i).1<=4294967295)/\∃sb,vS=.slice (some ⟨sb,0,none⟩) m.nslots m.nslots/\b≠sb/\mb≠sb/\SlotsIn sb m.nslots m.slots w)
theorem SlotsAt.other {b mb:Nat}{m m':M}{vS:Value}{w w':World}(h:SlotsAt b mb m vS w)(t:Touch [b,mb] w w')(e1:m'.nslots=m.nslots)(e2:m'.slots=m.slots):SlotsAt b mb m' vS w':=by
 rcases h with⟨h1,h2⟩|⟨h1,h2,h3,sb,h4,h5,h6,h7⟩
 ·exact Or.inl ⟨e1.trans h1,h2⟩
 ·refine Or.inr ⟨by omega,by omega,by rw[e2];exact h3,sb,by rw[e1];exact h4,h5,h6, ?_⟩
  rw[e1,e2]
  exact h7.other h1 t (by simp;exact⟨fun e=>h5 e.symm,fun e=>h6 e.symm⟩)
theorem wrote_slots(m:M)(a n:Int)(h:∀i,0<=(m.slots i).1/\(m.slots i).1<=4294967295):∀i,0<=((wrote m a n).slots i).1/\((wrote m a n).slots i).1<=4294967295:=by
 intro i
 unfold wrote
 by_cases e:n=0
 ·rw[if_pos e];exact h i
 ·rw[if_neg e]
  show 0<=(if hit (m.slots i) a n=true then((0:Int),(0:Int))else m.slots i).1/\(if hit (m.slots i) a n=true then((0:Int),(0:Int))else m.slots i).1<=4294967295
  by_cases k:hit (m.slots i) a n=true
  ·rw[if_pos k];exact⟨by decide,by decide⟩
  ·rw[if_neg k];exact h i
theorem wrote_ns(m:M)(a n:Int):(wrote m a n).nslots=m.nslots:=by unfold wrote;by_cases e:n=0<;>simp[e]
theorem wrote_any{B b mb:Nat}{m:M}{vE vA vS vB:Value}{w:World}(h:RefAt B b mb m vE vA vS vB w)(hs:SlotsAt b mb m vS w)(hz:0<m.size)(hc0:0<=m.cur.1)(hc1:m.cur.1<=4294967295)(a n:Int)(a0:0<=a)(w0:0<=n)(an:a+n<=512):
  Calls Tryz.prog 105 #[.pointer (some ⟨b,0,none⟩),.int .u32 a,.int .u32 n] w fun e w'=>e=.returned (.tuple #[])/\RefAt B b mb (wrote m a n) vE vA vS vB w'/\SlotsAt b mb (wrote m a n) vS w'/\Touch (b::sblk vS) w w':=by
 by_cases n0:n=0
 ·subst n0
  refine(wrote_0 h a).mono ?_
  rintro e w' ⟨rfl,rfl⟩
  exact⟨rfl,h,hs,Touch.refl _ _⟩
 ·rcases hs with⟨h1,h2⟩|⟨h1,h2,h3,sb,h4,h5,h6,h7⟩
  ·refine(wrote_nil h h2 hc0 hc1 a n a0 oM an).mono ?_
   rintro e w' ⟨rfl,g1,g2⟩
   exact⟨rfl,g1,Or.inl ⟨(wrote_ns m a n).trans h1,h2⟩,g2.mono sP⟩
  ·refine(wrote_in h sb h4 h7 h5 h6 hz h2 h1 h3 hc0 hc1 a n a0 oM an).mono ?_
   rintro e w' ⟨rfl,g1,g2,g3⟩
   refine⟨rfl,g1,Or.inr ⟨by rw[wrote_ns];exact h1,by rw[wrote_ns];exact h2,wrote_slots m a n h3,sb,by rw[wrote_ns];exact h4,h5,h6,by rw[wrote_ns];exact g2⟩, ?_⟩
   rw[h4];exact g3
end ref
namespace ref
open ChangeShapes WideShapes ChangeAt RowKit nums dnums mach
theorem RefAt.byte {B b mb:Nat}{m:M}{vE vA vS vB:Value}{w:World}(h:RefAt B b mb m vE vA vS vB w)(i:Nat)(hi:i<m.size)(v:Int):
  RefAt B b mb {m with mem:=fun j=>if j=i then v else m.mem j } vE vA vS vB (w.setCell ⟨mb,i,none⟩ (Value.int .u8 v)):=by
 have ne:=h.ne
 refine⟨h.hb,h.hmb,h.ne,fun k hk h39=> ?_, ?_,fun k=> ?_,fun k hk=> ?_,fun k=> ?_⟩
 ·rw[World.cell?_setCell_other _ _ _ _ X2c];exact h.cells k hk h39
 ·rw[World.cell?_setCell_other _ _ _ _ X2c];exact h.data
 ·rw[World.frozen?_setCell];exact h.free k
 ·by_cases e:k=i
  ·subst e
   rw[World.cell?_setCell_same _ _ _ (h.bytes k hk)];simp
  ·rw[World.cell?_setCell_other _ _ _ _ (by intro x;injection x with _ x;omega)]
   show _=some (Value.int .u8 (if k=i then v else m.mem k))
   rw[if_neg e];exact h.bytes k hk
 ·rw[World.frozen?_setCell];exact h.freem k
theorem RefAt.memEq {B b mb:Nat}{m:M}{vE vA vS vB:Value}{w:World}{f g:Nat->Int}(h:RefAt B b mb {m with mem:=f } vE vA vS vB w)(e:f=g):RefAt B b mb {m with mem:=g } vE vA vS vB w:=e ▸ h
theorem st_1(mem:Nat->Int)(a:Nat)(v:Int):(fun j=>if j=a then v%256 else mem j)=st mem a 1 v:=by
 funext j;unfold st
 exact X27
theorem st_2(mem:Nat->Int)(a:Nat)(v:Int):(fun j=>if j=a+1 then v/256%256 else if j=a then v%256 else mem j)=st mem a 2 v:=by
 funext j;unfold st
 by_cases e1:j=a+1
 ·subst e1;rw[if_pos rfl,if_pos oM];simp
 ·rw[if_neg e1]
  exact X27
theorem st_4(mem:Nat->Int)(a:Nat)(v:Int)(v0:0<=v)(v1:v<=4294967295):(fun j=>if j=a+3 then v/16777216 else if j=a+2 then v/65536%256 else if j=a+1 then v/256%256 else if j=a then v%256 else mem j)=st mem a 4 v:=by
 funext j;unfold st
 by_cases e3:j=a+3
 ·subst e3;rw[if_pos rfl,if_pos oM,show a+3-a=3 by omega];simp;omega
 ·rw[if_neg e3]
  by_cases e2:j=a+2
  ·subst e2;rw[if_pos rfl,if_pos oM,show a+2-a=2 by omega];simp
  ·rw[if_neg e2]
   by_cases e1:j=a+1
   ·subst e1;rw[if_pos rfl,if_pos oM,show a+1-a=1 by omega];simp
   ·rw[if_neg e1]
    exact X27
def sx8 (v:Int):Int:=if 128<=v then v-256 else v
theorem sg_8(v:Int)(h0:0<=v)(h1:v<256)(w:World):
  Calls Tryz.prog 60 #[.int .u32 v,.int .i64 8] w fun e w'=>e=.returned (.int .i32 (sx8 v))/\w'=w:=by
 have hb:bits BinOp.and IntKind.u32 (v/128) 1=v/128%2:=and_mask _ 1 1 oM oM dC dC
 by_cases hv:128<=v
 ·have HS:Hid (sx8 v=v-256):=if_pos hv
  have HO:Hid (bits BinOp.or IntKind.u32 4294967040 v=4294967040+v):=or_add 4294967040 v 8 dC dC h0 h1 dC dC
  have hr:bits BinOp.and IntKind.u32 (v/128) 1=1:=hb.trans oM
  clear hb
  exact X25
 ·have HS:Hid (sx8 v=v):=if_neg hv
  have hr:bits BinOp.and IntKind.u32 (v/128) 1=0:=hb.trans oM
  clear hb
  exact X2a
def sx16 (v:Int):Int:=if 32768<=v then v-65536 else v
theorem sg_16(v:Int)(h0:0<=v)(h1:v<65536)(w:World):
  Calls Tryz.prog 60 #[.int .u32 v,.int .i64 16] w fun e w'=>e=.returned (.int .i32 (sx16 v))/\w'=w:=by
 have hb:bits BinOp.and IntKind.u32 (v/32768) 1=v/32768%2:=and_mask _ 1 1 oM oM dC dC
 by_cases hv:32768<=v
 ·have HS:Hid (sx16 v=v-65536):=if_pos hv
  have HO:Hid (bits BinOp.or IntKind.u32 4294901760 v=4294901760+v):=or_add 4294901760 v 16 dC dC h0 h1 dC dC
  have hr:bits BinOp.and IntKind.u32 (v/32768) 1=1:=hb.trans oM
  clear hb
  exact X25
 ·have HS:Hid (sx16 v=v):=if_neg hv
  have hr:bits BinOp.and IntKind.u32 (v/32768) 1=0:=hb.trans oM
  clear hb
  exact X2a
theorem mpre{B b mb:Nat}{m:M}{vE vA vS vB:Value}{w:World}(h:RefAt B b mb m vE vA vS vB w)(hs:SlotsAt b mb m vS w)(hz:0<m.size)(op rd q1 q2 im:Int):
  Hid (Touch [] w ((w.alloc (.cells #[.int .i64 op,.int .i64 rd,.int .i64 q1,.int .i64 q2,.int .i32 im] 61)).alloc (.cells #[.int .u32 1,.int .u32 2,.int .u32 4,.int .u32 1,.int .u32 2,.int .u32 1,.int .u32 2,.int .u32 4] 22)))/\Hid (RefAt B b mb m vE vA vS vB ((w.alloc (.cells #[.int .i64 op,.int .i64 rd,.int .i64 q1,.int .i64 q2,.int .i32 im] 61)).alloc (.cells #[.int .u32 1,.int .u32 2,.int .u32 4,.int .u32 1,.int .u32 2,.int .u32 1,.int .u32 2,.int .u32 4] 22)))/\Hid (SlotsAt b mb m vS ((w.alloc (.cells #[.int .i64 op,.int .i64 rd,.int .i64 q1,.int .i64 q2,.int .i32 im] 61)).alloc (.cells #[.int .u32 1,.int .u32 2,.int .u32 4,.int .u32 1,.int .u32 2,.int .u32 1,.int .u32 2,.int .u32 4] 22))):=by
 have HT:Hid (Touch [] w ((w.alloc (.cells #[.int .i64 op,.int .i64 rd,.int .i64 q1,.int .i64 q2,.int .i32 im] 61)).alloc (.cells #[.int .u32 1,.int .u32 2,.int .u32 4,.int .u32 1,.int .u32 2,.int .u32 1,.int .u32 2,.int .u32 4] 22))):=((Touch.refl _ _).alloc _).alloc _
 have HW:Hid (RefAt B b mb m vE vA vS vB ((w.alloc (.cells #[.int .i64 op,.int .i64 rd,.int .i64 q1,.int .i64 q2,.int .i32 im] 61)).alloc (.cells #[.int .u32 1,.int .u32 2,.int .u32 4,.int .u32 1,.int .u32 2,.int .u32 1,.int .u32 2,.int .u32 4] 22))):=h.other HT.out sP sP hz
 have HS:Hid (SlotsAt b mb m vS ((w.alloc (.cells #[.int .i64 op,.int .i64 rd,.int .i64 q1,.int .i64 q2,.int .i32 im] 61)).alloc (.cells #[.int .u32 1,.int .u32 2,.int .u32 4,.int .u32 1,.int .u32 2,.int .u32 1,.int .u32 2,.int .u32 4] 22))):=hs.other (HT.out.mono sP) rfl rfl
 exact⟨HT,HW,HS⟩
theorem mlie10{B b mb:Nat}{m:M}{vE vA vS vB:Value}{w:World}(h:RefAt B b mb m vE vA vS vB w)(hs:SlotsAt b mb m vS w)(hz:0<m.size)(hz2:m.size<=512)(hc0:0<=m.cur.1)(hc1:m.cur.1<=4294967295)(hm:∀i,0<=m.mem i/\m.mem i<=255)(rd q1 q2 im:Int)(rd0:0<=rd)(rd1:rd<=31)(a v:Int)(a0:0<=a)(a1:a<=4294967295)(v0:0<=v)(v1:v<=4294967295)(hl:lies m a 1=false):
  Calls Tryz.prog 82 #[.pointer (some ⟨b,0,none⟩),.agg #[.int .i64 10,.int .i64 rd,.int .i64 q1,.int .i64 q2,.int .i32 im],.int .u32 a,.int .u32 v] w fun e w'=>e=.returned (.bool false)/\RefAt B b mb (stop m 6) vE vA vS vB w'/\Touch [b] w w':=by
 obtain⟨HT,HW,HS⟩:=mpre h hs hz 10 rd q1 q2 im
 clear h hs hm
 exact X21
theorem mal11{B b mb:Nat}{m:M}{vE vA vS vB:Value}{w:World}(h:RefAt B b mb m vE vA vS vB w)(hs:SlotsAt b mb m vS w)(hz:0<m.size)(hz2:m.size<=512)(hc0:0<=m.cur.1)(hc1:m.cur.1<=4294967295)(hm:∀i,0<=m.mem i/\m.mem i<=255)(rd q1 q2 im:Int)(rd0:0<=rd)(rd1:rd<=31)(a v:Int)(a0:0<=a)(a1:a<=4294967295)(v0:0<=v)(v1:v<=4294967295)(hal:¬a%2=0):
  Calls Tryz.prog 82 #[.pointer (some ⟨b,0,none⟩),.agg #[.int .i64 11,.int .i64 rd,.int .i64 q1,.int .i64 q2,.int .i32 im],.int .u32 a,.int .u32 v] w fun e w'=>e=.returned (.bool false)/\RefAt B b mb (stop m 5) vE vA vS vB w'/\Touch [b] w w':=by
 obtain⟨HT,HW,HS⟩:=mpre h hs hz 11 rd q1 q2 im
 clear h hs hm
 exact X22
theorem mlie11{B b mb:Nat}{m:M}{vE vA vS vB:Value}{w:World}(h:RefAt B b mb m vE vA vS vB w)(hs:SlotsAt b mb m vS w)(hz:0<m.size)(hz2:m.size<=512)(hc0:0<=m.cur.1)(hc1:m.cur.1<=4294967295)(hm:∀i,0<=m.mem i/\m.mem i<=255)(rd q1 q2 im:Int)(rd0:0<=rd)(rd1:rd<=31)(a v:Int)(a0:0<=a)(a1:a<=4294967295)(v0:0<=v)(v1:v<=4294967295)(hal:a%2=0)(hl:lies m a 2=false):
  Calls Tryz.prog 82 #[.pointer (some ⟨b,0,none⟩),.agg #[.int .i64 11,.int .i64 rd,.int .i64 q1,.int .i64 q2,.int .i32 im],.int .u32 a,.int .u32 v] w fun e w'=>e=.returned (.bool false)/\RefAt B b mb (stop m 6) vE vA vS vB w'/\Touch [b] w w':=by
 obtain⟨HT,HW,HS⟩:=mpre h hs hz 11 rd q1 q2 im
 clear h hs hm
 exact X23
theorem mal12{B b mb:Nat}{m:M}{vE vA vS vB:Value}{w:World}(h:RefAt B b mb m vE vA vS vB w)(hs:SlotsAt b mb m vS w)(hz:0<m.size)(hz2:m.size<=512)(hc0:0<=m.cur.1)(hc1:m.cur.1<=4294967295)(hm:∀i,0<=m.mem i/\m.mem i<=255)(rd q1 q2 im:Int)(rd0:0<=rd)(rd1:rd<=31)(a v:Int)(a0:0<=a)(a1:a<=4294967295)(v0:0<=v)(v1:v<=4294967295)(hal:¬a%4=0):
  Calls Tryz.prog 82 #[.pointer (some ⟨b,0,none⟩),.agg #[.int .i64 12,.int .i64 rd,.int .i64 q1,.int .i64 q2,.int .i32 im],.int .u32 a,.int .u32 v] w fun e w'=>e=.returned (.bool false)/\RefAt B b mb (stop m 5) vE vA vS vB w'/\Touch [b] w w':=by
 obtain⟨HT,HW,HS⟩:=mpre h hs hz 12 rd q1 q2 im
 clear h hs hm
 go_enter Tryz.func82,Tryz.ntmps82
 go_wp2_with (first|(go_at_call 51;refine(lies_any HW.out a 4 a0 a1 dC dC hz2).mono ?_;rintro e w' ⟨rfl,rfl⟩)|(go_at_call 50;refine(stop_any HW.out 5).mono ?_;rintro e w1 ⟨rfl,hat,hto⟩;have HA:Hid (RefAt B b mb (stop m 5) vE vA vS vB w1):=hat;have HB:Hid (Touch [b] w w1):=(HT.out.mono sP).trans hto;clear hat hto))
 exact X24
theorem mlie12{B b mb:Nat}{m:M}{vE vA vS vB:Value}{w:World}(h:RefAt B b mb m vE vA vS vB w)(hs:SlotsAt b mb m vS w)(hz:0<m.size)(hz2:m.size<=512)(hc0:0<=m.cur.1)(hc1:m.cur.1<=4294967295)(hm:∀i,0<=m.mem i/\m.mem i<=255)(rd q1 q2 im:Int)(rd0:0<=rd)(rd1:rd<=31)(a v:Int)(a0:0<=a)(a1:a<=4294967295)(v0:0<=v)(v1:v<=4294967295)(hal:a%4=0)(hl:lies m a 4=false):
  Calls Tryz.prog 82 #[.pointer (some ⟨b,0,none⟩),.agg #[.int .i64 12,.int .i64 rd,.int .i64 q1,.int .i64 q2,.int .i32 im],.int .u32 a,.int .u32 v] w fun e w'=>e=.returned (.bool false)/\RefAt B b mb (stop m 6) vE vA vS vB w'/\Touch [b] w w':=by
 obtain⟨HT,HW,HS⟩:=mpre h hs hz 12 rd q1 q2 im
 clear h hs hm
 go_enter Tryz.func82,Tryz.ntmps82
 go_wp2_with (first|(go_at_call 51;refine(lies_any HW.out a 4 a0 a1 dC dC hz2).mono ?_;rintro e w' ⟨rfl,rfl⟩)|(go_at_call 50;refine(stop_any HW.out 6).mono ?_;rintro e w1 ⟨rfl,hat,hto⟩;have HA:Hid (RefAt B b mb (stop m 6) vE vA vS vB w1):=hat;have HB:Hid (Touch [b] w w1):=(HT.out.mono sP).trans hto;clear hat hto))
 exact X24
theorem mlie13{B b mb:Nat}{m:M}{vE vA vS vB:Value}{w:World}(h:RefAt B b mb m vE vA vS vB w)(hs:SlotsAt b mb m vS w)(hz:0<m.size)(hz2:m.size<=512)(hc0:0<=m.cur.1)(hc1:m.cur.1<=4294967295)(hm:∀i,0<=m.mem i/\m.mem i<=255)(rd q1 q2 im:Int)(rd0:0<=rd)(rd1:rd<=31)(a v:Int)(a0:0<=a)(a1:a<=4294967295)(v0:0<=v)(v1:v<=4294967295)(hl:lies m a 1=false):
  Calls Tryz.prog 82 #[.pointer (some ⟨b,0,none⟩),.agg #[.int .i64 13,.int .i64 rd,.int .i64 q1,.int .i64 q2,.int .i32 im],.int .u32 a,.int .u32 v] w fun e w'=>e=.returned (.bool false)/\RefAt B b mb (stop m 6) vE vA vS vB w'/\Touch [b] w w':=by
 obtain⟨HT,HW,HS⟩:=mpre h hs hz 13 rd q1 q2 im
 clear h hs hm
 exact X21
theorem mal14{B b mb:Nat}{m:M}{vE vA vS vB:Value}{w:World}(h:RefAt B b mb m vE vA vS vB w)(hs:SlotsAt b mb m vS w)(hz:0<m.size)(hz2:m.size<=512)(hc0:0<=m.cur.1)(hc1:m.cur.1<=4294967295)(hm:∀i,0<=m.mem i/\m.mem i<=255)(rd q1 q2 im:Int)(rd0:0<=rd)(rd1:rd<=31)(a v:Int)(a0:0<=a)(a1:a<=4294967295)(v0:0<=v)(v1:v<=4294967295)(hal:¬a%2=0):
  Calls Tryz.prog 82 #[.pointer (some ⟨b,0,none⟩),.agg #[.int .i64 14,.int .i64 rd,.int .i64 q1,.int .i64 q2,.int .i32 im],.int .u32 a,.int .u32 v] w fun e w'=>e=.returned (.bool false)/\RefAt B b mb (stop m 5) vE vA vS vB w'/\Touch [b] w w':=by
 obtain⟨HT,HW,HS⟩:=mpre h hs hz 14 rd q1 q2 im
 clear h hs hm
 exact X22
theorem mlie14{B b mb:Nat}{m:M}{vE vA vS vB:Value}{w:World}(h:RefAt B b mb m vE vA vS vB w)(hs:SlotsAt b mb m vS w)(hz:0<m.size)(hz2:m.size<=512)(hc0:0<=m.cur.1)(hc1:m.cur.1<=4294967295)(hm:∀i,0<=m.mem i/\m.mem i<=255)(rd q1 q2 im:Int)(rd0:0<=rd)(rd1:rd<=31)(a v:Int)(a0:0<=a)(a1:a<=4294967295)(v0:0<=v)(v1:v<=4294967295)(hal:a%2=0)(hl:lies m a 2=false):
  Calls Tryz.prog 82 #[.pointer (some ⟨b,0,none⟩),.agg #[.int .i64 14,.int .i64 rd,.int .i64 q1,.int .i64 q2,.int .i32 im],.int .u32 a,.int .u32 v] w fun e w'=>e=.returned (.bool false)/\RefAt B b mb (stop m 6) vE vA vS vB w'/\Touch [b] w w':=by
 obtain⟨HT,HW,HS⟩:=mpre h hs hz 14 rd q1 q2 im
 clear h hs hm
 exact X23
theorem mlie15{B b mb:Nat}{m:M}{vE vA vS vB:Value}{w:World}(h:RefAt B b mb m vE vA vS vB w)(hs:SlotsAt b mb m vS w)(hz:0<m.size)(hz2:m.size<=512)(hc0:0<=m.cur.1)(hc1:m.cur.1<=4294967295)(hm:∀i,0<=m.mem i/\m.mem i<=255)(rd q1 q2 im:Int)(rd0:0<=rd)(rd1:rd<=31)(a v:Int)(a0:0<=a)(a1:a<=4294967295)(v0:0<=v)(v1:v<=4294967295)(hl:lies m a 1=false):
  Calls Tryz.prog 82 #[.pointer (some ⟨b,0,none⟩),.agg #[.int .i64 15,.int .i64 rd,.int .i64 q1,.int .i64 q2,.int .i32 im],.int .u32 a,.int .u32 v] w fun e w'=>e=.returned (.bool false)/\RefAt B b mb (stop m 8) vE vA vS vB w'/\Touch [b] w w':=by
 obtain⟨HT,HW,HS⟩:=mpre h hs hz 15 rd q1 q2 im
 clear h hs hm
 go_enter Tryz.func82,Tryz.ntmps82
 go_wp2_with (first|(go_at_call 51;refine(lies_any HW.out a 1 a0 a1 dC dC hz2).mono ?_;rintro e w' ⟨rfl,rfl⟩)|(go_at_call 50;refine(stop_any HW.out 8).mono ?_;rintro e w1 ⟨rfl,hat,hto⟩;have HA:Hid (RefAt B b mb (stop m 8) vE vA vS vB w1):=hat;have HB:Hid (Touch [b] w w1):=(HT.out.mono sP).trans hto;clear hat hto))
 exact X24
theorem mal16{B b mb:Nat}{m:M}{vE vA vS vB:Value}{w:World}(h:RefAt B b mb m vE vA vS vB w)(hs:SlotsAt b mb m vS w)(hz:0<m.size)(hz2:m.size<=512)(hc0:0<=m.cur.1)(hc1:m.cur.1<=4294967295)(hm:∀i,0<=m.mem i/\m.mem i<=255)(rd q1 q2 im:Int)(rd0:0<=rd)(rd1:rd<=31)(a v:Int)(a0:0<=a)(a1:a<=4294967295)(v0:0<=v)(v1:v<=4294967295)(hal:¬a%2=0):
  Calls Tryz.prog 82 #[.pointer (some ⟨b,0,none⟩),.agg #[.int .i64 16,.int .i64 rd,.int .i64 q1,.int .i64 q2,.int .i32 im],.int .u32 a,.int .u32 v] w fun e w'=>e=.returned (.bool false)/\RefAt B b mb (stop m 7) vE vA vS vB w'/\Touch [b] w w':=by
 obtain⟨HT,HW,HS⟩:=mpre h hs hz 16 rd q1 q2 im
 clear h hs hm
 go_enter Tryz.func82,Tryz.ntmps82
 go_wp2_with (first|(go_at_call 51;refine(lies_any HW.out a 2 a0 a1 dC dC hz2).mono ?_;rintro e w' ⟨rfl,rfl⟩)|(go_at_call 50;refine(stop_any HW.out 7).mono ?_;rintro e w1 ⟨rfl,hat,hto⟩;have HA:Hid (RefAt B b mb (stop m 7) vE vA vS vB w1):=hat;have HB:Hid (Touch [b] w w1):=(HT.out.mono sP).trans hto;clear hat hto))
 exact X24
theorem mlie16{B b mb:Nat}{m:M}{vE vA vS vB:Value}{w:World}(h:RefAt B b mb m vE vA vS vB w)(hs:SlotsAt b mb m vS w)(hz:0<m.size)(hz2:m.size<=512)(hc0:0<=m.cur.1)(hc1:m.cur.1<=4294967295)(hm:∀i,0<=m.mem i/\m.mem i<=255)(rd q1 q2 im:Int)(rd0:0<=rd)(rd1:rd<=31)(a v:Int)(a0:0<=a)(a1:a<=4294967295)(v0:0<=v)(v1:v<=4294967295)(hal:a%2=0)(hl:lies m a 2=false):
  Calls Tryz.prog 82 #[.pointer (some ⟨b,0,none⟩),.agg #[.int .i64 16,.int .i64 rd,.int .i64 q1,.int .i64 q2,.int .i32 im],.int .u32 a,.int .u32 v] w fun e w'=>e=.returned (.bool false)/\RefAt B b mb (stop m 8) vE vA vS vB w'/\Touch [b] w w':=by
 obtain⟨HT,HW,HS⟩:=mpre h hs hz 16 rd q1 q2 im
 clear h hs hm
 go_enter Tryz.func82,Tryz.ntmps82
 go_wp2_with (first|(go_at_call 51;refine(lies_any HW.out a 2 a0 a1 dC dC hz2).mono ?_;rintro e w' ⟨rfl,rfl⟩)|(go_at_call 50;refine(stop_any HW.out 8).mono ?_;rintro e w1 ⟨rfl,hat,hto⟩;have HA:Hid (RefAt B b mb (stop m 8) vE vA vS vB w1):=hat;have HB:Hid (Touch [b] w w1):=(HT.out.mono sP).trans hto;clear hat hto))
 exact X24
theorem mal17{B b mb:Nat}{m:M}{vE vA vS vB:Value}{w:World}(h:RefAt B b mb m vE vA vS vB w)(hs:SlotsAt b mb m vS w)(hz:0<m.size)(hz2:m.size<=512)(hc0:0<=m.cur.1)(hc1:m.cur.1<=4294967295)(hm:∀i,0<=m.mem i/\m.mem i<=255)(rd q1 q2 im:Int)(rd0:0<=rd)(rd1:rd<=31)(a v:Int)(a0:0<=a)(a1:a<=4294967295)(v0:0<=v)(v1:v<=4294967295)(hal:¬a%4=0):
  Calls Tryz.prog 82 #[.pointer (some ⟨b,0,none⟩),.agg #[.int .i64 17,.int .i64 rd,.int .i64 q1,.int .i64 q2,.int .i32 im],.int .u32 a,.int .u32 v] w fun e w'=>e=.returned (.bool false)/\RefAt B b mb (stop m 7) vE vA vS vB w'/\Touch [b] w w':=by
 obtain⟨HT,HW,HS⟩:=mpre h hs hz 17 rd q1 q2 im
 clear h hs hm
 go_enter Tryz.func82,Tryz.ntmps82
 go_wp2_with (first|(go_at_call 51;refine(lies_any HW.out a 4 a0 a1 dC dC hz2).mono ?_;rintro e w' ⟨rfl,rfl⟩)|(go_at_call 50;refine(stop_any HW.out 7).mono ?_;rintro e w1 ⟨rfl,hat,hto⟩;have HA:Hid (RefAt B b mb (stop m 7) vE vA vS vB w1):=hat;have HB:Hid (Touch [b] w w1):=(HT.out.mono sP).trans hto;clear hat hto))
 exact X24
theorem mlie17{B b mb:Nat}{m:M}{vE vA vS vB:Value}{w:World}(h:RefAt B b mb m vE vA vS vB w)(hs:SlotsAt b mb m vS w)(hz:0<m.size)(hz2:m.size<=512)(hc0:0<=m.cur.1)(hc1:m.cur.1<=4294967295)(hm:∀i,0<=m.mem i/\m.mem i<=255)(rd q1 q2 im:Int)(rd0:0<=rd)(rd1:rd<=31)(a v:Int)(a0:0<=a)(a1:a<=4294967295)(v0:0<=v)(v1:v<=4294967295)(hal:a%4=0)(hl:lies m a 4=false):
  Calls Tryz.prog 82 #[.pointer (some ⟨b,0,none⟩),.agg #[.int .i64 17,.int .i64 rd,.int .i64 q1,.int .i64 q2,.int .i32 im],.int .u32 a,.int .u32 v] w fun e w'=>e=.returned (.bool false)/\RefAt B b mb (stop m 8) vE vA vS vB w'/\Touch [b] w w':=by
 obtain⟨HT,HW,HS⟩:=mpre h hs hz 17 rd q1 q2 im
 clear h hs hm
 go_enter Tryz.func82,Tryz.ntmps82
 go_wp2_with (first|(go_at_call 51;refine(lies_any HW.out a 4 a0 a1 dC dC hz2).mono ?_;rintro e w' ⟨rfl,rfl⟩)|(go_at_call 50;refine(stop_any HW.out 8).mono ?_;rintro e w1 ⟨rfl,hat,hto⟩;have HA:Hid (RefAt B b mb (stop m 8) vE vA vS vB w1):=hat;have HB:Hid (Touch [b] w w1):=(HT.out.mono sP).trans hto;clear hat hto))
 exact X24
end ref
end Go.Proofs.YtjikimpejlmdiaaGreatDoor
